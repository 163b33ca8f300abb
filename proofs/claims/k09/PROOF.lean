import PyProof.Rows.All
import Wide.All
import OpenK.AllK
import Wide.FinOn
import HandS.ForMost
import HandS.Exc
import HandS.TryOnly
import HandS.ExcInit
import HandS.IsInst
import HandS.Style
import HandS.Wide
import HandS.Deep
import HandS.Walk
import HandS.ExcField
import HandS.WordsExc
import HandS.Flow
import KE.GoesEnum
import PyProof.ReprRoads
import HandS.ExcOwn
import HandS.List
import HandS.OwnEq
import PyProof.InstNe
import PyProof.EqKinds
import KE.KExcIs
import HandS.Strs
import HandS.TupLe
import HandS.Base
import HandS.Call
import HandS.SetTxt0
import HandS.SetFor
import HandS.TupSets
import PyProof.Rows.SortStr
import HandS.Words
import HandS.Defaults
import HandS.Star
import HandS.TupAny
import PyProof.ReprLen
import PyProof.Rows.StrJoinMade
import PyProof.MeetsIn
import PyProof.Rows.Range3
import PyProof.CallStr
import PySem.Challenge.RW_asksmore_k09_limits_and_answers
set_option Elab.async false
set_option linter.all false
set_option maxRecDepth 100000
set_option maxHeartbeats 4000000
namespace Ask
open PySem L2
def top (i : Nat) : Stmt := PySem.Challenge.pw_asksmore_k09_limits_and_answers.main.body.getD i (.Pass ⟨0, 0, 0, 0⟩)
/-- the built-in names that the text calls -/
structure Blt (mg : Str → Option Value) : Prop where
  n_int : mg "int" = none
  n_len : mg "len" = none
  n_abs : mg "abs" = none
  n_list : mg "list" = none
  n_range : mg "range" = none
  n_min : mg "min" = none
  n_str : mg "str" = none
  n_isinstance : mg "isinstance" = none
  n_all : mg "all" = none
  n_enumerate : mg "enumerate" = none
  n_tuple : mg "tuple" = none
  n_repr : mg "repr" = none
/-- all but what stands at p is as it was -/
def Kp (p : Addr) (H H' : Hp) : Prop := ∀ b o, b ≠ p → H b = some o → H' b = some o
theorem Kp.refl (p : Addr) (H : Hp) : Kp p H H := fun _ _ _ h => h
theorem Kp.trans {p : Addr} {H H1 H2 : Hp} (a : Kp p H H1) (b : Kp p H1 H2) : Kp p H H2 := fun c o n h => b c o n (a c o n h)
theorem Kp.upd (p : Addr) (H : Hp) (o : HO) : Kp p H (upd H p o) := fun b u n h => by rw [upd_ne n]; exact h
theorem Kp.of {p : Addr} {H H' : Hp} (s : Same H H') : Kp p H H' := fun b o _ h => s b o h
theorem Kp.new {p q : Addr} {H H' : Hp} {o : HO} (k : Kp p H H') (h : H' q = none) : Kp p H (L2.upd H' q o) := fun b u n e => by
  rw [upd_ne (ne_of_none (k b u n e) h)]
  exact k b u n e
theorem kLC : ¬ ((Sum.inr ("left" : Str) : Key) = Sum.inr ("cells" : Str)) := by decide +kernel
theorem kLB : ¬ ((Sum.inr ("left" : Str) : Key) = Sum.inr ("begun" : Str)) := by decide +kernel
theorem kBC : ¬ ((Sum.inr ("begun" : Str) : Key) = Sum.inr ("cells" : Str)) := by decide +kernel
/-- what a pen holds -/
def pk (c : Addr) (b l : Int) : List (Key × V) := [(Sum.inr ("cells" : Str), .ref c), (Sum.inr ("begun" : Str), .int b), (Sum.inr ("left" : Str), .int l)]
theorem pk_cells (c : Addr) (b l : Int) : valV (pk c b l) (Sum.inr ("cells" : Str)) = some (.ref c) := valV_pos rfl
theorem pk_begun (c : Addr) (b l : Int) : valV (pk c b l) (Sum.inr ("begun" : Str)) = some (.int b) :=
  (valV_neg (fun z => kBC z.symm)).trans (valV_pos rfl)
theorem pk_left (c : Addr) (b l : Int) : valV (pk c b l) (Sum.inr ("left" : Str)) = some (.int l) :=
  (valV_neg (fun z => kLC z.symm)).trans ((valV_neg (fun z => kLB z.symm)).trans (valV_pos rfl))
theorem pk_putL (c : Addr) (b l m : Int) : putK (pk c b l) (Sum.inr ("left" : Str)) (.int m) = pk c b m := by
  unfold putK pk
  have e : (([(Sum.inr ("cells" : Str), .ref c), (Sum.inr ("begun" : Str), .int b), (Sum.inr ("left" : Str), .int l)] : List (Key × V)).any fun kv => decide (kv.1 = Sum.inr ("left" : Str))) = true := by simp
  rw [if_pos e]
  simp only [List.map_cons, List.map_nil]
  rw [if_neg (fun z => kLC z.symm), if_neg (fun z => kLB z.symm)]
  rfl
theorem pk_putB (c : Addr) (b l m : Int) : putK (pk c b l) (Sum.inr ("begun" : Str)) (.int m) = pk c m l := by
  unfold putK pk
  have e : (([(Sum.inr ("cells" : Str), .ref c), (Sum.inr ("begun" : Str), .int b), (Sum.inr ("left" : Str), .int l)] : List (Key × V)).any fun kv => decide (kv.1 = Sum.inr ("begun" : Str))) = true := by simp
  rw [if_pos e]
  simp only [List.map_cons, List.map_nil]
  rw [if_neg (fun z => kBC z.symm), if_neg kLB]
  rfl
/-- at p a pen over the cells ns at c, of which at most B were begun -/
def Pen (c : Addr) (ns : List Int) (H : Hp) (p : Addr) (B : Nat) : Prop := ∃ (b l : Int), H p = some (.dK (pk c b l)) ∧ H c = some (.lst (ns.map V.int)) ∧ ns.length ≤ 63 ∧ 0 ≤ b ∧ b ≤ (B : Int)
/-- from H0 to H all but the pen stands as it stood, and the pen is a pen -/
structure Go (p c : Addr) (ns : List Int) (H0 H : Hp) (B : Nat) : Prop where
  kp : Kp p H0 H
  pen : Pen c ns H p B
  base : ∃ A, Pen c ns H0 p A
section
variable {p c q a : Addr} {ns : List Int} {H0 H H' : Hp} {A B : Nat} {o : HO} {xs : List V} {K : PySem.W.Frag}
theorem Pen.mono (h : Pen c ns H p A) (le : A ≤ B) : Pen c ns H p B := by
  obtain ⟨b, l, h1, h2, h3, h4, h5⟩ := h
  exact ⟨b, l, h1, h2, h3, h4, by omega⟩
theorem Pen.at (h : Pen c ns H p A) : ∃ o, H p = some o := by
  obtain ⟨b, l, h1, _⟩ := h
  exact ⟨_, h1⟩
theorem Pen.upd (h : Pen c ns H p A) (h1 : q ≠ p) (h2 : q ≠ c) : Pen c ns (L2.upd H q o) p A := by
  obtain ⟨b, l, e1, e2, e3⟩ := h
  exact ⟨b, l, by rw [upd_ne h1.symm]; exact e1, by rw [upd_ne h2.symm]; exact e2, e3⟩
theorem Go.refl (h : Pen c ns H p B) : Go p c ns H H B := ⟨Kp.refl p H, h, B, h⟩
theorem Go.step (g : Go p c ns H0 H A) (g' : Go p c ns H H' B) : Go p c ns H0 H' B := ⟨g.kp.trans g'.kp, g'.pen, g.base⟩
theorem Go.mono (g : Go p c ns H0 H A) (le : A ≤ B) : Go p c ns H0 H B := ⟨g.kp, g.pen.mono le, g.base⟩
/-- fresh later is fresh before -/
theorem Go.free (g : Go p c ns H0 H B) (n : H q = none) : H0 q = none := by
  by_cases e : q = p
  · subst e
    obtain ⟨o, z⟩ := g.pen.at
    rw [z] at n
    cases n
  · cases z : H0 q with
    | none => rfl
    | some o =>
      rw [g.kp q o e z] at n
      cases n
theorem Go.ne (g : Go p c ns H0 H B) (n : H0 q = none) : q ≠ p ∧ q ≠ c := by
  obtain ⟨A, b, l, h1, h2, _⟩ := g.base
  refine ⟨fun e => ?_, fun e => ?_⟩
  · rw [e, h1] at n
    cases n
  · rw [e, h2] at n
    cases n
/-- what H0 did not know may change -/
theorem Go.mut (g : Go p c ns H0 H B) (n : H0 q = none) : Go p c ns H0 (upd H q o) B :=
  ⟨fun b u e z => by
    rw [upd_ne (ne_of_none z n)]
    exact g.kp b u e z, g.pen.upd (g.ne n).1 (g.ne n).2, g.base⟩
theorem Go.new (g : Go p c ns H0 H B) (n : H q = none) : Go p c ns H0 (upd H q o) B := g.mut (g.free n)
theorem Go.same (g : Go p c ns H0 H B) (s : Same H H') : Go p c ns H0 H' B := by
  obtain ⟨b, l, h1, h2, h3⟩ := g.pen
  exact ⟨g.kp.trans (Kp.of s), ⟨b, l, s _ _ h1, s _ _ h2, h3⟩, g.base⟩
theorem Go.at (g : Go p c ns H0 H B) (e : H0 a = some o) (d : ∀ kvs, o ≠ .dK kvs) : H a = some o := by
  obtain ⟨A, b, l, h1, _⟩ := g.base
  exact g.kp _ _ (ne_of e h1 (d _)) e
theorem Go.lst (g : Go p c ns H0 H B) (e : H0 a = some (.lst xs)) : H a = some (.lst xs) := g.at e (by intro _ z; cases z)
theorem Go.tup (g : Go p c ns H0 H B) (e : H0 a = some (.tup xs)) : H a = some (.tup xs) := g.at e (by intro _ z; cases z)
theorem Go.seq (g : Go p c ns H0 H B) (q : SqL K H0 a xs) : SqL K H a xs := by
  rcases q with (q | ⟨o, q⟩) | q
  · exact .inl (.inl (g.lst q))
  · exact .inl (.inr ⟨o, g.at q (by intro _ z; cases z)⟩)
  · exact .inr q
end

/-- x = a if c else b, its two ways met -/
theorem seqIf_cut {t : TT} {ta tb : TE} {g : TG} {u : TS} {D : Ends} {σ : L2.St} {H : Hp} (Pv : V → Hp → Prop) (h : ∀ Q' : VK, (∀ v H', Pv v H' → Q' v H') → tIf t ta tb σ H Q') (hq : ∀ v H', Pv v H' → g v σ H' (u D)) :
    tSeq (tAsg (tIf t ta tb) g) u D σ H := h _ hq
/-- if c: body, the ways past it met -/
theorem seqIfS_cut {c : TT} {t v u : TS} {D : Ends} {σ : L2.St} {H : Hp} (hn : u D σ H) (h : ∀ N : L2.St → Hp → Prop, N σ H → tIfS c t v { D with nx := N } σ H) : tSeq (tIfS c t v) u D σ H := h (u D) hn

/-! ### the draw -/
def spDraw : Sp := fun vs H Q _ => ∃ (p c : Addr) (ns : List Int) (m : Int) (B : Nat), vs = [.ref p, .int m] ∧ Pen c ns H p B ∧ B ≤ 1000000000 ∧ 0 < m ∧ m < 1073741824 ∧
  ∀ (H' : Hp) (r : Int), Go p c ns H H' (B + 1) → 0 ≤ r → r < m → Q (.int r) H'
section
variable {P : Program} {w : World} {K : PySem.W.Frag} {mg : Str → Option Value} {base : Heap}
abbrev s__law_draw : Stmt := top 28
theorem sc__law_draw : FnScope ["_law_pen_here", "_law_many", "_law_digit", "_law_place", "_law_size", "_law_told_here", "_law_blend"] ["_law_pen_here", "_law_many"] (defScope s__law_draw) := ⟨rfl, rfl, rfl, by decide +kernel, rfl, by decide +kernel, by decide +kernel⟩
theorem div_ok {i j : Int} (h : 0 < j) (h2 : j < 1073741824) : CDivW i j := wide_div (b := 30) h (by omega) (by decide) (by decide)
theorem mul_small {i j : Int} (h : -(2 ^ 64) < i ∧ i < 2 ^ 64) : CMul i j := .inl h
theorem ok_draw {f : Addr} {fd : FuncData} (F : Fun K "_law_draw" "_law_draw" s__law_draw f fd) (T : Blt mg) : FnOk P w K mg base CX0 1 f fd ["_law_pen_here", "_law_many"] spDraw := by
  refine F.ok sc__law_draw (fun vs H Q E h => ?_) (fun cdv A outer s H vs Q E hr h => ?_)
  · obtain ⟨p, c, ns, m, B, rfl, _⟩ := h
    rfl
  · obtain ⟨p, c, ns, m, B, rfl, hpen, hB, hm0, hm1, k⟩ := h
    obtain ⟨b, l, hp, hc, hl, hb0, hbB⟩ := id hpen
    have hu := hu_of hr
    refine ⟨_, (pss_cons (ps_if (pt_cmpR op_gt (pe_dget hu (pv 0) pe_str (fun _ _ => rfl)) pe_int (nomark _)) (pss_cons (ps_set (i := 2) sc__law_draw.nd rfl (Or.inl rfl) (pe_op op_mod (pe_callTy call_int1 (by rfl) T.n_int (by decide +kernel) (pa_cons (pe_dget hu (pv 0) pe_str (fun _ _ => rfl)) pa_nil)) (pv 1)))
      (pss_cons (ps_dput hu (pv 0) pe_str (pe_op op_fdivW (pe_dget hu (pv 0) pe_str (fun _ _ => rfl)) (pv 1)) rfl)
      (pss_one (ps_ret (pv 2))))) pss_nil)
      (pss_cons (ps_par (i := 3) (j := 4) rfl sc__law_draw.nd rfl rfl (by decide) rfl rfl (pa_cons (pe_dget hu (pv 0) pe_str (fun _ _ => rfl)) (pa_cons (pe_callB call_len_seq (by rfl) T.n_len (by decide +kernel) (pa_cons (pe_dget hu (pv 0) pe_str (fun _ _ => rfl)) pa_nil)) pa_nil)) (by rfl))
      (pss_cons (ps_dput hu (pv 0) pe_str (pe_op op_add (pv 3) pe_int) rfl)
      (pss_cons (ps_set (i := 5) sc__law_draw.nd rfl (Or.inl rfl) (pe_ifExp (pt_cmpR op_gt (pv 4) pe_int (nomark _)) (pe_ix ix_list (pe_dget hu (pv 0) pe_str (fun _ _ => rfl)) (pe_op op_mod (pe_callTy call_int1 (by rfl) T.n_int (by decide +kernel) (pa_cons (pv 3) pa_nil)) (pv 4)) (fun _ _ => rfl)) (pe_op op_add (pe_op op_mul pe_int (pv 3)) pe_int)))
      (pss_cons (ps_if (PW.pt (pw_and (pt_cmpR op_lt (pv 3) (pv 4) (nomark _)) (pw_and1 (pt_cmpR op_ge (pe_callB call_abs (by rfl) T.n_abs (by decide +kernel) (pa_cons (pv 5) pa_nil)) (pe_op op_pow pe_int pe_int) (nomark _))))) (pss_cons (ps_dput hu (pv 0) pe_str (pe_op op_fdivW (pe_op op_sub (pe_callB call_abs (by rfl) T.n_abs (by decide +kernel) (pa_cons (pv 5) pa_nil)) (pe_op op_pow pe_int pe_int)) (pv 1)) rfl)
      (pss_one (ps_ret (pe_op op_mod (pe_callTy call_int1 (by rfl) T.n_int (by decide +kernel) (pa_cons (pe_op op_sub (pe_callB call_abs (by rfl) T.n_abs (by decide +kernel) (pa_cons (pv 5) pa_nil)) (pe_op op_pow pe_int pe_int)) pa_nil)) (pv 1))))) pss_nil)
      (pss_cons (ps_set (i := 6) sc__law_draw.nd rfl (Or.inl rfl) (pe_op op_mod (pe_callTy call_int1 (by rfl) T.n_int (by decide +kernel) (pa_cons (pe_op op_add (pe_op op_add (pe_op op_mul (pe_op op_mod (pe_callTy call_int1 (by rfl) T.n_int (by decide +kernel) (pa_cons (pv 5) pa_nil)) pe_int) pe_int) (pe_op op_mul (pe_op op_mul pe_int (pv 3)) (pv 3))) pe_int) pa_nil)) pe_int))
      (pss_cons (ps_set (i := 6) sc__law_draw.nd rfl (Or.inl rfl) (pe_op op_mod (pe_callTy call_int1 (by rfl) T.n_int (by decide +kernel) (pa_cons (pe_op op_add (pe_op op_add (pe_op op_add (pe_op op_mul (pv 6) (pv 6)) (pe_op op_mul pe_int (pv 6))) (pe_op op_mul pe_int (pv 3))) pe_int) pa_nil)) pe_int))
      (pss_one (ps_ret (pe_op op_mod (pe_callTy call_int1 (by rfl) T.n_int (by decide +kernel) (pa_cons (pe_op op_fdivW (pe_op op_mod (pe_callTy call_int1 (by rfl) T.n_int (by decide +kernel) (pa_cons (pe_op op_mul (pv 6) (pe_op op_add (pv 6) pe_int)) pa_nil)) pe_int) pe_int) pa_nil)) (pv 1))))))))))), ?_⟩
    have gL : ∀ {H : Hp} {b l : Int}, H p = some (.dK (pk c b l)) → DGet H p (.str "left") (some (.int l)) := fun e => by
      have z := DGet.k (k := Sum.inr ("left" : Str)) e
      rw [pk_left] at z
      exact z
    have gB : ∀ {H : Hp} {b l : Int}, H p = some (.dK (pk c b l)) → DGet H p (.str "begun") (some (.int b)) := fun e => by
      have z := DGet.k (k := Sum.inr ("begun" : Str)) e
      rw [pk_begun] at z
      exact z
    have gC : ∀ {H : Hp} {b l : Int}, H p = some (.dK (pk c b l)) → DGet H p (.str "cells") (some (.ref c)) := fun e => by
      have z := DGet.k (k := Sum.inr ("cells" : Str)) e
      rw [pk_cells] at z
      exact z
    have three : ∀ b l : Int, (pk c b l).length < sizeLine := fun b l => by show 3 < sizeLine; decide
    have pL : ∀ {H : Hp} {b l : Int} (m : Int), H p = some (.dK (pk c b l)) → DPut H p (.str "left") (.int m) (upd H p (.dK (pk c b m))) := fun m e => by
      have z := DPut.k (k := Sum.inr ("left" : Str)) (v := .int m) e (three _ _)
      rw [pk_putL] at z
      exact z
    have pB : ∀ {H : Hp} {b l : Int} (m : Int), H p = some (.dK (pk c b l)) → DPut H p (.str "begun") (.int m) (upd H p (.dK (pk c m l))) := fun m e => by
      have z := DPut.k (k := Sum.inr ("begun" : Str)) (v := .int m) e (three _ _)
      rw [pk_putB] at z
      exact z
    have ncp : c ≠ p := ne_of hc hp (by intro z; cases z)
    -- if pen['left'] > 0
    refine ⟨_, rfl, p, _, rfl, gL hp, _, _, rfl, rfl, _, rfl, ?_⟩
    refine ite2 (fun h0 => ?_) (fun h0 => ?_)
    · -- digit = int(left) % many; left = left // many; return digit
      refine ⟨_, rfl, p, _, rfl, gL hp, .inl ⟨_, rfl, _, rfl, _, _, rfl, rfl, hm0, ?_⟩⟩
      refine ⟨_, rfl, p, _, rfl, gL hp, _, rfl, _, _, rfl, rfl, div_ok hm0 hm1, _, rfl, p, _, rfl, pL _ hp, ?_⟩
      refine ⟨_, rfl, ?_⟩
      refine k _ _ ⟨Kp.upd _ _ _, ⟨b, _, upd_same, by rw [upd_ne ncp]; exact hc, hl, hb0, by omega⟩, B, hpen⟩ (Int.emod_nonneg _ (by omega)) (Int.emod_lt_of_pos _ hm0)
    · -- place, size = begun, len(cells); begun = place + 1
      refine ⟨_, rfl, p, _, rfl, gB hp, _, rfl, p, _, rfl, gC hp, c, _, rfl, .inl (SqL.of hc), _, _, rfl, ?_⟩
      refine ⟨_, rfl, _, _, rfl, rfl, _, rfl, p, _, rfl, pB _ hp, ?_⟩
      have hp1 : upd H p (.dK (pk c (b + 1) l)) p = some (.dK (pk c (b + 1) l)) := upd_same
      have hc1 : upd H p (.dK (pk c (b + 1) l)) c = some (.lst (ns.map V.int)) := by rw [upd_ne ncp]; exact hc
      have k1 : Kp p H (upd H p (.dK (pk c (b + 1) l))) := Kp.upd _ _ _
      have pen1 : Pen c ns (upd H p (.dK (pk c (b + 1) l))) p (B + 1) := ⟨b + 1, l, hp1, hc1, hl, by omega, by omega⟩
      generalize upd H p (.dK (pk c (b + 1) l)) = H1 at hp1 hc1 k1 pen1 ⊢
      -- told: some int
      try dsimp only
      refine seqIf_cut (fun v H' => H' = H1 ∧ ∃ z, v = .int z) (fun Q' q' => ?_) (fun v H' hv => ?_)
      · refine ⟨_, rfl, _, _, rfl, rfl, _, rfl, ?_⟩
        refine ite2 (fun h1 => ?_) (fun h1 => ?_)
        · have h1 : (0 : Int) < ((ns.map V.int).length : Nat) := of_decide_eq_true h1
          rw [List.length_map] at h1
          have e0 : 0 ≤ b % (ns.length : Int) := Int.emod_nonneg _ (by omega)
          have e1 : b % (ns.length : Int) < (ns.length : Int) := Int.emod_lt_of_pos _ h1
          have e2 : (b % (ns.length : Int)).toNat < ns.length := by omega
          refine ⟨_, rfl, p, _, rfl, gC hp1, ?_⟩
          refine ⟨_, rfl, .inl ⟨_, rfl, _, rfl, _, _, rfl, rfl, (by rw [List.length_map]; exact h1), c, ns.map V.int, _, V.int ns[(b % (ns.length : Int)).toNat], rfl, rfl, SqL.of hc1, ?_, q' _ _ ⟨rfl, _, rfl⟩⟩⟩
          rw [List.length_map]
          refine at_of (j := (b % (ns.length : Int)).toNat) (by omega) ?_
          rw [List.getElem?_map, List.getElem?_eq_getElem e2]
          rfl
        · refine ⟨_, rfl, _, _, rfl, rfl, mul_small (by omega), _, _, rfl, rfl, q' _ _ ⟨rfl, _, rfl⟩⟩
      obtain ⟨rfl, z, rfl⟩ := hv
      refine seqIfS_cut ?_ (fun N q => ?_)
      · -- the blend
        have m0 := Int.emod_nonneg z (show (4294967279 : Int) ≠ 0 by decide)
        have m1 := Int.emod_lt_of_pos z (show (0 : Int) < 4294967279 by decide)
        refine ⟨_, rfl, .inl ⟨_, rfl, _, _, rfl, rfl, (by show (0 : Int) < _; decide), _, _, rfl, rfl, mul_small (by omega), ?_⟩⟩
        refine ⟨_, rfl, _, _, rfl, rfl, mul_small (by omega), _, rfl, _, _, rfl, rfl, mul_small (by omega), _, _, rfl, rfl, _, _, rfl, rfl, .inl ⟨_, rfl, _, _, rfl, rfl, (by show (0 : Int) < _; decide), ?_⟩⟩
        generalize hx : (z % 4294967279 * 44621 + 28657 * b * b + 1543) % 4294967291 = x
        have x0 : 0 ≤ x := by rw [← hx]; exact Int.emod_nonneg _ (by decide)
        have x1 : x < 4294967291 := by rw [← hx]; exact Int.emod_lt_of_pos _ (by decide)
        clear hx
        refine ⟨_, rfl, _, rfl, _, _, rfl, rfl, mul_small (by omega), _, rfl, _, _, rfl, rfl, mul_small (by omega), _, _, rfl, rfl, _, rfl, _, _, rfl, rfl, mul_small (by omega), _, _, rfl, rfl, _, _, rfl, rfl, .inl ⟨_, rfl, _, _, rfl, rfl, (by show (0 : Int) < _; decide), ?_⟩⟩
        generalize hy : (x * x + 66047 * x + 37 * b + 11) % 4294967231 = y
        have y0 : 0 ≤ y := by rw [← hy]; exact Int.emod_nonneg _ (by decide)
        have y1 : y < 4294967231 := by rw [← hy]; exact Int.emod_lt_of_pos _ (by decide)
        clear hy
        refine ⟨_, rfl, _, rfl, _, _, rfl, rfl, _, _, rfl, rfl, mul_small (by omega), .inl ⟨_, rfl, _, _, rfl, rfl, (by show (0 : Int) < _; decide), _, _, rfl, rfl, div_ok (by decide) (by decide), .inl ⟨_, rfl, _, rfl, _, _, rfl, rfl, hm0, ?_⟩⟩⟩
        exact k _ _ ⟨k1, pen1, B, hpen⟩ (Int.emod_nonneg _ (by omega)) (Int.emod_lt_of_pos _ hm0)
      · refine ⟨_, rfl, _, rfl, _, _, rfl, rfl, _, rfl, ?_⟩
        refine ite2 (fun h1 => ?_) (fun h1 => ?_)
        · refine ⟨_, rfl, _, rfl, _, _, rfl, rfl, (by refine ⟨by decide, by decide, by decide⟩), _, _, rfl, rfl, _, rfl, ?_⟩
          refine ite2 (fun h2 => ?_) (fun h2 => q)
          refine ⟨_, rfl, _, rfl, _, _, rfl, rfl, (by refine ⟨by decide, by decide, by decide⟩), _, _, rfl, rfl, _, rfl, _, _, rfl, rfl, div_ok hm0 hm1, _, rfl, p, _, rfl, pL _ hp1, ?_⟩
          refine ⟨_, rfl, _, rfl, _, _, rfl, rfl, (by refine ⟨by decide, by decide, by decide⟩), _, _, rfl, rfl, .inl ⟨_, rfl, _, rfl, _, _, rfl, rfl, hm0, ?_⟩⟩
          refine k _ _ ⟨k1.trans (Kp.upd _ _ _), ⟨b + 1, _, upd_same, by rw [upd_ne ncp]; exact hc1, hl, by omega, by omega⟩, B, hpen⟩ (Int.emod_nonneg _ (by omega)) (Int.emod_lt_of_pos _ hm0)
        · exact iteF q
end
end Ask

namespace Ask
open PySem L2
section
variable {P : Program} {w : World} {K : PySem.W.Frag} {mg : Str → Option Value} {base : Heap}
/-! ### the pen -/
def spPen (K : PySem.W.Frag) : Sp := fun vs H Q _ => ∃ (a : Addr) (ns : List Int), vs = [.ref a] ∧ SqL K H a (ns.map V.int) ∧ ns.length ≤ 63 ∧
  ∀ (H' : Hp) (p c : Addr), Same H H' → H p = none → Pen c ns H' p 0 → Q (.ref p) H'
abbrev s__law_pen : Stmt := top 27
theorem sc__law_pen : FnScope ["_law_script"] ["_law_script"] (defScope s__law_pen) := ⟨rfl, rfl, rfl, by decide +kernel, rfl, by decide +kernel, by decide +kernel⟩
theorem pk_made (c : Addr) (b l : Int) : mergeK [] [(Sum.inr ("cells" : Str), .ref c), (Sum.inr ("begun" : Str), .int b), (Sum.inr ("left" : Str), .int l)] = pk c b l := by
  have e1 : putK ([] : List (Key × V)) (Sum.inr ("cells" : Str)) (.ref c) = [(Sum.inr ("cells" : Str), .ref c)] := putK_new _ rfl
  have e2 : putK [((Sum.inr ("cells" : Str) : Key), V.ref c)] (Sum.inr ("begun" : Str)) (.int b) = [(Sum.inr ("cells" : Str), .ref c), (Sum.inr ("begun" : Str), .int b)] :=
    putK_new _ ((valV_neg (fun z => kBC z.symm)).trans rfl)
  have e3 : putK [((Sum.inr ("cells" : Str) : Key), V.ref c), (Sum.inr ("begun" : Str), .int b)] (Sum.inr ("left" : Str)) (.int l) = pk c b l :=
    putK_new _ ((valV_neg (fun z => kLC z.symm)).trans ((valV_neg (fun z => kLB z.symm)).trans rfl))
  unfold mergeK
  simp only [List.foldl_cons, List.foldl_nil]
  rw [e1, e2, e3]
theorem at_by {α : Type} {xs : List α} {z : Int} {j : Nat} {v : α} (e : z = (j : Int)) (h : xs[j]? = some v) : atI xs z = some v := by
  subst e
  exact atI_nat h
theorem cutV_whole (xs : List V) (n : Nat) (h : xs.length ≤ n) : cutV xs none (some (n : Int)) = xs := by
  unfold cutV
  rw [HT.sIx_none, HT.sIx_nat, List.drop_zero, Nat.sub_zero, Nat.min_eq_right h, List.take_length]
theorem ok_pen {f : Addr} {fd : FuncData} (F : Fun K "_law_pen" "_law_pen" s__law_pen f fd) (T : Blt mg) : FnOk P w K mg base CX0 1 f fd ["_law_script"] (spPen K) := by
  refine F.ok sc__law_pen (fun vs H Q E h => ?_) (fun cdv A outer s H vs Q E hr h => ?_)
  · obtain ⟨a, ns, rfl, _⟩ := h
    rfl
  · obtain ⟨a, ns, rfl, hS, hl, k⟩ := h
    refine ⟨_, (pss_one (ps_ret (pe_disp (pps_cons pe_str (pe_callTy call_list_of (by rfl) T.n_list (by decide +kernel) (pa_cons (pe_slice sl_list (pv 0) po_none (po_some pe_int)) pa_nil)) (pps_cons pe_str pe_int (pps_cons pe_str pe_int pps_nil))) (by rfl) (by rfl) (fun z => by cases z) (by decide)))), ?_⟩
    intro p hp
    have s0 : Same H (upd H p (.dK [])) := fun b o e => by rw [upd_ne (ne_of_none e hp)]; exact e
    refine ⟨_, rfl, _, rfl, a, _, rfl, s0.seq hS, fun q hq => ?_⟩
    rw [show cutV (ns.map V.int) none (some 63) = ns.map V.int from cutV_whole _ 63 (by rw [List.length_map]; exact hl)]
    refine ⟨q, _, rfl, .inl (SqL.of upd_same), fun c hc => ?_⟩
    have npq : p ≠ q := ne_of_none upd_same hq
    have hq0 : H q = none := by
      rw [upd_ne npq.symm] at hq
      exact hq
    have ncq : c ≠ q := fun e => by
      rw [e, upd_same] at hc
      cases hc
    have hc1 : upd H p (.dK []) c = none := by
      rw [upd_ne ncq] at hc
      exact hc
    have npc : p ≠ c := ne_of_none upd_same hc1
    have hc0 : H c = none := by
      rw [upd_ne npc.symm] at hc1
      exact hc1
    refine ⟨by rw [upd_ne npc, upd_ne npq, upd_same], [(Sum.inr ("cells" : Str), .ref c), (Sum.inr ("begun" : Str), .int 0), (Sum.inr ("left" : Str), .int 0)], rfl, (by show 3 ≤ 15; decide), ?_⟩
    rw [pk_made]
    refine k _ p c (fun b o e => ?_) hp ⟨0, 0, upd_same, by rw [upd_ne npc.symm, upd_same], hl, Int.le_refl _, Int.le_refl _⟩
    rw [upd_ne (ne_of_none e hp), upd_ne (ne_of_none e hc0), upd_ne (ne_of_none e hq0), upd_ne (ne_of_none e hp)]
    exact e

/-! ### the pick -/
def spPick (K : PySem.W.Frag) : Sp := fun vs H Q _ => ∃ (p c : Addr) (ns : List Int) (x : V) (B : Nat), vs = [.ref p, x] ∧ Pen c ns H p B ∧ B ≤ 1000000000 ∧
  ((∃ a xs, x = .ref a ∧ SqL K H a xs ∧ 0 < xs.length ∧ xs.length ≤ 1000 ∧ ∀ (H' : Hp) (v : V), Go p c ns H H' (B + 1) → v ∈ xs → Q v H') ∨
    (∃ z : Str, x = .str z ∧ 0 < z.length ∧ z.length ≤ 1000 ∧ ∀ (H' : Hp) (i : Nat), Go p c ns H H' (B + 1) → i ∈ z.cps.toList → Q (.str ⟨#[i]⟩) H'))
abbrev s__law_pick : Stmt := top 29
theorem sc__law_pick : FnScope ["_law_pen_here", "_law_options"] ["_law_pen_here", "_law_options"] (defScope s__law_pick) := ⟨rfl, rfl, rfl, by decide +kernel, rfl, by decide +kernel, by decide +kernel⟩
/-- a def of the text called by its name: where it stands, that it stays, how its arguments bind -/
structure At (K : PySem.W.Frag) (mg : Str → Option Value) (x : Str) (f : Addr) (fd : FuncData) (ps : List Str) : Prop where
  m : mg x = some (.ref f)
  k : PySem.W.keepIn K (.ref f) = true
  b : Binds K fd ps []
theorem ok_pick {f fD : Addr} {fd fdD : FuncData} (F : Fun K "_law_pick" "_law_pick" s__law_pick f fd) (T : Blt mg) (GD : FnOk P w K mg base CX0 1 fD fdD ["_law_pen_here", "_law_many"] spDraw) (D : At K mg "_law_draw" fD fdD ["_law_pen_here", "_law_many"]) :
    FnOk P w K mg base CX0 2 f fd ["_law_pen_here", "_law_options"] (spPick K) := by
  refine F.ok sc__law_pick (fun vs H Q E h => ?_) (fun cdv A outer s H vs Q E hr h => ?_)
  · obtain ⟨p, c, ns, x, B, rfl, _⟩ := h
    rfl
  · obtain ⟨p, c, ns, x, B, rfl, hpen, hB, h⟩ := h
    refine ⟨_, (pss_one (ps_ret (pe_ix ix_seq (pv 1) (pe_call GD hr (by rfl) D.m D.k D.b .nil pass0 (pa_cons (pv 0) (pa_cons (pe_callB call_len (by rfl) T.n_len (by decide +kernel) (pa_cons (pv 1) pa_nil)) pa_nil))) (fun _ _ => rfl)))), ?_⟩
    have sl : (1000 : Nat) ≤ sizeLine := by decide
    rcases h with ⟨a, xs, rfl, hS, h0, h1, k⟩ | ⟨z, rfl, h0, h1, k⟩
    · refine ⟨_, rfl, _, rfl, _, rfl, _, xs.length, rfl, .inl ⟨xs, hS, rfl⟩, p, c, ns, _, B, rfl, hpen, hB, by omega, by omega, fun H' r g r0 r1 => ?_⟩
      have hi : r.toNat < xs.length := by omega
      exact .inl ⟨a, xs, r, xs[r.toNat], rfl, rfl, g.seq hS, at_of (j := r.toNat) (by omega) (List.getElem?_eq_getElem hi), k H' _ g (List.getElem_mem hi)⟩
    · refine ⟨_, rfl, _, rfl, _, rfl, _, z.length, rfl, ⟨by omega, rfl⟩, p, c, ns, _, B, rfl, hpen, hB, by omega, by omega, fun H' r g r0 r1 => ?_⟩
      have hi : r.toNat < z.cps.toList.length := by
        have e : z.cps.toList.length = z.length := by simp [Str.length]
        omega
      exact .inr (.inr ⟨z, r, z.cps.toList[r.toNat], rfl, rfl, by omega, at_by (j := r.toNat) (by omega) (List.getElem?_eq_getElem hi), k H' _ g (List.getElem_mem hi)⟩)
end
end Ask

namespace Ask
open PySem L2
/-- if c: body else: other, its ways met in Mid -/
theorem seqIf_mid {c : TT} {t v u : TS} {D : Ends} {σ : L2.St} {H : Hp} (Mid : L2.St → Hp → Prop) (h : ∀ N : L2.St → Hp → Prop, (∀ σ' H', Mid σ' H' → N σ' H') → tIfS c t v { D with nx := N } σ H) (hq : ∀ σ' H', Mid σ' H' → u D σ' H') :
    tSeq (tIfS c t v) u D σ H := h (u D) hq
theorem len_sum1 : ∀ ys : List Str, (∀ y ∈ ys, y.length = 1) → (ys.map (·.length)).sum = ys.length
  | [], _ => rfl
  | y :: r, h => by
    rw [List.map_cons, List.sum_cons, List.length_cons, len_sum1 r (fun z hz => h z (List.mem_cons_of_mem _ hz)), h y (List.mem_cons_self ..)]
    omega
theorem join_len1 (ys : List Str) (h : ∀ y ∈ ys, y.length = 1) : (Txt.join (Str.ofString "") ys).length = ys.length := by
  rw [TL.join_eq]
  cases ys with
  | nil => rfl
  | cons a r =>
    rw [PyProof.Rows.len_join_cons, len_sum1 _ h]
    show _ + r.length * 0 = _
    omega
/-- all signs below 128 -/
def Asc (z : Str) : Prop := ∀ c ∈ z.cps.toList, c < 128
theorem Asc.app {a b : Str} (h : Asc a) (k : Asc b) : Asc (a ++ b) := fun c hc => by
  have e : (a ++ b).cps.toList = a.cps.toList ++ b.cps.toList := by
    rw [Str.cps_append, Array.toList_append]
  rw [e] at hc
  rcases List.mem_append.mp hc with z | z
  · exact h c z
  · exact k c z
theorem Asc.cut {a : Str} (h : Asc a) (lo hi : Option Int) : Asc (cutS a lo hi) := fun c hc => h c (List.mem_of_mem_drop (List.mem_of_mem_take hc))
theorem Asc.one {c : Nat} (h : c < 128) : Asc ⟨#[c]⟩ := fun d hd => by
  have e : d = c := by simpa using hd
  rw [e]
  exact h
theorem Asc.lit {s : String} (h : ((Str.ofString s).cps.toList.all fun c => decide (c < 128)) = true) : Asc (Str.ofString s) := fun c hc => of_decide_eq_true (List.all_eq_true.mp h c hc)
theorem Asc.joined : ∀ ys : List Str, (∀ y ∈ ys, Asc y) → Asc (Str.join (Str.ofString "") ys)
  | [], _ => fun c hc => by cases hc
  | [y], h => h y (List.mem_cons_self ..)
  | y :: z :: r, h => ((h y (List.mem_cons_self ..)).app (.lit rfl)).app (Asc.joined (z :: r) fun x hx => h x (List.mem_cons_of_mem _ hx))
theorem Asc.join (ys : List Str) (h : ∀ y ∈ ys, Asc y) : Asc (Txt.join (Str.ofString "") ys) := by
  rw [TL.join_eq]
  exact Asc.joined ys h
def small : Str := "abcdefghijklmnopqrstuvwxyz"
def signs : Str := "abcdefghijklmnopqrstuvwxyz0123456789"
theorem small_len : small.length = 26 := by decide +kernel
theorem signs_len : signs.length = 36 := by decide +kernel
theorem small_asc : Asc small := .lit (by decide +kernel)
theorem signs_asc : Asc signs := .lit (by decide +kernel)
section
variable {P : Program} {w : World} {K : PySem.W.Frag} {mg : Str → Option Value} {base : Heap}
abbrev s__law_letters : Stmt := top 30
theorem sc__law_letters : FnScope ["_law_pen_here", "_law_many", "_law_small", "_law_signs", "_law_stem", "_law_at", "_law_front", "_law_choice", "_law_step", "_law_tail", "_law_found", "_law_k", "_law_sign", "_law_word"] ["_law_pen_here", "_law_many"] (defScope s__law_letters) := ⟨rfl, rfl, rfl, by decide +kernel, rfl, by decide +kernel, by decide +kernel⟩
def nLet : List Str := ["_law_pen_here", "_law_many", "_law_small", "_law_signs", "_law_stem", "_law_at", "_law_front", "_law_choice", "_law_step", "_law_tail", "_law_found", "_law_k", "_law_sign", "_law_word"]
end
end Ask

/-! enumerate(t), t a tuple (or a list): the layer has it for lists alone -/
namespace PySem
open Sem (wp)
theorem ask_enum_new {v : Value} {o : Obj} {Hh : Heap → Prop} (B : Begins v o Hh) :
    Meets (Builtin.«enumerate.__new__» ⟨[.type "enumerate", v], []⟩) (fun _ R s => Hh s.heap ∧
      R (.ok (.ret (.ref (s.heap.push o).objs.size)))
        { s with heap := (s.heap.push o).push { cls := .type "enumerate", data := .fields #[.none, .bool false, .ref s.heap.objs.size, rawInt 0, .none, .none] } }) :=
  .of_wp fun prog w A R s z => by
    obtain ⟨h0, g0, d0, t0, os0⟩ := s
    obtain ⟨z1, z⟩ := z
    have subE := sub_enumerate
    have begins : ∀ {A' : Around} {E' : Value → Shared → Prop} {Q' : Value → Shared → Prop}, Q' (.ref h0.objs.size) ⟨h0.push o, g0, d0, t0, os0⟩ → wpAny (model prog w) A' (pyIter v) Q' E' ⟨h0, g0, d0, t0, os0⟩ :=
      fun q => B.iter prog w _ _ ⟨h0, g0, d0, t0, os0⟩ _ z1 q
    wp_walk using begins
    refine wpAny_stack_any fun _ => wpAny_pure ?_
    split
    · rename_i cl _ _ _ _ _
      cases (cl == Value.type "enumerate") <;> (wp_walk using begins; exact ⟨_, rfl, z⟩)
    · wp_walk using begins; exact ⟨_, rfl, z⟩
end PySem
namespace Ask
open PySem L2 PySem.Spec PyProof.Rows
/-- enumerate(v): its two new cells -/
theorem enum_made {prog : Program} {w : World} {A : Around} {E : Value → Shared → Prop} {s : Shared} {v : Value} {o : Obj} {Hh : Heap → Prop} {Q : Value → Shared → Prop} (B : Begins v o Hh) (h1 : Hh s.heap)
    (h : ∀ h', IsEnum h' (s.heap.objs.size + 1) s.heap.objs.size 0 .none → h'.get? s.heap.objs.size = some o → (∀ b u, s.heap.get? b = some u → h'.get? b = some u) → Q (.ref (s.heap.objs.size + 1)) { s with heap := h' }) :
    wpAny (model prog w) A (call (.type "enumerate") [v]) Q E s := by
  refine callType_new F.called_enumerate (by decide) (F.typeCall_enumerate_1 _) (F.newCall_enumerate_1 _) (fun obj => F.args_object_init_2 obj _) F.entry_enumerate_new (ask_enum_new B) ⟨h1, ?_⟩
  have z : (s.heap.push o).objs.size = s.heap.objs.size + 1 := Heap.size_push ..
  show _ ∧ _
  rw [z]
  have e : IsEnum ((s.heap.push o).push { cls := .type "enumerate", data := .fields #[.none, .bool false, .ref s.heap.objs.size, rawInt 0, .none, .none] }) (s.heap.objs.size + 1) s.heap.objs.size 0 .none := by
    have q := Heap.get?_push_size (s.heap.push o) (o := { cls := .type "enumerate", data := .fields #[.none, .bool false, .ref s.heap.objs.size, rawInt 0, .none, .none] }) rfl
    rw [z] at q
    exact q
  exact ⟨⟨_, e, rfl⟩, h _ e (Heap.get?_push_of_some _ (Heap.get?_push_size _ B.free)) fun b u q => Heap.get?_push_of_some _ (Heap.get?_push_of_some _ q)⟩
/-- the tuple at a, each item in a new pair with its place -/
def IteT (K : PySem.W.Frag) (a : Addr) : It :=
  ⟨fun i H => ∃ xs, SqT K H a xs ∧ i < xs.length, fun i H v H' => ∃ T x, v = .ref T ∧ H T = none ∧ H' = upd H T (.tup [.int (i : Nat), x]) ∧ ∀ xs, SqT K H a xs → xs[i]? = some x, fun i H => ∃ xs, SqT K H a xs ∧ xs.length = i⟩
theorem turn_enumT {P : Program} {w : World} {K : PySem.W.Frag} {elts : List Expr} {kk : Nat} {tpos : Pos} (a e it : Addr) (hne : e ≠ it) (hat : a ≠ it) :
    Turn P w K (.Tuple elts kk tpos) (IteT K a) [e, it] e (fun i h => (∃ old, IsEnum h e it ((i : Nat) : Int) old) ∧ h.IsTupleIter it a i) where
  mem := by simp
  obj := fun i h st b hb => by
    obtain ⟨⟨old, he⟩, o, ho, _, hd⟩ := st
    rcases (by simpa using hb : b = e ∨ b = it) with z | z
    · rw [z]; exact ⟨_, he, fun v q => nomatch q⟩
    · rw [z]; exact ⟨o, ho, fun v q => by rw [hd] at q; cases q⟩
  keep := fun i h h' st k => ⟨⟨_, k e (by simp) _ st.1.choose_spec⟩, st.2.at fun o q => k it (by simp) o q⟩
  item := by
    intro X hP hw hK hc i pins s σ H E I hf st hg
    subst hP hw hK
    obtain ⟨⟨old, he⟩, hit⟩ := st
    obtain ⟨xs, hq, hi⟩ := hg
    obtain ⟨its, rv, p, hz⟩ := I.tuple hq
    have hl := rv.length
    have hel : e < s.heap.objs.size := Heap.lt_size he
    have hil : it < s.heap.objs.size := by obtain ⟨_, q, _⟩ := hit; exact Heap.lt_size q
    have aE : a ≠ e := fun z => by
      obtain ⟨o, ho, ct, _⟩ := p
      have he2 : s.heap.get? e = some _ := he
      rw [z, he2] at ho
      have z2 := Option.some.inj ho
      rw [← z2] at ct
      injection ct with ct
      exact absurd ct (by decide)
    have Dr := Draws.tuple (prog := X.prog) (w := X.w) (A := X.A.in1) (show X.A.in1.handled = none from I.ok.hd hc) it a hat its.toArray
    refine wpAny_pyNext_enum_itemD Dr he ⟨hit, p⟩ (by simp; omega) hne (by intro z; rcases (by simpa using z : e = it ∨ e = a) with q | q; exact hne q; exact aE q.symm) fun x h' tk hx ho hs' hT hsz hk => ?_
    refine ⟨_, rfl, wpAny_letOwnedTupleGo_enum (s := { s with heap := h', toks := tk + 1 }) ho fun h'' he' sb => ?_⟩
    have hT2 : h''.get? s.heap.objs.size = some { cls := .type "tuple", data := .seq #[.int i tk, x] } := (sb.2 _ (Nat.ne_of_gt hel)).trans hT
    have hit2 : h''.IsTupleIter it a (i + 1) := hs'.1.at fun o q => (sb.2 it (Ne.symm hne)).trans q
    obtain ⟨y, hy, ry⟩ : ∃ y, xs[i]? = some y ∧ RelV y x := by
      obtain ⟨u, hu, ru⟩ := rv.get (List.getElem?_eq_getElem hi)
      have hx' : its[i]? = some x := by simpa using hx
      rw [hu] at hx'
      cases hx'
      exact ⟨_, List.getElem?_eq_getElem hi, ru⟩
    have new : ObjOk X.prog X.w (upd H s.heap.objs.size (.tup [.int (i : Nat), y])) h'' s.heap.objs.size (.tup [.int (i : Nat), y]) :=
      ⟨by show 2 ≤ sizeLine; decide, [.int i tk, x], .cons ⟨_, rfl⟩ (.cons ry .nil), ⟨_, hT2, rfl, _, rfl⟩⟩
    have I1 : Inv X pins σ (upd H s.heap.objs.size (.tup [.int (i : Nat), y])) { s with heap := h'', toks := tk + 1 } :=
      I.turnedNew (ch := [e, it]) (fun b ob hb q => (sb.2 b (fun z => hb (by simp [z]))).trans (hk b ob (fun z => hb (by simp [z])) (fun z => hb (by simp [z])) q)) hf (Nat.le_refl _) new
    refine ⟨.ref s.heap.objs.size, _, I1, rfl, ⟨_, y, rfl, I.hok.fresh (Nat.le_refl _), rfl, fun ys h2 => by rw [I.tuple_inj h2 hq]; exact hy⟩, ⟨⟨x, ?_⟩, hit2⟩, fun b hb => ?_⟩
    · have e1 : ((i + 1 : Nat) : Int) = (i : Int) + 1 := by omega
      rw [e1]
      exact he'
    · have hb' : b < s.heap.objs.size := by
        rcases (by simpa using hb : b = e ∨ b = it) with z | z
        · rw [z]; exact hel
        · rw [z]; exact hil
      rw [upd_ne (Nat.ne_of_lt hb')]
      exact (hf b hb).1
  done := by
    intro X hP hw hK hc i pins s σ H E I hf st hg
    subst hP hw hK
    obtain ⟨⟨old, he⟩, hit⟩ := st
    obtain ⟨xs, hq, hx⟩ := hg
    obtain ⟨its, rv, p, hz⟩ := I.tuple hq
    obtain ⟨f0, f1, f2, f3, f4, f5⟩ := hf it (by simp)
    have hl := rv.length
    have ei : i = its.toArray.size := by simp; omega
    subst ei
    have Dr := Draws.tuple (prog := X.prog) (w := X.w) (A := X.A.in1) (show X.A.in1.handled = none from I.ok.hd hc) it a hat its.toArray
    exact wpAny_pyNext_enum_endD Dr he ⟨hit, p⟩ fun h' eb => ⟨rfl, I.turned (t' := s.toks) (fun b o hb q => eb b o hb q) f0 f1 f3 f4 f5⟩
  self := fun A i s Q E st h => let ⟨⟨_, he⟩, _⟩ := st; wpAny_pyIter_enum he h
/-- enumerate(e), e a list or a tuple -/
def iEnumA (K : PySem.W.Frag) (ta : TA) : TI := fun σ H R => ta σ H fun vs H1 => ∃ a xs, vs = [.ref a] ∧ ((SqL K H1 a xs ∧ R (Ite K a) H1) ∨ (SqT K H1 a xs ∧ R (IteT K a) H1))
theorem pi_enumA {X : Cx} {e : Expr} {ta : TA} {p pos tpos : Pos} {elts : List Expr} {kk : Nat} (hg : Gl X "enumerate") (hm : X.mg "enumerate" = none) (ha : PA X [e] ta) (hs : starEach [e] X.env = [(false, eval e X.env)] := by rfl) :
    PI X (.Tuple elts kk tpos) (.Call (.Name "enumerate" p) [e] [] pos) (iEnumA X.K ta) := by
  refine ⟨fun pins s σ H R I h => ?_⟩
  refine Call_ (ld_blt I hg hm boot_enumerate (PyProof.Rows.callWith_type1 (thn (ha.run pos pins s σ H _ I h) fun us s1 ⟨vs, H1, I1, r1, a, xs, ex, q1⟩ => ?_) hs rfl))
  subst ex
  cases r1 with
  | cons r rr =>
    cases rr
    cases r
    have low : ∀ b : Addr, b ∈ [s1.heap.objs.size + 1, s1.heap.objs.size] → s1.heap.objs.size ≤ b := fun b hb => by
      rcases (by simpa using hb : b = s1.heap.objs.size + 1 ∨ b = s1.heap.objs.size) with z | z
      · rw [z]; exact Nat.le_add_right _ _
      · rw [z]; exact Nat.le_refl _
    rcases q1 with ⟨hq, q⟩ | ⟨hq, q⟩
    · obtain ⟨its, rv, p', hz⟩ := I1.list hq
      refine enum_made (begins_list a its.toArray) p'.isList fun h' he hit hk => wpAny_pyIter_enum he ?_
      exact ⟨s1.heap.objs.size + 1, [s1.heap.objs.size + 1, s1.heap.objs.size], _, _, H1, rfl, I1.kept (t' := s1.toks) hk, turn_enum a (s1.heap.objs.size + 1) s1.heap.objs.size, ⟨⟨.none, he⟩, ⟨_, hit, rfl, rfl⟩, Nat.succ_ne_self _⟩, fun b hb => I1.fpOk (low b hb) (I1.hok.fresh (low b hb)), q⟩
    · obtain ⟨its, rv, p', hz⟩ := I1.tuple hq
      have hal : a < s1.heap.objs.size := by obtain ⟨_, z, _⟩ := p'; exact Heap.lt_size z
      refine enum_made (begins_tuple a its.toArray) p' fun h' he hit hk => wpAny_pyIter_enum he ?_
      exact ⟨s1.heap.objs.size + 1, [s1.heap.objs.size + 1, s1.heap.objs.size], _, _, H1, rfl, I1.kept (t' := s1.toks) hk, turn_enumT a (s1.heap.objs.size + 1) s1.heap.objs.size (Nat.succ_ne_self _) (Nat.ne_of_lt hal), ⟨⟨.none, he⟩, ⟨_, hit, rfl, rfl⟩⟩, fun b hb => I1.fpOk (low b hb) (I1.hok.fresh (low b hb)), q⟩
theorem walk_enumT {K : PySem.W.Frag} {a : Addr} {xs : List V} : Walk (IteT K a) xs.length (fun H => SqT K H a xs) (YPair (fun i => some (.int (i : Nat))) (fun i => xs[i]?)) := by
  refine ⟨fun i H hi q => ⟨xs, q, hi⟩, fun H q => ⟨xs, q, rfl⟩, fun i H v H' _ q y => ?_⟩
  obtain ⟨T, x, h1, h2, h3, h4⟩ := y
  exact ⟨T, .int (i : Nat), x, h1, h2, h3, rfl, h4 xs q⟩
end Ask

/-! several clauses «except X as n» behind one try -/
namespace Ask
open PySem L2 PySem.Spec PyProof.Rows
/-- an error a that the frame of X has caught, with all that stood -/
structure Down (X : Cx) (pins : List (Addr × Obj)) (σ : L2.St) (H : Hp) (sI : Shared) (B : Heap) (a : Addr) (cls : Value) (d : Option Addr) (s : Shared) : Prop where
  fl : HandSPX.FlyingZ B (X.env :: X.outer) a (Zc cls d) s.heap
  inv : Inv X pins σ H sI
  nb : ∀ b o, sI.heap.get? b = some o → b ∉ frs X.stack → B.get? b = some o
  up : sI.heap.UpToSlots s.heap
  os : s.os = sI.os
  ag : AllBare s.gens
  na : H a = none
section
variable {X : Cx} {pins : List (Addr × Obj)} {σ : L2.St} {H : Hp} {sI s : Shared} {B : Heap} {a : Addr} {cls : Value} {d : Option Addr}
theorem Down.now (w : Down X pins σ H sI B a cls d s) : Inv X pins σ H s := w.inv.landed w.nb w.fl.1 w.up w.os w.ag
theorem Down.apart (w : Down X pins σ H sI B a cls d s) (hf : X.env.frame = some X.env.locals) : ∃ oe vs, s.heap.get? a = some oe ∧ Zc cls d oe ∧ oe.data = .fields vs ∧ a ≠ X.env.locals ∧ a ∉ X.fs := by
  obtain ⟨oe, vs, e, z, dd⟩ := w.fl.there
  have out : a ∉ frs (X.env :: X.outer) := fun hm => by
    obtain ⟨_, o2, e2, no⟩ := w.fl.2.2.1.mem hm
    rw [e] at e2
    cases e2
    exact no _ dd
  refine ⟨oe, vs, e, z, dd, fun q => out (List.mem_filterMap.mpr ⟨X.env, List.mem_cons_self, by rw [hf, q]⟩), fun hm => ?_⟩
  obtain ⟨v, hv, q⟩ := List.mem_filterMap.mp hm
  exact out (List.mem_filterMap.mpr ⟨v, List.mem_cons_of_mem _ hv, q⟩)
end
/-- what the clauses hds make of it, if W is wished for -/
def Hands (X : Cx) (D : Ends) (hds : List ExceptHandler) (W : WX) : Prop := ∀ (pins : List (Addr × Obj)) (σ : L2.St) (H : Hp) (sI s : Shared) (B : Heap) (a : Addr) (cls : Value) (d : Option Addr),
  Down X pins σ H sI B a cls d s → W cls d σ H → wpAny (model X.prog X.w) X.A (handleBy (.ref a) X.env hds) (SP X pins D) X.xe s
section
variable {X : Cx} {D : Ends} {hds : List ExceptHandler} {W : WX}
theorem hands_nil (hs : X.stack = X.env :: X.outer) (hf : X.env.frame = some X.env.locals) (tk : Takes X W) : Hands X D [] W := by
  intro pins σ H sI s B a cls d w q
  refine wpAny_handleBy_nil ?_
  obtain ⟨_, _, _, _, _, T, _, _, e, _, dd, e1, _⟩ := id w.fl
  unfold PySem.passOn
  refine wpAny_bind (wpAny_field e dd e1 ?_)
  rw [if_neg (show ¬ ((Value.ref T == Value.none) = true) from by simp)]
  have on : wpAny (model X.prog X.w) X.A (setFlight (.ref a) X.env.frame) (fun _ s4 => wpAny (model X.prog X.w) X.A (throw (.ref a) : Sem Flow) (SP X pins D) X.xe s4) X.xe s := by
    rw [hf]
    exact HandSPX.setFlight_upZ w.fl fun h4 held up4 => wpAny_throw (tk _ _ ⟨a, B, sI, pins, σ, H, cls, d, rfl, w.inv, w.nb, w.up.trans up4, .inr (.inr (by rw [hs]; exact held)), w.na, w.os, w.ag, q⟩)
  first
    | exact wpAny_bind (wpAny_pure (wpAny_bind on))
    | exact wpAny_bind on
theorem hands_as {x n : Str} {c : Value} {i : Nat} {suite : List Stmt} {b₀ : Stmt} {np pos' : Pos} {ts : Addr → Value → Option Addr → TS}
    (hf : X.env.frame = some X.env.locals) (hN : X.N.Nodup) (hi : X.N[i]? = some n) (hl : X.env.kindOf n = some .local) (hc : Names X x c)
    (su : ∀ (a : Addr) (oe : Obj) (cls : Value) (d : Option Addr) (pn : List (Addr × Obj)), Zc cls d oe → (∃ vs, oe.data = .fields vs) → PSs (X.suite a ((a, oe) :: pn)) (b₀ :: suite) (ts a cls d))
    (rest : Hands X D hds W) : Hands X D (.ExceptHandler (some (.Name x np)) (some n) (b₀ :: suite) pos' :: hds) (wAs X.K c i ts W D) := by
  intro pins σ H sI s B a cls d w q
  obtain ⟨b, hb, yes, no⟩ := q
  have J := w.now
  have ok := J.ok
  obtain ⟨oe, vs, he, hz, hd, nL, nF⟩ := w.apart hf
  have S := J.suite he hd w.na nL nF
  refine wpAny_handleBy_cons (codeAny_handlers_test ?_) (by intro z; cases z)
  have ty : PySem.W.Looks (model X.prog X.w) s.heap (typeOf (.ref a)) cls := fun A Q E s' k z => wpAny_typeOf_ref (k _ _ he) (by rw [hz.1]; exact z)
  have isIt := PySem.W.exm_one (M := model X.prog X.w) J.kIn ty hb
  have named : ∀ {Q : Value → Shared → Prop} {E : Value → Shared → Prop}, Q c s → wpAny (model X.prog X.w) (X.A.mark (some (.ref a))) (eval (.Name x np) X.env) Q E s := fun {Q E} z => by
    obtain ⟨g, dbg, m | ⟨m, bt, nn⟩⟩ := hc
    · exact ld_glob (X := X.suite a ((a, oe) :: (X.pn ++ pins))) S g m z dbg
    · exact ld_blt (X := X.suite a ((a, oe) :: (X.pn ++ pins))) S g m bt z nn dbg
  refine named (isIt.here ?_)
  cases b with
  | false => exact rest pins σ H sI s B a cls d w (no rfl)
  | true =>
    refine codeAny_handlers_suite_as (HandSPX.lands_againZ w.fl fun h4 fl4 up4 => ?_)
    have w4 : Down X pins σ H sI B a cls d { s with heap := h4 } := ⟨fl4, w.inv, w.nb, w.up.trans up4, w.os, w.ag, w.na⟩
    obtain ⟨oe4, vs4, he4, hz4, hd4, nL4, nF4⟩ := w4.apart hf
    have S4 := w4.now.suite he4 hd4 w.na nL4 nF4
    refine store_ok (X := X.suite a ((a, oe4) :: (X.pn ++ pins))) (v := .ref a) S4 hN hi (.inl hl) rfl (fun s5 S5 => ?_) (.inr hl)
    refine wpAny_mono ((su a oe4 cls d (X.pn ++ pins) hz4 ⟨_, hd4⟩).run [] s5 _ H _ S5 (yes rfl a w.na)) (fun f s6 got => ?_) (fun _ _ z => False.elim z)
    have away : ∀ {σ6 : L2.St} {H6 : Hp} {Q : Shared → Prop}, Inv (X.suite a ((a, oe4) :: (X.pn ++ pins))) [] σ6 H6 s6 → (∀ s7, Inv X pins (σ6.set i none) H6 s7 → Q s7) →
        wpAny (model X.prog X.w) X.A (do bindName X.env n .none; unbindBehindTheSuite X.env n pos') (fun _ s7 => Q s7) X.xe s6 := fun {σ6 H6 Q} S6 z => gone_ok (S6.unsuite ok) hN hi hl z
    cases f with
    | ret u => obtain ⟨v, σ6, H6, S6, r, z⟩ := got; exact away S6 fun s7 J7 => ⟨_, _, _, J7, r, z⟩
    | next => obtain ⟨σ6, H6, S6, z⟩ := got; exact away S6 fun s7 J7 => ⟨_, _, J7, z⟩
    | brk => obtain ⟨σ6, H6, S6, z⟩ := got; exact away S6 fun s7 J7 => ⟨_, _, J7, z⟩
    | cont => obtain ⟨σ6, H6, S6, z⟩ := got; exact away S6 fun s7 J7 => ⟨_, _, J7, z⟩
/-- try: body / the clauses -/
theorem ps_try_hands {body : List Stmt} {h₀ : ExceptHandler} {pos : Pos} {tb : WX → TS} {Wf : Ends → WX} (hs : X.stack = X.env :: X.outer) (hf : X.env.frame = some X.env.locals)
    (hb : ∀ (W : WX) (pn : List (Addr × Obj)) (xe : Value → Shared → Prop), Takes (X.tr pn xe) W → PassesOwn (model X.prog X.w) X.A X.env xe → PSs (X.tr pn xe) body (tb W))
    (hh : ∀ D, Hands X D (h₀ :: hds) (Wf D)) : PS X (.Try body (h₀ :: hds) [] [] pos) (fun D σ H => tb (Wf D) D σ H) := by
  refine ⟨fun pins s σ H D I h => ?_⟩
  have ok := I.ok
  have fr : X.A.frames = some (X.env :: X.outer) := by rw [ok.frames, hs]
  let after : Value → Shared → Prop := fun e s1 => wpAny (model X.prog X.w) X.A (noteFrame e X.env) (fun _ s2 => wpAny (model X.prog X.w) X.A (setFlight e none) (fun _ s3 => wpAny (model X.prog X.w) X.A (handleBy e X.env (h₀ :: hds)) (SP X pins D) X.xe s3) X.xe s2) X.xe s1
  have taken : Takes (X.tr (X.pn ++ pins) after) (Wf D) := fun u s1 xx => by
    obtain ⟨a, B, sI, pins1, σ1, H1, cls, d, rfl, J, nb, up, sky, na, os, ag, q⟩ := xx
    have sky1 : Sky B (X.env :: X.outer) a (Zc cls d) X.env.locals s1.heap := by rw [← hs]; exact sky
    exact Sky.land Zc.steady fr hf sky1 fun h3 fl3 up3 => hh D pins σ1 H1 sI { s1 with heap := h3 } B a cls d ⟨fl3, J.ofTry ok, nb, up.trans up3, os, ag, na⟩ q
  refine wpAny_Try_except (wpAny_mono ((hb (Wf D) (X.pn ++ pins) after taken PassesOwn.looking).run [] s σ H D (I.toTry _) h) (fun f s1 got => ?_) fun _ _ z => z)
  cases f with
  | ret u => obtain ⟨v, σ1, H1, J, r, z⟩ := got; exact ⟨v, σ1, H1, J.ofTry ok, r, z⟩
  | next => obtain ⟨σ1, H1, J, z⟩ := got; exact wpAny_execs_nil ⟨σ1, H1, J.ofTry ok, z⟩
  | brk => obtain ⟨σ1, H1, J, z⟩ := got; exact ⟨σ1, H1, J.ofTry ok, z⟩
  | cont => obtain ⟨σ1, H1, J, z⟩ := got; exact ⟨σ1, H1, J.ofTry ok, z⟩
end
end Ask

namespace Ask
open PySem L2 PySem.Spec PyProof.Rows
/-! ### repr of a list or tuple of data; a text times a number -/
def rRepr (K : PySem.W.Frag) : List V → Hp → VK → Prop := fun xs H Q => ∃ (a : Addr) (d : PyData), xs = [.ref a] ∧ Dp K H (.ref a) d ∧ d.showable = true ∧ d.hasDict = false ∧ d.depth ≤ 30 ∧ d.shown.length ≤ sizeLine ∧ Q (.str d.shown) H
theorem call_reprD {X : Cx} (hg : X.A.guards = some []) (hu : X.A.units + 64 < cLine) : CallR X (.builtin "repr") (rRepr X.K) := by
  intro pins s σ H xs us Q I r h
  obtain ⟨a, d, rfl, hd, sh, nd, dp, sz, q⟩ := h
  obtain ⟨u, rfl, ra⟩ := vals1 r
  obtain rfl : u = Value.ref a := ra
  obtain ⟨as, rd⟩ := Dp.reads I d _ _ hd rfl
  refine repr_of_reads' rd sh (fun z => by rw [nd] at z; cases z) hg (by omega) (fun _ _ e => e) (fun h' t tk k => ?_) sz
  exact ⟨.str d.shown, H, I.kept (t' := tk) k, ⟨t, rfl⟩, q⟩
def repS (x : Str) (n : Nat) : Str := ⟨(List.replicate n x.cps).foldl (· ++ ·) #[]⟩
theorem rep_size (x : Array Nat) : ∀ (n : Nat) (acc : Array Nat), ((List.replicate n x).foldl (· ++ ·) acc).size = acc.size + n * x.size
  | 0, acc => by simp
  | n + 1, acc => by
    rw [List.replicate_succ, List.foldl_cons, rep_size x n, Array.size_append, Nat.succ_mul]
    omega
theorem repS_len (x : Str) (n : Nat) : (repS x n).length = n * x.length := by
  show ((List.replicate n x.cps).foldl (· ++ ·) #[]).size = _
  rw [rep_size]
  show 0 + n * x.length = _
  omega
theorem op_mul_str {X : Cx} : OpR X (binaryOp .Mult) (fun x y H Q => ∃ (z : Str) (n : Int), x = .str z ∧ y = .int n ∧ 2 ≤ n ∧ n ≤ 1000 ∧ 1 ≤ z.length ∧ z.length ≤ 1000 ∧ Q (.str (repS z n.toNat)) H) := by
  intro pins s σ H x y v u Q I rx ry h
  obtain ⟨z, n, rfl, rfl, n0, n1, z0, z1, q⟩ := h
  obtain ⟨t, rfl⟩ := rx
  obtain ⟨t2, rfl⟩ := ry
  have zl : (z.length == 0) = false := by
    have : z.length ≠ 0 := by omega
    simpa using this
  have nl : (n == 1) = false := by
    have : n ≠ 1 := by omega
    simpa using this
  refine P.mul_str (by rw [decide_eq_false (by omega), decide_eq_false (by omega)]; rfl) (fun _ _ z => ?_) (fun _ _ => ?_) ?_
  · have e : (2 ^ 63 - 1) / (1000 : Int) ≤ (2 ^ 63 - 1) / n := by
      refine Int.le_ediv_of_mul_le (by omega) ?_
      have h1 : (2 ^ 63 - 1) / (1000 : Int) * n ≤ (2 ^ 63 - 1) / (1000 : Int) * 1000 := Int.mul_le_mul_of_nonneg_left n1 (by decide)
      have h2 : (2 ^ 63 - 1) / (1000 : Int) * 1000 ≤ 2 ^ 63 - 1 := by decide
      omega
    have e2 : (1000 : Int) ≤ (2 ^ 63 - 1) / (1000 : Int) := by decide
    omega
  · have e : z.length * n.toNat ≤ 1000 * 1000 := Nat.mul_le_mul z1 (by omega)
    have e2 : 1000 * 1000 ≤ sizeLine := by decide
    show decide (z.length * n.toNat > sizeLine) = false
    exact decide_eq_false (by omega)
  · rw [if_neg (by omega), if_neg (by rw [nl, zl]; exact Bool.false_ne_true)]
    refine ⟨?_, ?_⟩
    · show (repS z n.toNat).length ≤ sizeLine
      rw [repS_len]
      have e : z.length * n.toNat ≤ 1000 * 1000 := Nat.mul_le_mul z1 (by omega)
      have e2 : 1000 * 1000 ≤ sizeLine := by decide
      rw [Nat.mul_comm]
      omega
    · exact ⟨.str (repS z n.toNat), H, I.tok _, ⟨_, rfl⟩, q⟩
end Ask

namespace Ask
open PySem L2 PySem.Spec PyProof.Rows
/-! ### a def's body at one surrounding, the law's call from the outside (where it is known that no repr is under way) -/
theorem fn_run {CX : CXT} {P : Program} {w : World} {K : PySem.W.Frag} {mg : Str → Option Value} {base : Heap} {k : Nat} {f : Addr} {x qual : Str} {st : Stmt} {fd : FuncData} {N ps : List Str} {A : Around} {outer : List Env} {s : Shared} {H : Hp} {args : Args} {us : List Value} {vs : List V} {Q : VK} {E : XK}
    (F : Fun K x qual st f fd) (S : FnScope N ps (defScope st)) (hr : Room (k + 1) A) (e0 : Env0 P w K mg base A outer s H) (bind : BindsTo s fd args (ps.zip us)) (r : Vals vs us) (hl : vs.length = ps.length)
    (body : ∀ cdv : Value, Room k (A.deeper (envOfC qual (defScope st) s.heap.objs.size f cdv)) → ∃ t, PSs (cxOf CX P w K mg base N qual (defScope st) f cdv A outer s H E) (defBody st) t ∧ t { nx := fun _ H' => Q .non H', rt := Q } (start N vs) H) :
    codeAny (model P w) A (.call (.ref f) args) (CR CX outer P w H s Q E) s := by
  obtain ⟨oc, od, kV, doc, pm, an, cdv, ct, osl, rfl, lk, hcd⟩ := F.ex
  have here : ∀ b o, base.get? b = some o → s.heap.get? b = some o := fun b o e => (e0.bs b o e).1
  have inK : K.In s.heap := e0.mod.kin.keeps here
  refine codeAny_call_function hr.depth (inK _ _ lk) rfl S.co S.gen rfl (PySem.W.codeRec_of inK hcd) (bind _ _ _ _ ?_)
  refine wpAny_newFunctionEnv_cells S.kind (fun ⟨n, v⟩ hy => ?_) fun env he s1 x1 => ?_
  · rcases S.par n (List.of_mem_zip hy).1 with q | q
    · exact .inl q
    · exact .inr ⟨q, PySem.W.cellsFrom_some _ _ _ (.inl q)⟩
  subst he
  refine ⟨(e0.mod.nolimit.keeps here).keeps x1.toInCall.keep, codeAny_func ?_⟩
  obtain ⟨t, ht, hq⟩ := body cdv (hr.deeper _)
  refine wpAny_mono (ht.run [] s1 (start N vs) H _ (inv_start S hr.hd e0 hl r x1) hq) (fun fl s' got => ?_) fun _ _ z => z
  cases fl with
  | ret u => obtain ⟨v, _, H', J, rv, z⟩ := got; exact ⟨v, H', J.os, J.bare, J.base, J.hok, rv, z⟩
  | next => obtain ⟨_, H', J, z⟩ := got; exact ⟨V.non, H', J.os, J.bare, J.base, J.hok, rfl, z⟩
  | brk => obtain ⟨_, _, _, z⟩ := got; exact False.elim z
  | cont => obtain ⟨_, _, _, z⟩ := got; exact False.elim z
/-- the script's own cell, locked; nothing else is tracked -/
def lone (a : Addr) (vs : List Value) (ns : List Int) : Hp := fun b => if b = a then some (.frz { cls := .type "list", data := .seq vs.toArray } (.lst (ns.map V.int))) else none
theorem law_at {P : Program} {w : World} {K : PySem.W.Frag} {mg mb : Str → Option Value} {fa a : Addr} {s₁ : Shared} {vs : List Value} {ns : List Int}
    (inK : K.In s₁.heap) (gl : s₁.heap.Ns mainGlobals mg) (bl : s₁.heap.Ns builtinsNs mb) (bt : ∀ x : Str, x ≠ "__name__" → mb x = bootBuiltins x) (lim : s₁.heap.NoLimit) (gs : s₁.gens = #[])
    (ha : s₁.heap.get? a = some { cls := .type "list", data := .seq vs.toArray }) (hi : IntsAre vs ns) (hl : ns.length ≤ sizeLine)
    (run : ∀ (base : Heap) (H : Hp), K.In base → base.Ns mainGlobals mg → Env0 P w K mg base callerA [] s₁ H → SqL K H a (ns.map V.int) →
      codeAny (model P w) callerA (.call (.ref fa) ⟨[.ref a], []⟩) (CR CX0 [] P w H s₁ (fun v _ => v = .bl true) E0) s₁) :
    codeAny (model P w) callerA (.call (.ref fa) ⟨[.ref a], []⟩) (fun r s' => r = .ok (.ret (.bool true)) ∧ OldK s₁.heap s'.heap ∧ s'.os = s₁.os ∧ AllBare s'.gens) s₁ := by
  have nums : Vals (ns.map V.int) vs := vals_ints hi
  have from_ : ∀ H : Hp, (∀ b, H b = none ∨ ∃ o xs, H b = some (.frz o (.lst xs))) → (∀ b u, H b = some u → b = a ∧ K.lookup a = none) → SqL K H a (ns.map V.int) → HOk P w H s₁.heap →
      codeAny (model P w) callerA (.call (.ref fa) ⟨[.ref a], []⟩) (fun r s' => r = .ok (.ret (.bool true)) ∧ OldK s₁.heap s'.heap ∧ s'.os = s₁.os ∧ AllBare s'.gens) s₁ := by
    intro H frz atA sq ok
    have free : ∀ {b : Addr}, b ≠ a → H b = none := fun {b} ne => by
      cases q : H b with
      | none => rfl
      | some u => exact absurd (atA b u q).1 ne
    have nsB : ∀ {b : Addr} {m : Str → Option Value}, s₁.heap.Ns b m → (hidT s₁.heap H).Ns b m := fun {b m} ⟨o, es, ep, e, dd, z⟩ => ⟨o, es, ep, hidT_get e (free fun q => by
      rw [q, ha] at e
      cases e
      have dd' : Data.seq vs.toArray _ = Data.dict es ep := dd
      cases dd'), dd, z⟩
    have kB : K.In (hidT s₁.heap H) := fun b o e => hidT_get (inK b o e) (by
      cases q : H b with
      | none => rfl
      | some u =>
        obtain ⟨rfl, no⟩ := atA b u q
        rw [no] at e
        cases e)
    obtain ⟨mc, l1, l2⟩ := lim
    have e0 : Env0 P w K mg (hidT s₁.heap H) callerA [] s₁ H :=
      ⟨rfl, ⟨kB, nsB gl, ⟨mb, nsB bl, bt⟩, ⟨mc, nsB l1, l2⟩⟩, fun b o e => of_hidT e, Nat.le_of_eq (hidT_size _ _), trivial, (fun b hb => absurd (show b ∈ ([] : List Addr) from hb) (by simp)), ok, .of_eq gs⟩
    refine codeAny_mono (run _ H kB (nsB gl) e0 sq) fun r s' z => ?_
    match r, z with
    | .error e, z => exact False.elim z
    | .ok .next, z => exact False.elim z
    | .ok .brk, z => exact False.elim z
    | .ok .cont, z => exact False.elim z
    | .ok (.ret u), z =>
      obtain ⟨v, H', os, bare, un, ok', rv, q⟩ := z
      have q : v = .bl true := q
      subst q
      obtain rfl : u = Value.bool true := rv
      refine ⟨rfl, OldK.of_keep fun b o e => ?_, os, bare⟩
      rcases frz b with n | ⟨ob, xs, y⟩
      · exact un.keep b o e n (by intro z; exact absurd (show b ∈ ([] : List Addr) from z) (by simp)) (by simp)
      · obtain ⟨e1, _⟩ := ok b _ y
        obtain ⟨e2, _⟩ := ok' b _ (un.frzs b ob _ y)
        rw [e] at e1
        cases e1
        exact e2
  cases hk : K.lookup a with
  | none =>
    have at_ : lone a vs ns a = some (.frz { cls := .type "list", data := .seq vs.toArray } (.lst (ns.map V.int))) := if_pos rfl
    have off : ∀ {b : Addr}, b ≠ a → lone a vs ns b = none := fun {b} ne => if_neg ne
    refine from_ (lone a vs ns) (fun b => ?_) (fun b u z => ?_) (.inl (.inr ⟨_, at_⟩)) (fun b u z => ?_)
    · by_cases h : b = a
      · exact .inr ⟨_, _, by rw [h]; exact at_⟩
      · exact .inl (off h)
    · by_cases h : b = a
      · exact ⟨h, hk⟩
      · rw [off h] at z
        cases z
    · by_cases h : b = a
      · subst h
        rw [at_] at z
        cases z
        exact ⟨ha, by rw [List.length_map]; exact hl, vs, _, nums, ha⟩
      · rw [off h] at z
        cases z
  | some o =>
    have e := inK a o hk
    rw [ha] at e
    cases e
    refine from_ (fun _ => none) (fun _ => .inl rfl) (fun b u z => by cases z) (.inr ⟨_, vs.toArray, _, hk, rfl, rfl, rfl, ?_, by simpa using nums⟩) (fun b u z => by cases z)
    rw [List.size_toArray, hi.length]
    exact hl
end Ask

namespace Ask
open PySem L2
theorem pe_gv {X : Cx} {x : Str} {v : V} {pos : Pos} (hg : Gl X x) (h : ∃ u, X.mg x = some u ∧ RelV v u) (hd : (x == ("__debug__" : Str)) = false := by decide) : PE X (.Name x pos) (tC v) := by
  obtain ⟨u, hm, r⟩ := h
  exact pe_glob hg hm r hd
theorem Same.upd_new {H H' : Hp} {p : Addr} {o : HO} (s : Same H H') (h : H p = none) : Same H (upd H' p o) := fun b u e => by
  rw [upd_ne (ne_of_none e h)]
  exact s b u e
theorem Same.made1 {H H' : Hp} {p : Addr} {o : HO} (s : Same H H') (h : H' p = none) : Same H (upd H' p o) := Ask.Same.upd_new s (s.free h)

/-! ### letters, by their signs -/
def smallL : List Nat := small.cps.toList
def signsL : List Nat := signs.cps.toList
def shortL (l : List Nat) : Bool := decide (1 ≤ l.length ∧ l.length ≤ 12) && (match l.head? with | some c => decide (c ∈ smallL) | none => false) && l.all (fun c => decide (c ∈ signsL))
def wordOf (l : List Nat) : List Nat := if l.head? = some 126 then l.drop 1 else l
def newW : Str := "new"
def foundW : Str := "found"
def goodW (z : Str) : Bool := shortL z.cps.toList && !(decide (newW = z) || decide (foundW = z))
def wordS (z : Str) : Str := ⟨(wordOf z.cps.toList).toArray⟩
def isLs (z : Str) : Bool := goodW (wordS z)
def isL : PyData → Bool
  | .str z => isLs z
  | _ => false
/-- the values that the lists of the law hold -/
def Itm (d : PyData) : Prop := d = .none ∨ d = .bool true ∨ d = .int 3 ∨ ∃ z : Str, z.length ≤ 500 ∧ Asc z ∧ (d = .str z ∨ d = .list [.str z] ∨ d = .tuple [.str z])
def isStrD : PyData → Bool
  | .str _ => true
  | _ => false
section
variable {K : PySem.W.Frag} {H : Hp} {v : V} {d : PyData}
theorem ty_list {a : Addr} {xs : List V} (h : SqL K H a xs) : TyX K H (.ref a) (.type "list") := by
  rcases h with (h | ⟨o, h⟩) | ⟨o, _, _, h, c, _⟩
  · exact .base (.lst h)
  · exact .base (.frz h)
  · exact .kList h c
theorem ty_tup {a : Addr} {xs : List V} (h : SqT K H a xs) : TyX K H (.ref a) (.type "tuple") := by
  rcases h with (h | ⟨o, h⟩) | ⟨o, _, _, h, c, _⟩
  · exact .base (.tup h)
  · exact .fTuple h
  · exact .kTuple h c
/-- isinstance(value, str) -/
theorem isi_str (h : Dp K H v d) (hi : Itm d) : ∃ t : Value, TyX K H v t ∧ PySem.W.kitOne K t (.type "str") = some (isStrD d) := by
  rcases hi with rfl | rfl | rfl | ⟨z, _, _, rfl | rfl | rfl⟩
  · cases h
    exact ⟨_, .base .non, kit_ty (by decide +kernel)⟩
  · cases h
    exact ⟨_, .base (.bl _), kit_ty (by decide +kernel)⟩
  · cases h
    exact ⟨_, .base (.int _), kit_ty (by decide +kernel)⟩
  · cases h
    exact ⟨_, .base (.str _), kit_ty (by show kitB "str" "str" = some true; decide +kernel)⟩
  · cases h with
    | lst hs _ => exact ⟨_, ty_list hs, kit_ty (by show kitB "list" "str" = some false; decide +kernel)⟩
  · cases h with
    | tup hs _ => exact ⟨_, ty_tup hs, kit_ty (by show kitB "tuple" "str" = some false; decide +kernel)⟩
end
theorem tl_len (z : Str) : z.cps.toList.length = z.length := by simp [Str.length]
/-- the constants of the package's text -/
structure Gv (K : PySem.W.Frag) (mg : Str → Option Value) : Prop where
  small : ∃ u, mg "SMALL_LETTERS" = some u ∧ RelV (.str small) u
  signs : ∃ u, mg "WORD_SIGNS" = some u ∧ RelV (.str signs) u
  most : ∃ u, mg "MOST_SIGNS" = some u ∧ RelV (.int 12) u
  begins : ∃ (t : Addr) (u : Value), mg "BEGINNINGS" = some u ∧ RelV (.ref t) u ∧ ∀ H, SqT K H t [.str newW, .str foundW]
  mostL : ∃ u, mg "MOST_LETTERS" = some u ∧ RelV (.int 12) u
section
variable {P : Program} {w : World} {K : PySem.W.Frag} {mg : Str → Option Value} {base : Heap}
/-! ### is_short_word -/
def spShort : Sp := fun vs H Q _ => ∃ z : Str, vs = [.str z] ∧ z.length ≤ 500 ∧ ∀ H', Same H H' → Q (.bl (shortL z.cps.toList)) H'
abbrev s_is_short_word : Stmt := top 5
theorem sc_is_short_word : FnScope ["value", "sign"] ["value"] (defScope s_is_short_word) := ⟨rfl, rfl, rfl, by decide +kernel, rfl, by decide +kernel, by decide +kernel⟩
theorem ok_short {f : Addr} {fd : FuncData} (F : Fun K "is_short_word" "is_short_word" s_is_short_word f fd) (T : Blt mg) (C : Gv K mg) : FnOk P w K mg base CX0 1 f fd ["value"] spShort := by
  refine F.ok sc_is_short_word (fun vs H Q E h => ?_) (fun cdv A outer s H vs Q E hr h => ?_)
  · obtain ⟨z, rfl, _⟩ := h
    rfl
  · obtain ⟨z, rfl, hz, k⟩ := h
    refine ⟨_, (pss_cons (ps_if (PW.pt (pw_or (pt_not (pt_val (pe_callB call_isi (by rfl) T.n_isinstance (by decide +kernel) (pa_cons (pv 0) (pa_cons (pe_bltn (v := .ty "str") (u := .type "str") rfl T.n_str (by decide +kernel) rfl) pa_nil))))) (pw_or1 (pt_not (pt_chain op_le op_le pe_int (pe_callB call_len_str (by rfl) T.n_len (by decide +kernel) (pa_cons (pv 0) pa_nil)) (pe_gv rfl C.most)))))) (pss_one (ps_ret pe_bl)) pss_nil)
      (pss_one (ps_ret (pe_and (pe_cmpR op_in_sign (pe_ix ix_str (pv 0) pe_int (fun _ _ => rfl)) (pe_gv rfl C.small) rfl) (pe_one (pe_callB (cr_all rfl) (by rfl) T.n_all (by decide +kernel) (pa_cons (pe_lc (own := [("sign", 1)]) rfl sc_is_short_word.nd (pi_str (pv 0)) (blkOk_by (N := ["value", "sign"]) (sc := defScope s_is_short_word) (by decide +kernel)) (fun _ _ _ _ _ => (pg_name (i := 1) sc_is_short_word.nd rfl (Or.inl rfl))) (fun _ _ _ _ _ => pts_nil) (fun _ _ _ _ _ => (pe_cmpR op_in_sign (pv 1) (pe_gv rfl C.signs) rfl))) pa_nil))))))), ?_⟩
    have z1 : (1000 : Nat) ≤ sizeLine := by decide
    have hl := tl_len z
    refine ⟨_, rfl, _, _, _, _, true, rfl, .ty _, .base (.str _), kit_ty (by decide +kernel), _, rfl, ?_⟩
    refine iteF ⟨_, rfl, z, rfl, by omega, _, _, rfl, rfl, _, rfl, ite2 (fun h1 => ?_) (fun h1 => ?_)⟩
    · have h1 : (1 : Int) ≤ (z.length : Nat) := of_decide_eq_true h1
      refine ⟨_, _, rfl, rfl, _, rfl, ite2 (fun h2 => ?_) (fun h2 => ?_)⟩
      · have h2 : ¬ ((z.length : Nat) : Int) ≤ 12 := fun q => by
          rw [decide_eq_true q] at h2
          cases h2
        have e : shortL z.cps.toList = false := by
          unfold shortL
          rw [decide_eq_false (by omega)]
          rfl
        have := k H (Same.refl H)
        rw [e] at this
        exact this
      · have h2 : ((z.length : Nat) : Int) ≤ 12 := Decidable.byContradiction fun q => h2 (by rw [decide_eq_false q]; rfl)
        obtain ⟨c, r, ec⟩ : ∃ c r, z.cps.toList = c :: r := by
          cases e : z.cps.toList with
          | nil =>
            rw [e] at hl
            have : (0 : Nat) = z.length := hl
            omega
          | cons c r => exact ⟨c, r, rfl⟩
        refine ⟨_, rfl, z, 0, c, rfl, rfl, by omega, by rw [ec]; exact at_by (j := 0) rfl rfl, c, small, rfl, rfl, _, rfl, ite2 (fun h3 => ?_) (fun h3 => ?_)⟩
        · refine ⟨_, rfl, z, rfl, fun L hL => ?_⟩
          refine lc_it walk_str (fun i H' => Same H H' ∧ H' L = some (.lst (((z.cps.toList.take i).map fun c => decide (c ∈ signsL)).map V.bl))) ⟨Ask.Same.upd_new (Same.refl H) hL, upd_same⟩ (fun _ _ _ _ => trivial) (fun i x H1 H2 hi h1 y => ?_) (fun H1 h1 => ?_)
          · obtain ⟨rfl, c', hc', rfl⟩ := y
            obtain ⟨sm, hLL⟩ := h1
            refine ⟨rfl, _, rfl, c', signs, rfl, rfl, _, hLL, ?_, Ask.Same.upd_new sm hL, ?_⟩
            · rw [List.length_map, List.length_map, List.length_take]
              omega
            · rw [upd_same]
              have hc2 : z.cps.toList[i]? = some c' := by rw [Array.getElem?_toList]; exact hc'
              rw [List.take_add_one, hc2]
              simp only [Option.toList_some, List.map_append, List.map_cons, List.map_nil]
              rfl
          · obtain ⟨sm, hLL⟩ := h1
            refine ⟨L, _, rfl, SqL.of hLL, ?_⟩
            have e0 : z.cps.toList.take z.cps.size = z.cps.toList := List.take_of_length_le (by simp)
            rw [e0]
            have e : shortL z.cps.toList = (z.cps.toList.map fun c => decide (c ∈ signsL)).all id := by
              unfold shortL
              rw [decide_eq_true (by omega), ec]
              simp only [List.head?_cons, Bool.true_and]
              rw [show decide (c ∈ smallL) = true from h3, Bool.true_and, List.all_map]
              rfl
            have := k H1 sm
            rw [e] at this
            exact this
        · have e : shortL z.cps.toList = false := by
            unfold shortL
            rw [ec]
            simp only [List.head?_cons]
            rw [show decide (c ∈ smallL) = false from (Bool.not_eq_true _).mp h3, Bool.and_false, Bool.false_and]
          have := k H (Same.refl H)
          rw [e] at this
          exact this
    · have h1 : ¬ (1 : Int) ≤ (z.length : Nat) := fun q => h1 (decide_eq_true q)
      have e : shortL z.cps.toList = false := by
        unfold shortL
        rw [decide_eq_false (by omega)]
        rfl
      refine ⟨_, rfl, ite2 (fun _ => ?_) (fun q => absurd rfl q)⟩
      have := k H (Same.refl H)
      rw [e] at this
      exact this
end
end Ask

namespace Ask
open PySem L2
theorem str_ext {a b : Str} (h : a.cps.toList = b.cps.toList) : a = b := by
  obtain ⟨a⟩ := a
  obtain ⟨b⟩ := b
  have h : a.toList = b.toList := h
  rw [Array.toList_inj.mp h]
theorem starts_tilde (z : Str) : Txt.startswith z (Str.ofString "~") = decide (z.cps.toList.head? = some 126) := by
  obtain ⟨⟨l⟩⟩ := z
  unfold Txt.startswith Builtin.Str.subAt
  have e1 : (Str.ofString "~").cps = #[126] := by decide +kernel
  have e2 : (Str.ofString "~").length = 1 := by decide +kernel
  rw [e1, e2]
  cases l with
  | nil => rfl
  | cons c r =>
    have e3 : (⟨(c :: r)⟩ : Array Nat).extract 0 (0 + 1) = #[c] := by simp
    show (decide (0 + 1 ≤ (c :: r).length) && ((⟨(c :: r)⟩ : Array Nat).extract 0 (0 + 1) == #[126])) = decide (some c = some 126)
    rw [e3, decide_eq_true (by simp), Bool.true_and]
    by_cases h : c = 126
    · subst h
      rfl
    · rw [decide_eq_false (by intro q; exact h (Option.some.inj q))]
      simpa using h
theorem cut_rest (z : Str) : cutS z (some 1) none = ⟨(z.cps.toList.drop 1).toArray⟩ := by
  unfold cutS
  rw [show (some (1 : Int)) = some ((1 : Nat) : Int) from rfl, HT.sIx_nat, HT.sIx_none]
  have hl := tl_len z
  by_cases h : z.length = 0
  · have e : z.cps.toList = [] := List.length_eq_zero_iff.mp (by omega)
    rw [e]
    simp
  · have e : min 1 z.length = 1 := by omega
    rw [e, List.take_of_length_le (by rw [List.length_drop]; omega)]
theorem cut_head (z : Str) : cutS z none (some 1) = ⟨(z.cps.toList.take 1).toArray⟩ := by
  unfold cutS
  rw [show (some (1 : Int)) = some ((1 : Nat) : Int) from rfl, HT.sIx_nat, HT.sIx_none]
  have hl := tl_len z
  by_cases h : z.length = 0
  · have e : z.cps.toList = [] := List.length_eq_zero_iff.mp (by omega)
    rw [e]
    simp
  · have e : min 1 z.length = 1 := by omega
    rw [e, List.drop_zero]
theorem head_tilde (z : Str) : decide (V.str (cutS z none (some 1)) = V.str (Str.ofString "~")) = decide (z.cps.toList.head? = some 126) := by
  rw [cut_head]
  have e1 : (Str.ofString "~").cps.toList = [126] := by decide +kernel
  refine decide_eq_decide.mpr ⟨fun h => ?_, fun h => ?_⟩
  · have h2 : (⟨(z.cps.toList.take 1).toArray⟩ : Str) = Str.ofString "~" := V.str.inj h
    have h3 : z.cps.toList.take 1 = [126] := by
      have := congrArg (fun s : Str => s.cps.toList) h2
      rw [e1] at this
      simpa using this
    cases e : z.cps.toList with
    | nil =>
      rw [e] at h3
      cases h3
    | cons c r =>
      rw [e] at h3
      simp at h3
      rw [h3]
      rfl
  · congr 1
    refine str_ext ?_
    rw [e1]
    cases e : z.cps.toList with
    | nil =>
      rw [e] at h
      cases h
    | cons c r =>
      rw [e] at h
      cases h
      simp
theorem word_tilde {z : Str} (h : decide (z.cps.toList.head? = some 126) = true) : cutS z (some 1) none = wordS z := by
  rw [cut_rest]
  unfold wordS wordOf
  rw [if_pos (of_decide_eq_true h)]
theorem word_plain {z : Str} (h : ¬ decide (z.cps.toList.head? = some 126) = true) : z = wordS z := by
  unfold wordS wordOf
  rw [if_neg fun q => h (decide_eq_true q)]
theorem word_len (z : Str) : (wordS z).length ≤ z.length := by
  unfold wordS wordOf
  have hl := tl_len z
  split
  · show (z.cps.toList.drop 1).toArray.size ≤ _
    rw [List.size_toArray, List.length_drop]
    omega
  · show z.cps.toList.toArray.size ≤ _
    rw [List.size_toArray]
    omega
theorem eq_V (a b : Str) : eqV (.str a) (.str b) = decide (a = b) := by
  show (a == b) = _
  by_cases h : a = b
  · subst h; simp
  · rw [decide_eq_false h]
    simpa using h
section
variable {P : Program} {w : World} {K : PySem.W.Frag} {mg : Str → Option Value} {base : Heap}
def spIsL (K : PySem.W.Frag) : Sp := fun vs H Q _ => ∃ (v : V) (d : PyData), vs = [v] ∧ Dp K H v d ∧ Itm d ∧ ∀ H', Same H H' → Q (.bl (isL d)) H'
theorem itm_str {d : PyData} (hi : Itm d) (h : isStrD d = true) : ∃ z : Str, d = .str z ∧ z.length ≤ 500 ∧ Asc z := by
  rcases hi with rfl | rfl | rfl | ⟨z, h1, h2, rfl | rfl | rfl⟩
  · cases h
  · cases h
  · cases h
  · exact ⟨z, rfl, h1, h2⟩
  · cases h
  · cases h
theorem not_str {d : PyData} (h : ¬ isStrD d = true) : isL d = false := by
  cases d <;> first | rfl | exact absurd rfl h
/-! ### is_letter, the package's -/
abbrev s_is_letter : Stmt := top 17
theorem sc_is_letter : FnScope ["value", "word"] ["value"] (defScope s_is_letter) := ⟨rfl, rfl, rfl, by decide +kernel, rfl, by decide +kernel, by decide +kernel⟩
theorem ok_is_letter {f fS : Addr} {fd fdS : FuncData} (F : Fun K "is_letter" "is_letter" s_is_letter f fd) (T : Blt mg) (C : Gv K mg) (GS : FnOk P w K mg base CX0 1 fS fdS ["value"] spShort) (S : At K mg "is_short_word" fS fdS ["value"]) :
    FnOk P w K mg base CX0 2 f fd ["value"] (spIsL K) := by
  refine F.ok sc_is_letter (fun vs H Q E h => ?_) (fun cdv A outer s H vs Q E hr h => ?_)
  · obtain ⟨v, d, rfl, _⟩ := h
    rfl
  · obtain ⟨v, d, rfl, hd, hi, k⟩ := h
    obtain ⟨tB, uB, mB, rB, qB⟩ := C.begins
    refine ⟨_, (pss_cons (ps_if (pt_not (pt_val (pe_callB call_isi (by rfl) T.n_isinstance (by decide +kernel) (pa_cons (pv 0) (pa_cons (pe_bltn (v := .ty "str") (u := .type "str") rfl T.n_str (by decide +kernel) rfl) pa_nil))))) (pss_one (ps_ret pe_bl)) pss_nil)
      (pss_cons (ps_set (i := 1) sc_is_letter.nd rfl (Or.inl rfl) (pe_ifExp (pt_val (pe_m1 PySem.F.slot_str_startswith PySem.F.type_str_startswith mt_startswith (pv 0) pe_str)) (pe_slice sl_str (pv 0) (po_some pe_int) po_none) (pv 0)))
      (pss_one (ps_ret (pe_and (pe_call GS hr (by rfl) S.m S.k S.b .nil pass0 (pa_cons (pv 1) pa_nil)) (pe_one (pe_cmpR op_notIn_seq (pv 1) (pe_glob rfl mB rB) rfl))))))), ?_⟩
    obtain ⟨ty, hty, hkt⟩ := isi_str hd hi
    refine ⟨_, rfl, v, _, ty, _, isStrD d, rfl, .ty _, hty, hkt, _, rfl, ite2 (fun h1 => ?_) (fun h1 => ?_)⟩
    · have h1 : ¬ isStrD d = true := by intro q; rw [q] at h1; cases h1
      have := k H (Same.refl H)
      rw [not_str h1] at this
      exact this
    · have h1 : isStrD d = true := by
        cases q : isStrD d with
        | true => rfl
        | false => rw [q] at h1; exact absurd rfl h1
      obtain ⟨z, rfl, hz, az⟩ := itm_str hi h1
      cases hd
      have z1 : (1000 : Nat) ≤ sizeLine := by decide
      try dsimp only [tNext]
      refine seqIf_cut (fun v H' => v = .str (wordS z) ∧ H' = H) (fun Q' q' => ?_) (fun v H' hv => ?_)
      · refine ⟨_, rfl, ⟨_, rfl⟩, z, _, rfl, rfl, _, rfl, ?_⟩
        rw [starts_tilde]
        refine ite2 (fun h => ?_) (fun h => ?_)
        · exact ⟨_, rfl, _, rfl, z, rfl, by omega, q' _ _ ⟨by rw [word_tilde h], rfl⟩⟩
        · exact ⟨_, rfl, q' _ _ ⟨by rw [← word_plain h], rfl⟩⟩
      · obtain ⟨rfl, rfl⟩ := hv
        have hw := word_len z
        refine ⟨_, rfl, wordS z, rfl, by omega, fun H1 s1 => ⟨_, rfl, ite2 (fun h => ?_) (fun h => ?_)⟩⟩
        · refine ⟨_, rfl, tB, _, rfl, .inr (qB H1), rfl, rfl, ?_⟩
          have e : isL (.str z) = !inV (.str (wordS z)) [.str newW, .str foundW] := by
            show goodW (wordS z) = _
            unfold goodW
            rw [h, Bool.true_and]
            unfold inV
            simp only [List.any_cons, List.any_nil, Bool.or_false, eq_V]
          have := k H1 s1
          rw [e] at this
          exact this
        · have e : isL (.str z) = false := by
            show goodW (wordS z) = _
            unfold goodW
            rw [(Bool.not_eq_true _).mp h, Bool.false_and]
          have := k H1 s1
          rw [e] at this
          exact this
end
end Ask

namespace Ask
open PySem L2
/-! ### what the library asks of data -/
theorem asc_ok {z : Str} (h : Asc z) : PyData.strOk z = true := by
  unfold PyData.strOk
  rw [← Array.all_toList, List.all_eq_true]
  intro c hc
  have := h c hc
  exact decide_eq_true (by omega)
structure Fit (d : PyData) : Prop where
  lay : d.canLay0 = true
  dep : d.depth ≤ 1
  sho : d.showable = true
  nod : d.hasDict = false
  len : d.shown.length ≤ 6000
theorem fit_str {z : Str} (h1 : z.length ≤ 500) (h2 : Asc z) : Fit (.str z) ∧ (PyData.shown (.str z)).length ≤ 5100 := by
  have l := StrLaws.reprText_len z (fun c hc => by have := h2 c hc; omega)
  have l2 : (PyData.shown (.str z)).length ≤ 5100 := by
    show (reprText z).length ≤ 5100
    omega
  exact ⟨⟨asc_ok h2, Nat.zero_le _, rfl, rfl, by omega⟩, l2⟩
theorem itm_fit {d : PyData} (h : Itm d) : Fit d := by
  rcases h with rfl | rfl | rfl | ⟨z, h1, h2, rfl | rfl | rfl⟩
  · exact ⟨rfl, by decide, rfl, rfl, by decide⟩
  · exact ⟨rfl, by decide, rfl, rfl, by decide⟩
  · exact ⟨rfl, by decide, by decide, rfl, by decide⟩
  · exact (fit_str h1 h2).1
  · obtain ⟨f, l⟩ := fit_str h1 h2
    refine ⟨?_, by show max 0 0 + 1 ≤ 1; decide, rfl, rfl, ?_⟩
    · show (PyData.canLay0 (.str z) && true) = true
      rw [f.lay] <;> rfl
    · have := listText_len_le [PyData.shown (.str z)]
      show (listText [PyData.shown (.str z)]).length ≤ 6000
      simp only [List.map_cons, List.map_nil, List.sum_cons, List.sum_nil, List.length_cons, List.length_nil] at this
      omega
  · obtain ⟨f, l⟩ := fit_str h1 h2
    refine ⟨?_, by show max 0 0 + 1 ≤ 1; decide, rfl, rfl, ?_⟩
    · show (PyData.canLay0 (.str z) && true) = true
      rw [f.lay] <;> rfl
    · have := tupleText_len_le [PyData.shown (.str z)]
      show (tupleText [PyData.shown (.str z)]).length ≤ 6000
      simp only [List.map_cons, List.map_nil, List.sum_cons, List.sum_nil, List.length_cons, List.length_nil] at this
      omega
structure FitAll (ds : List PyData) : Prop where
  lay : PyData.canLayAll0 ds = true
  dep : PyData.depthAll ds ≤ 1
  sho : PyData.showableAll ds = true
  nod : PyData.hasDictAll ds = false
  len : ((PyData.shownAll ds).map (·.length)).sum ≤ 6000 * ds.length
  cnt : (PyData.shownAll ds).length = ds.length
theorem fit_all : ∀ {ds : List PyData}, (∀ d ∈ ds, Fit d) → FitAll ds
  | [], _ => ⟨rfl, Nat.zero_le _, rfl, rfl, Nat.le_refl _, rfl⟩
  | d :: r, h => by
    have f := h d (List.mem_cons_self ..)
    have g := fit_all (ds := r) fun x hx => h x (List.mem_cons_of_mem _ hx)
    refine ⟨?_, ?_, ?_, ?_, ?_, ?_⟩
    · show (PyData.canLay0 d && PyData.canLayAll0 r) = true
      rw [f.lay, g.lay] <;> rfl
    · show max (PyData.depth d) (PyData.depthAll r) ≤ 1
      exact Nat.max_le.mpr ⟨f.dep, g.dep⟩
    · show (PyData.showable d && PyData.showableAll r) = true
      rw [f.sho, g.sho] <;> rfl
    · show (PyData.hasDict d || PyData.hasDictAll r) = false
      rw [f.nod, g.nod] <;> rfl
    · show ((PyData.shown d :: PyData.shownAll r).map (·.length)).sum ≤ 6000 * (r.length + 1)
      rw [List.map_cons, List.sum_cons]
      have := f.len
      have := g.len
      omega
    · show (PyData.shown d :: PyData.shownAll r).length = r.length + 1
      rw [List.length_cons, g.cnt]
theorem shaped_of {d : PyData} (h : d.canLay0 = true) (k : d.depth ≤ 64) : SeqAt.shaped d = true := by
  unfold SeqAt.shaped
  rw [h, decide_eq_true k] <;> rfl
theorem FitAll.shapedL {ds : List PyData} (f : FitAll ds) : SeqAt.shaped (.list ds) = true :=
  shaped_of f.lay (by show PyData.depthAll ds + 1 ≤ 64; have := f.dep; omega)
theorem FitAll.shapedT {ds : List PyData} (f : FitAll ds) : SeqAt.shaped (.tuple ds) = true :=
  shaped_of f.lay (by show PyData.depthAll ds + 1 ≤ 64; have := f.dep; omega)
theorem Fit.shaped {d : PyData} (f : Fit d) : SeqAt.shaped d = true := shaped_of f.lay (by have := f.dep; omega)
theorem dp_strs {K : PySem.W.Frag} {H : Hp} : ∀ ys : List Str, DpAll K H (ys.map V.str) (ys.map PyData.str)
  | [] => .nil
  | y :: r => .cons (.str y) (dp_strs r)
theorem fit_strs {ys : List Str} (h : ∀ y ∈ ys, y.length ≤ 500 ∧ Asc y) : FitAll (ys.map PyData.str) := fit_all fun d hd => by
  obtain ⟨y, hy, rfl⟩ := List.mem_map.mp hd
  exact (fit_str (h y hy).1 (h y hy).2).1
theorem eqv_nil : ∀ ds : List PyData, PyData.eqv (.list ds) (.list []) = ds.isEmpty
  | [] => by simp [PyData.eqv, PyData.eqvAll]
  | _ :: _ => by simp [PyData.eqv, PyData.eqvAll]
theorem asc_word {z : Str} (h : Asc z) : Asc (wordS z) := fun c hc => by
  have hc : c ∈ wordOf z.cps.toList := by simpa [wordS] using hc
  unfold wordOf at hc
  split at hc
  · exact h c (List.mem_of_mem_drop hc)
  · exact h c hc
end Ask

namespace Ask
open PySem L2
/-! ### the letters that the laws make are letters, and different ones -/
def fixS (z : Str) : Str := if z = newW ∨ z = foundW then z ++ ("0" : Str) else z
def tildeS : Str := "~"
structure Wds (wd : Nat → Str) (M : Nat) : Prop where
  good : ∀ k, k < M → goodW (wd k) = true
  inj : ∀ j k, j < M → k < M → wd j = wd k → j = k
theorem app_list (a b : Str) : (a ++ b).cps.toList = a.cps.toList ++ b.cps.toList := by rw [Str.cps_append, Array.toList_append]
theorem good_short {z : Str} (h : goodW z = true) : shortL z.cps.toList = true := by
  unfold goodW at h
  exact (Bool.and_eq_true_iff.mp h).1
theorem short_len {l : List Nat} (h : shortL l = true) : 1 ≤ l.length ∧ l.length ≤ 12 := by
  unfold shortL at h
  exact of_decide_eq_true (Bool.and_eq_true_iff.mp (Bool.and_eq_true_iff.mp h).1).1
theorem short_signs {l : List Nat} (h : shortL l = true) : ∀ c ∈ l, c ∈ signsL := by
  unfold shortL at h
  exact fun c hc => of_decide_eq_true (List.all_eq_true.mp (Bool.and_eq_true_iff.mp h).2 c hc)
theorem short_head {l : List Nat} (h : shortL l = true) : ∃ c r, l = c :: r ∧ c ∈ smallL := by
  unfold shortL at h
  have h2 := (Bool.and_eq_true_iff.mp (Bool.and_eq_true_iff.mp h).1).2
  cases l with
  | nil => cases h2
  | cons c r => exact ⟨c, r, rfl, of_decide_eq_true h2⟩
theorem short_mk {c : Nat} {r : List Nat} (h1 : (c :: r).length ≤ 12) (h2 : c ∈ smallL) (h3 : ∀ d ∈ c :: r, d ∈ signsL) : shortL (c :: r) = true := by
  unfold shortL
  rw [decide_eq_true ⟨by simp, h1⟩]
  simp only [List.head?_cons, decide_eq_true h2, Bool.true_and]
  exact List.all_eq_true.mpr fun d hd => decide_eq_true (h3 d hd)
theorem signs_asc' : ∀ c ∈ signsL, c < 128 := signs_asc
theorem small_no : ¬ 126 ∈ smallL := by decide +kernel
theorem small_signs : ∀ c ∈ smallL, c ∈ signsL := by
  have h : smallL.all (fun c => decide (c ∈ signsL)) = true := by decide +kernel
  exact fun c hc => of_decide_eq_true (List.all_eq_true.mp h c hc)
theorem good_asc {z : Str} (h : goodW z = true) : Asc z := fun c hc => signs_asc' c (short_signs (good_short h) c hc)
theorem good_len {z : Str} (h : goodW z = true) : z.length ≤ 12 := by
  have := short_len (good_short h)
  rw [tl_len] at this
  exact this.2
theorem good_no {z : Str} (h : goodW z = true) : z.cps.toList.head? ≠ some 126 := by
  obtain ⟨c, r, e, hc⟩ := short_head (good_short h)
  rw [e]
  intro q
  cases q
  exact small_no hc
theorem word_same {z : Str} (h : z.cps.toList.head? ≠ some 126) : wordS z = z := by
  refine str_ext ?_
  show (wordOf z.cps.toList).toArray.toList = _
  unfold wordOf
  rw [if_neg h]
theorem good_is {z : Str} (h : goodW z = true) : isLs z = true := by
  unfold isLs
  rw [word_same (good_no h)]
  exact h
theorem tilde_is {z : Str} (h : goodW z = true) : isLs (tildeS ++ z) = true := by
  unfold isLs
  have e : wordS (tildeS ++ z) = z := by
    refine str_ext ?_
    show (wordOf (tildeS ++ z).cps.toList).toArray.toList = _
    have e2 : (tildeS ++ z).cps.toList = 126 :: z.cps.toList := by
      rw [app_list]
      have : tildeS.cps.toList = [126] := by decide +kernel
      rw [this]
      rfl
    rw [e2]
    rfl
  rw [e]
  exact h
theorem fix_good {z : Str} (h : shortL z.cps.toList = true) : goodW (fixS z) = true := by
  unfold fixS
  split
  · rename_i q
    rcases q with rfl | rfl <;> decide +kernel
  · rename_i q
    unfold goodW
    rw [h, decide_eq_false (fun e => q (.inl e.symm)), decide_eq_false (fun e => q (.inr e.symm))]
    rfl
theorem fix_at {z : Str} {a : Nat} (h : a < z.cps.toList.length) : (fixS z).cps.toList[a]? = z.cps.toList[a]? := by
  unfold fixS
  split
  · rw [app_list, List.getElem?_append_left h]
  · rfl
theorem wds_mk {wd : Nat → Str} {M : Nat} {S : List Nat} {a : Nat} {sg : Nat → Nat} {T : Nat → List Nat} (ha : a ≤ S.length) (hl : S.length ≤ 11) (hs : ∀ c ∈ S, c ∈ signsL) (hh : ∀ c, S.head? = some c → c ∈ smallL)
    (h1 : ∀ k, k < M → sg k ∈ signsL) (h0 : a = 0 → ∀ k, k < M → sg k ∈ smallL) (inj : ∀ j k, j < M → k < M → sg j = sg k → j = k) (hT : ∀ k, (∀ c ∈ T k, c ∈ signsL) ∧ (T k).length ≤ S.length - a)
    (e : ∀ k, k < M → ∃ z, wd k = fixS z ∧ z.cps.toList = S.take a ++ sg k :: T k) : Wds wd M := by
  refine ⟨fun k hk => ?_, fun j k hj hk q => ?_⟩
  · obtain ⟨z, e1, e2⟩ := e k hk
    rw [e1]
    refine fix_good ?_
    rw [e2]
    have len : (S.take a ++ sg k :: T k).length ≤ 12 := by
      rw [List.length_append, List.length_cons, List.length_take]
      have := (hT k).2
      omega
    have mem : ∀ c ∈ S.take a ++ sg k :: T k, c ∈ signsL := fun c hc => by
      rcases List.mem_append.mp hc with q | q
      · exact hs c (List.mem_of_mem_take q)
      · rcases List.mem_cons.mp q with rfl | q
        · exact h1 k hk
        · exact (hT k).1 c q
    cases a with
    | zero =>
      rw [List.take_zero, List.nil_append] at len mem ⊢
      exact short_mk len (h0 rfl k hk) mem
    | succ a =>
      cases S with
      | nil => simp at ha
      | cons c r =>
        rw [List.take_succ_cons, List.cons_append] at len mem ⊢
        exact short_mk len (hh c rfl) mem
  · obtain ⟨y, e1, e2⟩ := e j hj
    obtain ⟨z, e3, e4⟩ := e k hk
    have l1 : (S.take a).length = a := by rw [List.length_take]; omega
    have p1 : y.cps.toList[a]? = some (sg j) := by
      rw [e2, List.getElem?_append_right (by omega), l1, Nat.sub_self]
      rfl
    have p2 : z.cps.toList[a]? = some (sg k) := by
      rw [e4, List.getElem?_append_right (by omega), l1, Nat.sub_self]
      rfl
    have a1 : a < y.cps.toList.length := by rw [e2, List.length_append, List.length_cons]; omega
    have a2 : a < z.cps.toList.length := by rw [e4, List.length_append, List.length_cons]; omega
    have q2 : (fixS y).cps.toList[a]? = (fixS z).cps.toList[a]? := by rw [← e1, ← e3, q]
    rw [fix_at a1, fix_at a2, p1, p2] at q2
    exact inj j k hj hk (Option.some.inj q2)
/-- the signs of a row of different places -/
theorem step_inj {n f s j k : Nat} (hn : n = 26 ∨ n = 36) (hs : s ∈ [1, 5, 7, 11, 17, 19, 23, 25]) (hj : j < 26) (hk : k < 26) (h : (f + s * j) % n = (f + s * k) % n) : j = k := by
  simp only [List.mem_cons, List.not_mem_nil, or_false] at hs
  rcases hn with rfl | rfl <;> rcases hs with rfl | rfl | rfl | rfl | rfl | rfl | rfl | rfl <;> omega
theorem nodup_at {l : List Nat} (h : l.Nodup) {i j : Nat} {c : Nat} (h1 : l[i]? = some c) (h2 : l[j]? = some c) : i = j := by
  exact (List.getElem?_inj (List.getElem?_eq_some_iff.mp h1).1 h).mp (h1.trans h2.symm)
theorem small_nodup : smallL.Nodup := by decide +kernel
theorem signs_nodup : signsL.Nodup := by decide +kernel
/-! ### what stands behind i turns -/
structure Iv (wd : Nat → Str) (ys : List Str) (i : Nat) : Prop where
  len : ys.length = i
  from_ : ∀ y ∈ ys, ∃ j, j < i ∧ (y = wd j ∨ y = tildeS ++ wd j)
  nd : ys.Nodup
  last : ∀ l, ys.getLast? = some l → l.cps.toList.head? ≠ some 126 → ¬ (tildeS ++ l) ∈ ys
section
variable {wd : Nat → Str} {M i : Nat} {ys : List Str}
theorem tilde_inj {a b : Str} (h : tildeS ++ a = tildeS ++ b) : a = b := by
  have h2 := congrArg (fun z : Str => z.cps.toList) h
  simp only [app_list] at h2
  exact str_ext (List.append_cancel_left h2)
theorem tilde_head (a : Str) : (tildeS ++ a).cps.toList.head? = some 126 := by
  rw [app_list]
  have : tildeS.cps.toList = [126] := by decide +kernel
  rw [this]
  rfl
theorem Iv.nil : Iv wd [] 0 := ⟨rfl, fun _ h => by simp at h, List.nodup_nil, fun _ h => by simp at h⟩
theorem Iv.fresh (v : Iv wd ys i) (w : Wds wd M) (hi : i < M) : ¬ wd i ∈ ys ∧ ¬ (tildeS ++ wd i) ∈ ys := by
  refine ⟨fun h => ?_, fun h => ?_⟩
  · obtain ⟨j, hj, e | e⟩ := v.from_ _ h
    · have := w.inj i j hi (by omega) e
      omega
    · exact good_no (w.good i hi) (by rw [e]; exact tilde_head _)
  · obtain ⟨j, hj, e | e⟩ := v.from_ _ h
    · exact good_no (w.good j (by omega)) (by rw [← e]; exact tilde_head _)
    · have := w.inj i j hi (by omega) (tilde_inj e)
      omega
theorem nodup_app {ys : List Str} {y : Str} (h : ys.Nodup) (n : ¬ y ∈ ys) : (ys ++ [y]).Nodup := by
  rw [List.nodup_append]
  refine ⟨h, by simp, fun a ha b hb q => ?_⟩
  rw [List.mem_singleton.mp hb] at q
  rw [q] at ha
  exact n ha
theorem Iv.plain (v : Iv wd ys i) (w : Wds wd M) (hi : i < M) : Iv wd (ys ++ [wd i]) (i + 1) := by
  obtain ⟨f1, f2⟩ := v.fresh w hi
  refine ⟨by rw [List.length_append, v.len]; rfl, fun y hy => ?_, nodup_app v.nd f1, fun l hl hn => ?_⟩
  · rcases List.mem_append.mp hy with q | q
    · obtain ⟨j, hj, e⟩ := v.from_ y q
      exact ⟨j, by omega, e⟩
    · exact ⟨i, by omega, .inl (List.mem_singleton.mp q)⟩
  · rw [List.getLast?_concat] at hl
    cases hl
    intro q
    rcases List.mem_append.mp q with q | q
    · exact f2 q
    · exact good_no (w.good i hi) (by rw [← List.mem_singleton.mp q]; exact tilde_head _)
theorem Iv.tilde (v : Iv wd ys i) (w : Wds wd M) (hi : i < M) : Iv wd (ys ++ [tildeS ++ wd i]) (i + 1) := by
  obtain ⟨f1, f2⟩ := v.fresh w hi
  refine ⟨by rw [List.length_append, v.len]; rfl, fun y hy => ?_, nodup_app v.nd f2, fun l hl hn => ?_⟩
  · rcases List.mem_append.mp hy with q | q
    · obtain ⟨j, hj, e⟩ := v.from_ y q
      exact ⟨j, by omega, e⟩
    · exact ⟨i, by omega, .inr (List.mem_singleton.mp q)⟩
  · rw [List.getLast?_concat] at hl
    cases hl
    exact absurd (tilde_head _) hn
theorem Iv.again (v : Iv wd ys i) {l : Str} (hl : ys.getLast? = some l) (hn : l.cps.toList.head? ≠ some 126) : Iv wd (ys ++ [tildeS ++ l]) (i + 1) := by
  have ml : l ∈ ys := List.mem_of_getLast? hl
  refine ⟨by rw [List.length_append, v.len]; rfl, fun y hy => ?_, nodup_app v.nd (v.last l hl hn), fun k hk hn' => ?_⟩
  · rcases List.mem_append.mp hy with q | q
    · obtain ⟨j, hj, e⟩ := v.from_ y q
      exact ⟨j, by omega, e⟩
    · obtain ⟨j, hj, e | e⟩ := v.from_ l ml
      · exact ⟨j, by omega, .inr (by rw [List.mem_singleton.mp q, e])⟩
      · exact absurd (by rw [e]; exact tilde_head _) hn
  · rw [List.getLast?_concat] at hk
    cases hk
    exact absurd (tilde_head _) hn'
/-- at the end: letters, different ones -/
theorem Iv.ends (v : Iv wd ys i) (w : Wds wd M) (hi : i ≤ M) : ys.length = i ∧ ys.Nodup ∧ ∀ y ∈ ys, isLs y = true ∧ y.length ≤ 13 ∧ Asc y := by
  refine ⟨v.len, v.nd, fun y hy => ?_⟩
  obtain ⟨j, hj, e⟩ := v.from_ y hy
  have g := w.good j (by omega)
  rcases e with rfl | rfl
  · exact ⟨good_is g, by have := good_len g; omega, good_asc g⟩
  · refine ⟨tilde_is g, ?_, Asc.app (.lit (by decide +kernel)) (good_asc g)⟩
    rw [Str.length_append]
    have := good_len g
    show 1 + _ ≤ 13
    omega
end
end Ask

namespace Ask
open PySem L2
theorem join_ones : ∀ cs : List Nat, (Str.join (Str.ofString "") (cs.map fun c => (⟨#[c]⟩ : Str))).cps.toList = cs
  | [] => rfl
  | [c] => rfl
  | c :: d :: r => by
    show (((⟨#[c]⟩ : Str) ++ Str.ofString "") ++ Str.join (Str.ofString "") ((d :: r).map fun c => (⟨#[c]⟩ : Str))).cps.toList = _
    rw [app_list, app_list, join_ones (d :: r)]
    rfl
theorem joinT_ones (cs : List Nat) : (Txt.join (Str.ofString "") (cs.map fun c => (⟨#[c]⟩ : Str))).cps.toList = cs := by
  rw [TL.join_eq]
  exact join_ones cs
theorem cut_pre (z : Str) (n : Nat) : (cutS z none (some (n : Int))).cps.toList = z.cps.toList.take n := by
  unfold cutS
  rw [HT.sIx_none, HT.sIx_nat, List.drop_zero, Nat.sub_zero]
  have hl := tl_len z
  by_cases h : n ≤ z.length
  · rw [Nat.min_eq_left h]
  · rw [Nat.min_eq_right (by omega), List.take_of_length_le (by omega), List.take_of_length_le (by omega)]
theorem cut_suf (z : Str) (n : Nat) : (cutS z (some (n : Int)) none).cps.toList = z.cps.toList.drop n := by
  unfold cutS
  rw [HT.sIx_none, HT.sIx_nat]
  have hl := tl_len z
  by_cases h : n ≤ z.length
  · rw [Nat.min_eq_left h, List.take_of_length_le (by rw [List.length_drop]; omega)]
  · rw [Nat.min_eq_right (by omega), List.drop_of_length_le (by omega), List.drop_of_length_le (by omega)]
    simp
theorem cut_mem {z : Str} {lo hi : Option Int} {c : Nat} (h : c ∈ (cutS z lo hi).cps.toList) : c ∈ z.cps.toList := List.mem_of_mem_drop (List.mem_of_mem_take h)
/-- the sign of turn k -/
def sgN (zc : Str) (fr s k : Nat) : Nat := (zc.cps.toList[(fr + s * k) % zc.length]?).getD 0
theorem sgN_at (zc : Str) (fr s k : Nat) (h : 0 < zc.length) : zc.cps.toList[(fr + s * k) % zc.length]? = some (sgN zc fr s k) := by
  have hl := tl_len zc
  have lt : (fr + s * k) % zc.length < zc.cps.toList.length := by
    rw [hl]
    exact Nat.mod_lt _ h
  unfold sgN
  rw [List.getElem?_eq_getElem lt]
  rfl
theorem sgN_mem (zc : Str) (fr s k : Nat) (h : 0 < zc.length) : sgN zc fr s k ∈ zc.cps.toList := List.mem_of_getElem? (sgN_at zc fr s k h)
/-- the word of turn k -/
def wdN (stem zc : Str) (at_ fr s : Nat) (k : Nat) : Str :=
  fixS ((cutS stem none (some (at_ : Int)) ++ (⟨#[sgN zc fr s k]⟩ : Str)) ++ cutS (cutS stem (some (at_ : Int)) none) none (some (((cutS stem (some (at_ : Int)) none).length : Int) - (0 + (k : Int)) * (if decide (0 + (k : Int) < 2) = true then 1 else 0))))
theorem wdN_ok {stem zc : Str} {at_ fr s : Nat} (ha : at_ ≤ stem.length) (hl : stem.length ≤ 11) (hs : ∀ c ∈ stem.cps.toList, c ∈ signsL) (hh : ∀ c, stem.cps.toList.head? = some c → c ∈ smallL)
    (hz : zc = if 0 < at_ then signs else small) (hst : s ∈ [1, 5, 7, 11, 17, 19, 23, 25]) : Wds (wdN stem zc at_ fr s) 26 := by
  have hL := tl_len stem
  have hn : zc.length = 26 ∨ zc.length = 36 := by
    rw [hz]
    split
    · exact .inr signs_len
    · exact .inl small_len
  have pos : 0 < zc.length := by omega
  have nd : zc.cps.toList.Nodup := by
    rw [hz]
    split
    · exact signs_nodup
    · exact small_nodup
  refine wds_mk (S := stem.cps.toList) (a := at_) (sg := sgN zc fr s) (T := fun k => (cutS (cutS stem (some (at_ : Int)) none) none (some (((cutS stem (some (at_ : Int)) none).length : Int) - (0 + (k : Int)) * (if decide (0 + (k : Int) < 2) = true then 1 else 0)))).cps.toList)
    (by omega) (by omega) hs hh (fun k hk => ?_) (fun e k hk => ?_) (fun j k hj hk q => ?_) (fun k => ⟨fun c hc => hs c (cut_mem (cut_mem hc)), ?_⟩) (fun k hk => ⟨_, rfl, ?_⟩)
  · have := sgN_mem zc fr s k pos
    generalize sgN zc fr s k = x at this ⊢
    rw [hz] at this
    split at this
    · exact this
    · exact small_signs _ this
  · have := sgN_mem zc fr s k pos
    generalize sgN zc fr s k = x at this ⊢
    rw [hz, e] at this
    exact this
  · have e1 := sgN_at zc fr s j pos
    have e2 := sgN_at zc fr s k pos
    rw [q] at e1
    exact step_inj hn hst hj hk (nodup_at nd e1 e2)
  · rw [tl_len]
    refine Nat.le_trans (cutS_length _ _ _) ?_
    have := tl_len (cutS stem (some (at_ : Int)) none)
    rw [cut_suf, List.length_drop] at this
    omega
  · rw [app_list, app_list, cut_pre]
    show (_ ++ [sgN zc fr s k]) ++ _ = _
    rw [List.append_assoc]
    rfl
/-- what the block of the n signs leaves -/
def SgL (L : List Nat) (p c : Addr) (ns : List Int) (H0 : Hp) (D : Addr) (B i : Nat) (H : Hp) : Prop := ∃ cs : List Nat, Go p c ns H0 H (B + i) ∧ H D = some (.lst ((cs.map fun c => (⟨#[c]⟩ : Str)).map V.str)) ∧ cs.length = i ∧ ∀ c ∈ cs, c ∈ L
theorem SgL.next {L : List Nat} {p c D : Addr} {ns : List Int} {H0 H H' : Hp} {B i j : Nat} (h : SgL L p c ns H0 D B i H) (h0 : H0 D = none) (g : Go p c ns H H' (B + i + 1)) (hi : i ≤ 1000) (hj : j ∈ L) :
    ∃ acc, H' D = some (.lst acc) ∧ acc.length < sizeLine ∧ SgL L p c ns H0 D B (i + 1) (upd H' D (.lst (acc ++ [.str ⟨#[j]⟩]))) := by
  obtain ⟨cs, g0, hD, hl, h1⟩ := h
  refine ⟨_, g.lst hD, ?_, cs ++ [j], ((g0.step g).mut h0).mono (by omega), ?_, ?_, ?_⟩
  · rw [List.length_map, List.length_map]
    exact small1000 (by omega)
  · rw [upd_same, List.map_append, List.map_append]
    rfl
  · rw [List.length_append, hl]
    rfl
  · intro y hy
    rcases List.mem_append.mp hy with z | z
    · exact h1 y z
    · rw [List.mem_singleton.mp z]
      exact hj
theorem in_mem {x : Str} {ys : List Str} (h : x ∈ ys) : inV (.str x) (ys.map V.str) = true := by
  unfold inV
  rw [List.any_eq_true]
  refine ⟨.str x, List.mem_map.mpr ⟨x, h, rfl⟩, ?_⟩
  exact decide_eq_true rfl
section
variable {P : Program} {w : World} {K : PySem.W.Frag} {mg : Str → Option Value} {base : Heap}
/-- different letters in a new list -/
def spLettersD : Sp := fun vs H Q _ => ∃ (p c : Addr) (ns : List Int) (m : Int) (B : Nat), vs = [.ref p, .int m] ∧ Pen c ns H p B ∧ B ≤ 500000000 ∧ 0 ≤ m ∧ m ≤ 26 ∧
  ∀ (H' : Hp) (q : Addr) (ys : List Str), Go p c ns H H' (B + 150) → H q = none → H' q = some (.lst (ys.map V.str)) → (ys.length : Int) = m → ys.Nodup → (∀ y ∈ ys, isLs y = true ∧ y.length ≤ 13 ∧ Asc y) → Q (.ref q) H'
theorem ok_lettersD {f fD fP : Addr} {fd fdD fdP : FuncData} (F : Fun K "_law_letters" "_law_letters" s__law_letters f fd) (T : Blt mg)
    (GD : FnOk P w K mg base CX0 1 fD fdD ["_law_pen_here", "_law_many"] spDraw) (D : At K mg "_law_draw" fD fdD ["_law_pen_here", "_law_many"])
    (GP : FnOk P w K mg base CX0 2 fP fdP ["_law_pen_here", "_law_options"] (spPick K)) (C : At K mg "_law_pick" fP fdP ["_law_pen_here", "_law_options"]) :
    FnOk P w K mg base CX0 3 f fd ["_law_pen_here", "_law_many"] spLettersD := by
  refine F.ok sc__law_letters (fun vs H Q E h => ?_) (fun cdv A outer s H vs Q E hr h => ?_)
  · obtain ⟨p, c, ns, m, B, rfl, _⟩ := h
    rfl
  · obtain ⟨p, c, ns, m, B, rfl, hpen, hB, hm0, hm1, k⟩ := h
    have hr1 : Room 1 _ := hr.mono (by decide)
    refine ⟨_, (pss_cons (ps_asg (pe_tup (pa_cons pe_str (pa_cons pe_str pa_nil))) (pg_tup rfl (pgs_cons (pg_name (i := 2) sc__law_letters.nd rfl (Or.inr rfl)) (pgs_cons (pg_name (i := 3) sc__law_letters.nd rfl (Or.inr rfl)) pgs_nil))))
      (pss_cons (ps_set (i := 4) sc__law_letters.nd rfl (Or.inl rfl) (pe_join pe_str (pe_lc (own := [("_law_k", 11)]) rfl sc__law_letters.nd (pi_range1 rfl T.n_range (pa_cons (pe_callB (call_min2 rfl) (by rfl) T.n_min (by decide +kernel) (pa_cons pe_int (pa_cons (pe_call GD hr1 (by rfl) D.m D.k D.b .nil pass0 (pa_cons (pv 0) (pa_cons pe_int pa_nil))) pa_nil))) pa_nil)) (blkOk_by (N := nLet) (sc := defScope s__law_letters) (by decide +kernel)) (fun _ _ _ _ _ => (pg_name (i := 11) sc__law_letters.nd rfl (Or.inl rfl))) (fun _ _ _ _ _ => pts_nil) (fun _ _ _ _ _ => (pe_call GP (by exact hr) (by rfl) C.m C.k C.b .nil pass0 (pa_cons (pv 0) (pa_cons (pv 2) pa_nil)))))))
      (pss_cons (ps_set (i := 4) sc__law_letters.nd rfl (Or.inl rfl) (pe_op op_add_str (pv 4) (pe_join pe_str (pe_lc (own := [("_law_k", 11)]) rfl sc__law_letters.nd (pi_range1 rfl T.n_range (pa_cons (pe_op op_mul (pe_call GD hr1 (by rfl) D.m D.k D.b .nil pass0 (pa_cons (pv 0) (pa_cons pe_int pa_nil))) (pe_callB call_len_str (by rfl) T.n_len (by decide +kernel) (pa_cons (pv 4) pa_nil))) pa_nil)) (blkOk_by (N := nLet) (sc := defScope s__law_letters) (by decide +kernel)) (fun _ _ _ _ _ => (pg_name (i := 11) sc__law_letters.nd rfl (Or.inl rfl))) (fun _ _ _ _ _ => pts_nil) (fun _ _ _ _ _ => (pe_call GP (by exact hr) (by rfl) C.m C.k C.b .nil pass0 (pa_cons (pv 0) (pa_cons (pv 3) pa_nil))))))))
      (pss_cons (ps_par (i := 5) (j := 6) rfl sc__law_letters.nd rfl rfl (by decide) rfl rfl (pa_cons (pe_call GD hr1 (by rfl) D.m D.k D.b .nil pass0 (pa_cons (pv 0) (pa_cons (pe_op op_add (pe_callB call_len_str (by rfl) T.n_len (by decide +kernel) (pa_cons (pv 4) pa_nil)) pe_int) pa_nil))) (pa_cons (pe_call GD hr1 (by rfl) D.m D.k D.b .nil pass0 (pa_cons (pv 0) (pa_cons pe_int pa_nil))) pa_nil)) (by rfl))
      (pss_cons (ps_set (i := 7) sc__law_letters.nd rfl (Or.inl rfl) (pe_ifExp (pt_cmpR op_gt (pv 5) pe_int (nomark _)) (pv 3) (pv 2)))
      (pss_cons (ps_par3 (i := 8) (j := 9) (l := 10) rfl sc__law_letters.nd rfl rfl rfl (by decide) (by decide) (by decide) rfl rfl rfl (pa_cons (pe_call GP hr (by rfl) C.m C.k C.b .nil pass0 (pa_cons (pv 0) (pa_cons (pe_lst (pa_cons pe_int (pa_cons pe_int (pa_cons pe_int (pa_cons pe_int (pa_cons pe_int (pa_cons pe_int (pa_cons pe_int (pa_cons pe_int pa_nil))))))))) pa_nil))) (pa_cons (pe_slice sl_str (pv 4) (po_some (pv 5)) po_none) (pa_cons (pe_lst pa_nil) pa_nil))) (by rfl))
      (pss_cons (ps_for PassesOwn.never rfl (pi_range1 rfl T.n_range (pa_cons (pv 1) pa_nil)) (pg_name (i := 11) sc__law_letters.nd rfl (Or.inl rfl)) (pss_cons (ps_set (i := 12) sc__law_letters.nd rfl (Or.inl rfl) (pe_ix ix_str (pv 7) (pe_op op_mod (pe_callTy call_int1 (by rfl) T.n_int (by decide +kernel) (pa_cons (pe_op op_add (pv 6) (pe_op op_mul (pv 8) (pv 11))) pa_nil)) (pe_callB call_len_str (by rfl) T.n_len (by decide +kernel) (pa_cons (pv 7) pa_nil))) (fun _ _ => rfl)))
      (pss_cons (ps_set (i := 13) sc__law_letters.nd rfl (Or.inl rfl) (pe_op op_add_str (pe_op op_add_str (pe_slice sl_str (pv 4) po_none (po_some (pv 5))) (pv 12)) (pe_slice sl_str (pv 9) po_none (po_some (pe_op op_sub (pe_callB call_len_str (by rfl) T.n_len (by decide +kernel) (pa_cons (pv 9) pa_nil)) (pe_op op_mul (pv 11) (pe_callTy call_int1 (by rfl) T.n_int (by decide +kernel) (pa_cons (pe_cmpR op_lt (pv 11) pe_int (nomark _)) pa_nil))))))))
      (pss_cons (ps_if (pt_cmpR op_in_seq (pv 13) (pe_tup (pa_cons pe_str (pa_cons pe_str pa_nil))) rfl) (pss_one (ps_set (i := 13) sc__law_letters.nd rfl (Or.inl rfl) (pe_op op_add_str (pv 13) pe_str))) pss_nil)
      (pss_cons (ps_if (PW.pt (pw_and (pt_cmpR op_gt (pv 11) pe_int (nomark _)) (pw_and (pt_cmpR op_ne (pe_slice sl_str (pe_ix ix_list (pv 10) (pe_un un_neg pe_int) (fun _ _ => rfl)) po_none (po_some pe_int)) pe_str (nomark _)) (pw_and1 (pt_cmpR op_eq (pe_call GD hr1 (by rfl) D.m D.k D.b .nil pass0 (pa_cons (pv 0) (pa_cons pe_int pa_nil))) pe_int (nomark _)))))) (pss_one (ps_set (i := 13) sc__law_letters.nd rfl (Or.inl rfl) (pe_ix ix_list (pv 10) (pe_un un_neg pe_int) (fun _ _ => rfl)))) pss_nil)
      (pss_one (ps_expr (pe_bm PySem.F.plainAttrs_list PySem.F.slot_list_append PySem.F.type_list_append mt_append (pv 10) (pa_cons (pe_ifExp (PW.pt (pw_and (pt_cmpR op_notIn_seq (pv 13) (pv 10) rfl) (pw_and1 (pt_cmpR op_gt (pe_call GD hr1 (by rfl) D.m D.k D.b .nil pass0 (pa_cons (pv 0) (pa_cons pe_int pa_nil))) pe_int (nomark _))))) (pv 13) (pe_op op_add_str pe_str (pv 13))) pa_nil)))))))))
      (pss_one (ps_ret (pv 10)))))))))), ?_⟩
    have g0 := Go.refl hpen
    have z1 : (1000 : Nat) ≤ sizeLine := by decide
    -- small, signs
    refine ⟨by show 2 ≤ sizeLine; decide, fun t1 ht1 => ⟨t1, _, rfl, SqT.of upd_same, rfl, _, _, rfl, _, _, rfl, rfl, ?_⟩⟩
    have g1 := g0.new (o := .tup [.str small, .str signs]) ht1
    change Go p c ns H (upd H t1 (.tup [.str "abcdefghijklmnopqrstuvwxyz", .str "abcdefghijklmnopqrstuvwxyz0123456789"])) B at g1
    generalize upd H t1 _ = H1 at g1 ⊢
    -- stem, its first sign or none
    refine ⟨⟨_, rfl⟩, _, rfl, p, c, ns, 4, B, rfl, g1.pen, by omega, by decide, by decide, fun H2 r g2 r0 r1 => ⟨1, r, rfl, _, rfl, by split <;> omega, by split <;> omega, fun L hL => ?_⟩⟩
    have g2 := g1.step g2
    obtain ⟨n, en, hn⟩ : ∃ n : Nat, (if r < 1 then r else 1).toNat = n ∧ n ≤ 1 := ⟨_, rfl, by split <;> omega⟩
    rw [en]
    have hL0 := g2.free hL
    refine lc_range (lo := 0) (n := n) (SgL smallL p c ns H L (B + 1)) ⟨[], g2.new hL, upd_same, rfl, by simp⟩ (fun i H3 hi hs => ?_) (fun H3 hs => ?_)
    · obtain ⟨cs, g3, _⟩ := id hs
      refine ⟨rfl, ?_⟩
      exact ⟨_, rfl, _, rfl, p, c, ns, _, B + 1 + i, rfl, g3.pen, by omega, .inr ⟨small, rfl, by rw [small_len]; decide, by rw [small_len]; decide, fun H4 j g4 hj => hs.next hL0 g4 (by omega) hj⟩⟩
    obtain ⟨cs, g3, hL3, hl3, h13⟩ := hs
    have one1 : ∀ (cs : List Nat) (y : Str), y ∈ (cs.map fun c => (⟨#[c]⟩ : Str)) → y.length = 1 := fun cs y hy => by
      obtain ⟨c', _, rfl⟩ := List.mem_map.mp hy
      rfl
    refine ⟨_, L, cs.map fun c => (⟨#[c]⟩ : Str), rfl, rfl, .inl (SqL.of hL3), (by rw [len_sum1 _ (one1 cs), List.length_map]; show cs.length + cs.length * 0 ≤ _; omega), ?_⟩
    have hst := joinT_ones cs
    generalize Txt.join (Str.ofString "") (cs.map fun c => (⟨#[c]⟩ : Str)) = stem at hst ⊢
    have hstem : stem.length = n := by rw [← tl_len, hst, hl3]
    clear hL3
    -- stem, further signs
    refine ⟨_, rfl, ⟨_, rfl⟩, _, rfl, p, c, ns, 11, B + 1 + n, rfl, g3.pen, by omega, by decide, by decide, fun H4 r' g4 r0' r1' => ?_⟩
    have g4 := g3.step g4
    refine ⟨_, rfl, stem, rfl, Nat.le_trans (show stem.length ≤ 1000 by omega) (by decide), _, _, rfl, rfl, mul_small (by omega), ?_⟩
    obtain ⟨n', en', hn', ei', hn0⟩ : ∃ n' : Nat, (r' * (stem.length : Int)).toNat = n' ∧ n' ≤ 10 ∧ r' * (stem.length : Int) = (n' : Int) ∧ (n = 0 → n' = 0) := by
      rw [hstem]
      have h01 : n = 0 ∨ n = 1 := by omega
      rcases h01 with e | e
      · rw [e]
        exact ⟨0, by simp, by decide, by simp, fun _ => rfl⟩
      · rw [e]
        exact ⟨r'.toNat, by simp, by omega, by simp; omega, fun z => absurd z (by decide)⟩
    refine ⟨_, rfl, by omega, by omega, fun L' hL' => ?_⟩
    rw [en']
    have hL0' := g4.free hL'
    refine lc_range (lo := 0) (n := n') (SgL signsL p c ns H L' (B + 3)) ⟨[], (g4.new hL').mono (by omega), upd_same, rfl, by simp⟩ (fun i H5 hi hs => ?_) (fun H5 hs => ?_)
    · obtain ⟨cs, g5, _⟩ := id hs
      refine ⟨rfl, ?_⟩
      exact ⟨_, rfl, _, rfl, p, c, ns, _, B + 3 + i, rfl, g5.pen, by omega, .inr ⟨signs, rfl, by rw [signs_len]; decide, by rw [signs_len]; decide, fun H4 j g4 hj => hs.next hL0' g4 (by omega) hj⟩⟩
    obtain ⟨cs2, g5, hL5, hl5, h15⟩ := hs
    refine ⟨_, L', cs2.map fun c => (⟨#[c]⟩ : Str), rfl, rfl, .inl (SqL.of hL5), (by rw [len_sum1 _ (one1 cs2), List.length_map]; show cs2.length + cs2.length * 0 ≤ _; omega), ?_⟩
    have hst2 := joinT_ones cs2
    generalize Txt.join (Str.ofString "") (cs2.map fun c => (⟨#[c]⟩ : Str)) = more at hst2 ⊢
    have hmore : more.length = n' := by rw [← tl_len, hst2, hl5]
    refine ⟨_, _, rfl, rfl, Nat.le_trans (show stem.length + more.length ≤ 1000 by omega) (by decide), ?_⟩
    have hlen : (stem ++ more).length ≤ 11 := by
      rw [Str.length_append]
      omega
    have hls : ∀ d ∈ (stem ++ more).cps.toList, d ∈ signsL := by
      rw [app_list, hst, hst2]
      intro d hd
      rcases List.mem_append.mp hd with z | z
      · exact small_signs d (h13 d z)
      · exact h15 d z
    have hlh : ∀ d, (stem ++ more).cps.toList.head? = some d → d ∈ smallL := by
      rw [app_list, hst, hst2]
      intro d hd
      cases cs with
      | nil =>
        have e0 : n = 0 := hl3.symm
        have e1 := hn0 e0
        rw [e1] at hl5
        rw [List.eq_nil_of_length_eq_zero hl5] at hd
        cases hd
      | cons a b =>
        cases hd
        exact h13 _ (List.mem_cons_self ..)
    generalize stem ++ more = stem' at hlen hls hlh ⊢
    replace g5 : Go p c ns H H5 (B + 20) := g5.mono (by omega)
    clear ei' en' hstem hmore g4 g3 g2 g1 hL5 h15 hl5 h13 hl3 hst hst2 hn0
    -- at, front
    refine ⟨_, rfl, _, rfl, stem', rfl, by omega, _, _, rfl, rfl, p, c, ns, _, B + 20, rfl, g5.pen, by omega, by omega, by omega, fun H6 at_ g6 a0 a1 => ?_⟩
    refine ⟨_, rfl, p, c, ns, 36, B + 20 + 1, rfl, g6.pen, by omega, by decide, by decide, fun H7 fr g7 f0 f1 => ⟨_, _, rfl, ?_⟩⟩
    replace g7 : Go p c ns H H7 (B + 25) := ((g5.step g6).step g7).mono (by omega)
    clear g5 g6
    obtain ⟨atN, rfl⟩ : ∃ n : Nat, at_ = (n : Int) := ⟨at_.toNat, by omega⟩
    obtain ⟨frN, rfl⟩ : ∃ n : Nat, fr = (n : Int) := ⟨fr.toNat, by omega⟩
    obtain ⟨zc, hz⟩ : ∃ zc : Str, zc = if 0 < atN then signs else small := ⟨_, rfl⟩
    -- choice
    try dsimp only
    refine seqIf_cut (fun v H' => H' = H7 ∧ v = .str zc) (fun Q' q' => ?_) (fun v H' hv => ?_)
    · refine ⟨_, rfl, _, _, rfl, rfl, _, rfl, ?_⟩
      refine ite2 (fun h => ?_) (fun h => ?_)
      · have h : (0 : Int) < (atN : Int) := of_decide_eq_true h
        exact ⟨_, rfl, q' _ _ ⟨rfl, by rw [hz, if_pos (by omega)]; rfl⟩⟩
      · have h : ¬ (0 : Int) < (atN : Int) := fun q => h (decide_eq_true q)
        exact ⟨_, rfl, q' _ _ ⟨rfl, by rw [hz, if_neg (by omega)]; rfl⟩⟩
    obtain ⟨rfl, rfl⟩ := hv
    -- step, tail, found
    refine ⟨_, rfl, by show 8 ≤ sizeLine; decide, fun o ho => ⟨p, c, ns, _, B + 25, rfl, (g7.new ho).pen, by omega, .inl ⟨o, _, rfl, SqL.of upd_same, by show 0 < 8; decide, by show 8 ≤ 1000; decide, fun H9 v g9 hv => ?_⟩⟩⟩
    have g9 := (g7.new ho).step g9
    obtain ⟨st, rfl, hst⟩ : ∃ s : Nat, v = .int (s : Int) ∧ s ∈ [1, 5, 7, 11, 17, 19, 23, 25] := by
      simp only [List.mem_cons, List.not_mem_nil, or_false] at hv
      rcases hv with rfl | rfl | rfl | rfl | rfl | rfl | rfl | rfl
      · exact ⟨1, rfl, by decide⟩
      · exact ⟨5, rfl, by decide⟩
      · exact ⟨7, rfl, by decide⟩
      · exact ⟨11, rfl, by decide⟩
      · exact ⟨17, rfl, by decide⟩
      · exact ⟨19, rfl, by decide⟩
      · exact ⟨23, rfl, by decide⟩
      · exact ⟨25, rfl, by decide⟩
    have st1 : st ≤ 25 := by
      simp only [List.mem_cons, List.not_mem_nil, or_false] at hst
      omega
    have W : Wds (wdN stem' zc atN frN st) 26 := wdN_ok (by omega) hlen hls hlh hz hst
    have zl : 0 < zc.length ∧ zc.length ≤ 36 := by
      rw [hz]
      split
      · rw [signs_len]
        decide
      · rw [small_len]
        decide
    refine ⟨_, rfl, _, rfl, _, rfl, _, rfl, by omega, Nat.zero_le _, fun q hq => ⟨_, _, _, rfl, ?_⟩⟩
    obtain ⟨tail, etail⟩ : ∃ tail, tail = cutS stem' (some (atN : Int)) none := ⟨_, rfl⟩
    have htl : tail.length ≤ 11 := by rw [etail]; exact Nat.le_trans (cutS_length _ _ _) hlen
    rw [← etail]
    have hq0 := g9.free hq
    have g10 : Go p c ns H (upd H9 q (.lst [])) (B + 60) := (g9.new hq).mono (by omega)
    have hq1 : upd H9 q (.lst []) q = some (.lst (([] : List Str).map V.str)) := upd_same
    generalize upd H9 q (.lst []) = H10 at g10 hq1 ⊢
    clear g9 g7 hv hq ho
    -- the loop
    refine ⟨_, rfl, m, rfl, by omega, by omega, for_range (lo := 0) (n := m.toNat) (fun i σ' H' => ∃ (ys : List Str) (o1 o2 o3 : Option V),
      σ' = [some (.ref p), some (.int m), some (.str small), some (.str signs), some (.str stem'), some (.int (atN : Int)), some (.int (frN : Int)), some (.str zc), some (.int (st : Int)), some (.str tail), some (.ref q), o1, o2, o3] ∧
      Go p c ns H H' (B + 60 + 2 * i) ∧ H' q = some (.lst (ys.map V.str)) ∧ Iv (wdN stem' zc atN frN st) ys i)
      ⟨[], none, none, none, rfl, g10, hq1, .nil⟩ ?_ ?_⟩
    · rintro i σ' H11 hi ⟨ys, o1, o2, o3, rfl, g, hL, iv⟩
      have hi' : i < 26 := by omega
      obtain ⟨hl, _, hb⟩ := iv.ends W (by omega)
      have idx : ((frN : Int) + (st : Int) * (0 + (i : Int))) % ((zc.length : Nat) : Int) = (((frN + st * i) % zc.length : Nat) : Int) := by
        rw [Int.zero_add, Int.natCast_emod, Int.natCast_add, Int.natCast_mul]
      -- sign
      refine ⟨_, rfl, _, rfl, _, rfl, _, rfl, _, _, rfl, rfl, mul_small (by omega), _, _, rfl, rfl, .inl ⟨_, rfl, _, rfl, zc, rfl, by omega, _, _, rfl, rfl, (by omega), zc, _, sgN zc frN st i, rfl, rfl, by omega, at_by idx (sgN_at zc frN st i zl.1), ?_⟩⟩
      -- word
      refine ⟨_, rfl, _, rfl, _, rfl, stem', rfl, by omega, _, rfl, _, _, rfl, rfl, ?_, ?_⟩
      · have := cutS_length stem' none (some (atN : Int))
        show (cutS stem' none (some (atN : Int))).length + 1 ≤ sizeLine
        omega
      have hw1 : (cutS stem' none (some (atN : Int)) ++ (⟨#[sgN zc frN st i]⟩ : Str)).length ≤ 12 := by
        rw [Str.length_append]
        have := cutS_length stem' none (some (atN : Int))
        show (cutS stem' none (some (atN : Int))).length + 1 ≤ 12
        omega
      refine ⟨_, rfl, _, rfl, tail, rfl, by omega, _, rfl, _, rfl, _, _, rfl, rfl, .inr ⟨_, rfl, _, _, rfl, rfl, mul_small (by omega), _, _, rfl, rfl, _, rfl, tail, rfl, by omega, _, _, rfl, rfl, ?_, ?_⟩⟩
      · have := cutS_length tail none (some ((tail.length : Int) - (0 + (i : Int)) * (if decide (0 + (i : Int) < 2) = true then 1 else 0)))
        omega
      have ew : wdN stem' zc atN frN st i = fixS ((cutS stem' none (some (atN : Int)) ++ (⟨#[sgN zc frN st i]⟩ : Str)) ++ cutS tail none (some ((tail.length : Int) - (0 + (i : Int)) * (if decide (0 + (i : Int) < 2) = true then 1 else 0)))) := by
        rw [etail]
        rfl
      have hw2 : ((cutS stem' none (some (atN : Int)) ++ (⟨#[sgN zc frN st i]⟩ : Str)) ++ cutS tail none (some ((tail.length : Int) - (0 + (i : Int)) * (if decide (0 + (i : Int) < 2) = true then 1 else 0)))).length ≤ 23 := by
        rw [Str.length_append]
        have := cutS_length tail none (some ((tail.length : Int) - (0 + (i : Int)) * (if decide (0 + (i : Int) < 2) = true then 1 else 0)))
        omega
      generalize (cutS stem' none (some (atN : Int)) ++ (⟨#[sgN zc frN st i]⟩ : Str)) ++ cutS tail none (some ((tail.length : Int) - (0 + (i : Int)) * (if decide (0 + (i : Int) < 2) = true then 1 else 0))) = w2 at hw2 ew ⊢
      have gi := W.good i hi'
      have gl := good_len gi
      obtain ⟨wi, ewi⟩ : ∃ wi, wi = wdN stem' zc atN frN st i := ⟨_, rfl⟩
      rw [← ewi] at ew gi gl
      -- new, found
      try dsimp only
      refine seqIf_mid (fun σ' H' => σ' = [some (.ref p), some (.int m), some (.str small), some (.str signs), some (.str stem'), some (.int (atN : Int)), some (.int (frN : Int)), some (.str zc), some (.int (st : Int)), some (.str tail), some (.ref q), some (.int (0 + (i : Int))), some (.str ⟨#[sgN zc frN st i]⟩), some (.str wi)] ∧
        Go p c ns H H' (B + 60 + 2 * i) ∧ H' q = some (.lst (ys.map V.str))) (fun N hN => ?_) (fun σ' H' hm => ?_)
      · refine ⟨_, rfl, by show 2 ≤ sizeLine; decide, fun t ht => ⟨t, _, rfl, .inr (SqT.of upd_same), rfl, rfl, _, rfl, ?_⟩⟩
        have gt := g.new (o := .tup [.str "new", .str "found"]) ht
        have hLt : upd H11 t (.tup [.str "new", .str "found"]) q = some (.lst (ys.map V.str)) := by rw [upd_ne (ne_of_none hL ht)]; exact hL
        have e3 : inV (.str w2) [.str "new", .str "found"] = decide (w2 = newW ∨ w2 = foundW) := by
          unfold inV
          simp only [List.any_cons, List.any_nil, Bool.or_false, eq_V]
          by_cases c1 : w2 = newW
          · rw [decide_eq_true (show (Str.ofString "new") = w2 from c1.symm), decide_eq_true (show w2 = newW ∨ w2 = foundW from .inl c1)]
            rfl
          · by_cases c2 : w2 = foundW
            · rw [decide_eq_true (show (Str.ofString "found") = w2 from c2.symm), decide_eq_true (show w2 = newW ∨ w2 = foundW from .inr c2), Bool.or_true]
            · rw [decide_eq_false (show ¬ (Str.ofString "new") = w2 from fun z => c1 z.symm), decide_eq_false (show ¬ (Str.ofString "found") = w2 from fun z => c2 z.symm), decide_eq_false (show ¬ (w2 = newW ∨ w2 = foundW) from fun z => z.elim c1 c2)]
              rfl
        refine ite2 (fun h => ?_) (fun h => ?_)
        · have h : inV (.str w2) [.str "new", .str "found"] = true := h
          rw [e3] at h
          have e4 : wi = w2 ++ ("0" : Str) := by rw [ew]; exact if_pos (of_decide_eq_true h)
          refine ⟨_, rfl, _, _, rfl, rfl, (by show w2.length + 1 ≤ sizeLine; omega), hN _ _ ⟨?_, gt, hLt⟩⟩
          rw [e4]
          rfl
        · have h : ¬ inV (.str w2) [.str "new", .str "found"] = true := h
          rw [e3] at h
          have e4 : wi = w2 := by rw [ew]; exact if_neg (fun q => h (decide_eq_true q))
          refine hN _ _ ⟨?_, gt, hLt⟩
          rw [e4]
          rfl
      obtain ⟨rfl, g, hL⟩ := hm
      -- the last one again
      try dsimp only
      refine seqIf_mid (fun σ' H' => ∃ x : Str, σ' = [some (.ref p), some (.int m), some (.str small), some (.str signs), some (.str stem'), some (.int (atN : Int)), some (.int (frN : Int)), some (.str zc), some (.int (st : Int)), some (.str tail), some (.ref q), some (.int (0 + (i : Int))), some (.str ⟨#[sgN zc frN st i]⟩), some (.str x)] ∧
        Go p c ns H H' (B + 60 + 2 * i + 1) ∧ H' q = some (.lst (ys.map V.str)) ∧ x.length ≤ 13 ∧ (x = wi ∨ (ys.getLast? = some x ∧ x.cps.toList.head? ≠ some 126))) (fun N hN => ?_) (fun σ' H' hm => ?_)
      · have stay : ∀ H', Go p c ns H H' (B + 60 + 2 * i + 1) → H' q = some (.lst (ys.map V.str)) → N ([some (.ref p), some (.int m), some (.str small), some (.str signs), some (.str stem'), some (.int (atN : Int)), some (.int (frN : Int)), some (.str zc), some (.int (st : Int)), some (.str tail), some (.ref q), some (.int (0 + (i : Int))), some (.str ⟨#[sgN zc frN st i]⟩), some (.str wi)]) H' :=
          fun H' g' h' => hN _ _ ⟨wi, rfl, g', h', by omega, .inl rfl⟩
        refine ⟨_, rfl, _, _, rfl, rfl, _, rfl, ite2 (fun h1 => ?_) (fun h1 => iteF (stay _ (g.mono (by omega)) hL))⟩
        have h1 : (0 : Int) < 0 + (i : Int) := of_decide_eq_true h1
        obtain ⟨ys', last, rfl⟩ : ∃ ys' last, ys = ys' ++ [last] := by
          rcases List.eq_nil_or_concat ys with e | ⟨a, b, e⟩
          · rw [e] at hl
            have : (0 : Nat) = i := hl
            omega
          · exact ⟨a, b, by rw [e]; simp⟩
        have hlast := hb last (by simp)
        have hat : atI ((ys' ++ [last]).map V.str) (-1) = some (.str last) := by
          rw [List.map_append]
          exact atI_last _ _
        refine ⟨_, rfl, _, rfl, q, _, _, _, rfl, rfl, SqL.of hL, hat, _, rfl, last, rfl, (by have := hlast.2.1; omega), rfl, _, rfl, ite2 (fun h2 => ?_) (fun _ => iteF (stay _ (g.mono (by omega)) hL))⟩
        have hh : last.cps.toList.head? ≠ some 126 := fun e => by
          have h2 : (!decide (V.str (cutS last none (some 1)) = V.str (Str.ofString "~"))) = true := h2
          rw [head_tilde, decide_eq_true e] at h2
          cases h2
        refine ⟨_, rfl, p, c, ns, 5, B + 60 + 2 * i, rfl, g.pen, by omega, by decide, by decide, fun H12 r g12 _ _ => ⟨rfl, _, rfl, ?_⟩⟩
        have hL2 := g12.lst hL
        have g13 := g.step g12
        refine ite2 (fun _ => ?_) (fun _ => stay _ g13 hL2)
        exact ⟨_, rfl, _, rfl, q, _, _, _, rfl, rfl, SqL.of hL2, hat, hN _ _ ⟨last, rfl, g13, hL2, hlast.2.1, .inr ⟨List.getLast?_concat, hh⟩⟩⟩
      obtain ⟨x, rfl, g, hL, hx, hxw⟩ := hm
      -- found.append(..)
      have fin : ∀ (H' : Hp) (wv : Str), Go p c ns H H' (B + 60 + 2 * i + 2) → H' q = some (.lst (ys.map V.str)) → Iv (wdN stem' zc atN frN st) (ys ++ [wv]) (i + 1) →
          ∃ (ys2 : List Str) (o1 o2 o3 : Option V), [some (.ref p), some (.int m), some (.str small), some (.str signs), some (.str stem'), some (.int (atN : Int)), some (.int (frN : Int)), some (.str zc), some (.int (st : Int)), some (.str tail), some (.ref q), some (.int (0 + (i : Int))), some (.str ⟨#[sgN zc frN st i]⟩), some (.str x)] =
            [some (.ref p), some (.int m), some (.str small), some (.str signs), some (.str stem'), some (.int (atN : Int)), some (.int (frN : Int)), some (.str zc), some (.int (st : Int)), some (.str tail), some (.ref q), o1, o2, o3] ∧
          Go p c ns H (upd H' q (.lst (ys.map V.str ++ [.str wv]))) (B + 60 + 2 * (i + 1)) ∧ upd H' q (.lst (ys.map V.str ++ [.str wv])) q = some (.lst (ys2.map V.str)) ∧ Iv (wdN stem' zc atN frN st) ys2 (i + 1) := by
        intro H' wv g' h' hv
        refine ⟨ys ++ [wv], _, _, _, rfl, (g'.mut hq0).mono (by omega), ?_, hv⟩
        rw [upd_same, List.map_append]
        rfl
      have hflat : (ys.map V.str).all flatV = true := by
        rw [List.all_eq_true]
        intro x hx
        obtain ⟨y, _, rfl⟩ := List.mem_map.mp hx
        rfl
      have hsz : (ys.map V.str).length < sizeLine := by
        rw [List.length_map]
        omega
      have tld : Iv (wdN stem' zc atN frN st) (ys ++ [tildeS ++ x]) (i + 1) := by
        rcases hxw with rfl | ⟨e1, e2⟩
        · rw [ewi]
          exact iv.tilde W hi'
        · exact iv.again e1 e2
      refine ⟨_, rfl, .inl ⟨rfl, _, SqL.of hL⟩, ?_⟩
      refine ⟨_, rfl, _, rfl, q, _, rfl, .inl (SqL.of hL), rfl, hflat, _, rfl, ite2 (fun hn => ?_) (fun _ => iteF ?_)⟩
      · have pl : Iv (wdN stem' zc atN frN st) (ys ++ [x]) (i + 1) := by
          rcases hxw with rfl | ⟨e1, e2⟩
          · rw [ewi]
            exact iv.plain W hi'
          · have hn : (!inV (.str x) (ys.map V.str)) = true := hn
            rw [in_mem (List.mem_of_getLast? e1)] at hn
            cases hn
        refine ⟨_, rfl, p, c, ns, 5, B + 60 + 2 * i + 1, rfl, g.pen, by omega, by decide, by decide, fun H12 r g12 _ _ => ⟨_, _, rfl, rfl, _, rfl, ?_⟩⟩
        have hL2 := g12.lst hL
        have g13 := g.step g12
        refine ite2 (fun _ => ?_) (fun _ => ?_)
        · exact ⟨_, rfl, q, _, _, rfl, rfl, hL2, hsz, fin _ x g13 hL2 pl⟩
        · exact ⟨_, rfl, _, _, rfl, rfl, (by show 1 + x.length ≤ sizeLine; omega), q, _, _, rfl, rfl, hL2, hsz, fin _ _ g13 hL2 tld⟩
      · exact ⟨_, rfl, _, _, rfl, rfl, (by show 1 + x.length ≤ sizeLine; omega), q, _, _, rfl, rfl, hL, hsz, fin _ _ (g.mono (by omega)) hL tld⟩
    · rintro σ' H11 ⟨ys, o1, o2, o3, rfl, g, hL, iv⟩
      obtain ⟨hl, nd, hb⟩ := iv.ends W (by omega)
      exact ⟨_, rfl, k H11 q ys (g.mono (by omega)) hq0 hL (by omega) nd hb⟩
end
end Ask

namespace Ask
open PySem L2
/-- an item of the law's lists, its list or tuple at a place of N -/
def ItV (N : Addr → Prop) (H : Hp) (v : V) (d : PyData) : Prop :=
  (v = .non ∧ d = .none) ∨ (v = .bl true ∧ d = .bool true) ∨ (v = .int 3 ∧ d = .int 3) ∨ ∃ z : Str, (z.length ≤ 500 ∧ Asc z) ∧
    ((v = .str z ∧ d = .str z) ∨ ∃ a, v = .ref a ∧ N a ∧ ((H a = some (.lst [.str z]) ∧ d = .list [.str z]) ∨ (H a = some (.tup [.str z]) ∧ d = .tuple [.str z])))
section
variable {K : PySem.W.Frag} {N N' : Addr → Prop} {H H' H0 : Hp} {v : V} {d : PyData} {p c q : Addr} {ns : List Int} {B : Nat} {o : HO}
theorem ItV.itm (h : ItV N H v d) : Itm d := by
  rcases h with ⟨_, e⟩ | ⟨_, e⟩ | ⟨_, e⟩ | ⟨z, ⟨h1, h2⟩, ⟨_, e⟩ | ⟨a, _, _, ⟨_, e⟩ | ⟨_, e⟩⟩⟩
  · exact .inl e
  · exact .inr (.inl e)
  · exact .inr (.inr (.inl e))
  · exact .inr (.inr (.inr ⟨z, h1, h2, .inl e⟩))
  · exact .inr (.inr (.inr ⟨z, h1, h2, .inr (.inl e)⟩))
  · exact .inr (.inr (.inr ⟨z, h1, h2, .inr (.inr e)⟩))
theorem ItV.dp (h : ItV N H v d) : Dp K H v d := by
  rcases h with ⟨e, e'⟩ | ⟨e, e'⟩ | ⟨e, e'⟩ | ⟨z, _, ⟨e, e'⟩ | ⟨a, e, _, ⟨ea, e'⟩ | ⟨ea, e'⟩⟩⟩ <;> rw [e, e']
  · exact .non
  · exact .bl _
  · exact .int _
  · exact .str _
  · exact .lst (SqL.of ea) (.cons (.str _) .nil)
  · exact .tup (SqT.of ea) (.cons (.str _) .nil)
theorem ItV.mp (h : ItV N H v d) (k : ∀ a o, N a → H a = some o → (∀ kvs, o ≠ .dK kvs) → N' a ∧ H' a = some o) : ItV N' H' v d := by
  rcases h with h | h | h | ⟨z, hz, h | ⟨a, e, n, ⟨ea, e'⟩ | ⟨ea, e'⟩⟩⟩
  · exact .inl h
  · exact .inr (.inl h)
  · exact .inr (.inr (.inl h))
  · exact .inr (.inr (.inr ⟨z, hz, .inl h⟩))
  · obtain ⟨n', ea'⟩ := k a _ n ea (by intro _ z; cases z)
    exact .inr (.inr (.inr ⟨z, hz, .inr ⟨a, e, n', .inl ⟨ea', e'⟩⟩⟩))
  · obtain ⟨n', ea'⟩ := k a _ n ea (by intro _ z; cases z)
    exact .inr (.inr (.inr ⟨z, hz, .inr ⟨a, e, n', .inr ⟨ea', e'⟩⟩⟩))
theorem ItV.go (h : ItV N H v d) (g : Go p c ns H H' B) : ItV N H' v d := h.mp fun a o n e k => ⟨n, g.at e k⟩
theorem ItV.same (h : ItV N H v d) (s : Same H H') : ItV N H' v d := h.mp fun a o n e _ => ⟨n, s a o e⟩
theorem ItV.mut (h : ItV N H v d) (n : ∀ a, N a → a ≠ q) : ItV N (upd H q o) v d := h.mp fun a u m e _ => ⟨m, by rw [upd_ne (n a m)]; exact e⟩
theorem ItV.wk (h : ItV N H v d) (n : ∀ a, N a → N' a) : ItV N' H v d := h.mp fun a u m e _ => ⟨n a m, e⟩
def ItS (N : Addr → Prop) (H : Hp) (xs : List V) : Prop := ∀ v ∈ xs, ∃ d, ItV N H v d
theorem ItS.nil : ItS N H [] := fun _ h => by cases h
theorem ItS.cons {xs : List V} (h : ∃ d, ItV N H v d) (r : ItS N H xs) : ItS N H (v :: xs) := fun x hx => by
  rcases List.mem_cons.mp hx with rfl | hx
  · exact h
  · exact r x hx
theorem ItS.app {xs ys : List V} (h : ItS N H xs) (r : ItS N H ys) : ItS N H (xs ++ ys) := fun x hx => by
  rcases List.mem_append.mp hx with hx | hx
  · exact h x hx
  · exact r x hx
theorem itStr {z : Str} (h : z.length ≤ 500 ∧ Asc z) : ∃ d, ItV N H (.str z) d := ⟨_, .inr (.inr (.inr ⟨z, h, .inl ⟨rfl, rfl⟩⟩))⟩
end
theorem asc_upper {z : Str} (h : Asc z) : Asc (Txt.upper z) ∧ (Txt.upper z).length = z.length := by
  rw [PyProof.Rows.upper_ascii h]
  refine ⟨fun c hc => ?_, by simp [Str.length]⟩
  have hc : c ∈ (z.cps.map PyProof.Rows.up1).toList := hc
  rw [Array.toList_map] at hc
  obtain ⟨b, hb, rfl⟩ := List.mem_map.mp hc
  have := h b hb
  unfold PyProof.Rows.up1
  split <;> omega
theorem asc_rep {z : Str} (h : Asc z) (n : Nat) : Asc (repS z n) := by
  have : ∀ (n : Nat) (acc : Array Nat), (∀ c ∈ acc.toList, c < 128) → ∀ c ∈ ((List.replicate n z.cps).foldl (· ++ ·) acc).toList, c < 128 := by
    intro n
    induction n with
    | zero => intro acc ha; simpa using ha
    | succ n ih =>
      intro acc ha
      rw [List.replicate_succ, List.foldl_cons]
      refine ih _ fun c hc => ?_
      rw [Array.toList_append] at hc
      rcases List.mem_append.mp hc with q | q
      · exact ha c q
      · exact h c q
  exact this n #[] (fun c hc => by cases hc)
end Ask

namespace Ask
open PySem L2
/-! ### the answers, by the mirror -/
def badAt (ds : List PyData) (k : Nat) : Bool := match ds[k]? with
  | some d => !isL d || (ds.take k).any fun z => PyData.eqv z d
  | none => false
def bads (ds : List PyData) : List Nat := (List.range ds.length).filter (badAt ds)
def res (ds : List PyData) : PyData :=
  if 12 < ds.length then .tuple [.str "many", .str "letters", .int (ds.length : Nat), .int 12]
  else match bads ds with
    | k :: _ => .tuple [.str "letters", .int (k : Nat)]
    | [] => if ds.length = 0 then .tuple [.str "letters", .int 0] else .none
theorem res_many {ds : List PyData} (h : 12 < ds.length) : res ds = .tuple [.str "many", .str "letters", .int (ds.length : Nat), .int 12] := if_pos h
theorem res_none {ds : List PyData} (h : ds.length = 0) : res ds = .tuple [.str "letters", .int 0] := by
  have e : ds = [] := List.eq_nil_of_length_eq_zero h
  subst e
  rfl
theorem bads_at {ds : List PyData} {k : Nat} (h1 : k < ds.length) (h2 : badAt ds k = true) (h3 : ∀ j < k, badAt ds j = false) : ∃ r, bads ds = k :: r := by
  unfold bads
  have e : ds.length = k + (1 + (ds.length - k - 1)) := by omega
  rw [e, List.range_add, List.filter_append]
  have e1 : (List.range k).filter (badAt ds) = [] := List.filter_eq_nil_iff.mpr fun x hx => by
    rw [h3 x (List.mem_range.mp hx)]
    exact Bool.false_ne_true
  rw [e1, List.nil_append, Nat.add_comm 1, List.range_succ_eq_map, List.map_cons, List.filter_cons, if_pos (by simpa using h2)]
  exact ⟨_, rfl⟩
theorem res_at {ds : List PyData} {k : Nat} (h0 : ¬ 12 < ds.length) (h1 : k < ds.length) (h2 : badAt ds k = true) (h3 : ∀ j < k, badAt ds j = false) : res ds = .tuple [.str "letters", .int (k : Nat)] := by
  obtain ⟨r, e⟩ := bads_at h1 h2 h3
  unfold res
  rw [if_neg h0, e]
theorem res_good {ds : List PyData} (h0 : ¬ 12 < ds.length) (h1 : 0 < ds.length) (h3 : ∀ j < ds.length, badAt ds j = false) : res ds = .none := by
  have e : bads ds = [] := List.filter_eq_nil_iff.mpr fun x hx => by
    rw [h3 x (List.mem_range.mp hx)]
    exact Bool.false_ne_true
  unfold res
  rw [if_neg h0, e]
  exact if_neg (by omega)
/-- an answer of the law's -/
def Rs (H : Hp) (v : V) (d : PyData) : Prop := (v = .non ∧ d = .none) ∨ ∃ a xs ds, v = .ref a ∧ d = .tuple ds ∧ H a = some (.tup xs) ∧ ∀ (K : PySem.W.Frag) (H' : Hp), DpAll K H' xs ds
/-- the items of a list -/
def ItL (N : Addr → Prop) (H : Hp) : List V → List PyData → Prop
  | [], [] => True
  | v :: xs, d :: ds => ItV N H v d ∧ ItL N H xs ds
  | _, _ => False
section
variable {K : PySem.W.Frag} {N N' : Addr → Prop} {H H' H0 : Hp} {v : V} {d : PyData} {p c q : Addr} {ns : List Int} {B : Nat} {o : HO}
theorem Rs.dp (h : Rs H v d) : Dp K H v d := by
  rcases h with ⟨rfl, rfl⟩ | ⟨a, xs, ds, rfl, rfl, e, k⟩
  · exact .non
  · exact .tup (SqT.of e) (k K H)
theorem Rs.same (h : Rs H v d) (s : Same H H') : Rs H' v d := by
  rcases h with h | ⟨a, xs, ds, h1, h2, e, k⟩
  · exact .inl h
  · exact .inr ⟨a, xs, ds, h1, h2, s _ _ e, k⟩
theorem ItL.len : ∀ {xs : List V} {ds : List PyData}, ItL N H xs ds → xs.length = ds.length
  | [], [], _ => rfl
  | _ :: _, _ :: _, h => by rw [List.length_cons, List.length_cons, ItL.len h.2]
  | [], _ :: _, h => h.elim
  | _ :: _, [], h => h.elim
theorem ItL.mp : ∀ {xs : List V} {ds : List PyData}, ItL N H xs ds → (∀ v d, ItV N H v d → ItV N' H' v d) → ItL N' H' xs ds
  | [], [], _, _ => trivial
  | _ :: _, _ :: _, h, k => ⟨k _ _ h.1, ItL.mp h.2 k⟩
  | [], _ :: _, h, _ => h.elim
  | _ :: _, [], h, _ => h.elim
theorem ItL.dp : ∀ {xs : List V} {ds : List PyData}, ItL N H xs ds → DpAll K H xs ds
  | [], [], _ => .nil
  | _ :: _, _ :: _, h => .cons h.1.dp (ItL.dp h.2)
  | [], _ :: _, h => h.elim
  | _ :: _, [], h => h.elim
theorem ItL.itm : ∀ {xs : List V} {ds : List PyData}, ItL N H xs ds → ∀ d ∈ ds, Itm d
  | [], [], _, _, h => by cases h
  | _ :: _, _ :: _, h, d, hd => by
    rcases List.mem_cons.mp hd with rfl | hd
    · exact h.1.itm
    · exact ItL.itm h.2 d hd
  | [], _ :: _, h, _, _ => h.elim
  | _ :: _, [], h, _, _ => h.elim
theorem ItL.fit {xs : List V} {ds : List PyData} (h : ItL N H xs ds) : FitAll ds := fit_all fun d hd => itm_fit (h.itm d hd)
theorem ItL.get : ∀ {xs : List V} {ds : List PyData} (k : Nat), ItL N H xs ds → k < xs.length → ∃ v d, xs[k]? = some v ∧ ds[k]? = some d ∧ ItV N H v d
  | [], _, _, _, h => absurd h (Nat.not_lt_zero _)
  | _ :: _, [], _, h, _ => h.elim
  | v :: _, d :: _, 0, h, _ => ⟨v, d, rfl, rfl, h.1⟩
  | _ :: _, _ :: _, k + 1, h, hk => by
    obtain ⟨v, d, h1, h2, h3⟩ := ItL.get k h.2 (Nat.lt_of_succ_lt_succ hk)
    exact ⟨v, d, by simpa using h1, by simpa using h2, h3⟩
theorem ItL.take : ∀ {xs : List V} {ds : List PyData} (k : Nat), ItL N H xs ds → ItL N H (xs.take k) (ds.take k)
  | [], [], _, _ => by rw [List.take_nil, List.take_nil]; trivial
  | _ :: _, _ :: _, 0, _ => trivial
  | _ :: _, _ :: _, k + 1, h => ⟨h.1, ItL.take k h.2⟩
  | [], _ :: _, _, h => h.elim
  | _ :: _, [], _, h => h.elim
theorem ItL.set : ∀ {xs : List V} {ds : List PyData} (k : Nat), ItL N H xs ds → ItV N H v d → ItL N H (xs.set k v) (ds.set k d)
  | [], [], _, _, _ => trivial
  | _ :: _, _ :: _, 0, h, hv => ⟨hv, h.2⟩
  | _ :: _, _ :: _, k + 1, h, hv => ⟨h.1, ItL.set k h.2 hv⟩
  | [], _ :: _, _, h, _ => h.elim
  | _ :: _, [], _, h, _ => h.elim
theorem ItL.app1 : ∀ {xs : List V} {ds : List PyData}, ItL N H xs ds → ItV N H v d → ItL N H (xs ++ [v]) (ds ++ [d])
  | [], [], _, hv => ⟨hv, trivial⟩
  | _ :: _, _ :: _, h, hv => ⟨h.1, ItL.app1 h.2 hv⟩
  | [], _ :: _, h, _ => h.elim
  | _ :: _, [], h, _ => h.elim
theorem itl_strs : ∀ {ys : List Str}, (∀ y ∈ ys, y.length ≤ 500 ∧ Asc y) → ItL N H (ys.map V.str) (ys.map PyData.str)
  | [], _ => trivial
  | y :: r, h => ⟨.inr (.inr (.inr ⟨y, h y (List.mem_cons_self ..), .inl ⟨rfl, rfl⟩⟩)), itl_strs fun z hz => h z (List.mem_cons_of_mem _ hz)⟩
end
theorem ints_lay : ∀ ks : List Nat, (∀ k ∈ ks, k ≤ 1000) → PyData.canLayAll0 (ks.map fun k : Nat => PyData.int k) = true ∧ PyData.depthAll (ks.map fun k : Nat => PyData.int k) = 0
  | [], _ => ⟨rfl, rfl⟩
  | k :: r, h => by
    obtain ⟨h1, h2⟩ := ints_lay r fun z hz => h z (List.mem_cons_of_mem _ hz)
    have hk := h k (List.mem_cons_self ..)
    refine ⟨?_, ?_⟩
    · show (PyData.canLay0 (.int (k : Nat)) && PyData.canLayAll0 (r.map fun k : Nat => PyData.int k)) = true
      rw [h1, Bool.and_true]
      rfl
    · show max 0 (PyData.depthAll (r.map fun k : Nat => PyData.int k)) = 0
      rw [h2]
      rfl
theorem ints_shaped {ks : List Nat} (h : ∀ k ∈ ks, k ≤ 1000) : SeqAt.shaped (.list (ks.map fun k : Nat => PyData.int k)) = true := by
  obtain ⟨h1, h2⟩ := ints_lay ks h
  exact shaped_of h1 (by show PyData.depthAll _ + 1 ≤ 64; omega)
theorem dp_ints {K : PySem.W.Frag} {H : Hp} : ∀ ks : List Nat, DpAll K H (ks.map fun k : Nat => V.int k) (ks.map fun k : Nat => PyData.int k)
  | [] => .nil
  | k :: r => .cons (.int _) (dp_ints r)
theorem cutV_take (xs : List V) (k : Nat) (h : k ≤ xs.length) : cutV xs none (some (k : Int)) = xs.take k := by
  unfold cutV
  rw [HT.sIx_none, HT.sIx_nat, List.drop_zero, Nat.sub_zero, Nat.min_eq_left h]
end Ask

/-! C(e, ..), what its __init__ raises wished for at the caller's slots -/
namespace Ask
open PySem L2 PySem.Spec PyProof.Rows
def tMakeS (C : Addr) (sp : Sp) (E : L2.St → XK) (t : TA) : TE := fun σ H Q => t σ H fun vs H1 => ∀ x dx, H1 x = none → H1 dx = none → dx ≠ x →
  sp (.ref x :: vs) (upd (upd H1 dx (.own x)) x (.ins C dx [])) (fun v H2 => v = .non ∧ Q (.ref x) H2) (E σ)
theorem pe_makeS {X : Cx} {CX : CXT} {k : Nat} {f C : Addr} {fd : FuncData} {ps : List Str} {sp : Sp} {E : L2.St → XK} {x : Str} {p pos : Pos} {e : Expr} {es : List Expr} {t : TA}
    (M : Mk X.K C f) (F : FnOk X.prog X.w X.K X.mg X.base CX k f fd ps sp) (hr : Room (k + 1) X.A) (hg : Gl X x) (hm : X.mg x = some (.ref C)) (hb : Binds X.K fd ps []) (hx : ∀ σ, PassesAt CX X σ (E σ)) (ha : PA X (e :: es) t)
    (hdb : (x == ("__debug__" : Str)) = false := by decide) (he : starEach (e :: es) X.env = (false, eval e X.env) :: starEach es X.env := by rfl) (hpl : (backTo pos (starEach es X.env)).any (·.1) = false := by rfl) :
    PE X (.Call (.Name x p) (e :: es) [] pos) (tMakeS C sp E t) := by
  refine ⟨fun pins s σ H Q I h => wpAny_Call_Name_kw (ld_glob I hg hm ?_ hdb)⟩
  refine PySem.W.callWith_K (h₀ := X.base) I.ok.mod.kin M.kp (thn (ha.run pos pins s σ H _ I h) fun us s1 ⟨vs, H1, I1, r, q⟩ => ⟨I1.kIn, ?_⟩) he hpl
  have w := q (s1.heap.objs.size + 1) s1.heap.objs.size (I1.hok.fresh (Nat.le_succ _)) (I1.hok.fresh (Nat.le_refl _)) (Nat.ne_of_lt (Nat.lt_succ_self _))
  have I2 := Inv.made (C := C) I1
  have r2 : Vals (V.ref (s1.heap.objs.size + 1) :: vs) (Value.ref (s1.heap.objs.size + 1) :: us) := .cons rfl r
  have len : (Value.ref (s1.heap.objs.size + 1) :: us).length = ps.length := by
    rw [← r2.length]
    exact F.len _ _ _ _ w
  have len2 : (Value.ref (s1.heap.objs.size + 1) :: us ++ []).length = ps.length := by
    rw [List.append_nil]
    exact len
  have bound := hb _ (Value.ref (s1.heap.objs.size + 1) :: us) I2.kIn len2
  rw [List.append_nil] at bound
  refine wpAny_call (make_map (f := f) I1.kIn M.makes M.init (beq_iff_eq.mp M.fn) (codeAny_mono (F.run _ X.stack _ _ ⟨Value.ref (s1.heap.objs.size + 1) :: us, []⟩ _ _ _ (E σ) (hr.make C us []) (I2.env0.make C us []) bound r2 w) fun r s' got => ?_))
  match r, got with
  | .error e, got => exact hx σ pins _ _ e s' I2 got
  | .ok .next, got => exact False.elim got
  | .ok .brk, got => exact False.elim got
  | .ok .cont, got => exact False.elim got
  | .ok (.ret u), got =>
    obtain ⟨v, H', I3, rv, ev, z⟩ := I2.after got
    subst ev
    exact ⟨rv, ⟨V.ref (s1.heap.objs.size + 1), H', I3, rfl, z⟩⟩
end Ask

namespace Ask
open PySem L2
section
variable {P : Program} {w : World} {K : PySem.W.Frag} {mg : Str → Option Value} {base : Heap}
/-! ### copied, of a number or a text -/
def spCopy : Sp := fun vs H Q _ => ∃ x : V, vs = [x] ∧ ((∃ i, x = .int i) ∨ ∃ z, x = .str z) ∧ Q x H
abbrev s_copied : Stmt := top 6
theorem sc_copied : FnScope ["value"] ["value"] (defScope s_copied) := ⟨rfl, rfl, rfl, by decide +kernel, rfl, by decide +kernel, by decide +kernel⟩
theorem ok_copied {f : Addr} {fd : FuncData} (F : Fun K "copied" "copied" s_copied f fd) (T : Blt mg) (nD : mg "dict" = none) : FnOk P w K mg base CX0 1 f fd ["value"] spCopy := by
  refine F.ok sc_copied (fun vs H Q E h => ?_) (fun cdv A outer s H vs Q E hr h => ?_)
  · obtain ⟨x, rfl, _⟩ := h
    rfl
  · obtain ⟨x, rfl, hx, k⟩ := h
    refine ⟨_, (pss_cons (ps_if (pt_val (pe_callB call_isi (by rfl) T.n_isinstance (by decide +kernel) (pa_cons (pv 0) (pa_cons (pe_bltn (v := .ty "list") (u := .type "list") rfl T.n_list (by decide +kernel) rfl) pa_nil)))) pss_never pss_nil)
      (pss_cons (ps_if (pt_val (pe_callB call_isi (by rfl) T.n_isinstance (by decide +kernel) (pa_cons (pv 0) (pa_cons (pe_bltn (v := .ty "tuple") (u := .type "tuple") rfl T.n_tuple (by decide +kernel) rfl) pa_nil)))) pss_never pss_nil)
      (pss_cons (ps_if (pt_val (pe_callB call_isi (by rfl) T.n_isinstance (by decide +kernel) (pa_cons (pv 0) (pa_cons (pe_bltn (v := .ty "dict") (u := .type "dict") rfl nD (by decide +kernel) rfl) pa_nil)))) pss_never pss_nil)
      (pss_one (ps_ret (pv 0)))))), ?_⟩
    rcases hx with ⟨i, rfl⟩ | ⟨z, rfl⟩
    · refine ⟨_, rfl, _, _, _, _, false, rfl, .ty _, .base (.int _), kit_ty (by decide +kernel), _, rfl, iteF ?_⟩
      refine ⟨_, rfl, _, _, _, _, false, rfl, .ty _, .base (.int _), kit_ty (by decide +kernel), _, rfl, iteF ?_⟩
      refine ⟨_, rfl, _, _, _, _, false, rfl, .ty _, .base (.int _), kit_ty (by decide +kernel), _, rfl, iteF ?_⟩
      exact ⟨_, rfl, k⟩
    · refine ⟨_, rfl, _, _, _, _, false, rfl, .ty _, .base (.str _), kit_ty (by decide +kernel), _, rfl, iteF ?_⟩
      refine ⟨_, rfl, _, _, _, _, false, rfl, .ty _, .base (.str _), kit_ty (by decide +kernel), _, rfl, iteF ?_⟩
      refine ⟨_, rfl, _, _, _, _, false, rfl, .ty _, .base (.str _), kit_ty (by decide +kernel), _, rfl, iteF ?_⟩
      exact ⟨_, rfl, k⟩
/-! ### the errors -/
def spErr (C : Addr) (ok : List V → Prop) (fs : List V → List (Str × V)) : Sp := fun vs H Q _ => ∃ (a : Addr) (ws : List V), vs = .ref a :: ws ∧ ok ws ∧ H a = some (exo a C none) ∧
  ∀ (H' : Hp) (dx : Addr), H dx = none → dx ≠ a → H' a = some (exo a C (some dx)) → H' dx = some (exd dx (fs ws)) → (∀ b o, b ≠ a → H b = some o → H' b = some o) → Q .non H'
def okBad : List V → Prop := fun ws => ∃ i : Int, ws = [.int i]
def fsBad : List V → List (Str × V) := fun ws => match ws with
  | [v] => [("index", v)]
  | _ => []
def okMany : List V → Prop := fun ws => ∃ (wd : Str) (n m : Int), ws = [.str wd, .int n, .int m]
def fsMany : List V → List (Str × V) := fun ws => match ws with
  | [v, n, m] => [("most", m), ("many", n), ("what", v)]
  | _ => []
abbrev s_BadLetters_init : Stmt := inClass (top 9) 0
theorem sc_BadLetters_init : FnScope ["self", "index"] ["self", "index"] (defScope s_BadLetters_init) := ⟨rfl, rfl, rfl, by decide +kernel, rfl, by decide +kernel, by decide +kernel⟩
abbrev s_TooMany_init : Stmt := inClass (top 13) 0
theorem sc_TooMany_init : FnScope ["self", "what", "many", "most"] ["self", "what", "many", "most"] (defScope s_TooMany_init) := ⟨rfl, rfl, rfl, by decide +kernel, rfl, by decide +kernel, by decide +kernel⟩
theorem ok_badInit {f fC C : Addr} {fd fdC : FuncData} (F : Fun K "__init__" "BadLetters.__init__" s_BadLetters_init f fd) (T : OexC K C) (h1 : PySem.W.findIn K (.ref C) "index" = some none)
    (GC : FnOk P w K mg base CX0 1 fC fdC ["value"] spCopy) (CP : At K mg "copied" fC fdC ["value"]) : FnOk P w K mg base CX0 2 f fd ["self", "index"] (spErr C okBad fsBad) := by
  refine F.ok sc_BadLetters_init (fun vs H Q E h => ?_) (fun cdv A outer s H vs Q E hr h => ?_)
  · obtain ⟨a, ws, rfl, ⟨i, rfl⟩, _⟩ := h
    rfl
  · obtain ⟨a, ws, rfl, ⟨i, rfl⟩, ha, k⟩ := h
    refine ⟨_, pss_one (ps_ost (pv 0) (pe_call GC hr (by rfl) CP.m CP.k CP.b .nil pass0 (pa_cons (pv 1) pa_nil))), ?_⟩
    refine ⟨_, rfl, _, rfl, .inl ⟨i, rfl⟩, _, rfl, a, C, rfl, T, h1, .inl ⟨ha, fun dx hdx hne => ?_⟩⟩
    refine k _ dx hdx hne upd_same (by rw [upd_ne hne]; exact upd_same) fun b o hb e => ?_
    rw [upd_ne hb, upd_ne (ne_of_none e hdx)]
    exact e
theorem ok_manyInit {f fC C : Addr} {fd fdC : FuncData} (F : Fun K "__init__" "TooMany.__init__" s_TooMany_init f fd) (T : OexC K C) (h1 : PySem.W.findIn K (.ref C) "what" = some none) (h2 : PySem.W.findIn K (.ref C) "many" = some none) (h3 : PySem.W.findIn K (.ref C) "most" = some none)
    (GC : FnOk P w K mg base CX0 1 fC fdC ["value"] spCopy) (CP : At K mg "copied" fC fdC ["value"]) : FnOk P w K mg base CX0 2 f fd ["self", "what", "many", "most"] (spErr C okMany fsMany) := by
  refine F.ok sc_TooMany_init (fun vs H Q E h => ?_) (fun cdv A outer s H vs Q E hr h => ?_)
  · obtain ⟨a, ws, rfl, ⟨wd, i, mo, rfl⟩, _⟩ := h
    rfl
  · obtain ⟨a, ws, rfl, ⟨wd, i, mo, rfl⟩, ha, k⟩ := h
    refine ⟨_, pss_cons (ps_ost (pv 0) (pe_call GC hr (by rfl) CP.m CP.k CP.b .nil pass0 (pa_cons (pv 1) pa_nil))) (pss_cons (ps_ost (pv 0) (pe_call GC hr (by rfl) CP.m CP.k CP.b .nil pass0 (pa_cons (pv 2) pa_nil))) (pss_one (ps_ost (pv 0) (pe_call GC hr (by rfl) CP.m CP.k CP.b .nil pass0 (pa_cons (pv 3) pa_nil))))), ?_⟩
    refine ⟨_, rfl, _, rfl, .inr ⟨_, rfl⟩, _, rfl, a, C, rfl, T, h1, .inl ⟨ha, fun dx hdx hne => ?_⟩⟩
    have e1 : upd (upd H dx (exd dx [("what", .str wd)])) a (exo a C (some dx)) a = some (exo a C (some dx)) := upd_same
    have e2 : upd (upd H dx (exd dx [("what", .str wd)])) a (exo a C (some dx)) dx = some (exd dx [("what", .str wd)]) := by rw [upd_ne hne]; exact upd_same
    have k1 : ∀ b o, b ≠ a → H b = some o → upd (upd H dx (exd dx [("what", .str wd)])) a (exo a C (some dx)) b = some o := fun b o hb e => by
      rw [upd_ne hb, upd_ne (ne_of_none e hdx)]
      exact e
    generalize upd (upd H dx (exd dx [("what", .str wd)])) a (exo a C (some dx)) = H1 at e1 e2 k1 ⊢
    refine ⟨_, rfl, _, rfl, .inl ⟨_, rfl⟩, _, rfl, a, C, rfl, T, h2, .inr ⟨dx, _, e1, e2, by show 1 ≤ 900; decide, ?_⟩⟩
    refine ⟨_, rfl, _, rfl, .inl ⟨_, rfl⟩, _, rfl, a, C, rfl, T, h3, .inr ⟨dx, _, (by rw [upd_ne hne.symm]; exact e1), upd_same, by show 2 ≤ 900; decide, ?_⟩⟩
    refine k _ dx hdx hne (by rw [upd_ne hne.symm, upd_ne hne.symm]; exact e1) upd_same fun b o hb e => ?_
    have nb := ne_of_none e hdx
    rw [upd_ne nb, upd_ne nb]
    exact k1 b o hb e
end
end Ask

/-! tuple(list), frozen: its object has no dict, so that its methods can be called -/
namespace Ask
open PySem L2 PySem.Spec PyProof.Rows
section
variable {X : Cx}
theorem call_tuple_frz : CallR X (.type "tuple") (fun xs H Q => ∃ p ys, xs = [.ref p] ∧ SqL X.K H p ys ∧ ∀ (l : Addr) (o : Obj), H l = none → o.dict = none → Q (.ref l) (upd H l (.frz o (.tup ys)))) := by
  intro pins s σ H xs us Q I r h
  obtain ⟨p, ys, rfl, hq, q⟩ := h
  obtain ⟨u, rfl, rx⟩ := vals1 r
  cases rx
  obtain ⟨its, r', pl, hz⟩ := I.list hq
  have hlen := r'.length
  refine call_tuple_list pl.isList (fun h' kp => ?_) (by simp only [List.size_toArray] <;> omega)
  have I1 : Inv X pins σ H { s with heap := h' } := I.kept (t' := s.toks) kp
  have I2 : Inv X pins σ (upd H h'.objs.size (.frz { cls := .type "tuple", data := .seq its.toArray } (.tup ys))) { s with heap := h'.push { cls := .type "tuple", data := .seq its.toArray } } :=
    I1.laid (t' := s.toks) (fun b o e => Heap.get?_push_of_some _ e) (Nat.le_refl _) (show ObjOk X.prog X.w _ _ _ (.frz _ (.tup ys)) from ⟨Heap.get?_push_size _ rfl, hz, its, r', IsTup.new _ _⟩)
  exact ⟨.ref h'.objs.size, _, I2, rfl, q _ _ (I1.hok.fresh (Nat.le_refl _)) rfl⟩
def tBMT (r : V → List V → Hp → VK → Prop) (to : TE) (t : TA) : TE := fun σ H Q => to σ H fun x H1 => (∃ (p : Addr) (o : Obj) (xs : List V), x = .ref p ∧ H1 p = some (.frz o (.tup xs)) ∧ o.dict = none) ∧ t σ H1 fun xs H2 => r x xs H2 Q
variable {o e : Expr} {es : List Expr} {to : TE} {t : TA} {name : Str} {apos cpos : Pos} {id : String} {r : V → List V → Hp → VK → Prop}
theorem pe_bmT (slot : Slot "tuple" name id) (hty : typeOf (.builtin id) = pure (.type "method_descriptor")) (hm : MtR X id r) (ho : PE X o to) (ha : PA X (e :: es) t)
    (hbase : attributeBase o name X.env (eval o X.env) = eval o X.env := by rfl)
    (hfew : ((backTo cpos (starEach (e :: es) X.env)).all (fun x => !x.1) && (backToKw cpos (keywordEach [] X.env)).all (fun x => x.1.isSome)
      && decide ((e :: es).length + ([] : List Keyword).length + (if ([] : List Keyword).isEmpty then 0 else 1) < 30)) = true := by rfl)
    (hline : (apos.endLine == cpos.line) = true := by rfl) (hs : starEach (e :: es) X.env = (false, eval e X.env) :: starEach es X.env := by rfl) (hplain : (backTo cpos (starEach es X.env)).any (·.1) = false := by rfl) :
    PE X (.Call (.Attribute o name apos) (e :: es) [] cpos) (tBMT r to t) := by
  refine ⟨fun pins s σ H Q I h => ?_⟩
  refine wpAny_Call_method_late hbase hfew hline rfl (thn (ho.run pins s σ H _ I h) fun v s1 ⟨x, H1, I1, r1, ⟨p, ob, xs, ex, hp, hd⟩, q1⟩ => ?_)
  subst ex
  obtain rfl : v = Value.ref p := r1
  obtain ⟨its, rv, pl, _⟩ := I1.tuple (.inl (.inr ⟨ob, hp⟩))
  have ho := (show ObjOk X.prog X.w H1 s1.heap p (.frz ob (.tup xs)) from I1.hok p _ hp).1
  refine ⟨"tuple", id, PySem.F.plainAttrs_tuple, slot, hty, ?_, fun a ea => ?_, ?_⟩
  · obtain ⟨o1, h1, h2, _⟩ := pl
    exact ⟨o1, h1, h2⟩
  · cases ea
    exact ⟨ob, ho, hd⟩
  · have hA := ha.run cpos pins s1 σ H1 _ I1 q1
    rw [hs] at hA ⊢
    refine Calls.callWith_builtin (by show (false || (backTo cpos (starEach es X.env)).any (·.1)) = false; rw [hplain] <;> rfl) (Calls.evalArgs_plain ?_)
    exact thn hA fun us s2 ⟨vs, H2, I2, r2, q2⟩ => hm pins s2 σ H2 (.ref p) vs _ us Q I2 rfl r2 q2
end
end Ask

namespace Ask
open PySem L2
/-- an own error class of the text, its __init__ at f -/
structure ErrAt (K : PySem.W.Frag) (mg : Str → Option Value) (x : Str) (C f : Addr) (fd : FuncData) (ps : List Str) : Prop where
  m : mg x = some (.ref C)
  o : OexC K C
  i : PySem.W.findIn K (.ref C) "__init__" = some (some (.ref f))
  t : PySem.W.typeIn K (.ref f) = some (.type "function")
  b : Binds K fd ps []
  xf : XfC K C
theorem err_made {C : Addr} {ok : List V → Prop} {fs : List V → List (Str × V)} {H0 H1 : Hp} {ws : List V} {Qx : XK} (s : Same H0 H1) (hok : ok ws) (hl : ws.length ≤ 1000)
    (k : ∀ (H' : Hp) (d : Addr), Same H0 H' → H' d = some (.xd (fs ws)) → Qx (.ref C) (some d) H') :
    ws.length ≤ 1000 ∧ ∀ a, H1 a = none → spErr C ok fs (.ref a :: (ws ++ [])) (upd H1 a (exo a C none))
      (fun v H2 => v = .non ∧ ∃ (d : Addr) (fs' : List (Str × V)), H2 a = some (exo a C (some d)) ∧ H2 d = some (exd d fs') ∧ H1 d = none ∧ Qx (.ref C) (some d) (upd (del H2 a) d (.xd fs'))) (fun _ _ _ => False) := by
  refine ⟨hl, fun a ha => ⟨a, ws, by rw [List.append_nil], hok, upd_same, fun H' dx hdx hne e1 e2 kk => ?_⟩⟩
  have h1 : H1 dx = none := by
    rw [upd_ne hne] at hdx
    exact hdx
  refine ⟨rfl, dx, _, e1, e2, h1, k _ dx (fun b o e => ?_) upd_same⟩
  have e' := s b o e
  have nb : b ≠ a := ne_of_none e' ha
  rw [upd_ne (ne_of_none e' h1), del_ne nb]
  exact kk b o nb (by rw [upd_ne nb]; exact e')
theorem for_enum {K : PySem.W.Frag} {ta : TA} {g : TG} {tb u : TS} {D : Ends} {σ : L2.St} {H : Hp} {J : It} {n : Nat} {G : Hp → Prop} {Y : Nat → Hp → V → Hp → Prop} (f : ∀ R : It → Hp → Prop, R J H → iEnumA K ta σ H R)
    (wk : Walk J n G Y) (Pv : Nat → L2.St → Hp → Prop) (h0 : Pv 0 σ H) (hG : ∀ i σ H, i ≤ n → Pv i σ H → G H)
    (hs : ∀ i x σ H H', i < n → Pv i σ H → Y i H x H' → g x σ H' fun σ2 H2 => tb { D with nx := Pv (i + 1), ct := Pv (i + 1), bk := u D } σ2 H2) (hd : ∀ σ H, Pv n σ H → u D σ H) :
    tSeq (tFor (iEnumA K ta) g tb) u D σ H := by
  delta tSeq tFor
  exact f _ (for_it (D := { D with nx := u D }) wk Pv h0 hG hs hd)
theorem seqT_same {K : PySem.W.Frag} {H H' : Hp} {a : Addr} {xs : List V} (e : Same H H') (h : SqT K H a xs) : SqT K H' a xs := by
  rcases h with (h | ⟨o, h⟩) | h
  · exact .inl (.inl (e _ _ h))
  · exact .inl (.inr ⟨o, e _ _ h⟩)
  · exact .inr h
section
variable {P : Program} {w : World} {K : PySem.W.Frag} {mg : Str → Option Value} {base : Heap}
/-! ### Letters(words) -/
def spLet (K : PySem.W.Frag) (CL CB CM : Addr) : Sp := fun vs H Q E => ∃ (p dx a : Addr) (xs : List V) (ds : List PyData) (N : Addr → Prop), vs = [.ref p, .ref a] ∧ H p = some (.ins CL dx []) ∧ (SqL K H a xs ∨ SqT K H a xs) ∧ ItL N H xs ds ∧ xs.length ≤ 100 ∧
  (∀ (H' : Hp) (d : Addr) (i : Int), res ds = .tuple [.str "letters", .int i] → Same H H' → H' d = some (.xd (fsBad [.int i])) → E (.ref CB) (some d) H') ∧
  (∀ (H' : Hp) (d : Addr), 12 < ds.length → Same H H' → H' d = some (.xd (fsMany [.str "letters", .int (ds.length : Nat), .int 12])) → E (.ref CM) (some d) H') ∧
  (∀ (H' : Hp) (t : Addr) (o : Obj), res ds = .none → o.dict = none → H' p = some (.ins CL dx [("words", .ref t)]) → H' t = some (.frz o (.tup xs)) → (∀ b o, b ≠ p → H b = some o → H' b = some o) → Q .non H')
abbrev s_Letters_init : Stmt := inClass (top 18) 0
theorem sc_Letters_init : FnScope ["self", "words", "many", "kept", "index", "word"] ["self", "words"] (defScope s_Letters_init) := ⟨rfl, rfl, rfl, by decide +kernel, rfl, by decide +kernel, by decide +kernel⟩
theorem ok_letInit {f fI fB fM CL CB CM : Addr} {fd fdI fdB fdM : FuncData} (F : Fun K "__init__" "Letters.__init__" s_Letters_init f fd) (T : Blt mg) (C : Gv K mg) (hC : Cls K CL) (hA : NoAttr K CL "words")
    (GI : FnOk P w K mg base CX0 2 fI fdI ["value"] (spIsL K)) (I : At K mg "is_letter" fI fdI ["value"])
    (FB : FnOk P w K mg base CX0 2 fB fdB ["self", "index"] (spErr CB okBad fsBad)) (EB : ErrAt K mg "BadLetters" CB fB fdB ["self", "index"])
    (FM : FnOk P w K mg base CX0 2 fM fdM ["self", "what", "many", "most"] (spErr CM okMany fsMany)) (EM : ErrAt K mg "TooMany" CM fM fdM ["self", "what", "many", "most"]) :
    FnOk P w K mg base (L2.CX P w) 4 f fd ["self", "words"] (spLet K CL CB CM) := by
  refine F.okX sc_Letters_init (fun vs H Q E h => ?_) (fun cdv A outer s H vs Q E hr h => ?_)
  · obtain ⟨p, dx, a, xs, ds, N, rfl, _⟩ := h
    rfl
  · obtain ⟨p, dx, a, xs, ds, N, rfl, hp, hS, hI, hn, kB, kM, kQ⟩ := h
    have hu65 : A.units + 3 + 65 < cLine := by have := hr.un; have e : (A.deeper (PyProof.Rows.envOfC (Str.ofString "Letters.__init__") (defScope s_Letters_init) s.heap.objs.size f cdv)).units = A.units + 3 := rfl; omega
    have hr2 := hr.mono (j := 2) (by decide)
    refine ⟨_, (pss_cons (ps_set (i := 2) sc_Letters_init.nd rfl (Or.inl rfl) (pe_callB call_len_seq (by rfl) T.n_len (by decide +kernel) (pa_cons (pv 1) pa_nil)))
      (pss_cons (ps_if (pt_cmpR op_gt (pv 2) (pe_gv rfl C.mostL) (nomark _)) (pss_one (ps_raise rfl (takes_of rfl rfl rfl rfl) (pmk_oex EM.o EM.i EM.t FM hr EM.b .nil pass0 (by rfl) EM.m (pa_cons pe_str (pa_cons (pv 2) (pa_cons (pe_gv rfl C.mostL) pa_nil)))))) pss_nil)
      (pss_cons (ps_if (pt_cmpR op_eq (pv 2) pe_int (nomark _)) (pss_one (ps_raise rfl (takes_of rfl rfl rfl rfl) (pmk_oex EB.o EB.i EB.t FB hr EB.b .nil pass0 (by rfl) EB.m (pa_cons pe_int pa_nil)))) pss_nil)
      (pss_cons (ps_set (i := 3) sc_Letters_init.nd rfl (Or.inl rfl) (pe_lst pa_nil))
      (pss_cons (ps_for (passes_of rfl) rfl (pi_enumA (by rfl) T.n_enumerate (pa_cons (pv 1) pa_nil)) (pg_tup rfl (pgs_cons (pg_name (i := 4) sc_Letters_init.nd rfl (Or.inl rfl)) (pgs_cons (pg_name (i := 5) sc_Letters_init.nd rfl (Or.inl rfl)) pgs_nil))) (pss_cons (ps_if (PW.pt (pw_or (pt_not (pt_val (pe_call GI hr2 (by rfl) I.m I.k I.b .nil pass0 (pa_cons (pv 5) pa_nil)))) (pw_or1 (pt_cmpR (op_inD hu65) (pv 5) (pv 3) rfl)))) (pss_one (ps_raise rfl (takes_of rfl rfl rfl rfl) (pmk_oex EB.o EB.i EB.t FB hr EB.b .nil pass0 (by rfl) EB.m (pa_cons (pv 4) pa_nil)))) pss_nil)
      (pss_one (ps_expr (pe_bm PySem.F.plainAttrs_list PySem.F.slot_list_append PySem.F.type_list_append mt_append (pv 3) (pa_cons (pv 5) pa_nil))))))
      (pss_one (ps_fld (pv 0) (pe_callTy call_tuple_frz (by rfl) T.n_tuple (by decide +kernel) (pa_cons (pv 3) pa_nil)) rfl))))))), ?_⟩
    have hlen := hI.len
    have z1 : (1000 : Nat) ≤ sizeLine := by decide
    have fit := hI.fit
    refine ⟨_, rfl, a, xs, rfl, hS, _, rfl, _, _, rfl, rfl, _, rfl, ite2 (fun h1 => ?_) (fun h1 => ?_)⟩
    · have h1 : (12 : Int) < (xs.length : Nat) := of_decide_eq_true h1
      refine ⟨_, rfl, err_made (Same.refl H) ⟨_, _, _, rfl⟩ (by show 3 ≤ 1000; decide) (fun H' d s' e => kM H' d (by omega) s' ?_)⟩
      rw [← hlen]
      exact e
    have h1 : ¬ 12 < ds.length := fun q => h1 (decide_eq_true (by omega))
    refine ⟨_, rfl, rfl, _, rfl, ite2 (fun h2 => ?_) (fun h2 => ?_)⟩
    · have h2 : V.int ((xs.length : Nat) : Int) = V.int 0 := of_decide_eq_true h2
      injection h2 with h2
      exact err_made (Same.refl H) ⟨_, rfl⟩ (by show 1 ≤ 1000; decide) (fun H' d s' e => kB H' d 0 (res_none (by omega)) s' e)
    have h2 : 0 < ds.length := by
      have : ¬ ((xs.length : Nat) : Int) = 0 := fun q => h2 (decide_eq_true (congrArg V.int q))
      omega
    refine ⟨Nat.zero_le _, fun L hL => ?_⟩
    have s1 := Ask.Same.made1 (o := .lst []) (Same.refl H) hL
    have hL1 : upd H L (.lst []) L = some (.lst (xs.take 0)) := upd_same
    generalize upd H L (.lst []) = H1 at s1 hL1 ⊢
    obtain ⟨J, G, wk, hG, fits⟩ : ∃ (J : It) (G : Hp → Prop), Walk J xs.length G (YPair (fun i => some (.int (i : Nat))) (fun i => xs[i]?)) ∧ (∀ H', Same H H' → G H') ∧
        ∀ (R : It → Hp → Prop), R J H1 → iEnumA K (tCons (tVar 1) tNil) [some (.ref p), some (.ref a), some (.int (xs.length : Nat)), some (.ref L), none, none] H1 R := by
      rcases hS with hS | hS
      · exact ⟨Ite K a, _, walk_enum, fun H' s' => s'.seq hS, fun R r => ⟨_, rfl, a, xs, rfl, .inl ⟨s1.seq hS, r⟩⟩⟩
      · exact ⟨IteT K a, _, walk_enumT, fun H' s' => seqT_same s' hS, fun R r => ⟨_, rfl, a, xs, rfl, .inr ⟨seqT_same s1 hS, r⟩⟩⟩
    refine for_enum fits wk (fun i σ' H' => ∃ o4 o5 : Option V, σ' = [some (.ref p), some (.ref a), some (.int (xs.length : Nat)), some (.ref L), o4, o5] ∧ Same H H' ∧ H' L = some (.lst (xs.take i)) ∧ ∀ j < i, badAt ds j = false)
      ⟨none, none, rfl, s1, hL1, fun j hj => absurd hj (Nat.not_lt_zero _)⟩ (fun i σ' H' _ ⟨_, _, _, s', _⟩ => hG H' s') ?_ ?_
    · rintro i x σ' H2 H3 hi ⟨o4, o5, rfl, s2, hL2, hno⟩ ⟨t, x0, y0, rfl, ht, rfl, ex, ey⟩
      cases ex
      obtain ⟨v, d, hv, hd, hvd⟩ := hI.get i hi
      replace ey : xs[i]? = some y0 := ey
      obtain rfl : v = y0 := Option.some.inj (hv.symm.trans ey)
      clear ey
      have s3 := Ask.Same.made1 (o := .tup [.int (i : Nat), v]) s2 ht
      have hL3 : upd H2 t (.tup [.int (i : Nat), v]) L = some (.lst (xs.take i)) := by rw [upd_ne (ne_of_none hL2 ht)]; exact hL2
      have ht3 : upd H2 t (.tup [.int (i : Nat), v]) t = some (.tup [.int (i : Nat), v]) := upd_same
      generalize upd H2 t (.tup [.int (i : Nat), v]) = H4 at s3 hL3 ht3 ⊢
      have e0 : badAt ds i = (!isL d || (ds.take i).any fun z => PyData.eqv z d) := by
        unfold badAt
        rw [hd]
      have bad : ∀ H5, Same H H5 → badAt ds i = true → tMkO CB (spErr CB okBad fsBad) [] (tCons (tVar 4) tNil) [some (.ref p), some (.ref a), some (.int (xs.length : Nat)), some (.ref L), some (.int (i : Nat)), some v] H5 fun cls d H' => E cls d H' := fun H5 s5 q =>
        ⟨_, rfl, err_made s5 ⟨_, rfl⟩ (by show 1 ≤ 1000; decide) (fun H' d s' e => kB H' d i (res_at h1 (by omega) q hno) s' e)⟩
      refine ⟨t, _, rfl, SqT.of ht3, rfl, _, _, rfl, _, _, rfl, rfl, ?_⟩
      have hvd4 := hvd.same s3
      refine ⟨_, rfl, v, d, rfl, hvd4.dp, hvd4.itm, fun H5 s5 => ⟨_, rfl, ?_⟩⟩
      have s35 := s3.trans s5
      have hL5 := s5 _ _ hL3
      refine ite2 (fun q => ?_) (fun q => ?_)
      · exact iteT (bad H5 s35 (by rw [e0]; have q : (!isL d) = true := q; rw [q]; rfl))
      · have q : (!isL d) = false := (Bool.not_eq_true _).mp q
        have hT := (hI.mp fun v d h => h.same s35).take i
        refine ⟨_, rfl, _, rfl, d, ds.take i, (hvd.same s35).dp, .lst (SqL.of hL5) hT.dp, (itm_fit hvd.itm).shaped, hT.fit.shapedL, _, rfl, ?_⟩
        have e1 : badAt ds i = (ds.take i).any fun z => PyData.eqv z d := by rw [e0, q, Bool.false_or]
        refine ite2 (fun q => bad H5 s35 (by rw [e1]; exact q)) (fun q => ?_)
        have q : badAt ds i = false := by rw [e1]; exact (Bool.not_eq_true _).mp q
        refine ⟨_, rfl, .inl ⟨rfl, _, SqL.of hL5⟩, _, rfl, L, _, _, rfl, rfl, hL5, ?_, ?_⟩
        · rw [List.length_take]
          omega
        · refine ⟨_, _, rfl, Ask.Same.upd_new s35 hL, ?_, fun j hj => ?_⟩
          · rw [upd_same, List.take_add_one, hv]
            rfl
          · rcases Nat.lt_succ_iff_lt_or_eq.mp hj with hj | rfl
            · exact hno j hj
            · exact q
    · rintro σ' H2 ⟨o4, o5, rfl, s2, hL2, hno⟩
      rw [List.take_length] at hL2
      refine ⟨_, rfl, L, xs, rfl, SqL.of hL2, fun t ob ht hob => ?_⟩
      have npt : p ≠ t := ne_of_none (s2 _ _ hp) ht
      refine ⟨_, rfl, p, CL, dx, [], rfl, (by rw [upd_ne npt]; exact s2 _ _ hp), hC, hA, (by show 0 < 1000; decide), ?_⟩
      refine kQ _ t ob (res_good h1 h2 (by rw [← hlen]; exact hno)) hob upd_same (by rw [upd_ne npt.symm]; exact upd_same) fun b o hb e => ?_
      have e' := s2 _ _ e
      rw [upd_ne hb, upd_ne (ne_of_none e' ht)]
      exact e'
end
end Ask

/-! an instance's own __contains__, __len__, __eq__, each by what its def promises -/
namespace Ask
open PySem L2 PySem.Spec PyProof.Rows
section
variable {X : Cx} {CX : CXT} {k : Nat} {C f : Addr} {fd : FuncData} {ps : List Str} {sp : Sp} {E : XK}
theorem run_at {A : Around} {pins : List (Addr × Obj)} {σ : L2.St} {H : Hp} {s : Shared} {Q : VK} {us : List Value} {vs : List V} (F : FnOk X.prog X.w X.K X.mg X.base CX k f fd ps sp) (hr : Room k A) (hfr : A.frames = X.A.frames) (hb : Binds X.K fd ps []) (hx : Passes CX X E)
    (I : Inv X pins σ H s) (r : Vals vs us) (h : sp vs H Q E) : wpAny (model X.prog X.w) A (call (.ref f) us) (EP X pins σ Q) X.xe s := by
  have hl : us.length = ps.length := by rw [← r.length]; exact F.len _ _ _ _ h
  have b := hb s us I.kIn (by rw [List.append_nil]; exact hl)
  rw [List.append_nil] at b
  have e0 : Env0 X.prog X.w X.K X.mg X.base A X.stack s H := by
    have e := I.env0
    exact ⟨by rw [hfr]; exact e.frames, e.mod, e.bs, e.bsz, e.funs, e.frf, e.hok, e.bare⟩
  refine wpAny_call (codeAny_mono (F.run A X.stack s H ⟨us, []⟩ us vs Q E hr e0 b r h) fun r s' hq => ?_)
  cases r with
  | error e => exact hx pins σ H s e s' I hq
  | ok fl =>
    cases fl with
    | ret u => exact I.after hq
    | next => exact False.elim hq
    | brk => exact False.elim hq
    | cont => exact False.elim hq
/-- x in y, y an instance of C -/
def rInI (C : Addr) (sp : Sp) (E : XK) (neg : Bool) : R2 := fun x y H Q => ∃ (a dx : Addr) (fs : List (Str × V)), y = .ref a ∧ H a = some (.ins C dx fs) ∧ sp [.ref a, x] H (fun v H' => ∃ b : Bool, v = .bl b ∧ Q (.bl (if neg then !b else b)) H') E
theorem op_inI (F : FnOk X.prog X.w X.K X.mg X.base CX k f fd ps sp) (hr : Room k X.A) (hb : Binds X.K fd ps []) (hx : Passes CX X E) (hs : PySem.W.findIn X.K (.ref C) "__contains__" = some (some (.ref f))) (hf : PySem.W.isFn X.K (.ref f) = true) :
    OpR X (compareOp .In) (rInI C sp E false) := by
  intro pins s σ H x y v u Q I rx ry h
  obtain ⟨a, dx, fs, rfl, ha, q⟩ := h
  cases ry
  obtain ⟨mA, J, _⟩ := ins_get I.hok ha
  obtain ⟨od, J, _⟩ := J.look
  obtain ⟨m, hF⟩ := I.fr
  refine PySem.W.in_K hF I.ok.mod.kin J hs hf (thn (run_at (vs := [.ref a, x]) F hr rfl hb hx I (.cons rfl (.cons rx .nil)) q) fun r s' ⟨z, H', I', rz, b, ez, q'⟩ => ?_)
  subst ez
  cases rz
  exact wpAny_truthy_bool ⟨.bl b, H', I', rfl, q'⟩
theorem op_notInI (F : FnOk X.prog X.w X.K X.mg X.base CX k f fd ps sp) (hr : Room k X.A) (hb : Binds X.K fd ps []) (hx : Passes CX X E) (hs : PySem.W.findIn X.K (.ref C) "__contains__" = some (some (.ref f))) (hf : PySem.W.isFn X.K (.ref f) = true) :
    OpR X (compareOp .NotIn) (rInI C sp E true) := by
  intro pins s σ H x y v u Q I rx ry h
  obtain ⟨a, dx, fs, rfl, ha, q⟩ := h
  cases ry
  obtain ⟨mA, J, _⟩ := ins_get I.hok ha
  obtain ⟨od, J, _⟩ := J.look
  obtain ⟨m, hF⟩ := I.fr
  refine PySem.W.notIn_K hF I.ok.mod.kin J hs hf (thn (run_at (vs := [.ref a, x]) F hr rfl hb hx I (.cons rfl (.cons rx .nil)) q) fun r s' ⟨z, H', I', rz, b, ez, q'⟩ => ?_)
  subst ez
  cases rz
  exact wpAny_truthy_bool ⟨.bl (!b), H', I', rfl, q'⟩
/-- len(x), x an instance of C -/
theorem call_lenI (F : FnOk X.prog X.w X.K X.mg X.base CX k f fd ps sp) (hr : Room (k + 1) X.A) (hb : Binds X.K fd ps []) (hx : Passes CX X E) (hs : PySem.W.findIn X.K (.ref C) "__len__" = some (some (.ref f))) (hf : PySem.W.isFn X.K (.ref f) = true) :
    CallR X (.builtin "len") (fun xs H Q => ∃ (a dx : Addr) (fs : List (Str × V)), xs = [.ref a] ∧ H a = some (.ins C dx fs) ∧ sp [.ref a] H (fun v H' => ∃ n : Nat, v = .int n ∧ n ≤ 16777216 ∧ Q (.int n) H') E) := by
  intro pins s σ H xs us Q I r h
  obtain ⟨a, dx, fs, rfl, ha, q⟩ := h
  obtain ⟨u, rfl, ra⟩ := vals1 r
  obtain rfl : u = Value.ref a := ra
  obtain ⟨mA, J, _⟩ := ins_get I.hok ha
  obtain ⟨od, J, _⟩ := J.look
  obtain ⟨m, hF⟩ := I.fr
  refine PySem.W.len_K hF I.ok.mod.kin J hs hf (thn (run_at (vs := [.ref a]) F hr.in1 rfl hb hx I (.cons rfl .nil) q) fun r s' ⟨z, H', I', rz, n, ez, hn, q'⟩ => ?_)
  subst ez
  obtain ⟨t, rfl⟩ := rz
  exact ⟨⟨by omega, by omega⟩, ⟨.int n, H', I'.tok _, ⟨_, rfl⟩, q'⟩⟩
/-- x == y, both instances of C -/
theorem op_eqI (F : FnOk X.prog X.w X.K X.mg X.base CX k f fd ps sp) (hr : Room k X.A) (hb : Binds X.K fd ps []) (hx : Passes CX X E) (hs : PySem.W.findIn X.K (.ref C) "__eq__" = some (some (.ref f))) (hf : PySem.W.isFn X.K (.ref f) = true) :
    OpR X (compareOp .Eq) (fun x y H Q => ∃ (a b dx dy : Addr) (fs gs : List (Str × V)), x = .ref a ∧ y = .ref b ∧ H a = some (.ins C dx fs) ∧ H b = some (.ins C dy gs) ∧ sp [.ref a, .ref b] H (fun v H' => ∃ c : Bool, v = .bl c ∧ Q (.bl c) H') E) := by
  intro pins s σ H x y v u Q I rx ry h
  obtain ⟨a, b, dx, dy, fs, gs, rfl, rfl, ha, hb', q⟩ := h
  cases rx
  cases ry
  obtain ⟨mA, J, _⟩ := ins_get I.hok ha
  obtain ⟨mB, J', _⟩ := ins_get I.hok hb'
  obtain ⟨od, J, _⟩ := J.look
  obtain ⟨od', J', _⟩ := J'.look
  obtain ⟨m, hF⟩ := I.fr
  show wpAny (model X.prog X.w) X.A (richCompare .Eq (.ref a) (.ref b)) (EP X pins σ Q) X.xe s
  refine PySem.W.cmp_K (op := .Eq) (tb := .ref C) hr.units0 hF I.ok.mod.kin J J'.type (by simp [PySem.W.notFirst]) hs hf (thn (run_at (vs := [.ref a, .ref b]) F hr rfl hb hx I (.cons rfl (.cons rfl .nil)) q) fun r s' ⟨z, H', I', rz, c, ez, q'⟩ => ?_)
  subst ez
  cases rz
  exact ⟨.bl c, H', I', rfl, q'⟩
/-- a class over object with its own __eq__ at f and no __ne__ -/
def OwnNe (K : PySem.W.Frag) (C f : Addr) : Prop :=
  ∃ (nm q : Str) (N : Addr) (bs : List Value) (hdct : Bool) (sn : List Str) (sub : List Value) (ab : Bool) (col : Option Bool) (dd : Option Addr) (k0 k1 k2 k3 k5 : Option Value) (newId : String) (oN : Obj) (es : Array DictEntry) (ep : Nat) (of : Obj),
    K.lookup C = some (excClassObj nm q C N bs [.type "object"] hdct sn sub ab col dd k0 k1 k2 k3 k5 newId) ∧ K.lookup N = some oN ∧ oN.data = .dict es ep ∧ StrKeys es ∧ nsFind es "__eq__" = some (.ref f) ∧ nsFind es "__ne__" = none ∧
    K.lookup f = some of ∧ of.cls = .type "function"
/-- x != y, both instances of C -/
theorem op_neI (F : FnOk X.prog X.w X.K X.mg X.base CX k f fd ps sp) (hr : Room (k + 1) X.A) (hb : Binds X.K fd ps []) (hx : Passes CX X E) (cl : OwnNe X.K C f) :
    OpR X (compareOp .NotEq) (fun x y H Q => ∃ (a b dx dy : Addr) (fs gs : List (Str × V)), x = .ref a ∧ y = .ref b ∧ H a = some (.ins C dx fs) ∧ H b = some (.ins C dy gs) ∧ sp [.ref a, .ref b] H (fun v H' => ∃ c : Bool, v = .bl c ∧ Q (.bl (!c)) H') E) := by
  intro pins s σ H x y v u Q I rx ry h
  obtain ⟨a, b, dx, dy, fs, gs, rfl, rfl, ha, hb', q⟩ := h
  cases rx
  cases ry
  obtain ⟨mA, J, _⟩ := ins_get I.hok ha
  obtain ⟨mB, J', _⟩ := ins_get I.hok hb'
  obtain ⟨od, J, _⟩ := J.look
  obtain ⟨od', J', _⟩ := J'.look
  obtain ⟨nm, qn, N, bs, hdct, sn, sub, ab, col, dd, k0, k1, k2, k3, k5, newId, oN, es, ep, of, lC, lN, dN, sk, fe, fn, lf, cf⟩ := cl
  have kin := I.kIn
  obtain ⟨hp, g, d, t, os⟩ := s
  have own : hp.OwnEqNoNe a C f "object" [.type "object"] :=
    ⟨_, of, nm, qn, N, bs, hdct, sn, sub, ab, col, dd, k0, k1, k2, k3, k5, newId, nsFind es, _, J.1, J.cls, kin _ _ lC, ⟨oN, es, ep, kin _ _ lN, dN, sk, fun _ => rfl⟩, fe, kin _ _ lf, cf, PySem.F.cmp_object.mro, PySem.F.cmp_object.eq.lookup, fn⟩
  refine compareOp_ne_ownEq PySem.F.cmp_object own J'.1 J'.cls (by have := hr.un; omega) (thn (run_at (vs := [.ref a, .ref b]) F hr.in1 rfl hb hx I (.cons rfl (.cons rfl .nil)) q) fun r s' ⟨z, H', I', rz, c, ez, q'⟩ => ?_)
  subst ez
  cases rz
  exact ⟨c, rfl, ⟨.bl (!c), H', I', rfl, q'⟩⟩
end
end Ask

/-! a text against a dict; a dict in a tuple or list of texts -/
namespace Ask
open PySem L2 PySem.Spec PyProof.Rows PySem.SeqAt
theorem sub_sd : isSubtype (.type "str") (.type "dict") = pure false := by rw [isSubtype_type]; kernel_rfl
theorem sub_ds : isSubtype (.type "dict") (.type "str") = pure false := by rw [isSubtype_type]; kernel_rfl
theorem dict_declines (l : Addr) (o : Obj) (b : Str) (u : Tok) (hc : o.cls = .type "dict") :
    Meets (Builtin.«dict.__eq__» ⟨[.ref l, .str b u], []⟩) (fun _ R s => s.heap.get? l = some o ∧ R (.ok (.ret .notImplemented)) s) :=
  .of_wp fun prog w A R s h => by
    obtain ⟨hp, g, d, tk, os⟩ := s
    obtain ⟨cls, dd, data, sl⟩ := o
    obtain rfl : cls = .type "dict" := hc
    obtain ⟨hl, h⟩ := h
    have f1 := sub_sd
    wp_walk using wpAny_loadPart' hl
    exact ⟨_, rfl, h⟩
theorem str_declines (l : Addr) (o : Obj) (b : Str) (u : Tok) (hc : o.cls = .type "dict") {es : Array DictEntry} {ep : Nat} (hd : o.data = .dict es ep) :
    Meets (Builtin.«str.__eq__» ⟨[.str b u, .ref l], []⟩) (fun _ R s => s.heap.get? l = some o ∧ R (.ok (.ret .notImplemented)) s) :=
  .of_wp fun prog w A R s h => by
    obtain ⟨hp, g, d, tk, os⟩ := s
    obtain ⟨cls, dd, data, sl⟩ := o
    obtain rfl : cls = .type "dict" := hc
    obtain rfl : data = .dict es ep := hd
    obtain ⟨hl, h⟩ := h
    wp_walk using wpAny_loadPart' hl, wpAny_load hl
    exact ⟨_, rfl, h⟩
section
variable {A : Around} {s : Shared}
theorem rcAt_sd {l : Addr} {o : Obj} (b : Str) (u : Tok) (ho : s.heap.get? l = some o) (hc : o.cls = .type "dict") {es : Array DictEntry} {ep : Nat} (hd : o.data = .dict es ep) (hu : A.units < cLine) : RcAt A s (.str b u) (.ref l) false := fun prog w E Q h =>
  rc_eq_decline_or (k := false) (typeIs_str s b u) ⟨o, ho, hc⟩ (by decide) sub_ds PySem.F.slot_str_eq PySem.F.slot_dict_eq_refl
    (fun _ hq => call_meets PySem.F.slot_str_eq (typeIs_str s b u) PySem.F.entry_str_eq (PySem.F.args_str_eq_2 _ _) (str_declines l o b u hc hd) ⟨ho, hq⟩)
    (fun _ hq => call_meets PySem.F.slot_dict_eq_refl ⟨o, ho, hc⟩ PySem.F.entry_dict_eq (PySem.F.args_dict_eq_2 _ _) (dict_declines l o b u hc) ⟨ho, hq⟩)
    (fun _ hq => wpAny_of_eq (rfl : isSame (.str b u) (.ref l) = pure false) hq) (.inr hu) h
theorem eqAt_sd {l : Addr} {o : Obj} (b : Str) (u : Tok) (ho : s.heap.get? l = some o) (hc : o.cls = .type "dict") {es : Array DictEntry} {ep : Nat} (hd : o.data = .dict es ep) (hu : A.units < cLine) : EqAt A s (.str b u) (.ref l) false := fun prog w E Q h => by
  unfold eqBool
  refine wpAny_holding ?_
  refine wpAny_ite_split (fun hab => absurd (eq_of_beq hab) nofun) (fun _ => ?_)
  exact wpAny_bind (rcAt_sd b u ho hc hd hu prog w E _ (wpAny_truthy_bool h))
end
section
variable {X : Cx}
/-- a dict in a tuple of texts -/
def rInSD (K : PySem.W.Frag) (neg : Bool) : R2 := fun x y H Q => ∃ (d p : Addr) (kvs : List (Key × V)) (ys : List Str), x = .ref d ∧ y = .ref p ∧ H d = some (.dK kvs) ∧ SqT K H p (ys.map V.str) ∧ Q (.bl neg) H
theorem strs_eqAt {A : Around} {s : Shared} {l : Addr} {o : Obj} (ho : s.heap.get? l = some o) (hc : o.cls = .type "dict") {es : Array DictEntry} {ep : Nat} (hd : o.data = .dict es ep) (hu : A.units < cLine) : ∀ (ys : List Str) (us : List Value), Vals (ys.map V.str) us → ∀ w ∈ us, EqAt A s w (.ref l) false
  | [], us, r => by
    cases r
    exact fun w hw => by cases hw
  | y :: ys, us, r => by
    cases r with
    | cons r t =>
      intro w hw
      rcases List.mem_cons.mp hw with rfl | hw
      · obtain ⟨tk, rfl⟩ := r
        exact eqAt_sd y tk ho hc hd hu
      · exact strs_eqAt ho hc hd hu ys _ t w hw
theorem op_inSD (hu : X.A.units + 1 < cLine) : OpR X (compareOp .In) (rInSD X.K false) := by
  intro pins s σ H x y v u Q I rx ry h
  obtain ⟨d, p, kvs, ys, rfl, rfl, hd, hq, q⟩ := h
  cases rx
  cases ry
  obtain ⟨_, _, vs, _, o, es, ep, ho, hx, hdd, _⟩ := I.hok d _ hd
  obtain ⟨its, r, pl, hz⟩ := I.tuple hq
  refine in_tupleAt (fun _ => false) pl (fun w hw => strs_eqAt (A := X.A.in1) ho hx.1 hdd hu ys _ r w (by simpa using hw)) ⟨.bl false, H, I, ?_, q⟩
  show Value.bool _ = Value.bool false
  simp
theorem op_notInSD (hu : X.A.units + 1 < cLine) : OpR X (compareOp .NotIn) (rInSD X.K true) := by
  intro pins s σ H x y v u Q I rx ry h
  obtain ⟨d, p, kvs, ys, rfl, rfl, hd, hq, q⟩ := h
  cases rx
  cases ry
  obtain ⟨_, _, vs, _, o, es, ep, ho, hx, hdd, _⟩ := I.hok d _ hd
  obtain ⟨its, r, pl, hz⟩ := I.tuple hq
  refine notIn_tupleAt (fun _ => false) pl (fun w hw => strs_eqAt (A := X.A.in1) ho hx.1 hdd hu ys _ r w (by simpa using hw)) ⟨.bl true, H, I, ?_, q⟩
  show Value.bool _ = Value.bool true
  simp
end
end Ask

/-! isinstance(e, c) in a suite, e an own error with fields -/
namespace Ask
open PySem L2 PySem.Spec PyProof.Rows
/-- what the class says of __class__ -/
structure XkC (K : PySem.W.Frag) (C : Addr) : Prop where
  ic : PySem.W.isClsIn K C = true
  ha : PySem.W.findIn K (.ref C) "__class__" = some (some (.builtin "object.__class__"))
  hn : PySem.W.specialIn K (.builtin "object.__class__") "__get__" = some (some (.builtin "getset_descriptor.__get__"))
  ht : PySem.W.takesIn K (.builtin "object.__class__") = some true
  hm : PySem.W.mroIn K C (.type "object") = some true
def rIsX (K : PySem.W.Frag) (C a : Addr) (cls : Value) (d : Option Addr) : List V → Hp → VK → Prop := fun xs H Q => ∃ (c : V) (cv : Value) (b : Bool) (dd : Addr) (fs : List (Str × V)), xs = [.ref a, c] ∧ cls = .ref C ∧ d = some dd ∧ H dd = some (.xd fs) ∧ ClsV c cv ∧ PySem.W.kitOne K (.ref C) cv = some b ∧ Q (.bl b) H
theorem call_isX {X : Cx} {a C : Addr} {oe : Obj} {cls : Value} {d : Option Addr} {pn : List (Addr × Obj)} (T : XfC X.K C) (Y : XkC X.K C) (hz : Zc cls d oe) (hf : ∃ vs, oe.data = .fields vs) :
    CallR (X.suite a ((a, oe) :: pn)) (.builtin "isinstance") (rIsX X.K C a cls d) := by
  intro pins s σ H xs us Q I r h
  obtain ⟨c, cv, b, dd, fs, rfl, rfl, rfl, ed, hcv, e, q⟩ := h
  obtain ⟨u1, u2, rfl, r1, r2⟩ := vals2 r
  obtain rfl : u1 = Value.ref a := r1
  have ec := hcv.eq r2
  subst ec
  obtain ⟨ha, _⟩ := I.pin (a, oe) (List.mem_append_left _ List.mem_cons_self)
  obtain ⟨vs, hd⟩ := hf
  obtain ⟨mA, hns, hr⟩ := (show ObjOk X.prog X.w H s.heap dd (.xd fs) from I.hok dd _ ed)
  obtain ⟨od, ho, hl⟩ := lookIn_ns hns
  have J : PySem.W.InstAt s.heap a oe C (some od) := ⟨ha, hz.1, by unfold PySem.W.notCls; rw [hd] <;> rfl, by rw [hz.2]; exact ho⟩
  exact PySem.W.kia_one (PySem.W.kitx_exc Y.ic T.ga T.gg T.exC Y.ha Y.hn Y.ht Y.hm) I.kIn J e (fun z => nomatch z) fun tk => ⟨.bl b, H, I.kept (t' := tk) fun _ _ z => z, rfl, q⟩
end Ask

namespace Ask
open PySem L2
open PySem.SeqAt (in_tupleAt EqAt)
/-- whether x is in the texts: by value, or a list, tuple or dict that is none -/
def InW (H : Hp) (x : V) (ys : List Str) (b : Bool) : Prop := (flatV x = true ∧ b = inV x (ys.map V.str)) ∨
  (b = false ∧ ∃ d, x = .ref d ∧ ((∃ kvs, H d = some (.dK kvs)) ∨ (∃ xs, H d = some (.lst xs)) ∨ (∃ xs, H d = some (.tup xs))))
theorem strs_eqAtR {A : Around} {s : Shared} {l : Addr} (h : ∀ (y : Str) (t : Tok), EqAt A s (.str y t) (.ref l) false) : ∀ (ys : List Str) (us : List Value), Vals (ys.map V.str) us → ∀ w ∈ us, EqAt A s w (.ref l) false
  | [], us, r => by
    cases r
    exact fun w hw => by cases hw
  | y :: ys, us, r => by
    cases r with
    | cons r t =>
      intro w hw
      rcases List.mem_cons.mp hw with rfl | hw
      · obtain ⟨tk, rfl⟩ := r
        exact h y tk
      · exact strs_eqAtR h ys _ t w hw
section
variable {X : Cx}
theorem op_inW (hu : X.A.units + 1 < cLine) : OpR X (compareOp .In) (fun x y H Q => ∃ (p : Addr) (ys : List Str) (b : Bool), y = .ref p ∧ SqT X.K H p (ys.map V.str) ∧ InW H x ys b ∧ Q (.bl b) H) := by
  intro pins s σ H x y v u Q I rx ry h
  obtain ⟨p, ys, b, rfl, hq, hw, q⟩ := h
  rcases hw with ⟨fx, rfl⟩ | ⟨rfl, d, rfl, hd⟩
  · refine op_in_seq pins s σ H x (.ref p) v u Q I rx ry ⟨p, _, rfl, .inr hq, fx, ?_, q⟩
    rw [List.all_eq_true]
    intro y hy
    obtain ⟨z, _, rfl⟩ := List.mem_map.mp hy
    rfl
  · cases rx
    cases ry
    obtain ⟨its, r, pl, hz⟩ := I.tuple hq
    have at_ : ∀ (y : Str) (t : Tok), EqAt X.A.in1 s (.str y t) (.ref d) false := fun y t => by
      rcases hd with ⟨kvs, hd⟩ | ⟨xs, hd⟩ | ⟨xs, hd⟩
      · obtain ⟨_, _, vs, _, o, es, ep, ho, hx, hdd, _⟩ := I.hok d _ hd
        exact eqAt_sd y t ho hx.1 hdd hu
      · obtain ⟨its2, r2, pl2, _⟩ := I.list (.inl (.inl hd))
        exact PySem.SeqAt.EqAt.str_list y t pl2.isList hu
      · obtain ⟨its2, r2, pl2, _⟩ := I.tuple (.inl (.inl hd))
        exact PySem.SeqAt.EqAt.str_tuple y t pl2 hu
    refine in_tupleAt (fun _ => false) pl (fun w hw => strs_eqAtR at_ ys _ r w (by simpa using hw)) ⟨.bl false, H, I, ?_, q⟩
    show Value.bool _ = Value.bool false
    simp
end
/-- letters ys at p, their tuple at t -/
def Mde (CL : Addr) (H : Hp) (p t : Addr) (ys : List Str) : Prop := ∃ (dx : Addr) (o : Obj), H p = some (.ins CL dx [("words", .ref t)]) ∧ H t = some (.frz o (.tup (ys.map V.str))) ∧ o.dict = none
def spHas (CL : Addr) : Sp := fun vs H Q _ => ∃ (p t : Addr) (ys : List Str) (x : V) (b : Bool), vs = [.ref p, x] ∧ Mde CL H p t ys ∧ InW H x ys b ∧ Q (.bl b) H
def spLen (CL : Addr) : Sp := fun vs H Q _ => ∃ (p t : Addr) (ys : List Str), vs = [.ref p] ∧ Mde CL H p t ys ∧ ys.length ≤ 1000 ∧ Q (.int (ys.length : Nat)) H
def spEq2 (CL : Addr) : Sp := fun vs H Q _ => ∃ (p t p' t' : Addr) (ys zs : List Str), vs = [.ref p, .ref p'] ∧ Mde CL H p t ys ∧ Mde CL H p' t' zs ∧ (∀ y ∈ ys, y.length ≤ 500 ∧ Asc y) ∧ (∀ y ∈ zs, y.length ≤ 500 ∧ Asc y) ∧
  Q (.bl (PyData.eqv (.tuple (ys.map PyData.str)) (.tuple (zs.map PyData.str)))) H
def spRank (CL CE : Addr) : Sp := fun vs H Q E => ∃ (p t : Addr) (ys : List Str) (x : V), vs = [.ref p, x] ∧ Mde CL H p t ys ∧ ys.Nodup ∧
  ((∃ (i : Nat) (z : Str), x = .str z ∧ ys[i]? = some z ∧ ∀ H', Same H H' → Q (.int (i : Nat)) H') ∨ (InW H x ys false ∧ ∀ (H' : Hp) (d : Addr), Same H H' → H' d = some (.xd (fsBad [.int 0])) → E (.ref CE) (some d) H'))
abbrev s_Has : Stmt := inClass (top 18) 2
theorem sc_Has : FnScope ["self", "x"] ["self", "x"] (defScope s_Has) := ⟨rfl, rfl, rfl, by decide +kernel, rfl, by decide +kernel, by decide +kernel⟩
abbrev s_Len : Stmt := inClass (top 18) 3
theorem sc_Len : FnScope ["self"] ["self"] (defScope s_Len) := ⟨rfl, rfl, rfl, by decide +kernel, rfl, by decide +kernel, by decide +kernel⟩
abbrev s_Eq : Stmt := inClass (top 18) 4
theorem sc_Eq : FnScope ["self", "other"] ["self", "other"] (defScope s_Eq) := ⟨rfl, rfl, rfl, by decide +kernel, rfl, by decide +kernel, by decide +kernel⟩
abbrev s_Rank : Stmt := inClass (top 18) 1
theorem sc_Rank : FnScope ["self", "x", "place", "word"] ["self", "x"] (defScope s_Rank) := ⟨rfl, rfl, rfl, by decide +kernel, rfl, by decide +kernel, by decide +kernel⟩
theorem passE {X : Cx} : Passes (L2.CX X.prog X.w) X E0 := fun _ _ _ _ _ _ _ h => by
  obtain ⟨_, _, _, _, _, _, _, _, _, _, _, _, e⟩ := h
  exact e.elim
section
variable {P : Program} {w : World} {K : PySem.W.Frag} {mg : Str → Option Value} {base : Heap}
theorem ok_has {f CL : Addr} {fd : FuncData} (F : Fun K "__contains__" "Letters.__contains__" s_Has f fd) (hC : Cls K CL) (hA : NoAttr K CL "words") : FnOk P w K mg base CX0 1 f fd ["self", "x"] (spHas CL) := by
  refine F.ok sc_Has (fun vs H Q E h => ?_) (fun cdv A outer s H vs Q E hr h => ?_)
  · obtain ⟨p, t, ys, x, b, rfl, _⟩ := h
    rfl
  · obtain ⟨p, t, ys, x, b, rfl, ⟨dx, ob, hp, ht, hob⟩, hw, k⟩ := h
    exact ⟨_, pss_one (ps_ret (pe_cmpR (op_inW (hu_of hr)) (pv 1) (pe_fld (pv 0) rfl) rfl)), _, rfl, _, rfl, p, CL, dx, _, _, rfl, hp, hC, hA, rfl, t, ys, b, rfl, (.inl (.inr ⟨ob, ht⟩)), hw, k⟩
theorem ok_len {f CL : Addr} {fd : FuncData} (F : Fun K "__len__" "Letters.__len__" s_Len f fd) (T : Blt mg) (hC : Cls K CL) (hA : NoAttr K CL "words") : FnOk P w K mg base CX0 1 f fd ["self"] (spLen CL) := by
  refine F.ok sc_Len (fun vs H Q E h => ?_) (fun cdv A outer s H vs Q E hr h => ?_)
  · obtain ⟨p, t, ys, rfl, _⟩ := h
    rfl
  · obtain ⟨p, t, ys, rfl, ⟨dx, ob, hp, ht, hob⟩, hl, k⟩ := h
    refine ⟨_, pss_one (ps_ret (pe_callB call_len_seq (by rfl) T.n_len (by decide +kernel) (pa_cons (pe_fld (pv 0) rfl) pa_nil))), _, rfl, p, CL, dx, _, _, rfl, hp, hC, hA, rfl, t, _, rfl, .inr ((.inl (.inr ⟨ob, ht⟩))), ?_⟩
    rw [List.length_map]
    exact k
theorem ok_eq {f CL : Addr} {fd : FuncData} (F : Fun K "__eq__" "Letters.__eq__" s_Eq f fd) (T : Blt mg) (hC : Cls K CL) (hA : NoAttr K CL "words") (Y : XkC K CL) (mL : mg "Letters" = some (.ref CL)) : FnOk P w K mg base CX0 1 f fd ["self", "other"] (spEq2 CL) := by
  refine F.ok sc_Eq (fun vs H Q E h => ?_) (fun cdv A outer s H vs Q E hr h => ?_)
  · obtain ⟨p, t, p', t', ys, zs, rfl, _⟩ := h
    rfl
  · obtain ⟨p, t, p', t', ys, zs, rfl, ⟨dx, ob, hp, ht, hob⟩, ⟨dx', ob', hp', ht', hob'⟩, hy, hz, k⟩ := h
    refine ⟨_, (pss_one (ps_ret (pe_and (pe_callB call_isi (by rfl) T.n_isinstance (by decide +kernel) (pa_cons (pv 1) (pa_cons (pe_gv (v := .ref CL) rfl ⟨_, mL, rfl⟩) pa_nil))) (pe_one (pe_cmpR (op_eqD hr.units) (pe_fld (pv 0) rfl) (pe_fld (pv 1) rfl) (nomark _)))))), ?_⟩
    have kk : PySem.W.kitOne K (.ref CL) (.ref CL) = some true := by
      unfold PySem.W.kitOne
      rw [if_pos (by simp)]
    refine ⟨_, rfl, _, _, _, _, true, rfl, .own CL, .base (.ins hp' hC Y.ha Y.hn Y.ht Y.hm), kk, _, rfl, ite2 (fun _ => ?_) (fun q => absurd rfl q)⟩
    exact ⟨_, rfl, p, CL, dx, _, _, rfl, hp, hC, hA, rfl, _, rfl, p', CL, dx', _, _, rfl, hp', hC, hA, rfl, _, _, .tup ((.inl (.inr ⟨ob, ht⟩))) (dp_strs _), .tup ((.inl (.inr ⟨ob', ht'⟩))) (dp_strs _), (fit_strs hy).shapedT, (fit_strs hz).shapedT, k⟩
end
end Ask

/-! a text == a flat value, a list, a tuple or a dict -/
namespace Ask
open PySem L2 PySem.Spec PyProof.Rows PySem.SeqAt
def Any1 (H : Hp) (x : V) : Prop := flatV x = true ∨ ∃ d, x = .ref d ∧ ((∃ kvs, H d = some (.dK kvs)) ∨ (∃ xs, H d = some (.lst xs)) ∨ (∃ xs, H d = some (.tup xs)))
theorem Any1.same {H H' : Hp} {x : V} (h : Any1 H x) (s : Same H H') : Any1 H' x := by
  rcases h with h | ⟨d, e, h⟩
  · exact .inl h
  · refine .inr ⟨d, e, ?_⟩
    rcases h with ⟨k, h⟩ | ⟨k, h⟩ | ⟨k, h⟩
    · exact .inl ⟨k, s _ _ h⟩
    · exact .inr (.inl ⟨k, s _ _ h⟩)
    · exact .inr (.inr ⟨k, s _ _ h⟩)
section
variable {X : Cx}
theorem op_eqW (hu : X.A.units < cLine) : OpR X (compareOp .Eq) (fun x y H Q => ∃ z : Str, x = .str z ∧ Any1 H y ∧ Q (.bl (decide (V.str z = y))) H) := by
  intro pins s σ H x y v u Q I rx ry h
  obtain ⟨z, rfl, hy, q⟩ := h
  rcases hy with fy | ⟨d, rfl, hd⟩
  · cases y with
    | non => exact op_eq pins s σ H _ _ v u Q I rx ry ⟨rfl, q⟩
    | bl j => exact op_eq pins s σ H _ _ v u Q I rx ry ⟨rfl, q⟩
    | int j => exact op_eq pins s σ H _ _ v u Q I rx ry ⟨rfl, q⟩
    | str j => exact op_eq pins s σ H _ _ v u Q I rx ry ⟨rfl, q⟩
    | _ => cases fy
  · obtain ⟨t, rfl⟩ := id rx
    cases ry
    have fin : EP X pins σ Q (.bool false) s := fin_bl I q (decide_eq_false (fun z => by cases z))
    show wpAny (model X.prog X.w) X.A (richCompare .Eq (.str z t) (.ref d)) (EP X pins σ Q) X.xe s
    rcases hd with ⟨kvs, hd⟩ | ⟨xs, hd⟩ | ⟨xs, hd⟩
    · obtain ⟨_, _, vs, _, o, es, ep, ho, hx, hdd, _⟩ := I.hok d _ hd
      exact rcAt_sd z t ho hx.1 hdd hu _ _ _ _ fin
    · obtain ⟨its2, r2, pl2, _⟩ := I.list (.inl (.inl hd))
      exact RcAt.str_list z t pl2.isList hu _ _ _ _ fin
    · obtain ⟨its2, r2, pl2, _⟩ := I.tuple (.inl (.inl hd))
      exact RcAt.str_tuple z t pl2 hu _ _ _ _ fin
end
end Ask

/-! C(), C an own error without __init__ -/
namespace Ask
open PySem PySem.Spec PyProof.Rows L2
theorem pmk_own0 {X : Cx} {C : Addr} {bmB : List Value} {B newId initId : String} {x : Str} {p pos : Pos} (F : ExcBaseFacts B newId initId bmB) (q : PySem.W.excIn X.K C bmB newId = true) (gC : X.mg x = some (.ref C)) (kC : PySem.W.keepIn X.K (.ref C) = true) (r : Raises X (.ref C)) (hg : Gl X x)
    (hdb : (x == ("__debug__" : Str)) = false := by decide) : PMk X (.Call (.Name x p) [] [] pos) (fun _ H Q => Q (.ref C) none H) := by
  intro pins s σ H Q I h
  refine wpAny_Call_Name_kw (ld_glob I hg gC ?_ hdb)
  refine PySem.W.callWith_K0 (first := []) I.kIn kC ?_
  show wpAny _ _ (call (.ref C) []) _ _ _
  obtain ⟨bm, N, nm, qn, bs, hdct, sn, sub, ab, col, dd, k0, k1, k2, k3, k5, mN, hC, hN, hni, T⟩ := exc_obj I.kIn q
  refine wpAny_call_exc_subT F T hC hN hni (fun h' e hm => ?_) (Nat.zero_le _)
  exact mk_of I hm r h (I.hok.gone hm.new)
/-- an own error class without __init__ -/
structure Err0 (K : PySem.W.Frag) (mg : Str → Option Value) (x : Str) (C : Addr) : Prop where
  m : mg x = some (.ref C)
  e : PySem.W.excIn K C [Value.type "ValueError", Value.type "Exception", Value.type "BaseException", Value.type "object"] "ValueError.__new__" = true
  k : PySem.W.keepIn K (.ref C) = true
  b : PySem.W.subIn K (.ref C) (.type "BaseException") = some true
  t : PySem.W.typeIn K (.ref C) = some (.type "type")
end Ask

/-! a clause «except X» without a name, among several -/
namespace Ask
open PySem L2 PySem.Spec PyProof.Rows
def wNo (K : PySem.W.Frag) (c : Value) (ts : TS) (W : WX) (D : Ends) : WX := fun cls d σ H =>
  ∃ b, PySem.W.exmOne K cls c = some b ∧ (b = true → ts D σ H) ∧ (b = false → W cls d σ H)
theorem hands_no {X : Cx} {D : Ends} {hds : List ExceptHandler} {W : WX} {x : Str} {c : Value} {suite : List Stmt} {b₀ : Stmt} {np pos' : Pos} {ts : TS}
    (hf : X.env.frame = some X.env.locals) (hc : Names X x c)
    (su : ∀ (a : Addr) (oe : Obj) (pn : List (Addr × Obj)), PSs (X.suite a ((a, oe) :: pn)) (b₀ :: suite) ts)
    (rest : Hands X D hds W) : Hands X D (.ExceptHandler (some (.Name x np)) none (b₀ :: suite) pos' :: hds) (wNo X.K c ts W D) := by
  intro pins σ H sI s B a cls d w q
  obtain ⟨b, hb, yes, no⟩ := q
  have J := w.now
  have ok := J.ok
  obtain ⟨oe, vs, he, hz, hd, nL, nF⟩ := w.apart hf
  have S := J.suite he hd w.na nL nF
  refine wpAny_handleBy_cons (codeAny_handlers_test ?_) (by intro z; cases z)
  have ty : PySem.W.Looks (model X.prog X.w) s.heap (typeOf (.ref a)) cls := fun A Q E s' k z => wpAny_typeOf_ref (k _ _ he) (by rw [hz.1]; exact z)
  have isIt := PySem.W.exm_one (M := model X.prog X.w) J.kIn ty hb
  have named : ∀ {Q : Value → Shared → Prop} {E : Value → Shared → Prop}, Q c s → wpAny (model X.prog X.w) (X.A.mark (some (.ref a))) (eval (.Name x np) X.env) Q E s := fun {Q E} z => by
    obtain ⟨g, dbg, m | ⟨m, bt, nn⟩⟩ := hc
    · exact ld_glob (X := X.suite a ((a, oe) :: (X.pn ++ pins))) S g m z dbg
    · exact ld_blt (X := X.suite a ((a, oe) :: (X.pn ++ pins))) S g m bt z nn dbg
  refine named (isIt.here ?_)
  cases b with
  | false => exact rest pins σ H sI s B a cls d w (no rfl)
  | true =>
    refine codeAny_handlers_suite (HandSPX.lands_againZ w.fl fun h4 fl4 up4 => ?_)
    have w4 : Down X pins σ H sI B a cls d { s with heap := h4 } := ⟨fl4, w.inv, w.nb, w.up.trans up4, w.os, w.ag, w.na⟩
    obtain ⟨oe4, vs4, he4, hz4, hd4, nL4, nF4⟩ := w4.apart hf
    have S4 := w4.now.suite he4 hd4 w.na nL4 nF4
    refine wpAny_mono ((su a oe4 (X.pn ++ pins)).run [] _ σ H _ S4 (yes rfl)) (fun f s6 got => ?_) (fun _ _ z => False.elim z)
    cases f with
    | ret u => obtain ⟨v, σ6, H6, S6, r, z⟩ := got; exact ⟨v, σ6, H6, S6.unsuite ok, r, z⟩
    | next => obtain ⟨σ6, H6, S6, z⟩ := got; exact ⟨σ6, H6, S6.unsuite ok, z⟩
    | brk => obtain ⟨σ6, H6, S6, z⟩ := got; exact ⟨σ6, H6, S6.unsuite ok, z⟩
    | cont => obtain ⟨σ6, H6, S6, z⟩ := got; exact ⟨σ6, H6, S6.unsuite ok, z⟩
end Ask

/-! o.f as a target among several -/
namespace Ask
open PySem PySem.Spec PyProof.Rows L2
def gFld (K : PySem.W.Frag) (to : TE) (f : Str) : TG := fun y σ H Q => to σ H fun x H2 => ∃ a C dx fs, x = .ref a ∧ H2 a = some (.ins C dx fs) ∧ Cls K C ∧ NoAttr K C f ∧ fs.length < 1000 ∧ Q σ (upd H2 a (.ins C dx (putF f y fs)))
theorem pg_fld {X : Cx} {o : Expr} {f : Str} {pos : Pos} {to : TE} (ho : PE X o to) : PG X (.Attribute o f pos) (gFld X.K to f) := by
  refine ⟨fun pins s σ H v u Q I r h => ?_⟩
  rw [assign_Attribute]
  refine wpAny_bind (wpAny_holding (thn (ho.run pins s σ H _ I h) fun ov s1 ⟨x, H1, I1, r1, a, C, dx, fs, ex, ea, c, n, l, q⟩ => ?_))
  subst ex
  obtain rfl : ov = Value.ref a := r1
  refine wpAny_bind (wpAny_standAt (wpAny_bind (wpAny_holding ?_)))
  exact setattr_ok I1 ea c n l r fun s3 I3 => wpAny_release ⟨σ, _, I3, q⟩
end Ask

namespace Ask
open PySem L2
theorem inW_any {H : Hp} {x : V} {ys : List Str} {b : Bool} (h : InW H x ys b) : Any1 H x := by
  rcases h with ⟨h, _⟩ | ⟨_, h⟩
  · exact .inl h
  · exact .inr h
theorem inW_ne {H : Hp} {x : V} {ys : List Str} {y : Str} (h : InW H x ys false) (hy : y ∈ ys) : V.str y ≠ x := by
  rcases h with ⟨_, h⟩ | ⟨_, d, rfl, _⟩
  · rintro rfl
    have e := in_mem hy
    rw [e] at h
    cases h
  · intro z
    cases z
section
variable {P : Program} {w : World} {K : PySem.W.Frag} {mg : Str → Option Value} {base : Heap}
abbrev s_BadLetter_init : Stmt := inClass (top 10) 0
theorem sc_BadLetter_init : FnScope ["self", "index"] ["self", "index"] (defScope s_BadLetter_init) := ⟨rfl, rfl, rfl, by decide +kernel, rfl, by decide +kernel, by decide +kernel⟩
theorem ok_initBadLetter {f fC C : Addr} {fd fdC : FuncData} (F : Fun K "__init__" "BadLetter.__init__" s_BadLetter_init f fd) (T : OexC K C) (h1 : PySem.W.findIn K (.ref C) "index" = some none)
    (GC : FnOk P w K mg base CX0 1 fC fdC ["value"] spCopy) (CP : At K mg "copied" fC fdC ["value"]) : FnOk P w K mg base CX0 2 f fd ["self", "index"] (spErr C okBad fsBad) := by
  refine F.ok sc_BadLetter_init (fun vs H Q E h => ?_) (fun cdv A outer s H vs Q E hr h => ?_)
  · obtain ⟨a, ws, rfl, ⟨i, rfl⟩, _⟩ := h
    rfl
  · obtain ⟨a, ws, rfl, ⟨i, rfl⟩, ha, k⟩ := h
    refine ⟨_, pss_one (ps_ost (pv 0) (pe_call GC hr (by rfl) CP.m CP.k CP.b .nil pass0 (pa_cons (pv 1) pa_nil))), ?_⟩
    refine ⟨_, rfl, _, rfl, .inl ⟨i, rfl⟩, _, rfl, a, C, rfl, T, h1, .inl ⟨ha, fun dx hdx hne => ?_⟩⟩
    refine k _ dx hdx hne upd_same (by rw [upd_ne hne]; exact upd_same) fun b o hb e => ?_
    rw [upd_ne hb, upd_ne (ne_of_none e hdx)]
    exact e
end
end Ask

namespace Ask
open PySem L2
open PySem.SeqAt (notIn_tupleAt EqAt)
section
variable {X : Cx}
theorem op_notInW (hu : X.A.units + 1 < cLine) : OpR X (compareOp .NotIn) (fun x y H Q => ∃ (p : Addr) (ys : List Str) (b : Bool), y = .ref p ∧ SqT X.K H p (ys.map V.str) ∧ InW H x ys b ∧ Q (.bl (!b)) H) := by
  intro pins s σ H x y v u Q I rx ry h
  obtain ⟨p, ys, b, rfl, hq, hw, q⟩ := h
  rcases hw with ⟨fx, rfl⟩ | ⟨rfl, d, rfl, hd⟩
  · refine op_notIn_seq pins s σ H x (.ref p) v u Q I rx ry ⟨p, _, rfl, .inr hq, fx, ?_, q⟩
    rw [List.all_eq_true]
    intro y hy
    obtain ⟨z, _, rfl⟩ := List.mem_map.mp hy
    rfl
  · cases rx
    cases ry
    obtain ⟨its, r, pl, hz⟩ := I.tuple hq
    have at_ : ∀ (y : Str) (t : Tok), EqAt X.A.in1 s (.str y t) (.ref d) false := fun y t => by
      rcases hd with ⟨kvs, hd⟩ | ⟨xs, hd⟩ | ⟨xs, hd⟩
      · obtain ⟨_, _, vs, _, o, es, ep, ho, hx, hdd, _⟩ := I.hok d _ hd
        exact eqAt_sd y t ho hx.1 hdd hu
      · obtain ⟨its2, r2, pl2, _⟩ := I.list (.inl (.inl hd))
        exact PySem.SeqAt.EqAt.str_list y t pl2.isList hu
      · obtain ⟨its2, r2, pl2, _⟩ := I.tuple (.inl (.inl hd))
        exact PySem.SeqAt.EqAt.str_tuple y t pl2 hu
    refine notIn_tupleAt (fun _ => false) pl (fun w hw => strs_eqAtR at_ ys _ r w (by simpa using hw)) ⟨.bl true, H, I, ?_, q⟩
    show Value.bool _ = Value.bool true
    simp
end
theorem inV_str (z : Str) (ys : List Str) : inV (.str z) (ys.map V.str) = decide (z ∈ ys) := by
  by_cases h : z ∈ ys
  · rw [in_mem h, decide_eq_true h]
  · rw [decide_eq_false h]
    unfold inV
    rw [List.any_eq_false]
    intro y hy
    obtain ⟨x, hx, rfl⟩ := List.mem_map.mp hy
    intro e
    have e : decide (x = z) = true := e
    exact h (of_decide_eq_true e ▸ hx)
theorem inV_other {x : V} (h : ∀ z, eqV (.str z) x = false) (ys : List Str) : inV x (ys.map V.str) = false := by
  unfold inV
  rw [List.any_eq_false]
  intro y hy
  obtain ⟨z, hz, rfl⟩ := List.mem_map.mp hy
  rw [h z]
  exact Bool.false_ne_true
/-- a value of the law's: flat, or a list, a tuple, a dict -/
def Val (p : Addr) (H : Hp) (v : V) : Prop := flatV v = true ∨ ∃ d, v = .ref d ∧ d ≠ p ∧ ((∃ kvs, H d = some (.dK kvs)) ∨ (∃ xs, H d = some (.lst xs)) ∨ (∃ xs, H d = some (.tup xs)))
def inB (ys : List Str) : V → Bool
  | .str z => decide (z ∈ ys)
  | _ => false
def isN : V → Bool
  | .non => true
  | _ => false
section
variable {p : Addr} {H H' : Hp} {v : V} {ys : List Str} {K : PySem.W.Frag}
theorem Val.kp (h : Val p H v) (k : Kp p H H') : Val p H' v := by
  rcases h with h | ⟨d, e, n, h⟩
  · exact .inl h
  · refine .inr ⟨d, e, n, ?_⟩
    rcases h with ⟨z, h⟩ | ⟨z, h⟩ | ⟨z, h⟩
    · exact .inl ⟨z, k _ _ n h⟩
    · exact .inr (.inl ⟨z, k _ _ n h⟩)
    · exact .inr (.inr ⟨z, k _ _ n h⟩)
theorem Val.same (h : Val p H v) (s : Same H H') : Val p H' v := h.kp (Kp.of s)
theorem Val.inw (h : Val p H v) (ys : List Str) : InW H v ys (inB ys v) := by
  rcases h with h | ⟨d, rfl, n, h⟩
  · cases v with
    | str z => exact .inl ⟨rfl, (inV_str z ys).symm⟩
    | non => exact .inl ⟨rfl, (inV_other (fun _ => rfl) ys).symm⟩
    | bl b => exact .inl ⟨rfl, (inV_other (fun _ => rfl) ys).symm⟩
    | int i => exact .inl ⟨rfl, (inV_other (fun _ => rfl) ys).symm⟩
    | _ => cases h
  · exact .inr ⟨rfl, d, rfl, h⟩
/-- what isinstance(v, str) tells -/
theorem Val.isi (h : Val p H v) : ∃ ty b, TyX K H v ty ∧ PySem.W.kitOne K ty (.type "str") = some b ∧ (b = true → ∃ z, v = .str z) ∧ (b = false → ∀ ys, inB ys v = false) := by
  rcases h with h | ⟨d, rfl, n, ⟨z, h⟩ | ⟨z, h⟩ | ⟨z, h⟩⟩
  · cases v with
    | str z => exact ⟨.type "str", true, .base (.str z), kit_ty (by decide +kernel), fun _ => ⟨z, rfl⟩, fun h => by cases h⟩
    | non => exact ⟨.type "NoneType", false, .base .non, kit_ty (by decide +kernel), fun h => (by cases h), fun _ _ => rfl⟩
    | bl b => exact ⟨.type "bool", false, .base (.bl b), kit_ty (by decide +kernel), fun h => (by cases h), fun _ _ => rfl⟩
    | int i => exact ⟨.type "int", false, .base (.int i), kit_ty (by decide +kernel), fun h => (by cases h), fun _ _ => rfl⟩
    | _ => cases h
  · exact ⟨.type "dict", false, .base (.dK h), kit_ty (by decide +kernel), fun h => (by cases h), fun _ _ => rfl⟩
  · exact ⟨.type "list", false, ty_list (SqL.of h), kit_ty (by decide +kernel), fun h => (by cases h), fun _ _ => rfl⟩
  · exact ⟨.type "tuple", false, ty_tup (SqT.of h), kit_ty (by decide +kernel), fun h => (by cases h), fun _ _ => rfl⟩
theorem inB_some (h : inB ys v = true) : ∃ z, v = .str z ∧ z ∈ ys := by
  cases v with
  | str z => exact ⟨z, rfl, of_decide_eq_true h⟩
  | _ => cases h
end
def LM : List Str := ["always", "fresh", "behind"]
section
variable {P : Program} {w : World} {K : PySem.W.Frag} {mg : Str → Option Value} {base : Heap}
/-! ### is_due -/
def spIsDue (CL : Addr) : Sp := fun vs H Q _ => ∃ (m t : Addr) (ys : List Str) (v : V) (h b : Bool), vs = [.ref m, v, .bl h] ∧ Mde CL H m t ys ∧ InW H v ys b ∧ Q (.bl (if h = true then b else decide (v = .non))) H
abbrev s_is_due : Stmt := top 24
theorem sc_is_due : FnScope ["letters", "value", "has_letter"] ["letters", "value", "has_letter"] (defScope s_is_due) := ⟨rfl, rfl, rfl, by decide +kernel, rfl, by decide +kernel, by decide +kernel⟩
theorem ok_isDue {f fH CL : Addr} {fd fdH : FuncData} (F : Fun K "is_due" "is_due" s_is_due f fd)
    (GH : FnOk P w K mg base CX0 1 fH fdH ["self", "x"] (spHas CL)) (bH : Binds K fdH ["self", "x"] []) (hH : PySem.W.findIn K (.ref CL) "__contains__" = some (some (.ref fH))) (iH : PySem.W.isFn K (.ref fH) = true) :
    FnOk P w K mg base CX0 2 f fd ["letters", "value", "has_letter"] (spIsDue CL) := by
  refine F.ok sc_is_due (fun vs H Q E h => ?_) (fun cdv A outer s H vs Q E hr h => ?_)
  · obtain ⟨m, t, ys, v, h, b, rfl, _⟩ := h
    rfl
  · obtain ⟨m, t, ys, v, h, b, rfl, hM, hw, k⟩ := h
    obtain ⟨dx, ob, m1, _⟩ := id hM
    refine ⟨_, (pss_one (ps_ret (pe_ifExp (pt_val (pv 2)) (pe_cmpR (op_inI (C := CL) (E := E0) GH hr bH pass0 hH iH) (pv 1) (pv 0) rfl) (pe_cmpR op_isN (pv 1) pe_non (nomark _))))), ?_⟩
    refine ⟨_, rfl, _, rfl, ?_⟩
    cases h with
    | true => exact iteT ⟨_, rfl, _, rfl, m, dx, _, rfl, m1, m, t, ys, v, b, rfl, hM, hw, b, rfl, k⟩
    | false => exact iteF ⟨_, rfl, rfl, k⟩
end
end Ask

namespace Ask
open PySem L2
/-- a text that may be an answer -/
def ansS (z : Str) : Bool := shortL z.cps.toList
def ansB : V → Bool
  | .str z => ansS z
  | _ => false
/-- a value that the law hands in: no text is long -/
def Vl (p : Addr) (H : Hp) (v : V) : Prop := Val p H v ∧ ∀ z, v = .str z → z.length ≤ 500 ∧ Asc z
theorem Vl.kp {p : Addr} {H H' : Hp} {v : V} (h : Vl p H v) (k : Kp p H H') : Vl p H' v := ⟨h.1.kp k, h.2⟩
theorem Vl.same {p : Addr} {H H' : Hp} {v : V} (h : Vl p H v) (k : Same H H') : Vl p H' v := ⟨h.1.same k, h.2⟩
section
variable {P : Program} {w : World} {K : PySem.W.Frag} {mg : Str → Option Value} {base : Heap}
def spShortV : Sp := fun vs H Q _ => ∃ (p : Addr) (v : V), vs = [v] ∧ Vl p H v ∧ ∀ H', Same H H' → Q (.bl (ansB v)) H'
theorem ok_shortV {f : Addr} {fd : FuncData} (F : Fun K "is_short_word" "is_short_word" s_is_short_word f fd) (T : Blt mg) (C : Gv K mg) : FnOk P w K mg base CX0 1 f fd ["value"] spShortV := by
  refine F.ok sc_is_short_word (fun vs H Q E h => ?_) (fun cdv A outer s H vs Q E hr h => ?_)
  · obtain ⟨p, v, rfl, _⟩ := h
    rfl
  · obtain ⟨p, v, rfl, ⟨hv, hz⟩, k⟩ := h
    refine ⟨_, (pss_cons (ps_if (PW.pt (pw_or (pt_not (pt_val (pe_callB call_isi (by rfl) T.n_isinstance (by decide +kernel) (pa_cons (pv 0) (pa_cons (pe_bltn (v := .ty "str") (u := .type "str") rfl T.n_str (by decide +kernel) rfl) pa_nil))))) (pw_or1 (pt_not (pt_chain op_le op_le pe_int (pe_callB call_len_str (by rfl) T.n_len (by decide +kernel) (pa_cons (pv 0) pa_nil)) (pe_gv rfl C.most)))))) (pss_one (ps_ret pe_bl)) pss_nil)
      (pss_one (ps_ret (pe_and (pe_cmpR op_in_sign (pe_ix ix_str (pv 0) pe_int (fun _ _ => rfl)) (pe_gv rfl C.small) rfl) (pe_one (pe_callB (cr_all rfl) (by rfl) T.n_all (by decide +kernel) (pa_cons (pe_lc (own := [("sign", 1)]) rfl sc_is_short_word.nd (pi_str (pv 0)) (blkOk_by (N := ["value", "sign"]) (sc := defScope s_is_short_word) (by decide +kernel)) (fun _ _ _ _ _ => (pg_name (i := 1) sc_is_short_word.nd rfl (Or.inl rfl))) (fun _ _ _ _ _ => pts_nil) (fun _ _ _ _ _ => (pe_cmpR op_in_sign (pv 1) (pe_gv rfl C.signs) rfl))) pa_nil))))))), ?_⟩
    obtain ⟨ty, b, hty, hk, b1, b2⟩ := hv.isi (K := K)
    cases b with
    | false =>
      refine ⟨_, rfl, _, _, _, _, false, rfl, .ty _, hty, hk, _, rfl, iteT ?_⟩
      have e : ansB v = false := by
        cases v with
        | str z => have := b2 rfl [z]; have q : decide (z ∈ [z]) = false := this; simp at q
        | _ => rfl
      have := k H (Same.refl H)
      rw [e] at this
      exact this
    | true =>
    obtain ⟨z, rfl⟩ := b1 rfl
    replace hz := (hz z rfl).1
    replace k : ∀ H', Same H H' → Q (.bl (shortL z.cps.toList)) H' := k
    have z1 : (1000 : Nat) ≤ sizeLine := by decide
    have hl := tl_len z
    refine ⟨_, rfl, _, _, _, _, true, rfl, .ty _, .base (.str _), kit_ty (by decide +kernel), _, rfl, ?_⟩
    refine iteF ⟨_, rfl, z, rfl, by omega, _, _, rfl, rfl, _, rfl, ite2 (fun h1 => ?_) (fun h1 => ?_)⟩
    · have h1 : (1 : Int) ≤ (z.length : Nat) := of_decide_eq_true h1
      refine ⟨_, _, rfl, rfl, _, rfl, ite2 (fun h2 => ?_) (fun h2 => ?_)⟩
      · have h2 : ¬ ((z.length : Nat) : Int) ≤ 12 := fun q => by
          rw [decide_eq_true q] at h2
          cases h2
        have e : shortL z.cps.toList = false := by
          unfold shortL
          rw [decide_eq_false (by omega)]
          rfl
        have := k H (Same.refl H)
        rw [e] at this
        exact this
      · have h2 : ((z.length : Nat) : Int) ≤ 12 := Decidable.byContradiction fun q => h2 (by rw [decide_eq_false q]; rfl)
        obtain ⟨c, r, ec⟩ : ∃ c r, z.cps.toList = c :: r := by
          cases e : z.cps.toList with
          | nil =>
            rw [e] at hl
            have : (0 : Nat) = z.length := hl
            omega
          | cons c r => exact ⟨c, r, rfl⟩
        refine ⟨_, rfl, z, 0, c, rfl, rfl, by omega, by rw [ec]; exact at_by (j := 0) rfl rfl, c, small, rfl, rfl, _, rfl, ite2 (fun h3 => ?_) (fun h3 => ?_)⟩
        · refine ⟨_, rfl, z, rfl, fun L hL => ?_⟩
          refine lc_it walk_str (fun i H' => Same H H' ∧ H' L = some (.lst (((z.cps.toList.take i).map fun c => decide (c ∈ signsL)).map V.bl))) ⟨Ask.Same.upd_new (Same.refl H) hL, upd_same⟩ (fun _ _ _ _ => trivial) (fun i x H1 H2 hi h1 y => ?_) (fun H1 h1 => ?_)
          · obtain ⟨rfl, c', hc', rfl⟩ := y
            obtain ⟨sm, hLL⟩ := h1
            refine ⟨rfl, _, rfl, c', signs, rfl, rfl, _, hLL, ?_, Ask.Same.upd_new sm hL, ?_⟩
            · rw [List.length_map, List.length_map, List.length_take]
              omega
            · rw [upd_same]
              have hc2 : z.cps.toList[i]? = some c' := by rw [Array.getElem?_toList]; exact hc'
              rw [List.take_add_one, hc2]
              simp only [Option.toList_some, List.map_append, List.map_cons, List.map_nil]
              rfl
          · obtain ⟨sm, hLL⟩ := h1
            refine ⟨L, _, rfl, SqL.of hLL, ?_⟩
            have e0 : z.cps.toList.take z.cps.size = z.cps.toList := List.take_of_length_le (by simp)
            rw [e0]
            have e : shortL z.cps.toList = (z.cps.toList.map fun c => decide (c ∈ signsL)).all id := by
              unfold shortL
              rw [decide_eq_true (by omega), ec]
              simp only [List.head?_cons, Bool.true_and]
              rw [show decide (c ∈ smallL) = true from h3, Bool.true_and, List.all_map]
              rfl
            have := k H1 sm
            rw [e] at this
            exact this
        · have e : shortL z.cps.toList = false := by
            unfold shortL
            rw [ec]
            simp only [List.head?_cons]
            rw [show decide (c ∈ smallL) = false from (Bool.not_eq_true _).mp h3, Bool.and_false, Bool.false_and]
          have := k H (Same.refl H)
          rw [e] at this
          exact this
    · have h1 : ¬ (1 : Int) ≤ (z.length : Nat) := fun q => h1 (decide_eq_true q)
      have e : shortL z.cps.toList = false := by
        unfold shortL
        rw [decide_eq_false (by omega)]
        rfl
      refine ⟨_, rfl, ite2 (fun _ => ?_) (fun q => absurd rfl q)⟩
      have := k H (Same.refl H)
      rw [e] at this
      exact this
/-! ### is_answer -/
abbrev s_is_answer : Stmt := top 22
theorem sc_is_answer : FnScope ["value"] ["value"] (defScope s_is_answer) := ⟨rfl, rfl, rfl, by decide +kernel, rfl, by decide +kernel, by decide +kernel⟩
theorem ok_isAns {f fS : Addr} {fd fdS : FuncData} (F : Fun K "is_answer" "is_answer" s_is_answer f fd) (GS : FnOk P w K mg base CX0 1 fS fdS ["value"] spShortV) (S : At K mg "is_short_word" fS fdS ["value"]) : FnOk P w K mg base CX0 2 f fd ["value"] spShortV := by
  refine F.ok sc_is_answer (fun vs H Q E h => ?_) (fun cdv A outer s H vs Q E hr h => ?_)
  · obtain ⟨p, v, rfl, _⟩ := h
    rfl
  · obtain ⟨p, v, rfl, hv, k⟩ := h
    refine ⟨_, (pss_one (ps_ret (pe_call GS (by exact hr) (by rfl) S.m S.k S.b .nil pass0 (pa_cons (pv 0) pa_nil)))), ?_⟩
    exact ⟨_, rfl, p, v, rfl, hv, k⟩
end
end Ask

/-! sets of texts: set(list of texts) and sorted of it -/
namespace Ask
open PySem L2 PySem.Froz
/-- at S stands a set of the texts zs, laid in a way that can be walked -/
def TxAt (P : Program) (w : World) (g : Heap) (S : Addr) (zs : List Str) : Prop := ∃ D : SD, g.get? S = some (sObj "set" D) ∧ TxOk P w D zs ∧ Ris D.2.2.place.toList ∧ (w.params.followText "set-order" = true ∨ D.2.2.led = true)
theorem tailTx_ris {m : Nat} {es : Array (Int × Value)} {t : SetTable} {b : Bool} (r : Ris t.place.toList) : Ris (tailTx m es t b).2.2.place.toList := by
  unfold tailTx
  by_cases c : (!b && t.tooFull) = true
  · rw [if_pos c]
    exact relayAll_ris _ _ _
  · rw [if_neg c]
    exact r
theorem tailTx_led {m : Nat} {es : Array (Int × Value)} {t : SetTable} {b : Bool} : (tailTx m es t b).2.2.led = t.led := by
  unfold tailTx
  by_cases c : (!b && t.tooFull) = true
  · rw [if_pos c]
    exact relayAll_led _ _ _
  · rw [if_neg c]
theorem addTx_ris {c : Int} {v : Value} {D : SD} (r : Ris D.2.2.place.toList) : Ris (addTx c v D).2.2.place.toList := by
  have one := layNew_ris D.2.2 D.1 c v r
  refine tailTx_ris ?_
  split
  · exact one
  · exact one
theorem addTx_led {c : Int} {v : Value} {D : SD} : (addTx c v D).2.2.led = D.2.2.led := by
  have one := layNew_led D.2.2 D.1 c v
  refine tailTx_led.trans ?_
  split
  · exact one
  · exact one
section
variable {P : Program} {w : World} {A : Around} {E : Value → Shared → Prop} {s : Shared}
theorem TxAt.kept {g g' : Heap} {S : Addr} {zs : List Str} (R : TxAt P w g S zs) (k : ∀ o, g.get? S = some o → g'.get? S = some o) : TxAt P w g' S zs := by
  obtain ⟨D, e, r⟩ := R
  exact ⟨D, k _ e, r⟩
theorem txAt_new {g : Heap} {S : Addr} (e : g.get? S = some { cls := .type "set", dict := none, data := .set #[] 0 (.fresh 0 0 (!w.params.followText "set-order")) }) : TxAt P w g S [] := by
  refine ⟨(#[], 0, .fresh 0 0 (!w.params.followText "set-order")), e, TxOk.nil (by rfl), List.Pairwise.nil, ?_⟩
  show _ ∨ (!w.params.followText "set-order") = true
  cases w.params.followText "set-order"
  · exact .inr rfl
  · exact .inl rfl
/-- a text that is there already -/
theorem again_x {S : Addr} {T : String} {D : SD} {zs : List Str} {z : Str} {u : Tok} {Q : Bool → Shared → Prop} (e : s.heap.get? S = some (sObj T D)) (F : TxOk P w D zs) (there : z ∈ zs) (few : zs.length < scanBound)
    (q : Q false s) : wpAny (model P w) A (setAddHashed S (.str z u) (hashStr w z)) Q E s := by
  obtain ⟨es, ep, t⟩ := D
  have data : (sObj T (es, ep, t)).data = .set es ep t := rfl
  have fit : t.fits es.size = true := F.fit
  have el : ElemsOf (strKind P w) es.toList := F.el
  have few : es.size < scanBound := by have z : es.size = zs.length := F.sz; omega
  have is : (strKind P w).is z (.str z u) = true := is_str z u
  unfold setAddHashed setAddHashedIn
  refine wpAny_holding (wpAny_bind (wpAny_setState_of e data fit ?_))
  dsimp only
  rw [byScan_of rfl few el]
  simp only [↓reduceIte]
  unfold setAddByScan
  refine wpAny_bind (wpAny_bind (wpAny_rule (wpAny_bind (wpAny_setScan_of is e data fit el ?_))))
  cases c : List.findIdx? (fun e => (strKind P w).is z e.2) es.toList with
  | some j => exact wpAny_pure (wpAny_pure q)
  | none =>
    obtain ⟨y, hy, iy⟩ := (F.mem z).mp there
    have := List.findIdx?_eq_none_iff.mp c y hy
    rw [iy] at this
    cases this
/-- a text goes into the set -/
theorem put_x {S : Addr} {zs : List Str} {z : Str} {u : Tok} {Q : Bool → Shared → Prop} (R : TxAt P w s.heap S zs) (few : zs.length + 1 < scanBound)
    (q : ∀ (g : Heap) (ys : List Str) (b : Bool), Heap.SameBut S s.heap g → TxAt P w g S ys → ((z ∈ zs ∧ ys = zs) ∨ (z ∉ zs ∧ ys = z :: zs)) → Q b { s with heap := g, toks := s.toks + 1 }) :
    wpAny (model P w) A (setAdd S (.str z u)) Q E s := by
  obtain ⟨D, e, F, r, l⟩ := id R
  unfold setAdd
  refine wpAny_holding (wpAny_bind ((strKind P w).pyHash (is_str z u) ?_))
  by_cases there : z ∈ zs
  · exact again_x (s := { s with toks := s.toks + 1 }) e F there (by omega) (q s.heap zs false (Heap.SameBut.refl S s.heap) R (.inl ⟨there, rfl⟩))
  · exact add_x (s := { s with toks := s.toks + 1 }) e F there few (q _ (z :: zs) true (Heap.SameBut.update s.heap S _) ⟨_, Heap.get?_update_self _ e rfl, add_ok u F, addTx_ris r, l.imp id fun z => addTx_led.trans z⟩ (.inr ⟨there, rfl⟩))
/-- what the first i of the texts ys put into the set -/
def Put (ys : List Str) (i : Nat) (zs : List Str) : Prop := zs.Nodup ∧ (∀ z, z ∈ zs ↔ z ∈ ys.take i) ∧ zs.length ≤ i
theorem Put.step {ys zs xs : List Str} {i : Nat} {z : Str} (h : Put ys i zs) (e : ys[i]? = some z) (c : (z ∈ zs ∧ xs = zs) ∨ (z ∉ zs ∧ xs = z :: zs)) : Put ys (i + 1) xs := by
  obtain ⟨nd, mem, len⟩ := h
  have cut : ys.take (i + 1) = ys.take i ++ [z] := by rw [List.take_add_one, e]; rfl
  rcases c with ⟨there, rfl⟩ | ⟨new, rfl⟩
  · refine ⟨nd, fun x => ?_, by omega⟩
    rw [cut, List.mem_append, List.mem_singleton, mem]
    exact ⟨.inl, fun q => q.elim id fun q => by rw [q]; exact (mem z).mp there⟩
  · refine ⟨List.nodup_cons.mpr ⟨new, nd⟩, fun x => ?_, by rw [List.length_cons]; omega⟩
    rw [cut, List.mem_append, List.mem_singleton, List.mem_cons, mem]
    exact Or.comm
end
end Ask

namespace Ask
open PySem L2 PySem.Froz PySem.Spec PyProof.Rows
section
variable {P : Program} {w : World} {A : Around} {E : Value → Shared → Prop} {s : Shared}
/-- the loop that puts one item behind the other into the set -/
theorem fill_x {it S : Addr} {own chg : List Addr} {G : Array GenState → Array GenState → Prop} {many : Nat} {Is : Nat → Value → Prop} {At : Nat → Shared → Prop} {R : Result → Shared → Prop}
    (W : WalksS P w A.in1 it own chg G many Is At) (apart : S ∉ own) (ys : List Str) (hm : many = ys.length) (few : ys.length < 1000) (txt : ∀ i v, Is i v → ∃ z u, ys[i]? = some z ∧ v = .str z u)
    (g0 : Heap) (noS : g0.get? S = none) (noC : ∀ b ∈ chg, g0.get? b = none) :
    ∀ (left i : Nat) (s : Shared), many - i = left → i ≤ many → At i s → (∀ b o, g0.get? b = some o → s.heap.get? b = some o) → (∃ zs, TxAt P w s.heap S zs ∧ Put ys i zs) →
      (∀ s' zs, Moved (S :: chg) G s s' → TxAt P w s'.heap S zs → Put ys many zs → (∀ b o, g0.get? b = some o → s'.heap.get? b = some o) → R (.ok (.ret .none)) s') →
      codeAny (model P w) A (.builtin "set.update.loop" ⟨[.ref S, .ref it], []⟩) R s := by
  have Sc : S ∉ chg := fun z => apart (W.sub _ z)
  have wide : ∀ b ∈ chg, b ∈ S :: chg := fun b z => List.mem_cons_of_mem _ z
  have on : ∀ {s s' : Shared}, Moved chg G s s' → (∀ b o, g0.get? b = some o → s.heap.get? b = some o) → ∀ b o, g0.get? b = some o → s'.heap.get? b = some o := fun mv k b o e =>
    mv.heap b o (fun z => by rw [noC b z] at e; cases e) (k b o e)
  intro left
  induction left with
  | zero =>
    intro i s hl hi at_ k ⟨zs, R1, p⟩ fin
    obtain rfl : i = many := by omega
    refine codeAny_builtin F.entry_set_update_loop ?_
    rw [Around.under_plainId F.plain_set_update_loop _]
    show wpAny _ A.in1 (pyNext (.ref it) >>= _) _ _ s
    refine wpAny_bind (W.done s _ _ at_ fun s1 mv => ?_)
    show wpAny _ A.in1 (ret Value.none) _ _ s1
    exact wpAny_pure (fin s1 zs (mv.mono wide) (R1.kept fun o e => mv.heap S o Sc e) p (on mv k))
  | succ left ih =>
    intro i s hl hi at_ k ⟨zs, R1, p⟩ fin
    have lt : i < many := by omega
    refine codeAny_builtin F.entry_set_update_loop ?_
    rw [Around.under_plainId F.plain_set_update_loop _]
    show wpAny _ A.in1 (pyNext (.ref it) >>= _) _ _ s
    refine wpAny_bind (W.item i s _ _ lt at_ fun v s1 is at1 mv => ?_)
    obtain ⟨z, u, ez, rfl⟩ := txt i v is
    have k1 := on mv k
    show wpAny _ A.in1 (holding [Value.str z u] (setAdd S (.str z u)) >>= _) _ _ s1
    refine wpAny_bind (wpAny_holding (put_x (R1.kept fun o e => mv.heap S o Sc e) (by have := p.2.2; have q : (1000 : Nat) < scanBound := by decide +kernel
                                                                                      omega) fun g xs b same R2 c => ?_))
    have k2 : ∀ b o, g0.get? b = some o → g.get? b = some o := fun b o e => (same.2 b (fun q => by rw [q, noS] at e; cases e)).trans (k1 b o e)
    refine wpAny_pure ⟨plainId_quiet F.plain_set_update_loop _, ih (i + 1) _ (by omega) lt (W.frame _ s1 _ _ at1 (Nat.le_add_right _ _) fun b hb o e => ?_) k2 ⟨xs, R2, p.step ez c⟩ fun s2 xs2 mv2 R3 p2 k3 => ?_⟩
    · exact (same.2 b (fun q => apart (q ▸ hb))).trans e
    · refine fin s2 xs2 (Moved.trans W.gtrans ((mv.mono wide).then_heap (Nat.le_add_right _ _) fun b o hb e => ?_) mv2) R3 p2 k3
      exact (same.2 b (fun q => hb (by rw [q]; exact List.mem_cons_self))).trans e
end
end Ask

namespace Ask
open PySem L2 PySem.Froz PySem.Spec PyProof.Rows
/-- the set before anything is in it -/
abbrev emptyO (w : World) : Obj := { cls := .type "set", dict := none, data := .set #[] 0 (.fresh 0 0 (!w.params.followText "set-order")) }
section
variable {P : Program} {w : World} {A : Around} {E : Value → Shared → Prop} {s : Shared}
/-- what set(ys) leaves: a new set of the texts ys at the first free place -/
def Filled (P : Program) (w : World) (g g' : Heap) (ys : List Str) : Prop := ∃ zs, TxAt P w g' g.objs.size zs ∧ Put ys ys.length zs ∧ ∀ b o, g.get? b = some o → g'.get? b = some o
theorem free_at {g : Heap} {b : Addr} (h : g.objs.size ≤ b) : g.get? b = none := by
  cases q : g.get? b with
  | none => rfl
  | some o => exact absurd (Nat.lt_of_lt_of_le (Heap.lt_size q) h) (Nat.lt_irrefl _)
theorem txt_at {its : Array Value} {ys : List Str} (h : StrsAre its.toList ys) {i : Nat} {v : Value} (e : its[i]? = some v) : ∃ z u, ys[i]? = some z ∧ v = .str z u := by
  have q : its.toList[i]? = some v := by rw [Array.getElem?_toList]; exact e
  generalize its.toList = l at h q
  clear e
  induction h generalizing i with
  | nil => cases q
  | cons z u _ ih =>
    cases i with
    | zero => cases q; exact ⟨_, _, rfl, rfl⟩
    | succ i => exact ih q
/-- set.__init__ with a list of texts -/
theorem init_x {l : Addr} {its : Array Value} {ys : List Str} (free : A.handled = none) (hl : s.heap.IsList l its) (txt : StrsAre its.toList ys) (few : ys.length < 1000) :
    codeAny (model P w) A (.call (.builtin "set.__init__") ⟨[.ref s.heap.objs.size, .ref l], []⟩) (wants (fun r s2 => r = .none ∧ ∃ g tk, s2 = { s with heap := g, toks := tk } ∧ Filled P w s.heap g ys) E) { s with heap := s.heap.push (emptyO w) } := by
  obtain ⟨o, eo, co, ne, dt⟩ := hl
  obtain ⟨cl, di, da, so⟩ := o
  dsimp only at co dt
  subst co dt
  have here : (s.heap.push (emptyO w)).get? l = some { cls := .type "list", dict := di, data := .seq its ne, slots := so } := Heap.get?_push_of_some _ eo
  have many : its.size = ys.length := by rw [← Array.length_toList]; exact txt.length
  have isL : (s.heap.push (emptyO w)).IsList l its := ⟨_, here, rfl, ne, rfl⟩
  have isS : (s.heap.push (emptyO w)).get? s.heap.objs.size = some (emptyO w) := Heap.get?_push_size _ rfl
  have before : l < s.heap.objs.size := Heap.lt_size eo
  have size1 : (s.heap.push (emptyO w)).objs.size = s.heap.objs.size + 1 := Heap.size_push ..
  refine codeAny_call_builtin F.called_set.init.plain F.entry_set_init (check_set_init_1 ⟨_, isS, rfl⟩ ?_)
  have n1 := F.sub_list_set
  have n2 := F.sub_list_frozenset
  have n3 : (Value.type "list" == Value.type "dict") = false := by decide
  unfold Builtin.«set.__init__» noKeywords Builtin.Frozenset.updateFrom
  generalize gi : pyIter = PI
  wp_walk
  subst gi
  refine wpAny_pyIter_list isL (wpAny_bind (wpAny_runValue ?_))
  have free3 : A.in1.in1.handled = none := by simp [free]
  have ne1 : l ≠ (s.heap.push (emptyO w)).objs.size := by rw [size1]; exact Nat.ne_of_lt (Nat.lt_succ_of_lt before)
  refine fill_x (S := s.heap.objs.size) ((Walks.list free3 _ l ne1 its).toS) (fun z => ?_) ys ?_ few (fun i v e => txt_at txt e) s.heap (free_at (Nat.le_refl _)) (fun b z => ?_) (its.size - 0) 0 _ rfl (Nat.zero_le _)
    ⟨⟨_, Heap.get?_push_size _ rfl, rfl, rfl⟩, isL.push _⟩ (fun b o e => Heap.get?_push_of_some _ (Heap.get?_push_of_some _ e)) ⟨[], txAt_new (Heap.get?_push_of_some _ isS), List.nodup_nil, fun z => by rw [List.take_zero], Nat.le_refl _⟩ ?_
  · rw [size1] at z
    rcases List.mem_cons.mp z with z | z
    · exact absurd z (Nat.ne_of_lt (Nat.lt_succ_self _))
    · exact absurd (List.mem_singleton.mp z) (Nat.ne_of_gt before)
  · exact many
  · rw [List.mem_singleton.mp z]
    exact free_at (by rw [size1]; exact Nat.le_succ _)
  · rintro ⟨g, gs, d, tk, os⟩ zs mv R1 p k
    have e1 : gs = s.gens := mv.gens
    have e2 : d = s.drawn := mv.drawn
    have e3 : os = s.os := mv.os
    subst e1 e2 e3
    rw [many] at p
    show wpAny _ _ _ _ _ _
    refine wpAny_pure ?_
    show wpAny _ _ (ret Value.none) _ _ _
    exact wpAny_pure ⟨rfl, g, tk, rfl, zs, R1, p, k⟩
/-- set(ys), ys a list of texts -/
theorem set_x {l : Addr} {its : Array Value} {ys : List Str} {Q : Value → Shared → Prop} (free : A.handled = none) (hl : s.heap.IsList l its) (txt : StrsAre its.toList ys) (few : ys.length < 1000)
    (q : ∀ g tk, Filled P w s.heap g ys → Q (.ref s.heap.objs.size) { s with heap := g, toks := tk }) : wpAny (model P w) A (call (.type "set") [.ref l]) Q E s := by
  obtain ⟨_, _, mro⟩ := F.called_set.mro
  have m1 := F.called_set.made
  have m2 := F.called_set.sub
  refine wpAny_call (codeAny_of_tree ?_)
  show wpAny _ _ (callAny (.type "set") _) _ _ _
  refine wpAny_pure ⟨Code.quiet_builtin _ (by decide +kernel), codeAny_builtin F.entry_type_call ?_⟩
  rw [Around.under_plain (weight_type_call_type "set" [.ref l] []) rfl]
  have m3 := F.called_set.notType
  have m4 := F.called_set.canCreate
  have m5 := F.typeCall_set_1 (.ref l)
  repeat (any_goals (first | assumption | wp_step))
  refine codeAny_mono (code_set_led1 (.ref l) (E := E) (Q₁ := fun v z => v = .ref s.heap.objs.size ∧ z = { s with heap := s.heap.push (emptyO w) }) ⟨rfl, rfl⟩) fun r z hr => ?_
  cases r with
  | error e => exact hr
  | ok c =>
    cases c with
    | ret v =>
      obtain ⟨rfl, rfl⟩ := hr
      have isT : Shared.TypeIs { s with heap := s.heap.push (emptyO w) } (.ref s.heap.objs.size) "set" := ⟨_, Heap.get?_push_size _ rfl, rfl⟩
      have i1 := F.called_set.init.lookup
      have i2 := F.called_set.init.bind (.ref s.heap.objs.size)
      repeat (any_goals (first | assumption | wp_step))
      refine codeAny_mono (init_x (P := P) (E := E) (ys := ys) (by simp [free]) hl txt few) fun r2 z2 hr2 => ?_
      cases r2 with
      | error e => exact hr2
      | ok c2 =>
        cases c2 with
        | ret v2 =>
          obtain ⟨rfl, g, tk, rfl, fl⟩ := hr2
          repeat (any_goals (first | assumption | wp_step))
          exact q g tk fl
        | _ => exact hr2.elim
    | _ => exact hr.elim
end
end Ask

namespace Ask
open PySem L2 PySem.Froz PySem.Spec PyProof.Rows
/-- all of zs, once each, are in ks, which is no longer: the same in another order -/
theorem perm_of_all {α : Type} [DecidableEq α] : ∀ {zs ks : List α}, zs.Nodup → (∀ z ∈ zs, z ∈ ks) → ks.length = zs.length → ks.Perm zs
  | [], ks, _, _, h => by rw [List.length_eq_zero_iff.mp h]
  | z :: zs, ks, nd, sub, h => by
    obtain ⟨new, nd⟩ := List.nodup_cons.mp nd
    have there := sub z List.mem_cons_self
    have p := List.perm_cons_erase there
    refine p.trans (List.Perm.cons z (perm_of_all nd (fun x hx => ?_) ?_))
    · exact (List.mem_erase_of_ne (fun e : x = z => new (by rw [← e]; exact hx))).mpr (sub x (List.mem_cons_of_mem _ hx))
    · have := p.length_eq
      rw [List.length_cons, h, List.length_cons] at this
      omega
def textOf : Value → Str
  | .str z _ => z
  | _ => Str.empty
theorem strs_of : ∀ l : List Value, (∀ v ∈ l, ∃ z u, v = .str z u) → StrsAre l (l.map textOf)
  | [], _ => .nil
  | v :: l, h => by
    obtain ⟨z, u, rfl⟩ := h v List.mem_cons_self
    exact .cons z u (strs_of l fun x hx => h x (List.mem_cons_of_mem _ hx))
theorem is_text {P : Program} {w : World} {z : Str} {v : Value} (h : (PySem.strKind P w).is z v = true) : ∃ u, v = .str z u := by
  have h : Value.isStrOf z v = true := h
  cases v <;> simp [Value.isStrOf] at h
  exact ⟨_, by rw [h]⟩
theorem TxOk.texts {P : Program} {w : World} {D : SD} {zs : List Str} (F : TxOk P w D zs) (nd : zs.Nodup) : (∀ v ∈ D.1.toList.map (·.2), ∃ z u, v = Value.str z u) ∧ ((D.1.toList.map (·.2)).map textOf).Perm zs := by
  have one : ∀ e ∈ D.1.toList, ∃ z u, e.2 = Value.str z u := fun e he => by
    obtain ⟨⟨z, iz, _⟩, _⟩ := F.el e he
    obtain ⟨u, q⟩ := is_text iz
    exact ⟨z, u, q⟩
  refine ⟨fun v hv => ?_, perm_of_all nd (fun z hz => ?_) ?_⟩
  · obtain ⟨e, he, rfl⟩ := List.mem_map.mp hv
    exact one e he
  · obtain ⟨e, he, iz⟩ := (F.mem z).mp hz
    obtain ⟨u, q⟩ := is_text iz
    exact List.mem_map.mpr ⟨e.2, List.mem_map.mpr ⟨e, he, rfl⟩, by rw [q]; rfl⟩
  · rw [List.length_map, List.length_map, Array.length_toList, F.sz]
section
variable {P : Program} {w : World} {A : Around} {E : Value → Shared → Prop} {s : Shared}
/-- sorted(S), S a set of texts -/
theorem sorted_x {S : Addr} {zs : List Str} {Q : Value → Shared → Prop} (R : TxAt P w s.heap S zs) (nd : zs.Nodup) (few : zs.length < 64) (free : A.handled = none)
    (q : ∀ (s2 : Shared) (p : Addr) (out : Array Value) (c : Nat) (ks : List Str), (∀ b o, s.heap.get? b = some o → s2.heap.get? b = some o) → s2.gens = s.gens → s2.os = s.os → s.heap.objs.size ≤ p → s2.heap.get? p = some (seqObj "list" out c) →
      StrsAre out.toList ks → ks.Perm zs → sortedS ks = true → Q (.ref p) s2) : wpAny (model P w) A (call (.builtin "sorted") [.ref S]) Q E s := by
  obtain ⟨⟨es, ep, t⟩, eo, F, ris, led⟩ := R
  obtain ⟨tx, pm⟩ := TxOk.texts F nd
  have fit : t.fits es.size = true := F.fit
  have size : es.size = zs.length := F.sz
  have wide : (64 : Nat) < scanBound := by decide +kernel
  refine Calls.call_function_entry kind_sorted plain_sorted entry_sorted (args_sorted1 _) ?_
  unfold Builtin.«sorted»
  refine wpAny_bind (m := checkCount "sorted" 1 1 _) (wpAny_pure ?_)
  refine wpAny_bind (collect_set (A := A.in1) (es := es) (ep := ep) (t := t) free ⟨_, eo, rfl, rfl⟩ fit (by omega) ris led fun s1 vs k1 g1 g2 g3 po => ?_)
  have are : StrsAre vs (vs.map textOf) := strs_of vs fun v hv => tx v (po.mem_iff.mp hv)
  have pv : (vs.map textOf).Perm zs := (po.map textOf).trans pm
  have lv : vs.length < 64 := by
    have := pv.length_eq
    rw [List.length_map] at this
    omega
  refine wpAny_bind (wpAny_newList ?_ (by rw [sizeLine_eq]; omega))
  have at1 : (s1.heap.push (seqObj "list" vs.toArray 0)).get? s1.heap.objs.size = some (seqObj "list" vs.toArray 0) := Heap.get?_push_size _ rfl
  refine wpAny_bind (wpAny_holding (wpAny_call_entry slot_list_sort ⟨_, at1, rfl⟩ entry_list_sort (list_sort_treeK strKind_oneLt at1 are.keysOf (fun v1 v2 r e => keyKind_strs (by rw [← e]; exact are)) lv fun st hp hs => ⟨_, rfl, ?_⟩) (args_list_sort _)))
  obtain ⟨ks, ar, pk, so⟩ := sorted_out_str are hp hs
  obtain ⟨c, ec⟩ := sortedHeap_at (vs := vs) (out := (arrOf st).map (·.2)) at1
  refine wpAny_pure ⟨_, rfl, q _ s1.heap.objs.size _ c ks (fun b o e => ?_) g2 g3 g1 ec ar (pk.trans pv) so⟩
  have e1 := k1 b o e
  have lt := Heap.lt_size e1
  show (sortedHeap (s1.heap.push (seqObj "list" vs.toArray 0)) s1.heap.objs.size vs ((arrOf st).map (·.2))).get? b = some o
  rw [sortedHeap_old (Nat.ne_of_lt lt) (by rw [size_push']; exact Nat.lt_succ_of_lt lt)]
  exact Heap.get?_push_of_some _ e1
end
end Ask

namespace Ask
open PySem L2 PySem.Froz PySem.Spec PyProof.Rows
/-- a set of the texts zs as a thing of the heap -/
def TxO (P : Program) (w : World) (S : Addr) (zs : List Str) : HO := .ext fun g => TxAt P w g S zs
theorem txO_ok {P : Program} {w : World} {H : Hp} {g : Heap} {S : Addr} {zs : List Str} (R : TxAt P w g S zs) : ObjOk P w H g S (TxO P w S zs) := by
  have ⟨D, e, _⟩ := R
  exact ⟨R, ⟨_, e⟩, fun g1 g2 p k => TxAt.kept p k⟩
section
variable {X : Cx}
/-- set(ys) of a list of texts -/
def rSetTx (K : PySem.W.Frag) (P : Program) (w : World) : List V → Hp → VK → Prop := fun xs H Q => ∃ (l : Addr) (ys : List Str), xs = [.ref l] ∧ SqL K H l (ys.map V.str) ∧ ys.length < 1000 ∧
  ∀ (S : Addr) (zs : List Str), H S = none → zs.Nodup → (∀ z, z ∈ zs ↔ z ∈ ys) → zs.length ≤ ys.length → Q (.ref S) (upd H S (TxO P w S zs))
theorem cr_setTx (hc : X.calm = true) : CallR X (.type "set") (rSetTx X.K X.prog X.w) := by
  intro pins s σ H xs us Q I r h
  obtain ⟨l, ys, rfl, hl, few, q⟩ := h
  rw [Vals.ref1 r]
  obtain ⟨its, rv, pl, _⟩ := I.list hl
  refine set_x (P := X.prog) (w := X.w) (ys := ys) (I.ok.hd hc) pl.isList (by simpa using rv.strs) few fun g tk ⟨zs, R, p, k⟩ => ?_
  refine ⟨.ref s.heap.objs.size, upd H s.heap.objs.size (TxO X.prog X.w s.heap.objs.size zs), I.laid (t' := tk) k (Nat.le_refl _) (txO_ok R), rfl, q _ zs (I.hok.fresh (Nat.le_refl _)) p.1 (fun z => ?_) p.2.2⟩
  have m := p.2.1 z
  rw [List.take_length] at m
  exact m
/-- sorted(S) of a set of texts -/
def rSortedTx (P : Program) (w : World) : List V → Hp → VK → Prop := fun xs H Q => ∃ (S : Addr) (zs : List Str), xs = [.ref S] ∧ H S = some (TxO P w S zs) ∧ zs.Nodup ∧ zs.length < 64 ∧
  ∀ (ks : List Str) (p : Addr), ks.Perm zs → sortedS ks = true → H p = none → Q (.ref p) (upd H p (.lst (ks.map V.str)))
theorem cr_sortedTx (hc : X.calm = true) : CallR X (.builtin "sorted") (rSortedTx X.prog X.w) := by
  intro pins s σ H xs us Q I r h
  obtain ⟨S, zs, rfl, hS, nd, few, q⟩ := h
  have R : TxAt X.prog X.w s.heap S zs := (I.hok S _ hS).1
  rw [Vals.ref1 r]
  refine sorted_x R nd few (I.ok.hd hc) fun s2 p out c ks k g o le e are pm so => ?_
  have new : H p = none := I.hok.fresh le
  have lk : (ks.map V.str).length ≤ sizeLine := by
    rw [List.length_map, pm.length_eq, sizeLine_eq]
    omega
  have ob : ObjOk X.prog X.w H s2.heap p (.lst (ks.map V.str)) := ⟨lk, out.toList, c, vals_of_strs are, e⟩
  have J : Inv X pins σ (upd H p (.lst (ks.map V.str))) { s with heap := s2.heap, gens := s2.gens, drawn := s2.drawn, toks := s2.toks } :=
    I.call (ch := []) (Un.laid k le new) (I.hok.laid k le ob) (by rw [g]; exact I.bare) (fun _ z => nomatch z)
  have same : s2 = { s with heap := s2.heap, gens := s2.gens, drawn := s2.drawn, toks := s2.toks } := by
    obtain ⟨_, _, _, _, _⟩ := s2
    obtain ⟨_, _, _, _, _⟩ := s
    cases o
    rfl
  rw [same]
  exact ⟨.ref p, _, J, rfl, q ks p pm so new⟩
end
end Ask

namespace Ask
open PySem L2
open PyProof.Rows (sortedS)
section
variable {P : Program} {w : World} {K : PySem.W.Frag} {mg : Str → Option Value} {base : Heap}
abbrev s_BadAnswers_init : Stmt := inClass (top 12) 0
theorem sc_BadAnswers_init : FnScope ["self", "index"] ["self", "index"] (defScope s_BadAnswers_init) := ⟨rfl, rfl, rfl, by decide +kernel, rfl, by decide +kernel, by decide +kernel⟩
theorem ok_initBadAnswers {f fC C : Addr} {fd fdC : FuncData} (F : Fun K "__init__" "BadAnswers.__init__" s_BadAnswers_init f fd) (T : OexC K C) (h1 : PySem.W.findIn K (.ref C) "index" = some none)
    (GC : FnOk P w K mg base CX0 1 fC fdC ["value"] spCopy) (CP : At K mg "copied" fC fdC ["value"]) : FnOk P w K mg base CX0 2 f fd ["self", "index"] (spErr C okBad fsBad) := by
  refine F.ok sc_BadAnswers_init (fun vs H Q E h => ?_) (fun cdv A outer s H vs Q E hr h => ?_)
  · obtain ⟨a, ws, rfl, ⟨i, rfl⟩, _⟩ := h
    rfl
  · obtain ⟨a, ws, rfl, ⟨i, rfl⟩, ha, k⟩ := h
    refine ⟨_, pss_one (ps_ost (pv 0) (pe_call GC hr (by rfl) CP.m CP.k CP.b .nil pass0 (pa_cons (pv 1) pa_nil))), ?_⟩
    refine ⟨_, rfl, _, rfl, .inl ⟨i, rfl⟩, _, rfl, a, C, rfl, T, h1, .inl ⟨ha, fun dx hdx hne => ?_⟩⟩
    refine k _ dx hdx hne upd_same (by rw [upd_ne hne]; exact upd_same) fun b o hb e => ?_
    rw [upd_ne hb, upd_ne (ne_of_none e hdx)]
    exact e
/-- the first answer that is none stands at i; no answers at all count as the one at 0 -/
def wrongAt (xs : List V) (i : Int) : Prop := (xs = [] ∧ i = 0) ∨ ∃ (j : Nat) (v : V), i = (j : Nat) ∧ xs[j]? = some v ∧ ansB v = false ∧ ∀ k < j, ∀ u, xs[k]? = some u → ansB u = true
/-- ks: the texts ys, once each, ascending -/
def SetOfS (ys ks : List Str) : Prop := ks.Nodup ∧ sortedS ks = true ∧ ∀ z, z ∈ ks ↔ z ∈ ys
def spAns (K : PySem.W.Frag) (CA CM : Addr) : Sp := fun vs H Q E => ∃ (p a : Addr) (xs : List V), vs = [.ref a] ∧ SqL K H a xs ∧ xs.length ≤ 60 ∧ (∀ v ∈ xs, Vl p H v) ∧
  (∀ (H' : Hp) (d : Addr) (i : Int), wrongAt xs i → Same H H' → H' d = some (.xd (fsBad [.int i])) → E (.ref CA) (some d) H') ∧
  (∀ (ys ks : List Str), xs = ys.map V.str → ys ≠ [] → (∀ y ∈ ys, ansS y = true) → SetOfS ys ks →
    (∀ (H' : Hp) (d : Addr), 6 < ks.length → Same H H' → H' d = some (.xd (fsMany [.str "answers", .int (ks.length : Nat), .int 6])) → E (.ref CM) (some d) H') ∧
    (∀ (H' : Hp) (t : Addr), ks.length ≤ 6 → Same H H' → H' t = some (.tup (ks.map V.str)) → Q (.ref t) H'))
abbrev s_answer_set : Stmt := top 23
theorem sc_answer_set : FnScope ["answers", "index", "answer", "kept"] ["answers"] (defScope s_answer_set) := ⟨rfl, rfl, rfl, by decide +kernel, rfl, by decide +kernel, by decide +kernel⟩
theorem all_strs : ∀ {xs : List V}, (∀ v ∈ xs, ansB v = true) → ∃ ys : List Str, xs = ys.map V.str ∧ ∀ y ∈ ys, ansS y = true
  | [], _ => ⟨[], rfl, fun y h => by cases h⟩
  | v :: xs, h => by
    obtain ⟨ys, rfl, hy⟩ := all_strs fun u hu => h u (List.mem_cons_of_mem _ hu)
    have hv := h v List.mem_cons_self
    cases v with
    | str z => exact ⟨z :: ys, rfl, fun y q => (List.mem_cons.mp q).elim (fun e => by rw [e]; exact hv) (hy y)⟩
    | _ => cases hv
theorem ok_ans {f fI fB fM CA CM : Addr} {fd fdI fdB fdM : FuncData} (F : Fun K "answer_set" "answer_set" s_answer_set f fd) (T : Blt mg) (nSo : mg "sorted" = none) (nSe : mg "set" = none) (mA : ∃ u, mg "MOST_ANSWERS" = some u ∧ RelV (.int 6) u)
    (GI : FnOk P w K mg base CX0 2 fI fdI ["value"] spShortV) (I : At K mg "is_answer" fI fdI ["value"])
    (FB : FnOk P w K mg base CX0 2 fB fdB ["self", "index"] (spErr CA okBad fsBad)) (EB : ErrAt K mg "BadAnswers" CA fB fdB ["self", "index"])
    (FM : FnOk P w K mg base CX0 2 fM fdM ["self", "what", "many", "most"] (spErr CM okMany fsMany)) (EM : ErrAt K mg "TooMany" CM fM fdM ["self", "what", "many", "most"]) :
    FnOk P w K mg base (L2.CX P w) 4 f fd ["answers"] (spAns K CA CM) := by
  refine F.okX sc_answer_set (fun vs H Q E h => ?_) (fun cdv A outer s H vs Q E hr h => ?_)
  · obtain ⟨p, a, xs, rfl, _⟩ := h
    rfl
  · obtain ⟨p, a, xs, rfl, hS, hn, hv, kB, kQ⟩ := h
    have hr2 := hr.mono (j := 2) (by decide)
    refine ⟨_, (pss_cons (ps_if (pt_cmpR op_eq (pe_callB call_len_seq (by rfl) T.n_len (by decide +kernel) (pa_cons (pv 0) pa_nil)) pe_int (nomark _)) (pss_one (ps_raise rfl (takes_of rfl rfl rfl rfl) (pmk_oex EB.o EB.i EB.t FB hr EB.b .nil pass0 (by rfl) EB.m (pa_cons pe_int pa_nil)))) pss_nil)
      (pss_cons (ps_for (passes_of rfl) rfl (pi_enumA (by rfl) T.n_enumerate (pa_cons (pv 0) pa_nil)) (pg_tup rfl (pgs_cons (pg_name (i := 1) sc_answer_set.nd rfl (Or.inl rfl)) (pgs_cons (pg_name (i := 2) sc_answer_set.nd rfl (Or.inl rfl)) pgs_nil))) (pss_one (ps_if (pt_not (pt_val (pe_call GI hr2 (by rfl) I.m I.k I.b .nil pass0 (pa_cons (pv 2) pa_nil)))) (pss_one (ps_raise rfl (takes_of rfl rfl rfl rfl) (pmk_oex EB.o EB.i EB.t FB hr EB.b .nil pass0 (by rfl) EB.m (pa_cons (pv 1) pa_nil)))) pss_nil)))
      (pss_cons (ps_set (i := 3) sc_answer_set.nd rfl (Or.inl rfl) (pe_callTy call_tuple_of (by rfl) T.n_tuple (by decide +kernel) (pa_cons (pe_callB (cr_sortedTx rfl) (by rfl) nSo (by decide +kernel) (pa_cons (pe_callTy (cr_setTx rfl) (by rfl) nSe (by decide +kernel) (pa_cons (pv 0) pa_nil)) pa_nil)) pa_nil)))
      (pss_cons (ps_if (pt_cmpR op_gt (pe_callB call_len_seq (by rfl) T.n_len (by decide +kernel) (pa_cons (pv 3) pa_nil)) (pe_gv rfl mA) (nomark _)) (pss_one (ps_raise rfl (takes_of rfl rfl rfl rfl) (pmk_oex EM.o EM.i EM.t FM hr EM.b .nil pass0 (by rfl) EM.m (pa_cons pe_str (pa_cons (pe_callB call_len_seq (by rfl) T.n_len (by decide +kernel) (pa_cons (pv 3) pa_nil)) (pa_cons (pe_gv rfl mA) pa_nil)))))) pss_nil)
      (pss_one (ps_ret (pv 3))))))), ?_⟩
    have z1 : (1000 : Nat) ≤ sizeLine := by decide
    refine ⟨_, rfl, a, xs, rfl, .inl hS, rfl, _, rfl, ite2 (fun h1 => ?_) (fun h1 => ?_)⟩
    · have h1 : V.int ((xs.length : Nat) : Int) = V.int 0 := of_decide_eq_true h1
      injection h1 with h1
      exact err_made (Same.refl H) ⟨_, rfl⟩ (by show 1 ≤ 1000; decide) (fun H' d s' e => kB H' d 0 (.inl ⟨List.length_eq_zero_iff.mp (by omega), rfl⟩) s' e)
    have h1 : xs ≠ [] := fun q => h1 (by rw [q]; exact decide_eq_true rfl)
    have fits : ∀ (R : It → Hp → Prop), R (Ite K a) H → iEnumA K (tCons (tVar 0) tNil) [some (.ref a), none, none, none] H R := fun R r => ⟨_, rfl, a, xs, rfl, .inl ⟨hS, r⟩⟩
    refine for_enum fits walk_enum (fun i σ' H' => ∃ o1 o2 : Option V, σ' = [some (.ref a), o1, o2, none] ∧ Same H H' ∧ ∀ k < i, ∀ u, xs[k]? = some u → ansB u = true)
      ⟨none, none, rfl, Same.refl _, fun j hj => absurd hj (Nat.not_lt_zero _)⟩ (fun i σ' H' _ ⟨_, _, _, s', _⟩ => s'.seq hS) ?_ ?_
    · rintro i x σ' H2 H3 hi ⟨o1, o2, rfl, s2, hno⟩ ⟨t, x0, v, rfl, ht, rfl, ex, ey⟩
      cases ex
      replace ey : xs[i]? = some v := ey
      have s3 := Ask.Same.made1 (o := .tup [.int (i : Nat), v]) s2 ht
      have ht3 : upd H2 t (.tup [.int (i : Nat), v]) t = some (.tup [.int (i : Nat), v]) := upd_same
      generalize upd H2 t (.tup [.int (i : Nat), v]) = H4 at s3 ht3 ⊢
      refine ⟨t, _, rfl, SqT.of ht3, rfl, _, _, rfl, _, _, rfl, rfl, ?_⟩
      refine ⟨_, rfl, p, v, rfl, (hv v (List.mem_of_getElem? ey)).same s3, fun H5 s5 => ⟨_, rfl, ?_⟩⟩
      have s35 := s3.trans s5
      refine ite2 (fun q => ?_) (fun q => ?_)
      · have q : ansB v = false := by
          cases e : ansB v with
          | false => rfl
          | true => rw [e] at q; cases q
        exact ⟨_, rfl, err_made s35 ⟨_, rfl⟩ (by show 1 ≤ 1000; decide) (fun H' d s' e => kB H' d i (.inr ⟨i, v, rfl, ey, q, hno⟩) s' e)⟩
      · have q : ansB v = true := by
          cases e : ansB v with
          | true => rfl
          | false => rw [e] at q; exact absurd rfl q
        refine ⟨_, _, rfl, s35, fun k hk u hu => ?_⟩
        rcases Nat.lt_succ_iff_lt_or_eq.mp hk with hk | rfl
        · exact hno k hk u hu
        · rw [ey] at hu
          cases hu
          exact q
    · rintro σ' H2 ⟨o1, o2, rfl, s2, hno⟩
      obtain ⟨ys, rfl, hy⟩ := all_strs (xs := xs) fun v hv => by
        obtain ⟨k, hk⟩ := List.getElem?_of_mem hv
        exact hno k (List.getElem?_eq_some_iff.mp hk).1 v hk
      have hny : ys ≠ [] := fun q => h1 (by rw [q]; rfl)
      rw [List.length_map] at hn
      refine ⟨_, rfl, a, ys, rfl, s2.seq hS, by omega, fun S zs hSn nd mem len => ?_⟩
      have s3 := Ask.Same.made1 (o := TxO P w S zs) s2 hSn
      have e3 : upd H2 S (TxO P w S zs) S = some (TxO P w S zs) := upd_same
      generalize hH3 : upd H2 S (TxO P w S zs) = H3 at s3 e3
      refine ⟨S, zs, rfl, upd_same, nd, by omega, fun ks l pm so hl => ?_⟩
      replace hl : H3 l = none := by rw [← hH3]; exact hl
      have s4 := Ask.Same.made1 (o := .lst (ks.map V.str)) s3 hl
      have e4 : upd H3 l (.lst (ks.map V.str)) l = some (.lst (ks.map V.str)) := upd_same
      rw [← hH3] at s4 e4
      refine ⟨l, _, rfl, .inl ⟨SqL.of e4, fun t ht => ?_⟩⟩
      have s5 := Ask.Same.made1 (o := .tup (ks.map V.str)) s4 ht
      have e5 : upd (upd (upd H2 S (TxO P w S zs)) l (.lst (ks.map V.str))) t (.tup (ks.map V.str)) t = some (.tup (ks.map V.str)) := upd_same
      obtain ⟨H5, hH5⟩ : ∃ H5, H5 = upd (upd (upd H2 S (TxO P w S zs)) l (.lst (ks.map V.str))) t (.tup (ks.map V.str)) := ⟨_, rfl⟩
      rw [← hH5] at s5 e5
      obtain ⟨kM, kR⟩ := kQ ys ks rfl hny hy ⟨pm.nodup_iff.mpr nd, so, fun z => pm.mem_iff.trans (mem z)⟩
      have lk : (ks.map V.str).length = ks.length := List.length_map ..
      have e5' : upd (upd (upd H2 S (TxO P w S zs)) l (.lst (ks.map V.str))) t (.tup (ks.map V.str)) t = some (.tup (ks.map V.str)) := upd_same
      refine ⟨_, rfl, t, _, rfl, .inr (SqT.of e5'), _, _, rfl, rfl, _, rfl, ite2 (fun h2 => ?_) (fun h2 => ?_)⟩
      · have h2 : (6 : Int) < ((ks.map V.str).length : Nat) := of_decide_eq_true h2
        rw [lk] at h2
        refine ⟨_, rfl, t, _, rfl, .inr (SqT.of e5'), ?_⟩
        rw [lk]
        exact err_made (H1 := upd (upd (upd H2 S (TxO P w S zs)) l (.lst (ks.map V.str))) t (.tup (ks.map V.str))) (by rw [← hH5]; exact s5) ⟨_, _, _, rfl⟩ (by show 3 ≤ 1000; decide) (fun H' d s' e => kM H' d (by omega) s' e)
      · have h2 : ¬ (6 : Int) < ((ks.map V.str).length : Nat) := fun q => h2 (decide_eq_true q)
        rw [lk] at h2
        exact ⟨_, rfl, kR (upd (upd (upd H2 S (TxO P w S zs)) l (.lst (ks.map V.str))) t (.tup (ks.map V.str))) t (by omega) (by rw [← hH5]; exact s5) e5'⟩
end
end Ask

namespace Ask
open PySem L2
open PyProof.Rows (sortedS)
theorem Mde.same {CL m t : Addr} {H H' : Hp} {ys : List Str} (h : Mde CL H m t ys) (e : Same H H') : Mde CL H' m t ys := by
  obtain ⟨dx, o, h1, h2, h3⟩ := h
  exact ⟨dx, o, e _ _ h1, e _ _ h2, h3⟩
def But (p : Addr) (H H' : Hp) : Prop := ∀ b o, b ≠ p → H b = some o → H' b = some o
theorem But.upd {p : Addr} {H H1 : Hp} {o : HO} (k : But p H H1) : But p H (upd H1 p o) := fun b u n e => by rw [upd_ne n]; exact k b u n e
theorem But.of {p : Addr} {H H1 : Hp} (s : Same H H1) : But p H H1 := fun b o _ e => s b o e
/-- the attributes that a limit is given -/
structure LiC (K : PySem.W.Frag) (C : Addr) : Prop where
  c : Cls K C
  a1 : NoAttr K C "letters"
  a2 : NoAttr K C "kind"
  a3 : NoAttr K C "answers"
  a4 : NoAttr K C "letter"
/-- whether the letter is as the kind wants it -/
def dueB (ws : List Str) (kd lt : V) : Bool := if kd = .str "behind" then inB ws lt else isN lt
section
variable {P : Program} {w : World} {K : PySem.W.Frag} {mg : Str → Option Value} {base : Heap}
def spLim (K : PySem.W.Frag) (CL CI CK CA CM CT : Addr) : Sp := fun vs H Q E => ∃ (p dx m t pp a : Addr) (kd lt : V) (xs : List V) (ws : List Str), vs = [.ref p, .ref m, kd, .ref a, lt] ∧ H p = some (.ins CI dx []) ∧ Mde CL H m t ws ∧ Val pp H kd ∧ Val pp H lt ∧ SqL K H a xs ∧ xs.length ≤ 60 ∧ (∀ v ∈ xs, Vl pp H v) ∧
  (inB LM kd = false → E (.ref CK) none H) ∧
  (inB LM kd = true → (∀ (H' : Hp) (d : Addr) (i : Int), wrongAt xs i → Same H H' → H' d = some (.xd (fsBad [.int i])) → E (.ref CA) (some d) H') ∧
    ∀ (ys ks : List Str), xs = ys.map V.str → ys ≠ [] → (∀ y ∈ ys, ansS y = true) → SetOfS ys ks →
      (∀ (H' : Hp) (d : Addr), 6 < ks.length → Same H H' → H' d = some (.xd (fsMany [.str "answers", .int (ks.length : Nat), .int 6])) → E (.ref CM) (some d) H') ∧
      (ks.length ≤ 6 → (dueB ws kd lt = false → ∀ (H' : Hp) (d : Addr), Same H H' → H' d = some (.xd (fsBad [.int 0])) → E (.ref CT) (some d) H') ∧
        (dueB ws kd lt = true → ∀ (k : Str) (H' : Hp) (t2 : Addr), kd = .str k → k ∈ LM → H' p = some (.ins CI dx [("letters", .ref m), ("kind", .str k), ("answers", .ref t2), ("letter", lt)]) → H' t2 = some (.tup (ks.map V.str)) → But p H H' → Q .non H')))
abbrev s_Lim_init : Stmt := inClass (top 25) 0
theorem sc_Lim_init : FnScope ["self", "letters", "kind", "answers", "letter", "kept"] ["self", "letters", "kind", "answers", "letter"] (defScope s_Lim_init) := ⟨rfl, rfl, rfl, by decide +kernel, rfl, by decide +kernel, by decide +kernel⟩
theorem ok_limInit {dvs : List V} {f fD fA fT CL CI CK CA CM CT tK : Addr} {uK : Value} {fd fdD fdA fdT : FuncData} (F : FunD K "__init__" "Limit.__init__" (defArgs s_Lim_init) (defBody s_Lim_init) (defScope s_Lim_init) dvs [] f fd) (hC : LiC K CI)
    (mK : mg "LIMIT_KINDS" = some uK) (rK : RelV (.ref tK) uK) (sK : ∀ H, SqT K H tK (LM.map V.str))
    (GD : FnOk P w K mg base CX0 2 fD fdD ["letters", "value", "has_letter"] (spIsDue CL)) (AD : At K mg "is_due" fD fdD ["letters", "value", "has_letter"])
    (GA : FnOk P w K mg base (L2.CX P w) 4 fA fdA ["answers"] (spAns K CA CM)) (AA : At K mg "answer_set" fA fdA ["answers"])
    (EK : Err0 K mg "BadKind" CK)
    (GT : FnOk P w K mg base CX0 2 fT fdT ["self", "index"] (spErr CT okBad fsBad)) (ET : ErrAt K mg "BadLetter" CT fT fdT ["self", "index"]) :
    FnOk P w K mg base (L2.CX P w) 5 f fd ["self", "letters", "kind", "answers", "letter"] (spLim K CL CI CK CA CM CT) := by
  refine F.ok sc_Lim_init (fun vs H Q E h => ?_) (fun cdv A outer s H vs Q E hr h => ?_)
  · obtain ⟨p, dx, m, t, pp, a, kd, lt, xs, ws, rfl, _⟩ := h
    rfl
  · obtain ⟨p, dx, m, t, pp, a, kd, lt, xs, ws, rfl, hp, hM, vk, vt, hS, hn, hv, k0, k1⟩ := h
    have hr2 := hr.mono (j := 2) (by decide)
    have hr3 := hr.mono (j := 3) (by decide)
    refine ⟨_, (pss_cons (ps_if (pt_cmpR (op_notInW (hu_of hr)) (pv 2) (pe_gv (v := .ref tK) rfl ⟨uK, mK, rK⟩) rfl) (pss_one (ps_raise rfl (takes_of rfl rfl rfl rfl) (pmk_own0 PySem.F.excBase_ValueError EK.e EK.m EK.k (raises_own EK.b EK.t) (by rfl)))) pss_nil)
      (pss_cons (ps_set (i := 5) sc_Lim_init.nd rfl (Or.inl rfl) (pe_call (E := E) GA hr (by rfl) AA.m AA.k AA.b .nil (passes_call (takes_of rfl rfl rfl rfl) (fun _ _ _ _ h => h)) (pa_cons (pv 3) pa_nil)))
      (pss_cons (ps_if (pt_not (pt_val (pe_call GD hr2 (by rfl) AD.m AD.k AD.b .nil pass0 (pa_cons (pv 1) (pa_cons (pv 4) (pa_cons (pe_cmpR op_eq (pv 2) pe_str (nomark _)) pa_nil)))))) (pss_one (ps_raise rfl (takes_of rfl rfl rfl rfl) (pmk_oex ET.o ET.i ET.t GT hr3 ET.b .nil pass0 (by rfl) ET.m (pa_cons pe_int pa_nil)))) pss_nil)
      (pss_cons (ps_fld (pv 0) (pv 1) rfl)
      (pss_cons (ps_fld (pv 0) (pv 2) rfl)
      (pss_cons (ps_fld (pv 0) (pv 5) rfl)
      (pss_one (ps_fld (pv 0) (pv 4) rfl)))))))), ?_⟩
    refine ⟨_, rfl, tK, LM, _, rfl, sK H, vk.inw LM, _, rfl, ?_⟩
    cases bk : inB LM kd with
    | false => exact iteT (k0 bk)
    | true =>
    refine iteF ?_
    obtain ⟨k, rfl, hk⟩ := inB_some bk
    obtain ⟨kE, k2⟩ := k1 bk
    refine ⟨_, rfl, pp, a, xs, rfl, hS, hn, hv, kE, fun ys ks e ny ok so => ?_⟩
    obtain ⟨kM, k3⟩ := k2 ys ks e ny ok so
    refine ⟨kM, fun H1 t2 le s1 e1 => ?_⟩
    obtain ⟨kT, k4⟩ := k3 le
    refine ⟨_, rfl, _, rfl, _, rfl, rfl, m, t, ws, lt, _, _, rfl, hM.same s1, (vt.same s1).inw ws, _, rfl, ?_⟩
    have isn : isN lt = decide (lt = V.non) := by
      cases lt <;> first | rfl | exact (decide_eq_false (fun z => by cases z)).symm
    have ec : (if decide (V.str k = V.str "behind") = true then inB ws lt else decide (lt = .non)) = dueB ws (.str k) lt := by
      unfold dueB
      rw [isn]
      by_cases q : V.str k = V.str "behind"
      · rw [if_pos (decide_eq_true q), if_pos q]
      · rw [if_neg (fun z => q (of_decide_eq_true z)), if_neg q]
    rw [ec]
    cases b2 : dueB ws (.str k) lt with
    | false => exact iteT (err_made s1 ⟨_, rfl⟩ (by show 1 ≤ 1000; decide) (fun H' d s' e => kT b2 H' d s' e))
    | true =>
    refine iteF ?_
    have np : p ≠ t2 := fun q => by
      have := s1 _ _ hp
      rw [q, e1] at this
      cases this
    refine ⟨_, rfl, _, rfl, p, CI, dx, [], rfl, s1 _ _ hp, hC.c, hC.a1, by show 0 < 1000; decide, ?_⟩
    refine ⟨_, rfl, _, rfl, p, CI, dx, _, rfl, upd_same, hC.c, hC.a2, by show 1 < 1000; decide, ?_⟩
    refine ⟨_, rfl, _, rfl, p, CI, dx, _, rfl, upd_same, hC.c, hC.a3, by show 2 < 1000; decide, ?_⟩
    refine ⟨_, rfl, _, rfl, p, CI, dx, _, rfl, upd_same, hC.c, hC.a4, by show 3 < 1000; decide, ?_⟩
    refine k4 b2 k _ t2 rfl hk upd_same ?_ (But.of s1).upd.upd.upd.upd
    rw [upd_ne np.symm, upd_ne np.symm, upd_ne np.symm, upd_ne np.symm]
    exact e1
end
end Ask

namespace Ask
open PySem L2
theorem eqv_str1 (a b : Str) : PyData.eqv (.str a) (.str b) = decide (a = b) := by
  simp only [PyData.eqv]
  by_cases h : a = b
  · subst h; simp
  · rw [decide_eq_false h]; simpa using h
theorem eqvAll_strs : ∀ ys zs : List Str, PyData.eqvAll (ys.map PyData.str) (zs.map PyData.str) = decide (ys = zs)
  | [], [] => by simp [PyData.eqvAll]
  | [], _ :: _ => by simp [PyData.eqvAll]
  | _ :: _, [] => by simp [PyData.eqvAll]
  | y :: ys, z :: zs => by
    rw [List.map_cons, List.map_cons, PyData.eqvAll, eqv_str1, eqvAll_strs ys zs]
    by_cases h : y = z
    · subst h
      by_cases h2 : ys = zs
      · subst h2; simp
      · simp [h2]
    · simp [h]
theorem eqv_strs (ys zs : List Str) : PyData.eqv (.tuple (ys.map PyData.str)) (.tuple (zs.map PyData.str)) = decide (ys = zs) := by
  rw [PyData.eqv]
  exact eqvAll_strs ys zs
/-- what is not None -/
def noN (xs : List V) : List V := xs.filter fun v => !decide (v = V.non)
theorem noN_more {xs : List V} {i : Nat} {v : V} (h : xs[i]? = some v) : noN (xs.take (i + 1)) = noN (xs.take i) ++ (if (!decide (v = V.non)) = true then [v] else []) := by
  unfold noN
  rw [List.take_add_one, h, List.filter_append, Option.toList_some, List.filter_cons, List.filter_nil]
theorem noN_len (xs : List V) (i : Nat) : (noN (xs.take i)).length ≤ xs.length := by
  unfold noN
  refine Nat.le_trans (List.length_filter_le _ _) ?_
  rw [List.length_take]
  omega
/-- a limit at p -/
def LimAt (K : PySem.W.Frag) (CL CI : Addr) (H : Hp) (p : Addr) (ws : List Str) (k : Str) (lt : V) (ks : List Str) : Prop := ∃ (dx m t t2 : Addr), H p = some (.ins CI dx [("letters", .ref m), ("kind", .str k), ("answers", .ref t2), ("letter", lt)]) ∧ Mde CL H m t ws ∧ H t2 = some (.tup (ks.map V.str))
theorem LimAt.same {K : PySem.W.Frag} {CL CI p : Addr} {H H' : Hp} {ws ks : List Str} {k : Str} {lt : V} (h : LimAt K CL CI H p ws k lt ks) (e : Same H H') : LimAt K CL CI H' p ws k lt ks := by
  obtain ⟨dx, m, t, t2, h1, h2, h3⟩ := h
  exact ⟨dx, m, t, t2, e _ _ h1, h2.same e, e _ _ h3⟩
def FitL (ys : List Str) : Prop := ∀ y ∈ ys, y.length ≤ 500 ∧ Asc y
def NonS (v : V) : Prop := v = .non ∨ ∃ y, v = .str y
section
variable {P : Program} {w : World} {K : PySem.W.Frag} {mg : Str → Option Value} {base : Heap}
/-! ### equality of limits -/
def spLEq (K : PySem.W.Frag) (CL CI : Addr) : Sp := fun vs H Q _ => ∃ (p q : Addr) (ws zs ks js : List Str) (k k2 : Str) (lt l2 : V), vs = [.ref p, .ref q] ∧ LimAt K CL CI H p ws k lt ks ∧ LimAt K CL CI H q zs k2 l2 js ∧ FitL ws ∧ FitL zs ∧ FitL ks ∧ FitL js ∧ NonS lt ∧ NonS l2 ∧ Q (.bl (decide (ws = zs ∧ k = k2 ∧ ks = js ∧ lt = l2))) H
abbrev s_LEq : Stmt := inClass (top 25) 1
theorem sc_LEq : FnScope ["self", "other"] ["self", "other"] (defScope s_LEq) := ⟨rfl, rfl, rfl, by decide +kernel, rfl, by decide +kernel, by decide +kernel⟩
theorem ok_leq {f fQ CL CI : Addr} {fd fdQ : FuncData} (F : Fun K "__eq__" "Limit.__eq__" s_LEq f fd) (T : Blt mg) (hC : LiC K CI) (Y : XkC K CI) (mI : mg "Limit" = some (.ref CI))
    (GQ : FnOk P w K mg base CX0 1 fQ fdQ ["self", "other"] (spEq2 CL)) (bQ : Binds K fdQ ["self", "other"] []) (hQ : PySem.W.findIn K (.ref CL) "__eq__" = some (some (.ref fQ))) (iQ : PySem.W.isFn K (.ref fQ) = true) :
    FnOk P w K mg base CX0 2 f fd ["self", "other"] (spLEq K CL CI) := by
  refine F.ok sc_LEq (fun vs H Q E h => ?_) (fun cdv A outer s H vs Q E hr h => ?_)
  · obtain ⟨p, q, ws, zs, ks, js, k, k2, lt, l2, rfl, _⟩ := h
    rfl
  · obtain ⟨p, q, ws, zs, ks, js, k, k2, lt, l2, rfl, ⟨dx, m, t, t2, hp, hM, ht⟩, ⟨dx', m', t', t2', hq, hM', ht'⟩, fw, fz, fk, fj, n1, n2, kq⟩ := h
    refine ⟨_, (pss_one (ps_ret (pe_and (pe_callB call_isi (by rfl) T.n_isinstance (by decide +kernel) (pa_cons (pv 1) (pa_cons (pe_gv (v := .ref CI) rfl ⟨_, mI, rfl⟩) pa_nil))) (pe_and (pe_cmpR (op_eqI (C := CL) (E := E0) GQ hr bQ pass0 hQ iQ) (pe_fld (pv 0) rfl) (pe_fld (pv 1) rfl) (nomark _)) (pe_and (pe_cmpR op_eq (pe_fld (pv 0) rfl) (pe_fld (pv 1) rfl) (nomark _)) (pe_and (pe_cmpR (op_eqD hr.units) (pe_fld (pv 0) rfl) (pe_fld (pv 1) rfl) (nomark _)) (pe_one (pe_cmpR op_eq (pe_fld (pv 0) rfl) (pe_fld (pv 1) rfl) (nomark _))))))))), ?_⟩
    have kk : PySem.W.kitOne K (.ref CI) (.ref CI) = some true := by
      unfold PySem.W.kitOne
      rw [if_pos (by simp)]
    refine ⟨_, rfl, _, _, _, _, true, rfl, .own CI, .base (.ins hq hC.c Y.ha Y.hn Y.ht Y.hm), kk, _, rfl, ite2 (fun _ => ?_) (fun q => absurd rfl q)⟩
    obtain ⟨d1, o1, e1, _, _⟩ := id hM
    obtain ⟨d2, o2, g1, _, _⟩ := id hM'
    refine ⟨_, rfl, p, CI, dx, _, _, rfl, hp, hC.c, hC.a1, rfl, _, rfl, q, CI, dx', _, _, rfl, hq, hC.c, hC.a1, rfl, m, m', d1, d2, _, _, rfl, rfl, e1, g1, m, t, m', t', ws, zs, rfl, hM, hM', fw, fz, _, rfl, _, rfl, ?_⟩
    rw [eqv_strs]
    by_cases a1 : ws = zs
    case neg =>
      rw [decide_eq_false (fun z => a1 z.1)] at kq
      rw [decide_eq_false a1]
      exact iteF kq
    rw [decide_eq_true a1]
    refine iteT ⟨_, rfl, p, CI, dx, _, _, rfl, hp, hC.c, hC.a2, rfl, _, rfl, q, CI, dx', _, _, rfl, hq, hC.c, hC.a2, rfl, rfl, _, rfl, ?_⟩
    by_cases a2 : k = k2
    case neg =>
      rw [decide_eq_false (fun z => a2 z.2.1)] at kq
      rw [decide_eq_false (fun z => a2 (V.str.inj z))]
      exact iteF kq
    rw [decide_eq_true (congrArg V.str a2)]
    refine iteT ⟨_, rfl, p, CI, dx, _, _, rfl, hp, hC.c, hC.a3, rfl, _, rfl, q, CI, dx', _, _, rfl, hq, hC.c, hC.a3, rfl, .tuple (ks.map PyData.str), .tuple (js.map PyData.str), .tup (SqT.of ht) (dp_strs ks), .tup (SqT.of ht') (dp_strs js), (fit_strs fk).shapedT, (fit_strs fj).shapedT, _, rfl, ?_⟩
    rw [eqv_strs]
    by_cases a3 : ks = js
    case neg =>
      rw [decide_eq_false (fun z => a3 z.2.2.1)] at kq
      rw [decide_eq_false a3]
      exact iteF kq
    rw [decide_eq_true a3]
    have sc : scal lt l2 = true := by
      rcases n1 with rfl | ⟨y, rfl⟩ <;> rcases n2 with rfl | ⟨z, rfl⟩ <;> rfl
    refine iteT ⟨_, rfl, p, CI, dx, _, _, rfl, hp, hC.c, hC.a4, rfl, _, rfl, q, CI, dx', _, _, rfl, hq, hC.c, hC.a4, rfl, sc, ?_⟩
    have e : decide (lt = l2) = decide (ws = zs ∧ k = k2 ∧ ks = js ∧ lt = l2) := by
      by_cases q : lt = l2
      · rw [decide_eq_true q, decide_eq_true ⟨a1, a2, a3, q⟩]
      · rw [decide_eq_false q, decide_eq_false (fun z => q z.2.2.2)]
    rw [e]
    exact kq
/-! ### Limit.__str__ -/
/-- the words of a limit -/
def wordsL (k : Str) (lt : V) (ks : List Str) : List Str := (match lt with | .str y => [k, y] | _ => [k]) ++ ks
theorem noN_head {k : Str} {lt : V} (h : NonS lt) : ∃ hs : List Str, noN [.str k, lt] = hs.map V.str ∧ ∀ ks, wordsL k lt ks = hs ++ ks := by
  have e : ∀ z : Str, (!decide (V.str z = V.non)) = true := fun z => by rw [decide_eq_false (fun q => by cases q)]; rfl
  unfold noN
  rw [List.filter_cons, if_pos (e k)]
  rcases h with rfl | ⟨y, rfl⟩
  · rw [List.filter_cons, if_neg (by rw [decide_eq_true rfl]; exact Bool.false_ne_true)]
    exact ⟨[k], rfl, fun _ => rfl⟩
  · rw [List.filter_cons, if_pos (e y)]
    exact ⟨[k, y], rfl, fun _ => rfl⟩
def spLStr (K : PySem.W.Frag) (CL CI : Addr) : Sp := fun vs H Q _ => ∃ (p : Addr) (ws ks : List Str) (k : Str) (lt : V), vs = [.ref p] ∧ LimAt K CL CI H p ws k lt ks ∧ NonS lt ∧ ks.length ≤ 12 ∧ (((wordsL k lt ks).map (·.length)).sum + (wordsL k lt ks).length * 1 ≤ 16777216) ∧ ∀ H', Same H H' → Q (.str (Txt.join " " (wordsL k lt ks))) H'
abbrev s_LStr : Stmt := inClass (top 25) 2
theorem sc_LStr : FnScope ["self", "head", "word"] ["self"] (defScope s_LStr) := ⟨rfl, rfl, rfl, by decide +kernel, rfl, by decide +kernel, by decide +kernel⟩
theorem ok_lstr {f CL CI : Addr} {fd : FuncData} (F : Fun K "__str__" "Limit.__str__" s_LStr f fd) (hC : LiC K CI) : FnOk P w K mg base CX0 1 f fd ["self"] (spLStr K CL CI) := by
  refine F.ok sc_LStr (fun vs H Q E h => ?_) (fun cdv A outer s H vs Q E hr h => ?_)
  · obtain ⟨p, ws, ks, k, lt, rfl, _⟩ := h
    rfl
  · obtain ⟨p, ws, ks, k, lt, rfl, ⟨dx, m, t, t2, hp, hM, ht⟩, hs, hk, hz, kq⟩ := h
    refine ⟨_, (pss_cons (ps_setLc (i := 1) (own := [("word", 2)]) rfl sc_LStr.nd rfl rfl (sw_true rfl rfl rfl (by decide +kernel)) (pi_tup (pe_tup (pa_cons (pe_fld (pv 0) rfl) (pa_cons (pe_fld (pv 0) rfl) pa_nil)))) (blkOk_by (N := ["self", "head", "word"]) (sc := defScope s_LStr) (by decide +kernel)) (fun _ _ _ _ _ => (pg_name (i := 2) sc_LStr.nd rfl (Or.inl rfl))) (fun _ _ _ _ _ => pts_one (pt_cmpR (show OpR _ _ (fun x y H Q => y = .non ∧ Q (.bl (!decide (x = .non))) H) from op_notN) (pv 2) pe_non (nomark _))) (fun _ _ _ _ _ => (pv 2)))
      (pss_one (ps_ret (pe_join pe_str (pe_lst (StX.pa_star (pv 1) (StX.pa_star (pe_fld (pv 0) rfl) pa_nil))))))), ?_⟩
    have z1 : (1000 : Nat) ≤ sizeLine := by decide
    refine ⟨_, rfl, p, CI, dx, _, _, rfl, hp, hC.c, hC.a2, rfl, _, rfl, p, CI, dx, _, _, rfl, hp, hC.c, hC.a4, rfl, by show 2 ≤ sizeLine; decide, fun u hu => ⟨u, rfl, ⟨_, SqT.of upd_same⟩, fun L hL => ?_⟩⟩
    have s1 := Ask.Same.made1 (o := .tup [.str k, lt]) (Same.refl H) hu
    have f1 : upd H u (.tup [.str k, lt]) u = some (.tup [.str k, lt]) := upd_same
    generalize upd H u (.tup [.str k, lt]) = H1 at s1 f1 hL ⊢
    refine lc_it (walk_tup (xs := [.str k, lt])) (fun i H' => Same H1 H' ∧ H' L = some (.lst (noN (([.str k, lt] : List V).take i)))) ⟨Ask.Same.upd_new (Same.refl _) hL, upd_same⟩ (fun i H' _ hh => seqT_same hh.1 (SqT.of f1)) ?_ ?_
    · rintro i v H2 H3 hi ⟨s2, hL2⟩ ⟨rfl, hv⟩
      refine ⟨rfl, _, rfl, rfl, _, rfl, ?_⟩
      have e := noN_more hv
      have n := noN_len [.str k, lt] i
      have n3 : ([.str k, lt] : List V).length = 2 := rfl
      refine ite2 (fun q => ?_) (fun q => ?_)
      · rw [if_pos q] at e
        exact ⟨_, rfl, _, hL2, by omega, Ask.Same.upd_new s2 hL, by rw [upd_same, e]⟩
      · rw [if_neg q, List.append_nil] at e
        exact ⟨s2, by rw [e]; exact hL2⟩
    · rintro H2 ⟨s2, hL2⟩
      obtain ⟨hd, eh, ew⟩ := noN_head (k := k) hs
      have s12 := s1.trans s2
      replace hL2 : H2 L = some (.lst (hd.map V.str)) := by
        rw [← eh]
        exact hL2
      have lh : hd.length ≤ 2 := by
        have := congrArg List.length eh
        rw [List.length_map] at this
        rw [← this]
        exact Nat.le_trans (List.length_filter_le _ _) (Nat.le_refl _)
      refine ⟨⟨_, rfl⟩, _, rfl, L, _, rfl, .inr (SqL.of hL2), _, rfl, p, CI, dx, _, _, rfl, s12 _ _ hp, hC.c, hC.a3, rfl, t2, _, rfl, .inl (SqT.of (s12 _ _ ht)), ?_, fun M hM2 => ?_⟩
      · rw [List.length_append, List.length_append, List.length_map, List.length_map]
        show _ + (_ + 0) ≤ sizeLine
        omega
      · have s3 := Ask.Same.made1 (o := .lst (hd.map V.str ++ (ks.map V.str ++ []))) s12 hM2
        have e3 : upd H2 M (.lst (hd.map V.str ++ (ks.map V.str ++ []))) M = some (.lst ((wordsL k lt ks).map V.str)) := by
          rw [upd_same, ew, List.map_append, List.append_nil]
        exact ⟨_, M, wordsL k lt ks, rfl, rfl, .inl (SqL.of e3), hz, kq _ s3⟩
end
end Ask

namespace Ask
open PySem L2
/-- what the list of odd things holds -/
def OddV (p : Addr) (H : Hp) (v : V) : Prop := (v = .non ∨ v = .bl true ∨ v = .int 0 ∨ v = .int 1) ∨ (∃ z : Str, v = .str z) ∨
  ∃ d, v = .ref d ∧ d ≠ p ∧ ((∃ kvs, H d = some (.dK kvs)) ∨ (∃ xs, H d = some (.lst xs)) ∨ (∃ xs, H d = some (.tup xs)))
def isStrV : V → Bool
  | .str _ => true
  | _ => false
theorem odd_isi {K : PySem.W.Frag} {p : Addr} {H : Hp} {v : V} (h : OddV p H v) : ∃ t : Value, TyX K H v t ∧ PySem.W.kitOne K t (.type "str") = some (isStrV v) := by
  rcases h with (rfl | rfl | rfl | rfl) | ⟨z, rfl⟩ | ⟨d, rfl, _, ⟨kvs, h⟩ | ⟨xs, h⟩ | ⟨xs, h⟩⟩
  · exact ⟨_, .base .non, kit_ty (by decide +kernel)⟩
  · exact ⟨_, .base (.bl _), kit_ty (by decide +kernel)⟩
  · exact ⟨_, .base (.int _), kit_ty (by decide +kernel)⟩
  · exact ⟨_, .base (.int _), kit_ty (by decide +kernel)⟩
  · exact ⟨_, .base (.str _), kit_ty (by show kitB "str" "str" = some true; decide +kernel)⟩
  · exact ⟨_, .base (.dK h), kit_ty (by show kitB "dict" "str" = some false; decide +kernel)⟩
  · exact ⟨_, .base (.lst h), kit_ty (by show kitB "list" "str" = some false; decide +kernel)⟩
  · exact ⟨_, .base (.tup h), kit_ty (by show kitB "tuple" "str" = some false; decide +kernel)⟩
theorem inV_no {v : V} {ys : List Str} (h : ∀ y : Str, eqV (.str y) v = false) : inV v (ys.map V.str) = false := by
  unfold inV
  rw [List.any_eq_false]
  intro x hx
  obtain ⟨y, _, rfl⟩ := List.mem_map.mp hx
  rw [h y]
  exact Bool.false_ne_true
/-- not a text of ys, stable -/
def Out (p : Addr) (H : Hp) (v : V) (ys : List Str) : Prop := InW H v ys false ∧ ∀ d, v = .ref d → d ≠ p
theorem OddV.out {p : Addr} {H : Hp} {v : V} {ys : List Str} (h : OddV p H v) (n : isStrV v = true → inV v (ys.map V.str) = false) : Out p H v ys := by
  rcases h with (rfl | rfl | rfl | rfl) | ⟨z, rfl⟩ | ⟨d, rfl, hn, h⟩
  · exact ⟨.inl ⟨rfl, (inV_no fun _ => rfl).symm⟩, fun _ e => nomatch e⟩
  · exact ⟨.inl ⟨rfl, (inV_no fun _ => rfl).symm⟩, fun _ e => nomatch e⟩
  · exact ⟨.inl ⟨rfl, (inV_no fun _ => rfl).symm⟩, fun _ e => nomatch e⟩
  · exact ⟨.inl ⟨rfl, (inV_no fun _ => rfl).symm⟩, fun _ e => nomatch e⟩
  · exact ⟨.inl ⟨rfl, (n rfl).symm⟩, fun _ e => nomatch e⟩
  · exact ⟨.inr ⟨rfl, d, rfl, h⟩, fun _ e => by cases e; exact hn⟩
theorem Out.kp {p : Addr} {H H' : Hp} {v : V} {ys : List Str} (h : Out p H v ys) (k : Kp p H H') : Out p H' v ys := by
  obtain ⟨h | ⟨e, d, rfl, h⟩, n⟩ := h
  · exact ⟨.inl h, n⟩
  · refine ⟨.inr ⟨e, d, rfl, ?_⟩, n⟩
    have nd := n d rfl
    rcases h with ⟨kvs, h⟩ | ⟨xs, h⟩ | ⟨xs, h⟩
    · exact .inl ⟨kvs, k _ _ nd h⟩
    · exact .inr (.inl ⟨xs, k _ _ nd h⟩)
    · exact .inr (.inr ⟨xs, k _ _ nd h⟩)
section
variable {P : Program} {w : World} {K : PySem.W.Frag} {mg : Str → Option Value} {base : Heap}
def spOdd (K : PySem.W.Frag) : Sp := fun vs H Q _ => ∃ (p c : Addr) (ns : List Int) (a : Addr) (ys : List Str) (B : Nat), vs = [.ref p, .ref a] ∧ Pen c ns H p B ∧ B ≤ 500000000 ∧ SqL K H a (ys.map V.str) ∧ 0 < ys.length ∧ ys.length ≤ 1000 ∧
  (∀ y ∈ ys, y.length ≤ 200 ∧ Asc y) ∧ ∀ (H' : Hp) (v : V), Go p c ns H H' (B + 3) → Out p H' v ys → Q v H'
abbrev s__law_odd : Stmt := top 31
theorem sc__law_odd : FnScope ["_law_pen_here", "_law_letters_here", "_law_one", "_law_longer", "_law_odd_here", "_law_some", "_law_value"] ["_law_pen_here", "_law_letters_here"] (defScope s__law_odd) := ⟨rfl, rfl, rfl, by decide +kernel, rfl, by decide +kernel, by decide +kernel⟩
theorem ok_odd {f fP : Addr} {fd fdP : FuncData} (F : Fun K "_law_odd" "_law_odd" s__law_odd f fd) (T : Blt mg)
    (GP : FnOk P w K mg base CX0 2 fP fdP ["_law_pen_here", "_law_options"] (spPick K)) (C : At K mg "_law_pick" fP fdP ["_law_pen_here", "_law_options"]) :
    FnOk P w K mg base CX0 3 f fd ["_law_pen_here", "_law_letters_here"] (spOdd K) := by
  refine F.ok sc__law_odd (fun vs H Q E h => ?_) (fun cdv A outer s H vs Q E hr h => ?_)
  · obtain ⟨p, c, ns, a, ys, B, rfl, _⟩ := h
    rfl
  · obtain ⟨p, c, ns, a, ys, B, rfl, hpen, hB, hS, h0, h1, hy, k⟩ := h
    refine ⟨_, (pss_cons (ps_set (i := 2) sc__law_odd.nd rfl (Or.inl rfl) (pe_call GP hr (by rfl) C.m C.k C.b .nil pass0 (pa_cons (pv 0) (pa_cons (pv 1) pa_nil))))
      (pss_cons (ps_set (i := 3) sc__law_odd.nd rfl (Or.inl rfl) (pe_op op_add_str (pv 2) (pe_call GP hr (by rfl) C.m C.k C.b .nil pass0 (pa_cons (pv 0) (pa_cons pe_str pa_nil)))))
      (pss_cons (ps_set (i := 4) sc__law_odd.nd rfl (Or.inl rfl) (pe_lst (pa_cons pe_non (pa_cons pe_bl (pa_cons pe_int (pa_cons pe_int (pa_cons (pe_lst (pa_cons (pv 2) pa_nil)) (pa_cons (pe_tup (pa_cons (pv 2) pa_nil)) (pa_cons (pe_disp (pps_cons (pv 2) (pv 2) pps_nil) (by rfl) (by rfl) (fun z => by cases z) (by decide)) (pa_cons pe_str (pa_cons pe_str (pa_cons pe_str (pa_cons (pv 3) (pa_cons (pe_slice sl_str (pv 2) (po_some pe_int) po_none) (pa_cons (pe_upper (pv 2)) (pa_cons (pe_op op_add_str pe_str (pv 2)) pa_nil))))))))))))))))
      (pss_cons (ps_setLc (i := 5) (own := [("_law_value", 6)]) rfl sc__law_odd.nd rfl rfl (sw_true rfl rfl rfl (by decide +kernel)) (pi_list (pv 4)) (blkOk_by (N := ["_law_pen_here", "_law_letters_here", "_law_one", "_law_longer", "_law_odd_here", "_law_some", "_law_value"]) (sc := defScope s__law_odd) (by decide +kernel)) (fun _ _ _ _ _ => (pg_name (i := 6) sc__law_odd.nd rfl (Or.inl rfl))) (fun _ _ _ _ _ => pts_one (pt_not (PW.pt (pw_and (pt_val (pe_callB (show CallR _ _ (rIsi K) from call_isi) (by rfl) T.n_isinstance (by decide +kernel) (pa_cons (pv 6) (pa_cons (pe_bltn (v := .ty "str") (u := .type "str") rfl T.n_str (by decide +kernel) rfl) pa_nil)))) (pw_and1 (pt_cmpR (show OpR _ _ (rIn K false) from op_in_seq) (pv 6) (pv 1) rfl)))))) (fun _ _ _ _ _ => (pv 6)))
      (pss_one (ps_ret (pe_call GP hr (by rfl) C.m C.k C.b .nil pass0 (pa_cons (pv 0) (pa_cons (pv 5) pa_nil))))))))), ?_⟩
    have z1 : (1000 : Nat) ≤ sizeLine := by decide
    refine ⟨_, rfl, _, rfl, p, c, ns, _, B, rfl, hpen, by omega, .inl ⟨a, _, rfl, hS, by rw [List.length_map]; exact h0, by rw [List.length_map]; exact h1, fun H1 v g1 hv => ?_⟩⟩
    obtain ⟨one, hone, rfl⟩ := List.mem_map.mp hv
    obtain ⟨l1, a1⟩ := hy one hone
    clear hv
    have np : ∀ {H' : Hp} {q : Addr} {o : HO}, Go p c ns H H' (B + 3) → H' q = none → q ≠ p := fun g e => (g.ne (g.free e)).1
    -- longer
    refine ⟨_, rfl, _, rfl, p, c, ns, _, B + 1, rfl, g1.pen, by omega, .inr ⟨_, rfl, by decide, by decide, fun H2 i g2 hi => ?_⟩⟩
    have g2 := g1.step g2
    refine ⟨_, _, rfl, rfl, (by show one.length + 1 ≤ sizeLine; omega), ?_⟩
    -- the list
    refine ⟨_, rfl, by show 1 ≤ sizeLine; decide, fun q1 hq1 => ?_⟩
    have n1 := (g2.ne (g2.free hq1)).1
    have f1 : upd H2 q1 (.lst [.str one]) q1 = some (.lst [.str one]) := upd_same
    have g3 := g2.new (o := .lst [.str one]) hq1
    generalize upd H2 q1 (.lst [.str one]) = H3 at f1 g3 ⊢
    refine ⟨_, rfl, by show 1 ≤ sizeLine; decide, fun q2 hq2 => ?_⟩
    have n2 := (g3.ne (g3.free hq2)).1
    have f2 : upd H3 q2 (.tup [.str one]) q2 = some (.tup [.str one]) := upd_same
    replace f1 : upd H3 q2 (.tup [.str one]) q1 = some (.lst [.str one]) := by rw [upd_ne (ne_of_none f1 hq2)]; exact f1
    have g4 := g3.new (o := .tup [.str one]) hq2
    generalize upd H3 q2 (.tup [.str one]) = H4 at f1 f2 g4 ⊢
    intro q3 hq3
    have n3 := (g4.ne (g4.free hq3)).1
    refine ⟨_, rfl, _, rfl, upd_same, [(Sum.inr one, .str one)], rfl, (by show 1 ≤ 15; decide), ?_⟩
    obtain ⟨kvs, hk⟩ : ∃ kvs, kvs = mergeK [] [((Sum.inr one : Key), V.str one)] := ⟨_, rfl⟩
    rw [← hk]
    have f3 : upd (upd H4 q3 (.dK [])) q3 (.dK kvs) q3 = some (.dK kvs) := upd_same
    have e1 : ∀ b, b ≠ q3 → upd (upd H4 q3 (.dK [])) q3 (.dK kvs) b = H4 b := fun b hb => by rw [upd_ne hb, upd_ne hb]
    replace f1 : upd (upd H4 q3 (.dK [])) q3 (.dK kvs) q1 = some (.lst [.str one]) := by rw [e1 _ (ne_of_none f1 hq3)]; exact f1
    replace f2 : upd (upd H4 q3 (.dK [])) q3 (.dK kvs) q2 = some (.tup [.str one]) := by rw [e1 _ (ne_of_none f2 hq3)]; exact f2
    have g5 := (g4.new (o := .dK []) hq3).mut (o := .dK kvs) (g4.free hq3)
    generalize upd (upd H4 q3 (.dK [])) q3 (.dK kvs) = H5 at f1 f2 f3 g5 ⊢
    clear e1 g4 g3 hq1 hq2 hq3
    refine ⟨_, rfl, _, rfl, _, rfl, one, rfl, by omega, _, rfl, ⟨one, rfl⟩, one, rfl, rfl, by omega, ?_⟩
    refine ⟨_, rfl, _, _, rfl, rfl, (by show 1 + one.length ≤ sizeLine; omega), (by show 14 ≤ sizeLine; decide), fun q4 hq4 => ?_⟩
    obtain ⟨xs1, H6, e6, f4, t1, ln1, hd1⟩ : ∃ xs1 H6, H6 = upd H5 q4 (.lst [.non, .bl true, .int 0, .int 1, .ref q1, .ref q2, .ref q3, .str "", .str "new", .str "found", .str (one ++ (⟨#[i]⟩ : Str)), .str (cutS one (some 1) none), .str (Txt.upper one), .str ("~" ++ one)]) ∧ H6 q4 = some (.lst xs1) ∧
        (∀ H', H' q1 = some (.lst [.str one]) → H' q2 = some (.tup [.str one]) → H' q3 = some (.dK kvs) → ∀ v ∈ xs1, OddV p H' v) ∧ xs1.length = 14 ∧ xs1[0]? = some .non := by
      refine ⟨_, _, rfl, upd_same, fun H' e1 e2 e3 v hv => ?_, rfl, rfl⟩
      simp only [List.mem_cons, List.not_mem_nil, or_false] at hv
      rcases hv with rfl | rfl | rfl | rfl | rfl | rfl | rfl | rfl | rfl | rfl | rfl | rfl | rfl | rfl
      · exact .inl (.inl rfl)
      · exact .inl (.inr (.inl rfl))
      · exact .inl (.inr (.inr (.inl rfl)))
      · exact .inl (.inr (.inr (.inr rfl)))
      · exact .inr (.inr ⟨q1, rfl, n1, .inr (.inl ⟨_, e1⟩)⟩)
      · exact .inr (.inr ⟨q2, rfl, n2, .inr (.inr ⟨_, e2⟩)⟩)
      · exact .inr (.inr ⟨q3, rfl, n3, .inl ⟨_, e3⟩⟩)
      all_goals exact .inr (.inl ⟨_, rfl⟩)
    rw [← e6]
    replace f1 : H6 q1 = some (.lst [.str one]) := by rw [e6, upd_ne (ne_of_none f1 hq4)]; exact f1
    replace f2 : H6 q2 = some (.tup [.str one]) := by rw [e6, upd_ne (ne_of_none f2 hq4)]; exact f2
    replace f3 : H6 q3 = some (.dK kvs) := by rw [e6, upd_ne (ne_of_none f3 hq4)]; exact f3
    have g6 : Go p c ns H H6 (B + 1 + 1) := by rw [e6]; exact g5.new hq4
    clear e6 hq4 g5
    have odd := t1 H6 f1 f2 f3
    -- the filter
    refine ⟨_, rfl, q4, rfl, ⟨_, SqL.of f4⟩, fun L hL => ?_⟩
    refine lc_it (walk_list (xs := xs1)) (fun j H' => Same H6 H' ∧ ∃ zs : List V, H' L = some (.lst zs) ∧ zs.length ≤ j ∧ (0 < j → 0 < zs.length) ∧ ∀ v ∈ zs, Out p H6 v ys)
      ⟨Ask.Same.upd_new (Same.refl _) hL, [], upd_same, Nat.le_refl 0, fun z => absurd z (Nat.lt_irrefl 0), by simp⟩ (fun j H' _ hh => (hh.1).seq (SqL.of f4)) ?_ ?_
    · rintro j v H8 H7 hj ⟨s7, zs, hz, hzl, hzp, hzs⟩ ⟨rfl, hx⟩
      have ov := odd v (List.mem_of_getElem? hx)
      have ov7 : OddV p H7 v := by
        rcases ov with o | o | ⟨d, e, n, ⟨k1, h⟩ | ⟨k1, h⟩ | ⟨k1, h⟩⟩
        · exact .inl o
        · exact .inr (.inl o)
        · exact .inr (.inr ⟨d, e, n, .inl ⟨k1, s7 _ _ h⟩⟩)
        · exact .inr (.inr ⟨d, e, n, .inr (.inl ⟨k1, s7 _ _ h⟩)⟩)
        · exact .inr (.inr ⟨d, e, n, .inr (.inr ⟨k1, s7 _ _ h⟩)⟩)
      obtain ⟨ty, hty, hkt⟩ := odd_isi ov7
      have add : Out p H6 v ys → tVar 6 [some (.ref p), some (.ref a), some (.str one), some (.str (one ++ (⟨#[i]⟩ : Str))), some (.ref q4), none, some v] H7 fun y H4 => ∃ acc, H4 L = some (.lst acc) ∧ acc.length < sizeLine ∧
          (Same H6 (upd H4 L (.lst (acc ++ [y]))) ∧ ∃ zs : List V, upd H4 L (.lst (acc ++ [y])) L = some (.lst zs) ∧ zs.length ≤ j + 1 ∧ (0 < j + 1 → 0 < zs.length) ∧ ∀ v ∈ zs, Out p H6 v ys) := fun ho =>
        ⟨_, rfl, _, hz, by omega, Ask.Same.upd_new s7 hL, _, upd_same, by rw [List.length_append]; show zs.length + 1 ≤ _; omega, fun _ => by rw [List.length_append]; show 0 < zs.length + 1; omega, fun x hx => by
          rcases List.mem_append.mp hx with q | q
          · exact hzs x q
          · rw [List.mem_singleton.mp q]
            exact ho⟩
      refine ⟨rfl, _, rfl, v, _, ty, _, isStrV v, rfl, .ty _, hty, hkt, _, rfl, ?_⟩
      have hflat : (ys.map V.str).all flatV = true := by
        rw [List.all_eq_true]
        intro x hx
        obtain ⟨y, _, rfl⟩ := List.mem_map.mp hx
        rfl
      refine ite2 (fun q => ?_) (fun q => iteT (add (ov.out fun h => absurd h q)))
      refine ⟨_, rfl, _, rfl, a, _, rfl, .inl (s7.seq (g6.seq hS)), ?_, hflat, _, rfl, ?_⟩
      · cases v <;> first | rfl | exact absurd q Bool.false_ne_true
      · show if (!inV v (ys.map V.str)) = true then _ else _
        refine ite2 (fun h => add (ov.out fun _ => ?_)) (fun h => ?_)
        · cases e : inV v (ys.map V.str) with
          | false => rfl
          | true =>
            rw [e] at h
            cases h
        · refine ⟨s7, zs, hz, by omega, fun _ => ?_, hzs⟩
          rcases Nat.eq_zero_or_pos j with rfl | hj0
          · have : v = .non := Option.some.inj (hx.symm.trans hd1)
            subst this
            exact absurd q Bool.false_ne_true
          · exact hzp hj0
    · rintro H7 ⟨s7, zs, hz, hzl, hzp, hzs⟩
      have g7 := g6.same s7
      refine ⟨_, rfl, _, rfl, p, c, ns, _, B + 1 + 1, rfl, g7.pen, by omega, .inl ⟨L, zs, rfl, SqL.of hz, hzp (by omega), by omega, fun H8 v g8 hv => ?_⟩⟩
      exact k H8 v (g7.step g8) (((hzs v hv).kp (Kp.of s7)).kp g8.kp)
end
end Ask

namespace Ask
open PySem L2
def freeW (i : Nat) : Str := ("~q" : Str) ++ ((toString (i : Int) : String) : Str)
def freeWs : List Str := (List.range 13).map freeW
theorem freeW_ok : ∀ i ∈ List.range 13, isLs (freeW i) = true ∧ (freeW i).length ≤ 13 ∧ (∀ c ∈ (freeW i).cps.toList, c < 128) := by decide +kernel
theorem freeWs_nd : freeWs.Nodup := by decide +kernel
theorem sub_len {α : Type} [DecidableEq α] : ∀ (l m : List α), l.Nodup → (∀ x ∈ l, x ∈ m) → l.length ≤ m.length
  | [], _, _, _ => Nat.zero_le _
  | a :: l, m, nd, h => by
    have ha := h a (List.mem_cons_self ..)
    have nd2 := List.nodup_cons.mp nd
    have := sub_len l (m.erase a) nd2.2 fun x hx => (List.mem_erase_of_ne (fun z => by subst z; exact nd2.1 hx)).mpr (h x (List.mem_cons_of_mem _ hx))
    rw [List.length_erase_of_mem ha] at this
    have := List.length_pos_of_mem ha
    rw [List.length_cons]
    omega
theorem free_some {ys : List Str} (h : ys.length ≤ 12) : ∃ z, (freeWs.filter fun z => !inV (.str z) (ys.map V.str))[0]? = some z := by
  cases e : freeWs.filter fun z => !inV (.str z) (ys.map V.str) with
  | cons z zs => exact ⟨z, rfl⟩
  | nil =>
    exfalso
    have := sub_len freeWs ys freeWs_nd fun x hx => by
      have := List.filter_eq_nil_iff.mp e x hx
      have : inV (.str x) (ys.map V.str) = true := by
        cases q : inV (.str x) (ys.map V.str) with
        | true => rfl
        | false => rw [q] at this; exact absurd rfl this
      unfold inV at this
      obtain ⟨y, hy, e⟩ := List.any_eq_true.mp this
      obtain ⟨s, hs, rfl⟩ := List.mem_map.mp hy
      have : s = x := of_decide_eq_true e
      subst this
      exact hs
    have e2 : freeWs.length = 13 := by rfl
    omega
theorem free_is {ys : List Str} {z : Str} (h : (freeWs.filter fun z => !inV (.str z) (ys.map V.str))[0]? = some z) : z ∉ ys ∧ isLs z = true ∧ z.length ≤ 13 ∧ Asc z := by
  have m := List.mem_of_getElem? h
  obtain ⟨m1, m2⟩ := List.mem_filter.mp m
  obtain ⟨i, hi, rfl⟩ := List.mem_map.mp m1
  obtain ⟨o1, o2, o3⟩ := freeW_ok i hi
  refine ⟨fun z => ?_, o1, o2, o3⟩
  rw [in_mem z] at m2
  cases m2
section
variable {P : Program} {w : World} {K : PySem.W.Frag} {mg : Str → Option Value} {base : Heap}
/-! ### the law's free letter -/
def spFree (K : PySem.W.Frag) : Sp := fun vs H Q _ => ∃ (a : Addr) (ys : List Str), vs = [.ref a] ∧ SqL K H a (ys.map V.str) ∧ ys.length ≤ 12 ∧
  ∀ (H' : Hp) (z : Str), Same H H' → z ∉ ys → isLs z = true → z.length ≤ 13 → Asc z → Q (.str z) H'
abbrev s__law_free : Stmt := top 32
theorem sc__law_free : FnScope ["_law_letters_here", "_law_k", "_law_word"] ["_law_letters_here"] (defScope s__law_free) := ⟨rfl, rfl, rfl, by decide +kernel, rfl, by decide +kernel, by decide +kernel⟩
theorem ok_free {f : Addr} {fd : FuncData} (F : Fun K "_law_free" "_law_free" s__law_free f fd) (T : Blt mg) : FnOk P w K mg base CX0 1 f fd ["_law_letters_here"] (spFree K) := by
  refine F.ok sc__law_free (fun vs H Q E h => ?_) (fun cdv A outer s H vs Q E hr h => ?_)
  · obtain ⟨a, ys, rfl, _⟩ := h
    rfl
  · obtain ⟨a, ys, rfl, ha, ly, k⟩ := h
    refine ⟨_, (pss_one (ps_ret (pe_ix ix_list (pe_lc (own := [("_law_word", 2)]) rfl sc__law_free.nd (pi_list (pe_lc (own := [("_law_k", 1)]) rfl sc__law_free.nd (pi_range1 rfl T.n_range (pa_cons pe_int pa_nil)) (blkOk_by (N := ["_law_letters_here", "_law_k", "_law_word"]) (sc := defScope s__law_free) (by decide +kernel)) (fun _ _ _ _ _ => (pg_name (i := 1) sc__law_free.nd rfl (Or.inl rfl))) (fun _ _ _ _ _ => pts_nil) (fun _ _ _ _ _ => (pe_op op_add_str pe_str (pe_callTy call_str_int (by rfl) T.n_str (by decide +kernel) (pa_cons (pv 1) pa_nil)))))) (blkOk_by (N := ["_law_letters_here", "_law_k", "_law_word"]) (sc := defScope s__law_free) (by decide +kernel)) (fun _ _ _ _ _ => (pg_name (i := 2) sc__law_free.nd rfl (Or.inl rfl))) (fun _ _ _ _ _ => pts_one (pt_cmpR (show OpR _ _ (rIn K true) from op_notIn_seq) (pv 2) (pv 0) rfl)) (fun _ _ _ _ _ => (pv 2))) pe_int (fun _ _ => rfl)))), ?_⟩
    have z1 : (100000 : Nat) ≤ sizeLine := by decide
    have hflat : (ys.map V.str).all flatV = true := by
      rw [List.all_eq_true]
      intro x hx
      obtain ⟨y, _, rfl⟩ := List.mem_map.mp hx
      rfl
    refine ⟨13, rfl, by decide, by decide, fun L hL => ?_⟩
    refine lc_range (lo := 0) (n := 13) (fun i H' => Same H H' ∧ H' L = some (.lst (((List.range i).map freeW).map V.str))) ⟨Ask.Same.upd_new (Same.refl _) hL, upd_same⟩ (fun i H1 hi hh => ?_) (fun H1 hh => ?_)
    · obtain ⟨s1, hL1⟩ := hh
      have e0 : (0 : Int) + (i : Int) = (i : Int) := Int.zero_add _
      have o := freeW_ok i (List.mem_range.mpr hi)
      have l2 : (freeW i).length = Str.length "~q" + Str.length ((toString (i : Int) : String) : Str) := by
        unfold freeW
        simp [Str.length, Str.cps_append]
      have o1 := o.2.1
      refine ⟨rfl, _, rfl, 0 + (i : Int), rfl, ?_, _, _, rfl, rfl, ?_, _, hL1, ?_, Ask.Same.upd_new s1 hL, ?_⟩
      · rw [e0]
        have : ((i : Int)).natAbs = i := rfl
        rw [this]
        exact Nat.lt_of_le_of_lt (Nat.log2_le_self i) (by omega)
      · rw [e0]
        show Str.length "~q" + Str.length ((toString (i : Int) : String) : Str) ≤ sizeLine
        omega
      · rw [List.length_map, List.length_map, List.length_range]
        omega
      · rw [upd_same, List.range_succ, List.map_append, List.map_append, e0]
        rfl
    · obtain ⟨s1, hL1⟩ := hh
      replace hL1 : H1 L = some (.lst (freeWs.map V.str)) := hL1
      refine ⟨L, rfl, ⟨_, SqL.of hL1⟩, fun D hD => ?_⟩
      refine lc_list (K := K) (a := L) (xs := freeWs.map V.str) (fun i H' => Same H1 H' ∧ H' D = some (.lst (((freeWs.take i).filter fun z => !inV (.str z) (ys.map V.str)).map V.str))) ⟨Ask.Same.upd_new (Same.refl _) hD, upd_same⟩ (fun i H' _ hh => SqL.of (hh.1 _ _ hL1)) ?_ ?_
      · rintro i v H2 hi ⟨s2, hD2⟩
        rw [List.getElem?_map] at hi
        cases hz : freeWs[i]? with
        | none => rw [hz] at hi; cases hi
        | some z =>
          rw [hz] at hi
          cases hi
          refine ⟨rfl, _, rfl, _, rfl, a, _, rfl, .inl (s2.seq (s1.seq ha)), rfl, hflat, _, rfl, ?_⟩
          have e : (freeWs.take (i + 1)).filter (fun z => !inV (.str z) (ys.map V.str)) = (freeWs.take i).filter (fun z => !inV (.str z) (ys.map V.str)) ++ if (!inV (.str z) (ys.map V.str)) = true then [z] else [] := by
            rw [List.take_add_one, hz, List.filter_append, Option.toList_some]
            congr 1
            rw [List.filter_cons]
            rfl
          refine ite2 (fun q => ?_) (fun q => ?_)
          · have q : (!inV (.str z) (ys.map V.str)) = true := q
            rw [if_pos q] at e
            refine ⟨_, rfl, _, hD2, ?_, Ask.Same.upd_new s2 hD, ?_⟩
            · have := List.length_filter_le (fun z => !inV (.str z) (ys.map V.str)) (freeWs.take i)
              rw [List.length_take] at this
              have e2 : freeWs.length = 13 := rfl
              rw [List.length_map]
              omega
            · rw [upd_same, e, List.map_append]
              rfl
          · have q : ¬ (!inV (.str z) (ys.map V.str)) = true := q
            rw [if_neg q, List.append_nil] at e
            exact ⟨s2, by rw [e]; exact hD2⟩
      · rintro H2 ⟨s2, hD2⟩
        rw [List.length_map, List.take_length] at hD2
        obtain ⟨z, hz⟩ := free_some ly
        obtain ⟨n1, n2, n3, n4⟩ := free_is hz
        exact ⟨D, _, _, _, rfl, rfl, SqL.of hD2, at_by (j := 0) rfl (by rw [List.getElem?_map, hz]; rfl), k H2 z (s1.trans s2) n1 n2 n3 n4⟩
end
end Ask

namespace Ask
open PySem L2
section
variable {P : Program} {w : World} {K : PySem.W.Frag} {mg : Str → Option Value} {base : Heap}
def nAn : List Str := ["_law_pen_here", "_law_small", "_law_signs", "_law_many", "_law_k"]
def spAnswer : Sp := fun vs H Q _ => ∃ (p c : Addr) (ns : List Int) (B : Nat), vs = [.ref p] ∧ Pen c ns H p B ∧ B ≤ 400000000 ∧
  ∀ (H' : Hp) (z : Str), Go p c ns H H' (B + 15) → ansS z = true → z.length ≠ 11 → Q (.str z) H'
abbrev s__law_answer : Stmt := top 33
theorem sc__law_answer : FnScope nAn ["_law_pen_here"] (defScope s__law_answer) := ⟨rfl, rfl, rfl, by decide +kernel, rfl, by decide +kernel, by decide +kernel⟩
theorem ok_answer {f fP : Addr} {fd fdP : FuncData} (F : Fun K "_law_answer" "_law_answer" s__law_answer f fd) (T : Blt mg)
    (GP : FnOk P w K mg base CX0 2 fP fdP ["_law_pen_here", "_law_options"] (spPick K)) (C : At K mg "_law_pick" fP fdP ["_law_pen_here", "_law_options"]) :
    FnOk P w K mg base CX0 3 f fd ["_law_pen_here"] spAnswer := by
  refine F.ok sc__law_answer (fun vs H Q E h => ?_) (fun cdv A outer s H vs Q E hr h => ?_)
  · obtain ⟨p, c, ns, B, rfl, _⟩ := h
    rfl
  · obtain ⟨p, c, ns, B, rfl, hpen, hB, kq⟩ := h
    refine ⟨_, (pss_cons (ps_asg (pe_tup (pa_cons pe_str (pa_cons pe_str pa_nil))) (pg_tup rfl (pgs_cons (pg_name (i := 1) sc__law_answer.nd rfl (Or.inl rfl)) (pgs_cons (pg_name (i := 2) sc__law_answer.nd rfl (Or.inr rfl)) pgs_nil))))
      (pss_cons (ps_set (i := 3) sc__law_answer.nd rfl (Or.inl rfl) (pe_call GP (by exact hr) (by rfl) C.m C.k C.b .nil pass0 (pa_cons (pv 0) (pa_cons (pe_lst (pa_cons pe_int (pa_cons pe_int (pa_cons pe_int (pa_cons pe_int (pa_cons pe_int (pa_cons pe_int pa_nil))))))) pa_nil))))
      (pss_one (ps_ret (pe_op op_add_str (pe_call GP (by exact hr) (by rfl) C.m C.k C.b .nil pass0 (pa_cons (pv 0) (pa_cons (pv 1) pa_nil))) (pe_join pe_str (pe_lc (own := [("_law_k", 4)]) rfl sc__law_answer.nd (pi_range1 rfl T.n_range (pa_cons (pv 3) pa_nil)) (blkOk_by (N := nAn) (sc := defScope s__law_answer) (by decide +kernel)) (fun _ _ _ _ _ => (pg_name (i := 4) sc__law_answer.nd rfl (Or.inl rfl))) (fun _ _ _ _ _ => pts_nil) (fun _ _ _ _ _ => (pe_call GP (by exact hr) (by rfl) C.m C.k C.b .nil pass0 (pa_cons (pv 0) (pa_cons (pv 2) pa_nil))))))))))), ?_⟩
    have z1 : (1000 : Nat) ≤ sizeLine := by decide
    have g0 := Go.refl hpen
    refine ⟨by show 2 ≤ sizeLine; decide, fun t1 ht1 => ⟨t1, _, rfl, SqT.of upd_same, rfl, _, _, rfl, _, _, rfl, rfl, ?_⟩⟩
    have g1 := g0.new (o := .tup [.str small, .str signs]) ht1
    change Go p c ns H (upd H t1 (.tup [.str "abcdefghijklmnopqrstuvwxyz", .str "abcdefghijklmnopqrstuvwxyz0123456789"])) B at g1
    generalize upd H t1 _ = H1 at g1 ⊢
    -- how many more
    refine ⟨_, rfl, by show 6 ≤ sizeLine; decide, fun o ho => ⟨p, c, ns, _, _, rfl, (g1.new ho).pen, by omega, .inl ⟨o, _, rfl, SqL.of upd_same, by show 0 < 6; decide, by show 6 ≤ 1000; decide, fun H3 v g3 hv => ?_⟩⟩⟩
    replace g3 := (g1.new ho).step g3
    obtain ⟨st, rfl, st1, st2⟩ : ∃ s : Nat, v = .int (s : Int) ∧ s ≤ 11 ∧ s ≠ 10 := by
      simp only [List.mem_cons, List.not_mem_nil, or_false] at hv
      rcases hv with rfl | rfl | rfl | rfl | rfl | rfl
      · exact ⟨0, rfl, by decide, by decide⟩
      · exact ⟨0, rfl, by decide, by decide⟩
      · exact ⟨0, rfl, by decide, by decide⟩
      · exact ⟨1, rfl, by decide, by decide⟩
      · exact ⟨2, rfl, by decide, by decide⟩
      · exact ⟨11, rfl, by decide, by decide⟩
    clear hv g1 ho
    -- head
    refine ⟨_, rfl, _, rfl, p, c, ns, _, _, rfl, g3.pen, by omega, .inr ⟨small, rfl, by rw [small_len]; decide, by rw [small_len]; decide, fun H4 hc g4 hhc => ?_⟩⟩
    replace g4 := (g3.step g4).mono (B := B + 3) (by omega)
    clear g3
    -- the rest
    refine ⟨⟨_, rfl⟩, _, rfl, _, rfl, by omega, by omega, fun L hL => ?_⟩
    have hL0 := g4.free hL
    refine lc_range (lo := 0) (n := st) (SgL signsL p c ns H L (B + 3)) ⟨[], g4.new hL, upd_same, rfl, by simp⟩ (fun i H6 hi hs => ?_) (fun H6 hs => ?_)
    · obtain ⟨cs, g6, _⟩ := id hs
      refine ⟨rfl, ?_⟩
      exact ⟨_, rfl, _, rfl, p, c, ns, _, B + 3 + i, rfl, g6.pen, by omega, .inr ⟨signs, rfl, by rw [signs_len]; decide, by rw [signs_len]; decide, fun H7 j g7 hj => hs.next hL0 g7 (by omega) hj⟩⟩
    obtain ⟨cs, g6, hL6, hl6, h16⟩ := hs
    have one1 : ∀ (cs : List Nat) (y : Str), y ∈ (cs.map fun c => (⟨#[c]⟩ : Str)) → y.length = 1 := fun cs y hy => by
      obtain ⟨c', _, rfl⟩ := List.mem_map.mp hy
      rfl
    refine ⟨_, L, cs.map fun c => (⟨#[c]⟩ : Str), rfl, rfl, .inl (SqL.of hL6), (by rw [len_sum1 _ (one1 cs), List.length_map]; show cs.length + cs.length * 0 ≤ _; omega), ?_⟩
    have hst2 := joinT_ones cs
    generalize Txt.join (Str.ofString "") (cs.map fun c => (⟨#[c]⟩ : Str)) = stem at hst2 ⊢
    have hstem : stem.length ≤ 11 := by rw [← tl_len, hst2, hl6]; omega
    have el : ((⟨#[hc]⟩ : Str) ++ stem).cps.toList = hc :: cs := by
      show (#[hc] ++ stem.cps).toList = _
      rw [Array.toList_append, hst2]
      rfl
    have sg : hc ∈ signsL := by
      have : ∀ d ∈ smallL, d ∈ signsL := by decide +kernel
      exact this hc hhc
    refine ⟨_, _, rfl, rfl, by rw [show (⟨#[hc]⟩ : Str).length = 1 from rfl]; omega, kq H6 _ (g6.mono (by omega)) ?_ (by rw [← tl_len, el, List.length_cons, hl6]; omega)⟩
    unfold ansS
    rw [el]
    unfold shortL
    have all : (hc :: cs).all (fun c => decide (c ∈ signsL)) = true := by
      rw [List.all_eq_true]
      intro d hd
      refine decide_eq_true ?_
      rcases List.mem_cons.mp hd with rfl | hd
      · exact sg
      · exact h16 d hd
    rw [all, decide_eq_true (show 1 ≤ (hc :: cs).length ∧ (hc :: cs).length ≤ 12 by rw [List.length_cons, hl6]; omega)]
    simp only [List.head?_cons, Bool.true_and, Bool.and_true]
    exact decide_eq_true hhc
end
end Ask

namespace Ask
open PySem L2
def sgn (c : Nat) : Str := ⟨#[c]⟩
/-- the signs that no word has -/
def offS (cs : List Nat) : List Nat := cs.filter fun c => !decide (c ∈ signsL)
theorem off_len (cs : List Nat) : (offS cs).length ≤ cs.length := List.length_filter_le _ _
theorem off_more {cs : List Nat} {i c : Nat} (h : cs[i]? = some c) : offS (cs.take (i + 1)) = offS (cs.take i) ++ (if (!decide (c ∈ signsL)) = true then [c] else []) := by
  unfold offS
  rw [List.take_add_one, h, List.filter_append, Option.toList_some, List.filter_cons, List.filter_nil]
theorem eqv_none (zs : List Str) : PyData.eqv (.list (zs.map PyData.str)) (.list []) = decide (zs = []) := by
  cases zs with
  | nil => simp [PyData.eqv, PyData.eqvAll]
  | cons z zs => simp [PyData.eqv, PyData.eqvAll]
theorem off_nil (cs : List Nat) : decide ((offS cs).map sgn = []) = cs.all fun c => decide (c ∈ signsL) := by
  unfold offS
  induction cs with
  | nil => rfl
  | cons c cs ih =>
    rw [List.all_cons, List.filter_cons]
    by_cases h : c ∈ signsL
    · rw [decide_eq_true h, if_neg (by decide), Bool.true_and]
      exact ih
    · rw [decide_eq_false h, if_pos (by decide), Bool.false_and]
      exact decide_eq_false (by simp)
section
variable {P : Program} {w : World} {K : PySem.W.Frag} {mg : Str → Option Value} {base : Heap}
abbrev s__law_is_answer : Stmt := top 34
def nIa : List Str := ["_law_value", "_law_small", "_law_signs", "_law_sign"]
theorem sc__law_is_answer : FnScope nIa ["_law_value"] (defScope s__law_is_answer) := ⟨rfl, rfl, rfl, by decide +kernel, rfl, by decide +kernel, by decide +kernel⟩
theorem ok_lawIsAns {f : Addr} {fd : FuncData} (F : Fun K "_law_is_answer" "_law_is_answer" s__law_is_answer f fd) (T : Blt mg) : FnOk P w K mg base CX0 1 f fd ["_law_value"] spShortV := by
  refine F.ok sc__law_is_answer (fun vs H Q E h => ?_) (fun cdv A outer s H vs Q E hr h => ?_)
  · obtain ⟨p, v, rfl, _⟩ := h
    rfl
  · obtain ⟨p, v, rfl, ⟨hv, hz⟩, k⟩ := h
    refine ⟨_, (pss_cons (ps_if (PW.pt (pw_or (pt_not (pt_val (pe_callB call_isi (by rfl) T.n_isinstance (by decide +kernel) (pa_cons (pv 0) (pa_cons (pe_bltn (v := .ty "str") (u := .type "str") rfl T.n_str (by decide +kernel) rfl) pa_nil))))) (pw_or1 (pt_not (pt_chain op_le op_le pe_int (pe_callB call_len_str (by rfl) T.n_len (by decide +kernel) (pa_cons (pv 0) pa_nil)) pe_int))))) (pss_one (ps_ret pe_bl)) pss_nil)
      (pss_cons (ps_asg (pe_tup (pa_cons pe_str (pa_cons pe_str pa_nil))) (pg_tup rfl (pgs_cons (pg_name (i := 1) sc__law_is_answer.nd rfl (Or.inl rfl)) (pgs_cons (pg_name (i := 2) sc__law_is_answer.nd rfl (Or.inr rfl)) pgs_nil))))
      (pss_one (ps_ret (pe_and (pe_cmpR op_in_sign (pe_ix ix_str (pv 0) pe_int (fun _ _ => rfl)) (pv 1) rfl) (pe_one (pe_cmpR (op_eqD hr.units) (pe_lc (own := [("_law_sign", 3)]) rfl sc__law_is_answer.nd (pi_str (pv 0)) (blkOk_by (N := nIa) (sc := defScope s__law_is_answer) (by decide +kernel)) (fun _ _ _ _ _ => (pg_name (i := 3) sc__law_is_answer.nd rfl (Or.inl rfl))) (fun _ _ _ _ _ => pts_one (pt_cmpR op_notIn_sign (pv 3) (pv 2) rfl)) (fun _ _ _ _ _ => (pv 3))) (pe_lst pa_nil) (nomark _)))))))), ?_⟩
    obtain ⟨ty, b, hty, hk, b1, b2⟩ := hv.isi (K := K)
    cases b with
    | false =>
      refine ⟨_, rfl, _, _, _, _, false, rfl, .ty _, hty, hk, _, rfl, iteT ?_⟩
      have e : ansB v = false := by
        cases v with
        | str z => have := b2 rfl [z]; have q : decide (z ∈ [z]) = false := this; simp at q
        | _ => rfl
      have := k H (Same.refl H)
      rw [e] at this
      exact this
    | true =>
    obtain ⟨z, rfl⟩ := b1 rfl
    obtain ⟨hz, ha⟩ := hz z rfl
    replace k : ∀ H', Same H H' → Q (.bl (shortL z.cps.toList)) H' := k
    have z1 : (1000 : Nat) ≤ sizeLine := by decide
    have hl := tl_len z
    refine ⟨_, rfl, _, _, _, _, true, rfl, .ty _, .base (.str _), kit_ty (by decide +kernel), _, rfl, ?_⟩
    refine iteF ⟨_, rfl, z, rfl, by omega, _, _, rfl, rfl, _, rfl, ite2 (fun h1 => ?_) (fun h1 => ?_)⟩
    · have h1 : (1 : Int) ≤ (z.length : Nat) := of_decide_eq_true h1
      refine ⟨_, _, rfl, rfl, _, rfl, ite2 (fun h2 => ?_) (fun h2 => ?_)⟩
      · have h2 : ¬ ((z.length : Nat) : Int) ≤ 12 := fun q => by
          rw [decide_eq_true q] at h2
          cases h2
        have e : shortL z.cps.toList = false := by
          unfold shortL
          rw [decide_eq_false (by omega)]
          rfl
        have := k H (Same.refl H)
        rw [e] at this
        exact this
      · have h2 : ((z.length : Nat) : Int) ≤ 12 := Decidable.byContradiction fun q => h2 (by rw [decide_eq_false q]; rfl)
        obtain ⟨c, r, ec⟩ : ∃ c r, z.cps.toList = c :: r := by
          cases e : z.cps.toList with
          | nil =>
            rw [e] at hl
            have : (0 : Nat) = z.length := hl
            omega
          | cons c r => exact ⟨c, r, rfl⟩
        refine ⟨by show 2 ≤ sizeLine; decide, fun t1 ht1 => ⟨t1, _, rfl, SqT.of upd_same, rfl, _, _, rfl, _, _, rfl, rfl, ?_⟩⟩
        have s1 := Ask.Same.made1 (o := .tup [.str small, .str signs]) (Same.refl H) ht1
        change Same H (upd H t1 (.tup [.str "abcdefghijklmnopqrstuvwxyz", .str "abcdefghijklmnopqrstuvwxyz0123456789"])) at s1
        generalize upd H t1 _ = H1 at s1 ⊢
        refine ⟨_, rfl, z, 0, c, rfl, rfl, by omega, by rw [ec]; exact at_by (j := 0) rfl rfl, _, rfl, c, small, rfl, rfl, _, rfl, ite2 (fun h3 => ?_) (fun h3 => ?_)⟩
        · refine ⟨_, rfl, z, rfl, fun L hL => ?_⟩
          refine lc_it walk_str (fun i H' => Same H1 H' ∧ H' L = some (.lst (((offS (z.cps.toList.take i)).map sgn).map V.str))) ⟨Ask.Same.upd_new (Same.refl _) hL, upd_same⟩ (fun _ _ _ _ => trivial) (fun i x H2 H3 hi h4 y => ?_) (fun H2 h4 => ?_)
          · obtain ⟨rfl, c', hc', rfl⟩ := y
            obtain ⟨sm, hLL⟩ := h4
            have hc2 : z.cps.toList[i]? = some c' := by rw [Array.getElem?_toList]; exact hc'
            have len := off_len (z.cps.toList.take i)
            rw [List.length_take] at len
            refine ⟨rfl, _, rfl, _, rfl, c', signs, rfl, rfl, _, rfl, ite2 (fun q => ?_) (fun q => ?_)⟩
            · replace q : (!decide (c' ∈ signsL)) = true := q
              refine ⟨_, rfl, _, hLL, by rw [List.length_map, List.length_map]; omega, Ask.Same.upd_new sm hL, ?_⟩
              rw [upd_same, off_more hc2, if_pos q, List.map_append, List.map_append]
              rfl
            · replace q : ¬ (!decide (c' ∈ signsL)) = true := q
              refine ⟨sm, ?_⟩
              rw [off_more hc2, if_neg q, List.append_nil]
              exact hLL
          · obtain ⟨sm, hLL⟩ := h4
            have e0 : z.cps.toList.take z.cps.size = z.cps.toList := List.take_of_length_le (by simp)
            rw [e0] at hLL
            have fit : ∀ y ∈ (offS z.cps.toList).map sgn, y.length ≤ 500 ∧ Asc y := fun y hy => by
              obtain ⟨d, hd, rfl⟩ := List.mem_map.mp hy
              refine ⟨by show 1 ≤ 500; decide, fun e he => ?_⟩
              have he : e ∈ [d] := he
              rw [List.mem_singleton.mp he]
              exact ha d (List.mem_filter.mp hd).1
            refine ⟨Nat.zero_le _, fun M hM => ?_⟩
            have s2 := Ask.Same.made1 (o := .lst []) (Same.refl H2) hM
            refine ⟨.list (((offS z.cps.toList).map sgn).map PyData.str), .list [], .lst (SqL.of (s2 _ _ hLL)) (dp_strs _), .lst (SqL.of upd_same) .nil, (fit_strs fit).shapedL, by decide, ?_⟩
            rw [eqv_none, off_nil]
            have e : shortL z.cps.toList = z.cps.toList.all fun c => decide (c ∈ signsL) := by
              unfold shortL
              rw [decide_eq_true (by omega), ec]
              simp only [List.head?_cons, Bool.true_and]
              rw [show decide (c ∈ smallL) = true from h3, Bool.true_and]
            have := k _ ((s1.trans sm).trans s2)
            rw [e] at this
            exact this
        · have e : shortL z.cps.toList = false := by
            unfold shortL
            rw [ec]
            simp only [List.head?_cons]
            rw [show decide (c ∈ smallL) = false from (Bool.not_eq_true _).mp h3, Bool.and_false, Bool.false_and]
          have := k H1 s1
          rw [e] at this
          exact this
    · have h1 : ¬ (1 : Int) ≤ (z.length : Nat) := fun q => h1 (decide_eq_true q)
      have e : shortL z.cps.toList = false := by
        unfold shortL
        rw [decide_eq_false (by omega)]
        rfl
      refine ⟨_, rfl, ite2 (fun _ => ?_) (fun q => absurd rfl q)⟩
      have := k H (Same.refl H)
      rw [e] at this
      exact this
end
end Ask

namespace Ask
open PySem L2
open PyProof.Rows (sortedS risingS)
/-! ### texts, ascending -/
def Lt (x y : Str) : Prop := x.cps.toList < y.cps.toList
instance (x y : Str) : Decidable (Lt x y) := inferInstanceAs (Decidable (x.cps.toList < y.cps.toList))
theorem Lt.irr {x : Str} : ¬ Lt x x := List.lt_irrefl _
theorem Lt.tr {x y z : Str} (a : Lt x y) (b : Lt y z) : Lt x z := List.lt_trans a b
theorem Lt.as {x y : Str} (a : Lt x y) (b : Lt y x) : False := Lt.irr (a.tr b)
theorem str_same {x y : Str} (h : x.cps.toList = y.cps.toList) : x = y := by
  cases x
  cases y
  exact congrArg Str.mk (Array.toList_inj.mp h)
theorem lt_or {x y : Str} (n : x ≠ y) (h : ¬ Lt x y) : Lt y x := by
  refine Decidable.byContradiction fun g => n (str_same ?_)
  exact List.le_antisymm (List.not_lt.mp g) (List.not_lt.mp h)
theorem not_tr {x y z : Str} (a : ¬ Lt y x) (b : ¬ Lt z y) : ¬ Lt z x := fun h => by
  by_cases e : x = y
  · rw [e] at h; exact b h
  · exact b (h.tr (lt_or (fun q => e q.symm) a))
def Up (ks : List Str) : Prop := ks.Pairwise Lt
theorem rise_all : ∀ {r : List Str} {p : Str}, risingS p r = true → (∀ y ∈ r, ¬ Lt y p) ∧ sortedS r = true
  | [], p, _ => ⟨fun y h => (by cases h), rfl⟩
  | x :: r, p, h => by
    have h : (!PySem.Spec.ltCps x.cps.toList p.cps.toList && risingS x r) = true := h
    rw [Bool.and_eq_true] at h
    have n : ¬ Lt x p := fun q => by
      have := h.1
      rw [PyProof.Rows.ltCps_eq, decide_eq_true (show x.cps.toList < p.cps.toList from q)] at this
      cases this
    refine ⟨fun y hy => ?_, h.2⟩
    rcases List.mem_cons.mp hy with rfl | hy
    · exact n
    · exact not_tr n ((rise_all h.2).1 y hy)
theorem up_of : ∀ {ks : List Str}, sortedS ks = true → ks.Nodup → Up ks
  | [], _, _ => List.Pairwise.nil
  | k :: ks, h, nd => by
    obtain ⟨new, nd⟩ := List.nodup_cons.mp nd
    obtain ⟨a, b⟩ := rise_all (p := k) (r := ks) h
    exact List.Pairwise.cons (fun y hy => lt_or (fun e => new (e ▸ hy)) (a y hy)) (up_of b nd)
theorem Up.nd {ks : List Str} (h : Up ks) : ks.Nodup := List.Pairwise.imp (fun {x y} (l : Lt x y) (e : x = y) => Lt.irr (x := y) (by rw [e] at l; exact l)) h
theorem Up.so {ks : List Str} (h : Up ks) : sortedS ks = true := PyProof.Rows.sortedS_of_pairwise ks (List.Pairwise.imp (fun {x y} (l : Lt x y) => by
  rw [PyProof.Rows.ltCps_eq]
  exact decide_eq_false fun q => l.as q) h)
theorem up_eq : ∀ {ks js : List Str}, Up ks → Up js → (∀ z, z ∈ ks ↔ z ∈ js) → ks = js
  | [], [], _, _, _ => rfl
  | [], j :: js, _, _, h => by have := (h j).mpr List.mem_cons_self; cases this
  | k :: ks, [], _, _, h => by have := (h k).mp List.mem_cons_self; cases this
  | k :: ks, j :: js, u, v, h => by
    obtain ⟨u1, u2⟩ := List.pairwise_cons.mp u
    obtain ⟨v1, v2⟩ := List.pairwise_cons.mp v
    have e : k = j := by
      rcases List.mem_cons.mp ((h k).mp List.mem_cons_self) with e | m
      · exact e
      · rcases List.mem_cons.mp ((h j).mpr List.mem_cons_self) with e | n
        · exact e.symm
        · exact ((v1 k m).as (u1 j n)).elim
    subst e
    refine congrArg (k :: ·) (up_eq u2 v2 fun z => ⟨fun m => ?_, fun m => ?_⟩)
    · rcases List.mem_cons.mp ((h z).mp (List.mem_cons_of_mem _ m)) with e | q
      · exact (Lt.irr (e ▸ u1 z m)).elim
      · exact q
    · rcases List.mem_cons.mp ((h z).mpr (List.mem_cons_of_mem _ m)) with e | q
      · exact (Lt.irr (e ▸ v1 z m)).elim
      · exact q
theorem setOf_one {ys ks js : List Str} (a : SetOfS ys ks) (b : SetOfS ys js) : ks = js := up_eq (up_of a.2.1 a.1) (up_of b.2.1 b.1) fun z => (a.2.2 z).trans (b.2.2 z).symm
def less (ks : List Str) (z : Str) : List Str := ks.filter fun x => decide (Lt x z)
theorem put_up {z : Str} : ∀ {ks : List Str}, Up ks → z ∉ ks → Up (less ks z ++ [z] ++ ks.drop (less ks z).length) ∧ ∀ x, x ∈ less ks z ++ [z] ++ ks.drop (less ks z).length ↔ x ∈ ks ∨ x = z
  | [], _, _ => ⟨List.pairwise_singleton _ _, fun x => by simp [less]⟩
  | k :: ks, u, n => by
    obtain ⟨u1, u2⟩ := List.pairwise_cons.mp u
    have n2 : z ∉ ks := fun h => n (List.mem_cons_of_mem _ h)
    have nk : k ≠ z := fun e => n (e ▸ List.mem_cons_self)
    by_cases c : Lt k z
    · have e : less (k :: ks) z = k :: less ks z := by
        unfold less
        rw [List.filter_cons, if_pos (decide_eq_true c)]
      obtain ⟨w1, w2⟩ := put_up u2 n2
      rw [e]
      refine ⟨List.Pairwise.cons (fun y hy => ?_) w1, fun x => ?_⟩
      · rcases (w2 y).mp hy with h | rfl
        · exact u1 y h
        · exact c
      · show x ∈ k :: (less ks z ++ [z] ++ ks.drop (less ks z).length) ↔ _
        rw [List.mem_cons, w2 x, List.mem_cons, or_assoc]
    · have g := lt_or nk c
      have e : less (k :: ks) z = [] := by
        unfold less
        rw [List.filter_eq_nil_iff]
        intro y hy q
        have q := of_decide_eq_true q
        rcases List.mem_cons.mp hy with rfl | hy
        · exact q.as g
        · exact q.as (g.tr (u1 y hy))
      rw [e]
      refine ⟨List.Pairwise.cons (fun y hy => ?_) u, fun x => ?_⟩
      · have hy : y ∈ k :: ks := hy
        rcases List.mem_cons.mp hy with rfl | hy
        · exact g
        · exact g.tr (u1 y hy)
      · show x ∈ z :: (k :: ks) ↔ _
        rw [List.mem_cons]
        exact Or.comm
end Ask

namespace Ask
open PySem L2
open PyProof.Rows (sortedS)
theorem any_str (ks : List Str) (y : Str) : ((ks.map PyData.str).any fun z => PyData.eqv z (.str y)) = decide (y ∈ ks) := by
  induction ks with
  | nil => rfl
  | cons k ks ih =>
    rw [List.map_cons, List.any_cons, ih, eqv_str1]
    by_cases h : k = y
    · rw [decide_eq_true h, Bool.true_or, decide_eq_true (by rw [h]; exact List.mem_cons_self)]
    · rw [decide_eq_false h, Bool.false_or]
      by_cases g : y ∈ ks
      · rw [decide_eq_true g, decide_eq_true (List.mem_cons_of_mem _ g)]
      · rw [decide_eq_false g, decide_eq_false (fun q => (List.mem_cons.mp q).elim (fun e => h e.symm) g)]
theorem cutV_from (xs : List V) (k : Nat) (h : k ≤ xs.length) : cutV xs (some (k : Int)) none = xs.drop k := by
  unfold cutV
  rw [HT.sIx_none, HT.sIx_nat, Nat.min_eq_left h]
  exact List.take_of_length_le (by rw [List.length_drop]; omega)
theorem less_more {ks : List Str} {j : Nat} {k y : Str} (h : ks[j]? = some k) : less (ks.take (j + 1)) y = less (ks.take j) y ++ (if decide (Lt k y) = true then [k] else []) := by
  unfold less
  rw [List.take_add_one, h, List.filter_append, Option.toList_some, List.filter_cons, List.filter_nil]
theorem less_len (ks : List Str) (y : Str) : (less ks y).length ≤ ks.length := List.length_filter_le _ _
theorem take_mem {ys : List Str} {i : Nat} {y x : Str} (h : ys[i]? = some y) : x ∈ ys.take (i + 1) ↔ x ∈ ys.take i ∨ x = y := by
  rw [List.take_add_one, h, List.mem_append, Option.toList_some, List.mem_singleton]
theorem setOf_put {ys ks : List Str} {i : Nat} {y : Str} (h : SetOfS (ys.take i) ks) (e : ys[i]? = some y) (n : y ∉ ks) : SetOfS (ys.take (i + 1)) (less ks y ++ [y] ++ ks.drop (less ks y).length) := by
  obtain ⟨u, m⟩ := put_up (up_of h.2.1 h.1) n
  exact ⟨u.nd, u.so, fun x => (m x).trans (by rw [take_mem e, h.2.2 x])⟩
theorem setOf_keep {ys ks : List Str} {i : Nat} {y : Str} (h : SetOfS (ys.take i) ks) (e : ys[i]? = some y) (n : y ∈ ks) : SetOfS (ys.take (i + 1)) ks := by
  refine ⟨h.1, h.2.1, fun x => ?_⟩
  rw [take_mem e, h.2.2 x]
  exact ⟨.inl, fun q => q.elim id fun q => by rw [q]; exact (h.2.2 y).mp n⟩
theorem setOf_nil : SetOfS [] [] := ⟨List.nodup_nil, rfl, fun z => Iff.rfl⟩
section
variable {P : Program} {w : World} {K : PySem.W.Frag} {mg : Str → Option Value} {base : Heap}
def spSet (K : PySem.W.Frag) : Sp := fun vs H Q _ => ∃ (a : Addr) (ys : List Str), vs = [.ref a] ∧ SqL K H a (ys.map V.str) ∧ ys.length ≤ 60 ∧ FitL ys ∧ ∀ (H' : Hp) (t : Addr) (ks : List Str), Same H H' → H' t = some (.tup (ks.map V.str)) → SetOfS ys ks → Q (.ref t) H'
abbrev s__law_set : Stmt := top 35
def nSet : List Str := ["_law_answers", "_law_found", "_law_answer_here", "_law_less", "_law_one"]
theorem sc__law_set : FnScope nSet ["_law_answers"] (defScope s__law_set) := ⟨rfl, rfl, rfl, by decide +kernel, rfl, by decide +kernel, by decide +kernel⟩
theorem ok_lawSet {f : Addr} {fd : FuncData} (F : Fun K "_law_set" "_law_set" s__law_set f fd) (T : Blt mg) : FnOk P w K mg base CX0 2 f fd ["_law_answers"] (spSet K) := by
  refine F.ok sc__law_set (fun vs H Q E h => ?_) (fun cdv A outer s H vs Q E hr h => ?_)
  · obtain ⟨a, ys, rfl, _⟩ := h
    rfl
  · obtain ⟨a, ys, rfl, hS, hn, fit, kq⟩ := h
    have hu65 : A.units + 3 + 65 < cLine := by have := hr.un; have e : (A.deeper (PyProof.Rows.envOfC (Str.ofString "_law_set") (defScope s__law_set) s.heap.objs.size f cdv)).units = A.units + 3 := rfl; omega
    refine ⟨_, (pss_cons (ps_set (i := 1) sc__law_set.nd rfl (Or.inl rfl) (pe_lst pa_nil))
      (pss_cons (ps_for PassesOwn.never rfl (pi_list (pv 0)) (pg_name (i := 2) sc__law_set.nd rfl (Or.inr rfl)) (pss_one (ps_if (pt_cmpR (op_notInD hu65) (pv 2) (pv 1) rfl) (pss_cons (ps_setLc (i := 3) (own := [("_law_one", 4)]) rfl sc__law_set.nd rfl rfl (sw_true rfl rfl rfl (by decide +kernel)) (pi_list (pv 1)) (blkOk_by (N := nSet) (sc := defScope s__law_set) (by decide +kernel)) (fun _ _ _ _ _ => (pg_name (i := 4) sc__law_set.nd rfl (Or.inl rfl))) (fun _ _ _ _ _ => pts_one (pt_cmpR (show OpR _ _ (fun x y H Q => ∃ i j, x = .str i ∧ y = .str j ∧ Q (.bl (decide (i.cps.toList < j.cps.toList))) H) from op_lt_str) (pv 4) (pv 2) (nomark _))) (fun _ _ _ _ _ => (pv 4)))
      (pss_one (ps_set (i := 1) sc__law_set.nd rfl (Or.inl rfl) (pe_op op_cat (pe_op op_cat (pv 3) (pe_lst (pa_cons (pv 2) pa_nil))) (pe_slice sl_list (pv 1) (po_some (pe_callB call_len_seq (by rfl) T.n_len (by decide +kernel) (pa_cons (pv 3) pa_nil))) po_none))))) pss_nil)))
      (pss_one (ps_ret (pe_callTy call_tuple_of (by rfl) T.n_tuple (by decide +kernel) (pa_cons (pv 1) pa_nil)))))), ?_⟩
    have z1 : (1000 : Nat) ≤ sizeLine := by decide
    refine ⟨Nat.zero_le _, fun L hL => ?_⟩
    have s1 := Ask.Same.made1 (o := .lst []) (Same.refl H) hL
    have e1 : upd H L (.lst []) L = some (.lst []) := upd_same
    generalize upd H L (.lst []) = H1 at s1 e1 ⊢
    refine ⟨_, rfl, a, rfl, ⟨_, s1.seq hS⟩, ?_⟩
    refine for_it (walk_list (xs := ys.map V.str)) (fun i σ' H' => ∃ (D : Addr) (ks : List Str) (o2 o3 : Option V), σ' = [some (.ref a), some (.ref D), o2, o3, none] ∧ Same H H' ∧ H' D = some (.lst (ks.map V.str)) ∧ SetOfS (ys.take i) ks ∧ ks.length ≤ i) ⟨L, [], none, none, rfl, s1, e1, setOf_nil, Nat.le_refl _⟩ (fun i σ' H' _ ⟨_, _, _, _, _, e, _⟩ => e.seq hS) ?_ ?_
    · rintro i v σ' H0 H2 hi ⟨D, ks, o2, o3, rfl, s2, eD, st, len⟩ ⟨rfl, hv⟩
      rw [List.getElem?_map] at hv
      rw [List.length_map] at hi
      obtain ⟨y, hy⟩ : ∃ y, ys[i]? = some y := ⟨_, List.getElem?_eq_getElem hi⟩
      rw [hy] at hv
      cases hv
      have fy := fit y (List.mem_of_getElem? hy)
      have fk : FitL ks := fun k hk => fit k (List.mem_of_mem_take ((st.2.2 k).mp hk))
      refine ⟨_, rfl, _, rfl, .str y, ks.map PyData.str, .str _, .lst (SqL.of eD) (dp_strs ks), ?_, (fit_strs fk).shapedL, _, rfl, ?_⟩
      · exact shaped_of (d := .str y) (asc_ok fy.2) (show 0 ≤ 64 by decide)
      rw [any_str]
      refine ite2 (fun q => ?_) (fun q => ?_)
      · have new : y ∉ ks := fun h => by
          rw [decide_eq_true h] at q
          cases q
        refine ⟨_, rfl, D, rfl, ⟨_, SqL.of eD⟩, fun M hM => ?_⟩
        refine lc_it (walk_list (xs := ks.map V.str)) (fun j H' => Same H2 H' ∧ H' M = some (.lst ((less (ks.take j) y).map V.str))) ⟨Ask.Same.upd_new (Same.refl _) hM, upd_same⟩ (fun i H' _ hh => hh.1.seq (SqL.of eD)) ?_ ?_
        · rintro j v H4 H5 hj ⟨s4, eM⟩ ⟨rfl, hv⟩
          rw [List.getElem?_map] at hv
          rw [List.length_map] at hj
          obtain ⟨k, hk⟩ : ∃ k, ks[j]? = some k := ⟨_, List.getElem?_eq_getElem hj⟩
          rw [hk] at hv
          cases hv
          have ll := less_len (ks.take j) y
          rw [List.length_take] at ll
          refine ⟨rfl, _, rfl, _, rfl, k, y, rfl, rfl, _, rfl, ite2 (fun c => ?_) (fun c => ?_)⟩
          · replace c : decide (Lt k y) = true := c
            refine ⟨_, rfl, _, eM, by rw [List.length_map]; omega, Ask.Same.upd_new s4 hM, ?_⟩
            rw [upd_same, less_more hk, if_pos c, List.map_append]
            rfl
          · replace c : ¬ decide (Lt k y) = true := c
            refine ⟨s4, ?_⟩
            rw [less_more hk, if_neg c, List.append_nil]
            exact eM
        rintro H4 ⟨s4, eM⟩
        rw [List.length_map, List.take_length] at eM
        have ll := less_len ks y
        refine ⟨_, rfl, _, rfl, by show 1 ≤ sizeLine; omega, fun l hl => ?_⟩
        have s5 := Ask.Same.made1 (o := .lst [.str y]) (Same.refl H4) hl
        have e5 : upd H4 l (.lst [.str y]) l = some (.lst [.str y]) := upd_same
        generalize upd H4 l (.lst [.str y]) = H5 at s5 e5 ⊢
        refine ⟨M, l, _, _, rfl, rfl, s5 _ _ eM, e5, by rw [List.length_map]; show _ + 1 ≤ sizeLine; omega, fun c1 hc1 => ?_⟩
        have s6 := Ask.Same.made1 (o := .lst ((less ks y).map V.str ++ [.str y])) (Same.refl H5) hc1
        have e6 : upd H5 c1 (.lst ((less ks y).map V.str ++ [.str y])) c1 = some (.lst ((less ks y).map V.str ++ [.str y])) := upd_same
        generalize upd H5 c1 (.lst ((less ks y).map V.str ++ [.str y])) = H6 at s6 e6 ⊢
        have s56 := s5.trans s6
        refine ⟨_, rfl, _, rfl, M, _, rfl, .inl (SqL.of (s56 _ _ eM)), _, rfl, D, _, rfl, SqL.of (s56 _ _ (s4 _ _ eD)), fun l2 hl2 => ?_⟩
        rw [List.length_map, cutV_from _ _ (by rw [List.length_map]; exact ll), ← List.map_drop]
        have s7 := Ask.Same.made1 (o := .lst ((ks.drop (less ks y).length).map V.str)) (Same.refl H6) hl2
        have e7 : upd H6 l2 (.lst ((ks.drop (less ks y).length).map V.str)) l2 = some (.lst ((ks.drop (less ks y).length).map V.str)) := upd_same
        generalize upd H6 l2 (.lst ((ks.drop (less ks y).length).map V.str)) = H7 at s7 e7 ⊢
        refine ⟨c1, l2, _, _, rfl, rfl, s7 _ _ e6, e7, ?_, fun c2 hc2 => ?_⟩
        · rw [List.length_append, List.length_map, List.length_map, List.length_drop]
          show _ + 1 + _ ≤ sizeLine
          omega
        refine ⟨c2, less ks y ++ [y] ++ ks.drop (less ks y).length, _, _, rfl, Ask.Same.made1 ((s2.trans s4).trans (s56.trans s7)) hc2, ?_, setOf_put st hy new, ?_⟩
        · rw [upd_same, List.map_append, List.map_append]
          rfl
        · rw [List.length_append, List.length_append, List.length_drop]
          show _ + 1 + _ ≤ i + 1
          omega
      · have old : y ∈ ks := Decidable.byContradiction fun h => q (by rw [decide_eq_false h]; rfl)
        exact ⟨D, ks, _, _, rfl, s2, eD, setOf_keep st hy old, by omega⟩
    · rintro σ' H2 ⟨D, ks, o2, o3, rfl, s2, eD, st, len⟩
      rw [List.length_map, List.take_length] at st
      refine ⟨_, rfl, D, _, rfl, .inl ⟨SqL.of eD, fun t ht => ?_⟩⟩
      exact kq _ t ks (Ask.Same.made1 s2 ht) upd_same st
end
end Ask

namespace Ask
open PySem L2
/-! ### the answers as data -/
theorem ItV.vl {N : Addr → Prop} {H : Hp} {v : V} {d : PyData} {p : Addr} (h : ItV N H v d) (n : ∀ b, N b → b ≠ p) : Vl p H v := by
  rcases h with ⟨rfl, _⟩ | ⟨rfl, _⟩ | ⟨rfl, _⟩ | ⟨z, hz, ⟨rfl, _⟩ | ⟨a, rfl, na, ⟨e, _⟩ | ⟨e, _⟩⟩⟩
  · exact ⟨.inl rfl, fun z e => by cases e⟩
  · exact ⟨.inl rfl, fun z e => by cases e⟩
  · exact ⟨.inl rfl, fun z e => by cases e⟩
  · exact ⟨.inl rfl, fun y e => by cases e; exact hz⟩
  · exact ⟨.inr ⟨a, rfl, n a na, .inr (.inl ⟨_, e⟩)⟩, fun z e => by cases e⟩
  · exact ⟨.inr ⟨a, rfl, n a na, .inr (.inr ⟨_, e⟩)⟩, fun z e => by cases e⟩
theorem ItL.vl {N : Addr → Prop} {H : Hp} {xs : List V} {ds : List PyData} {p : Addr} (h : ItL N H xs ds) (n : ∀ b, N b → b ≠ p) : ∀ v ∈ xs, Vl p H v := fun v hv => by
  obtain ⟨k, hk⟩ := List.getElem?_of_mem hv
  obtain ⟨u, d, e1, _, q⟩ := h.get k (List.getElem?_eq_some_iff.mp hk).1
  rw [hk] at e1
  cases e1
  exact q.vl n
/-- the indexes of what is no answer -/
def wrongK (xs : List V) (k : Nat) : Bool := match xs[k]? with
  | some v => !ansB v
  | none => false
def wL (xs : List V) (n : Nat) : List Nat := (List.range n).filter (wrongK xs)
theorem wL_more {xs : List V} {i : Nat} : wL xs (i + 1) = wL xs i ++ (if wrongK xs i = true then [i] else []) := by
  unfold wL
  rw [List.range_succ, List.filter_append, List.filter_cons, List.filter_nil]
theorem wL_len (xs : List V) (i : Nat) : (wL xs i).length ≤ i := by
  have := List.length_filter_le (wrongK xs) (List.range i)
  rw [List.length_range] at this
  exact this
theorem wL_none {xs : List V} (h : wL xs xs.length = []) : ∀ v ∈ xs, ansB v = true := fun v hv => by
  obtain ⟨k, hk⟩ := List.getElem?_of_mem hv
  have lt := (List.getElem?_eq_some_iff.mp hk).1
  have := (List.filter_eq_nil_iff.mp h) k (List.mem_range.mpr lt)
  unfold wrongK at this
  rw [hk] at this
  cases q : ansB v with
  | true => rfl
  | false =>
    have this : ¬ (!ansB v) = true := this
    rw [q] at this
    exact absurd rfl this
theorem wL_head {xs : List V} {j : Nat} {r : List Nat} (h : wL xs xs.length = j :: r) : wrongAt xs (j : Nat) := by
  have pw : (wL xs xs.length).Pairwise (· < ·) := List.Pairwise.filter _ List.pairwise_lt_range
  rw [h] at pw
  obtain ⟨small, _⟩ := List.pairwise_cons.mp pw
  have mem : ∀ k, k ∈ j :: r ↔ k < xs.length ∧ wrongK xs k = true := fun k => by
    rw [← h]
    unfold wL
    rw [List.mem_filter, List.mem_range]
  obtain ⟨lt, wj⟩ := (mem j).mp List.mem_cons_self
  obtain ⟨v, hv⟩ : ∃ v, xs[j]? = some v := ⟨_, List.getElem?_eq_getElem lt⟩
  unfold wrongK at wj
  rw [hv] at wj
  have wj : (!ansB v) = true := wj
  refine .inr ⟨j, v, rfl, hv, ?_, fun k hk u hu => ?_⟩
  · cases q : ansB v with
    | false => rfl
    | true => rw [q] at wj; cases wj
  · cases q : ansB u with
    | true => rfl
    | false =>
      have : k ∈ j :: r := (mem k).mpr ⟨(List.getElem?_eq_some_iff.mp hu).1, by unfold wrongK; rw [hu]; show (!ansB u) = true; rw [q]; rfl⟩
      rcases List.mem_cons.mp this with rfl | m
      · omega
      · have := small k m
        omega
theorem shaped_ints (ks : List Nat) : SeqAt.shaped (.list (ks.map fun k : Nat => PyData.int k)) = true := by
  have e : ∀ ks : List Nat, PyData.canLayAll0 (ks.map fun k : Nat => PyData.int k) = true ∧ PyData.depthAll (ks.map fun k : Nat => PyData.int k) = 0 := fun ks => by
    induction ks with
    | nil => exact ⟨rfl, rfl⟩
    | cons k ks ih =>
      refine ⟨?_, ?_⟩
      · show (true && PyData.canLayAll0 (ks.map fun k : Nat => PyData.int k)) = true
        rw [ih.1] <;> rfl
      · show max 0 (PyData.depthAll (ks.map fun k : Nat => PyData.int k)) = 0
        rw [ih.2] <;> rfl
  refine shaped_of (e ks).1 ?_
  show PyData.depthAll (ks.map fun k : Nat => PyData.int k) + 1 ≤ 64
  rw [(e ks).2]
  decide
section
variable {P : Program} {w : World} {K : PySem.W.Frag} {mg : Str → Option Value} {base : Heap}
def spDue (K : PySem.W.Frag) : Sp := fun vs H Q _ => ∃ (p a : Addr) (xs : List V) (ds : List PyData) (N : Addr → Prop), vs = [.ref a] ∧ SqL K H a xs ∧ ItL N H xs ds ∧ (∀ b, N b → b ≠ p) ∧ xs.length ≤ 60 ∧
  (∀ (H' : Hp) (t : Addr) (i : Int), wrongAt xs i → Same H H' → H' t = some (.tup [.str "answers", .int i]) → Q (.ref t) H') ∧
  (∀ (ys ks : List Str), xs = ys.map V.str → ys ≠ [] → (∀ y ∈ ys, ansS y = true) → SetOfS ys ks →
    (∀ (H' : Hp) (t : Addr), 6 < ks.length → Same H H' → H' t = some (.tup [.str "many", .str "answers", .int (ks.length : Nat), .int 6]) → Q (.ref t) H') ∧
    (∀ (H' : Hp), ks.length ≤ 6 → Same H H' → Q .non H'))
abbrev s__law_due : Stmt := top 36
def nDue : List Str := ["_law_answers", "_law_wrong", "_law_many", "_law_k"]
theorem sc__law_due : FnScope nDue ["_law_answers"] (defScope s__law_due) := ⟨rfl, rfl, rfl, by decide +kernel, rfl, by decide +kernel, by decide +kernel⟩
theorem ok_lawDue {f fA fS : Addr} {fd fdA fdS : FuncData} (F : Fun K "_law_due" "_law_due" s__law_due f fd) (T : Blt mg)
    (GA : FnOk P w K mg base CX0 1 fA fdA ["_law_value"] spShortV) (AA : At K mg "_law_is_answer" fA fdA ["_law_value"])
    (GS : FnOk P w K mg base CX0 2 fS fdS ["_law_answers"] (spSet K)) (AS : At K mg "_law_set" fS fdS ["_law_answers"]) :
    FnOk P w K mg base CX0 3 f fd ["_law_answers"] (spDue K) := by
  refine F.ok sc__law_due (fun vs H Q E h => ?_) (fun cdv A outer s H vs Q E hr h => ?_)
  · obtain ⟨p, a, xs, ds, N, rfl, _⟩ := h
    rfl
  · obtain ⟨p, a, xs, ds, N, rfl, hS, hI, hN, hn, kW, kQ⟩ := h
    have hr1 := hr.mono (j := 1) (by decide)
    refine ⟨_, (pss_cons (ps_setLc (i := 1) (own := [("_law_k", 3)]) rfl sc__law_due.nd rfl rfl (sw_true rfl rfl rfl (by decide +kernel)) (pi_range1 rfl T.n_range (pa_cons (pe_callB call_len_seq (by rfl) T.n_len (by decide +kernel) (pa_cons (pv 0) pa_nil)) pa_nil)) (blkOk_by (N := nDue) (sc := defScope s__law_due) (by decide +kernel)) (fun _ _ _ _ _ => (pg_name (i := 3) sc__law_due.nd rfl (Or.inl rfl))) (fun _ _ _ _ _ => pts_one (pt_not (pt_val (pe_call GA (by exact hr1) (by rfl) AA.m AA.k AA.b .nil pass0 (pa_cons (pe_ix (show IxR _ (rIxL K) from ix_list) (pv 0) (pv 3) (fun _ _ => rfl)) pa_nil))))) (fun _ _ _ _ _ => (pv 3)))
      (pss_cons (ps_if (PW.pt (pw_or (pt_cmpR (op_eqD hr.units) (pv 0) (pe_lst pa_nil) (nomark _)) (pw_or1 (pt_cmpR (op_neD hr.units) (pv 1) (pe_lst pa_nil) (nomark _))))) (pss_one (ps_ret (pe_tup (pa_cons pe_str (pa_cons (pe_ix ix_list (pe_op op_cat (pv 1) (pe_lst (pa_cons pe_int pa_nil))) pe_int (fun _ _ => rfl)) pa_nil))))) pss_nil)
      (pss_cons (ps_set (i := 2) sc__law_due.nd rfl (Or.inl rfl) (pe_callB call_len_seq (by rfl) T.n_len (by decide +kernel) (pa_cons (pe_call GS (by exact hr) (by rfl) AS.m AS.k AS.b .nil pass0 (pa_cons (pv 0) pa_nil)) pa_nil)))
      (pss_one (ps_ret (pe_ifExp (pt_cmpR op_gt (pv 2) pe_int (nomark _)) (pe_tup (pa_cons pe_str (pa_cons pe_str (pa_cons (pv 2) (pa_cons pe_int pa_nil))))) pe_non)))))), ?_⟩
    have z1 : (1000 : Nat) ≤ sizeLine := by decide
    have z2 : (2 : Int) ^ 62 = 4611686018427387904 := by decide
    have hv := hI.vl hN
    have hlen := hI.len
    refine ⟨_, rfl, a, xs, rfl, .inl hS, _, rfl, by omega, by omega, fun L hL => ?_⟩
    refine lc_range (lo := 0) (n := xs.length) (fun i H' => Same H H' ∧ H' L = some (.lst ((wL xs i).map fun (k : Nat) => V.int (k : Int)))) ⟨Ask.Same.upd_new (Same.refl _) hL, upd_same⟩ (fun i H2 hi h2 => ?_) (fun H2 h2 => ?_)
    · obtain ⟨s2, eL⟩ := h2
      obtain ⟨v, ev⟩ : ∃ v, xs[i]? = some v := ⟨_, List.getElem?_eq_getElem hi⟩
      have ll := wL_len xs i
      refine ⟨rfl, _, rfl, _, rfl, a, _, _, _, rfl, rfl, s2.seq hS, at_by (j := i) (by omega) ev, p, v, rfl, (hv v (List.mem_of_getElem? ev)).same s2, fun H3 s3 => ⟨_, rfl, ite2 (fun q => ?_) (fun q => ?_)⟩⟩
      · have q : wrongK xs i = true := by
          unfold wrongK
          rw [ev]
          exact q
        refine ⟨_, rfl, _, s3 _ _ eL, by rw [List.length_map]; omega, Ask.Same.upd_new (s2.trans s3) hL, ?_⟩
        rw [upd_same, wL_more, if_pos q, List.map_append]
        show some (HO.lst (_ ++ [V.int (0 + (i : Int))])) = some (HO.lst (_ ++ [V.int (i : Int)]))
        rw [Int.zero_add]
      · have q : ¬ wrongK xs i = true := by
          unfold wrongK
          rw [ev]
          exact q
        refine ⟨s2.trans s3, ?_⟩
        rw [wL_more, if_neg q, List.append_nil]
        exact s3 _ _ eL
    obtain ⟨s2, eL⟩ := h2
    have hI2 := hI.mp fun v d h => h.same s2
    refine ⟨_, rfl, Nat.zero_le _, fun M hM => ?_⟩
    have s3 := s2.trans (Ask.Same.made1 (o := .lst []) (Same.refl H2) hM)
    have eL3 := Ask.Same.made1 (o := .lst []) (Same.refl H2) hM _ _ eL
    have eM : upd H2 M (.lst []) M = some (.lst []) := upd_same
    generalize upd H2 M (.lst []) = H3 at s3 eL3 eM ⊢
    have hI3 := hI.mp fun v d h => h.same s3
    refine ⟨.list ds, .list [], .lst (s3.seq hS) hI3.dp, .lst (SqL.of eM) .nil, hI3.fit.shapedL, by decide, _, rfl, ?_⟩
    rw [eqv_nil]
    -- what is returned for something wrong
    have hd : ∀ i : Nat, (xs = [] ∧ i = 0) ∨ (∃ r, wL xs xs.length = i :: r) → wrongAt xs (i : Nat) ∧ atI ((wL xs xs.length).map (fun (k : Nat) => V.int (k : Int)) ++ [V.int 0]) 0 = some (.int (i : Nat)) := fun i h => by
      rcases h with ⟨rfl, rfl⟩ | ⟨r, e⟩
      · exact ⟨.inl ⟨rfl, rfl⟩, at_by (j := 0) rfl rfl⟩
      · refine ⟨wL_head e, ?_⟩
        rw [e]
        exact at_by (j := 0) rfl rfl
    have lw := wL_len xs xs.length
    by_cases e0 : xs = []
    · have ed : ds.isEmpty = true := by
        rw [e0] at hlen
        rw [List.isEmpty_iff]
        exact List.length_eq_zero_iff.mp hlen.symm
      obtain ⟨wr, at0⟩ := hd 0 (.inl ⟨e0, rfl⟩)
      refine ite2 (fun _ => ?_) (fun q => absurd ed q)
      refine ⟨_, rfl, by show 1 ≤ sizeLine; omega, fun l hl => ?_⟩
      have s4 := s3.trans (Ask.Same.made1 (o := .lst [.int 0]) (Same.refl H3) hl)
      have eL4 := Ask.Same.made1 (o := .lst [.int 0]) (Same.refl H3) hl _ _ eL3
      refine ⟨L, l, _, _, rfl, rfl, eL4, upd_same, by rw [List.length_map]; show _ + 1 ≤ sizeLine; omega, fun c hc => ?_⟩
      refine ⟨c, _, _, _, rfl, rfl, SqL.of upd_same, at0, by show 2 ≤ sizeLine; omega, fun t ht => ?_⟩
      exact kW _ t _ wr (Ask.Same.made1 (Ask.Same.made1 s4 hc) ht) upd_same
    · have ed : ¬ ds.isEmpty = true := fun q => by
        rw [List.isEmpty_iff] at q
        rw [q] at hlen
        exact e0 (List.length_eq_zero_iff.mp hlen)
      refine ite2 (fun q => absurd q ed) (fun _ => ?_)
      refine ⟨_, rfl, Nat.zero_le _, fun M2 hM2 => ?_⟩
      have s4 := s3.trans (Ask.Same.made1 (o := .lst []) (Same.refl H3) hM2)
      have eL4 := Ask.Same.made1 (o := .lst []) (Same.refl H3) hM2 _ _ eL3
      have eM4 : upd H3 M2 (.lst []) M2 = some (.lst []) := upd_same
      generalize upd H3 M2 (.lst []) = H4 at s4 eL4 eM4 ⊢
      refine ⟨.list ((wL xs xs.length).map fun k : Nat => PyData.int k), .list [], .lst (SqL.of eL4) (dp_ints _), .lst (SqL.of eM4) .nil, shaped_ints _, by decide, _, rfl, ?_⟩
      rw [eqv_nil]
      cases ew : wL xs xs.length with
      | cons i r =>
        obtain ⟨wr, at0⟩ := hd i (.inr ⟨r, ew⟩)
        rw [ew] at eL4 at0 lw
        refine ite2 (fun _ => ?_) (fun q => absurd rfl q)
        refine ⟨_, rfl, by show 1 ≤ sizeLine; omega, fun l hl => ?_⟩
        have s5 := s4.trans (Ask.Same.made1 (o := .lst [.int 0]) (Same.refl H4) hl)
        have eL5 := Ask.Same.made1 (o := .lst [.int 0]) (Same.refl H4) hl _ _ eL4
        refine ⟨L, l, _, _, rfl, rfl, eL5, upd_same, by rw [List.length_map]; show _ + 1 ≤ sizeLine; omega, fun c hc => ?_⟩
        refine ⟨c, _, _, _, rfl, rfl, SqL.of upd_same, at0, by show 2 ≤ sizeLine; omega, fun t ht => ?_⟩
        exact kW _ t _ wr (Ask.Same.made1 (Ask.Same.made1 s5 hc) ht) upd_same
      | nil =>
        refine ite2 (fun q => by cases q) (fun _ => ?_)
        obtain ⟨ys, rfl, hy⟩ := all_strs (wL_none ew)
        have hny : ys ≠ [] := fun q => e0 (by rw [q]; rfl)
        have fit : FitL ys := fun y hy => (hv (.str y) (List.mem_map.mpr ⟨y, hy, rfl⟩)).2 y rfl
        rw [List.length_map] at hn
        refine ⟨_, rfl, a, ys, rfl, s4.seq hS, hn, fit, fun H5 t ks s5 et st => ?_⟩
        obtain ⟨k1, k2⟩ := kQ ys ks rfl hny hy st
        have s45 := s4.trans s5
        have lk : (ks.map V.str).length = ks.length := List.length_map ..
        refine ⟨t, _, rfl, .inr (SqT.of et), ?_⟩
        rw [lk]
        refine ⟨_, rfl, _, _, rfl, rfl, _, rfl, ite2 (fun q => ?_) (fun q => ?_)⟩
        · have q : (6 : Int) < (ks.length : Nat) := of_decide_eq_true q
          exact ⟨_, rfl, by show 4 ≤ sizeLine; omega, fun u hu => k1 _ u (by omega) (Ask.Same.made1 s45 hu) upd_same⟩
        · have q : ¬ (6 : Int) < (ks.length : Nat) := fun z => q (decide_eq_true z)
          exact k2 H5 (by omega) s45
end
end Ask

namespace Ask
open PySem L2
section
variable {P : Program} {w : World} {K : PySem.W.Frag} {mg : Str → Option Value} {base : Heap}
/-- what answer_set tells of the answers, as a tuple -/
def spToldA (K : PySem.W.Frag) : Sp := fun vs H Q _ => ∃ (p a : Addr) (xs : List V), vs = [.ref a] ∧ SqL K H a xs ∧ xs.length ≤ 60 ∧ (∀ v ∈ xs, Vl p H v) ∧
  (∀ (H' : Hp) (t : Addr) (i : Int), wrongAt xs i → Same H H' → H' t = some (.tup [.str "answers", .int i]) → Q (.ref t) H') ∧
  (∀ (ys ks : List Str), xs = ys.map V.str → ys ≠ [] → (∀ y ∈ ys, ansS y = true) → SetOfS ys ks →
    (∀ (H' : Hp) (t : Addr), 6 < ks.length → Same H H' → H' t = some (.tup [.str "many", .str "answers", .int (ks.length : Nat), .int 6]) → Q (.ref t) H') ∧
    (∀ (H' : Hp) (t t2 : Addr), ks.length ≤ 6 → Same H H' → H' t = some (.tup [.str "set", .ref t2]) → H' t2 = some (.tup (ks.map V.str)) → Q (.ref t) H'))
abbrev s__law_told : Stmt := top 37
theorem sc__law_told : FnScope ["_law_answers", "e"] ["_law_answers"] (defScope s__law_told) := ⟨rfl, rfl, rfl, by decide +kernel, rfl, by decide +kernel, by decide +kernel⟩
def tsMany (i : Nat) (CM : Addr) : Addr → Value → Option Addr → TS := fun a cls d => tRet (tTup (tCons (tC (.str "many")) (tCons (tXf a cls d CM "what" (tVar i)) (tCons (tXf a cls d CM "many" (tVar i)) (tCons (tXf a cls d CM "most" (tVar i)) tNil)))))
def tsIx (i : Nat) (z : Str) (CB : Addr) : Addr → Value → Option Addr → TS := fun a cls d => tRet (tTup (tCons (tC (.str z)) (tCons (tXf a cls d CB "index" (tVar i)) tNil)))
def wToldA (K : PySem.W.Frag) (CA CM : Addr) (D : Ends) : WX := wAs K (.ref CA) 1 (tsIx 1 "answers" CA) (wAs K (.ref CM) 1 (tsMany 1 CM) (fun _ _ _ _ => False) D) D
/-- what the clauses ask of the two classes -/
structure ExA (K : PySem.W.Frag) (CA CM : Addr) : Prop where
  aa : PySem.W.exmOne K (.ref CA) (.ref CA) = some true
  ma : PySem.W.exmOne K (.ref CM) (.ref CA) = some false
  mm : PySem.W.exmOne K (.ref CM) (.ref CM) = some true
  a1 : PySem.W.findIn K (.ref CA) "index" = some none
  m1 : PySem.W.findIn K (.ref CM) "what" = some none
  m2 : PySem.W.findIn K (.ref CM) "many" = some none
  m3 : PySem.W.findIn K (.ref CM) "most" = some none
theorem ok_toldA {f fA fB fM CA CM : Addr} {fd fdA fdB fdM : FuncData} {psB psM : List Str} (F : Fun K "_law_told" "_law_told" s__law_told f fd)
    (GA : FnOk P w K mg base (L2.CX P w) 4 fA fdA ["answers"] (spAns K CA CM)) (AA : At K mg "answer_set" fA fdA ["answers"])
    (EB : ErrAt K mg "BadAnswers" CA fB fdB psB) (EM : ErrAt K mg "TooMany" CM fM fdM psM) (X : ExA K CA CM) : FnOk P w K mg base CX0 6 f fd ["_law_answers"] (spToldA K) := by
  refine F.ok sc__law_told (fun vs H Q E h => ?_) (fun cdv A outer s H vs Q E hr h => ?_)
  · obtain ⟨p, a, xs, rfl, _⟩ := h
    rfl
  · obtain ⟨p, a, xs, rfl, hS, hn, hv, kW, kQ⟩ := h
    have hr4 := hr.mono (j := 4) (by decide)
    refine ⟨_, (pss_one (ps_try_hands (tb := fun W => tRet (tTup (tCons (tC (.str "set")) (tCons (tCallS (spAns K CA CM) (WE W) (tCons (tVar 0) tNil)) tNil)))) (Wf := wToldA K CA CM) rfl rfl
        (fun W pn xe tk _ => pss_one (ps_ret (by exact (pe_tup (pa_cons pe_str (pa_cons (pe_callS GA hr4 (by rfl) AA.m AA.k AA.b (fun σ => passAt tk σ) (by exact (pa_cons (pv 0) pa_nil))) pa_nil))))))
        (fun D => hands_as (ts := tsIx 1 "answers" CA) rfl sc__law_told.nd rfl rfl ⟨rfl, by decide, Or.inl EB.m⟩
          (fun a oe cls d pn hz hf => pss_one (ps_ret (by exact (pe_tup (pa_cons pe_str (pa_cons (pe_xf EB.xf X.a1 hz hf (pv 1)) pa_nil))))))
          (hands_as (ts := tsMany 1 CM) rfl sc__law_told.nd rfl rfl ⟨rfl, by decide, Or.inl EM.m⟩
            (fun a oe cls d pn hz hf => pss_one (ps_ret (by exact (pe_tup (pa_cons pe_str (pa_cons (pe_xf EM.xf X.m1 hz hf (pv 1)) (pa_cons (pe_xf EM.xf X.m2 hz hf (pv 1)) (pa_cons (pe_xf EM.xf X.m3 hz hf (pv 1)) pa_nil))))))))
            (hands_nil rfl rfl takes0))))), ?_⟩
    refine ⟨_, rfl, p, a, xs, rfl, hS, hn, hv, fun H' d i wr s' e => ?_, fun ys ks ex ny ok so => ⟨fun H' d lt s' e => ?_, fun H' t le s' e => ?_⟩⟩
    · refine ⟨true, X.aa, fun _ a0 _ => ?_, fun q => Bool.noConfusion q⟩
      exact ⟨_, rfl, rfl, rfl, d, _, _, rfl, e, rfl, by show 2 ≤ sizeLine; decide, fun q hq => kW _ q i wr (Ask.Same.made1 s' hq) upd_same⟩
    · refine ⟨false, X.ma, (fun q => Bool.noConfusion q), fun _ => ⟨true, X.mm, fun _ a0 _ => ?_, fun q => Bool.noConfusion q⟩⟩
      exact ⟨_, rfl, rfl, rfl, d, _, _, rfl, e, rfl, _, rfl, rfl, rfl, d, _, _, rfl, e, rfl, _, rfl, rfl, rfl, d, _, _, rfl, e, rfl, by show 4 ≤ sizeLine; decide, fun q hq => (kQ ys ks ex ny ok so).1 _ q lt (Ask.Same.made1 s' hq) upd_same⟩
    · exact ⟨by show 2 ≤ sizeLine; decide, fun q hq => (kQ ys ks ex ny ok so).2 _ q t le (Ask.Same.made1 s' hq) upd_same (by rw [upd_ne (ne_of_none e hq)]; exact e)⟩
end
end Ask

namespace Ask
open PySem L2
/-- letters that Letters takes -/
structure Lts (ys : List Str) : Prop where
  nd : ys.Nodup
  ok : ∀ y ∈ ys, isLs y = true ∧ y.length ≤ 13 ∧ Asc y
  l0 : 1 ≤ ys.length
  l1 : ys.length ≤ 12
theorem Lts.fit {ys : List Str} (h : Lts ys) : ∀ y ∈ ys, y.length ≤ 500 ∧ Asc y := fun y hy => ⟨by have := (h.ok y hy).2.1; omega, (h.ok y hy).2.2⟩
theorem Lts.res {ys : List Str} (h : Lts ys) : res (ys.map PyData.str) = .none := by
  have l0 := h.l0
  have l1 := h.l1
  refine res_good (by rw [List.length_map]; omega) (by rw [List.length_map]; omega) fun j hj => ?_
  rw [List.length_map] at hj
  unfold badAt
  rw [List.getElem?_map, List.getElem?_eq_getElem hj]
  show (!isLs ys[j] || ((ys.map PyData.str).take j).any fun z => PyData.eqv z (.str ys[j])) = false
  rw [(h.ok _ (List.getElem_mem hj)).1, Bool.not_true, Bool.false_or, List.any_eq_false]
  intro x hx
  rw [← List.map_take] at hx
  obtain ⟨y, hy, rfl⟩ := List.mem_map.mp hx
  rw [eqv_str1]
  intro e
  have e : y = ys[j] := of_decide_eq_true e
  obtain ⟨i, hi⟩ := List.mem_iff_getElem?.mp hy
  have hij : i < j := by
    have := (List.getElem?_eq_some_iff.mp hi).1
    rw [List.length_take] at this
    omega
  rw [List.getElem?_take_of_lt hij] at hi
  have : i = j := (List.getElem?_inj (List.getElem?_eq_some_iff.mp hi).1 h.nd).mp (hi.trans (by rw [e, List.getElem?_eq_getElem hj]))
  omega
section
variable {p c CL q m t m' t' l : Addr} {ns : List Int} {H0 H H' : Hp} {ys zs : List Str} {B B' : Nat} {o : HO} {xs : List V}
theorem Mde.go (h : Mde CL H m t ys) (g : Go p c ns H H' B) : Mde CL H' m t ys := by
  obtain ⟨dx, ob, h1, h2, h3⟩ := h
  exact ⟨dx, ob, g.at h1 (by intro _ z; cases z), g.at h2 (by intro _ z; cases z), h3⟩
theorem Mde.mut (h : Mde CL H m t ys) (hl : H l = some (.lst xs)) : Mde CL (upd H l o) m t ys := by
  obtain ⟨dx, ob, h1, h2, h3⟩ := h
  exact ⟨dx, ob, by rw [upd_ne (ne_of h1 hl (by intro z; cases z))]; exact h1, by rw [upd_ne (ne_of h2 hl (by intro z; cases z))]; exact h2, h3⟩
theorem Mde.seq {K : PySem.W.Frag} (h : Mde CL H m t ys) : SqT K H t (ys.map V.str) := by
  obtain ⟨dx, ob, h1, h2, h3⟩ := h
  exact .inl (.inr ⟨ob, h2⟩)
end
theorem seqA_same {K : PySem.W.Frag} {H H' : Hp} {a : Addr} {xs : List V} (h : SqL K H a xs ∨ SqT K H a xs) (s : Same H H') : SqL K H' a xs ∨ SqT K H' a xs := by
  rcases h with h | h
  · exact .inl (s.seq h)
  · exact .inr (seqT_same s h)
theorem let_made {CL CB CM : Addr} {K : PySem.W.Frag} {H : Hp} {a : Addr} {ys : List Str} {Q : VK} {E : XK} (lts : Lts ys) (ha : SqL K H a (ys.map V.str) ∨ SqT K H a (ys.map V.str)) {x dx : Addr} (hx : H x = none) (hdx : H dx = none) (hne : dx ≠ x) (k : ∀ (H' : Hp) (t : Addr), Same H H' → Mde CL H' x t ys → Q .non H') :
    spLet K CL CB CM [.ref x, .ref a] (upd (upd H dx (.own x)) x (.ins CL dx [])) Q E := by
  have sm : Same H (upd (upd H dx (.own x)) x (.ins CL dx [])) := Ask.Same.made1 (Ask.Same.made1 (Same.refl H) hdx) (by rw [upd_ne hne.symm]; exact hx)
  refine ⟨x, dx, a, _, _, (fun _ => True), rfl, upd_same, seqA_same ha sm, itl_strs lts.fit, (by rw [List.length_map]; have := lts.l1; omega), fun _ _ _ e => ?_, fun _ _ e => ?_, fun H5 t o5 _ ho e1 e2 kk => ?_⟩
  · rw [lts.res] at e
    cases e
  · rw [List.length_map] at e
    have := lts.l1
    omega
  · exact k H5 t (Same.made hx hdx fun b o e hb => kk b o hb e) ⟨dx, o5, e1, e2, ho⟩
end Ask

/-! C(e, ..) within a try, where defaults fill the last parameters -/
namespace Ask
open PySem L2 PySem.Spec PyProof.Rows
def tMakeSD (C : Addr) (sp : Sp) (dvs : List V) (E : L2.St → XK) (t : TA) : TE := fun σ H Q => t σ H fun vs H1 => ∀ x dx, H1 x = none → H1 dx = none → dx ≠ x →
  sp ((.ref x :: vs) ++ dvs) (upd (upd H1 dx (.own x)) x (.ins C dx [])) (fun v H2 => v = .non ∧ Q (.ref x) H2) (E σ)
theorem pe_makeSD {X : Cx} {CX : CXT} {k : Nat} {f C : Addr} {fd : FuncData} {ps : List Str} {sp : Sp} {E : L2.St → XK} {x : Str} {p pos : Pos} {e : Expr} {es : List Expr} {t : TA} {ds : List Value} {dvs : List V}
    (M : Mk X.K C f) (F : FnOk X.prog X.w X.K X.mg X.base CX k f fd ps sp) (hr : Room (k + 1) X.A) (hg : Gl X x) (hm : X.mg x = some (.ref C)) (hb : Binds X.K fd ps ds) (hd : Vals dvs ds) (hx : ∀ σ, PassesAt CX X σ (E σ)) (ha : PA X (e :: es) t)
    (hdb : (x == ("__debug__" : Str)) = false := by decide) (he : starEach (e :: es) X.env = (false, eval e X.env) :: starEach es X.env := by rfl) (hpl : (backTo pos (starEach es X.env)).any (·.1) = false := by rfl) :
    PE X (.Call (.Name x p) (e :: es) [] pos) (tMakeSD C sp dvs E t) := by
  refine ⟨fun pins s σ H Q I h => wpAny_Call_Name_kw (ld_glob I hg hm ?_ hdb)⟩
  refine PySem.W.callWith_K (h₀ := X.base) I.ok.mod.kin M.kp (thn (ha.run pos pins s σ H _ I h) fun us s1 ⟨vs, H1, I1, r, q⟩ => ⟨I1.kIn, ?_⟩) he hpl
  have w := q (s1.heap.objs.size + 1) s1.heap.objs.size (I1.hok.fresh (Nat.le_succ _)) (I1.hok.fresh (Nat.le_refl _)) (Nat.ne_of_lt (Nat.lt_succ_self _))
  have I2 := Inv.made (C := C) I1
  have r2 : Vals ((V.ref (s1.heap.objs.size + 1) :: vs) ++ dvs) ((Value.ref (s1.heap.objs.size + 1) :: us) ++ ds) := Vals.append (.cons rfl r) hd
  have len2 : ((Value.ref (s1.heap.objs.size + 1) :: us) ++ ds).length = ps.length := by
    rw [← r2.length]
    exact F.len _ _ _ _ w
  have bound := hb _ (Value.ref (s1.heap.objs.size + 1) :: us) I2.kIn len2
  refine wpAny_call (make_map (f := f) I1.kIn M.makes M.init (beq_iff_eq.mp M.fn) (codeAny_mono (F.run _ X.stack _ _ ⟨Value.ref (s1.heap.objs.size + 1) :: us, []⟩ _ _ _ (E σ) (hr.make C us []) (I2.env0.make C us []) bound r2 w) fun r s' got => ?_))
  match r, got with
  | .error e, got => exact hx σ pins _ _ e s' I2 got
  | .ok .next, got => exact False.elim got
  | .ok .brk, got => exact False.elim got
  | .ok .cont, got => exact False.elim got
  | .ok (.ret u), got =>
    obtain ⟨v, H', I3, rv, ev, z⟩ := I2.after got
    subst ev
    exact ⟨rv, ⟨V.ref (s1.heap.objs.size + 1), H', I3, rfl, z⟩⟩
end Ask

namespace Ask
open PySem L2
section
variable {P : Program} {w : World} {K : PySem.W.Frag} {mg : Str → Option Value} {base : Heap}
/-- what Limit makes of its parts, an error as a tuple -/
def spLimT (K : PySem.W.Frag) (CL CI : Addr) : Sp := fun vs H Q _ => ∃ (pp l0 a : Addr) (kd lt : V) (xs : List V) (ws : List Str), vs = [.ref l0, kd, .ref a, lt] ∧ SqL K H l0 (ws.map V.str) ∧ Lts ws ∧ Val pp H kd ∧ Val pp H lt ∧ SqL K H a xs ∧ xs.length ≤ 60 ∧ (∀ v ∈ xs, Vl pp H v) ∧
  (inB LM kd = false → ∀ (H' : Hp) (t : Addr), Same H H' → H' t = some (.tup [.str "kind"]) → Q (.ref t) H') ∧
  (inB LM kd = true → (∀ (H' : Hp) (t : Addr) (i : Int), wrongAt xs i → Same H H' → H' t = some (.tup [.str "answers", .int i]) → Q (.ref t) H') ∧
    ∀ (ys ks : List Str), xs = ys.map V.str → ys ≠ [] → (∀ y ∈ ys, ansS y = true) → SetOfS ys ks →
      (∀ (H' : Hp) (t : Addr), 6 < ks.length → Same H H' → H' t = some (.tup [.str "many", .str "answers", .int (ks.length : Nat), .int 6]) → Q (.ref t) H') ∧
      (ks.length ≤ 6 → (dueB ws kd lt = false → ∀ (H' : Hp) (t : Addr), Same H H' → H' t = some (.tup [.str "letter", .int 0]) → Q (.ref t) H') ∧
        (dueB ws kd lt = true → ∀ (k : Str) (H' : Hp) (p : Addr), kd = .str k → k ∈ LM → Same H H' → LimAt K CL CI H' p ws k lt ks → Q (.ref p) H')))
abbrev s__law_limit : Stmt := top 38
theorem sc__law_limit : FnScope ["_law_letters_here", "_law_kind", "_law_answers", "_law_letter", "e"] ["_law_letters_here", "_law_kind", "_law_answers", "_law_letter"] (defScope s__law_limit) := ⟨rfl, rfl, rfl, by decide +kernel, rfl, by decide +kernel, by decide +kernel⟩
def tsWord (z : Str) : TS := tRet (tTup (tCons (tC (.str z)) tNil))
def wLim (K : PySem.W.Frag) (CK CA CM CT : Addr) (D : Ends) : WX := wNo K (.ref CK) (tsWord "kind") (wAs K (.ref CA) 4 (tsIx 4 "answers" CA) (wAs K (.ref CM) 4 (tsMany 4 CM) (wAs K (.ref CT) 4 (tsIx 4 "letter" CT) (fun _ _ _ _ => False) D) D) D) D
/-- what the clauses ask of the four classes -/
structure ExL (K : PySem.W.Frag) (CK CA CM CT : Addr) : Prop where
  kk : PySem.W.exmOne K (.ref CK) (.ref CK) = some true
  ak : PySem.W.exmOne K (.ref CA) (.ref CK) = some false
  aa : PySem.W.exmOne K (.ref CA) (.ref CA) = some true
  mk2 : PySem.W.exmOne K (.ref CM) (.ref CK) = some false
  ma : PySem.W.exmOne K (.ref CM) (.ref CA) = some false
  mm : PySem.W.exmOne K (.ref CM) (.ref CM) = some true
  tk : PySem.W.exmOne K (.ref CT) (.ref CK) = some false
  ta : PySem.W.exmOne K (.ref CT) (.ref CA) = some false
  tm : PySem.W.exmOne K (.ref CT) (.ref CM) = some false
  tt : PySem.W.exmOne K (.ref CT) (.ref CT) = some true
  a1 : PySem.W.findIn K (.ref CA) "index" = some none
  t1 : PySem.W.findIn K (.ref CT) "index" = some none
  m1 : PySem.W.findIn K (.ref CM) "what" = some none
  m2 : PySem.W.findIn K (.ref CM) "many" = some none
  m3 : PySem.W.findIn K (.ref CM) "most" = some none
theorem ok_limT {f fL fI fA fM fT CL CI CE CA CM CK CT : Addr} {fd fdL fdI fdA fdM fdT : FuncData} {psA psM psT : List Str} (F : Fun K "_law_limit" "_law_limit" s__law_limit f fd)
    (ML : Mk K CL fL) (mL : mg "Letters" = some (.ref CL)) (bL : Binds K fdL ["self", "words"] []) (GL : FnOk P w K mg base (L2.CX P w) 4 fL fdL ["self", "words"] (spLet K CL CE CM))
    (MI : Mk K CI fI) (mI : mg "Limit" = some (.ref CI)) (bI : Binds K fdI ["self", "letters", "kind", "answers", "letter"] []) (GI : FnOk P w K mg base (L2.CX P w) 5 fI fdI ["self", "letters", "kind", "answers", "letter"] (spLim K CL CI CK CA CM CT))
    (EK : Err0 K mg "BadKind" CK) (EA : ErrAt K mg "BadAnswers" CA fA fdA psA) (EM : ErrAt K mg "TooMany" CM fM fdM psM) (ET : ErrAt K mg "BadLetter" CT fT fdT psT) (X : ExL K CK CA CM CT) :
    FnOk P w K mg base CX0 7 f fd ["_law_letters_here", "_law_kind", "_law_answers", "_law_letter"] (spLimT K CL CI) := by
  refine F.ok sc__law_limit (fun vs H Q E h => ?_) (fun cdv A outer s H vs Q E hr h => ?_)
  · obtain ⟨pp, l0, a, kd, lt, xs, ws, rfl, _⟩ := h
    rfl
  · obtain ⟨pp, l0, a, kd, lt, xs, ws, rfl, hL, lts, vk, vt, hS, hn, hv, k0, k1⟩ := h
    have hr5 := hr.mono (j := 5) (by decide)
    refine ⟨_, (pss_one (ps_try_hands (tb := fun W => tRet (tMakeS CI (spLim K CL CI CK CA CM CT) (WE W) (tCons (tMakeS CL (spLet K CL CE CM) (WE W) (tCons (tVar 0) tNil)) (tCons (tVar 1) (tCons (tVar 2) (tCons (tVar 3) tNil)))))) (Wf := wLim K CK CA CM CT) rfl rfl
        (fun W pn xe tk _ => pss_one (ps_ret (by exact (pe_makeS MI GI hr (by rfl) mI bI (fun σ => passAt tk σ) (by exact (pa_cons (pe_makeS ML GL hr5 (by rfl) mL bL (fun σ => passAt tk σ) (by exact (pa_cons (pv 0) pa_nil))) (pa_cons (pv 1) (pa_cons (pv 2) (pa_cons (pv 3) pa_nil)))))))))
        (fun D => hands_no (ts := tsWord "kind") rfl ⟨rfl, by decide, Or.inl EK.m⟩ (fun a oe pn => pss_one (ps_ret (by exact (pe_tup (pa_cons pe_str pa_nil)))))
          (hands_as (ts := tsIx 4 "answers" CA) rfl sc__law_limit.nd rfl rfl ⟨rfl, by decide, Or.inl EA.m⟩
            (fun a oe cls d pn hz hf => pss_one (ps_ret (by exact (pe_tup (pa_cons pe_str (pa_cons (pe_xf EA.xf X.a1 hz hf (pv 4)) pa_nil))))))
            (hands_as (ts := tsMany 4 CM) rfl sc__law_limit.nd rfl rfl ⟨rfl, by decide, Or.inl EM.m⟩
              (fun a oe cls d pn hz hf => pss_one (ps_ret (by exact (pe_tup (pa_cons pe_str (pa_cons (pe_xf EM.xf X.m1 hz hf (pv 4)) (pa_cons (pe_xf EM.xf X.m2 hz hf (pv 4)) (pa_cons (pe_xf EM.xf X.m3 hz hf (pv 4)) pa_nil))))))))
              (hands_as (ts := tsIx 4 "letter" CT) rfl sc__law_limit.nd rfl rfl ⟨rfl, by decide, Or.inl ET.m⟩
                (fun a oe cls d pn hz hf => pss_one (ps_ret (by exact (pe_tup (pa_cons pe_str (pa_cons (pe_xf ET.xf X.t1 hz hf (pv 4)) pa_nil))))))
                (hands_nil rfl rfl takes0))))))), ?_⟩
    have one : (1 : Nat) ≤ sizeLine := by decide
    refine ⟨_, rfl, fun m md hm hmd hne => let_made lts (.inl hL) hm hmd hne fun H1 t s1 hM => ⟨rfl, _, rfl, _, rfl, _, rfl, fun p pd hp hpd hnp => ?_⟩⟩
    have sm : Same H1 (upd (upd H1 pd (.own p)) p (.ins CI pd [])) := Ask.Same.made1 (Ask.Same.made1 (Same.refl H1) hpd) (by rw [upd_ne hnp.symm]; exact hp)
    have hp0 : upd (upd H1 pd (.own p)) p (.ins CI pd []) p = some (.ins CI pd []) := upd_same
    have back : ∀ H', But p (upd (upd H1 pd (.own p)) p (.ins CI pd [])) H' → Same H1 H' := fun H' kk b o e => kk b o (ne_of_none e hp) (sm _ _ e)
    generalize upd (upd H1 pd (.own p)) p (.ins CI pd []) = H2 at sm hp0 back ⊢
    have s12 := s1.trans sm
    refine ⟨p, pd, m, t, pp, a, kd, lt, xs, ws, rfl, hp0, hM.same sm, vk.same s12, vt.same s12, s12.seq hS, hn, fun v h => (hv v h).same s12, fun bk => ?_, fun bk => ⟨fun H' d i wr s' e => ?_, fun ys ks ex ny ok so => ⟨fun H' d lt6 s' e => ?_, fun le => ⟨fun bd H' d s' e => ?_, fun bd k H' t2 ek hk e1 e2 kk => ⟨rfl, ?_⟩⟩⟩⟩⟩
    · exact ⟨true, X.kk, fun _ => ⟨one, fun q hq => k0 bk _ q (Ask.Same.made1 s12 hq) upd_same⟩, fun q => Bool.noConfusion q⟩
    · refine ⟨false, X.ak, (fun q => Bool.noConfusion q), fun _ => ⟨true, X.aa, fun _ a0 _ => ?_, fun q => Bool.noConfusion q⟩⟩
      exact ⟨_, rfl, rfl, rfl, d, _, _, rfl, e, rfl, by show 2 ≤ sizeLine; decide, fun q hq => (k1 bk).1 _ q i wr (Ask.Same.made1 (s12.trans s') hq) upd_same⟩
    · refine ⟨false, X.mk2, (fun q => Bool.noConfusion q), fun _ => ⟨false, X.ma, (fun q => Bool.noConfusion q), fun _ => ⟨true, X.mm, fun _ a0 _ => ?_, fun q => Bool.noConfusion q⟩⟩⟩
      exact ⟨_, rfl, rfl, rfl, d, _, _, rfl, e, rfl, _, rfl, rfl, rfl, d, _, _, rfl, e, rfl, _, rfl, rfl, rfl, d, _, _, rfl, e, rfl, by show 4 ≤ sizeLine; decide, fun q hq => ((k1 bk).2 ys ks ex ny ok so).1 _ q lt6 (Ask.Same.made1 (s12.trans s') hq) upd_same⟩
    · refine ⟨false, X.tk, (fun q => Bool.noConfusion q), fun _ => ⟨false, X.ta, (fun q => Bool.noConfusion q), fun _ => ⟨false, X.tm, (fun q => Bool.noConfusion q), fun _ => ⟨true, X.tt, fun _ a0 _ => ?_, fun q => Bool.noConfusion q⟩⟩⟩⟩
      exact ⟨_, rfl, rfl, rfl, d, _, _, rfl, e, rfl, by show 2 ≤ sizeLine; decide, fun q hq => (((k1 bk).2 ys ks ex ny ok so).2 le).1 bd _ q (Ask.Same.made1 (s12.trans s') hq) upd_same⟩
    · exact (((k1 bk).2 ys ks ex ny ok so).2 le).2 bd k H' p ek hk (s1.trans (back H' kk)) ⟨pd, m, t, t2, e1, hM.same (back H' kk), e2⟩
end
end Ask

namespace Ask
open PySem L2
theorem all_flat (ws : List Str) : (ws.map V.str).all flatV = true := by
  rw [List.all_eq_true]
  intro v hv
  obtain ⟨z, _, rfl⟩ := List.mem_map.mp hv
  rfl
theorem strs_inj : ∀ {ys zs : List Str}, ys.map V.str = zs.map V.str → ys = zs
  | [], [], _ => rfl
  | [], _ :: _, h => by cases h
  | _ :: _, [], h => by cases h
  | y :: ys, z :: zs, h => by
    injection h with h1 h2
    injection h1 with h1
    rw [h1, strs_inj h2]
theorem wrong_no {ys : List Str} {i : Int} (h : wrongAt (ys.map V.str) i) (n : ys ≠ []) (ok : ∀ y ∈ ys, ansS y = true) : False := by
  rcases h with ⟨e, _⟩ | ⟨j, v, _, e, b, _⟩
  · exact n (List.map_eq_nil_iff.mp e)
  · rw [List.getElem?_map] at e
    cases hz : ys[j]? with
    | none => rw [hz] at e; cases e
    | some z =>
      rw [hz] at e
      cases e
      have := ok z (List.mem_of_getElem? hz)
      have b : ansS z = false := b
      rw [this] at b
      cases b
section
variable {P : Program} {w : World} {K : PySem.W.Frag} {mg : Str → Option Value} {base : Heap}
/-- what is due of a limit's parts -/
def spLimD (K : PySem.W.Frag) : Sp := fun vs H Q _ => ∃ (pp l0 a : Addr) (kd lt : V) (xs : List V) (ds : List PyData) (N : Addr → Prop) (ws : List Str), vs = [.ref l0, kd, .ref a, lt] ∧ SqL K H l0 (ws.map V.str) ∧ Val pp H kd ∧ Val pp H lt ∧ SqL K H a xs ∧ ItL N H xs ds ∧ (∀ b, N b → b ≠ pp) ∧ xs.length ≤ 60 ∧
  (inB LM kd = false → ∀ (H' : Hp) (t : Addr), Same H H' → H' t = some (.tup [.str "kind"]) → Q (.ref t) H') ∧
  (inB LM kd = true → (∀ (H' : Hp) (t : Addr) (i : Int), wrongAt xs i → Same H H' → H' t = some (.tup [.str "answers", .int i]) → Q (.ref t) H') ∧
    ∀ (ys ks : List Str), xs = ys.map V.str → ys ≠ [] → (∀ y ∈ ys, ansS y = true) → SetOfS ys ks →
      (∀ (H' : Hp) (t : Addr), 6 < ks.length → Same H H' → H' t = some (.tup [.str "many", .str "answers", .int (ks.length : Nat), .int 6]) → Q (.ref t) H') ∧
      (ks.length ≤ 6 → (dueB ws kd lt = false → ∀ (H' : Hp) (t : Addr), Same H H' → H' t = some (.tup [.str "letter", .int 0]) → Q (.ref t) H') ∧
        (dueB ws kd lt = true → ∀ (H' : Hp), Same H H' → Q .non H')))
abbrev s__law_limit_due : Stmt := top 39
theorem sc__law_limit_due : FnScope ["_law_letters_here", "_law_kind", "_law_answers", "_law_letter", "_law_is_right_here"] ["_law_letters_here", "_law_kind", "_law_answers", "_law_letter"] (defScope s__law_limit_due) := ⟨rfl, rfl, rfl, by decide +kernel, rfl, by decide +kernel, by decide +kernel⟩
theorem ok_limD {f fD : Addr} {fd fdD : FuncData} (F : Fun K "_law_limit_due" "_law_limit_due" s__law_limit_due f fd) (T : Blt mg)
    (GD : FnOk P w K mg base CX0 3 fD fdD ["_law_answers"] (spDue K)) (AD : At K mg "_law_due" fD fdD ["_law_answers"]) :
    FnOk P w K mg base CX0 4 f fd ["_law_letters_here", "_law_kind", "_law_answers", "_law_letter"] (spLimD K) := by
  refine F.ok sc__law_limit_due (fun vs H Q E h => ?_) (fun cdv A outer s H vs Q E hr h => ?_)
  · obtain ⟨pp, l0, a, kd, lt, xs, ds, N, ws, rfl, _⟩ := h
    rfl
  · obtain ⟨pp, l0, a, kd, lt, xs, ds, N, ws, rfl, hL, vk, vt, hS, hI, hN, hn, k0, k1⟩ := h
    refine ⟨_, (pss_cons (ps_if (PW.pt (pw_or (pt_not (pt_val (pe_callB call_isi (by rfl) T.n_isinstance (by decide +kernel) (pa_cons (pv 1) (pa_cons (pe_bltn (v := .ty "str") (u := .type "str") rfl T.n_str (by decide +kernel) rfl) pa_nil))))) (pw_or1 (pt_cmpR op_notIn_seq (pv 1) (pe_tup (pa_cons pe_str (pa_cons pe_str (pa_cons pe_str pa_nil)))) rfl)))) (pss_one (ps_ret (pe_tup (pa_cons pe_str pa_nil)))) pss_nil)
      (pss_cons (ps_if (pt_cmpR op_notN (pe_call GD (by exact hr) (by rfl) AD.m AD.k AD.b .nil pass0 (pa_cons (pv 2) pa_nil)) pe_non (nomark _)) (pss_one (ps_ret (pe_call GD (by exact hr) (by rfl) AD.m AD.k AD.b .nil pass0 (pa_cons (pv 2) pa_nil)))) pss_nil)
      (pss_cons (ps_set (i := 4) sc__law_limit_due.nd rfl (Or.inl rfl) (pe_ifExp (pt_cmpR op_eq (pv 1) pe_str (nomark _)) (pe_and (pe_callB call_isi (by rfl) T.n_isinstance (by decide +kernel) (pa_cons (pv 3) (pa_cons (pe_bltn (v := .ty "str") (u := .type "str") rfl T.n_str (by decide +kernel) rfl) pa_nil))) (pe_one (pe_cmpR op_in_seq (pv 3) (pv 0) rfl))) (pe_cmpR op_isN (pv 3) pe_non (nomark _))))
      (pss_one (ps_ret (pe_ifExp (pt_val (pv 4)) pe_non (pe_tup (pa_cons pe_str (pa_cons pe_int pa_nil))))))))), ?_⟩
    have z1 : (1000 : Nat) ≤ sizeLine := by decide
    have one : (1 : Nat) ≤ sizeLine := by omega
    have two : (2 : Nat) ≤ sizeLine := by omega
    obtain ⟨ty, b, hty, hk, b1, b2⟩ := vk.isi (K := K)
    cases b with
    | false => exact ⟨_, rfl, _, _, _, _, false, rfl, .ty _, hty, hk, _, rfl, iteT ⟨one, fun t ht => k0 (b2 rfl LM) _ t (Ask.Same.made1 (Same.refl H) ht) upd_same⟩⟩
    | true =>
    obtain ⟨k, rfl⟩ := b1 rfl
    refine ⟨_, rfl, _, _, _, _, true, rfl, .ty _, .base (.str _), kit_ty (by decide +kernel), _, rfl, iteF ⟨_, rfl, by show 3 ≤ sizeLine; omega, fun u hu => ?_⟩⟩
    have s1 := Ask.Same.made1 (o := .tup [.str "always", .str "fresh", .str "behind"]) (Same.refl H) hu
    have e1 : upd H u (.tup [.str "always", .str "fresh", .str "behind"]) u = some (.tup (LM.map V.str)) := upd_same
    generalize upd H u (.tup [.str "always", .str "fresh", .str "behind"]) = H1 at s1 e1 ⊢
    refine ⟨u, LM.map V.str, rfl, .inr (SqT.of e1), rfl, rfl, _, rfl, ?_⟩
    rw [if_pos rfl, inV_str]
    by_cases hk : k ∈ LM
    case neg =>
      rw [decide_eq_false hk]
      exact iteT ⟨one, fun t ht => k0 (decide_eq_false hk) _ t (Ask.Same.made1 s1 ht) upd_same⟩
    rw [decide_eq_true hk]
    refine iteF ?_
    have bk : inB LM (.str k) = true := decide_eq_true hk
    obtain ⟨kW, kG⟩ := k1 bk
    have sec : ∀ H2, Same H H2 → SqL K H2 a xs ∧ ItL N H2 xs ds := fun H2 s => ⟨s.seq hS, hI.mp fun v d h => h.same s⟩
    refine ⟨_, rfl, pp, a, xs, ds, N, rfl, (sec _ s1).1, (sec _ s1).2, hN, hn, fun H2 t i wr s2 e => ?_, fun ys ks ex ny ok so => ⟨fun H2 t lt6 s2 e => ?_, fun H2 le s2 => ?_⟩⟩
    · refine ⟨rfl, _, rfl, iteT ?_⟩
      have s12 := s1.trans s2
      refine ⟨_, rfl, pp, a, xs, ds, N, rfl, (sec _ s12).1, (sec _ s12).2, hN, hn, fun H3 t3 i3 wr3 s3 e3 => kW _ t3 i3 wr3 (s12.trans s3) e3, fun ys ks ex ny ok so => ?_⟩
      rw [ex] at wr
      exact (wrong_no wr ny ok).elim
    · refine ⟨rfl, _, rfl, iteT ?_⟩
      have s12 := s1.trans s2
      refine ⟨_, rfl, pp, a, xs, ds, N, rfl, (sec _ s12).1, (sec _ s12).2, hN, hn, fun H3 t3 i3 wr3 s3 e3 => kW _ t3 i3 wr3 (s12.trans s3) e3, fun ys2 ks2 ex2 ny2 ok2 so2 => ⟨fun H3 t3 l3 s3 e3 => (kG ys2 ks2 ex2 ny2 ok2 so2).1 _ t3 l3 (s12.trans s3) e3, fun H3 le s3 => ?_⟩⟩
      have := strs_inj (ex.symm.trans ex2)
      subst this
      rw [setOf_one so so2] at lt6
      omega
    · refine ⟨rfl, _, rfl, iteF ?_⟩
      have s12 := s1.trans s2
      obtain ⟨kT, kN⟩ := (kG ys ks ex ny ok so).2 le
      refine ⟨_, rfl, rfl, _, rfl, ?_⟩
      by_cases q : V.str k = V.str "behind"
      · rw [decide_eq_true q]
        refine iteT ?_
        have ed : dueB ws (.str k) lt = inB ws lt := if_pos q
        rw [ed] at kT kN
        obtain ⟨ty, b, hty, hk, b1, b2⟩ := (vt.same s12).isi (K := K)
        cases b with
        | false =>
          have eb := b2 rfl ws
          exact ⟨_, rfl, _, _, _, _, false, rfl, .ty _, hty, hk, _, rfl, iteF ⟨_, rfl, _, rfl, iteF ⟨two, fun t ht => kT eb _ t (Ask.Same.made1 s12 ht) upd_same⟩⟩⟩
        | true =>
          obtain ⟨z, rfl⟩ := b1 rfl
          refine ⟨_, rfl, _, _, _, _, true, rfl, .ty _, .base (.str _), kit_ty (by decide +kernel), _, rfl, iteT ?_⟩
          refine ⟨_, rfl, _, rfl, l0, _, rfl, .inl (s12.seq hL), rfl, all_flat ws, ?_⟩
          rw [if_neg Bool.false_ne_true, inV_str]
          cases hz : decide (z ∈ ws) with
          | false => exact ⟨_, rfl, _, rfl, iteF ⟨two, fun t ht => kT hz _ t (Ask.Same.made1 s12 ht) upd_same⟩⟩
          | true => exact ⟨_, rfl, _, rfl, iteT (kN hz _ s12)⟩
      · rw [decide_eq_false q]
        refine iteF ?_
        have ed : dueB ws (.str k) lt = isN lt := if_neg q
        rw [ed] at kT kN
        refine ⟨_, rfl, rfl, ?_⟩
        have isn : isN lt = decide (lt = V.non) := by
          cases lt <;> first | rfl | exact (decide_eq_false (fun z => by cases z)).symm
        rw [← isn]
        cases hz : isN lt with
        | false => exact ⟨_, rfl, _, rfl, iteF ⟨two, fun t ht => kT hz _ t (Ask.Same.made1 s12 ht) upd_same⟩⟩
        | true => exact ⟨_, rfl, _, rfl, iteT (kN hz _ s12)⟩
end
end Ask

/-! defs that are called where no repr is under way; repr of any data -/
namespace Ask
open PySem L2 PySem.Spec PyProof.Rows
structure FnG (P : Program) (w : World) (K : PySem.W.Frag) (mg : Str → Option Value) (base : Heap) (CX : CXT) (k : Nat) (f : Addr) (fd : FuncData) (ps : List Str) (sp : Sp) : Prop where
  long : ∀ xs J R Z, sp xs J R Z → xs.length = ps.length
  goes : ∀ (A : Around) (out : List Env) (s : Shared) (J : Hp) (args : Args) (us : List Value) (xs : List V) (R : VK) (Z : XK), A.guards = some [] → Room k A → Env0 P w K mg base A out s J → BindsTo s fd args (ps.zip us) → Vals xs us → sp xs J R Z →
    codeAny (model P w) A (.call (.ref f) args) (CR CX out P w J s R Z) s
theorem FnG.mk0 {P : Program} {w : World} {K : PySem.W.Frag} {mg : Str → Option Value} {base : Heap} {CX : CXT} {k : Nat} {f : Addr} {x qual : Str} {st : Stmt} {fd : FuncData} {N ps : List Str} {sp : Sp} (F : Fun K x qual st f fd) (S : FnScope N ps (defScope st)) (ln : ∀ xs J R Z, sp xs J R Z → xs.length = ps.length)
    (hb : ∀ (cdv : Value) (A : Around) (out : List Env) (s : Shared) (J : Hp) (xs : List V) (R : VK) (Z : XK), A.guards = some [] → Room k (A.deeper (envOfC qual (defScope st) s.heap.objs.size f cdv)) → sp xs J R Z →
      ∃ t, PSs (cxOf CX P w K mg base N qual (defScope st) f cdv A out s J Z) (defBody st) t ∧ t { nx := fun _ H' => R .non H', rt := R } (start N xs) J) : FnG P w K mg base CX (k + 1) f fd ps sp :=
  ⟨ln, fun A out s J args us xs R Z hg hr e0 bd r q => fn_run F S hr e0 bd r (ln _ _ _ _ q) fun cdv hr' => hb cdv A out s J xs R Z hg hr' q⟩
theorem run_fnG {X : Cx} {CX : CXT} {k : Nat} {f : Addr} {fd : FuncData} {ps : List Str} {sp : Sp} {Z : XK} {pins : List (Addr × Obj)} {σ : L2.St} {J : Hp} {s : Shared} {R : VK} {us : List Value} {xs : List V} (F : FnG X.prog X.w X.K X.mg X.base CX k f fd ps sp) (hg : X.A.guards = some []) (hr : Room k X.A)
    (hb : Binds X.K fd ps []) (hx : Passes CX X Z) (I : Inv X pins σ J s) (r : Vals xs us) (q : sp xs J R Z) : wpAny (model X.prog X.w) X.A (call (.ref f) us) (EP X pins σ R) X.xe s := by
  have ul : us.length = ps.length := r.length.symm.trans (F.long _ _ _ _ q)
  have bd := hb s us I.kIn ((List.append_nil us).symm ▸ ul)
  rw [List.append_nil] at bd
  refine wpAny_call (codeAny_mono (F.goes X.A X.stack s J ⟨us, []⟩ us xs R Z hg hr I.env0 bd r q) fun got s' z => ?_)
  rcases got with e | fl
  · exact hx pins σ J s e s' I z
  · cases fl <;> first | exact I.after z | exact False.elim z
theorem pe_callG {X : Cx} {CX : CXT} {k : Nat} {f : Addr} {fd : FuncData} {ps : List Str} {sp : Sp} {Z : XK} {x : Str} {p pos : Pos} {e : Expr} {es : List Expr} {t : TA} (F : FnG X.prog X.w X.K X.mg X.base CX k f fd ps sp) (hG : X.A.guards = some []) (hr : Room k X.A) (hg : Gl X x) (hm : X.mg x = some (.ref f))
    (hk : PySem.W.keepIn X.K (.ref f) = true) (hb : Binds X.K fd ps []) (hx : Passes CX X Z) (ha : PA X (e :: es) t) (hdb : (x == ("__debug__" : Str)) = false := by decide) (he : starEach (e :: es) X.env = (false, eval e X.env) :: starEach es X.env := by rfl) (hpl : (backTo pos (starEach es X.env)).any (·.1) = false := by rfl) :
    PE X (.Call (.Name x p) (e :: es) [] pos) (fun σ J R => t σ J fun xs J1 => sp xs J1 R Z) := by
  constructor
  intro pins s σ J R I q
  refine wpAny_Call_Name_kw (ld_glob I hg hm ?_ hdb)
  exact PySem.W.callWith_K (h₀ := X.base) I.ok.mod.kin hk (thn (ha.run pos pins s σ J _ I q) fun us s1 ⟨xs, J1, I1, r, z⟩ => ⟨I1.kIn, run_fnG F hG hr hb hx I1 r z⟩) he hpl
/-- repr of data of any kind -/
def rReprV (K : PySem.W.Frag) : List V → Hp → VK → Prop := fun xs J R => ∃ (x : V) (d : PyData), xs = [x] ∧ Dp K J x d ∧ d.showable = true ∧ d.hasDict = false ∧ d.depth ≤ 30 ∧ d.shown.length ≤ sizeLine ∧ R (.str d.shown) J
theorem call_reprV {X : Cx} (hg : X.A.guards = some []) (hu : X.A.units + 64 < cLine) : CallR X (.builtin "repr") (rReprV X.K) := by
  intro pins s σ J xs us R I r h
  obtain ⟨x, d, rfl, hd, sh, nd, dp, sz, q⟩ := h
  have lst : ∀ a, x = .ref a → wpAny (model X.prog X.w) X.A (call (.builtin "repr") us) (EP X pins σ R) X.xe s := fun a e => by
    subst e
    exact call_reprD hg hu pins s σ J _ us R I r ⟨a, d, rfl, hd, sh, nd, dp, sz, q⟩
  obtain ⟨u, rfl, ra⟩ := vals1 r
  cases hd with
  | non =>
    obtain rfl : u = Value.none := ra
    exact P.repr_of_none ⟨.str _, J, I.tok _, ⟨_, rfl⟩, by simpa only [PyData.shown] using q⟩
  | bl b =>
    obtain rfl : u = Value.bool b := ra
    exact P.repr_of_bool ⟨.str _, J, I.tok _, ⟨_, rfl⟩, by simpa only [PyData.shown] using q⟩
  | int i =>
    obtain ⟨t, rfl⟩ := ra
    exact P.repr_of_int (of_decide_eq_true (by simpa only [PyData.showable] using sh)) ⟨.str _, J, I.tok _, ⟨_, rfl⟩, by simpa only [PyData.shown] using q⟩
  | str z =>
    obtain ⟨t, rfl⟩ := ra
    exact P.repr_of_str ⟨.str _, J, I.tok _, ⟨_, rfl⟩, by simpa only [PyData.shown] using q⟩ (by simpa only [PyData.shown] using sz)
  | lst h1 h2 => exact lst _ rfl
  | tup h1 h2 => exact lst _ rfl
end Ask

/-! data that repr takes: how deep, how long -/
namespace Ask
open PySem L2 PySem.Spec PyProof.Rows StrLaws
structure Dk (d : PyData) (L : Nat) : Prop where
  lay : d.canLay0 = true
  dep : d.depth ≤ 5
  sho : d.showable = true
  len : d.shown.length ≤ L
structure DkAll (ds : List PyData) (L : Nat) : Prop where
  lay : PyData.canLayAll0 ds = true
  dep : PyData.depthAll ds ≤ 5
  sho : PyData.showableAll ds = true
  len : ((PyData.shownAll ds).map (·.length)).sum + 2 * ds.length ≤ L
theorem shownAll_len : ∀ ds : List PyData, (PyData.shownAll ds).length = ds.length
  | [] => rfl
  | d :: ds => by simp only [PyData.shownAll, List.length_cons, shownAll_len ds]
theorem Dk.mono {d : PyData} {L M : Nat} (h : Dk d L) (l : L ≤ M) : Dk d M := ⟨h.lay, h.dep, h.sho, Nat.le_trans h.len l⟩
theorem DkAll.nil : DkAll [] 0 := ⟨rfl, Nat.zero_le _, rfl, Nat.le_refl _⟩
theorem DkAll.cons {d : PyData} {ds : List PyData} {L M : Nat} (h : Dk d L) (k : DkAll ds M) : DkAll (d :: ds) (L + 2 + M) := by
  refine ⟨?_, Nat.max_le.mpr ⟨h.dep, k.dep⟩, ?_, ?_⟩
  · show (PyData.canLay0 d && PyData.canLayAll0 ds) = true
    rw [h.lay, k.lay] <;> rfl
  · show (PyData.showable d && PyData.showableAll ds) = true
    rw [h.sho, k.sho] <;> rfl
  · show ((PyData.shown d :: PyData.shownAll ds).map (·.length)).sum + 2 * (ds.length + 1) ≤ _
    rw [List.map_cons, List.sum_cons]
    have := h.len
    have := k.len
    omega
theorem DkAll.each {f : PyData → Prop} {L : Nat} : ∀ {ds : List PyData}, (∀ d ∈ ds, Dk d L) → DkAll ds ((L + 2) * ds.length)
  | [], _ => DkAll.nil
  | d :: ds, h => by
    have k := (h d (List.mem_cons_self ..))
    have r := DkAll.each (f := f) (ds := ds) fun x hx => h x (List.mem_cons_of_mem _ hx)
    have := DkAll.cons k r
    rw [List.length_cons, Nat.mul_succ, Nat.add_comm _ (L + 2)]
    exact this
theorem DkAll.tup {ds : List PyData} {L : Nat} (h : DkAll ds L) (d : PyData.depthAll ds ≤ 4) : Dk (.tuple ds) (L + 3) := by
  refine ⟨h.lay, Nat.succ_le_succ d, h.sho, ?_⟩
  have := tupleText_len_le (PyData.shownAll ds)
  have e := shownAll_len ds
  have := h.len
  show (tupleText (PyData.shownAll ds)).length ≤ _
  omega
theorem DkAll.lst {ds : List PyData} {L : Nat} (h : DkAll ds L) (d : PyData.depthAll ds ≤ 4) : Dk (.list ds) (L + 3) := by
  refine ⟨h.lay, Nat.succ_le_succ d, h.sho, ?_⟩
  have := listText_len_le (PyData.shownAll ds)
  have e := shownAll_len ds
  have := h.len
  show (listText (PyData.shownAll ds)).length ≤ _
  omega
theorem Dk.nod {d : PyData} {L : Nat} (h : Dk d L) : d.hasDict = false := PyData.hasDict_of_canLay d h.lay
theorem Dk.shaped {d : PyData} {L : Nat} (h : Dk d L) : SeqAt.shaped d = true := by
  unfold SeqAt.shaped
  rw [h.lay, decide_eq_true (Nat.le_trans h.dep (by decide))] <;> rfl
theorem dk_str {z : Str} (a : ∀ c ∈ z.cps.toList, c < 128) : Dk (.str z) (10 * z.length + 10) := by
  refine ⟨?_, Nat.zero_le _, rfl, ?_⟩
  · show PyData.strOk z = true
    unfold PyData.strOk
    rw [← Array.all_toList, List.all_eq_true]
    intro c hc
    have := a c hc
    exact decide_eq_true (by omega)
  · have l := StrLaws.reprText_len z (fun c hc => by have := a c hc; omega)
    show (reprText z).length ≤ _
    omega
theorem dk_int {i : Int} (h0 : 0 ≤ i) (h1 : i < 10 ^ 40) : Dk (.int i) 40 := by
  refine ⟨rfl, Nat.zero_le _, ?_, ?_⟩
  · show decide (i.natAbs.log2 < 1920) = true
    refine decide_eq_true ?_
    by_cases z : i.natAbs = 0
    · rw [z]
      decide
    · refine (Nat.log2_lt z).mpr ?_
      have : (10 : Int) ^ 40 < (2 : Int) ^ 1920 := by decide +kernel
      have : (i.natAbs : Int) < (2 : Int) ^ 1920 := by omega
      exact_mod_cast this
  · exact toString_length_le h0 (by decide) h1
theorem dk_non : Dk .none 4 := ⟨rfl, Nat.zero_le _, rfl, by decide⟩
theorem dk_bool (b : Bool) : Dk (.bool b) 5 := by cases b <;> exact ⟨rfl, Nat.zero_le _, rfl, by decide⟩
end Ask

/-! str(o), o an instance with its own __str__ -/
namespace Ask
open PySem L2 PySem.Spec PyProof.Rows
open Builtin Builtin.Str
theorem strOf_own {prog : Program} {w : World} {K : PySem.W.Frag} {A : Around} {E : Value → Shared → Prop} {s : Shared} {x C f : Addr} {ox : Obj} {od : Option Obj} {Q : Value → Shared → Prop} (hu : A.units < cLine) (X : K.In s.heap) (I : PySem.W.InstAt s.heap x ox C od)
    (hs : PySem.W.findIn K (.ref C) "__str__" = some (some (.ref f))) (hf : PySem.W.isFn K (.ref f) = true)
    (h : wpAny (model prog w) A (call (.ref f) [.ref x]) (fun v s' => ∃ y t, v = .str y t ∧ Q v s') E s) : wpAny (model prog w) A (Builtin.Str.strOf (.ref x)) Q E s := by
  unfold Builtin.Str.strOf
  rw [show isExactStr (Value.ref x) = false from rfl]
  refine wpAny_bind (m := cRoomFor _ _) (wpAny_cRoomFor hu ?_)
  refine wpAny_bind (m := callSpecial? (.ref x) (Str.ofString "__str__")) (PySem.W.special_fn X I hs (beq_iff_eq.mp hf) (wpAny_mono h (fun r s' hr => ?_) fun _ _ z => z))
  obtain ⟨y, t, rfl, q⟩ := hr
  exact wpAny_pure q
theorem meetsIn_str_new {prog : Program} {w : World} {v : Value} {S : PySem.Spec} (hs : ∀ (A : Around) (R : Result → Shared → Prop) (s : Shared), S A R s →
      wpAny (model prog w) A.in1 (Builtin.Str.strOf v) (fun r s' => R (.ok (.ret r)) s') (fun e s' => R (.error e) s') s) : MeetsIn prog w (Builtin.«str.__new__» ⟨[.type "str", v], []⟩) S := by
  refine MeetsIn.of_wp fun A R s h => ?_
  rw [str_new_tree v]
  refine wpAny_bind (wpAny_pure ?_)
  refine wpAny_bind (wpAny_of_eq isSubtype_str_str ?_)
  exact wpAny_bind (wpAny_mono (hs A R s h) (fun r s' h' => wpAny_pure ⟨_, rfl, h'⟩) fun _ _ e => e)
section
variable {X : Cx} {CX : CXT} {k : Nat} {C f : Addr} {fd : FuncData} {ps : List Str} {sp : Sp} {E : XK}
theorem call_strI (F : FnOk X.prog X.w X.K X.mg X.base CX k f fd ps sp) (hr : Room (k + 2) X.A) (hb : Binds X.K fd ps []) (hx : Passes CX X E) (hs : PySem.W.findIn X.K (.ref C) "__str__" = some (some (.ref f))) (hf : PySem.W.isFn X.K (.ref f) = true) :
    CallR X (.type "str") (fun xs H Q => ∃ (a dx : Addr) (fs : List (Str × V)), xs = [.ref a] ∧ H a = some (.ins C dx fs) ∧ sp [.ref a] H (fun v H' => ∃ z : Str, v = .str z ∧ Q (.str z) H') E) := by
  intro pins s σ H xs us Q I r h
  obtain ⟨a, dx, fs, rfl, ha, q⟩ := h
  obtain ⟨u, rfl, ra⟩ := vals1 r
  obtain rfl : u = Value.ref a := ra
  obtain ⟨mA, J, _⟩ := ins_get I.hok ha
  obtain ⟨od, J, _⟩ := J.look
  have hu := hr.in1.in1.un
  refine PySem.callType_newIn PySem.F.called_str (by decide) (PySem.F.typeCall_str_1 _) (PySem.F.newCall_str_1 _) (fun obj => PySem.F.args_object_init_2 obj _) PySem.F.entry_str_new
    (meetsIn_str_new (prog := X.prog) (w := X.w) (v := .ref a) (S := fun A' R s' => A'.in1.units < cLine ∧ (∃ ox, X.K.In s'.heap ∧ PySem.W.InstAt s'.heap a ox C od) ∧ wpAny (model X.prog X.w) A'.in1 (call (.ref f) [.ref a]) (fun v s2 => ∃ y t, v = .str y t ∧ R (.ok (.ret v)) s2) (fun e s2 => R (.error e) s2) s')
      fun A' R s' hq => by
        obtain ⟨h1, ⟨ox, h2, h3⟩, h4⟩ := hq
        exact strOf_own h1 h2 h3 hs hf h4) ?_
  refine ⟨by omega, ⟨_, I.kIn, J⟩, thn (run_at (vs := [.ref a]) F hr.in1.in1 rfl hb hx I (.cons rfl .nil) q) fun r s' ⟨z, H', I', rz, y, ez, q'⟩ => ?_⟩
  subst ez
  obtain ⟨t, rfl⟩ := rz
  exact ⟨y, t, rfl, typeIs_str _ _ _, ⟨.str y, H', I', ⟨_, rfl⟩, q'⟩⟩
end
end Ask

namespace Ask
open PySem L2
theorem ans_fit {z : Str} (h : ansS z = true) : z.length ≤ 12 ∧ Asc z := by
  have l := (short_len h).2
  rw [tl_len] at l
  exact ⟨l, fun c hc => signs_asc' c (short_signs h c hc)⟩
theorem ans_fits {ys : List Str} (h : ∀ y ∈ ys, ansS y = true) : FitL ys := fun y hy => ⟨by have := (ans_fit (h y hy)).1; omega, (ans_fit (h y hy)).2⟩
theorem due_non {ws : List Str} {k : Str} {lt : V} (h : dueB ws (.str k) lt = true) : NonS lt ∧ ∀ z, lt = .str z → z ∈ ws := by
  unfold dueB at h
  split at h
  · obtain ⟨z, rfl, hz⟩ := inB_some h
    exact ⟨.inr ⟨z, rfl⟩, fun y e => by cases e; exact hz⟩
  · cases lt <;> first | exact ⟨.inl rfl, fun z e => by cases e⟩ | cases h
theorem NonS.val {p : Addr} {H : Hp} {v : V} (h : NonS v) : Val p H v := by
  rcases h with rfl | ⟨z, rfl⟩ <;> exact .inl rfl
theorem lm_asc : ∀ k ∈ LM, Asc k ∧ k.length ≤ 13 := by
  intro k hk
  simp only [LM, List.mem_cons, List.not_mem_nil, or_false] at hk
  rcases hk with rfl | rfl | rfl <;> exact ⟨.lit (by decide +kernel), by decide⟩
theorem setOf_more {ys zs ks : List Str} (h : SetOfS ys ks) (m : ∀ z, z ∈ zs ↔ z ∈ ys) : SetOfS zs ks := ⟨h.1, h.2.1, fun z => (h.2.2 z).trans (m z).symm⟩
/-- Limit(m, k, a, lt) is made -/
theorem lim_made {CL CI CK CA CM CT : Addr} {K : PySem.W.Frag} {H : Hp} {m t a : Addr} {ws ys ks : List Str} {k : Str} {lt : V} {Q : VK} {E : XK} (hM : Mde CL H m t ws) (hk : k ∈ LM) (due : dueB ws (.str k) lt = true) (hS : SqL K H a (ys.map V.str)) (hn : ys.length ≤ 60) (ny : ys ≠ []) (ok : ∀ y ∈ ys, ansS y = true) (so : SetOfS ys ks) (le : ks.length ≤ 6)
    {p dx : Addr} (hp : H p = none) (hdx : H dx = none) (hne : dx ≠ p) (kq : ∀ H', Same H H' → LimAt K CL CI H' p ws k lt ks → Q .non H') :
    spLim K CL CI CK CA CM CT [.ref p, .ref m, .str k, .ref a, lt] (upd (upd H dx (.own p)) p (.ins CI dx [])) Q E := by
  have sm : Same H (upd (upd H dx (.own p)) p (.ins CI dx [])) := Ask.Same.made1 (Ask.Same.made1 (Same.refl H) hdx) (by rw [upd_ne hne.symm]; exact hp)
  have bk : inB LM (.str k) = true := decide_eq_true hk
  refine ⟨p, dx, m, t, m, a, .str k, lt, ys.map V.str, ws, rfl, upd_same, hM.same sm, .inl rfl, (due_non due).1.val, sm.seq hS, by rw [List.length_map]; exact hn, fun v hv => ?_, fun q => ?_, fun _ => ⟨fun H' d i wr s' e => (wrong_no wr ny ok).elim, fun ys2 ks2 ex ny2 ok2 so2 => ?_⟩⟩
  · obtain ⟨z, hz, rfl⟩ := List.mem_map.mp hv
    exact ⟨.inl rfl, fun y e => by cases e; exact ans_fits ok z hz⟩
  · rw [bk] at q
    cases q
  · have e := strs_inj ex
    subst e
    have e := setOf_one so so2
    subst e
    refine ⟨fun H' d l6 => by omega, fun _ => ⟨fun q => (by rw [due] at q; cases q), fun _ k2 H' t2 ek hk2 e1 e2 kk => ?_⟩⟩
    cases ek
    have s' : Same H H' := Same.made hp hdx fun b o e hb => kk b o hb e
    exact kq H' s' ⟨dx, m, t, t2, e1, hM.same s', e2⟩
theorem Lts.more {ys : List Str} {z : Str} (h : Lts ys) (hz : z ∉ ys) (a : isLs z = true) (b : z.length ≤ 13) (c : Asc z) (l : ys.length ≤ 11) : Lts (ys ++ [z]) := by
  refine ⟨?_, fun y hy => ?_, by rw [List.length_append]; show 1 ≤ ys.length + 1; omega, by rw [List.length_append]; show ys.length + 1 ≤ 12; omega⟩
  · rw [List.nodup_append]
    refine ⟨h.nd, by simp, fun u hu v hv e => ?_⟩
    rw [List.mem_singleton] at hv
    subst hv
    exact hz (e ▸ hu)
  · rcases List.mem_append.mp hy with hy | hy
    · exact h.ok y hy
    · rw [List.mem_singleton.mp hy]
      exact ⟨a, b, c⟩
/-- what a limit's list of parts is as data -/
def datL : V → PyData
  | .str z => .str z
  | _ => .none
def limD (k : Str) (ks : List Str) (lt : V) : PyData := .list [.str k, .tuple (ks.map PyData.str), datL lt]
theorem limD_dp {K : PySem.W.Frag} {H : Hp} {q t : Addr} {k : Str} {ks : List Str} {lt : V} (e : H q = some (.lst [.str k, .ref t, lt])) (e2 : H t = some (.tup (ks.map V.str))) (n : NonS lt) : Dp K H (.ref q) (limD k ks lt) := by
  rcases n with rfl | ⟨y, rfl⟩
  · exact .lst (SqL.of e) (.cons (.str _) (.cons (.tup (SqT.of e2) (dp_strs ks)) (.cons .non .nil)))
  · exact .lst (SqL.of e) (.cons (.str _) (.cons (.tup (SqT.of e2) (dp_strs ks)) (.cons (.str _) .nil)))
theorem strs_depth : ∀ ks : List Str, PyData.depthAll (ks.map PyData.str) = 0
  | [] => rfl
  | k :: ks => by
    show max 0 (PyData.depthAll (ks.map PyData.str)) = 0
    rw [strs_depth ks]
    rfl
theorem limD_dk {k : Str} {ks : List Str} {lt : V} (hk : k ∈ LM) (le : ks.length ≤ 6) (hz : ∀ z ∈ ks, z.length ≤ 12 ∧ Asc z) (n : NonS lt) (hl : ∀ z, lt = .str z → isLs z = true ∧ z.length ≤ 13 ∧ Asc z) : Dk (limD k ks lt) 5000 := by
  obtain ⟨a1, a2⟩ := lm_asc k hk
  have c : Dk (datL lt) 200 := by
    rcases n with rfl | ⟨y, rfl⟩
    · exact dk_non.mono (by decide)
    · obtain ⟨_, d2, d1⟩ := hl y rfl
      exact (dk_str d1).mono (by omega)
  have cd : (datL lt).depth = 0 := by
    rcases n with rfl | ⟨y, rfl⟩ <;> rfl
  have b : Dk (.tuple (ks.map PyData.str)) 1000 := by
    have all : ∀ d ∈ ks.map PyData.str, Dk d 130 := fun d hd => by
      obtain ⟨z, hm, rfl⟩ := List.mem_map.mp hd
      obtain ⟨l, s⟩ := hz z hm
      exact (dk_str s).mono (by omega)
    refine (DkAll.tup (DkAll.each (f := fun _ => True) all) (by rw [strs_depth]; decide)).mono ?_
    rw [List.length_map]
    have : (130 + 2) * ks.length ≤ 132 * 6 := Nat.mul_le_mul (Nat.le_refl _) le
    omega
  have dz : PyData.depthAll [PyData.str k, .tuple (ks.map PyData.str), datL lt] ≤ 4 := by
    show max 0 (max (PyData.depthAll (ks.map PyData.str) + 1) (max (datL lt).depth 0)) ≤ 4
    rw [strs_depth, cd]
    decide
  exact (DkAll.lst (DkAll.cons (dk_str a1) (DkAll.cons b (DkAll.cons c DkAll.nil))) dz).mono (by omega)
theorem wordsL_size {k : Str} {lt : V} {ks : List Str} (hk : k ∈ LM) (le : ks.length ≤ 6) (hz : ∀ z ∈ ks, z.length ≤ 12) (hl : ∀ z, lt = .str z → z.length ≤ 13) : ((wordsL k lt ks).map (·.length)).sum + (wordsL k lt ks).length * 1 ≤ 16777216 := by
  obtain ⟨_, a2⟩ := lm_asc k hk
  have s : ∀ ks : List Str, (∀ z ∈ ks, z.length ≤ 12) → (ks.map (·.length)).sum ≤ 12 * ks.length := fun ks => by
    induction ks with
    | nil => exact fun _ => Nat.le_refl _
    | cons z ks ih =>
      intro h
      have a := h z List.mem_cons_self
      have b := ih fun y hy => h y (List.mem_cons_of_mem _ hy)
      rw [List.map_cons, List.sum_cons, List.length_cons]
      omega
  have b := s ks hz
  have g : ∀ hs : List Str, hs.length ≤ 2 → (hs.map (·.length)).sum ≤ 26 → ((hs ++ ks).map (·.length)).sum + (hs ++ ks).length * 1 ≤ 16777216 := fun hs h1 h2 => by
    rw [List.map_append, List.sum_append, List.length_append]
    omega
  unfold wordsL
  split
  · rename_i y
    have c := hl y rfl
    exact g _ (Nat.le_refl _) (by show k.length + (y.length + 0) ≤ 26; omega)
  · exact g _ (by show 1 ≤ 2; decide) (by show k.length + 0 ≤ 26; omega)
section
variable {P : Program} {w : World} {K : PySem.W.Frag} {mg : Str → Option Value} {base : Heap}
def spRightL (K : PySem.W.Frag) (CL CI : Addr) : Sp := fun vs H Q _ => ∃ (p l0 a : Addr) (ws ys ks : List Str) (k : Str) (lt : V), vs = [.ref p, .ref l0, .str k, .ref a, lt] ∧ LimAt K CL CI H p ws k lt ks ∧ SqL K H l0 (ws.map V.str) ∧ H l0 = some (.lst (ws.map V.str)) ∧ Lts ws ∧ ws.length ≤ 11 ∧ k ∈ LM ∧ dueB ws (.str k) lt = true ∧ H a = some (.lst (ys.map V.str)) ∧ ys ≠ [] ∧ ys.length ≤ 30 ∧ (∀ y ∈ ys, ansS y = true) ∧ SetOfS ys ks ∧ ks.length ≤ 6 ∧ ∀ H', Same H H' → Q (.bl true) H'
abbrev s__law_is_right : Stmt := top 40
def nRi : List Str := ["_law_made", "_law_letters_here", "_law_kind", "_law_answers", "_law_letter", "_law_due_here", "_law_parts", "_law_is_kept", "_law_twin", "_law_other", "_law_part"]
theorem sc__law_is_right : FnScope nRi ["_law_made", "_law_letters_here", "_law_kind", "_law_answers", "_law_letter"] (defScope s__law_is_right) := ⟨rfl, rfl, rfl, by decide +kernel, rfl, by decide +kernel, by decide +kernel⟩
theorem ok_rightL {f fS fF fL fI fQ fE fT CL CI CE CA CM CK CT : Addr} {fd fdS fdF fdL fdI fdQ fdE fdT : FuncData} (F : Fun K "_law_is_right" "_law_is_right" s__law_is_right f fd) (T : Blt mg) (hC : LiC K CI)
    (GS : FnOk P w K mg base CX0 2 fS fdS ["_law_answers"] (spSet K)) (AS : At K mg "_law_set" fS fdS ["_law_answers"])
    (GF : FnOk P w K mg base CX0 1 fF fdF ["_law_letters_here"] (spFree K)) (AF : At K mg "_law_free" fF fdF ["_law_letters_here"])
    (ML : Mk K CL fL) (mL : mg "Letters" = some (.ref CL)) (bL : Binds K fdL ["self", "words"] []) (GL : FnOk P w K mg base (L2.CX P w) 4 fL fdL ["self", "words"] (spLet K CL CE CM))
    (MI : Mk K CI fI) (mI : mg "Limit" = some (.ref CI)) (bI : Binds K fdI ["self", "letters", "kind", "answers", "letter"] []) (GI : FnOk P w K mg base (L2.CX P w) 5 fI fdI ["self", "letters", "kind", "answers", "letter"] (spLim K CL CI CK CA CM CT))
    (GQ : FnOk P w K mg base CX0 1 fQ fdQ ["self", "other"] (spEq2 CL)) (bQ : Binds K fdQ ["self", "other"] []) (hQ : PySem.W.findIn K (.ref CL) "__eq__" = some (some (.ref fQ))) (iQ : PySem.W.isFn K (.ref fQ) = true)
    (GE : FnOk P w K mg base CX0 2 fE fdE ["self", "other"] (spLEq K CL CI)) (bE : Binds K fdE ["self", "other"] []) (hE : PySem.W.findIn K (.ref CI) "__eq__" = some (some (.ref fE))) (iE : PySem.W.isFn K (.ref fE) = true) (nE : OwnNe K CI fE)
    (GT : FnOk P w K mg base CX0 1 fT fdT ["self"] (spLStr K CL CI)) (bT : Binds K fdT ["self"] []) (hT : PySem.W.findIn K (.ref CI) "__str__" = some (some (.ref fT))) (iT : PySem.W.isFn K (.ref fT) = true) :
    FnG P w K mg base CX0 7 f fd ["_law_made", "_law_letters_here", "_law_kind", "_law_answers", "_law_letter"] (spRightL K CL CI) := by
  refine FnG.mk0 F sc__law_is_right (fun vs H Q E h => ?_) (fun cdv A outer s H vs Q E hg hr h => ?_)
  · obtain ⟨p, l0, a, ws, ys, ks, k, lt, rfl, _⟩ := h
    rfl
  · obtain ⟨p, l0, a, ws, ys, ks, k, lt, rfl, hA, hL, hL1, lts, w11, hk, due, hS, ny, y30, ok, so, le, kq⟩ := h
    have hr1 := hr.mono (j := 1) (by decide)
    have hr2 := hr.mono (j := 2) (by decide)
    have hr3 := hr.mono (j := 3) (by decide)
    have hr5 := hr.mono (j := 5) (by decide)
    have hr6 := hr.mono (j := 6) (by decide)
    refine ⟨_, (pss_cons (ps_set (i := 5) sc__law_is_right.nd rfl (Or.inl rfl) (pe_lst (pa_cons (pv 2) (pa_cons (pe_call GS (by exact hr2) (by rfl) AS.m AS.k AS.b .nil pass0 (pa_cons (pv 3) pa_nil)) (pa_cons (pv 4) pa_nil)))))
      (pss_cons (ps_set (i := 6) sc__law_is_right.nd rfl (Or.inl rfl) (pe_op op_cat (pe_lc (own := [("_law_part", 10)]) rfl sc__law_is_right.nd (pi_list (pe_lst (pa_cons (pv 2) (pa_cons (pv 4) pa_nil)))) (blkOk_by (N := nRi) (sc := defScope s__law_is_right) (by decide +kernel)) (fun _ _ _ _ _ => (pg_name (i := 10) sc__law_is_right.nd rfl (Or.inl rfl))) (fun _ _ _ _ _ => pts_one (pt_cmpR (show OpR _ _ (fun x y H Q => y = .non ∧ Q (.bl (!decide (x = .non))) H) from op_notN) (pv 10) pe_non (nomark _))) (fun _ _ _ _ _ => (pv 10))) (pe_callTy call_list_of (by rfl) T.n_list (by decide +kernel) (pa_cons (pe_call GS (by exact hr2) (by rfl) AS.m AS.k AS.b .nil pass0 (pa_cons (pv 3) pa_nil)) pa_nil))))
      (pss_cons (ps_set (i := 7) sc__law_is_right.nd rfl (Or.inl rfl) (pe_and (pe_cmpR op_eq (pe_callB (call_reprV hg hr.units) (by rfl) T.n_repr (by decide +kernel) (pa_cons (pe_lst (pa_cons (pe_fld (pv 0) rfl) (pa_cons (pe_fld (pv 0) rfl) (pa_cons (pe_fld (pv 0) rfl) pa_nil)))) pa_nil)) (pe_callB (call_reprV hg hr.units) (by rfl) T.n_repr (by decide +kernel) (pa_cons (pv 5) pa_nil)) (nomark _)) (pe_one (pe_cmpR (op_eqI (C := CL) (E := E0) GQ hr1 bQ pass0 hQ iQ) (pe_fld (pv 0) rfl) (pe_make ML GL (by exact hr5) (by rfl) mL bL .nil passE (pa_cons (pv 1) pa_nil)) (nomark _)))))
      (pss_cons (ps_set (i := 8) sc__law_is_right.nd rfl (Or.inl rfl) (pe_make MI GI (by exact hr6) (by rfl) mI bI .nil passE (pa_cons (pe_make ML GL (by exact hr5) (by rfl) mL bL .nil passE (pa_cons (pv 1) pa_nil)) (pa_cons (pv 2) (pa_cons (pe_op op_cat (pe_revL (pv 3)) (pv 3)) (pa_cons (pv 4) pa_nil))))))
      (pss_cons (ps_set (i := 9) sc__law_is_right.nd rfl (Or.inl rfl) (pe_make MI GI (by exact hr6) (by rfl) mI bI .nil passE (pa_cons (pe_make ML GL (by exact hr5) (by rfl) mL bL .nil passE (pa_cons (pe_op op_cat (pv 1) (pe_lst (pa_cons (pe_call GF (by exact hr1) (by rfl) AF.m AF.k AF.b .nil pass0 (pa_cons (pv 1) pa_nil)) pa_nil))) pa_nil)) (pa_cons (pv 2) (pa_cons (pv 3) (pa_cons (pv 4) pa_nil))))))
      (pss_one (ps_ret (pe_and (pv 7) (pe_and (pe_cmpR op_eq (pe_callTy (call_strI (C := CI) (E := E0) GT (by exact hr3) bT pass0 hT iT) (by rfl) T.n_str (by decide +kernel) (pa_cons (pv 0) pa_nil)) (pe_join pe_str (pv 6)) (nomark _)) (pe_and (pe_cmpR (op_eqI (C := CI) (E := E0) GE hr2 bE pass0 hE iE) (pv 0) (pv 8) (nomark _)) (pe_and (pe_not (pe_cmpR (op_neI (C := CI) (E := E0) GE hr3 bE pass0 nE) (pv 0) (pv 8) (nomark _))) (pe_one (pe_cmpR (op_neI (C := CI) (E := E0) GE hr3 bE pass0 nE) (pv 0) (pv 9) (nomark _)))))))))))))), ?_⟩
    have z1 : (100000 : Nat) ≤ sizeLine := by decide
    have fy := ans_fits ok
    obtain ⟨nlt, hlt⟩ := due_non due
    have hsq := SqL.of (K := K) hS
    -- due
    refine ⟨_, rfl, _, rfl, a, ys, rfl, hsq, by omega, fy, fun H1 t1 ks1 s1 e1 so1 => ?_⟩
    cases setOf_one so so1
    refine ⟨_, rfl, by show 3 ≤ sizeLine; omega, fun d hd => ?_⟩
    have s2 := s1.trans (Ask.Same.made1 (o := .lst [.str k, .ref t1, lt]) (Same.refl H1) hd)
    have e2 := Ask.Same.made1 (o := .lst [.str k, .ref t1, lt]) (Same.refl H1) hd _ _ e1
    have f2 : upd H1 d (.lst [.str k, .ref t1, lt]) d = some (.lst [.str k, .ref t1, lt]) := upd_same
    generalize upd H1 d (.lst [.str k, .ref t1, lt]) = H2 at s2 e2 f2 ⊢
    clear s1 e1 hd so1
    -- parts
    refine ⟨_, rfl, _, rfl, by show 2 ≤ sizeLine; omega, fun m hm => ⟨m, rfl, ⟨_, SqL.of upd_same⟩, fun L hL => ?_⟩⟩
    have s3 := Ask.Same.made1 (o := .lst [.str k, lt]) (Same.refl H2) hm
    have f3 : upd H2 m (.lst [.str k, lt]) m = some (.lst [.str k, lt]) := upd_same
    generalize upd H2 m (.lst [.str k, lt]) = H3 at s3 f3 hL ⊢
    refine lc_it (walk_list (xs := [.str k, lt])) (fun i H' => Same H3 H' ∧ H' L = some (.lst (noN (([.str k, lt] : List V).take i)))) ⟨Ask.Same.upd_new (Same.refl _) hL, upd_same⟩ (fun i H' _ hh => hh.1.seq (SqL.of f3)) ?_ ?_
    · rintro i v H4 H5 hi ⟨s4, hL4⟩ ⟨rfl, hv⟩
      refine ⟨rfl, _, rfl, rfl, _, rfl, ?_⟩
      have e := noN_more hv
      have n := noN_len [.str k, lt] i
      have n3 : ([.str k, lt] : List V).length = 2 := rfl
      refine ite2 (fun q => ?_) (fun q => ?_)
      · rw [if_pos q] at e
        exact ⟨_, rfl, _, hL4, by omega, Ask.Same.upd_new s4 hL, by rw [upd_same, e]⟩
      · rw [if_neg q, List.append_nil] at e
        exact ⟨s4, by rw [e]; exact hL4⟩
    rintro H4 ⟨s4, hL4⟩
    obtain ⟨hd, eh, ew⟩ := noN_head (k := k) nlt
    replace hL4 : H4 L = some (.lst (hd.map V.str)) := by
      rw [← eh]
      exact hL4
    have lh : hd.length ≤ 2 := by
      have := congrArg List.length eh
      rw [List.length_map] at this
      rw [← this]
      exact Nat.le_trans (List.length_filter_le _ _) (Nat.le_refl _)
    have s24 := s3.trans s4
    replace s4 := s2.trans s24
    refine ⟨_, rfl, a, ys, rfl, s4.seq hsq, by omega, fy, fun H5 t5 ks5 s5 e5 so5 => ?_⟩
    cases setOf_one so so5
    refine ⟨t5, _, rfl, .inr (SqT.of e5), fun l5 hl5 => ?_⟩
    have s6 := Ask.Same.made1 (o := .lst (ks.map V.str)) s5 hl5
    have f6 : upd H5 l5 (.lst (ks.map V.str)) l5 = some (.lst (ks.map V.str)) := upd_same
    generalize upd H5 l5 (.lst (ks.map V.str)) = H6 at s6 f6 ⊢
    refine ⟨L, l5, _, _, rfl, rfl, s6 _ _ hL4, f6, by rw [List.length_map, List.length_map]; omega, fun c hc => ?_⟩
    have s7 := Ask.Same.made1 (o := .lst (hd.map V.str ++ ks.map V.str)) s6 hc
    have f7 : upd H6 c (.lst (hd.map V.str ++ ks.map V.str)) c = some (.lst ((wordsL k lt ks).map V.str)) := by
      rw [upd_same, ew, List.map_append]
    generalize upd H6 c (.lst (hd.map V.str ++ ks.map V.str)) = H7 at s7 f7 ⊢
    replace e2 := (s24.trans s7) _ _ e2
    replace f2 := (s24.trans s7) _ _ f2
    replace s7 := s4.trans s7
    clear s4 s24 s6 f6 s5 e5 so5 hL4 s3 f3 hL hm s2 hc hl5
    -- is kept
    obtain ⟨dx, m0, t0, t2, hp, hM, ht2⟩ := id (hA.same s7)
    refine ⟨_, rfl, p, CI, dx, _, _, rfl, hp, hC.c, hC.a2, rfl, _, rfl, p, CI, dx, _, _, rfl, hp, hC.c, hC.a3, rfl, _, rfl, p, CI, dx, _, _, rfl, hp, hC.c, hC.a4, rfl, by show 3 ≤ sizeLine; omega, fun r hr' => ?_⟩
    have s8 := Ask.Same.made1 (o := .lst [.str k, .ref t2, lt]) (Same.refl H7) hr'
    have f8 : upd H7 r (.lst [.str k, .ref t2, lt]) r = some (.lst [.str k, .ref t2, lt]) := upd_same
    generalize upd H7 r (.lst [.str k, .ref t2, lt]) = H8 at s8 f8 ⊢
    have dk := limD_dk (k := k) (ks := ks) hk le (fun z hz => ans_fit (ok z ((so.2.2 z).mp hz))) nlt (fun z hz => lts.ok z (hlt z hz))
    refine ⟨.ref r, limD k ks lt, rfl, limD_dp f8 (s8 _ _ ht2) nlt, dk.sho, dk.nod, Nat.le_trans dk.dep (by decide), Nat.le_trans dk.len (by omega), ?_⟩
    refine ⟨_, rfl, .ref d, limD k ks lt, rfl, limD_dp (s8 _ _ f2) (s8 _ _ e2) nlt, dk.sho, dk.nod, Nat.le_trans dk.dep (by decide), Nat.le_trans dk.len (by omega), ?_⟩
    refine ⟨rfl, _, rfl, ?_⟩
    rw [decide_eq_true rfl]
    have fw := lts.fit
    replace f7 := s8 _ _ f7
    replace hM := hM.same s8
    replace hp := s8 _ _ hp
    obtain ⟨d0, o0, g0, _, _⟩ := id hM
    replace s8 := s7.trans s8
    clear f8 f2 e2 dk s7 hr' ht2
    refine iteT ⟨_, rfl, p, CI, dx, _, _, rfl, hp, hC.c, hC.a1, rfl, _, rfl, fun x xd hx hxd hne => let_made lts (.inl (s8.seq hL)) hx hxd hne fun H9 t9 s9 hM9 => ⟨rfl, ?_⟩⟩
    obtain ⟨d9, o9, g9, _, _⟩ := id hM9
    refine ⟨m0, x, d0, d9, _, _, rfl, rfl, s9 _ _ g0, g9, m0, t0, x, t9, ws, ws, rfl, hM.same s9, hM9, fw, fw, _, rfl, ?_⟩
    rw [eqv_strs, decide_eq_true rfl]
    replace f7 := s9 _ _ f7
    replace s9 := s8.trans s9
    clear s8 hp hM g0 g9 hM9 hx hxd hne
    -- twin
    refine ⟨_, rfl, fun m md hm hmd hne => let_made lts (.inl (s9.seq hL)) hm hmd hne fun H10 t10 s10 hM10 => ⟨rfl, ?_⟩⟩
    have f10 := s10 _ _ f7
    replace s10 := s9.trans s10
    refine ⟨_, rfl, _, rfl, a, _, rfl, s10.seq hsq, fun r hr' => ?_⟩
    have s11 := Ask.Same.made1 (o := .lst (ys.map V.str).reverse) (Same.refl H10) hr'
    have f11 : upd H10 r (.lst (ys.map V.str).reverse) r = some (.lst (ys.map V.str).reverse) := upd_same
    generalize upd H10 r (.lst (ys.map V.str).reverse) = H11 at s11 f11 ⊢
    refine ⟨_, rfl, r, a, _, _, rfl, rfl, f11, s11 _ _ (s10 _ _ hS), by rw [List.length_reverse, List.length_map]; omega, fun c2 hc2 => ?_⟩
    have s12 := Ask.Same.made1 (o := .lst ((ys.map V.str).reverse ++ ys.map V.str)) s11 hc2
    have f12 : upd H11 c2 (.lst ((ys.map V.str).reverse ++ ys.map V.str)) c2 = some (.lst ((ys.reverse ++ ys).map V.str)) := by
      rw [upd_same, List.map_append, List.map_reverse]
    generalize upd H11 c2 (.lst ((ys.map V.str).reverse ++ ys.map V.str)) = H12 at s12 f12 ⊢
    have both : ∀ z, z ∈ ys.reverse ++ ys ↔ z ∈ ys := fun z => by
      rw [List.mem_append, List.mem_reverse]
      exact ⟨fun h => h.elim id id, .inl⟩
    refine ⟨_, rfl, fun q qd hq hqd hnq => lim_made (hM10.same s12) hk due (SqL.of f12) (by rw [List.length_append, List.length_reverse]; omega) (fun e => ny (List.append_eq_nil_iff.mp e).2) (fun z hz => ok z ((both z).mp hz)) (setOf_more so both) le hq hqd hnq fun H13 s13 hB => ⟨rfl, ?_⟩⟩
    have f13 := s13 _ _ (s12 _ _ f10)
    replace s13 := s10.trans (s12.trans s13)
    clear f10 s10 s11 f11 s12 f12 hM10 hq hqd hnq hc2 hr' hm hmd hne f7 s9
    -- other
    refine ⟨_, rfl, _, rfl, l0, ws, rfl, s13.seq hL, by omega, fun H14 z s14 hz1 hz2 hz3 hz4 => ?_⟩
    refine ⟨by show 1 ≤ sizeLine; omega, fun l hl => ?_⟩
    have s15 := Ask.Same.made1 (o := .lst [.str z]) s14 hl
    have f15 : upd H14 l (.lst [.str z]) l = some (.lst [.str z]) := upd_same
    generalize upd H14 l (.lst [.str z]) = H15 at s15 f15 ⊢
    refine ⟨l0, l, _, _, rfl, rfl, s15 _ _ (s13 _ _ hL1), f15, by rw [List.length_map]; show _ + 1 ≤ sizeLine; omega, fun c3 hc3 => ?_⟩
    have s16 := Ask.Same.made1 (o := .lst (ws.map V.str ++ [.str z])) s15 hc3
    have f16 : upd H15 c3 (.lst (ws.map V.str ++ [.str z])) c3 = some (.lst ((ws ++ [z]).map V.str)) := by
      rw [upd_same, List.map_append]
      rfl
    generalize upd H15 c3 (.lst (ws.map V.str ++ [.str z])) = H16 at s16 f16 ⊢
    have lz : Lts (ws ++ [z]) := lts.more hz1 hz2 hz3 hz4 w11
    have duez : dueB (ws ++ [z]) (.str k) lt = true := by
      unfold dueB at due ⊢
      split at due
      · rename_i q
        rw [if_pos q]
        obtain ⟨y, rfl, hy⟩ := inB_some due
        exact decide_eq_true (List.mem_append_left _ hy)
      · rename_i q
        rw [if_neg q]
        exact due
    refine fun m md hm hmd hne => let_made lz (.inl (SqL.of f16)) hm hmd hne fun H17 t17 s17 hM17 => ⟨rfl, _, rfl, _, rfl, _, rfl, fun o od ho hod hno => lim_made hM17 hk duez ((s16.trans s17).seq (s13.seq hsq)) (by omega) ny ok so le ho hod hno fun H18 s18 hO => ⟨rfl, ?_⟩⟩
    have s138 := (s16.trans s17).trans s18
    have f18 := s138 _ _ f13
    have hB18 := hB.same s138
    have s018 := s13.trans s138
    have hA18 := hA.same s018
    clear f13 hB s138 s13 s14 s15 f15 s16 f16 s17 hM17 s18 ho hod hno hm hmd hne hc3 hl
    obtain ⟨dp, mp, tp, t2p, hp, _, _⟩ := id hA18
    obtain ⟨dq, mq, tq, t2q, hq, _, _⟩ := id hB18
    obtain ⟨do', mo, to, t2o, ho, _, _⟩ := id hO
    have fk : FitL ks := fun z hz => fy z ((so.2.2 z).mp hz)
    have sz : ((wordsL k lt ks).map (·.length)).sum + (wordsL k lt ks).length * 1 ≤ 16777216 := wordsL_size hk le (fun z hz => (ans_fit (ok z ((so.2.2 z).mp hz))).1) (fun z hz => (lts.ok z (hlt z hz)).2.1)
    have nz : ¬ (ws = ws ++ [z] ∧ k = k ∧ ks = ks ∧ lt = lt) := fun e => by
      have := congrArg List.length e.1
      rw [List.length_append] at this
      have this : ws.length = ws.length + 1 := this
      omega
    have all : ws = ws ∧ k = k ∧ ks = ks ∧ lt = lt := ⟨rfl, rfl, rfl, rfl⟩
    refine ⟨_, rfl, _, rfl, iteT ⟨_, rfl, p, dp, _, rfl, hp, p, ws, ks, k, lt, rfl, hA18, nlt, by omega, sz, fun H19 s19 => ⟨_, rfl, ?_⟩⟩⟩
    have hp9 := s19 _ _ hp
    have hq9 := s19 _ _ hq
    have ho9 := s19 _ _ ho
    refine ⟨⟨_, rfl⟩, _, rfl, _, c, wordsL k lt ks, rfl, rfl, .inl (SqL.of (s19 _ _ f18)), sz, rfl, _, rfl, ?_⟩
    rw [decide_eq_true rfl]
    refine iteT ⟨_, rfl, _, rfl, p, q, dp, dq, _, _, rfl, rfl, hp9, hq9, p, q, ws, ws, ks, ks, k, k, lt, lt, rfl, hA18.same s19, hB18.same s19, fw, fw, fk, fk, nlt, nlt, _, rfl, _, rfl, ?_⟩
    rw [decide_eq_true all]
    refine iteT ⟨_, rfl, _, rfl, p, q, dp, dq, _, _, rfl, rfl, hp9, hq9, p, q, ws, ws, ks, ks, k, k, lt, lt, rfl, hA18.same s19, hB18.same s19, fw, fw, fk, fk, nlt, nlt, _, rfl, ?_⟩
    rw [decide_eq_true all]
    refine ⟨_, rfl, _, rfl, iteT ⟨_, rfl, _, rfl, p, o, dp, do', _, _, rfl, rfl, hp9, ho9, p, o, ws, ws ++ [z], ks, ks, k, k, lt, lt, rfl, hA18.same s19, hO.same s19, fw, lz.fit, fk, fk, nlt, nlt, _, rfl, ?_⟩⟩
    rw [decide_eq_false nz]
    exact kq _ (s018.trans s19)
end
end Ask

namespace Ask
open PySem L2
/-- an answer of the law's pool -/
def Gd (z : Str) : Prop := ansS z = true ∧ z.length ≠ 11
/-- a list of the law's that grows by answers while the pen moves -/
def Zs (p c : Addr) (ns : List Int) (H0 : Hp) (L : Addr) (B k : Nat) (i : Nat) (H : Hp) : Prop := ∃ zs : List Str, Go p c ns H0 H (B + k * i) ∧ H L = some (.lst (zs.map V.str)) ∧ zs.length = i ∧ ∀ z ∈ zs, Gd z
theorem Zs.next {p c L : Addr} {ns : List Int} {H0 H H' : Hp} {B k i : Nat} {z : Str} (h : Zs p c ns H0 L B k i H) (g : Go p c ns H H' (B + k * i + k)) (n : H0 L = none) (hi : i ≤ 1000) (hz : Gd z) : ∃ acc, H' L = some (.lst acc) ∧ acc.length < sizeLine ∧ Zs p c ns H0 L B k (i + 1) (upd H' L (.lst (acc ++ [.str z]))) := by
  obtain ⟨zs, g0, e, l, a⟩ := h
  have z1 : (100000 : Nat) ≤ sizeLine := by decide
  refine ⟨_, g.lst e, by rw [List.length_map]; omega, zs ++ [z], ?_, ?_, by rw [List.length_append, l]; rfl, fun y hy => ?_⟩
  · have := (g0.step g).mut (q := L) (o := .lst (zs.map V.str ++ [.str z])) n
    exact this.mono (by rw [Nat.mul_add, Nat.mul_one]; omega)
  · rw [upd_same, List.map_append]
    rfl
  · rcases List.mem_append.mp hy with hy | hy
    · exact a y hy
    · rw [List.mem_singleton.mp hy]
      exact hz
theorem ItL.app {N : Addr → Prop} {H : Hp} : ∀ {xs ys : List V} {ds es : List PyData}, ItL N H xs ds → ItL N H ys es → ItL N H (xs ++ ys) (ds ++ es)
  | [], _, [], _, _, k => k
  | [], _, _ :: _, _, h, _ => h.elim
  | _ :: _, _, [], _, h, _ => h.elim
  | _ :: _, _, _ :: _, _, h, k => ⟨h.1, h.2.app k⟩
/-- no text of these has eleven signs -/
def No11 (xs : List V) : Prop := ∀ z, V.str z ∈ xs → z.length ≠ 11
def oddL (u x : Addr) : List V := [.non, .bl true, .int 3, .str "", .str "1a", .str "A", .str (repS "a" 13), .str "a b", .str "~a", .ref u, .str "a_", .str "Yes", .ref x, .str " a", .str "a\n"]
theorem odd_it {p u x : Addr} {H : Hp} {v : V} (h : v ∈ oddL u x) (eu : H u = some (.tup [.str "a"])) (ex : H x = some (.lst [.str "a"])) (nu : u ≠ p) (nx : x ≠ p) : ∃ d, ItV (fun b => b ≠ p) H v d ∧ ∀ z, v = .str z → z.length ≠ 11 := by
  have st : ∀ z : Str, (z.length ≤ 500 ∧ Asc z) → z.length ≠ 11 → ∃ d, ItV (fun b => b ≠ p) H (.str z) d ∧ ∀ y, V.str z = .str y → y.length ≠ 11 := fun z hz n => ⟨.str z, .inr (.inr (.inr ⟨z, hz, .inl ⟨rfl, rfl⟩⟩)), fun y e => by cases e; exact n⟩
  have aa : Asc ("a" : Str) := .lit (by decide +kernel)
  simp only [oddL, List.mem_cons, List.not_mem_nil, or_false] at h
  rcases h with rfl | rfl | rfl | rfl | rfl | rfl | rfl | rfl | rfl | rfl | rfl | rfl | rfl | rfl | rfl
  · exact ⟨.none, .inl ⟨rfl, rfl⟩, fun z e => by cases e⟩
  · exact ⟨.bool true, .inr (.inl ⟨rfl, rfl⟩), fun z e => by cases e⟩
  · exact ⟨.int 3, .inr (.inr (.inl ⟨rfl, rfl⟩)), fun z e => by cases e⟩
  · exact st _ ⟨by decide +kernel, .lit (by decide +kernel)⟩ (by decide +kernel)
  · exact st _ ⟨by decide +kernel, .lit (by decide +kernel)⟩ (by decide +kernel)
  · exact st _ ⟨by decide +kernel, .lit (by decide +kernel)⟩ (by decide +kernel)
  · exact st _ ⟨by decide +kernel, show ∀ c ∈ (repS "a" 13).cps.toList, c < 128 by decide +kernel⟩ (by decide +kernel)
  · exact st _ ⟨by decide +kernel, .lit (by decide +kernel)⟩ (by decide +kernel)
  · exact st _ ⟨by decide +kernel, .lit (by decide +kernel)⟩ (by decide +kernel)
  · exact ⟨.tuple [.str "a"], .inr (.inr (.inr ⟨"a", ⟨by decide +kernel, aa⟩, .inr ⟨u, rfl, nu, .inr ⟨eu, rfl⟩⟩⟩)), fun z e => by cases e⟩
  · exact st _ ⟨by decide +kernel, .lit (by decide +kernel)⟩ (by decide +kernel)
  · exact st _ ⟨by decide +kernel, .lit (by decide +kernel)⟩ (by decide +kernel)
  · exact ⟨.list [.str "a"], .inr (.inr (.inr ⟨"a", ⟨by decide +kernel, aa⟩, .inr ⟨x, rfl, nx, .inl ⟨ex, rfl⟩⟩⟩)), fun z e => by cases e⟩
  · exact st _ ⟨by decide +kernel, .lit (by decide +kernel)⟩ (by decide +kernel)
  · exact st _ ⟨by decide +kernel, .lit (by decide +kernel)⟩ (by decide +kernel)
theorem wrong_one {xs : List V} {i j : Int} (a : wrongAt xs i) (b : wrongAt xs j) : i = j := by
  rcases a with ⟨e, rfl⟩ | ⟨m, v, rfl, em, fm, lm⟩ <;> rcases b with ⟨e2, rfl⟩ | ⟨n, u, rfl, en, fn, ln⟩
  · rfl
  · rw [e] at en; cases en
  · rw [e2] at em; cases em
  · rcases Nat.lt_trichotomy m n with h | h | h
    · have := ln m h v em
      rw [fm] at this
      cases this
    · rw [h]
    · have := lm n h u en
      rw [fn] at this
      cases this
/-- the answers are good ones, ks their set -/
def GoodA (xs : List V) (ks : List Str) : Prop := ∃ ys : List Str, xs = ys.map V.str ∧ ys ≠ [] ∧ (∀ y ∈ ys, ansS y = true) ∧ SetOfS ys ks
theorem good_one {xs : List V} {ks js : List Str} (a : GoodA xs ks) (b : GoodA xs js) : ks = js := by
  obtain ⟨ys, e, _, _, s⟩ := a
  obtain ⟨zs, e2, _, _, s2⟩ := b
  have := strs_inj (e.symm.trans e2)
  subst this
  exact setOf_one s s2
theorem good_wrong {xs : List V} {ks : List Str} {i : Int} (a : GoodA xs ks) (b : wrongAt xs i) : False := by
  obtain ⟨ys, rfl, n, o, _⟩ := a
  exact wrong_no b n o
theorem good_fit {xs : List V} {ks : List Str} (a : GoodA xs ks) : ∀ z ∈ ks, ansS z = true := by
  obtain ⟨ys, _, _, o, s⟩ := a
  exact fun z hz => o z ((s.2.2 z).mp hz)
/-- what the answers come to, as data; q: with the word «set» for good ones -/
def TD (xs : List V) (d : PyData) : Prop := (∃ i : Int, wrongAt xs i ∧ d = .tuple [.str "answers", .int i]) ∨ (∃ ks : List Str, GoodA xs ks ∧ 6 < ks.length ∧ d = .tuple [.str "many", .str "answers", .int (ks.length : Nat), .int 6]) ∨
  (∃ ks : List Str, GoodA xs ks ∧ ks.length ≤ 6 ∧ d = .tuple [.str "set", .tuple (ks.map PyData.str)])
theorem td_one {xs : List V} {d e : PyData} (a : TD xs d) (b : TD xs e) : d = e := by
  rcases a with ⟨i, w, rfl⟩ | ⟨ks, g, l, rfl⟩ | ⟨ks, g, l, rfl⟩ <;> rcases b with ⟨j, w2, rfl⟩ | ⟨js, g2, l2, rfl⟩ | ⟨js, g2, l2, rfl⟩
  · rw [wrong_one w w2]
  · exact (good_wrong g2 w).elim
  · exact (good_wrong g2 w).elim
  · exact (good_wrong g w2).elim
  · rw [good_one g g2]
  · rw [good_one g g2] at l; omega
  · exact (good_wrong g w2).elim
  · rw [good_one g g2] at l; omega
  · rw [good_one g g2]
theorem td_shaped {xs : List V} {d : PyData} (a : TD xs d) : SeqAt.shaped d = true := by
  rcases a with ⟨i, w, rfl⟩ | ⟨ks, g, l, rfl⟩ | ⟨ks, g, l, rfl⟩
  · exact shaped_of (by show (PyData.canLay0 (.str "answers") && (true && true)) = true; decide +kernel) (by show max 0 (max 0 0) + 1 ≤ 64; decide)
  · exact shaped_of (by show (PyData.canLay0 (.str "many") && (PyData.canLay0 (.str "answers") && (true && (true && true)))) = true; decide +kernel) (by show max 0 (max 0 (max 0 (max 0 0))) + 1 ≤ 64; decide)
  · have f := (fit_strs (ans_fits (good_fit g))).lay
    refine shaped_of ?_ ?_
    · show (PyData.canLay0 (.str "set") && (PyData.canLayAll0 (ks.map PyData.str) && true)) = true
      rw [f]
      decide +kernel
    · show max 0 (max (PyData.depthAll (ks.map PyData.str) + 1) 0) + 1 ≤ 64
      rw [strs_depth]
      decide
theorem td_refl {xs : List V} {d : PyData} (a : TD xs d) : PyData.eqv d d = true := PySem.SeqAt.eqv_refl _ (by
  rcases a with ⟨i, w, rfl⟩ | ⟨ks, g, l, rfl⟩ | ⟨ks, g, l, rfl⟩
  · show (PyData.canLay0 (.str "answers") && (true && true)) = true; decide +kernel
  · show (PyData.canLay0 (.str "many") && (PyData.canLay0 (.str "answers") && (true && (true && true)))) = true; decide +kernel
  · show (PyData.canLay0 (.str "set") && (PyData.canLayAll0 (ks.map PyData.str) && true)) = true
    rw [(fit_strs (ans_fits (good_fit g))).lay]
    decide +kernel)
/-- a value that is the data d, a tuple in the heap -/
def Tp (K : PySem.W.Frag) (H : Hp) (v : V) (d : PyData) : Prop := ∃ t vs, v = .ref t ∧ H t = some (.tup vs) ∧ Dp K H v d
section
variable {K : PySem.W.Frag} {H : Hp} {p a : Addr} {xs : List V} {ds : List PyData} {N : Addr → Prop} {Q : VK} {E : XK}
theorem due_of (hS : SqL K H a xs) (hI : ItL N H xs ds) (hN : ∀ b, N b → b ≠ p) (hn : xs.length ≤ 60) (k : ∀ (H' : Hp) (v : V), Same H H' → ((∃ d, TD xs d ∧ Tp K H' v d ∧ ¬ ∃ ks, GoodA xs ks ∧ ks.length ≤ 6) ∨ (v = .non ∧ ∃ ks, GoodA xs ks ∧ ks.length ≤ 6)) → Q v H') : spDue K [.ref a] H Q E := by
  refine ⟨p, a, xs, ds, N, rfl, hS, hI, hN, hn, fun H' t i wr s e => k _ _ s (.inl ⟨_, .inl ⟨i, wr, rfl⟩, ⟨t, _, rfl, e, .tup (SqT.of e) (.cons (.str _) (.cons (.int _) .nil))⟩, fun ⟨ks, g, _⟩ => good_wrong g wr⟩), fun ys ks ex ny ok so => ⟨fun H' t l s e => k _ _ s (.inl ⟨_, .inr (.inl ⟨ks, ⟨ys, ex, ny, ok, so⟩, l, rfl⟩), ⟨t, _, rfl, e, .tup (SqT.of e) (.cons (.str _) (.cons (.str _) (.cons (.int _) (.cons (.int _) .nil))))⟩, fun ⟨js, g, l2⟩ => ?_⟩), fun H' l s => k _ _ s (.inr ⟨rfl, ks, ⟨ys, ex, ny, ok, so⟩, l⟩)⟩⟩
  rw [good_one (xs := xs) ⟨ys, ex, ny, ok, so⟩ g] at l
  omega
theorem told_of (hS : SqL K H a xs) (hn : xs.length ≤ 60) (hv : ∀ v ∈ xs, Vl p H v) (k : ∀ (H' : Hp) (v : V) (d : PyData), Same H H' → TD xs d → Dp K H' v d → Q v H') : spToldA K [.ref a] H Q E := by
  refine ⟨p, a, xs, rfl, hS, hn, hv, fun H' t i wr s e => k _ _ _ s (.inl ⟨i, wr, rfl⟩) (.tup (SqT.of e) (.cons (.str _) (.cons (.int _) .nil))), fun ys ks ex ny ok so => ⟨fun H' t l s e => k _ _ _ s (.inr (.inl ⟨ks, ⟨ys, ex, ny, ok, so⟩, l, rfl⟩)) (.tup (SqT.of e) (.cons (.str _) (.cons (.str _) (.cons (.int _) (.cons (.int _) .nil))))), fun H' t t2 l s e e2 => k _ _ _ s (.inr (.inr ⟨ks, ⟨ys, ex, ny, ok, so⟩, l, rfl⟩)) (.tup (SqT.of e) (.cons (.str _) (.cons (.tup (SqT.of e2) (dp_strs ks)) .nil)))⟩⟩
end
theorem sub_tupC {K : PySem.W.Frag} {C : Addr} : PySem.W.subIn K (.type "tuple") (.ref C) = some false := by
  show (fastBuiltinMro "tuple").map (·.contains (.ref C)) = some false
  have e : fastBuiltinMro "tuple" = some [.type "tuple", .type "object"] := by decide +kernel
  rw [e]
  rfl
/-- what the parts of a limit come to: an error as data, or none -/
def OutL (ws : List Str) (kd lt : V) (xs : List V) (o : Option PyData) : Prop := (inB LM kd = false ∧ o = some (.tuple [.str "kind"])) ∨ (inB LM kd = true ∧ ((∃ i : Int, wrongAt xs i ∧ o = some (.tuple [.str "answers", .int i])) ∨
  (∃ ks : List Str, GoodA xs ks ∧ ((6 < ks.length ∧ o = some (.tuple [.str "many", .str "answers", .int (ks.length : Nat), .int 6])) ∨ (ks.length ≤ 6 ∧ ((dueB ws kd lt = false ∧ o = some (.tuple [.str "letter", .int 0])) ∨ (dueB ws kd lt = true ∧ o = none)))))))
theorem out_one {ws : List Str} {kd lt : V} {xs : List V} {o q : Option PyData} (a : OutL ws kd lt xs o) (b : OutL ws kd lt xs q) : o = q := by
  rcases a with ⟨k, rfl⟩ | ⟨k, ⟨i, w, rfl⟩ | ⟨ks, g, ⟨l, rfl⟩ | ⟨l, ⟨d, rfl⟩ | ⟨d, rfl⟩⟩⟩⟩ <;> rcases b with ⟨k2, rfl⟩ | ⟨k2, ⟨j, w2, rfl⟩ | ⟨js, g2, ⟨l2, rfl⟩ | ⟨l2, ⟨d2, rfl⟩ | ⟨d2, rfl⟩⟩⟩⟩
  all_goals first
    | rfl
    | exact (Bool.false_ne_true (k.symm.trans k2)).elim
    | exact (Bool.false_ne_true (k2.symm.trans k)).elim
    | exact (good_wrong g2 w).elim
    | exact (good_wrong g w2).elim
    | (rw [wrong_one w w2]; done)
    | exact (Bool.false_ne_true (d.symm.trans d2)).elim
    | exact (Bool.false_ne_true (d2.symm.trans d)).elim
    | (exfalso; rw [good_one g g2] at l; omega)
    | (rw [good_one g g2]; done)
theorem out_lay {ws : List Str} {kd lt : V} {xs : List V} {d : PyData} (a : OutL ws kd lt xs (some d)) : d.canLay0 = true ∧ d.depth ≤ 64 := by
  rcases a with ⟨k, e⟩ | ⟨k, ⟨i, w, e⟩ | ⟨ks, g, ⟨l, e⟩ | ⟨l, ⟨dd, e⟩ | ⟨dd, e⟩⟩⟩⟩
  · cases e; exact ⟨by decide +kernel, by decide +kernel⟩
  · cases e; exact ⟨by show (PyData.canLay0 (.str "answers") && (true && true)) = true; decide +kernel, by show max 0 (max 0 0) + 1 ≤ 64; decide⟩
  · cases e; exact ⟨by show (PyData.canLay0 (.str "many") && (PyData.canLay0 (.str "answers") && (true && (true && true)))) = true; decide +kernel, by show max 0 (max 0 (max 0 (max 0 0))) + 1 ≤ 64; decide⟩
  · cases e; exact ⟨by decide +kernel, by decide +kernel⟩
  · cases e
section
variable {K : PySem.W.Frag} {CL CI pp l0 a : Addr} {H : Hp} {kd lt : V} {xs : List V} {ds : List PyData} {N : Addr → Prop} {ws : List Str} {Q : VK} {E : XK}
theorem limT_of (hL : SqL K H l0 (ws.map V.str)) (lts : Lts ws) (vk : Val pp H kd) (vt : Val pp H lt) (hS : SqL K H a xs) (hn : xs.length ≤ 60) (hv : ∀ v ∈ xs, Vl pp H v)
    (k : ∀ (H' : Hp) (v : V), Same H H' → ((∃ d, OutL ws kd lt xs (some d) ∧ Tp K H' v d) ∨ (OutL ws kd lt xs none ∧ ∃ (p : Addr) (k : Str) (ks : List Str), v = .ref p ∧ kd = .str k ∧ k ∈ LM ∧ GoodA xs ks ∧ ks.length ≤ 6 ∧ LimAt K CL CI H' p ws k lt ks)) → Q v H') : spLimT K CL CI [.ref l0, kd, .ref a, lt] H Q E := by
  refine ⟨pp, l0, a, kd, lt, xs, ws, rfl, hL, lts, vk, vt, hS, hn, hv, fun bk H' t s e => k _ _ s (.inl ⟨_, .inl ⟨bk, rfl⟩, t, _, rfl, e, .tup (SqT.of e) (.cons (.str _) .nil)⟩), fun bk => ⟨fun H' t i wr s e => k _ _ s (.inl ⟨_, .inr ⟨bk, .inl ⟨i, wr, rfl⟩⟩, t, _, rfl, e, .tup (SqT.of e) (.cons (.str _) (.cons (.int _) .nil))⟩), fun ys ks ex ny ok so => ⟨fun H' t l s e => k _ _ s (.inl ⟨_, .inr ⟨bk, .inr ⟨ks, ⟨ys, ex, ny, ok, so⟩, .inl ⟨l, rfl⟩⟩⟩, t, _, rfl, e, .tup (SqT.of e) (.cons (.str _) (.cons (.str _) (.cons (.int _) (.cons (.int _) .nil))))⟩), fun l => ⟨fun bd H' t s e => k _ _ s (.inl ⟨_, .inr ⟨bk, .inr ⟨ks, ⟨ys, ex, ny, ok, so⟩, .inr ⟨l, .inl ⟨bd, rfl⟩⟩⟩⟩, t, _, rfl, e, .tup (SqT.of e) (.cons (.str _) (.cons (.int _) .nil))⟩), fun bd kk H' p ek hk s hA => k _ _ s (.inr ⟨.inr ⟨bk, .inr ⟨ks, ⟨ys, ex, ny, ok, so⟩, .inr ⟨l, .inr ⟨bd, rfl⟩⟩⟩⟩, p, kk, ks, rfl, ek, hk, ⟨ys, ex, ny, ok, so⟩, l, hA⟩)⟩⟩⟩⟩
theorem limD_of (hL : SqL K H l0 (ws.map V.str)) (vk : Val pp H kd) (vt : Val pp H lt) (hS : SqL K H a xs) (hI : ItL N H xs ds) (hN : ∀ b, N b → b ≠ pp) (hn : xs.length ≤ 60)
    (k : ∀ (H' : Hp) (v : V), Same H H' → ((∃ d, OutL ws kd lt xs (some d) ∧ Tp K H' v d) ∨ (OutL ws kd lt xs none ∧ v = .non)) → Q v H') : spLimD K [.ref l0, kd, .ref a, lt] H Q E := by
  refine ⟨pp, l0, a, kd, lt, xs, ds, N, ws, rfl, hL, vk, vt, hS, hI, hN, hn, fun bk H' t s e => k _ _ s (.inl ⟨_, .inl ⟨bk, rfl⟩, t, _, rfl, e, .tup (SqT.of e) (.cons (.str _) .nil)⟩), fun bk => ⟨fun H' t i wr s e => k _ _ s (.inl ⟨_, .inr ⟨bk, .inl ⟨i, wr, rfl⟩⟩, t, _, rfl, e, .tup (SqT.of e) (.cons (.str _) (.cons (.int _) .nil))⟩), fun ys ks ex ny ok so => ⟨fun H' t l s e => k _ _ s (.inl ⟨_, .inr ⟨bk, .inr ⟨ks, ⟨ys, ex, ny, ok, so⟩, .inl ⟨l, rfl⟩⟩⟩, t, _, rfl, e, .tup (SqT.of e) (.cons (.str _) (.cons (.str _) (.cons (.int _) (.cons (.int _) .nil))))⟩), fun l => ⟨fun bd H' t s e => k _ _ s (.inl ⟨_, .inr ⟨bk, .inr ⟨ks, ⟨ys, ex, ny, ok, so⟩, .inr ⟨l, .inl ⟨bd, rfl⟩⟩⟩⟩, t, _, rfl, e, .tup (SqT.of e) (.cons (.str _) (.cons (.int _) .nil))⟩), fun bd H' s => k _ _ s (.inr ⟨.inr ⟨bk, .inr ⟨ks, ⟨ys, ex, ny, ok, so⟩, .inr ⟨l, .inr ⟨bd, rfl⟩⟩⟩⟩, rfl⟩)⟩⟩⟩⟩
end
theorem setOf_ex : ∀ ys : List Str, ∃ ks, SetOfS ys ks ∧ ks.length ≤ ys.length := fun ys => by
  have all : ∀ i, i ≤ ys.length → ∃ ks, SetOfS (ys.take i) ks ∧ ks.length ≤ i := fun i => by
    induction i with
    | zero => exact fun _ => ⟨[], by rw [List.take_zero]; exact setOf_nil, Nat.le_refl _⟩
    | succ i ih =>
      intro hi
      obtain ⟨ks, s, l⟩ := ih (by omega)
      have e : ys[i]? = some ys[i] := List.getElem?_eq_getElem _
      by_cases h : ys[i] ∈ ks
      · exact ⟨ks, setOf_keep s e h, by omega⟩
      · refine ⟨_, setOf_put s e h, ?_⟩
        have := less_len ks ys[i]
        rw [List.length_append, List.length_append, List.length_drop]
        show _ + 1 + _ ≤ i + 1
        omega
  obtain ⟨ks, s, l⟩ := all ys.length (Nat.le_refl _)
  rw [List.take_length] at s
  exact ⟨ks, s, l⟩
mutual
theorem Dp.same {K : PySem.W.Frag} {H H' : Hp} (s : Same H H') : ∀ {v : V} {d : PyData}, Dp K H v d → Dp K H' v d
  | _, _, .non => .non
  | _, _, .bl b => .bl b
  | _, _, .int i => .int i
  | _, _, .str x => .str x
  | _, _, .lst h k => .lst (s.seq h) (DpAll.same s k)
  | _, _, .tup h k => .tup (seqT_same s h) (DpAll.same s k)
theorem DpAll.same {K : PySem.W.Frag} {H H' : Hp} (s : Same H H') : ∀ {vs : List V} {ds : List PyData}, DpAll K H vs ds → DpAll K H' vs ds
  | _, _, .nil => .nil
  | _, _, .cons h k => .cons (Dp.same s h) (DpAll.same s k)
end
theorem kit_other {K : PySem.W.Frag} {T : String} {C : Addr} (h1 : PySem.W.isClsIn K C = true) (h2 : PySem.W.typeIn K (.ref C) = some (.type "type")) (h3 : PySem.W.subIn K (.type T) (.ref C) = some false) : PySem.W.kitOne K (.type T) (.ref C) = some false := by
  unfold PySem.W.kitOne
  rw [if_neg (by simp)]
  have e2 : ((PySem.W.clsIn K C).isSome && PySem.W.typeIn K (.ref C) == some (.type "type")) = true := by
    have h2' : (PySem.W.clsIn K C).isSome = true := h1
    rw [h2', h2] <;> rfl
  show (if ((PySem.W.clsIn K C).isSome && PySem.W.typeIn K (.ref C) == some (.type "type")) = true then PySem.W.subIn K (.type T) (.ref C) else none) = some false
  rw [if_pos e2]
  exact h3
/-- data of a list of answers, shown -/
theorem itl_sho {N : Addr → Prop} {H : Hp} {xs : List V} {ds : List PyData} (h : ItL N H xs ds) (hn : xs.length ≤ 60) : (PyData.list ds).showable = true ∧ (PyData.list ds).hasDict = false ∧ (PyData.list ds).depth ≤ 30 ∧ (PyData.list ds).shown.length ≤ sizeLine := by
  have fit := h.fit
  have hl := h.len
  refine ⟨fit.sho, fit.nod, ?_, ?_⟩
  · show PyData.depthAll ds + 1 ≤ 30
    have := fit.dep
    omega
  · have e := listText_len_le (PyData.shownAll ds)
    have l := fit.len
    have c := fit.cnt
    rw [sizeLine_eq]
    show (listText (PyData.shownAll ds)).length ≤ _
    rw [c] at e
    omega
theorem pick_or {K : PySem.W.Frag} {b : Bool} {σ : L2.St} {H : Hp} {Q : VK} {p c l0 : Addr} {ns : List Int} {B : Nat} {ws : List Str} (e1 : σ[1]? = some (some (V.ref p))) (e3 : σ[3]? = some (some (V.ref l0))) (hp : Pen c ns H p B) (hB : B ≤ 100000000) (hL : SqL K H l0 (ws.map V.str)) (w0 : 0 < ws.length) (w1 : ws.length ≤ 1000)
    (k : ∀ (H' : Hp) (v : V), Go p c ns H H' (B + 1) → NonS v → Q v H') : if b = true then tCall (spPick K) [] E0 (tCons (tVar 1) (tCons (tVar 3) tNil)) σ H Q else tC .non σ H Q := by
  cases b with
  | false => exact k H _ ((Go.refl hp).mono (by omega)) (.inl rfl)
  | true =>
    refine ⟨_, e1, _, e3, p, c, ns, _, B, rfl, hp, by omega, .inl ⟨l0, _, rfl, hL, by rw [List.length_map]; exact w0, by rw [List.length_map]; exact w1, fun H' v g hv => ?_⟩⟩
    obtain ⟨z, _, rfl⟩ := List.mem_map.mp hv
    exact k H' _ g (.inr ⟨z, rfl⟩)
theorem Out.val {p : Addr} {H : Hp} {v : V} {ws : List Str} (h : Out p H v ws) : Val p H v := by
  obtain ⟨w, n⟩ := h
  rcases w with ⟨f, _⟩ | ⟨_, d, rfl, q⟩
  · exact .inl f
  · exact .inr ⟨d, rfl, n d rfl, q⟩
theorem atI_back {α : Type} {xs : List α} {v : α} (h : xs[xs.length - 1]? = some v) : atI xs (-1) = some v := by
  have ln := (List.getElem?_eq_some_iff.mp h).1
  have e : xs = xs.take (xs.length - 1) ++ [v] := by
    have h2 := List.take_append_getElem (l := xs) (i := xs.length - 1) ln
    rw [(List.getElem?_eq_some_iff.mp h).2] at h2
    rw [h2, List.take_of_length_le (by omega)]
  have k := atI_last (xs.take (xs.length - 1)) v
  rw [← e] at k
  exact k
theorem out_none {ws : List Str} {kd lt : V} {xs : List V} (h : OutL ws kd lt xs none) : dueB ws kd lt = true := by
  rcases h with ⟨k, e⟩ | ⟨k, ⟨i, w, e⟩ | ⟨ks, g, ⟨l, e⟩ | ⟨l, ⟨dd, e⟩ | ⟨dd, e⟩⟩⟩⟩
  · cases e
  · cases e
  · cases e
  · cases e
  · exact dd
theorem cut_five (ks : List Str) : ∃ js : List Str, cutV (ks.map V.str) none (some 5) = js.map V.str ∧ (∀ z ∈ js, z ∈ ks) ∧ js.length ≤ 5 := by
  refine ⟨ks.take 5, ?_, fun z hz => List.mem_of_mem_take hz, by rw [List.length_take]; omega⟩
  by_cases h : 5 ≤ ks.length
  · rw [show (some (5 : Int)) = some ((5 : Nat) : Int) from rfl, cutV_take _ _ (by rw [List.length_map]; exact h), List.map_take]
  · rw [show (some (5 : Int)) = some ((5 : Nat) : Int) from rfl, cutV_whole _ _ (by rw [List.length_map]; omega), List.take_of_length_le (by omega)]
def zz0 : Str := "zz0zz0zz0zz"
theorem zz0_ok : ansS zz0 = true ∧ zz0.length = 11 := by decide +kernel
end Ask

namespace Ask
open PySem L2

abbrev s_law : Stmt := top 41
def nLaw : List Str := ["_law_script", "_law_pen_here", "_law_turn", "_law_letters_here", "_law_pool", "_law_answers", "_law_at", "_law_odd_here", "_law_given", "_law_due_here", "_law_kind", "_law_letter", "_law_made", "_law_more", "_law_k"]
theorem sc_law : FnScope nLaw ["_law_script"] (defScope s_law) := ⟨rfl, rfl, rfl, by decide +kernel, rfl, by decide +kernel, by decide +kernel⟩
section
variable {P : Program} {w : World} {K : PySem.W.Frag} {mg : Str → Option Value} {base : Heap}
theorem run_law {f a f0 f1 f2 f3 f4 f5 f6 f7 f8 f9 f10 f11 fL fI fE CL CI CE CA CM CK CT : Addr} {fd fd0 fd1 fd2 fd3 fd4 fd5 fd6 fd7 fd8 fd9 fd10 fd11 fdL fdI fdE : FuncData} {u0 : Value} {A : Around} {outer : List Env} {s : Shared} {H : Hp} {ns : List Int}
    (F : Fun K "law" "law" s_law f fd) (T : Blt mg) (hC : LiC K CI) (Y : XkC K CI) (tI : PySem.W.typeIn K (.ref CI) = some (.type "type"))
    (G0 : FnOk P w K mg base CX0 1 f0 fd0 ["_law_script"] (spPen K)) (A0 : At K mg "_law_pen" f0 fd0 ["_law_script"])
    (G1 : FnOk P w K mg base CX0 1 f1 fd1 ["_law_pen_here", "_law_many"] spDraw) (A1 : At K mg "_law_draw" f1 fd1 ["_law_pen_here", "_law_many"])
    (G2 : FnOk P w K mg base CX0 2 f2 fd2 ["_law_pen_here", "_law_options"] (spPick K)) (A2 : At K mg "_law_pick" f2 fd2 ["_law_pen_here", "_law_options"])
    (G3 : FnOk P w K mg base CX0 3 f3 fd3 ["_law_pen_here", "_law_many"] spLettersD) (A3 : At K mg "_law_letters" f3 fd3 ["_law_pen_here", "_law_many"])
    (G4 : FnOk P w K mg base CX0 3 f4 fd4 ["_law_pen_here", "_law_letters_here"] (spOdd K)) (A4 : At K mg "_law_odd" f4 fd4 ["_law_pen_here", "_law_letters_here"])
    (G5 : FnOk P w K mg base CX0 3 f5 fd5 ["_law_pen_here"] spAnswer) (A5 : At K mg "_law_answer" f5 fd5 ["_law_pen_here"])
    (G6 : FnOk P w K mg base CX0 2 f6 fd6 ["_law_answers"] (spSet K)) (A6 : At K mg "_law_set" f6 fd6 ["_law_answers"])
    (G7 : FnOk P w K mg base CX0 3 f7 fd7 ["_law_answers"] (spDue K)) (A7 : At K mg "_law_due" f7 fd7 ["_law_answers"])
    (G8 : FnOk P w K mg base CX0 6 f8 fd8 ["_law_answers"] (spToldA K)) (A8 : At K mg "_law_told" f8 fd8 ["_law_answers"])
    (G9 : FnOk P w K mg base CX0 7 f9 fd9 ["_law_letters_here", "_law_kind", "_law_answers", "_law_letter"] (spLimT K CL CI)) (A9 : At K mg "_law_limit" f9 fd9 ["_law_letters_here", "_law_kind", "_law_answers", "_law_letter"])
    (G10 : FnOk P w K mg base CX0 4 f10 fd10 ["_law_letters_here", "_law_kind", "_law_answers", "_law_letter"] (spLimD K)) (A10 : At K mg "_law_limit_due" f10 fd10 ["_law_letters_here", "_law_kind", "_law_answers", "_law_letter"])
    (G11 : FnG P w K mg base CX0 7 f11 fd11 ["_law_made", "_law_letters_here", "_law_kind", "_law_answers", "_law_letter"] (spRightL K CL CI)) (A11 : At K mg "_law_is_right" f11 fd11 ["_law_made", "_law_letters_here", "_law_kind", "_law_answers", "_law_letter"])
    (ML : Mk K CL fL) (mL : mg "Letters" = some (.ref CL)) (bL : Binds K fdL ["self", "words"] []) (GL : FnOk P w K mg base (L2.CX P w) 4 fL fdL ["self", "words"] (spLet K CL CE CM))
    (MI : Mk K CI fI) (mI : mg "Limit" = some (.ref CI)) (bI0 : Binds K fdI ["self", "letters", "kind", "answers", "letter"] [u0]) (ru : RelV .non u0) (GI : FnOk P w K mg base (L2.CX P w) 5 fI fdI ["self", "letters", "kind", "answers", "letter"] (spLim K CL CI CK CA CM CT))
    (GE : FnOk P w K mg base CX0 2 fE fdE ["self", "other"] (spLEq K CL CI)) (bE : Binds K fdE ["self", "other"] []) (hE : PySem.W.findIn K (.ref CI) "__eq__" = some (some (.ref fE))) (iE : PySem.W.isFn K (.ref fE) = true)
    (hg : A.guards = some []) (hr : Room 9 A) (e0 : Env0 P w K mg base A outer s H) (bind : BindsTo s fd ⟨[.ref a], []⟩ [("_law_script", .ref a)]) (hS : SqL K H a (ns.map V.int)) (hl : ns.length ≤ 63) :
    codeAny (model P w) A (.call (.ref f) ⟨[.ref a], []⟩) (CR CX0 outer P w H s (fun v _ => v = .bl true) E0) s := by
  refine fn_run (us := [.ref a]) (vs := [.ref a]) F sc_law hr e0 bind (.cons rfl .nil) rfl fun cdv h8 => ?_
  have h1 := h8.mono (j := 1) (by decide)
  have h2 := h8.mono (j := 2) (by decide)
  have h3 := h8.mono (j := 3) (by decide)
  have h4 := h8.mono (j := 4) (by decide)
  have h5 := h8.mono (j := 5) (by decide)
  have h6 := h8.mono (j := 6) (by decide)
  have h7 := h8.mono (j := 7) (by decide)
  refine ⟨_, PSs.nox (pss_cons (ps_set (i := 1) sc_law.nd rfl (Or.inr rfl) (pe_call G0 (by exact h1) (by rfl) A0.m A0.k A0.b .nil pass0 (pa_cons (pv 0) pa_nil)))
      (pss_cons (ps_for PassesOwn.never rfl (pi_range1 rfl T.n_range (pa_cons pe_int pa_nil)) (pg_name (i := 2) sc_law.nd rfl (Or.inl rfl)) (pss_cons (ps_set (i := 3) sc_law.nd rfl (Or.inl rfl) (pe_call G3 (by exact h3) (by rfl) A3.m A3.k A3.b .nil pass0 (pa_cons (pv 1) (pa_cons (pe_op op_add pe_int (pe_call G1 (by exact h1) (by rfl) A1.m A1.k A1.b .nil pass0 (pa_cons (pv 1) (pa_cons pe_int pa_nil)))) pa_nil))))
      (pss_cons (ps_set (i := 4) sc_law.nd rfl (Or.inr rfl) (pe_lc (own := [("_law_k", 14)]) rfl sc_law.nd (pi_range1 rfl T.n_range (pa_cons (pe_op op_add pe_int (pe_call G1 (by exact h1) (by rfl) A1.m A1.k A1.b .nil pass0 (pa_cons (pv 1) (pa_cons pe_int pa_nil)))) pa_nil)) (blkOk_by (N := nLaw) (sc := defScope s_law) (by decide +kernel)) (fun _ _ _ _ _ => (pg_name (i := 14) sc_law.nd rfl (Or.inl rfl))) (fun _ _ _ _ _ => pts_nil) (fun _ _ _ _ _ => (pe_call G5 (by exact h3) (by rfl) A5.m A5.k A5.b .nil pass0 (pa_cons (pv 1) pa_nil)))))
      (pss_cons (ps_setLc (i := 5) (own := [("_law_k", 14)]) rfl sc_law.nd rfl rfl (sw_true rfl rfl rfl (by decide +kernel)) (pi_range1 rfl T.n_range (pa_cons (pe_call G1 (by exact h1) (by rfl) A1.m A1.k A1.b .nil pass0 (pa_cons (pv 1) (pa_cons pe_int pa_nil))) pa_nil)) (blkOk_by (N := nLaw) (sc := defScope s_law) (by decide +kernel)) (fun _ _ _ _ _ => (pg_name (i := 14) sc_law.nd rfl (Or.inl rfl))) (fun _ _ _ _ _ => pts_nil) (fun _ _ _ _ _ => (pe_call G2 (by exact h2) (by rfl) A2.m A2.k A2.b .nil pass0 (pa_cons (pv 1) (pa_cons (pv 4) pa_nil)))))
      (pss_cons (ps_if (pt_cmpR op_eq (pe_call G1 (by exact h1) (by rfl) A1.m A1.k A1.b .nil pass0 (pa_cons (pv 1) (pa_cons pe_int pa_nil))) pe_int (nomark _)) (pss_cons (ps_set (i := 6) sc_law.nd rfl (Or.inl rfl) (pe_call G1 (by exact h1) (by rfl) A1.m A1.k A1.b .nil pass0 (pa_cons (pv 1) (pa_cons (pe_op op_add (pe_callB call_len_seq (by rfl) T.n_len (by decide +kernel) (pa_cons (pv 5) pa_nil)) pe_int) pa_nil))))
      (pss_cons (ps_set (i := 7) sc_law.nd rfl (Or.inl rfl) (pe_lst (pa_cons pe_non (pa_cons pe_bl (pa_cons pe_int (pa_cons pe_str (pa_cons pe_str (pa_cons pe_str (pa_cons (pe_op op_mul_str pe_str pe_int) (pa_cons pe_str (pa_cons pe_str (pa_cons (pe_tup (pa_cons pe_str pa_nil)) (pa_cons pe_str (pa_cons pe_str (pa_cons (pe_lst (pa_cons pe_str pa_nil)) (pa_cons pe_str (pa_cons pe_str pa_nil)))))))))))))))))
      (pss_one (ps_set (i := 5) sc_law.nd rfl (Or.inl rfl) (pe_op op_cat (pe_op op_cat (pe_slice sl_list (pv 5) po_none (po_some (pv 6))) (pe_lst (pa_cons (pe_call G2 (by exact h2) (by rfl) A2.m A2.k A2.b .nil pass0 (pa_cons (pv 1) (pa_cons (pv 7) pa_nil))) pa_nil))) (pe_slice sl_list (pv 5) (po_some (pv 6)) po_none)))))) pss_nil)
      (pss_cons (ps_par (i := 8) (j := 9) rfl sc_law.nd rfl rfl (by decide) rfl rfl (pa_cons (pe_callTy call_list_of (by rfl) T.n_list (by decide +kernel) (pa_cons (pv 5) pa_nil)) (pa_cons (pe_call G7 (by exact h3) (by rfl) A7.m A7.k A7.b .nil pass0 (pa_cons (pv 5) pa_nil)) pa_nil)) (by rfl))
      (pss_cons (ps_if (pt_cmpR op_isN (pv 9) pe_non (nomark _)) (pss_one (ps_set (i := 9) sc_law.nd rfl (Or.inl rfl) (pe_tup (pa_cons pe_str (pa_cons (pe_call G6 (by exact h2) (by rfl) A6.m A6.k A6.b .nil pass0 (pa_cons (pv 5) pa_nil)) pa_nil))))) pss_nil)
      (pss_cons (ps_if (PW.pt (pw_or (pt_cmpR (op_neD h8.units) (pe_call G8 (by exact h6) (by rfl) A8.m A8.k A8.b .nil pass0 (pa_cons (pv 8) pa_nil)) (pv 9) (nomark _)) (pw_or1 (pt_cmpR op_ne (pe_callB (call_reprV hg h8.units) (by rfl) T.n_repr (by decide +kernel) (pa_cons (pv 8) pa_nil)) (pe_callB (call_reprV hg h8.units) (by rfl) T.n_repr (by decide +kernel) (pa_cons (pv 5) pa_nil)) (nomark _))))) (pss_one (ps_ret pe_bl)) pss_nil)
      (pss_cons (ps_set (i := 10) sc_law.nd rfl (Or.inl rfl) (pe_call G2 (by exact h2) (by rfl) A2.m A2.k A2.b .nil pass0 (pa_cons (pv 1) (pa_cons (pe_lst (pa_cons pe_str (pa_cons pe_str (pa_cons pe_str (pa_cons pe_str pa_nil))))) pa_nil))))
      (pss_cons (ps_set (i := 11) sc_law.nd rfl (Or.inl rfl) (pe_ifExp (pt_cmpR op_eq (pv 10) pe_str (nomark _)) (pe_call G2 (by exact h2) (by rfl) A2.m A2.k A2.b .nil pass0 (pa_cons (pv 1) (pa_cons (pv 3) pa_nil))) pe_non))
      (pss_cons (ps_if (pt_cmpR op_eq (pe_call G1 (by exact h1) (by rfl) A1.m A1.k A1.b .nil pass0 (pa_cons (pv 1) (pa_cons pe_int pa_nil))) pe_int (nomark _)) (pss_one (ps_set (i := 10) sc_law.nd rfl (Or.inl rfl) (pe_call G2 (by exact h2) (by rfl) A2.m A2.k A2.b .nil pass0 (pa_cons (pv 1) (pa_cons (pe_lst (pa_cons pe_str (pa_cons pe_str (pa_cons pe_str (pa_cons pe_non (pa_cons pe_int (pa_cons pe_str (pa_cons (pe_tup (pa_cons pe_str pa_nil)) (pa_cons pe_str (pa_cons pe_str (pa_cons pe_str pa_nil))))))))))) pa_nil))))) pss_nil)
      (pss_cons (ps_if (pt_cmpR op_eq (pe_call G1 (by exact h1) (by rfl) A1.m A1.k A1.b .nil pass0 (pa_cons (pv 1) (pa_cons pe_int pa_nil))) pe_int (nomark _)) (pss_one (ps_set (i := 11) sc_law.nd rfl (Or.inl rfl) (pe_call G2 (by exact h2) (by rfl) A2.m A2.k A2.b .nil pass0 (pa_cons (pv 1) (pa_cons (pe_lst (pa_cons pe_non (pa_cons (pe_ix ix_list (pv 3) (pe_un un_neg pe_int) (fun _ _ => rfl)) (pa_cons (pe_call G4 (by exact h3) (by rfl) A4.m A4.k A4.b .nil pass0 (pa_cons (pv 1) (pa_cons (pv 3) pa_nil))) pa_nil)))) pa_nil))))) pss_nil)
      (pss_cons (ps_par (i := 12) (j := 9) rfl sc_law.nd rfl rfl (by decide) rfl rfl (pa_cons (pe_call G9 (by exact h7) (by rfl) A9.m A9.k A9.b .nil pass0 (pa_cons (pv 3) (pa_cons (pv 10) (pa_cons (pv 5) (pa_cons (pv 11) pa_nil))))) (pa_cons (pe_call G10 (by exact h4) (by rfl) A10.m A10.k A10.b .nil pass0 (pa_cons (pv 3) (pa_cons (pv 10) (pa_cons (pv 5) (pa_cons (pv 11) pa_nil))))) pa_nil)) (by rfl))
      (pss_cons (ps_if (pt_cmpR op_ne (pe_callB call_isi (by rfl) T.n_isinstance (by decide +kernel) (pa_cons (pv 12) (pa_cons (pe_gv (v := .ref CI) rfl ⟨_, mI, rfl⟩) pa_nil))) (pe_cmpR op_isN (pv 9) pe_non (nomark _)) (nomark _)) (pss_one (ps_ret pe_bl)) pss_nil)
      (pss_cons (ps_if (PW.pt (pw_and (pt_cmpR op_notN (pv 9) pe_non (nomark _)) (pw_and1 (pt_cmpR (op_neD h8.units) (pv 12) (pv 9) (nomark _))))) (pss_one (ps_ret pe_bl)) pss_nil)
      (pss_cons (ps_if (PW.pt (pw_and (pt_cmpR op_isN (pv 9) pe_non (nomark _)) (pw_and1 (pt_not (pt_val (pe_callG G11 hg (by exact h7) (by rfl) A11.m A11.k A11.b pass0 (pa_cons (pv 12) (pa_cons (pv 3) (pa_cons (pv 10) (pa_cons (pv 5) (pa_cons (pv 11) pa_nil))))))))))) (pss_one (ps_ret pe_bl)) pss_nil)
      (pss_one (ps_if (pt_cmpR op_isN (pv 9) pe_non (nomark _)) (pss_cons (ps_set (i := 13) sc_law.nd rfl (Or.inl rfl) (pe_op op_cat (pe_lst (pa_cons pe_str pa_nil)) (pe_slice sl_list (pe_callTy call_list_of (by rfl) T.n_list (by decide +kernel) (pa_cons (pe_fld (pv 12) rfl) pa_nil)) po_none (po_some pe_int))))
      (pss_one (ps_if (pt_cmpR (op_eqI (C := CI) (E := E0) GE h2 bE pass0 hE iE) (pv 12) (pe_make MI GI (by exact h6) (by rfl) mI bI0 (.cons ru .nil) passE (pa_cons (pe_make ML GL (by exact h5) (by rfl) mL bL .nil passE (pa_cons (pv 3) pa_nil)) (pa_cons pe_str (pa_cons (pv 13) pa_nil)))) (nomark _)) (pss_one (ps_ret pe_bl)) pss_nil))) pss_nil))))))))))))))))))
      (pss_one (ps_ret pe_bl)))), ?_⟩
  have z1 : (1000000 : Nat) ≤ sizeLine := by decide
  have z2 : (2 : Int) ^ 62 = 4611686018427387904 := by decide
  refine ⟨_, rfl, a, ns, rfl, hS, hl, fun H0 p c s0 hp0 hpen => ?_⟩
  refine ⟨6, rfl, by decide, by decide, for_range (lo := 0) (n := 6) (fun i σ' H' => ∃ o2 o3 o4 o5 o6 o7 o8 o9 o10 o11 o12 o13 : Option V, σ' = [some (.ref a), some (.ref p), o2, o3, o4, o5, o6, o7, o8, o9, o10, o11, o12, o13, none] ∧ Go p c ns H0 H' (1000 * i))
    ⟨none, none, none, none, none, none, none, none, none, none, none, none, rfl, Go.refl hpen⟩ ?_ (fun σ' H1 hh => rfl)⟩
  rintro i σ' H1 hi ⟨o2, o3, o4, o5, o6, o7, o8, o9, o10, o11, o12, o13, rfl, g1⟩
  -- letters
  refine ⟨_, rfl, _, rfl, p, c, ns, 4, 1000 * i, rfl, g1.pen, by omega, by decide, by decide, fun H2 r g2 r0 r1 => ?_⟩
  have g2 := g1.step g2
  refine ⟨_, _, rfl, rfl, p, c, ns, 1 + r, 1000 * i + 1, rfl, g2.pen, by omega, by omega, by omega, fun H3 l0 ws g3 hq hL hlen nd ok => ?_⟩
  have lts : Lts ws := ⟨nd, ok, by omega, by omega⟩
  have w11 : ws.length ≤ 11 := by omega
  have g3 := (g2.step g3).mono (B := 1000 * i + 200) (by omega)
  clear g1 g2 hq nd ok hlen r0 r1
  -- the pool
  refine ⟨_, rfl, p, c, ns, 9, _, rfl, g3.pen, by omega, by decide, by decide, fun H4 r g4 r0 r1 => ⟨_, _, rfl, rfl, _, rfl, by omega, by omega, fun LP hLP => ?_⟩⟩
  have hL4 := g4.lst hL
  replace g4 := (g3.step g4).mono (B := 1000 * i + 210) (by omega)
  refine lc_range (lo := 0) (n := (1 + r).toNat) (Zs p c ns H4 LP (1000 * i + 210) 15) ⟨[], (Go.refl g4.pen).new hLP, upd_same, rfl, fun z h => by cases h⟩ (fun j H5 hj zz => ?_) (fun H5 zz => ?_)
  · obtain ⟨zs, g5, e5, l5, a5⟩ := id zz
    exact ⟨rfl, _, rfl, p, c, ns, _, rfl, g5.pen, by omega, fun H6 z g6 az nz => zz.next g6 hLP (by omega) ⟨az, nz⟩⟩
  obtain ⟨ps, g5, e5, l5, gp⟩ := zz
  have hL5 := g5.lst hL4
  replace g5 := (g4.step g5).mono (B := 1000 * i + 400) (by omega)
  clear g3 g4 hL hL4 hLP
  have pl : 1 ≤ ps.length ∧ ps.length ≤ 10 := by omega
  -- the answers
  refine ⟨_, rfl, p, c, ns, 11, _, rfl, g5.pen, by omega, by decide, by decide, fun H6 r g6 r0 r1 => ⟨_, rfl, by omega, by omega, fun LA hLA => ?_⟩⟩
  have hL6 := g6.lst hL5
  have e6 := g6.lst e5
  replace g6 := (g5.step g6).mono (B := 1000 * i + 410) (by omega)
  have nPA : LP ≠ LA := ne_of_none e6 hLA
  refine lc_range (lo := 0) (n := r.toNat) (Zs p c ns H6 LA (1000 * i + 410) 1) ⟨[], (Go.refl g6.pen).new hLA, upd_same, rfl, fun z h => by cases h⟩ (fun j H7 hj zz => ?_) (fun H7 zz => ?_)
  · obtain ⟨zs, g7, e7, l7, a7⟩ := id zz
    refine ⟨rfl, _, rfl, _, rfl, p, c, ns, _, _, rfl, g7.pen, by omega, .inl ⟨LP, _, rfl, SqL.of (g7.lst e6), by rw [List.length_map]; omega, by rw [List.length_map]; omega, fun H8 v g8 hv => ?_⟩⟩
    obtain ⟨z, hz, rfl⟩ := List.mem_map.mp hv
    exact zz.next g8 hLA (by omega) (gp z hz)
  obtain ⟨ys, g7, e7, l7, gy⟩ := zz
  have hL7 := g7.lst hL6
  replace g7 := (g6.step g7).mono (B := 1000 * i + 430) (by omega)
  clear g5 g6 hL5 hL6 hLA e5 e6 nPA l5
  have yl : ys.length ≤ 10 := by omega
  -- one of them may be none
  try dsimp only
  refine seqIf_mid (fun σ' H' => ∃ (A5 : Addr) (xs : List V) (ds : List PyData) (o6 o7 : Option V), σ' = [some (.ref a), some (.ref p), some (.int (0 + (i : Int))), some (.ref l0), some (.ref LP), some (.ref A5), o6, o7, o8, o9, o10, o11, o12, o13, none] ∧ Go p c ns H0 H' (1000 * i + 440) ∧ H' l0 = some (.lst (ws.map V.str)) ∧ H' A5 = some (.lst xs) ∧ ItL (fun b => b ≠ p) H' xs ds ∧ No11 xs ∧ xs.length ≤ 11) (fun N hN => ?_) (fun σ' H' hm => ?_)
  · have fy : FitL ys := ans_fits fun z hz => (gy z hz).1
    have ny : No11 (ys.map V.str) := fun z hz => by
      obtain ⟨y, hy, e⟩ := List.mem_map.mp hz
      cases e
      exact (gy _ hy).2
    refine ⟨_, rfl, p, c, ns, 4, _, rfl, g7.pen, by omega, by decide, by decide, fun H8 r8 g8 t0 t1 => ?_⟩
    have hL8 := g8.lst hL7
    have e8 := g8.lst e7
    replace g8 := g7.step g8
    refine ⟨rfl, _, rfl, ite2 (fun _ => ?_) (fun _ => hN _ _ ⟨LA, _, _, _, _, rfl, g8.mono (by omega), hL8, e8, itl_strs fy, ny, by rw [List.length_map]; omega⟩)⟩
    refine ⟨_, rfl, _, rfl, LA, _, rfl, .inl (SqL.of e8), _, _, rfl, rfl, p, c, ns, _, _, rfl, g8.pen, by omega, by omega, by rw [List.length_map]; omega, fun H9 r9 g9 q0 q1 => ?_⟩
    have hL9 := g9.lst hL8
    have e9 := g9.lst e8
    replace g9 := g8.step g9
    obtain ⟨at9, rfl⟩ : ∃ n : Nat, r9 = (n : Int) := ⟨r9.toNat, by omega⟩
    rw [List.length_map] at q1
    have atl : at9 ≤ ys.length := by omega
    refine ⟨_, _, rfl, rfl, by decide, by decide, by decide, by decide, by show 1 ≤ sizeLine; omega, fun u hu => ⟨by show 1 ≤ sizeLine; omega, fun x hx => ⟨by show 15 ≤ sizeLine; omega, fun O hO => ?_⟩⟩⟩
    have nu := (g9.ne (g9.free hu)).1
    have s1 := Ask.Same.made1 (o := .tup [.str "a"]) (Same.refl H9) hu
    have u1 : upd H9 u (.tup [.str "a"]) u = some (.tup [.str "a"]) := upd_same
    generalize upd H9 u (.tup [.str "a"]) = H10 at s1 u1 hx hO ⊢
    have nx := ((g9.same s1).ne ((g9.same s1).free hx)).1
    have s2 := s1.trans (Ask.Same.made1 (o := .lst [.str "a"]) (Same.refl H10) hx)
    have u2 := Ask.Same.made1 (o := .lst [.str "a"]) (Same.refl H10) hx _ _ u1
    have x2 : upd H10 x (.lst [.str "a"]) x = some (.lst [.str "a"]) := upd_same
    generalize upd H10 x (.lst [.str "a"]) = H11 at s2 u2 x2 hO ⊢
    have s3 := s2.trans (Ask.Same.made1 (o := .lst (oddL u x)) (Same.refl H11) hO)
    have u3 := Ask.Same.made1 (o := .lst (oddL u x)) (Same.refl H11) hO _ _ u2
    have x3 := Ask.Same.made1 (o := .lst (oddL u x)) (Same.refl H11) hO _ _ x2
    have O3 : upd H11 O (.lst (oddL u x)) O = some (.lst (oddL u x)) := upd_same
    change Same H9 (upd H11 O (.lst (oddL u x))) at s3
    have g12 := g9.same s3
    have e12 := s3 _ _ e9
    have hL12 := s3 _ _ hL9
    refine ⟨_, rfl, _, rfl, _, rfl, LA, _, rfl, SqL.of e12, fun s1a hs1 => ?_⟩
    have s4 := Ask.Same.made1 (o := .lst (cutV (ys.map V.str) none (some (at9 : Int)))) (Same.refl _) hs1
    have a4 : upd (upd H11 O (.lst (oddL u x))) s1a (.lst (cutV (ys.map V.str) none (some (at9 : Int)))) s1a = some (.lst ((ys.take at9).map V.str)) := by
      rw [upd_same, cutV_take _ _ (by rw [List.length_map]; exact atl), List.map_take]
    have g13 := g12.same s4
    have O4 := s4 _ _ O3
    have u4 := s4 _ _ u3
    have x4 := s4 _ _ x3
    have e13 := s4 _ _ e12
    have hL13 := s4 _ _ hL12
    refine ⟨_, rfl, _, rfl, p, c, ns, _, _, rfl, g13.pen, by omega, .inl ⟨O, _, rfl, SqL.of O4, by show 0 < 15; decide, by show 15 ≤ 1000; decide, fun H14 v g14 hv => ?_⟩⟩
    obtain ⟨d, dv, n11⟩ := odd_it hv (g14.tup u4) (g14.lst x4) nu nx
    have a14 := g14.lst a4
    have e14 := g14.lst e13
    have hL14 := g14.lst hL13
    replace g14 := g13.step g14
    clear g9 g12 g13 s1 s2 s3 s4 u1 u2 u3 u4 x2 x3 x4 O3 O4 e12 e13 hL12 hL13 hv nu nx hs1
    refine ⟨by show 1 ≤ sizeLine; omega, fun l hl => ?_⟩
    have s5 := Ask.Same.made1 (o := .lst [v]) (Same.refl H14) hl
    have l5' : upd H14 l (.lst [v]) l = some (.lst [v]) := upd_same
    generalize upd H14 l (.lst [v]) = H15 at s5 l5' ⊢
    refine ⟨s1a, l, _, _, rfl, rfl, s5 _ _ a14, l5', by rw [List.length_map, List.length_take]; show _ + 1 ≤ sizeLine; omega, fun c1 hc1 => ?_⟩
    have s6 := Ask.Same.made1 (o := .lst ((ys.take at9).map V.str ++ [v])) s5 hc1
    have c6 : upd H15 c1 (.lst ((ys.take at9).map V.str ++ [v])) c1 = some (.lst ((ys.take at9).map V.str ++ [v])) := upd_same
    generalize upd H15 c1 (.lst ((ys.take at9).map V.str ++ [v])) = H16 at s6 c6 ⊢
    refine ⟨_, rfl, _, rfl, _, rfl, LA, _, rfl, SqL.of (s6 _ _ e14), fun s2a hs2 => ?_⟩
    rw [cutV_from _ _ (by rw [List.length_map]; exact atl), ← List.map_drop]
    have s7 := Ask.Same.made1 (o := .lst ((ys.drop at9).map V.str)) (Same.refl H16) hs2
    have a7 : upd H16 s2a (.lst ((ys.drop at9).map V.str)) s2a = some (.lst ((ys.drop at9).map V.str)) := upd_same
    generalize upd H16 s2a (.lst ((ys.drop at9).map V.str)) = H17 at s7 a7 ⊢
    have lt9 : (ys.take at9).length = at9 := by rw [List.length_take]; omega
    refine ⟨c1, s2a, _, _, rfl, rfl, s7 _ _ c6, a7, by rw [List.length_append, List.length_map, List.length_map, List.length_drop]; show _ + 1 + _ ≤ sizeLine; omega, fun c2 hc2 => ?_⟩
    have s8 := (s6.trans s7).trans (Ask.Same.made1 (o := .lst ((ys.take at9).map V.str ++ [v] ++ (ys.drop at9).map V.str)) (Same.refl H17) hc2)
    refine hN _ _ ⟨c2, (ys.take at9).map V.str ++ [v] ++ (ys.drop at9).map V.str, (ys.take at9).map PyData.str ++ [d] ++ (ys.drop at9).map PyData.str, _, _, rfl, (g14.same s8).mono (by omega), s8 _ _ hL14, upd_same, ?_, ?_, ?_⟩
    · exact ItL.app (ItL.app (itl_strs fun z hz => fy z (List.mem_of_mem_take hz)) ⟨dv.same s8, trivial⟩) (itl_strs fun z hz => fy z (List.mem_of_mem_drop hz))
    · intro z hz
      rcases List.mem_append.mp hz with hz | hz
      · rcases List.mem_append.mp hz with hz | hz
        · rw [List.map_take] at hz
          exact ny z (List.mem_of_mem_take hz)
        · exact n11 z (List.mem_singleton.mp hz).symm
      · rw [List.map_drop] at hz
        exact ny z (List.mem_of_mem_drop hz)
    · rw [List.length_append, List.length_append, List.length_map, List.length_map, List.length_drop]
      show _ + 1 + _ ≤ 11
      omega
  clear hL7 e7 g7 gy
  obtain ⟨A5, xs, ds, o6, o7, rfl, g, hL, hA, hI, n11, xl⟩ := hm
  -- told
  have hv : ∀ v ∈ xs, Vl p H' v := hI.vl fun b h => h
  refine ⟨_, rfl, A5, _, rfl, .inl (SqL.of hA), fun G hG => ?_⟩
  have s1 := Ask.Same.made1 (o := .lst xs) (Same.refl H') hG
  have eG : upd H' G (.lst xs) G = some (.lst xs) := upd_same
  generalize upd H' G (.lst xs) = H1 at s1 eG ⊢
  have hA1 := s1 _ _ hA
  refine ⟨_, rfl, ?_⟩
  try delta tNil
  dsimp only
  show spDue K [V.ref A5] H1 _ _
  refine due_of (p := p) (SqL.of hA1) (hI.mp fun v d h => h.same s1) (fun b h => h) (by omega) fun H2 v9 s2 dv => ⟨_, _, rfl, ?_⟩
  have s12 := s1.trans s2
  have hA2 := s12 _ _ hA
  have hL2 := s12 _ _ hL
  have eG2 := s2 _ _ eG
  have hI2 := hI.mp fun v d h => h.same s12
  have g2 := g.same s12
  clear s1 s2 eG hA1 H1 hA hL g
  try dsimp only
  refine seqIf_mid (fun σ' H' => ∃ (v9 : V) (d : PyData), σ' = [some (.ref a), some (.ref p), some (.int (0 + (i : Int))), some (.ref l0), some (.ref LP), some (.ref A5), o6, o7, some (.ref G), some v9, o10, o11, o12, o13, none] ∧ Same H2 H' ∧ TD xs d ∧ Dp K H' v9 d) (fun N hN => ?_) (fun σ' H3 hm => ?_)
  · rcases dv with ⟨d, td, ⟨t, vs, rfl, et, dp⟩, _⟩ | ⟨rfl, ks, gd, le⟩
    · exact ⟨_, rfl, rfl, _, rfl, ite2 (fun q => by cases q) (fun _ => hN _ _ ⟨_, d, rfl, Same.refl _, td, dp⟩)⟩
    · obtain ⟨ys', ex, ny, ok, so⟩ := id gd
      refine ⟨_, rfl, rfl, _, rfl, iteT ⟨_, rfl, A5, ys', rfl, by rw [← ex]; exact SqL.of hA2, by have := congrArg List.length ex; rw [List.length_map] at this; omega, ans_fits ok, fun H3 t ks' s3 et so' => ?_⟩⟩
      cases setOf_one so so'
      refine ⟨by show 2 ≤ sizeLine; omega, fun q hq => hN _ _ ⟨_, _, rfl, Ask.Same.made1 s3 hq, .inr (.inr ⟨ks, gd, le, rfl⟩), ?_⟩⟩
      have s4 := Ask.Same.made1 (o := .tup [.str "set", .ref t]) (Same.refl H3) hq
      exact .tup (SqT.of upd_same) (.cons (.str _) (.cons (.tup (SqT.of (s4 _ _ et)) (dp_strs ks)) .nil))
  clear dv
  obtain ⟨v9, d9, rfl, s3, td, dp9⟩ := hm
  replace hA2 := s3 _ _ hA2
  replace hL2 := s3 _ _ hL2
  replace eG2 := s3 _ _ eG2
  replace hI2 := hI2.mp fun v d h => h.same s3
  replace g2 := g2.same s3
  clear s3
  refine ⟨_, rfl, ?_⟩
  try delta tNil
  dsimp only
  show spToldA K [V.ref G] H3 _ _
  refine told_of (p := p) (SqL.of eG2) (by omega) (hI2.vl fun b h => h) fun H4 v8 d8 s4 td8 dp8 => ?_
  cases td_one td td8
  refine ⟨_, rfl, d9, d9, dp8, Dp.same s4 dp9, td_shaped td, td_shaped td, _, rfl, ?_⟩
  rw [td_refl td]
  refine iteF ?_
  have hA4 := s4 _ _ hA2
  have hL4 := s4 _ _ hL2
  have hI4 := hI2.mp fun v d h => h.same s4
  have g4 := g2.same s4
  obtain ⟨sh1, sh2, sh3, sh4⟩ := itl_sho hI4 (by omega)
  refine ⟨_, rfl, .ref G, .list ds, rfl, .lst (SqL.of (s4 _ _ eG2)) hI4.dp, sh1, sh2, sh3, sh4, _, rfl, .ref A5, .list ds, rfl, .lst (SqL.of hA4) hI4.dp, sh1, sh2, sh3, sh4, rfl, _, rfl, ?_⟩
  rw [decide_eq_true rfl]
  refine iteF ?_
  clear td8 dp8 td dp9 hA2 hL2 hI2 g2 eG2 s4 sh1 sh2 sh3 sh4
  -- kind, letter
  refine ⟨_, rfl, by show 4 ≤ sizeLine; omega, fun O hO => ⟨p, c, ns, _, _, rfl, (g4.new hO).pen, by omega, .inl ⟨O, _, rfl, SqL.of upd_same, by show 0 < 4; decide, by show 4 ≤ 1000; decide, fun H6 v g6 hv => ?_⟩⟩⟩
  have so := Ask.Same.made1 (o := .lst [.str "always", .str "fresh", .str "behind", .str "behind"]) (Same.refl H4) hO
  obtain ⟨k1, rfl⟩ : ∃ k1 : Str, v = .str k1 := by
    simp only [List.mem_cons, List.not_mem_nil, or_false] at hv
    rcases hv with rfl | rfl | rfl | rfl <;> exact ⟨_, rfl⟩
  replace hA4 := g6.lst (so _ _ hA4)
  replace hL4 := g6.lst (so _ _ hL4)
  replace hI4 := (hI4.mp fun v d h => h.same so).mp fun v d h => ItV.go h g6
  replace g6 := ((g4.new hO).step g6).mono (B := 1000 * i + 450) (by omega)
  clear g4 so hv hO
  refine ⟨_, rfl, rfl, _, rfl, pick_or rfl rfl g6.pen (by omega) (SqL.of hL4) (by have := lts.l0; omega) (by omega) fun H7 lt g7 nlt => ?_⟩
  replace hA4 := g7.lst hA4
  replace hL4 := g7.lst hL4
  replace hI4 := hI4.mp fun v d h => ItV.go h g7
  replace g7 := (g6.step g7).mono (B := 1000 * i + 451) (by omega)
  clear g6
  try dsimp only
  refine seqIf_mid (fun σ' H' => ∃ (kd : V), σ' = [some (.ref a), some (.ref p), some (.int (0 + (i : Int))), some (.ref l0), some (.ref LP), some (.ref A5), o6, o7, some (.ref G), some v9, some kd, some lt, o12, o13, none] ∧ Go p c ns H0 H' (1000 * i + 460) ∧ H' l0 = some (.lst (ws.map V.str)) ∧ H' A5 = some (.lst xs) ∧ ItL (fun b => b ≠ p) H' xs ds ∧ Val p H' kd) (fun N hN => ?_) (fun σ' H8 hm => ?_)
  · refine ⟨_, rfl, p, c, ns, 4, _, rfl, g7.pen, by omega, by decide, by decide, fun H8 r8 g8 t0 t1 => ?_⟩
    have hL8 := g8.lst hL4
    have hA8 := g8.lst hA4
    have hI8 := hI4.mp fun v d h => ItV.go h g8
    replace g8 := g7.step g8
    refine ⟨rfl, _, rfl, ite2 (fun _ => ?_) (fun _ => hN _ _ ⟨.str k1, rfl, g8.mono (by omega), hL8, hA8, hI8, .inl rfl⟩)⟩
    refine ⟨_, rfl, by show 1 ≤ sizeLine; omega, fun u hu => ?_⟩
    have nu := (g8.ne (g8.free hu)).1
    have s1 := Ask.Same.made1 (o := .tup [.str "fresh"]) (Same.refl H8) hu
    have u1 : upd H8 u (.tup [.str "fresh"]) u = some (.tup [.str "fresh"]) := upd_same
    generalize upd H8 u (.tup [.str "fresh"]) = H9 at s1 u1 ⊢
    refine ⟨by show 10 ≤ sizeLine; omega, fun O hO => ?_⟩
    have s2 := s1.trans (Ask.Same.made1 (o := .lst [.str "", .str "Always", .str "before", .non, .int 1, .str "kept", .ref u, .str "always", .str "fresh", .str "behind"]) (Same.refl H9) hO)
    have u2 := Ask.Same.made1 (o := .lst [.str "", .str "Always", .str "before", .non, .int 1, .str "kept", .ref u, .str "always", .str "fresh", .str "behind"]) (Same.refl H9) hO _ _ u1
    have g10 := g8.same s2
    refine ⟨p, c, ns, _, _, rfl, g10.pen, by omega, .inl ⟨O, _, rfl, SqL.of upd_same, by show 0 < 10; decide, by show 10 ≤ 1000; decide, fun H11 v g11 hv => ?_⟩⟩
    refine hN _ _ ⟨v, rfl, (g10.step g11).mono (by omega), g11.lst (s2 _ _ hL8), g11.lst (s2 _ _ hA8), (hI8.mp fun v d h => h.same s2).mp fun v d h => ItV.go h g11, ?_⟩
    simp only [List.mem_cons, List.not_mem_nil, or_false] at hv
    rcases hv with rfl | rfl | rfl | rfl | rfl | rfl | rfl | rfl | rfl | rfl
    all_goals first
      | exact .inl rfl
      | exact .inr ⟨u, rfl, nu, .inr (.inr ⟨_, g11.tup u2⟩)⟩
  obtain ⟨kd, rfl, g8, hL8, hA8, hI8, vk⟩ := hm
  clear hA4 hL4 hI4 g7
  try dsimp only
  refine seqIf_mid (fun σ' H' => ∃ (lt : V), σ' = [some (.ref a), some (.ref p), some (.int (0 + (i : Int))), some (.ref l0), some (.ref LP), some (.ref A5), o6, o7, some (.ref G), some v9, some kd, some lt, o12, o13, none] ∧ Go p c ns H0 H' (1000 * i + 480) ∧ H' l0 = some (.lst (ws.map V.str)) ∧ H' A5 = some (.lst xs) ∧ ItL (fun b => b ≠ p) H' xs ds ∧ Val p H' kd ∧ Val p H' lt) (fun N hN => ?_) (fun σ' H9 hm => ?_)
  · refine ⟨_, rfl, p, c, ns, 4, _, rfl, g8.pen, by omega, by decide, by decide, fun H9 r8 g9 t0 t1 => ?_⟩
    have hL9 := g9.lst hL8
    have hA9 := g9.lst hA8
    have hI9 := hI8.mp fun v d h => ItV.go h g9
    have vk9 := vk.kp g9.kp
    replace g9 := g8.step g9
    refine ⟨rfl, _, rfl, ite2 (fun _ => ?_) (fun _ => hN _ _ ⟨lt, rfl, g9.mono (by omega), hL9, hA9, hI9, vk9, nlt.val⟩)⟩
    obtain ⟨last, hlast⟩ : ∃ z, ws[ws.length - 1]? = some z := ⟨_, List.getElem?_eq_getElem (by have := lts.l0; omega)⟩
    have la : atI (ws.map V.str) (-1) = some (.str last) := atI_back (by rw [List.length_map, List.getElem?_map, hlast]; rfl)
    refine ⟨_, rfl, _, rfl, 1, rfl, l0, _, _, _, rfl, rfl, SqL.of hL9, la, _, rfl, _, rfl, p, c, ns, l0, ws, _, rfl, g9.pen, by omega, SqL.of hL9, by have := lts.l0; omega, by omega, fun y hy => ⟨by have := (lts.ok y hy).2.1; omega, (lts.ok y hy).2.2⟩, fun H10 v g10 out => ?_⟩
    refine ⟨by show 3 ≤ sizeLine; omega, fun O hO => ?_⟩
    have s1 := Ask.Same.made1 (o := .lst [.non, .str last, v]) (Same.refl H10) hO
    have g11 := (g9.step g10).same s1
    refine ⟨p, c, ns, _, _, rfl, g11.pen, by omega, .inl ⟨O, _, rfl, SqL.of upd_same, by show 0 < 3; decide, by show 3 ≤ 1000; decide, fun H12 x g12 hv => ?_⟩⟩
    refine hN _ _ ⟨x, rfl, (g11.step g12).mono (by omega), g12.lst (s1 _ _ (g10.lst hL9)), g12.lst (s1 _ _ (g10.lst hA9)), ((hI9.mp fun v d h => ItV.go h g10).mp fun v d h => h.same s1).mp fun v d h => ItV.go h g12, ((vk9.kp g10.kp).same s1).kp g12.kp, ?_⟩
    simp only [List.mem_cons, List.not_mem_nil, or_false] at hv
    rcases hv with rfl | rfl | rfl
    · exact .inl rfl
    · exact .inl rfl
    · exact (out.val.same s1).kp g12.kp
  obtain ⟨lt, rfl, g9, hL9, hA9, hI9, vk9, vt9⟩ := hm
  clear g8 hL8 hA8 hI8 vk nlt
  refine ⟨_, rfl, _, rfl, _, rfl, _, rfl, ?_⟩
  try delta tNil
  dsimp only
  show spLimT K CL CI [V.ref l0, kd, V.ref A5, lt] H9 _ _
  refine limT_of (pp := p) (SqL.of hL9) lts vk9 vt9 (SqL.of hA9) (by omega) (hI9.vl fun b h => h) fun H10 v12 s10 ov => ?_
  have hL10 := s10 _ _ hL9
  have hA10 := s10 _ _ hA9
  have hI10 := hI9.mp fun v d h => h.same s10
  refine ⟨_, rfl, _, rfl, _, rfl, _, rfl, ?_⟩
  try delta tNil
  dsimp only
  show spLimD K [V.ref l0, kd, V.ref A5, lt] H10 _ _
  refine limD_of (pp := p) (SqL.of hL10) (vk9.same s10) (vt9.same s10) (SqL.of hA10) hI10 (fun b h => h) (by omega) fun H11 v9' s11 dv => ⟨_, _, rfl, ?_⟩
  have g11 := (g9.same (s10.trans s11)).mono (B := 1000 * (i + 1)) (by omega)
  have hL11 := s11 _ _ hL10
  have hA11 := s11 _ _ hA10
  clear hL9 hA9 hI9 hL10 hA10 hI10 g9
  rcases ov with ⟨d, od, t, vs, rfl, et, dp⟩ | ⟨oo, p12, k, ks, rfl, rfl, hk, gd, le, hA⟩
  · -- an error, told
    rcases dv with ⟨d', od', t', vs', rfl, et', dp'⟩ | ⟨on, _⟩
    case inr => cases out_one od on
    cases Option.some.inj (out_one od od')
    obtain ⟨lay, dep⟩ := out_lay od
    refine ⟨_, rfl, _, _, _, _, false, rfl, .own CI, .base (.tup (s11 _ _ et)), kit_other Y.ic tI sub_tupC, _, rfl, rfl, rfl, _, rfl, ite2 (fun q => by simp at q) (fun _ => ?_)⟩
    refine ⟨_, rfl, rfl, _, rfl, ite2 (fun _ => ?_) (fun q => by simp at q)⟩
    refine ⟨_, rfl, _, rfl, d, d, Dp.same s11 dp, dp', shaped_of lay dep, shaped_of lay dep, _, rfl, ?_⟩
    rw [PySem.SeqAt.eqv_refl _ lay]
    refine iteF ⟨_, rfl, rfl, _, rfl, ite2 (fun q => by simp at q) (fun _ => ⟨_, rfl, rfl, _, rfl, ite2 (fun q => by simp at q) (fun _ => ?_)⟩)⟩
    exact ⟨_, _, _, _, _, _, _, _, _, _, _, _, rfl, g11⟩
  · rcases dv with ⟨d', od', _⟩ | ⟨on, rfl⟩
    case inl => cases out_one oo od'
    have due := out_none on
    replace hA := hA.same s11
    obtain ⟨ys', ex, ny, ok, so⟩ := id gd
    obtain ⟨dx, m0, t0, t2, hp, hM, ht2⟩ := id hA
    subst ex
    rw [List.length_map] at xl
    have kk : PySem.W.kitOne K (.ref CI) (.ref CI) = some true := by
      unfold PySem.W.kitOne
      rw [if_pos (by simp)]
    refine ⟨_, rfl, _, _, _, _, true, rfl, .own CI, .base (.ins hp hC.c Y.ha Y.hn Y.ht Y.hm), kk, _, rfl, rfl, rfl, _, rfl, ite2 (fun q => by simp at q) (fun _ => ?_)⟩
    refine ⟨_, rfl, rfl, _, rfl, ite2 (fun q => by simp at q) (fun _ => ?_)⟩
    refine ⟨_, rfl, rfl, _, rfl, ite2 (fun _ => ?_) (fun q => by simp at q)⟩
    refine ⟨_, rfl, _, rfl, _, rfl, _, rfl, _, rfl, p12, l0, A5, ws, ys', ks, k, lt, rfl, hA, SqL.of hL11, hL11, lts, w11, hk, due, hA11, ny, by omega, ok, so, le, fun H12 s12 => ⟨_, rfl, iteF ?_⟩⟩
    have hp2 := s12 _ _ hp
    have hL12 := s12 _ _ hL11
    have ht12 := s12 _ _ ht2
    have hA12 := hA.same s12
    have g12 := g11.same s12
    -- one with another set of answers
    refine ⟨_, rfl, rfl, _, rfl, ite2 (fun _ => ?_) (fun q => by simp at q)⟩
    refine ⟨by show 1 ≤ sizeLine; omega, fun l hl => ?_⟩
    have s1 := Ask.Same.made1 (o := .lst [.str zz0]) (Same.refl H12) hl
    have e1 : upd H12 l (.lst [.str zz0]) l = some (.lst [.str zz0]) := upd_same
    change Same H12 (upd H12 l (.lst [.str "zz0zz0zz0zz"])) at s1
    change upd H12 l (.lst [.str "zz0zz0zz0zz"]) l = some (.lst [.str zz0]) at e1
    generalize upd H12 l (.lst [.str "zz0zz0zz0zz"]) = H13 at s1 e1 ⊢
    refine ⟨_, rfl, p12, CI, dx, _, _, rfl, s1 _ _ hp2, hC.c, hC.a3, rfl, t2, _, rfl, .inr (SqT.of (s1 _ _ ht12)), fun l2 hl2 => ?_⟩
    have s2 := Ask.Same.made1 (o := .lst (ks.map V.str)) (Same.refl H13) hl2
    have e2 : upd H13 l2 (.lst (ks.map V.str)) l2 = some (.lst (ks.map V.str)) := upd_same
    have f2 := s2 _ _ e1
    generalize upd H13 l2 (.lst (ks.map V.str)) = H14 at s2 e2 f2 ⊢
    refine ⟨_, rfl, l2, _, rfl, SqL.of e2, fun l3 hl3 => ?_⟩
    obtain ⟨js, ej, mj, lj⟩ := cut_five ks
    rw [ej]
    have s3 := Ask.Same.made1 (o := .lst (js.map V.str)) (Same.refl H14) hl3
    have e3 : upd H14 l3 (.lst (js.map V.str)) l3 = some (.lst (js.map V.str)) := upd_same
    have f3 := s3 _ _ f2
    generalize upd H14 l3 (.lst (js.map V.str)) = H15 at s3 e3 f3 ⊢
    refine ⟨l, l3, _, _, rfl, rfl, f3, e3, by rw [List.length_map]; show 1 + _ ≤ sizeLine; omega, fun c9 hc9 => ?_⟩
    have s4 := Ask.Same.made1 (o := .lst ([V.str zz0] ++ js.map V.str)) (Same.refl H15) hc9
    have e4 : upd H15 c9 (.lst ([V.str zz0] ++ js.map V.str)) c9 = some (.lst ((zz0 :: js).map V.str)) := upd_same
    generalize upd H15 c9 (.lst ([V.str zz0] ++ js.map V.str)) = H16 at s4 e4 ⊢
    have s14 := (s1.trans s2).trans (s3.trans s4)
    obtain ⟨zs, soz, lz⟩ := setOf_ex (zz0 :: js)
    have okz : ∀ y ∈ zz0 :: js, ansS y = true := fun y hy => by
      rcases List.mem_cons.mp hy with rfl | hy
      · exact zz0_ok.1
      · exact good_fit gd y (mj y hy)
    have ne : ¬ (ws = ws ∧ k = "always" ∧ ks = zs ∧ lt = V.non) := fun e => by
      have m : zz0 ∈ ks := by
        rw [e.2.2.1]
        exact (soz.2.2 zz0).mpr List.mem_cons_self
      exact n11 zz0 (List.mem_map.mpr ⟨zz0, (so.2.2 zz0).mp m, rfl⟩) zz0_ok.2
    refine ⟨_, rfl, _, rfl, fun m md hm hmd hne => let_made lts (.inl (s14.seq (SqL.of hL12))) hm hmd hne fun H17 t17 s17 hM17 => ⟨rfl, _, rfl, fun q qd hq hqd hnq => ?_⟩⟩
    refine lim_made (k := "always") (lt := .non) hM17 (by decide) rfl (SqL.of (s17 _ _ e4)) (by rw [List.length_cons]; omega) (by simp) okz soz (by rw [List.length_cons] at lz; omega) hq hqd hnq fun H18 s18 hB => ⟨rfl, ?_⟩
    have s118 := s14.trans (s17.trans s18)
    have hA18 := hA12.same s118
    obtain ⟨dp, mp, tp, t2p, hp18, _, _⟩ := id hA18
    obtain ⟨dq, mq, tq, t2q, hq18, _, _⟩ := id hB
    have fk : FitL ks := ans_fits (good_fit gd)
    have fz : FitL zs := fun z hz => ans_fits okz z ((soz.2.2 z).mp hz)
    refine ⟨p12, q, dp, dq, _, _, rfl, rfl, hp18, hq18, p12, q, ws, ws, ks, zs, k, "always", lt, .non, rfl, hA18, hB, lts.fit, lts.fit, fk, fz, (due_non due).1, .inl rfl, _, rfl, _, rfl, ?_⟩
    rw [decide_eq_false ne]
    exact iteF ⟨_, _, _, _, _, _, _, _, _, _, _, _, rfl, g12.same s118⟩
end
end Ask

namespace Ask
open PySem L2 PySem.Spec PyProof.Rows
theorem exm_of {K : PySem.W.Frag} {S T : Addr} {b : Bool} (h1 : PySem.W.subIn K (.ref T) (.type "BaseException") = some true) (h2 : PySem.W.isClsIn K T = true) (h3 : PySem.W.typeIn K (.ref T) = some (.type "type")) (h4 : PySem.W.subIn K (.ref S) (.ref T) = some b) :
    PySem.W.exmOne K (.ref S) (.ref T) = some b := by
  have e1 : (PySem.W.subIn K (.ref T) (.type "BaseException") == some true) = true := by rw [h1] <;> rfl
  have e2 : ((PySem.W.clsIn K T).isSome && PySem.W.typeIn K (.ref T) == some (.type "type")) = true := by
    have h2' : (PySem.W.clsIn K T).isSome = true := h2
    rw [h2', h3] <;> rfl
  show (if (PySem.W.subIn K (.ref T) (.type "BaseException") == some true) = true then (if ((PySem.W.clsIn K T).isSome && PySem.W.typeIn K (.ref T) == some (.type "type")) = true then PySem.W.subIn K (.ref S) (.ref T) else none) else none) = some b
  rw [if_pos e1, if_pos e2]
  exact h4
theorem strKeys_of {es : Array DictEntry} (h : (es.toList.all fun e => match e.key with | .str _ _ => true | _ => false) = true) : StrKeys es := fun e he => by
  have q := List.all_eq_true.mp h e (by simpa using he)
  cases k : e.key <;> rw [k] at q <;> first | exact ⟨_, _, rfl⟩ | cases q
theorem lim_binds {K : PySem.W.Frag} {d : V} {f : Addr} {fd : FuncData} (F : FunD K "__init__" "Limit.__init__" (defArgs s_Lim_init) (defBody s_Lim_init) (defScope s_Lim_init) [d] [] f fd) : (∃ u, RelV d u ∧ Binds K fd ["self", "letters", "kind", "answers", "letter"] [u]) ∧ Binds K fd ["self", "letters", "kind", "answers", "letter"] [] := by
  constructor
  · obtain ⟨ds, r, b⟩ := F.binds1 (ps := ["self", "letters", "kind", "answers", "letter"]) 4 0 (by simp) rfl fun T kV doc pm an cdv ct us its hu hi => match us, hu, its, hi with | [_, _, _, _], _, [_], _ => ⟨_, rfl, rfl⟩
    obtain ⟨u, rfl, ru⟩ := vals1 r
    exact ⟨u, ru, b⟩
  · obtain ⟨ds, r, b⟩ := F.binds1 (ps := ["self", "letters", "kind", "answers", "letter"]) 5 1 (by simp) rfl fun T kV doc pm an cdv ct us its hu hi => match us, hu, its, hi with | [_, _, _, _, _], _, [_], _ => ⟨_, rfl, rfl⟩
    cases r
    exact b
theorem all_mk {P : Program} {w : World} {K : PySem.W.Frag} {h : Heap} {mg : Str → Option Value} {fa : Addr} (X : K.In h) (G : h.Ns mainGlobals mg) (hfa : mg "law" = some (.ref fa))
    {f0 : Addr} {od0 an0 : Option Addr} {sl0 : Array (Option Value)} {oc0 kV0 dc0 pm0 cd0 ct0 : Value}
    {f1 : Addr} {od1 an1 : Option Addr} {sl1 : Array (Option Value)} {oc1 kV1 dc1 pm1 cd1 ct1 : Value}
    {f2 : Addr} {od2 an2 : Option Addr} {sl2 : Array (Option Value)} {oc2 kV2 dc2 pm2 cd2 ct2 : Value}
    {f3 : Addr} {od3 an3 : Option Addr} {sl3 : Array (Option Value)} {oc3 kV3 dc3 pm3 cd3 ct3 : Value}
    {f4 : Addr} {od4 an4 : Option Addr} {sl4 : Array (Option Value)} {oc4 kV4 dc4 pm4 cd4 ct4 : Value}
    {f5 : Addr} {od5 an5 : Option Addr} {sl5 : Array (Option Value)} {oc5 kV5 dc5 pm5 cd5 ct5 : Value}
    {f6 : Addr} {od6 an6 : Option Addr} {sl6 : Array (Option Value)} {oc6 kV6 dc6 pm6 cd6 ct6 : Value}
    {fr : Addr} {odr anr : Option Addr} {slr : Array (Option Value)} {ocr kVr dcr pmr cdr ctr : Value}
    {fs : Addr} {ods ans : Option Addr} {sls : Array (Option Value)} {ocs kVs dcs pms cds cts : Value}
    {fm : Addr} {odm anm : Option Addr} {slm : Array (Option Value)} {ocm kVm dcm pmm cdm ctm : Value}
    {f7 : Addr} {od7 an7 : Option Addr} {sl7 : Array (Option Value)} {oc7 kV7 dc7 pm7 cd7 ct7 : Value}
    {f8 : Addr} {od8 an8 : Option Addr} {sl8 : Array (Option Value)} {oc8 kV8 dc8 pm8 cd8 ct8 : Value}
    {fn : Addr} {odn ann : Option Addr} {sln : Array (Option Value)} {ocn kVn dcn pmn cdn ctn : Value}
    {fo : Addr} {odo ano : Option Addr} {slo : Array (Option Value)} {oco kVo dco pmo cdo cto : Value}
    {fp : Addr} {odp anp : Option Addr} {slp : Array (Option Value)} {ocp kVp dcp pmp cdp ctp : Value}
    {fq : Addr} {odq anq : Option Addr} {slq : Array (Option Value)} {ocq kVq dcq pmq cdq ctq : Value}
    {fu : Addr} {odu anu : Option Addr} {slu : Array (Option Value)} {ocu kVu dcu pmu cdu ctu : Value}
    {fv : Addr} {odv anv : Option Addr} {slv : Array (Option Value)} {ocv kVv dcv pmv cdv ctv : Value}
    {fw : Addr} {odw anw : Option Addr} {slw : Array (Option Value)} {ocw kVw dcw pmw cdw ctw : Value}
    {fx : Addr} {odx anx : Option Addr} {slx : Array (Option Value)} {ocx kVx dcx pmx cdx ctx : Value}
    {f9 : Addr} {od9 an9 : Option Addr} {sl9 : Array (Option Value)} {oc9 kV9 dc9 pm9 cd9 ct9 : Value}
    {CB : Addr}
    {fB : Addr} {odB anB : Option Addr} {slB : Array (Option Value)} {ocB kVB dcB pmB cdB ctB : Value}
    {nmB qB : Str} {NB : Addr} {bsB bmB : List Value} {snB : List Str} {subB : List Value} {abB : Bool} {colB : Option Bool} {ddB : Option Addr} {m0B m1B m2B m3B m5B : Option Value}
    {CM : Addr}
    {fM : Addr} {odM anM : Option Addr} {slM : Array (Option Value)} {ocM kVM dcM pmM cdM ctM : Value}
    {nmM qM : Str} {NM : Addr} {bsM bmM : List Value} {snM : List Str} {subM : List Value} {abM : Bool} {colM : Option Bool} {ddM : Option Addr} {m0M m1M m2M m3M m5M : Option Value}
    {CT : Addr}
    {fT : Addr} {odT anT : Option Addr} {slT : Array (Option Value)} {ocT kVT dcT pmT cdT ctT : Value}
    {nmT qT : Str} {NT : Addr} {bsT bmT : List Value} {snT : List Str} {subT : List Value} {abT : Bool} {colT : Option Bool} {ddT : Option Addr} {m0T m1T m2T m3T m5T : Option Value}
    {CA : Addr}
    {fA : Addr} {odA anA : Option Addr} {slA : Array (Option Value)} {ocA kVA dcA pmA cdA ctA : Value}
    {nmA qA : Str} {NA : Addr} {bsA bmA : List Value} {snA : List Str} {subA : List Value} {abA : Bool} {colA : Option Bool} {ddA : Option Addr} {m0A m1A m2A m3A m5A : Option Value}
    {CZ : Addr}
    {CL : Addr}
    {fL : Addr} {odL anL : Option Addr} {slL : Array (Option Value)} {ocL kVL dcL pmL cdL ctL : Value}
    {fH : Addr} {odH anH : Option Addr} {slH : Array (Option Value)} {ocH kVH dcH pmH cdH ctH : Value}
    {fQ : Addr} {odQ anQ : Option Addr} {slQ : Array (Option Value)} {ocQ kVQ dcQ pmQ cdQ ctQ : Value}
    {CI : Addr}
    {fI : Addr} {odI anI : Option Addr} {slI : Array (Option Value)} {ocI kVI dcI pmI cdI ctI : Value}
    {TI : Addr} {oTI : Obj} {nTI : Nat}
    {fE : Addr} {odE anE : Option Addr} {slE : Array (Option Value)} {ocE kVE dcE pmE cdE ctE : Value}
    {fX : Addr} {odX anX : Option Addr} {slX : Array (Option Value)} {ocX kVX dcX pmX cdX ctX : Value}
    {gS : Tok}
    {gW : Tok}
    {gM : Tok}
    {gL : Tok}
    {T_gB : Addr} {o_gB : Obj} {j_gB : Array Value} {n_gB : Nat}
    {T_gK : Addr} {o_gK : Obj} {j_gK : Array Value} {n_gK : Nat}
    {gA : Tok}
    {nmI qI : Str} {NI : Addr} {bsI bmI : List Value} {hdctI : Bool} {snI : List Str} {subI : List Value} {abI : Bool} {colI : Option Bool} {ddI : Option Addr} {m0I m1I m2I m3I m5I : Option Value} {newI : String} {oNI : Obj} {esNI : Array DictEntry} {epNI : Nat}
    (hn : PySem.W.specialIn K (.builtin "object.__class__") "__get__" = some (some (.builtin "getset_descriptor.__get__")))
    (ht : PySem.W.takesIn K (.builtin "object.__class__") = some true)
    (a0 : PySem.W.nsIn K mainGlobals "is_short_word" = some (some (.ref f0)))
    (l0 : K.lookup f0 = some ⟨oc0, od0, .func (PySem.W.fnOf "is_short_word" "is_short_word" (defArgs s_is_short_word) (defBody s_is_short_word) (defScope s_is_short_word) .none kV0 dc0 pm0 an0 cd0 ct0), sl0⟩)
    (c0 : PySem.W.codeIn K cd0 "is_short_word" = true)
    (k0 : PySem.W.keepIn K (.ref f0) = true)
    (a1 : PySem.W.nsIn K mainGlobals "copied" = some (some (.ref f1)))
    (l1 : K.lookup f1 = some ⟨oc1, od1, .func (PySem.W.fnOf "copied" "copied" (defArgs s_copied) (defBody s_copied) (defScope s_copied) .none kV1 dc1 pm1 an1 cd1 ct1), sl1⟩)
    (c1 : PySem.W.codeIn K cd1 "copied" = true)
    (k1 : PySem.W.keepIn K (.ref f1) = true)
    (a2 : PySem.W.nsIn K mainGlobals "is_letter" = some (some (.ref f2)))
    (l2 : K.lookup f2 = some ⟨oc2, od2, .func (PySem.W.fnOf "is_letter" "is_letter" (defArgs s_is_letter) (defBody s_is_letter) (defScope s_is_letter) .none kV2 dc2 pm2 an2 cd2 ct2), sl2⟩)
    (c2 : PySem.W.codeIn K cd2 "is_letter" = true)
    (k2 : PySem.W.keepIn K (.ref f2) = true)
    (a3 : PySem.W.nsIn K mainGlobals "_law_pen" = some (some (.ref f3)))
    (l3 : K.lookup f3 = some ⟨oc3, od3, .func (PySem.W.fnOf "_law_pen" "_law_pen" (defArgs s__law_pen) (defBody s__law_pen) (defScope s__law_pen) .none kV3 dc3 pm3 an3 cd3 ct3), sl3⟩)
    (c3 : PySem.W.codeIn K cd3 "_law_pen" = true)
    (k3 : PySem.W.keepIn K (.ref f3) = true)
    (a4 : PySem.W.nsIn K mainGlobals "_law_draw" = some (some (.ref f4)))
    (l4 : K.lookup f4 = some ⟨oc4, od4, .func (PySem.W.fnOf "_law_draw" "_law_draw" (defArgs s__law_draw) (defBody s__law_draw) (defScope s__law_draw) .none kV4 dc4 pm4 an4 cd4 ct4), sl4⟩)
    (c4 : PySem.W.codeIn K cd4 "_law_draw" = true)
    (k4 : PySem.W.keepIn K (.ref f4) = true)
    (a5 : PySem.W.nsIn K mainGlobals "_law_pick" = some (some (.ref f5)))
    (l5 : K.lookup f5 = some ⟨oc5, od5, .func (PySem.W.fnOf "_law_pick" "_law_pick" (defArgs s__law_pick) (defBody s__law_pick) (defScope s__law_pick) .none kV5 dc5 pm5 an5 cd5 ct5), sl5⟩)
    (c5 : PySem.W.codeIn K cd5 "_law_pick" = true)
    (k5 : PySem.W.keepIn K (.ref f5) = true)
    (a6 : PySem.W.nsIn K mainGlobals "_law_letters" = some (some (.ref f6)))
    (l6 : K.lookup f6 = some ⟨oc6, od6, .func (PySem.W.fnOf "_law_letters" "_law_letters" (defArgs s__law_letters) (defBody s__law_letters) (defScope s__law_letters) .none kV6 dc6 pm6 an6 cd6 ct6), sl6⟩)
    (c6 : PySem.W.codeIn K cd6 "_law_letters" = true)
    (k6 : PySem.W.keepIn K (.ref f6) = true)
    (ar : PySem.W.nsIn K mainGlobals "is_answer" = some (some (.ref fr)))
    (lr : K.lookup fr = some ⟨ocr, odr, .func (PySem.W.fnOf "is_answer" "is_answer" (defArgs s_is_answer) (defBody s_is_answer) (defScope s_is_answer) .none kVr dcr pmr anr cdr ctr), slr⟩)
    (cr : PySem.W.codeIn K cdr "is_answer" = true)
    (kr : PySem.W.keepIn K (.ref fr) = true)
    (as : PySem.W.nsIn K mainGlobals "answer_set" = some (some (.ref fs)))
    (ls : K.lookup fs = some ⟨ocs, ods, .func (PySem.W.fnOf "answer_set" "answer_set" (defArgs s_answer_set) (defBody s_answer_set) (defScope s_answer_set) .none kVs dcs pms ans cds cts), sls⟩)
    (cs : PySem.W.codeIn K cds "answer_set" = true)
    (ks : PySem.W.keepIn K (.ref fs) = true)
    (am : PySem.W.nsIn K mainGlobals "is_due" = some (some (.ref fm)))
    (lm : K.lookup fm = some ⟨ocm, odm, .func (PySem.W.fnOf "is_due" "is_due" (defArgs s_is_due) (defBody s_is_due) (defScope s_is_due) .none kVm dcm pmm anm cdm ctm), slm⟩)
    (cm : PySem.W.codeIn K cdm "is_due" = true)
    (km : PySem.W.keepIn K (.ref fm) = true)
    (a7 : PySem.W.nsIn K mainGlobals "_law_odd" = some (some (.ref f7)))
    (l7 : K.lookup f7 = some ⟨oc7, od7, .func (PySem.W.fnOf "_law_odd" "_law_odd" (defArgs s__law_odd) (defBody s__law_odd) (defScope s__law_odd) .none kV7 dc7 pm7 an7 cd7 ct7), sl7⟩)
    (c7 : PySem.W.codeIn K cd7 "_law_odd" = true)
    (k7 : PySem.W.keepIn K (.ref f7) = true)
    (a8 : PySem.W.nsIn K mainGlobals "_law_free" = some (some (.ref f8)))
    (l8 : K.lookup f8 = some ⟨oc8, od8, .func (PySem.W.fnOf "_law_free" "_law_free" (defArgs s__law_free) (defBody s__law_free) (defScope s__law_free) .none kV8 dc8 pm8 an8 cd8 ct8), sl8⟩)
    (c8 : PySem.W.codeIn K cd8 "_law_free" = true)
    (k8 : PySem.W.keepIn K (.ref f8) = true)
    (an : PySem.W.nsIn K mainGlobals "_law_answer" = some (some (.ref fn)))
    (ln : K.lookup fn = some ⟨ocn, odn, .func (PySem.W.fnOf "_law_answer" "_law_answer" (defArgs s__law_answer) (defBody s__law_answer) (defScope s__law_answer) .none kVn dcn pmn ann cdn ctn), sln⟩)
    (cn : PySem.W.codeIn K cdn "_law_answer" = true)
    (kn : PySem.W.keepIn K (.ref fn) = true)
    (ao : PySem.W.nsIn K mainGlobals "_law_is_answer" = some (some (.ref fo)))
    (lo : K.lookup fo = some ⟨oco, odo, .func (PySem.W.fnOf "_law_is_answer" "_law_is_answer" (defArgs s__law_is_answer) (defBody s__law_is_answer) (defScope s__law_is_answer) .none kVo dco pmo ano cdo cto), slo⟩)
    (co : PySem.W.codeIn K cdo "_law_is_answer" = true)
    (ko : PySem.W.keepIn K (.ref fo) = true)
    (ap : PySem.W.nsIn K mainGlobals "_law_set" = some (some (.ref fp)))
    (lp : K.lookup fp = some ⟨ocp, odp, .func (PySem.W.fnOf "_law_set" "_law_set" (defArgs s__law_set) (defBody s__law_set) (defScope s__law_set) .none kVp dcp pmp anp cdp ctp), slp⟩)
    (cp : PySem.W.codeIn K cdp "_law_set" = true)
    (kp : PySem.W.keepIn K (.ref fp) = true)
    (aq : PySem.W.nsIn K mainGlobals "_law_due" = some (some (.ref fq)))
    (lq : K.lookup fq = some ⟨ocq, odq, .func (PySem.W.fnOf "_law_due" "_law_due" (defArgs s__law_due) (defBody s__law_due) (defScope s__law_due) .none kVq dcq pmq anq cdq ctq), slq⟩)
    (cq : PySem.W.codeIn K cdq "_law_due" = true)
    (kq : PySem.W.keepIn K (.ref fq) = true)
    (au : PySem.W.nsIn K mainGlobals "_law_told" = some (some (.ref fu)))
    (lu : K.lookup fu = some ⟨ocu, odu, .func (PySem.W.fnOf "_law_told" "_law_told" (defArgs s__law_told) (defBody s__law_told) (defScope s__law_told) .none kVu dcu pmu anu cdu ctu), slu⟩)
    (cu : PySem.W.codeIn K cdu "_law_told" = true)
    (ku : PySem.W.keepIn K (.ref fu) = true)
    (av : PySem.W.nsIn K mainGlobals "_law_limit" = some (some (.ref fv)))
    (lv : K.lookup fv = some ⟨ocv, odv, .func (PySem.W.fnOf "_law_limit" "_law_limit" (defArgs s__law_limit) (defBody s__law_limit) (defScope s__law_limit) .none kVv dcv pmv anv cdv ctv), slv⟩)
    (cv : PySem.W.codeIn K cdv "_law_limit" = true)
    (kv : PySem.W.keepIn K (.ref fv) = true)
    (aw : PySem.W.nsIn K mainGlobals "_law_limit_due" = some (some (.ref fw)))
    (lw : K.lookup fw = some ⟨ocw, odw, .func (PySem.W.fnOf "_law_limit_due" "_law_limit_due" (defArgs s__law_limit_due) (defBody s__law_limit_due) (defScope s__law_limit_due) .none kVw dcw pmw anw cdw ctw), slw⟩)
    (cw : PySem.W.codeIn K cdw "_law_limit_due" = true)
    (kw : PySem.W.keepIn K (.ref fw) = true)
    (ax : PySem.W.nsIn K mainGlobals "_law_is_right" = some (some (.ref fx)))
    (lx : K.lookup fx = some ⟨ocx, odx, .func (PySem.W.fnOf "_law_is_right" "_law_is_right" (defArgs s__law_is_right) (defBody s__law_is_right) (defScope s__law_is_right) .none kVx dcx pmx anx cdx ctx), slx⟩)
    (cx : PySem.W.codeIn K cdx "_law_is_right" = true)
    (kx : PySem.W.keepIn K (.ref fx) = true)
    (a9 : PySem.W.nsIn K mainGlobals "law" = some (some (.ref f9)))
    (l9 : K.lookup f9 = some ⟨oc9, od9, .func (PySem.W.fnOf "law" "law" (defArgs s_law) (defBody s_law) (defScope s_law) .none kV9 dc9 pm9 an9 cd9 ct9), sl9⟩)
    (c9 : PySem.W.codeIn K cd9 "law" = true)
    (k9 : PySem.W.keepIn K (.ref f9) = true)
    (aB : PySem.W.nsIn K mainGlobals "BadLetters" = some (some (.ref CB)))
    (iB : PySem.W.findIn K (.ref CB) "__init__" = some (some (.ref fB)))
    (lB : K.lookup fB = some ⟨ocB, odB, .func (PySem.W.fnOf "__init__" "BadLetters.__init__" (defArgs s_BadLetters_init) (defBody s_BadLetters_init) (defScope s_BadLetters_init) .none kVB dcB pmB anB cdB ctB), slB⟩)
    (cB : PySem.W.codeIn K cdB "BadLetters.__init__" = true)
    (kB : PySem.W.keepIn K (.ref fB) = true)
    (kcB : PySem.W.keepIn K (.ref CB) = true)
    (saB : PySem.W.findIn K (.ref CB) "__setattr__" = some (some (.builtin "object.__setattr__")))
    (xB : K.lookup CB = some (excClassObj nmB qB CB NB bsB bmB true snB subB abB colB ddB m0B m1B m2B m3B m5B "ValueError.__new__"))
    (vB : PySem.HandSPX.refsVE bmB = true)
    (gaB : PySem.W.findIn K (.ref CB) "__getattribute__" = some (some (.builtin "BaseException.__getattribute__")))
    (ggB : PySem.W.findIn K (.ref CB) "__getattr__" = some none)
    (eCB : PySem.W.subIn K (.ref CB) (.type "BaseException") = some true)
    (tCB : PySem.W.typeIn K (.ref CB) = some (.type "type"))
    (tfB : PySem.W.typeIn K (.ref fB) = some (.type "function"))
    (hCB : PySem.W.hasDictIn K CB = true)
    (nB0 : PySem.W.findIn K (.ref CB) "index" = some none)
    (aM : PySem.W.nsIn K mainGlobals "TooMany" = some (some (.ref CM)))
    (iM : PySem.W.findIn K (.ref CM) "__init__" = some (some (.ref fM)))
    (lM : K.lookup fM = some ⟨ocM, odM, .func (PySem.W.fnOf "__init__" "TooMany.__init__" (defArgs s_TooMany_init) (defBody s_TooMany_init) (defScope s_TooMany_init) .none kVM dcM pmM anM cdM ctM), slM⟩)
    (cM : PySem.W.codeIn K cdM "TooMany.__init__" = true)
    (kM : PySem.W.keepIn K (.ref fM) = true)
    (kcM : PySem.W.keepIn K (.ref CM) = true)
    (saM : PySem.W.findIn K (.ref CM) "__setattr__" = some (some (.builtin "object.__setattr__")))
    (xM : K.lookup CM = some (excClassObj nmM qM CM NM bsM bmM true snM subM abM colM ddM m0M m1M m2M m3M m5M "ValueError.__new__"))
    (vM : PySem.HandSPX.refsVE bmM = true)
    (gaM : PySem.W.findIn K (.ref CM) "__getattribute__" = some (some (.builtin "BaseException.__getattribute__")))
    (ggM : PySem.W.findIn K (.ref CM) "__getattr__" = some none)
    (eCM : PySem.W.subIn K (.ref CM) (.type "BaseException") = some true)
    (tCM : PySem.W.typeIn K (.ref CM) = some (.type "type"))
    (tfM : PySem.W.typeIn K (.ref fM) = some (.type "function"))
    (hCM : PySem.W.hasDictIn K CM = true)
    (nM0 : PySem.W.findIn K (.ref CM) "what" = some none)
    (nM1 : PySem.W.findIn K (.ref CM) "many" = some none)
    (nM2 : PySem.W.findIn K (.ref CM) "most" = some none)
    (icM : PySem.W.isClsIn K CM = true)
    (esM : PySem.W.subIn K (.ref CM) (.ref CM) = some true)
    (haM : PySem.W.findIn K (.ref CM) "__class__" = some (some (.builtin "object.__class__")))
    (hmM : PySem.W.mroIn K CM (.type "object") = some true)
    (aT : PySem.W.nsIn K mainGlobals "BadLetter" = some (some (.ref CT)))
    (iT : PySem.W.findIn K (.ref CT) "__init__" = some (some (.ref fT)))
    (lT : K.lookup fT = some ⟨ocT, odT, .func (PySem.W.fnOf "__init__" "BadLetter.__init__" (defArgs s_BadLetter_init) (defBody s_BadLetter_init) (defScope s_BadLetter_init) .none kVT dcT pmT anT cdT ctT), slT⟩)
    (cT : PySem.W.codeIn K cdT "BadLetter.__init__" = true)
    (kT : PySem.W.keepIn K (.ref fT) = true)
    (kcT : PySem.W.keepIn K (.ref CT) = true)
    (saT : PySem.W.findIn K (.ref CT) "__setattr__" = some (some (.builtin "object.__setattr__")))
    (xT : K.lookup CT = some (excClassObj nmT qT CT NT bsT bmT true snT subT abT colT ddT m0T m1T m2T m3T m5T "ValueError.__new__"))
    (vT : PySem.HandSPX.refsVE bmT = true)
    (gaT : PySem.W.findIn K (.ref CT) "__getattribute__" = some (some (.builtin "BaseException.__getattribute__")))
    (ggT : PySem.W.findIn K (.ref CT) "__getattr__" = some none)
    (eCT : PySem.W.subIn K (.ref CT) (.type "BaseException") = some true)
    (tCT : PySem.W.typeIn K (.ref CT) = some (.type "type"))
    (tfT : PySem.W.typeIn K (.ref fT) = some (.type "function"))
    (hCT : PySem.W.hasDictIn K CT = true)
    (nT0 : PySem.W.findIn K (.ref CT) "index" = some none)
    (icT : PySem.W.isClsIn K CT = true)
    (esT : PySem.W.subIn K (.ref CT) (.ref CT) = some true)
    (haT : PySem.W.findIn K (.ref CT) "__class__" = some (some (.builtin "object.__class__")))
    (hmT : PySem.W.mroIn K CT (.type "object") = some true)
    (aA : PySem.W.nsIn K mainGlobals "BadAnswers" = some (some (.ref CA)))
    (iA : PySem.W.findIn K (.ref CA) "__init__" = some (some (.ref fA)))
    (lA : K.lookup fA = some ⟨ocA, odA, .func (PySem.W.fnOf "__init__" "BadAnswers.__init__" (defArgs s_BadAnswers_init) (defBody s_BadAnswers_init) (defScope s_BadAnswers_init) .none kVA dcA pmA anA cdA ctA), slA⟩)
    (cA : PySem.W.codeIn K cdA "BadAnswers.__init__" = true)
    (kA : PySem.W.keepIn K (.ref fA) = true)
    (kcA : PySem.W.keepIn K (.ref CA) = true)
    (saA : PySem.W.findIn K (.ref CA) "__setattr__" = some (some (.builtin "object.__setattr__")))
    (xA : K.lookup CA = some (excClassObj nmA qA CA NA bsA bmA true snA subA abA colA ddA m0A m1A m2A m3A m5A "ValueError.__new__"))
    (vA : PySem.HandSPX.refsVE bmA = true)
    (gaA : PySem.W.findIn K (.ref CA) "__getattribute__" = some (some (.builtin "BaseException.__getattribute__")))
    (ggA : PySem.W.findIn K (.ref CA) "__getattr__" = some none)
    (eCA : PySem.W.subIn K (.ref CA) (.type "BaseException") = some true)
    (tCA : PySem.W.typeIn K (.ref CA) = some (.type "type"))
    (tfA : PySem.W.typeIn K (.ref fA) = some (.type "function"))
    (hCA : PySem.W.hasDictIn K CA = true)
    (nA0 : PySem.W.findIn K (.ref CA) "index" = some none)
    (icA : PySem.W.isClsIn K CA = true)
    (esA : PySem.W.subIn K (.ref CA) (.ref CA) = some true)
    (haA : PySem.W.findIn K (.ref CA) "__class__" = some (some (.builtin "object.__class__")))
    (hmA : PySem.W.mroIn K CA (.type "object") = some true)
    (aZ : PySem.W.nsIn K mainGlobals "BadKind" = some (some (.ref CZ)))
    (exZ : PySem.W.excIn K CZ [Value.type "ValueError", Value.type "Exception", Value.type "BaseException", Value.type "object"] "ValueError.__new__" = true)
    (kcZ : PySem.W.keepIn K (.ref CZ) = true)
    (eCZ : PySem.W.subIn K (.ref CZ) (.type "BaseException") = some true)
    (tCZ : PySem.W.typeIn K (.ref CZ) = some (.type "type"))
    (icZ : PySem.W.isClsIn K CZ = true)
    (esZ : PySem.W.subIn K (.ref CZ) (.ref CZ) = some true)
    (uAZ : PySem.W.subIn K (.ref CA) (.ref CZ) = some false)
    (uMZ : PySem.W.subIn K (.ref CM) (.ref CZ) = some false)
    (uMA : PySem.W.subIn K (.ref CM) (.ref CA) = some false)
    (uTZ : PySem.W.subIn K (.ref CT) (.ref CZ) = some false)
    (uTA : PySem.W.subIn K (.ref CT) (.ref CA) = some false)
    (uTM : PySem.W.subIn K (.ref CT) (.ref CM) = some false)
    (aL : PySem.W.nsIn K mainGlobals "Letters" = some (some (.ref CL)))
    (kcL : PySem.W.keepIn K (.ref CL) = true)
    (saL : PySem.W.findIn K (.ref CL) "__setattr__" = some (some (.builtin "object.__setattr__")))
    (pgL : PySem.W.plainGet K CL Str.empty = true)
    (hdL : PySem.W.hasDictIn K CL = true)
    (poL : PySem.W.plainOver K CL = true)
    (mkL : PySem.W.makesIn K CL = true)
    (nL0 : PySem.W.findIn K (.ref CL) "words" = some none)
    (icL : PySem.W.isClsIn K CL = true)
    (haL : PySem.W.findIn K (.ref CL) "__class__" = some (some (.builtin "object.__class__")))
    (hmL : PySem.W.mroIn K CL (.type "object") = some true)
    (iL : PySem.W.findIn K (.ref CL) "__init__" = some (some (.ref fL)))
    (lL : K.lookup fL = some ⟨ocL, odL, .func (PySem.W.fnOf "__init__" "Letters.__init__" (defArgs s_Letters_init) (defBody s_Letters_init) (defScope s_Letters_init) .none kVL dcL pmL anL cdL ctL), slL⟩)
    (cL : PySem.W.codeIn K cdL "Letters.__init__" = true)
    (kL : PySem.W.keepIn K (.ref fL) = true)
    (isL : PySem.W.isFn K (.ref fL) = true)
    (iH : PySem.W.findIn K (.ref CL) "__contains__" = some (some (.ref fH)))
    (lH : K.lookup fH = some ⟨ocH, odH, .func (PySem.W.fnOf "__contains__" "Letters.__contains__" (defArgs s_Has) (defBody s_Has) (defScope s_Has) .none kVH dcH pmH anH cdH ctH), slH⟩)
    (cH : PySem.W.codeIn K cdH "Letters.__contains__" = true)
    (kH : PySem.W.keepIn K (.ref fH) = true)
    (isH : PySem.W.isFn K (.ref fH) = true)
    (iQ : PySem.W.findIn K (.ref CL) "__eq__" = some (some (.ref fQ)))
    (lQ : K.lookup fQ = some ⟨ocQ, odQ, .func (PySem.W.fnOf "__eq__" "Letters.__eq__" (defArgs s_Eq) (defBody s_Eq) (defScope s_Eq) .none kVQ dcQ pmQ anQ cdQ ctQ), slQ⟩)
    (cQ : PySem.W.codeIn K cdQ "Letters.__eq__" = true)
    (kQ : PySem.W.keepIn K (.ref fQ) = true)
    (isQ : PySem.W.isFn K (.ref fQ) = true)
    (aI : PySem.W.nsIn K mainGlobals "Limit" = some (some (.ref CI)))
    (kcI : PySem.W.keepIn K (.ref CI) = true)
    (saI : PySem.W.findIn K (.ref CI) "__setattr__" = some (some (.builtin "object.__setattr__")))
    (pgI : PySem.W.plainGet K CI Str.empty = true)
    (hdI : PySem.W.hasDictIn K CI = true)
    (poI : PySem.W.plainOver K CI = true)
    (mkI : PySem.W.makesIn K CI = true)
    (nI0 : PySem.W.findIn K (.ref CI) "letters" = some none)
    (nI1 : PySem.W.findIn K (.ref CI) "kind" = some none)
    (nI2 : PySem.W.findIn K (.ref CI) "answers" = some none)
    (nI3 : PySem.W.findIn K (.ref CI) "letter" = some none)
    (icI : PySem.W.isClsIn K CI = true)
    (haI : PySem.W.findIn K (.ref CI) "__class__" = some (some (.builtin "object.__class__")))
    (hmI : PySem.W.mroIn K CI (.type "object") = some true)
    (iI : PySem.W.findIn K (.ref CI) "__init__" = some (some (.ref fI)))
    (lI : K.lookup fI = some ⟨ocI, odI, .func (PySem.W.fnOf "__init__" "Limit.__init__" (defArgs s_Lim_init) (defBody s_Lim_init) (defScope s_Lim_init) (.ref TI) kVI dcI pmI anI cdI ctI), slI⟩)
    (cI : PySem.W.codeIn K cdI "Limit.__init__" = true)
    (kI : PySem.W.keepIn K (.ref fI) = true)
    (dTI : K.lookup TI = some oTI)
    (dUI : oTI.data = .seq [Value.none].toArray nTI)
    (isI : PySem.W.isFn K (.ref fI) = true)
    (tcI : PySem.W.typeIn K (.ref CI) = some (.type "type"))
    (iE : PySem.W.findIn K (.ref CI) "__eq__" = some (some (.ref fE)))
    (lE : K.lookup fE = some ⟨ocE, odE, .func (PySem.W.fnOf "__eq__" "Limit.__eq__" (defArgs s_LEq) (defBody s_LEq) (defScope s_LEq) .none kVE dcE pmE anE cdE ctE), slE⟩)
    (cE : PySem.W.codeIn K cdE "Limit.__eq__" = true)
    (kE : PySem.W.keepIn K (.ref fE) = true)
    (isE : PySem.W.isFn K (.ref fE) = true)
    (iX : PySem.W.findIn K (.ref CI) "__str__" = some (some (.ref fX)))
    (lX : K.lookup fX = some ⟨ocX, odX, .func (PySem.W.fnOf "__str__" "Limit.__str__" (defArgs s_LStr) (defBody s_LStr) (defScope s_LStr) .none kVX dcX pmX anX cdX ctX), slX⟩)
    (cX : PySem.W.codeIn K cdX "Limit.__str__" = true)
    (kX : PySem.W.keepIn K (.ref fX) = true)
    (isX : PySem.W.isFn K (.ref fX) = true)
    (g_gS : PySem.W.nsIn K mainGlobals "SMALL_LETTERS" = some (some (.str "abcdefghijklmnopqrstuvwxyz" gS)))
    (g_gW : PySem.W.nsIn K mainGlobals "WORD_SIGNS" = some (some (.str "abcdefghijklmnopqrstuvwxyz0123456789" gW)))
    (g_gM : PySem.W.nsIn K mainGlobals "MOST_SIGNS" = some (some (.int 12 gM)))
    (g_gL : PySem.W.nsIn K mainGlobals "MOST_LETTERS" = some (some (.int 12 gL)))
    (g_gB : PySem.W.nsIn K mainGlobals "BEGINNINGS" = some (some (.ref T_gB)))
    (gl_gB : K.lookup T_gB = some o_gB)
    (gc_gB : o_gB.cls = .type "tuple")
    (gd_gB : o_gB.data = .seq j_gB n_gB)
    (gs_gB : j_gB.size ≤ sizeLine)
    (gv_gB : Vals [.str newW, .str foundW] j_gB.toList)
    (g_gK : PySem.W.nsIn K mainGlobals "LIMIT_KINDS" = some (some (.ref T_gK)))
    (gl_gK : K.lookup T_gK = some o_gK)
    (gc_gK : o_gK.cls = .type "tuple")
    (gd_gK : o_gK.data = .seq j_gK n_gK)
    (gs_gK : j_gK.size ≤ sizeLine)
    (gv_gK : Vals [.str ("always" : Str), .str ("fresh" : Str), .str ("behind" : Str)] j_gK.toList)
    (g_gA : PySem.W.nsIn K mainGlobals "MOST_ANSWERS" = some (some (.int 6 gA)))
    (z0 : PySem.W.nsIn K mainGlobals "int" = some none)
    (z1 : PySem.W.nsIn K mainGlobals "len" = some none)
    (z2 : PySem.W.nsIn K mainGlobals "abs" = some none)
    (z3 : PySem.W.nsIn K mainGlobals "list" = some none)
    (z4 : PySem.W.nsIn K mainGlobals "range" = some none)
    (z5 : PySem.W.nsIn K mainGlobals "min" = some none)
    (z6 : PySem.W.nsIn K mainGlobals "str" = some none)
    (z7 : PySem.W.nsIn K mainGlobals "isinstance" = some none)
    (z8 : PySem.W.nsIn K mainGlobals "all" = some none)
    (z9 : PySem.W.nsIn K mainGlobals "enumerate" = some none)
    (z10 : PySem.W.nsIn K mainGlobals "tuple" = some none)
    (z11 : PySem.W.nsIn K mainGlobals "repr" = some none)
    (z12 : PySem.W.nsIn K mainGlobals "dict" = some none)
    (z13 : PySem.W.nsIn K mainGlobals "sorted" = some none)
    (z14 : PySem.W.nsIn K mainGlobals "set" = some none)
    (xI : K.lookup CI = some (excClassObj nmI qI CI NI bsI bmI hdctI snI subI abI colI ddI m0I m1I m2I m3I m5I newI))
    (vI : bmI = [.type "object"])
    (xNI : K.lookup NI = some oNI)
    (xAI : oNI.data = .dict esNI epNI)
    (xBI : StrKeys esNI)
    (xCI : nsFind esNI "__eq__" = some (.ref fE))
    (xDI : nsFind esNI "__ne__" = none)
    (base : Heap) (kb : K.In base) (gb : base.Ns mainGlobals mg) (s₁ : Shared) (H : Hp) (a : Addr) (ns : List Int) (e0 : Env0 P w K mg base callerA [] s₁ H) (hS : SqL K H a (ns.map V.int)) (hl : ns.length ≤ 63) :
    codeAny (model P w) callerA (.call (.ref fa) ⟨[.ref a], []⟩) (CR CX0 [] P w H s₁ (fun v _ => v = .bl true) E0) s₁ := by
  have e := hfa.symm.trans (PySem.W.mg_of X G a9)
  cases e
  have T : Blt mg := ⟨PySem.W.mg_none_of X G z0, PySem.W.mg_none_of X G z1, PySem.W.mg_none_of X G z2, PySem.W.mg_none_of X G z3, PySem.W.mg_none_of X G z4, PySem.W.mg_none_of X G z5, PySem.W.mg_none_of X G z6, PySem.W.mg_none_of X G z7, PySem.W.mg_none_of X G z8, PySem.W.mg_none_of X G z9, PySem.W.mg_none_of X G z10, PySem.W.mg_none_of X G z11⟩
  have F0 := fun_mk (st := s_is_short_word) l0 c0 k0
  have b0 := F0.binds (ps := ["value"]) fun _ _ _ _ _ _ us hl => match us, hl with | [_], _ => rfl
  have A0 : At K mg "is_short_word" f0 _ ["value"] := ⟨PySem.W.mg_of X G a0, k0, b0⟩
  have F1 := fun_mk (st := s_copied) l1 c1 k1
  have b1 := F1.binds (ps := ["value"]) fun _ _ _ _ _ _ us hl => match us, hl with | [_], _ => rfl
  have A1 : At K mg "copied" f1 _ ["value"] := ⟨PySem.W.mg_of X G a1, k1, b1⟩
  have F2 := fun_mk (st := s_is_letter) l2 c2 k2
  have b2 := F2.binds (ps := ["value"]) fun _ _ _ _ _ _ us hl => match us, hl with | [_], _ => rfl
  have A2 : At K mg "is_letter" f2 _ ["value"] := ⟨PySem.W.mg_of X G a2, k2, b2⟩
  have F3 := fun_mk (st := s__law_pen) l3 c3 k3
  have b3 := F3.binds (ps := ["_law_script"]) fun _ _ _ _ _ _ us hl => match us, hl with | [_], _ => rfl
  have A3 : At K mg "_law_pen" f3 _ ["_law_script"] := ⟨PySem.W.mg_of X G a3, k3, b3⟩
  have F4 := fun_mk (st := s__law_draw) l4 c4 k4
  have b4 := F4.binds (ps := ["_law_pen_here", "_law_many"]) fun _ _ _ _ _ _ us hl => match us, hl with | [_, _], _ => rfl
  have A4 : At K mg "_law_draw" f4 _ ["_law_pen_here", "_law_many"] := ⟨PySem.W.mg_of X G a4, k4, b4⟩
  have F5 := fun_mk (st := s__law_pick) l5 c5 k5
  have b5 := F5.binds (ps := ["_law_pen_here", "_law_options"]) fun _ _ _ _ _ _ us hl => match us, hl with | [_, _], _ => rfl
  have A5 : At K mg "_law_pick" f5 _ ["_law_pen_here", "_law_options"] := ⟨PySem.W.mg_of X G a5, k5, b5⟩
  have F6 := fun_mk (st := s__law_letters) l6 c6 k6
  have b6 := F6.binds (ps := ["_law_pen_here", "_law_many"]) fun _ _ _ _ _ _ us hl => match us, hl with | [_, _], _ => rfl
  have A6 : At K mg "_law_letters" f6 _ ["_law_pen_here", "_law_many"] := ⟨PySem.W.mg_of X G a6, k6, b6⟩
  have Fr := fun_mk (st := s_is_answer) lr cr kr
  have br := Fr.binds (ps := ["value"]) fun _ _ _ _ _ _ us hl => match us, hl with | [_], _ => rfl
  have Ar : At K mg "is_answer" fr _ ["value"] := ⟨PySem.W.mg_of X G ar, kr, br⟩
  have Fs := fun_mk (st := s_answer_set) ls cs ks
  have bs := Fs.binds (ps := ["answers"]) fun _ _ _ _ _ _ us hl => match us, hl with | [_], _ => rfl
  have As : At K mg "answer_set" fs _ ["answers"] := ⟨PySem.W.mg_of X G as, ks, bs⟩
  have Fm := fun_mk (st := s_is_due) lm cm km
  have bm := Fm.binds (ps := ["letters", "value", "has_letter"]) fun _ _ _ _ _ _ us hl => match us, hl with | [_, _, _], _ => rfl
  have Am : At K mg "is_due" fm _ ["letters", "value", "has_letter"] := ⟨PySem.W.mg_of X G am, km, bm⟩
  have F7 := fun_mk (st := s__law_odd) l7 c7 k7
  have b7 := F7.binds (ps := ["_law_pen_here", "_law_letters_here"]) fun _ _ _ _ _ _ us hl => match us, hl with | [_, _], _ => rfl
  have A7 : At K mg "_law_odd" f7 _ ["_law_pen_here", "_law_letters_here"] := ⟨PySem.W.mg_of X G a7, k7, b7⟩
  have F8 := fun_mk (st := s__law_free) l8 c8 k8
  have b8 := F8.binds (ps := ["_law_letters_here"]) fun _ _ _ _ _ _ us hl => match us, hl with | [_], _ => rfl
  have A8 : At K mg "_law_free" f8 _ ["_law_letters_here"] := ⟨PySem.W.mg_of X G a8, k8, b8⟩
  have Fn := fun_mk (st := s__law_answer) ln cn kn
  have bn := Fn.binds (ps := ["_law_pen_here"]) fun _ _ _ _ _ _ us hl => match us, hl with | [_], _ => rfl
  have An : At K mg "_law_answer" fn _ ["_law_pen_here"] := ⟨PySem.W.mg_of X G an, kn, bn⟩
  have Fo := fun_mk (st := s__law_is_answer) lo co ko
  have bo := Fo.binds (ps := ["_law_value"]) fun _ _ _ _ _ _ us hl => match us, hl with | [_], _ => rfl
  have Ao : At K mg "_law_is_answer" fo _ ["_law_value"] := ⟨PySem.W.mg_of X G ao, ko, bo⟩
  have Fp := fun_mk (st := s__law_set) lp cp kp
  have bp := Fp.binds (ps := ["_law_answers"]) fun _ _ _ _ _ _ us hl => match us, hl with | [_], _ => rfl
  have Ap : At K mg "_law_set" fp _ ["_law_answers"] := ⟨PySem.W.mg_of X G ap, kp, bp⟩
  have Fq := fun_mk (st := s__law_due) lq cq kq
  have bq := Fq.binds (ps := ["_law_answers"]) fun _ _ _ _ _ _ us hl => match us, hl with | [_], _ => rfl
  have Aq : At K mg "_law_due" fq _ ["_law_answers"] := ⟨PySem.W.mg_of X G aq, kq, bq⟩
  have Fu := fun_mk (st := s__law_told) lu cu ku
  have bu := Fu.binds (ps := ["_law_answers"]) fun _ _ _ _ _ _ us hl => match us, hl with | [_], _ => rfl
  have Au : At K mg "_law_told" fu _ ["_law_answers"] := ⟨PySem.W.mg_of X G au, ku, bu⟩
  have Fv := fun_mk (st := s__law_limit) lv cv kv
  have bv := Fv.binds (ps := ["_law_letters_here", "_law_kind", "_law_answers", "_law_letter"]) fun _ _ _ _ _ _ us hl => match us, hl with | [_, _, _, _], _ => rfl
  have Av : At K mg "_law_limit" fv _ ["_law_letters_here", "_law_kind", "_law_answers", "_law_letter"] := ⟨PySem.W.mg_of X G av, kv, bv⟩
  have Fw := fun_mk (st := s__law_limit_due) lw cw kw
  have bw := Fw.binds (ps := ["_law_letters_here", "_law_kind", "_law_answers", "_law_letter"]) fun _ _ _ _ _ _ us hl => match us, hl with | [_, _, _, _], _ => rfl
  have Aw : At K mg "_law_limit_due" fw _ ["_law_letters_here", "_law_kind", "_law_answers", "_law_letter"] := ⟨PySem.W.mg_of X G aw, kw, bw⟩
  have Fx := fun_mk (st := s__law_is_right) lx cx kx
  have bx := Fx.binds (ps := ["_law_made", "_law_letters_here", "_law_kind", "_law_answers", "_law_letter"]) fun _ _ _ _ _ _ us hl => match us, hl with | [_, _, _, _, _], _ => rfl
  have Ax : At K mg "_law_is_right" fx _ ["_law_made", "_law_letters_here", "_law_kind", "_law_answers", "_law_letter"] := ⟨PySem.W.mg_of X G ax, kx, bx⟩
  have F9 := fun_mk (st := s_law) l9 c9 k9
  have FB := fun_mk (st := s_BadLetters_init) lB cB kB
  have bB := FB.binds (ps := ["self", "index"]) fun _ _ _ _ _ _ us hl => match us, hl with | [_, _], _ => rfl
  have OB : OexC K CB := ⟨⟨_, _, _, _, _, _, _, _, _, _, _, _, _, _, _, xB, vB⟩, saB, eCB, tCB, kcB⟩
  have EB : ErrAt K mg "BadLetters" CB fB _ _ := ⟨PySem.W.mg_of X G aB, OB, iB, tfB, bB, ⟨gaB, ggB, eCB, hCB⟩⟩
  have FM := fun_mk (st := s_TooMany_init) lM cM kM
  have bM := FM.binds (ps := ["self", "what", "many", "most"]) fun _ _ _ _ _ _ us hl => match us, hl with | [_, _, _, _], _ => rfl
  have OM : OexC K CM := ⟨⟨_, _, _, _, _, _, _, _, _, _, _, _, _, _, _, xM, vM⟩, saM, eCM, tCM, kcM⟩
  have EM : ErrAt K mg "TooMany" CM fM _ _ := ⟨PySem.W.mg_of X G aM, OM, iM, tfM, bM, ⟨gaM, ggM, eCM, hCM⟩⟩
  have YM : XkC K CM := ⟨icM, haM, hn, ht, hmM⟩
  have eeM := exm_of eCM icM tCM esM
  have FT := fun_mk (st := s_BadLetter_init) lT cT kT
  have bT := FT.binds (ps := ["self", "index"]) fun _ _ _ _ _ _ us hl => match us, hl with | [_, _], _ => rfl
  have OT : OexC K CT := ⟨⟨_, _, _, _, _, _, _, _, _, _, _, _, _, _, _, xT, vT⟩, saT, eCT, tCT, kcT⟩
  have ET : ErrAt K mg "BadLetter" CT fT _ _ := ⟨PySem.W.mg_of X G aT, OT, iT, tfT, bT, ⟨gaT, ggT, eCT, hCT⟩⟩
  have YT : XkC K CT := ⟨icT, haT, hn, ht, hmT⟩
  have eeT := exm_of eCT icT tCT esT
  have FA := fun_mk (st := s_BadAnswers_init) lA cA kA
  have bA := FA.binds (ps := ["self", "index"]) fun _ _ _ _ _ _ us hl => match us, hl with | [_, _], _ => rfl
  have OA : OexC K CA := ⟨⟨_, _, _, _, _, _, _, _, _, _, _, _, _, _, _, xA, vA⟩, saA, eCA, tCA, kcA⟩
  have EA : ErrAt K mg "BadAnswers" CA fA _ _ := ⟨PySem.W.mg_of X G aA, OA, iA, tfA, bA, ⟨gaA, ggA, eCA, hCA⟩⟩
  have YA : XkC K CA := ⟨icA, haA, hn, ht, hmA⟩
  have eeA := exm_of eCA icA tCA esA
  have hCL : Cls K CL := ⟨pgL, hdL, poL, saL⟩
  have YL : XkC K CL := ⟨icL, haL, hn, ht, hmL⟩
  have FL := fun_mk (st := s_Letters_init) lL cL kL
  have bL := FL.binds (ps := ["self", "words"]) fun _ _ _ _ _ _ us hl => match us, hl with | [_, _], _ => rfl
  have FH := fun_mk (st := s_Has) lH cH kH
  have bH := FH.binds (ps := ["self", "x"]) fun _ _ _ _ _ _ us hl => match us, hl with | [_, _], _ => rfl
  have FQ := fun_mk (st := s_Eq) lQ cQ kQ
  have bQ := FQ.binds (ps := ["self", "other"]) fun _ _ _ _ _ _ us hl => match us, hl with | [_, _], _ => rfl
  have hCI : Cls K CI := ⟨pgI, hdI, poI, saI⟩
  have YI : XkC K CI := ⟨icI, haI, hn, ht, hmI⟩
  have FI : FunD K "__init__" "Limit.__init__" (defArgs s_Lim_init) (defBody s_Lim_init) (defScope s_Lim_init) [V.non] [] fI _ := ⟨⟨_, _, _, _, _, _, _, _, _, _, rfl, lI, cI, .inr ⟨by simp, TI, oTI, [.none], nTI, rfl, dTI, dUI, .cons rfl .nil⟩, .inl rfl⟩, kI⟩
  have FE := fun_mk (st := s_LEq) lE cE kE
  have bE := FE.binds (ps := ["self", "other"]) fun _ _ _ _ _ _ us hl => match us, hl with | [_, _], _ => rfl
  have FX := fun_mk (st := s_LStr) lX cX kX
  have bX := FX.binds (ps := ["self"]) fun _ _ _ _ _ _ us hl => match us, hl with | [_], _ => rfl
  subst vI
  have hqI : ocE = .type "function" := by
    have h : (K.lookup fE).map (·.cls) = some (.type "function") := beq_iff_eq.mp isE
    rw [lE] at h
    exact Option.some.inj h
  have nEI : OwnNe K CI fE := ⟨_, _, NI, _, _, _, _, _, _, _, _, _, _, _, _, _, oNI, esNI, epNI, _, xI, xNI, xAI, xBI, xCI, xDI, lE, hqI⟩
  have nD := PySem.W.mg_none_of X G z12
  have nSo := PySem.W.mg_none_of X G z13
  have nSe := PySem.W.mg_none_of X G z14
  have C : Gv K mg := ⟨⟨_, PySem.W.mg_of X G g_gS, _, rfl⟩, ⟨_, PySem.W.mg_of X G g_gW, _, rfl⟩, ⟨_, PySem.W.mg_of X G g_gM, _, rfl⟩, ⟨T_gB, _, PySem.W.mg_of X G g_gB, rfl, fun H => .inr ⟨o_gB, j_gB, n_gB, gl_gB, gc_gB, gd_gB, gs_gB, gv_gB⟩⟩, ⟨_, PySem.W.mg_of X G g_gL, _, rfl⟩⟩
  have hLi : LiC K CI := ⟨hCI, nI0, nI1, nI2, nI3⟩
  have mL := PySem.W.mg_of X G aL
  have mI := PySem.W.mg_of X G aI
  have EZ : Err0 K mg "BadKind" CZ := ⟨PySem.W.mg_of X G aZ, exZ, kcZ, eCZ, tCZ⟩
  have G0 := ok_short (P := P) (w := w) (base := base) F0 T C
  have G0v := ok_shortV (P := P) (w := w) (base := base) F0 T C
  have G1 := ok_copied (P := P) (w := w) (base := base) F1 T nD
  have G2 := ok_is_letter (P := P) (w := w) (base := base) F2 T C G0 A0
  have G3 := ok_pen (P := P) (w := w) (base := base) F3 T
  have G4 := ok_draw (P := P) (w := w) (base := base) F4 T
  have G5 := ok_pick (P := P) (w := w) (base := base) F5 T G4 A4
  have G6 := ok_lettersD (P := P) (w := w) (base := base) F6 T G4 A4 G5 A5
  have GB := ok_badInit (P := P) (w := w) (base := base) FB OB nB0 G1 A1
  have GM := ok_manyInit (P := P) (w := w) (base := base) FM OM nM0 nM1 nM2 G1 A1
  have GT := ok_initBadLetter (P := P) (w := w) (base := base) FT OT nT0 G1 A1
  have GA' := ok_initBadAnswers (P := P) (w := w) (base := base) FA OA nA0 G1 A1
  have GL := ok_letInit (P := P) (w := w) (base := base) FL T C hCL nL0 G2 A2 GB EB GM EM
  have GH := ok_has (P := P) (w := w) (base := base) (mg := mg) FH hCL nL0
  have GQ := ok_eq (P := P) (w := w) (base := base) FQ T hCL nL0 YL mL
  have Gm := ok_isDue (P := P) (w := w) (base := base) (mg := mg) Fm GH bH iH isH
  have Gr := ok_isAns (P := P) (w := w) (base := base) Fr G0v A0
  have Gs := ok_ans (P := P) (w := w) (base := base) Fs T nSo nSe ⟨_, PySem.W.mg_of X G g_gA, _, rfl⟩ Gr Ar GA' EA GM EM
  have GI := ok_limInit (P := P) (w := w) (base := base) FI hLi (PySem.W.mg_of X G g_gK) rfl (fun H => .inr ⟨o_gK, j_gK, n_gK, gl_gK, gc_gK, gd_gK, gs_gK, gv_gK⟩) Gm Am Gs As EZ GT ET
  have ML : Mk K CL fL := ⟨mkL, iL, isL, kcL⟩
  have MI : Mk K CI fI := ⟨mkI, iI, isI, kcI⟩
  obtain ⟨⟨u0, ru, bI0⟩, bI⟩ := lim_binds FI
  have GE := ok_leq (P := P) (w := w) (base := base) FE T hLi YI mI GQ bQ iQ isQ
  have GX := ok_lstr (P := P) (w := w) (base := base) (mg := mg) (CL := CL) FX hLi
  have G7 := ok_odd (P := P) (w := w) (base := base) F7 T G5 A5
  have G8 := ok_free (P := P) (w := w) (base := base) F8 T
  have Gn := ok_answer (P := P) (w := w) (base := base) Fn T G5 A5
  have Go' := ok_lawIsAns (P := P) (w := w) (base := base) Fo T
  have Gp := ok_lawSet (P := P) (w := w) (base := base) Fp T
  have Gq := ok_lawDue (P := P) (w := w) (base := base) Fq T Go' Ao Gp Ap
  have Gu := ok_toldA (P := P) (w := w) (base := base) Fu Gs As EA EM ⟨eeA, exm_of eCA icA tCA uMA, eeM, nA0, nM0, nM1, nM2⟩
  have Gv' := ok_limT (P := P) (w := w) (base := base) Fv ML mL bL GL MI mI bI GI EZ EA EM ET ⟨exm_of eCZ icZ tCZ esZ, exm_of eCZ icZ tCZ uAZ, eeA, exm_of eCZ icZ tCZ uMZ, exm_of eCA icA tCA uMA, eeM, exm_of eCZ icZ tCZ uTZ, exm_of eCA icA tCA uTA, exm_of eCM icM tCM uTM, eeT, nA0, nT0, nM0, nM1, nM2⟩
  have Gw := ok_limD (P := P) (w := w) (base := base) Fw T Gq Aq
  have Gx := ok_rightL (P := P) (w := w) (base := base) Fx T hLi Gp Ap G8 A8 ML mL bL GL MI mI bI GI GQ bQ iQ isQ GE bE iE isE nEI GX bX iX isX
  exact run_law F9 T hLi YI tcI G3 A3 G4 A4 G5 A5 G6 A6 G7 A7 Gn An Gp Ap Gq Aq Gu Au Gv' Av Gw Aw Gx Ax ML mL bL GL MI mI bI0 ru GI GE bE iE isE rfl ⟨rfl, by decide, by decide⟩ e0 (.of_eq rfl) hS hl
theorem walk {l : PySem.W.OpenLaw} {q : Program} {loose : List Str} {XP : (Str → Option Value) → Heap → Prop} {YP : World → Heap → Prop} {d : DefRec} {K : Params → PySem.W.Frag} (hn : l.most = some 63) (hdf : d.params.defaults = [])
    (hY : ∀ (w : World) (h : Heap), YP w h → (K w.params).In h)
    (F : ∀ (w : World) (mg : Str → Option Value) (fa : Addr) (h : Heap), (K w.params).In h → h.Ns mainGlobals mg → mg d.name = some (.ref fa) → ∀ (base : Heap), (K w.params).In base → base.Ns mainGlobals mg →
      ∀ (s₁ : Shared) (H : Hp) (a : Addr) (ns : List Int), Env0 l.prog w (K w.params) mg base callerA [] s₁ H → SqL (K w.params) H a (ns.map V.int) → ns.length ≤ 63 →
        codeAny (model l.prog w) callerA (.call (.ref fa) ⟨[.ref a], []⟩) (CR CX0 [] l.prog w H s₁ (fun v _ => v = .bl true) E0) s₁) :
    PySem.W.WalkO q loose XP YP l.row.toRowW d [] (fun f vs => PySem.call f vs) := by
  refine Att.attach_call hn hdf fun w s₀ s₁ mg mb fa o pm cd doc a vs ns G Y ho hd hcd hmg hobj hints hlen hg => ?_
  have KX := hY w _ Y
  exact law_at KX G.T.g G.T.b G.T.builtins G.T.nolimit hg hobj hints (Nat.le_trans hlen (by decide)) fun base H kb gb e0 hS => F w mg fa _ KX G.T.g hmg base kb gb s₁ H a ns e0 hS hlen
end Ask

open PySem PySem.W PyProof.Rows
set_option maxRecDepth 100000
set_option maxHeartbeats 0
open_top headK09 for PySem.Challenge.rw_asksmore_k09_limits_and_answers
set_option maxRecDepth 100000 in
set_option maxHeartbeats 0 in
theorem PySem.Challenge.cw_asksmore_k09_limits_and_answers_holds : PySem.Challenge.rw_asksmore_k09_limits_and_answers.Holds := by
  refine headK09 ?_
  k_fill
  refine Ask.walk (l := PySem.Challenge.rw_asksmore_k09_limits_and_answers) rfl rfl (fun w h Y => PySem.W.kIn_of Y) ?F
  case F =>
    intro w mg fa h KX G hmg
    refine' Ask.all_mk KX G hmg ?hn ?ht ?a0 ?l0 ?c0 ?k0 ?a1 ?l1 ?c1 ?k1 ?a2 ?l2 ?c2 ?k2 ?a3 ?l3 ?c3 ?k3 ?a4 ?l4 ?c4 ?k4 ?a5 ?l5 ?c5 ?k5 ?a6 ?l6 ?c6 ?k6 ?ar ?lr ?cr ?kr ?as ?ls ?cs ?ks ?am ?lm ?cm ?km ?a7 ?l7 ?c7 ?k7 ?a8 ?l8 ?c8 ?k8 ?an ?ln ?cn ?kn ?ao ?lo ?co ?ko ?ap ?lp ?cp ?kp ?aq ?lq ?cq ?kq ?au ?lu ?cu ?ku ?av ?lv ?cv ?kv ?aw ?lw ?cw ?kw ?ax ?lx ?cx ?kx ?a9 ?l9 ?c9 ?k9 ?aB ?iB ?lB ?cB ?kB ?kcB ?saB ?xB ?vB ?gaB ?ggB ?eCB ?tCB ?tfB ?hCB ?nB0 ?aM ?iM ?lM ?cM ?kM ?kcM ?saM ?xM ?vM ?gaM ?ggM ?eCM ?tCM ?tfM ?hCM ?nM0 ?nM1 ?nM2 ?icM ?esM ?haM ?hmM ?aT ?iT ?lT ?cT ?kT ?kcT ?saT ?xT ?vT ?gaT ?ggT ?eCT ?tCT ?tfT ?hCT ?nT0 ?icT ?esT ?haT ?hmT ?aA ?iA ?lA ?cA ?kA ?kcA ?saA ?xA ?vA ?gaA ?ggA ?eCA ?tCA ?tfA ?hCA ?nA0 ?icA ?esA ?haA ?hmA ?aZ ?exZ ?kcZ ?eCZ ?tCZ ?icZ ?esZ ?uAZ ?uMZ ?uMA ?uTZ ?uTA ?uTM ?aL ?kcL ?saL ?pgL ?hdL ?poL ?mkL ?nL0 ?icL ?haL ?hmL ?iL ?lL ?cL ?kL ?isL ?iH ?lH ?cH ?kH ?isH ?iQ ?lQ ?cQ ?kQ ?isQ ?aI ?kcI ?saI ?pgI ?hdI ?poI ?mkI ?nI0 ?nI1 ?nI2 ?nI3 ?icI ?haI ?hmI ?iI ?lI ?cI ?kI ?dTI ?dUI ?isI ?tcI ?iE ?lE ?cE ?kE ?isE ?iX ?lX ?cX ?kX ?isX ?g_gS ?g_gW ?g_gM ?g_gL ?g_gB ?gl_gB ?gc_gB ?gd_gB ?gs_gB ?gv_gB ?g_gK ?gl_gK ?gc_gK ?gd_gK ?gs_gK ?gv_gK ?g_gA ?z0 ?z1 ?z2 ?z3 ?z4 ?z5 ?z6 ?z7 ?z8 ?z9 ?z10 ?z11 ?z12 ?z13 ?z14 ?xI ?vI ?xNI ?xAI ?xBI ?xCI ?xDI
    (case hn => k_is)
    (case ht => k_is)
    (case a0 => k_is)
    (case l0 => k_is)
    (case c0 => k_is)
    (case k0 => k_is)
    (case a1 => k_is)
    (case l1 => k_is)
    (case c1 => k_is)
    (case k1 => k_is)
    (case a2 => k_is)
    (case l2 => k_is)
    (case c2 => k_is)
    (case k2 => k_is)
    (case a3 => k_is)
    (case l3 => k_is)
    (case c3 => k_is)
    (case k3 => k_is)
    (case a4 => k_is)
    (case l4 => k_is)
    (case c4 => k_is)
    (case k4 => k_is)
    (case a5 => k_is)
    (case l5 => k_is)
    (case c5 => k_is)
    (case k5 => k_is)
    (case a6 => k_is)
    (case l6 => k_is)
    (case c6 => k_is)
    (case k6 => k_is)
    (case ar => k_is)
    (case lr => k_is)
    (case cr => k_is)
    (case kr => k_is)
    (case as => k_is)
    (case ls => k_is)
    (case cs => k_is)
    (case ks => k_is)
    (case am => k_is)
    (case lm => k_is)
    (case cm => k_is)
    (case km => k_is)
    (case a7 => k_is)
    (case l7 => k_is)
    (case c7 => k_is)
    (case k7 => k_is)
    (case a8 => k_is)
    (case l8 => k_is)
    (case c8 => k_is)
    (case k8 => k_is)
    (case an => k_is)
    (case ln => k_is)
    (case cn => k_is)
    (case kn => k_is)
    (case ao => k_is)
    (case lo => k_is)
    (case co => k_is)
    (case ko => k_is)
    (case ap => k_is)
    (case lp => k_is)
    (case cp => k_is)
    (case kp => k_is)
    (case aq => k_is)
    (case lq => k_is)
    (case cq => k_is)
    (case kq => k_is)
    (case au => k_is)
    (case lu => k_is)
    (case cu => k_is)
    (case ku => k_is)
    (case av => k_is)
    (case lv => k_is)
    (case cv => k_is)
    (case kv => k_is)
    (case aw => k_is)
    (case lw => k_is)
    (case cw => k_is)
    (case kw => k_is)
    (case ax => k_is)
    (case lx => k_is)
    (case cx => k_is)
    (case kx => k_is)
    (case a9 => k_is)
    (case l9 => k_is)
    (case c9 => k_is)
    (case k9 => k_is)
    (case aB => k_is)
    (case iB => k_is)
    (case lB => k_is)
    (case cB => k_is)
    (case kB => k_is)
    (case kcB => k_is)
    (case saB => k_is)
    (case xB => k_is)
    (case vB => rfl)
    (case gaB => k_is)
    (case ggB => k_is)
    (case eCB => k_is)
    (case tCB => k_is)
    (case tfB => k_is)
    (case hCB => k_is)
    (case nB0 => k_is)
    (case aM => k_is)
    (case iM => k_is)
    (case lM => k_is)
    (case cM => k_is)
    (case kM => k_is)
    (case kcM => k_is)
    (case saM => k_is)
    (case xM => k_is)
    (case vM => rfl)
    (case gaM => k_is)
    (case ggM => k_is)
    (case eCM => k_is)
    (case tCM => k_is)
    (case tfM => k_is)
    (case hCM => k_is)
    (case nM0 => k_is)
    (case nM1 => k_is)
    (case nM2 => k_is)
    (case icM => k_is)
    (case esM => k_is)
    (case haM => k_is)
    (case hmM => k_is)
    (case aT => k_is)
    (case iT => k_is)
    (case lT => k_is)
    (case cT => k_is)
    (case kT => k_is)
    (case kcT => k_is)
    (case saT => k_is)
    (case xT => k_is)
    (case vT => rfl)
    (case gaT => k_is)
    (case ggT => k_is)
    (case eCT => k_is)
    (case tCT => k_is)
    (case tfT => k_is)
    (case hCT => k_is)
    (case nT0 => k_is)
    (case icT => k_is)
    (case esT => k_is)
    (case haT => k_is)
    (case hmT => k_is)
    (case aA => k_is)
    (case iA => k_is)
    (case lA => k_is)
    (case cA => k_is)
    (case kA => k_is)
    (case kcA => k_is)
    (case saA => k_is)
    (case xA => k_is)
    (case vA => rfl)
    (case gaA => k_is)
    (case ggA => k_is)
    (case eCA => k_is)
    (case tCA => k_is)
    (case tfA => k_is)
    (case hCA => k_is)
    (case nA0 => k_is)
    (case icA => k_is)
    (case esA => k_is)
    (case haA => k_is)
    (case hmA => k_is)
    (case aZ => k_is)
    (case exZ => k_exc)
    (case kcZ => k_is)
    (case eCZ => k_is)
    (case tCZ => k_is)
    (case icZ => k_is)
    (case esZ => k_is)
    (case uAZ => k_is)
    (case uMZ => k_is)
    (case uMA => k_is)
    (case uTZ => k_is)
    (case uTA => k_is)
    (case uTM => k_is)
    (case aL => k_is)
    (case kcL => k_is)
    (case saL => k_is)
    (case pgL => k_is)
    (case hdL => k_is)
    (case poL => k_is)
    (case mkL => k_is)
    (case nL0 => k_is)
    (case icL => k_is)
    (case haL => k_is)
    (case hmL => k_is)
    (case iL => k_is)
    (case lL => k_is)
    (case cL => k_is)
    (case kL => k_is)
    (case isL => k_is)
    (case iH => k_is)
    (case lH => k_is)
    (case cH => k_is)
    (case kH => k_is)
    (case isH => k_is)
    (case iQ => k_is)
    (case lQ => k_is)
    (case cQ => k_is)
    (case kQ => k_is)
    (case isQ => k_is)
    (case aI => k_is)
    (case kcI => k_is)
    (case saI => k_is)
    (case pgI => k_is)
    (case hdI => k_is)
    (case poI => k_is)
    (case mkI => k_is)
    (case nI0 => k_is)
    (case nI1 => k_is)
    (case nI2 => k_is)
    (case nI3 => k_is)
    (case icI => k_is)
    (case haI => k_is)
    (case hmI => k_is)
    (case iI => k_is)
    (case lI => k_is)
    (case cI => k_is)
    (case kI => k_is)
    (case dTI => k_is)
    (case dUI => rfl)
    (case isI => k_is)
    (case tcI => k_is)
    (case iE => k_is)
    (case lE => k_is)
    (case cE => k_is)
    (case kE => k_is)
    (case isE => k_is)
    (case iX => k_is)
    (case lX => k_is)
    (case cX => k_is)
    (case kX => k_is)
    (case isX => k_is)
    (case g_gS => k_is)
    (case g_gW => k_is)
    (case g_gM => k_is)
    (case g_gL => k_is)
    (case g_gB => k_is)
    (case gl_gB => k_is)
    (case gc_gB => rfl)
    (case gd_gB => rfl)
    (case gs_gB => decide)
    (case gv_gB => exact .cons ⟨_, rfl⟩ (.cons ⟨_, rfl⟩ (.nil)))
    (case g_gK => k_is)
    (case gl_gK => k_is)
    (case gc_gK => rfl)
    (case gd_gK => rfl)
    (case gs_gK => decide)
    (case gv_gK => exact .cons ⟨_, rfl⟩ (.cons ⟨_, rfl⟩ (.cons ⟨_, rfl⟩ (.nil))))
    (case g_gA => k_is)
    (case z0 => k_is)
    (case z1 => k_is)
    (case z2 => k_is)
    (case z3 => k_is)
    (case z4 => k_is)
    (case z5 => k_is)
    (case z6 => k_is)
    (case z7 => k_is)
    (case z8 => k_is)
    (case z9 => k_is)
    (case z10 => k_is)
    (case z11 => k_is)
    (case z12 => k_is)
    (case z13 => k_is)
    (case z14 => k_is)
    (case xI => k_is)
    (case vI => rfl)
    (case xNI => k_is)
    (case xAI => rfl)
    (case xBI => exact Ask.strKeys_of rfl)
    (case xCI => rfl)
    (case xDI => rfl)
