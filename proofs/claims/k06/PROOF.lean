import PyProof.Rows.All
import Wide.All
import OpenK.AllK
import Wide.FinOn
import HandS.ForMost
import HandS.Exc
import HandS.TryOnly
import HandS.ExcInit
import HandS.IsInst
import HandS.Style
import HandS.Wide
import HandS.Deep
import HandS.Walk
import HandS.ExcField
import HandS.WordsExc
import HandS.Flow
import KE.GoesEnum
import PyProof.ReprRoads
import HandS.ExcOwn
import HandS.List
import HandS.OwnEq
import PyProof.InstNe
import PyProof.EqKinds
import KE.KExcIs
import HandS.Strs
import HandS.TupLe
import HandS.TupAny
import HandS.Defaults
import HandS.CallSlots
import PyProof.Slots
import KE.KxPercent
import PyProof.ReprLen
import PyProof.Rows.StrJoinMade
import HandS.Base
import HandS.Call
import PyProof.MeetsIn
import PyProof.Rows.Range3
import PyProof.CallStr
import HandS.CallLocal
import HandS.ClsMeth
import HandS.Property
import PySem.Challenge.RW_asksmore_k06_sums_and_spelled
set_option Elab.async false
set_option linter.all false
set_option maxRecDepth 100000
set_option maxHeartbeats 4000000
namespace Ask
open PySem L2
def top (i : Nat) : Stmt := PySem.Challenge.pw_asksmore_k06_sums_and_spelled.main.body.getD i (.Pass ⟨0, 0, 0, 0⟩)
/-- the built-in names that the text calls -/
structure Blt (mg : Str → Option Value) : Prop where
  n_int : mg "int" = none
  n_len : mg "len" = none
  n_abs : mg "abs" = none
  n_list : mg "list" = none
  n_range : mg "range" = none
  n_min : mg "min" = none
  n_str : mg "str" = none
  n_isinstance : mg "isinstance" = none
  n_all : mg "all" = none
  n_enumerate : mg "enumerate" = none
  n_tuple : mg "tuple" = none
  n_repr : mg "repr" = none
/-- all but what stands at p is as it was -/
def Kp (p : Addr) (H H' : Hp) : Prop := ∀ b o, b ≠ p → H b = some o → H' b = some o
theorem Kp.refl (p : Addr) (H : Hp) : Kp p H H := fun _ _ _ h => h
theorem Kp.trans {p : Addr} {H H1 H2 : Hp} (a : Kp p H H1) (b : Kp p H1 H2) : Kp p H H2 := fun c o n h => b c o n (a c o n h)
theorem Kp.upd (p : Addr) (H : Hp) (o : HO) : Kp p H (upd H p o) := fun b u n h => by rw [upd_ne n]; exact h
theorem Kp.of {p : Addr} {H H' : Hp} (s : Same H H') : Kp p H H' := fun b o _ h => s b o h
theorem Kp.new {p q : Addr} {H H' : Hp} {o : HO} (k : Kp p H H') (h : H' q = none) : Kp p H (L2.upd H' q o) := fun b u n e => by
  rw [upd_ne (ne_of_none (k b u n e) h)]
  exact k b u n e
theorem kLC : ¬ ((Sum.inr ("left" : Str) : Key) = Sum.inr ("cells" : Str)) := by decide +kernel
theorem kLB : ¬ ((Sum.inr ("left" : Str) : Key) = Sum.inr ("begun" : Str)) := by decide +kernel
theorem kBC : ¬ ((Sum.inr ("begun" : Str) : Key) = Sum.inr ("cells" : Str)) := by decide +kernel
/-- what a pen holds -/
def pk (c : Addr) (b l : Int) : List (Key × V) := [(Sum.inr ("cells" : Str), .ref c), (Sum.inr ("begun" : Str), .int b), (Sum.inr ("left" : Str), .int l)]
theorem pk_cells (c : Addr) (b l : Int) : valV (pk c b l) (Sum.inr ("cells" : Str)) = some (.ref c) := valV_pos rfl
theorem pk_begun (c : Addr) (b l : Int) : valV (pk c b l) (Sum.inr ("begun" : Str)) = some (.int b) :=
  (valV_neg (fun z => kBC z.symm)).trans (valV_pos rfl)
theorem pk_left (c : Addr) (b l : Int) : valV (pk c b l) (Sum.inr ("left" : Str)) = some (.int l) :=
  (valV_neg (fun z => kLC z.symm)).trans ((valV_neg (fun z => kLB z.symm)).trans (valV_pos rfl))
theorem pk_putL (c : Addr) (b l m : Int) : putK (pk c b l) (Sum.inr ("left" : Str)) (.int m) = pk c b m := by
  unfold putK pk
  have e : (([(Sum.inr ("cells" : Str), .ref c), (Sum.inr ("begun" : Str), .int b), (Sum.inr ("left" : Str), .int l)] : List (Key × V)).any fun kv => decide (kv.1 = Sum.inr ("left" : Str))) = true := by simp
  rw [if_pos e]
  simp only [List.map_cons, List.map_nil]
  rw [if_neg (fun z => kLC z.symm), if_neg (fun z => kLB z.symm)]
  rfl
theorem pk_putB (c : Addr) (b l m : Int) : putK (pk c b l) (Sum.inr ("begun" : Str)) (.int m) = pk c m l := by
  unfold putK pk
  have e : (([(Sum.inr ("cells" : Str), .ref c), (Sum.inr ("begun" : Str), .int b), (Sum.inr ("left" : Str), .int l)] : List (Key × V)).any fun kv => decide (kv.1 = Sum.inr ("begun" : Str))) = true := by simp
  rw [if_pos e]
  simp only [List.map_cons, List.map_nil]
  rw [if_neg (fun z => kBC z.symm), if_neg kLB]
  rfl
/-- at p a pen over the cells ns at c, of which at most B were begun -/
def Pen (c : Addr) (ns : List Int) (H : Hp) (p : Addr) (B : Nat) : Prop := ∃ (b l : Int), H p = some (.dK (pk c b l)) ∧ H c = some (.lst (ns.map V.int)) ∧ ns.length ≤ 63 ∧ 0 ≤ b ∧ b ≤ (B : Int)
/-- from H0 to H all but the pen stands as it stood, and the pen is a pen -/
structure Go (p c : Addr) (ns : List Int) (H0 H : Hp) (B : Nat) : Prop where
  kp : Kp p H0 H
  pen : Pen c ns H p B
  base : ∃ A, Pen c ns H0 p A
section
variable {p c q a : Addr} {ns : List Int} {H0 H H' : Hp} {A B : Nat} {o : HO} {xs : List V} {K : PySem.W.Frag}
theorem Pen.mono (h : Pen c ns H p A) (le : A ≤ B) : Pen c ns H p B := by
  obtain ⟨b, l, h1, h2, h3, h4, h5⟩ := h
  exact ⟨b, l, h1, h2, h3, h4, by omega⟩
theorem Pen.at (h : Pen c ns H p A) : ∃ o, H p = some o := by
  obtain ⟨b, l, h1, _⟩ := h
  exact ⟨_, h1⟩
theorem Pen.upd (h : Pen c ns H p A) (h1 : q ≠ p) (h2 : q ≠ c) : Pen c ns (L2.upd H q o) p A := by
  obtain ⟨b, l, e1, e2, e3⟩ := h
  exact ⟨b, l, by rw [upd_ne h1.symm]; exact e1, by rw [upd_ne h2.symm]; exact e2, e3⟩
theorem Go.refl (h : Pen c ns H p B) : Go p c ns H H B := ⟨Kp.refl p H, h, B, h⟩
theorem Go.step (g : Go p c ns H0 H A) (g' : Go p c ns H H' B) : Go p c ns H0 H' B := ⟨g.kp.trans g'.kp, g'.pen, g.base⟩
theorem Go.mono (g : Go p c ns H0 H A) (le : A ≤ B) : Go p c ns H0 H B := ⟨g.kp, g.pen.mono le, g.base⟩
/-- fresh later is fresh before -/
theorem Go.free (g : Go p c ns H0 H B) (n : H q = none) : H0 q = none := by
  by_cases e : q = p
  · subst e
    obtain ⟨o, z⟩ := g.pen.at
    rw [z] at n
    cases n
  · cases z : H0 q with
    | none => rfl
    | some o =>
      rw [g.kp q o e z] at n
      cases n
theorem Go.ne (g : Go p c ns H0 H B) (n : H0 q = none) : q ≠ p ∧ q ≠ c := by
  obtain ⟨A, b, l, h1, h2, _⟩ := g.base
  refine ⟨fun e => ?_, fun e => ?_⟩
  · rw [e, h1] at n
    cases n
  · rw [e, h2] at n
    cases n
/-- what H0 did not know may change -/
theorem Go.mut (g : Go p c ns H0 H B) (n : H0 q = none) : Go p c ns H0 (upd H q o) B :=
  ⟨fun b u e z => by
    rw [upd_ne (ne_of_none z n)]
    exact g.kp b u e z, g.pen.upd (g.ne n).1 (g.ne n).2, g.base⟩
theorem Go.new (g : Go p c ns H0 H B) (n : H q = none) : Go p c ns H0 (upd H q o) B := g.mut (g.free n)
theorem Go.same (g : Go p c ns H0 H B) (s : Same H H') : Go p c ns H0 H' B := by
  obtain ⟨b, l, h1, h2, h3⟩ := g.pen
  exact ⟨g.kp.trans (Kp.of s), ⟨b, l, s _ _ h1, s _ _ h2, h3⟩, g.base⟩
theorem Go.at (g : Go p c ns H0 H B) (e : H0 a = some o) (d : ∀ kvs, o ≠ .dK kvs) : H a = some o := by
  obtain ⟨A, b, l, h1, _⟩ := g.base
  exact g.kp _ _ (ne_of e h1 (d _)) e
theorem Go.lst (g : Go p c ns H0 H B) (e : H0 a = some (.lst xs)) : H a = some (.lst xs) := g.at e (by intro _ z; cases z)
theorem Go.tup (g : Go p c ns H0 H B) (e : H0 a = some (.tup xs)) : H a = some (.tup xs) := g.at e (by intro _ z; cases z)
theorem Go.seq (g : Go p c ns H0 H B) (q : SqL K H0 a xs) : SqL K H a xs := by
  rcases q with (q | ⟨o, q⟩) | q
  · exact .inl (.inl (g.lst q))
  · exact .inl (.inr ⟨o, g.at q (by intro _ z; cases z)⟩)
  · exact .inr q
end

/-- x = a if c else b, its two ways met -/
theorem seqIf_cut {t : TT} {ta tb : TE} {g : TG} {u : TS} {D : Ends} {σ : L2.St} {H : Hp} (Pv : V → Hp → Prop) (h : ∀ Q' : VK, (∀ v H', Pv v H' → Q' v H') → tIf t ta tb σ H Q') (hq : ∀ v H', Pv v H' → g v σ H' (u D)) :
    tSeq (tAsg (tIf t ta tb) g) u D σ H := h _ hq
/-- if c: body, the ways past it met -/
theorem seqIfS_cut {c : TT} {t v u : TS} {D : Ends} {σ : L2.St} {H : Hp} (hn : u D σ H) (h : ∀ N : L2.St → Hp → Prop, N σ H → tIfS c t v { D with nx := N } σ H) : tSeq (tIfS c t v) u D σ H := h (u D) hn

/-! ### the draw -/
def spDraw : Sp := fun vs H Q _ => ∃ (p c : Addr) (ns : List Int) (m : Int) (B : Nat), vs = [.ref p, .int m] ∧ Pen c ns H p B ∧ B ≤ 1000000000 ∧ 0 < m ∧ m < 1073741824 ∧
  ∀ (H' : Hp) (r : Int), Go p c ns H H' (B + 1) → 0 ≤ r → r < m → Q (.int r) H'
section
variable {P : Program} {w : World} {K : PySem.W.Frag} {mg : Str → Option Value} {base : Heap}
abbrev s__law_draw : Stmt := top 42
theorem sc__law_draw : FnScope ["_law_pen_here", "_law_many", "_law_digit", "_law_place", "_law_size", "_law_told", "_law_blend"] ["_law_pen_here", "_law_many"] (defScope s__law_draw) := ⟨rfl, rfl, rfl, by decide +kernel, rfl, by decide +kernel, by decide +kernel⟩
theorem div_ok {i j : Int} (h : 0 < j) (h2 : j < 1073741824) : CDivW i j := wide_div (b := 30) h (by omega) (by decide) (by decide)
theorem mul_small {i j : Int} (h : -(2 ^ 64) < i ∧ i < 2 ^ 64) : CMul i j := .inl h
theorem ok_draw {f : Addr} {fd : FuncData} (F : Fun K "_law_draw" "_law_draw" s__law_draw f fd) (T : Blt mg) : FnOk P w K mg base CX0 1 f fd ["_law_pen_here", "_law_many"] spDraw := by
  refine F.ok sc__law_draw (fun vs H Q E h => ?_) (fun cdv A outer s H vs Q E hr h => ?_)
  · obtain ⟨p, c, ns, m, B, rfl, _⟩ := h
    rfl
  · obtain ⟨p, c, ns, m, B, rfl, hpen, hB, hm0, hm1, k⟩ := h
    obtain ⟨b, l, hp, hc, hl, hb0, hbB⟩ := id hpen
    have hu := hu_of hr
    refine ⟨_, (pss_cons (ps_if (pt_cmpR op_gt (pe_dget hu (pv 0) pe_str (fun _ _ => rfl)) pe_int (nomark _)) (pss_cons (ps_set (i := 2) sc__law_draw.nd rfl (Or.inl rfl) (pe_op op_mod (pe_callTy call_int1 (by rfl) T.n_int (by decide +kernel) (pa_cons (pe_dget hu (pv 0) pe_str (fun _ _ => rfl)) pa_nil)) (pv 1)))
      (pss_cons (ps_dput hu (pv 0) pe_str (pe_op op_fdivW (pe_dget hu (pv 0) pe_str (fun _ _ => rfl)) (pv 1)) rfl)
      (pss_one (ps_ret (pv 2))))) pss_nil)
      (pss_cons (ps_par (i := 3) (j := 4) rfl sc__law_draw.nd rfl rfl (by decide) rfl rfl (pa_cons (pe_dget hu (pv 0) pe_str (fun _ _ => rfl)) (pa_cons (pe_callB call_len_seq (by rfl) T.n_len (by decide +kernel) (pa_cons (pe_dget hu (pv 0) pe_str (fun _ _ => rfl)) pa_nil)) pa_nil)) (by rfl))
      (pss_cons (ps_dput hu (pv 0) pe_str (pe_op op_add (pv 3) pe_int) rfl)
      (pss_cons (ps_set (i := 5) sc__law_draw.nd rfl (Or.inl rfl) (pe_ifExp (pt_cmpR op_gt (pv 4) pe_int (nomark _)) (pe_ix ix_list (pe_dget hu (pv 0) pe_str (fun _ _ => rfl)) (pe_op op_mod (pe_callTy call_int1 (by rfl) T.n_int (by decide +kernel) (pa_cons (pv 3) pa_nil)) (pv 4)) (fun _ _ => rfl)) (pe_op op_add (pe_op op_mul pe_int (pv 3)) pe_int)))
      (pss_cons (ps_if (PW.pt (pw_and (pt_cmpR op_lt (pv 3) (pv 4) (nomark _)) (pw_and1 (pt_cmpR op_ge (pe_callB call_abs (by rfl) T.n_abs (by decide +kernel) (pa_cons (pv 5) pa_nil)) (pe_op op_pow pe_int pe_int) (nomark _))))) (pss_cons (ps_dput hu (pv 0) pe_str (pe_op op_fdivW (pe_op op_sub (pe_callB call_abs (by rfl) T.n_abs (by decide +kernel) (pa_cons (pv 5) pa_nil)) (pe_op op_pow pe_int pe_int)) (pv 1)) rfl)
      (pss_one (ps_ret (pe_op op_mod (pe_callTy call_int1 (by rfl) T.n_int (by decide +kernel) (pa_cons (pe_op op_sub (pe_callB call_abs (by rfl) T.n_abs (by decide +kernel) (pa_cons (pv 5) pa_nil)) (pe_op op_pow pe_int pe_int)) pa_nil)) (pv 1))))) pss_nil)
      (pss_cons (ps_set (i := 6) sc__law_draw.nd rfl (Or.inl rfl) (pe_op op_mod (pe_callTy call_int1 (by rfl) T.n_int (by decide +kernel) (pa_cons (pe_op op_add (pe_op op_add (pe_op op_mul (pe_op op_mod (pe_callTy call_int1 (by rfl) T.n_int (by decide +kernel) (pa_cons (pv 5) pa_nil)) pe_int) pe_int) (pe_op op_mul (pe_op op_mul pe_int (pv 3)) (pv 3))) pe_int) pa_nil)) pe_int))
      (pss_cons (ps_set (i := 6) sc__law_draw.nd rfl (Or.inl rfl) (pe_op op_mod (pe_callTy call_int1 (by rfl) T.n_int (by decide +kernel) (pa_cons (pe_op op_add (pe_op op_add (pe_op op_add (pe_op op_mul (pv 6) (pv 6)) (pe_op op_mul pe_int (pv 6))) (pe_op op_mul pe_int (pv 3))) pe_int) pa_nil)) pe_int))
      (pss_one (ps_ret (pe_op op_mod (pe_callTy call_int1 (by rfl) T.n_int (by decide +kernel) (pa_cons (pe_op op_fdivW (pe_op op_mod (pe_callTy call_int1 (by rfl) T.n_int (by decide +kernel) (pa_cons (pe_op op_mul (pv 6) (pe_op op_add (pv 6) pe_int)) pa_nil)) pe_int) pe_int) pa_nil)) (pv 1))))))))))), ?_⟩
    have gL : ∀ {H : Hp} {b l : Int}, H p = some (.dK (pk c b l)) → DGet H p (.str "left") (some (.int l)) := fun e => by
      have z := DGet.k (k := Sum.inr ("left" : Str)) e
      rw [pk_left] at z
      exact z
    have gB : ∀ {H : Hp} {b l : Int}, H p = some (.dK (pk c b l)) → DGet H p (.str "begun") (some (.int b)) := fun e => by
      have z := DGet.k (k := Sum.inr ("begun" : Str)) e
      rw [pk_begun] at z
      exact z
    have gC : ∀ {H : Hp} {b l : Int}, H p = some (.dK (pk c b l)) → DGet H p (.str "cells") (some (.ref c)) := fun e => by
      have z := DGet.k (k := Sum.inr ("cells" : Str)) e
      rw [pk_cells] at z
      exact z
    have three : ∀ b l : Int, (pk c b l).length < sizeLine := fun b l => by show 3 < sizeLine; decide
    have pL : ∀ {H : Hp} {b l : Int} (m : Int), H p = some (.dK (pk c b l)) → DPut H p (.str "left") (.int m) (upd H p (.dK (pk c b m))) := fun m e => by
      have z := DPut.k (k := Sum.inr ("left" : Str)) (v := .int m) e (three _ _)
      rw [pk_putL] at z
      exact z
    have pB : ∀ {H : Hp} {b l : Int} (m : Int), H p = some (.dK (pk c b l)) → DPut H p (.str "begun") (.int m) (upd H p (.dK (pk c m l))) := fun m e => by
      have z := DPut.k (k := Sum.inr ("begun" : Str)) (v := .int m) e (three _ _)
      rw [pk_putB] at z
      exact z
    have ncp : c ≠ p := ne_of hc hp (by intro z; cases z)
    -- if pen['left'] > 0
    refine ⟨_, rfl, p, _, rfl, gL hp, _, _, rfl, rfl, _, rfl, ?_⟩
    refine ite2 (fun h0 => ?_) (fun h0 => ?_)
    · -- digit = int(left) % many; left = left // many; return digit
      refine ⟨_, rfl, p, _, rfl, gL hp, .inl ⟨_, rfl, _, rfl, _, _, rfl, rfl, hm0, ?_⟩⟩
      refine ⟨_, rfl, p, _, rfl, gL hp, _, rfl, _, _, rfl, rfl, div_ok hm0 hm1, _, rfl, p, _, rfl, pL _ hp, ?_⟩
      refine ⟨_, rfl, ?_⟩
      refine k _ _ ⟨Kp.upd _ _ _, ⟨b, _, upd_same, by rw [upd_ne ncp]; exact hc, hl, hb0, by omega⟩, B, hpen⟩ (Int.emod_nonneg _ (by omega)) (Int.emod_lt_of_pos _ hm0)
    · -- place, size = begun, len(cells); begun = place + 1
      refine ⟨_, rfl, p, _, rfl, gB hp, _, rfl, p, _, rfl, gC hp, c, _, rfl, .inl (SqL.of hc), _, _, rfl, ?_⟩
      refine ⟨_, rfl, _, _, rfl, rfl, _, rfl, p, _, rfl, pB _ hp, ?_⟩
      have hp1 : upd H p (.dK (pk c (b + 1) l)) p = some (.dK (pk c (b + 1) l)) := upd_same
      have hc1 : upd H p (.dK (pk c (b + 1) l)) c = some (.lst (ns.map V.int)) := by rw [upd_ne ncp]; exact hc
      have k1 : Kp p H (upd H p (.dK (pk c (b + 1) l))) := Kp.upd _ _ _
      have pen1 : Pen c ns (upd H p (.dK (pk c (b + 1) l))) p (B + 1) := ⟨b + 1, l, hp1, hc1, hl, by omega, by omega⟩
      generalize upd H p (.dK (pk c (b + 1) l)) = H1 at hp1 hc1 k1 pen1 ⊢
      -- told: some int
      try dsimp only
      refine seqIf_cut (fun v H' => H' = H1 ∧ ∃ z, v = .int z) (fun Q' q' => ?_) (fun v H' hv => ?_)
      · refine ⟨_, rfl, _, _, rfl, rfl, _, rfl, ?_⟩
        refine ite2 (fun h1 => ?_) (fun h1 => ?_)
        · have h1 : (0 : Int) < ((ns.map V.int).length : Nat) := of_decide_eq_true h1
          rw [List.length_map] at h1
          have e0 : 0 ≤ b % (ns.length : Int) := Int.emod_nonneg _ (by omega)
          have e1 : b % (ns.length : Int) < (ns.length : Int) := Int.emod_lt_of_pos _ h1
          have e2 : (b % (ns.length : Int)).toNat < ns.length := by omega
          refine ⟨_, rfl, p, _, rfl, gC hp1, ?_⟩
          refine ⟨_, rfl, .inl ⟨_, rfl, _, rfl, _, _, rfl, rfl, (by rw [List.length_map]; exact h1), c, ns.map V.int, _, V.int ns[(b % (ns.length : Int)).toNat], rfl, rfl, SqL.of hc1, ?_, q' _ _ ⟨rfl, _, rfl⟩⟩⟩
          rw [List.length_map]
          refine at_of (j := (b % (ns.length : Int)).toNat) (by omega) ?_
          rw [List.getElem?_map, List.getElem?_eq_getElem e2]
          rfl
        · refine ⟨_, rfl, _, _, rfl, rfl, mul_small (by omega), _, _, rfl, rfl, q' _ _ ⟨rfl, _, rfl⟩⟩
      obtain ⟨rfl, z, rfl⟩ := hv
      refine seqIfS_cut ?_ (fun N q => ?_)
      · -- the blend
        have m0 := Int.emod_nonneg z (show (4294967279 : Int) ≠ 0 by decide)
        have m1 := Int.emod_lt_of_pos z (show (0 : Int) < 4294967279 by decide)
        refine ⟨_, rfl, .inl ⟨_, rfl, _, _, rfl, rfl, (by show (0 : Int) < _; decide), _, _, rfl, rfl, mul_small (by omega), ?_⟩⟩
        refine ⟨_, rfl, _, _, rfl, rfl, mul_small (by omega), _, rfl, _, _, rfl, rfl, mul_small (by omega), _, _, rfl, rfl, _, _, rfl, rfl, .inl ⟨_, rfl, _, _, rfl, rfl, (by show (0 : Int) < _; decide), ?_⟩⟩
        generalize hx : (z % 4294967279 * 44621 + 28657 * b * b + 1543) % 4294967291 = x
        have x0 : 0 ≤ x := by rw [← hx]; exact Int.emod_nonneg _ (by decide)
        have x1 : x < 4294967291 := by rw [← hx]; exact Int.emod_lt_of_pos _ (by decide)
        clear hx
        refine ⟨_, rfl, _, rfl, _, _, rfl, rfl, mul_small (by omega), _, rfl, _, _, rfl, rfl, mul_small (by omega), _, _, rfl, rfl, _, rfl, _, _, rfl, rfl, mul_small (by omega), _, _, rfl, rfl, _, _, rfl, rfl, .inl ⟨_, rfl, _, _, rfl, rfl, (by show (0 : Int) < _; decide), ?_⟩⟩
        generalize hy : (x * x + 66047 * x + 37 * b + 11) % 4294967231 = y
        have y0 : 0 ≤ y := by rw [← hy]; exact Int.emod_nonneg _ (by decide)
        have y1 : y < 4294967231 := by rw [← hy]; exact Int.emod_lt_of_pos _ (by decide)
        clear hy
        refine ⟨_, rfl, _, rfl, _, _, rfl, rfl, _, _, rfl, rfl, mul_small (by omega), .inl ⟨_, rfl, _, _, rfl, rfl, (by show (0 : Int) < _; decide), _, _, rfl, rfl, div_ok (by decide) (by decide), .inl ⟨_, rfl, _, rfl, _, _, rfl, rfl, hm0, ?_⟩⟩⟩
        exact k _ _ ⟨k1, pen1, B, hpen⟩ (Int.emod_nonneg _ (by omega)) (Int.emod_lt_of_pos _ hm0)
      · refine ⟨_, rfl, _, rfl, _, _, rfl, rfl, _, rfl, ?_⟩
        refine ite2 (fun h1 => ?_) (fun h1 => ?_)
        · refine ⟨_, rfl, _, rfl, _, _, rfl, rfl, (by refine ⟨by decide, by decide, by decide⟩), _, _, rfl, rfl, _, rfl, ?_⟩
          refine ite2 (fun h2 => ?_) (fun h2 => q)
          refine ⟨_, rfl, _, rfl, _, _, rfl, rfl, (by refine ⟨by decide, by decide, by decide⟩), _, _, rfl, rfl, _, rfl, _, _, rfl, rfl, div_ok hm0 hm1, _, rfl, p, _, rfl, pL _ hp1, ?_⟩
          refine ⟨_, rfl, _, rfl, _, _, rfl, rfl, (by refine ⟨by decide, by decide, by decide⟩), _, _, rfl, rfl, .inl ⟨_, rfl, _, rfl, _, _, rfl, rfl, hm0, ?_⟩⟩
          refine k _ _ ⟨k1.trans (Kp.upd _ _ _), ⟨b + 1, _, upd_same, by rw [upd_ne ncp]; exact hc1, hl, by omega, by omega⟩, B, hpen⟩ (Int.emod_nonneg _ (by omega)) (Int.emod_lt_of_pos _ hm0)
        · exact iteF q
end
end Ask

namespace Ask
open PySem L2
section
variable {P : Program} {w : World} {K : PySem.W.Frag} {mg : Str → Option Value} {base : Heap}
/-! ### the pen -/
def spPen (K : PySem.W.Frag) : Sp := fun vs H Q _ => ∃ (a : Addr) (ns : List Int), vs = [.ref a] ∧ SqL K H a (ns.map V.int) ∧ ns.length ≤ 63 ∧
  ∀ (H' : Hp) (p c : Addr), Same H H' → H p = none → Pen c ns H' p 0 → Q (.ref p) H'
abbrev s__law_pen : Stmt := top 41
theorem sc__law_pen : FnScope ["_law_script"] ["_law_script"] (defScope s__law_pen) := ⟨rfl, rfl, rfl, by decide +kernel, rfl, by decide +kernel, by decide +kernel⟩
theorem pk_made (c : Addr) (b l : Int) : mergeK [] [(Sum.inr ("cells" : Str), .ref c), (Sum.inr ("begun" : Str), .int b), (Sum.inr ("left" : Str), .int l)] = pk c b l := by
  have e1 : putK ([] : List (Key × V)) (Sum.inr ("cells" : Str)) (.ref c) = [(Sum.inr ("cells" : Str), .ref c)] := putK_new _ rfl
  have e2 : putK [((Sum.inr ("cells" : Str) : Key), V.ref c)] (Sum.inr ("begun" : Str)) (.int b) = [(Sum.inr ("cells" : Str), .ref c), (Sum.inr ("begun" : Str), .int b)] :=
    putK_new _ ((valV_neg (fun z => kBC z.symm)).trans rfl)
  have e3 : putK [((Sum.inr ("cells" : Str) : Key), V.ref c), (Sum.inr ("begun" : Str), .int b)] (Sum.inr ("left" : Str)) (.int l) = pk c b l :=
    putK_new _ ((valV_neg (fun z => kLC z.symm)).trans ((valV_neg (fun z => kLB z.symm)).trans rfl))
  unfold mergeK
  simp only [List.foldl_cons, List.foldl_nil]
  rw [e1, e2, e3]
theorem at_by {α : Type} {xs : List α} {z : Int} {j : Nat} {v : α} (e : z = (j : Int)) (h : xs[j]? = some v) : atI xs z = some v := by
  subst e
  exact atI_nat h
theorem cutV_whole (xs : List V) (n : Nat) (h : xs.length ≤ n) : cutV xs none (some (n : Int)) = xs := by
  unfold cutV
  rw [HT.sIx_none, HT.sIx_nat, List.drop_zero, Nat.sub_zero, Nat.min_eq_right h, List.take_length]
theorem ok_pen {f : Addr} {fd : FuncData} (F : Fun K "_law_pen" "_law_pen" s__law_pen f fd) (T : Blt mg) : FnOk P w K mg base CX0 1 f fd ["_law_script"] (spPen K) := by
  refine F.ok sc__law_pen (fun vs H Q E h => ?_) (fun cdv A outer s H vs Q E hr h => ?_)
  · obtain ⟨a, ns, rfl, _⟩ := h
    rfl
  · obtain ⟨a, ns, rfl, hS, hl, k⟩ := h
    refine ⟨_, (pss_one (ps_ret (pe_disp (pps_cons pe_str (pe_callTy call_list_of (by rfl) T.n_list (by decide +kernel) (pa_cons (pe_slice sl_list (pv 0) po_none (po_some pe_int)) pa_nil)) (pps_cons pe_str pe_int (pps_cons pe_str pe_int pps_nil))) (by rfl) (by rfl) (fun z => by cases z) (by decide)))), ?_⟩
    intro p hp
    have s0 : Same H (upd H p (.dK [])) := fun b o e => by rw [upd_ne (ne_of_none e hp)]; exact e
    refine ⟨_, rfl, _, rfl, a, _, rfl, s0.seq hS, fun q hq => ?_⟩
    rw [show cutV (ns.map V.int) none (some 63) = ns.map V.int from cutV_whole _ 63 (by rw [List.length_map]; exact hl)]
    refine ⟨q, _, rfl, .inl (SqL.of upd_same), fun c hc => ?_⟩
    have npq : p ≠ q := ne_of_none upd_same hq
    have hq0 : H q = none := by
      rw [upd_ne npq.symm] at hq
      exact hq
    have ncq : c ≠ q := fun e => by
      rw [e, upd_same] at hc
      cases hc
    have hc1 : upd H p (.dK []) c = none := by
      rw [upd_ne ncq] at hc
      exact hc
    have npc : p ≠ c := ne_of_none upd_same hc1
    have hc0 : H c = none := by
      rw [upd_ne npc.symm] at hc1
      exact hc1
    refine ⟨by rw [upd_ne npc, upd_ne npq, upd_same], [(Sum.inr ("cells" : Str), .ref c), (Sum.inr ("begun" : Str), .int 0), (Sum.inr ("left" : Str), .int 0)], rfl, (by show 3 ≤ 15; decide), ?_⟩
    rw [pk_made]
    refine k _ p c (fun b o e => ?_) hp ⟨0, 0, upd_same, by rw [upd_ne npc.symm, upd_same], hl, Int.le_refl _, Int.le_refl _⟩
    rw [upd_ne (ne_of_none e hp), upd_ne (ne_of_none e hc0), upd_ne (ne_of_none e hq0), upd_ne (ne_of_none e hp)]
    exact e

/-! ### the pick -/
def spPick (K : PySem.W.Frag) : Sp := fun vs H Q _ => ∃ (p c : Addr) (ns : List Int) (x : V) (B : Nat), vs = [.ref p, x] ∧ Pen c ns H p B ∧ B ≤ 1000000000 ∧
  ((∃ a xs, x = .ref a ∧ SqL K H a xs ∧ 0 < xs.length ∧ xs.length ≤ 1000 ∧ ∀ (H' : Hp) (v : V), Go p c ns H H' (B + 1) → v ∈ xs → Q v H') ∨
    (∃ z : Str, x = .str z ∧ 0 < z.length ∧ z.length ≤ 1000 ∧ ∀ (H' : Hp) (i : Nat), Go p c ns H H' (B + 1) → i ∈ z.cps.toList → Q (.str ⟨#[i]⟩) H'))
abbrev s__law_pick : Stmt := top 43
theorem sc__law_pick : FnScope ["_law_pen_here", "_law_options"] ["_law_pen_here", "_law_options"] (defScope s__law_pick) := ⟨rfl, rfl, rfl, by decide +kernel, rfl, by decide +kernel, by decide +kernel⟩
/-- a def of the text called by its name: where it stands, that it stays, how its arguments bind -/
structure At (K : PySem.W.Frag) (mg : Str → Option Value) (x : Str) (f : Addr) (fd : FuncData) (ps : List Str) : Prop where
  m : mg x = some (.ref f)
  k : PySem.W.keepIn K (.ref f) = true
  b : Binds K fd ps []
theorem ok_pick {f fD : Addr} {fd fdD : FuncData} (F : Fun K "_law_pick" "_law_pick" s__law_pick f fd) (T : Blt mg) (GD : FnOk P w K mg base CX0 1 fD fdD ["_law_pen_here", "_law_many"] spDraw) (D : At K mg "_law_draw" fD fdD ["_law_pen_here", "_law_many"]) :
    FnOk P w K mg base CX0 2 f fd ["_law_pen_here", "_law_options"] (spPick K) := by
  refine F.ok sc__law_pick (fun vs H Q E h => ?_) (fun cdv A outer s H vs Q E hr h => ?_)
  · obtain ⟨p, c, ns, x, B, rfl, _⟩ := h
    rfl
  · obtain ⟨p, c, ns, x, B, rfl, hpen, hB, h⟩ := h
    refine ⟨_, (pss_one (ps_ret (pe_ix ix_seq (pv 1) (pe_call GD hr (by rfl) D.m D.k D.b .nil pass0 (pa_cons (pv 0) (pa_cons (pe_callB call_len (by rfl) T.n_len (by decide +kernel) (pa_cons (pv 1) pa_nil)) pa_nil))) (fun _ _ => rfl)))), ?_⟩
    have sl : (1000 : Nat) ≤ sizeLine := by decide
    rcases h with ⟨a, xs, rfl, hS, h0, h1, k⟩ | ⟨z, rfl, h0, h1, k⟩
    · refine ⟨_, rfl, _, rfl, _, rfl, _, xs.length, rfl, .inl ⟨xs, hS, rfl⟩, p, c, ns, _, B, rfl, hpen, hB, by omega, by omega, fun H' r g r0 r1 => ?_⟩
      have hi : r.toNat < xs.length := by omega
      exact .inl ⟨a, xs, r, xs[r.toNat], rfl, rfl, g.seq hS, at_of (j := r.toNat) (by omega) (List.getElem?_eq_getElem hi), k H' _ g (List.getElem_mem hi)⟩
    · refine ⟨_, rfl, _, rfl, _, rfl, _, z.length, rfl, ⟨by omega, rfl⟩, p, c, ns, _, B, rfl, hpen, hB, by omega, by omega, fun H' r g r0 r1 => ?_⟩
      have hi : r.toNat < z.cps.toList.length := by
        have e : z.cps.toList.length = z.length := by simp [Str.length]
        omega
      exact .inr (.inr ⟨z, r, z.cps.toList[r.toNat], rfl, rfl, by omega, at_by (j := r.toNat) (by omega) (List.getElem?_eq_getElem hi), k H' _ g (List.getElem_mem hi)⟩)
end
end Ask

namespace Ask
open PySem L2
/-- if c: body else: other, its ways met in Mid -/
theorem seqIf_mid {c : TT} {t v u : TS} {D : Ends} {σ : L2.St} {H : Hp} (Mid : L2.St → Hp → Prop) (h : ∀ N : L2.St → Hp → Prop, (∀ σ' H', Mid σ' H' → N σ' H') → tIfS c t v { D with nx := N } σ H) (hq : ∀ σ' H', Mid σ' H' → u D σ' H') :
    tSeq (tIfS c t v) u D σ H := h (u D) hq
theorem len_sum1 : ∀ ys : List Str, (∀ y ∈ ys, y.length = 1) → (ys.map (·.length)).sum = ys.length
  | [], _ => rfl
  | y :: r, h => by
    rw [List.map_cons, List.sum_cons, List.length_cons, len_sum1 r (fun z hz => h z (List.mem_cons_of_mem _ hz)), h y (List.mem_cons_self ..)]
    omega
theorem join_len1 (ys : List Str) (h : ∀ y ∈ ys, y.length = 1) : (Txt.join (Str.ofString "") ys).length = ys.length := by
  rw [TL.join_eq]
  cases ys with
  | nil => rfl
  | cons a r =>
    rw [PyProof.Rows.len_join_cons, len_sum1 _ h]
    show _ + r.length * 0 = _
    omega
/-- all signs below 128 -/
def Asc (z : Str) : Prop := ∀ c ∈ z.cps.toList, c < 128
theorem Asc.app {a b : Str} (h : Asc a) (k : Asc b) : Asc (a ++ b) := fun c hc => by
  have e : (a ++ b).cps.toList = a.cps.toList ++ b.cps.toList := by
    rw [Str.cps_append, Array.toList_append]
  rw [e] at hc
  rcases List.mem_append.mp hc with z | z
  · exact h c z
  · exact k c z
theorem Asc.cut {a : Str} (h : Asc a) (lo hi : Option Int) : Asc (cutS a lo hi) := fun c hc => h c (List.mem_of_mem_drop (List.mem_of_mem_take hc))
theorem Asc.one {c : Nat} (h : c < 128) : Asc ⟨#[c]⟩ := fun d hd => by
  have e : d = c := by simpa using hd
  rw [e]
  exact h
theorem Asc.lit {s : String} (h : ((Str.ofString s).cps.toList.all fun c => decide (c < 128)) = true) : Asc (Str.ofString s) := fun c hc => of_decide_eq_true (List.all_eq_true.mp h c hc)
theorem Asc.joined : ∀ ys : List Str, (∀ y ∈ ys, Asc y) → Asc (Str.join (Str.ofString "") ys)
  | [], _ => fun c hc => by cases hc
  | [y], h => h y (List.mem_cons_self ..)
  | y :: z :: r, h => ((h y (List.mem_cons_self ..)).app (.lit rfl)).app (Asc.joined (z :: r) fun x hx => h x (List.mem_cons_of_mem _ hx))
theorem Asc.join (ys : List Str) (h : ∀ y ∈ ys, Asc y) : Asc (Txt.join (Str.ofString "") ys) := by
  rw [TL.join_eq]
  exact Asc.joined ys h
def small : Str := "abcdefghijklmnopqrstuvwxyz"
def signs : Str := "abcdefghijklmnopqrstuvwxyz0123456789"
theorem small_len : small.length = 26 := by decide +kernel
theorem signs_len : signs.length = 36 := by decide +kernel
theorem small_asc : Asc small := .lit (by decide +kernel)
theorem signs_asc : Asc signs := .lit (by decide +kernel)
section
variable {P : Program} {w : World} {K : PySem.W.Frag} {mg : Str → Option Value} {base : Heap}
abbrev s__law_letters : Stmt := top 44
theorem sc__law_letters : FnScope ["_law_pen_here", "_law_many", "_law_small", "_law_signs", "_law_stem", "_law_at", "_law_front", "_law_choice", "_law_step", "_law_tail", "_law_found", "_law_k", "_law_sign", "_law_word_here"] ["_law_pen_here", "_law_many"] (defScope s__law_letters) := ⟨rfl, rfl, rfl, by decide +kernel, rfl, by decide +kernel, by decide +kernel⟩
def nLet : List Str := ["_law_pen_here", "_law_many", "_law_small", "_law_signs", "_law_stem", "_law_at", "_law_front", "_law_choice", "_law_step", "_law_tail", "_law_found", "_law_k", "_law_sign", "_law_word_here"]
end
end Ask

/-! enumerate(t), t a tuple (or a list): the layer has it for lists alone -/
namespace PySem
open Sem (wp)
theorem ask_enum_new {v : Value} {o : Obj} {Hh : Heap → Prop} (B : Begins v o Hh) :
    Meets (Builtin.«enumerate.__new__» ⟨[.type "enumerate", v], []⟩) (fun _ R s => Hh s.heap ∧
      R (.ok (.ret (.ref (s.heap.push o).objs.size)))
        { s with heap := (s.heap.push o).push { cls := .type "enumerate", data := .fields #[.none, .bool false, .ref s.heap.objs.size, rawInt 0, .none, .none] } }) :=
  .of_wp fun prog w A R s z => by
    obtain ⟨h0, g0, d0, t0, os0⟩ := s
    obtain ⟨z1, z⟩ := z
    have subE := sub_enumerate
    have begins : ∀ {A' : Around} {E' : Value → Shared → Prop} {Q' : Value → Shared → Prop}, Q' (.ref h0.objs.size) ⟨h0.push o, g0, d0, t0, os0⟩ → wpAny (model prog w) A' (pyIter v) Q' E' ⟨h0, g0, d0, t0, os0⟩ :=
      fun q => B.iter prog w _ _ ⟨h0, g0, d0, t0, os0⟩ _ z1 q
    wp_walk using begins
    refine wpAny_stack_any fun _ => wpAny_pure ?_
    split
    · rename_i cl _ _ _ _ _
      cases (cl == Value.type "enumerate") <;> (wp_walk using begins; exact ⟨_, rfl, z⟩)
    · wp_walk using begins; exact ⟨_, rfl, z⟩
end PySem
namespace Ask
open PySem L2 PySem.Spec PyProof.Rows
/-- enumerate(v): its two new cells -/
theorem enum_made {prog : Program} {w : World} {A : Around} {E : Value → Shared → Prop} {s : Shared} {v : Value} {o : Obj} {Hh : Heap → Prop} {Q : Value → Shared → Prop} (B : Begins v o Hh) (h1 : Hh s.heap)
    (h : ∀ h', IsEnum h' (s.heap.objs.size + 1) s.heap.objs.size 0 .none → h'.get? s.heap.objs.size = some o → (∀ b u, s.heap.get? b = some u → h'.get? b = some u) → Q (.ref (s.heap.objs.size + 1)) { s with heap := h' }) :
    wpAny (model prog w) A (call (.type "enumerate") [v]) Q E s := by
  refine callType_new F.called_enumerate (by decide) (F.typeCall_enumerate_1 _) (F.newCall_enumerate_1 _) (fun obj => F.args_object_init_2 obj _) F.entry_enumerate_new (ask_enum_new B) ⟨h1, ?_⟩
  have z : (s.heap.push o).objs.size = s.heap.objs.size + 1 := Heap.size_push ..
  show _ ∧ _
  rw [z]
  have e : IsEnum ((s.heap.push o).push { cls := .type "enumerate", data := .fields #[.none, .bool false, .ref s.heap.objs.size, rawInt 0, .none, .none] }) (s.heap.objs.size + 1) s.heap.objs.size 0 .none := by
    have q := Heap.get?_push_size (s.heap.push o) (o := { cls := .type "enumerate", data := .fields #[.none, .bool false, .ref s.heap.objs.size, rawInt 0, .none, .none] }) rfl
    rw [z] at q
    exact q
  exact ⟨⟨_, e, rfl⟩, h _ e (Heap.get?_push_of_some _ (Heap.get?_push_size _ B.free)) fun b u q => Heap.get?_push_of_some _ (Heap.get?_push_of_some _ q)⟩
/-- the tuple at a, each item in a new pair with its place -/
def IteT (K : PySem.W.Frag) (a : Addr) : It :=
  ⟨fun i H => ∃ xs, SqT K H a xs ∧ i < xs.length, fun i H v H' => ∃ T x, v = .ref T ∧ H T = none ∧ H' = upd H T (.tup [.int (i : Nat), x]) ∧ ∀ xs, SqT K H a xs → xs[i]? = some x, fun i H => ∃ xs, SqT K H a xs ∧ xs.length = i⟩
theorem turn_enumT {P : Program} {w : World} {K : PySem.W.Frag} {elts : List Expr} {kk : Nat} {tpos : Pos} (a e it : Addr) (hne : e ≠ it) (hat : a ≠ it) :
    Turn P w K (.Tuple elts kk tpos) (IteT K a) [e, it] e (fun i h => (∃ old, IsEnum h e it ((i : Nat) : Int) old) ∧ h.IsTupleIter it a i) where
  mem := by simp
  obj := fun i h st b hb => by
    obtain ⟨⟨old, he⟩, o, ho, _, hd⟩ := st
    rcases (by simpa using hb : b = e ∨ b = it) with z | z
    · rw [z]; exact ⟨_, he, fun v q => nomatch q⟩
    · rw [z]; exact ⟨o, ho, fun v q => by rw [hd] at q; cases q⟩
  keep := fun i h h' st k => ⟨⟨_, k e (by simp) _ st.1.choose_spec⟩, st.2.at fun o q => k it (by simp) o q⟩
  item := by
    intro X hP hw hK hc i pins s σ H E I hf st hg
    subst hP hw hK
    obtain ⟨⟨old, he⟩, hit⟩ := st
    obtain ⟨xs, hq, hi⟩ := hg
    obtain ⟨its, rv, p, hz⟩ := I.tuple hq
    have hl := rv.length
    have hel : e < s.heap.objs.size := Heap.lt_size he
    have hil : it < s.heap.objs.size := by obtain ⟨_, q, _⟩ := hit; exact Heap.lt_size q
    have aE : a ≠ e := fun z => by
      obtain ⟨o, ho, ct, _⟩ := p
      have he2 : s.heap.get? e = some _ := he
      rw [z, he2] at ho
      have z2 := Option.some.inj ho
      rw [← z2] at ct
      injection ct with ct
      exact absurd ct (by decide)
    have Dr := Draws.tuple (prog := X.prog) (w := X.w) (A := X.A.in1) (show X.A.in1.handled = none from I.ok.hd hc) it a hat its.toArray
    refine wpAny_pyNext_enum_itemD Dr he ⟨hit, p⟩ (by simp; omega) hne (by intro z; rcases (by simpa using z : e = it ∨ e = a) with q | q; exact hne q; exact aE q.symm) fun x h' tk hx ho hs' hT hsz hk => ?_
    refine ⟨_, rfl, wpAny_letOwnedTupleGo_enum (s := { s with heap := h', toks := tk + 1 }) ho fun h'' he' sb => ?_⟩
    have hT2 : h''.get? s.heap.objs.size = some { cls := .type "tuple", data := .seq #[.int i tk, x] } := (sb.2 _ (Nat.ne_of_gt hel)).trans hT
    have hit2 : h''.IsTupleIter it a (i + 1) := hs'.1.at fun o q => (sb.2 it (Ne.symm hne)).trans q
    obtain ⟨y, hy, ry⟩ : ∃ y, xs[i]? = some y ∧ RelV y x := by
      obtain ⟨u, hu, ru⟩ := rv.get (List.getElem?_eq_getElem hi)
      have hx' : its[i]? = some x := by simpa using hx
      rw [hu] at hx'
      cases hx'
      exact ⟨_, List.getElem?_eq_getElem hi, ru⟩
    have new : ObjOk X.prog X.w (upd H s.heap.objs.size (.tup [.int (i : Nat), y])) h'' s.heap.objs.size (.tup [.int (i : Nat), y]) :=
      ⟨by show 2 ≤ sizeLine; decide, [.int i tk, x], .cons ⟨_, rfl⟩ (.cons ry .nil), ⟨_, hT2, rfl, _, rfl⟩⟩
    have I1 : Inv X pins σ (upd H s.heap.objs.size (.tup [.int (i : Nat), y])) { s with heap := h'', toks := tk + 1 } :=
      I.turnedNew (ch := [e, it]) (fun b ob hb q => (sb.2 b (fun z => hb (by simp [z]))).trans (hk b ob (fun z => hb (by simp [z])) (fun z => hb (by simp [z])) q)) hf (Nat.le_refl _) new
    refine ⟨.ref s.heap.objs.size, _, I1, rfl, ⟨_, y, rfl, I.hok.fresh (Nat.le_refl _), rfl, fun ys h2 => by rw [I.tuple_inj h2 hq]; exact hy⟩, ⟨⟨x, ?_⟩, hit2⟩, fun b hb => ?_⟩
    · have e1 : ((i + 1 : Nat) : Int) = (i : Int) + 1 := by omega
      rw [e1]
      exact he'
    · have hb' : b < s.heap.objs.size := by
        rcases (by simpa using hb : b = e ∨ b = it) with z | z
        · rw [z]; exact hel
        · rw [z]; exact hil
      rw [upd_ne (Nat.ne_of_lt hb')]
      exact (hf b hb).1
  done := by
    intro X hP hw hK hc i pins s σ H E I hf st hg
    subst hP hw hK
    obtain ⟨⟨old, he⟩, hit⟩ := st
    obtain ⟨xs, hq, hx⟩ := hg
    obtain ⟨its, rv, p, hz⟩ := I.tuple hq
    obtain ⟨f0, f1, f2, f3, f4, f5⟩ := hf it (by simp)
    have hl := rv.length
    have ei : i = its.toArray.size := by simp; omega
    subst ei
    have Dr := Draws.tuple (prog := X.prog) (w := X.w) (A := X.A.in1) (show X.A.in1.handled = none from I.ok.hd hc) it a hat its.toArray
    exact wpAny_pyNext_enum_endD Dr he ⟨hit, p⟩ fun h' eb => ⟨rfl, I.turned (t' := s.toks) (fun b o hb q => eb b o hb q) f0 f1 f3 f4 f5⟩
  self := fun A i s Q E st h => let ⟨⟨_, he⟩, _⟩ := st; wpAny_pyIter_enum he h
/-- enumerate(e), e a list or a tuple -/
def iEnumA (K : PySem.W.Frag) (ta : TA) : TI := fun σ H R => ta σ H fun vs H1 => ∃ a xs, vs = [.ref a] ∧ ((SqL K H1 a xs ∧ R (Ite K a) H1) ∨ (SqT K H1 a xs ∧ R (IteT K a) H1))
theorem pi_enumA {X : Cx} {e : Expr} {ta : TA} {p pos tpos : Pos} {elts : List Expr} {kk : Nat} (hg : Gl X "enumerate") (hm : X.mg "enumerate" = none) (ha : PA X [e] ta) (hs : starEach [e] X.env = [(false, eval e X.env)] := by rfl) :
    PI X (.Tuple elts kk tpos) (.Call (.Name "enumerate" p) [e] [] pos) (iEnumA X.K ta) := by
  refine ⟨fun pins s σ H R I h => ?_⟩
  refine Call_ (ld_blt I hg hm boot_enumerate (PyProof.Rows.callWith_type1 (thn (ha.run pos pins s σ H _ I h) fun us s1 ⟨vs, H1, I1, r1, a, xs, ex, q1⟩ => ?_) hs rfl))
  subst ex
  cases r1 with
  | cons r rr =>
    cases rr
    cases r
    have low : ∀ b : Addr, b ∈ [s1.heap.objs.size + 1, s1.heap.objs.size] → s1.heap.objs.size ≤ b := fun b hb => by
      rcases (by simpa using hb : b = s1.heap.objs.size + 1 ∨ b = s1.heap.objs.size) with z | z
      · rw [z]; exact Nat.le_add_right _ _
      · rw [z]; exact Nat.le_refl _
    rcases q1 with ⟨hq, q⟩ | ⟨hq, q⟩
    · obtain ⟨its, rv, p', hz⟩ := I1.list hq
      refine enum_made (begins_list a its.toArray) p'.isList fun h' he hit hk => wpAny_pyIter_enum he ?_
      exact ⟨s1.heap.objs.size + 1, [s1.heap.objs.size + 1, s1.heap.objs.size], _, _, H1, rfl, I1.kept (t' := s1.toks) hk, turn_enum a (s1.heap.objs.size + 1) s1.heap.objs.size, ⟨⟨.none, he⟩, ⟨_, hit, rfl, rfl⟩, Nat.succ_ne_self _⟩, fun b hb => I1.fpOk (low b hb) (I1.hok.fresh (low b hb)), q⟩
    · obtain ⟨its, rv, p', hz⟩ := I1.tuple hq
      have hal : a < s1.heap.objs.size := by obtain ⟨_, z, _⟩ := p'; exact Heap.lt_size z
      refine enum_made (begins_tuple a its.toArray) p' fun h' he hit hk => wpAny_pyIter_enum he ?_
      exact ⟨s1.heap.objs.size + 1, [s1.heap.objs.size + 1, s1.heap.objs.size], _, _, H1, rfl, I1.kept (t' := s1.toks) hk, turn_enumT a (s1.heap.objs.size + 1) s1.heap.objs.size (Nat.succ_ne_self _) (Nat.ne_of_lt hal), ⟨⟨.none, he⟩, ⟨_, hit, rfl, rfl⟩⟩, fun b hb => I1.fpOk (low b hb) (I1.hok.fresh (low b hb)), q⟩
theorem walk_enumT {K : PySem.W.Frag} {a : Addr} {xs : List V} : Walk (IteT K a) xs.length (fun H => SqT K H a xs) (YPair (fun i => some (.int (i : Nat))) (fun i => xs[i]?)) := by
  refine ⟨fun i H hi q => ⟨xs, q, hi⟩, fun H q => ⟨xs, q, rfl⟩, fun i H v H' _ q y => ?_⟩
  obtain ⟨T, x, h1, h2, h3, h4⟩ := y
  exact ⟨T, .int (i : Nat), x, h1, h2, h3, rfl, h4 xs q⟩
end Ask

/-! several clauses «except X as n» behind one try -/
namespace Ask
open PySem L2 PySem.Spec PyProof.Rows
/-- an error a that the frame of X has caught, with all that stood -/
structure Down (X : Cx) (pins : List (Addr × Obj)) (σ : L2.St) (H : Hp) (sI : Shared) (B : Heap) (a : Addr) (cls : Value) (d : Option Addr) (s : Shared) : Prop where
  fl : HandSPX.FlyingZ B (X.env :: X.outer) a (Zc cls d) s.heap
  inv : Inv X pins σ H sI
  nb : ∀ b o, sI.heap.get? b = some o → b ∉ frs X.stack → B.get? b = some o
  up : sI.heap.UpToSlots s.heap
  os : s.os = sI.os
  ag : AllBare s.gens
  na : H a = none
section
variable {X : Cx} {pins : List (Addr × Obj)} {σ : L2.St} {H : Hp} {sI s : Shared} {B : Heap} {a : Addr} {cls : Value} {d : Option Addr}
theorem Down.now (w : Down X pins σ H sI B a cls d s) : Inv X pins σ H s := w.inv.landed w.nb w.fl.1 w.up w.os w.ag
theorem Down.apart (w : Down X pins σ H sI B a cls d s) (hf : X.env.frame = some X.env.locals) : ∃ oe vs, s.heap.get? a = some oe ∧ Zc cls d oe ∧ oe.data = .fields vs ∧ a ≠ X.env.locals ∧ a ∉ X.fs := by
  obtain ⟨oe, vs, e, z, dd⟩ := w.fl.there
  have out : a ∉ frs (X.env :: X.outer) := fun hm => by
    obtain ⟨_, o2, e2, no⟩ := w.fl.2.2.1.mem hm
    rw [e] at e2
    cases e2
    exact no _ dd
  refine ⟨oe, vs, e, z, dd, fun q => out (List.mem_filterMap.mpr ⟨X.env, List.mem_cons_self, by rw [hf, q]⟩), fun hm => ?_⟩
  obtain ⟨v, hv, q⟩ := List.mem_filterMap.mp hm
  exact out (List.mem_filterMap.mpr ⟨v, List.mem_cons_of_mem _ hv, q⟩)
end
/-- what the clauses hds make of it, if W is wished for -/
def Hands (X : Cx) (D : Ends) (hds : List ExceptHandler) (W : WX) : Prop := ∀ (pins : List (Addr × Obj)) (σ : L2.St) (H : Hp) (sI s : Shared) (B : Heap) (a : Addr) (cls : Value) (d : Option Addr),
  Down X pins σ H sI B a cls d s → W cls d σ H → wpAny (model X.prog X.w) X.A (handleBy (.ref a) X.env hds) (SP X pins D) X.xe s
section
variable {X : Cx} {D : Ends} {hds : List ExceptHandler} {W : WX}
theorem hands_nil (hs : X.stack = X.env :: X.outer) (hf : X.env.frame = some X.env.locals) (tk : Takes X W) : Hands X D [] W := by
  intro pins σ H sI s B a cls d w q
  refine wpAny_handleBy_nil ?_
  obtain ⟨_, _, _, _, _, T, _, _, e, _, dd, e1, _⟩ := id w.fl
  unfold PySem.passOn
  refine wpAny_bind (wpAny_field e dd e1 ?_)
  rw [if_neg (show ¬ ((Value.ref T == Value.none) = true) from by simp)]
  have on : wpAny (model X.prog X.w) X.A (setFlight (.ref a) X.env.frame) (fun _ s4 => wpAny (model X.prog X.w) X.A (throw (.ref a) : Sem Flow) (SP X pins D) X.xe s4) X.xe s := by
    rw [hf]
    exact HandSPX.setFlight_upZ w.fl fun h4 held up4 => wpAny_throw (tk _ _ ⟨a, B, sI, pins, σ, H, cls, d, rfl, w.inv, w.nb, w.up.trans up4, .inr (.inr (by rw [hs]; exact held)), w.na, w.os, w.ag, q⟩)
  first
    | exact wpAny_bind (wpAny_pure (wpAny_bind on))
    | exact wpAny_bind on
theorem hands_as {x n : Str} {c : Value} {i : Nat} {suite : List Stmt} {b₀ : Stmt} {np pos' : Pos} {ts : Addr → Value → Option Addr → TS}
    (hf : X.env.frame = some X.env.locals) (hN : X.N.Nodup) (hi : X.N[i]? = some n) (hl : X.env.kindOf n = some .local) (hc : Names X x c)
    (su : ∀ (a : Addr) (oe : Obj) (cls : Value) (d : Option Addr) (pn : List (Addr × Obj)), Zc cls d oe → (∃ vs, oe.data = .fields vs) → PSs (X.suite a ((a, oe) :: pn)) (b₀ :: suite) (ts a cls d))
    (rest : Hands X D hds W) : Hands X D (.ExceptHandler (some (.Name x np)) (some n) (b₀ :: suite) pos' :: hds) (wAs X.K c i ts W D) := by
  intro pins σ H sI s B a cls d w q
  obtain ⟨b, hb, yes, no⟩ := q
  have J := w.now
  have ok := J.ok
  obtain ⟨oe, vs, he, hz, hd, nL, nF⟩ := w.apart hf
  have S := J.suite he hd w.na nL nF
  refine wpAny_handleBy_cons (codeAny_handlers_test ?_) (by intro z; cases z)
  have ty : PySem.W.Looks (model X.prog X.w) s.heap (typeOf (.ref a)) cls := fun A Q E s' k z => wpAny_typeOf_ref (k _ _ he) (by rw [hz.1]; exact z)
  have isIt := PySem.W.exm_one (M := model X.prog X.w) J.kIn ty hb
  have named : ∀ {Q : Value → Shared → Prop} {E : Value → Shared → Prop}, Q c s → wpAny (model X.prog X.w) (X.A.mark (some (.ref a))) (eval (.Name x np) X.env) Q E s := fun {Q E} z => by
    obtain ⟨g, dbg, m | ⟨m, bt, nn⟩⟩ := hc
    · exact ld_glob (X := X.suite a ((a, oe) :: (X.pn ++ pins))) S g m z dbg
    · exact ld_blt (X := X.suite a ((a, oe) :: (X.pn ++ pins))) S g m bt z nn dbg
  refine named (isIt.here ?_)
  cases b with
  | false => exact rest pins σ H sI s B a cls d w (no rfl)
  | true =>
    refine codeAny_handlers_suite_as (HandSPX.lands_againZ w.fl fun h4 fl4 up4 => ?_)
    have w4 : Down X pins σ H sI B a cls d { s with heap := h4 } := ⟨fl4, w.inv, w.nb, w.up.trans up4, w.os, w.ag, w.na⟩
    obtain ⟨oe4, vs4, he4, hz4, hd4, nL4, nF4⟩ := w4.apart hf
    have S4 := w4.now.suite he4 hd4 w.na nL4 nF4
    refine store_ok (X := X.suite a ((a, oe4) :: (X.pn ++ pins))) (v := .ref a) S4 hN hi (.inl hl) rfl (fun s5 S5 => ?_) (.inr hl)
    refine wpAny_mono ((su a oe4 cls d (X.pn ++ pins) hz4 ⟨_, hd4⟩).run [] s5 _ H _ S5 (yes rfl a w.na)) (fun f s6 got => ?_) (fun _ _ z => False.elim z)
    have away : ∀ {σ6 : L2.St} {H6 : Hp} {Q : Shared → Prop}, Inv (X.suite a ((a, oe4) :: (X.pn ++ pins))) [] σ6 H6 s6 → (∀ s7, Inv X pins (σ6.set i none) H6 s7 → Q s7) →
        wpAny (model X.prog X.w) X.A (do bindName X.env n .none; unbindBehindTheSuite X.env n pos') (fun _ s7 => Q s7) X.xe s6 := fun {σ6 H6 Q} S6 z => gone_ok (S6.unsuite ok) hN hi hl z
    cases f with
    | ret u => obtain ⟨v, σ6, H6, S6, r, z⟩ := got; exact away S6 fun s7 J7 => ⟨_, _, _, J7, r, z⟩
    | next => obtain ⟨σ6, H6, S6, z⟩ := got; exact away S6 fun s7 J7 => ⟨_, _, J7, z⟩
    | brk => obtain ⟨σ6, H6, S6, z⟩ := got; exact away S6 fun s7 J7 => ⟨_, _, J7, z⟩
    | cont => obtain ⟨σ6, H6, S6, z⟩ := got; exact away S6 fun s7 J7 => ⟨_, _, J7, z⟩
/-- try: body / the clauses -/
theorem ps_try_hands {body : List Stmt} {h₀ : ExceptHandler} {pos : Pos} {tb : WX → TS} {Wf : Ends → WX} (hs : X.stack = X.env :: X.outer) (hf : X.env.frame = some X.env.locals)
    (hb : ∀ (W : WX) (pn : List (Addr × Obj)) (xe : Value → Shared → Prop), Takes (X.tr pn xe) W → PassesOwn (model X.prog X.w) X.A X.env xe → PSs (X.tr pn xe) body (tb W))
    (hh : ∀ D, Hands X D (h₀ :: hds) (Wf D)) : PS X (.Try body (h₀ :: hds) [] [] pos) (fun D σ H => tb (Wf D) D σ H) := by
  refine ⟨fun pins s σ H D I h => ?_⟩
  have ok := I.ok
  have fr : X.A.frames = some (X.env :: X.outer) := by rw [ok.frames, hs]
  let after : Value → Shared → Prop := fun e s1 => wpAny (model X.prog X.w) X.A (noteFrame e X.env) (fun _ s2 => wpAny (model X.prog X.w) X.A (setFlight e none) (fun _ s3 => wpAny (model X.prog X.w) X.A (handleBy e X.env (h₀ :: hds)) (SP X pins D) X.xe s3) X.xe s2) X.xe s1
  have taken : Takes (X.tr (X.pn ++ pins) after) (Wf D) := fun u s1 xx => by
    obtain ⟨a, B, sI, pins1, σ1, H1, cls, d, rfl, J, nb, up, sky, na, os, ag, q⟩ := xx
    have sky1 : Sky B (X.env :: X.outer) a (Zc cls d) X.env.locals s1.heap := by rw [← hs]; exact sky
    exact Sky.land Zc.steady fr hf sky1 fun h3 fl3 up3 => hh D pins σ1 H1 sI { s1 with heap := h3 } B a cls d ⟨fl3, J.ofTry ok, nb, up.trans up3, os, ag, na⟩ q
  refine wpAny_Try_except (wpAny_mono ((hb (Wf D) (X.pn ++ pins) after taken PassesOwn.looking).run [] s σ H D (I.toTry _) h) (fun f s1 got => ?_) fun _ _ z => z)
  cases f with
  | ret u => obtain ⟨v, σ1, H1, J, r, z⟩ := got; exact ⟨v, σ1, H1, J.ofTry ok, r, z⟩
  | next => obtain ⟨σ1, H1, J, z⟩ := got; exact wpAny_execs_nil ⟨σ1, H1, J.ofTry ok, z⟩
  | brk => obtain ⟨σ1, H1, J, z⟩ := got; exact ⟨σ1, H1, J.ofTry ok, z⟩
  | cont => obtain ⟨σ1, H1, J, z⟩ := got; exact ⟨σ1, H1, J.ofTry ok, z⟩
end
end Ask

namespace Ask
open PySem L2 PySem.Spec PyProof.Rows
/-! ### repr of a list or tuple of data; a text times a number -/
def rRepr (K : PySem.W.Frag) : List V → Hp → VK → Prop := fun xs H Q => ∃ (a : Addr) (d : PyData), xs = [.ref a] ∧ Dp K H (.ref a) d ∧ d.showable = true ∧ d.hasDict = false ∧ d.depth ≤ 30 ∧ d.shown.length ≤ sizeLine ∧ Q (.str d.shown) H
theorem call_reprD {X : Cx} (hg : X.A.guards = some []) (hu : X.A.units + 64 < cLine) : CallR X (.builtin "repr") (rRepr X.K) := by
  intro pins s σ H xs us Q I r h
  obtain ⟨a, d, rfl, hd, sh, nd, dp, sz, q⟩ := h
  obtain ⟨u, rfl, ra⟩ := vals1 r
  obtain rfl : u = Value.ref a := ra
  obtain ⟨as, rd⟩ := Dp.reads I d _ _ hd rfl
  refine repr_of_reads' rd sh (fun z => by rw [nd] at z; cases z) hg (by omega) (fun _ _ e => e) (fun h' t tk k => ?_) sz
  exact ⟨.str d.shown, H, I.kept (t' := tk) k, ⟨t, rfl⟩, q⟩
def repS (x : Str) (n : Nat) : Str := ⟨(List.replicate n x.cps).foldl (· ++ ·) #[]⟩
theorem rep_size (x : Array Nat) : ∀ (n : Nat) (acc : Array Nat), ((List.replicate n x).foldl (· ++ ·) acc).size = acc.size + n * x.size
  | 0, acc => by simp
  | n + 1, acc => by
    rw [List.replicate_succ, List.foldl_cons, rep_size x n, Array.size_append, Nat.succ_mul]
    omega
theorem repS_len (x : Str) (n : Nat) : (repS x n).length = n * x.length := by
  show ((List.replicate n x.cps).foldl (· ++ ·) #[]).size = _
  rw [rep_size]
  show 0 + n * x.length = _
  omega
theorem op_mul_str {X : Cx} : OpR X (binaryOp .Mult) (fun x y H Q => ∃ (z : Str) (n : Int), x = .str z ∧ y = .int n ∧ 2 ≤ n ∧ n ≤ 1000 ∧ 1 ≤ z.length ∧ z.length ≤ 1000 ∧ Q (.str (repS z n.toNat)) H) := by
  intro pins s σ H x y v u Q I rx ry h
  obtain ⟨z, n, rfl, rfl, n0, n1, z0, z1, q⟩ := h
  obtain ⟨t, rfl⟩ := rx
  obtain ⟨t2, rfl⟩ := ry
  have zl : (z.length == 0) = false := by
    have : z.length ≠ 0 := by omega
    simpa using this
  have nl : (n == 1) = false := by
    have : n ≠ 1 := by omega
    simpa using this
  refine P.mul_str (by rw [decide_eq_false (by omega), decide_eq_false (by omega)]; rfl) (fun _ _ z => ?_) (fun _ _ => ?_) ?_
  · have e : (2 ^ 63 - 1) / (1000 : Int) ≤ (2 ^ 63 - 1) / n := by
      refine Int.le_ediv_of_mul_le (by omega) ?_
      have h1 : (2 ^ 63 - 1) / (1000 : Int) * n ≤ (2 ^ 63 - 1) / (1000 : Int) * 1000 := Int.mul_le_mul_of_nonneg_left n1 (by decide)
      have h2 : (2 ^ 63 - 1) / (1000 : Int) * 1000 ≤ 2 ^ 63 - 1 := by decide
      omega
    have e2 : (1000 : Int) ≤ (2 ^ 63 - 1) / (1000 : Int) := by decide
    omega
  · have e : z.length * n.toNat ≤ 1000 * 1000 := Nat.mul_le_mul z1 (by omega)
    have e2 : 1000 * 1000 ≤ sizeLine := by decide
    show decide (z.length * n.toNat > sizeLine) = false
    exact decide_eq_false (by omega)
  · rw [if_neg (by omega), if_neg (by rw [nl, zl]; exact Bool.false_ne_true)]
    refine ⟨?_, ?_⟩
    · show (repS z n.toNat).length ≤ sizeLine
      rw [repS_len]
      have e : z.length * n.toNat ≤ 1000 * 1000 := Nat.mul_le_mul z1 (by omega)
      have e2 : 1000 * 1000 ≤ sizeLine := by decide
      rw [Nat.mul_comm]
      omega
    · exact ⟨.str (repS z n.toNat), H, I.tok _, ⟨_, rfl⟩, q⟩
end Ask

namespace Ask
open PySem L2 PySem.Spec PyProof.Rows
/-! ### a def's body at one surrounding, the law's call from the outside (where it is known that no repr is under way) -/
theorem fn_run {CX : CXT} {P : Program} {w : World} {K : PySem.W.Frag} {mg : Str → Option Value} {base : Heap} {k : Nat} {f : Addr} {x qual : Str} {st : Stmt} {fd : FuncData} {N ps : List Str} {A : Around} {outer : List Env} {s : Shared} {H : Hp} {args : Args} {us : List Value} {vs : List V} {Q : VK} {E : XK}
    (F : Fun K x qual st f fd) (S : FnScope N ps (defScope st)) (hr : Room (k + 1) A) (e0 : Env0 P w K mg base A outer s H) (bind : BindsTo s fd args (ps.zip us)) (r : Vals vs us) (hl : vs.length = ps.length)
    (body : ∀ cdv : Value, Room k (A.deeper (envOfC qual (defScope st) s.heap.objs.size f cdv)) → ∃ t, PSs (cxOf CX P w K mg base N qual (defScope st) f cdv A outer s H E) (defBody st) t ∧ t { nx := fun _ H' => Q .non H', rt := Q } (start N vs) H) :
    codeAny (model P w) A (.call (.ref f) args) (CR CX outer P w H s Q E) s := by
  obtain ⟨oc, od, kV, doc, pm, an, cdv, ct, osl, rfl, lk, hcd⟩ := F.ex
  have here : ∀ b o, base.get? b = some o → s.heap.get? b = some o := fun b o e => (e0.bs b o e).1
  have inK : K.In s.heap := e0.mod.kin.keeps here
  refine codeAny_call_function hr.depth (inK _ _ lk) rfl S.co S.gen rfl (PySem.W.codeRec_of inK hcd) (bind _ _ _ _ ?_)
  refine wpAny_newFunctionEnv_cells S.kind (fun ⟨n, v⟩ hy => ?_) fun env he s1 x1 => ?_
  · rcases S.par n (List.of_mem_zip hy).1 with q | q
    · exact .inl q
    · exact .inr ⟨q, PySem.W.cellsFrom_some _ _ _ (.inl q)⟩
  subst he
  refine ⟨(e0.mod.nolimit.keeps here).keeps x1.toInCall.keep, codeAny_func ?_⟩
  obtain ⟨t, ht, hq⟩ := body cdv (hr.deeper _)
  refine wpAny_mono (ht.run [] s1 (start N vs) H _ (inv_start S hr.hd e0 hl r x1) hq) (fun fl s' got => ?_) fun _ _ z => z
  cases fl with
  | ret u => obtain ⟨v, _, H', J, rv, z⟩ := got; exact ⟨v, H', J.os, J.bare, J.base, J.hok, rv, z⟩
  | next => obtain ⟨_, H', J, z⟩ := got; exact ⟨V.non, H', J.os, J.bare, J.base, J.hok, rfl, z⟩
  | brk => obtain ⟨_, _, _, z⟩ := got; exact False.elim z
  | cont => obtain ⟨_, _, _, z⟩ := got; exact False.elim z
/-- the script's own cell, locked; nothing else is tracked -/
def lone (a : Addr) (vs : List Value) (ns : List Int) : Hp := fun b => if b = a then some (.frz { cls := .type "list", data := .seq vs.toArray } (.lst (ns.map V.int))) else none
theorem law_at {P : Program} {w : World} {K : PySem.W.Frag} {mg mb : Str → Option Value} {fa a : Addr} {s₁ : Shared} {vs : List Value} {ns : List Int}
    (inK : K.In s₁.heap) (gl : s₁.heap.Ns mainGlobals mg) (bl : s₁.heap.Ns builtinsNs mb) (bt : ∀ x : Str, x ≠ "__name__" → mb x = bootBuiltins x) (lim : s₁.heap.NoLimit) (gs : s₁.gens = #[])
    (ha : s₁.heap.get? a = some { cls := .type "list", data := .seq vs.toArray }) (hi : IntsAre vs ns) (hl : ns.length ≤ sizeLine)
    (run : ∀ (base : Heap) (H : Hp), K.In base → base.Ns mainGlobals mg → Env0 P w K mg base callerA [] s₁ H → SqL K H a (ns.map V.int) →
      codeAny (model P w) callerA (.call (.ref fa) ⟨[.ref a], []⟩) (CR CX0 [] P w H s₁ (fun v _ => v = .bl true) E0) s₁) :
    codeAny (model P w) callerA (.call (.ref fa) ⟨[.ref a], []⟩) (fun r s' => r = .ok (.ret (.bool true)) ∧ OldK s₁.heap s'.heap ∧ s'.os = s₁.os ∧ AllBare s'.gens) s₁ := by
  have nums : Vals (ns.map V.int) vs := vals_ints hi
  have from_ : ∀ H : Hp, (∀ b, H b = none ∨ ∃ o xs, H b = some (.frz o (.lst xs))) → (∀ b u, H b = some u → b = a ∧ K.lookup a = none) → SqL K H a (ns.map V.int) → HOk P w H s₁.heap →
      codeAny (model P w) callerA (.call (.ref fa) ⟨[.ref a], []⟩) (fun r s' => r = .ok (.ret (.bool true)) ∧ OldK s₁.heap s'.heap ∧ s'.os = s₁.os ∧ AllBare s'.gens) s₁ := by
    intro H frz atA sq ok
    have free : ∀ {b : Addr}, b ≠ a → H b = none := fun {b} ne => by
      cases q : H b with
      | none => rfl
      | some u => exact absurd (atA b u q).1 ne
    have nsB : ∀ {b : Addr} {m : Str → Option Value}, s₁.heap.Ns b m → (hidT s₁.heap H).Ns b m := fun {b m} ⟨o, es, ep, e, dd, z⟩ => ⟨o, es, ep, hidT_get e (free fun q => by
      rw [q, ha] at e
      cases e
      have dd' : Data.seq vs.toArray _ = Data.dict es ep := dd
      cases dd'), dd, z⟩
    have kB : K.In (hidT s₁.heap H) := fun b o e => hidT_get (inK b o e) (by
      cases q : H b with
      | none => rfl
      | some u =>
        obtain ⟨rfl, no⟩ := atA b u q
        rw [no] at e
        cases e)
    obtain ⟨mc, l1, l2⟩ := lim
    have e0 : Env0 P w K mg (hidT s₁.heap H) callerA [] s₁ H :=
      ⟨rfl, ⟨kB, nsB gl, ⟨mb, nsB bl, bt⟩, ⟨mc, nsB l1, l2⟩⟩, fun b o e => of_hidT e, Nat.le_of_eq (hidT_size _ _), trivial, (fun b hb => absurd (show b ∈ ([] : List Addr) from hb) (by simp)), ok, .of_eq gs⟩
    refine codeAny_mono (run _ H kB (nsB gl) e0 sq) fun r s' z => ?_
    match r, z with
    | .error e, z => exact False.elim z
    | .ok .next, z => exact False.elim z
    | .ok .brk, z => exact False.elim z
    | .ok .cont, z => exact False.elim z
    | .ok (.ret u), z =>
      obtain ⟨v, H', os, bare, un, ok', rv, q⟩ := z
      have q : v = .bl true := q
      subst q
      obtain rfl : u = Value.bool true := rv
      refine ⟨rfl, OldK.of_keep fun b o e => ?_, os, bare⟩
      rcases frz b with n | ⟨ob, xs, y⟩
      · exact un.keep b o e n (by intro z; exact absurd (show b ∈ ([] : List Addr) from z) (by simp)) (by simp)
      · obtain ⟨e1, _⟩ := ok b _ y
        obtain ⟨e2, _⟩ := ok' b _ (un.frzs b ob _ y)
        rw [e] at e1
        cases e1
        exact e2
  cases hk : K.lookup a with
  | none =>
    have at_ : lone a vs ns a = some (.frz { cls := .type "list", data := .seq vs.toArray } (.lst (ns.map V.int))) := if_pos rfl
    have off : ∀ {b : Addr}, b ≠ a → lone a vs ns b = none := fun {b} ne => if_neg ne
    refine from_ (lone a vs ns) (fun b => ?_) (fun b u z => ?_) (.inl (.inr ⟨_, at_⟩)) (fun b u z => ?_)
    · by_cases h : b = a
      · exact .inr ⟨_, _, by rw [h]; exact at_⟩
      · exact .inl (off h)
    · by_cases h : b = a
      · exact ⟨h, hk⟩
      · rw [off h] at z
        cases z
    · by_cases h : b = a
      · subst h
        rw [at_] at z
        cases z
        exact ⟨ha, by rw [List.length_map]; exact hl, vs, _, nums, ha⟩
      · rw [off h] at z
        cases z
  | some o =>
    have e := inK a o hk
    rw [ha] at e
    cases e
    refine from_ (fun _ => none) (fun _ => .inl rfl) (fun b u z => by cases z) (.inr ⟨_, vs.toArray, _, hk, rfl, rfl, rfl, ?_, by simpa using nums⟩) (fun b u z => by cases z)
    rw [List.size_toArray, hi.length]
    exact hl
end Ask

namespace Ask
open PySem L2
theorem pe_gv {X : Cx} {x : Str} {v : V} {pos : Pos} (hg : Gl X x) (h : ∃ u, X.mg x = some u ∧ RelV v u) (hd : (x == ("__debug__" : Str)) = false := by decide) : PE X (.Name x pos) (tC v) := by
  obtain ⟨u, hm, r⟩ := h
  exact pe_glob hg hm r hd
theorem Same.upd_new {H H' : Hp} {p : Addr} {o : HO} (s : Same H H') (h : H p = none) : Same H (upd H' p o) := fun b u e => by
  rw [upd_ne (ne_of_none e h)]
  exact s b u e
theorem Same.made1 {H H' : Hp} {p : Addr} {o : HO} (s : Same H H') (h : H' p = none) : Same H (upd H' p o) := Ask.Same.upd_new s (s.free h)

/-! ### letters, by their signs -/
def smallL : List Nat := small.cps.toList
def signsL : List Nat := signs.cps.toList
def shortL (l : List Nat) : Bool := decide (1 ≤ l.length ∧ l.length ≤ 12) && (match l.head? with | some c => decide (c ∈ smallL) | none => false) && l.all (fun c => decide (c ∈ signsL))
def wordOf (l : List Nat) : List Nat := if l.head? = some 126 then l.drop 1 else l
def newW : Str := "new"
def foundW : Str := "found"
def goodW (z : Str) : Bool := shortL z.cps.toList && !(decide (newW = z) || decide (foundW = z))
def wordS (z : Str) : Str := ⟨(wordOf z.cps.toList).toArray⟩
def isLs (z : Str) : Bool := goodW (wordS z)
def isL : PyData → Bool
  | .str z => isLs z
  | _ => false
/-- the values that the lists of the law hold -/
def Itm (d : PyData) : Prop := d = .none ∨ d = .bool true ∨ d = .int 7 ∨ ∃ z : Str, z.length ≤ 500 ∧ Asc z ∧ (d = .str z ∨ d = .list [.str z] ∨ d = .tuple [.str z])
def isStrD : PyData → Bool
  | .str _ => true
  | _ => false
section
variable {K : PySem.W.Frag} {H : Hp} {v : V} {d : PyData}
theorem ty_list {a : Addr} {xs : List V} (h : SqL K H a xs) : TyX K H (.ref a) (.type "list") := by
  rcases h with (h | ⟨o, h⟩) | ⟨o, _, _, h, c, _⟩
  · exact .base (.lst h)
  · exact .base (.frz h)
  · exact .kList h c
theorem ty_tup {a : Addr} {xs : List V} (h : SqT K H a xs) : TyX K H (.ref a) (.type "tuple") := by
  rcases h with (h | ⟨o, h⟩) | ⟨o, _, _, h, c, _⟩
  · exact .base (.tup h)
  · exact .fTuple h
  · exact .kTuple h c
/-- isinstance(value, str) -/
theorem isi_str (h : Dp K H v d) (hi : Itm d) : ∃ t : Value, TyX K H v t ∧ PySem.W.kitOne K t (.type "str") = some (isStrD d) := by
  rcases hi with rfl | rfl | rfl | ⟨z, _, _, rfl | rfl | rfl⟩
  · cases h
    exact ⟨_, .base .non, kit_ty (by decide +kernel)⟩
  · cases h
    exact ⟨_, .base (.bl _), kit_ty (by decide +kernel)⟩
  · cases h
    exact ⟨_, .base (.int _), kit_ty (by decide +kernel)⟩
  · cases h
    exact ⟨_, .base (.str _), kit_ty (by show kitB "str" "str" = some true; decide +kernel)⟩
  · cases h with
    | lst hs _ => exact ⟨_, ty_list hs, kit_ty (by show kitB "list" "str" = some false; decide +kernel)⟩
  · cases h with
    | tup hs _ => exact ⟨_, ty_tup hs, kit_ty (by show kitB "tuple" "str" = some false; decide +kernel)⟩
end
theorem tl_len (z : Str) : z.cps.toList.length = z.length := by simp [Str.length]
/-- the constants of the package's text -/
structure Gv (K : PySem.W.Frag) (mg : Str → Option Value) : Prop where
  small : ∃ u, mg "SMALL_LETTERS" = some u ∧ RelV (.str small) u
  signs : ∃ u, mg "WORD_SIGNS" = some u ∧ RelV (.str signs) u
  most : ∃ u, mg "MOST_SIGNS" = some u ∧ RelV (.int 12) u
  begins : ∃ (t : Addr) (u : Value), mg "BEGINNINGS" = some u ∧ RelV (.ref t) u ∧ ∀ H, SqT K H t [.str newW, .str foundW]
  mostL : ∃ u, mg "MOST_LETTERS" = some u ∧ RelV (.int 12) u
section
variable {P : Program} {w : World} {K : PySem.W.Frag} {mg : Str → Option Value} {base : Heap}
/-! ### is_short_word -/
def spShort : Sp := fun vs H Q _ => ∃ z : Str, vs = [.str z] ∧ z.length ≤ 500 ∧ ∀ H', Same H H' → Q (.bl (shortL z.cps.toList)) H'
abbrev s_is_short_word : Stmt := top 7
theorem sc_is_short_word : FnScope ["value", "sign"] ["value"] (defScope s_is_short_word) := ⟨rfl, rfl, rfl, by decide +kernel, rfl, by decide +kernel, by decide +kernel⟩
theorem ok_short {f : Addr} {fd : FuncData} (F : Fun K "is_short_word" "is_short_word" s_is_short_word f fd) (T : Blt mg) (C : Gv K mg) : FnOk P w K mg base CX0 1 f fd ["value"] spShort := by
  refine F.ok sc_is_short_word (fun vs H Q E h => ?_) (fun cdv A outer s H vs Q E hr h => ?_)
  · obtain ⟨z, rfl, _⟩ := h
    rfl
  · obtain ⟨z, rfl, hz, k⟩ := h
    refine ⟨_, (pss_cons (ps_if (PW.pt (pw_or (pt_not (pt_val (pe_callB call_isi (by rfl) T.n_isinstance (by decide +kernel) (pa_cons (pv 0) (pa_cons (pe_bltn (v := .ty "str") (u := .type "str") rfl T.n_str (by decide +kernel) rfl) pa_nil))))) (pw_or1 (pt_not (pt_chain op_le op_le pe_int (pe_callB call_len_str (by rfl) T.n_len (by decide +kernel) (pa_cons (pv 0) pa_nil)) (pe_gv rfl C.most)))))) (pss_one (ps_ret pe_bl)) pss_nil)
      (pss_one (ps_ret (pe_and (pe_cmpR op_in_sign (pe_ix ix_str (pv 0) pe_int (fun _ _ => rfl)) (pe_gv rfl C.small) rfl) (pe_one (pe_callB (cr_all rfl) (by rfl) T.n_all (by decide +kernel) (pa_cons (pe_lc (own := [("sign", 1)]) rfl sc_is_short_word.nd (pi_str (pv 0)) (blkOk_by (N := ["value", "sign"]) (sc := defScope s_is_short_word) (by decide +kernel)) (fun _ _ _ _ _ => (pg_name (i := 1) sc_is_short_word.nd rfl (Or.inl rfl))) (fun _ _ _ _ _ => pts_nil) (fun _ _ _ _ _ => (pe_cmpR op_in_sign (pv 1) (pe_gv rfl C.signs) rfl))) pa_nil))))))), ?_⟩
    have z1 : (1000 : Nat) ≤ sizeLine := by decide
    have hl := tl_len z
    refine ⟨_, rfl, _, _, _, _, true, rfl, .ty _, .base (.str _), kit_ty (by decide +kernel), _, rfl, ?_⟩
    refine iteF ⟨_, rfl, z, rfl, by omega, _, _, rfl, rfl, _, rfl, ite2 (fun h1 => ?_) (fun h1 => ?_)⟩
    · have h1 : (1 : Int) ≤ (z.length : Nat) := of_decide_eq_true h1
      refine ⟨_, _, rfl, rfl, _, rfl, ite2 (fun h2 => ?_) (fun h2 => ?_)⟩
      · have h2 : ¬ ((z.length : Nat) : Int) ≤ 12 := fun q => by
          rw [decide_eq_true q] at h2
          cases h2
        have e : shortL z.cps.toList = false := by
          unfold shortL
          rw [decide_eq_false (by omega)]
          rfl
        have := k H (Same.refl H)
        rw [e] at this
        exact this
      · have h2 : ((z.length : Nat) : Int) ≤ 12 := Decidable.byContradiction fun q => h2 (by rw [decide_eq_false q]; rfl)
        obtain ⟨c, r, ec⟩ : ∃ c r, z.cps.toList = c :: r := by
          cases e : z.cps.toList with
          | nil =>
            rw [e] at hl
            have : (0 : Nat) = z.length := hl
            omega
          | cons c r => exact ⟨c, r, rfl⟩
        refine ⟨_, rfl, z, 0, c, rfl, rfl, by omega, by rw [ec]; exact at_by (j := 0) rfl rfl, c, small, rfl, rfl, _, rfl, ite2 (fun h3 => ?_) (fun h3 => ?_)⟩
        · refine ⟨_, rfl, z, rfl, fun L hL => ?_⟩
          refine lc_it walk_str (fun i H' => Same H H' ∧ H' L = some (.lst (((z.cps.toList.take i).map fun c => decide (c ∈ signsL)).map V.bl))) ⟨Ask.Same.upd_new (Same.refl H) hL, upd_same⟩ (fun _ _ _ _ => trivial) (fun i x H1 H2 hi h1 y => ?_) (fun H1 h1 => ?_)
          · obtain ⟨rfl, c', hc', rfl⟩ := y
            obtain ⟨sm, hLL⟩ := h1
            refine ⟨rfl, _, rfl, c', signs, rfl, rfl, _, hLL, ?_, Ask.Same.upd_new sm hL, ?_⟩
            · rw [List.length_map, List.length_map, List.length_take]
              omega
            · rw [upd_same]
              have hc2 : z.cps.toList[i]? = some c' := by rw [Array.getElem?_toList]; exact hc'
              rw [List.take_add_one, hc2]
              simp only [Option.toList_some, List.map_append, List.map_cons, List.map_nil]
              rfl
          · obtain ⟨sm, hLL⟩ := h1
            refine ⟨L, _, rfl, SqL.of hLL, ?_⟩
            have e0 : z.cps.toList.take z.cps.size = z.cps.toList := List.take_of_length_le (by simp)
            rw [e0]
            have e : shortL z.cps.toList = (z.cps.toList.map fun c => decide (c ∈ signsL)).all id := by
              unfold shortL
              rw [decide_eq_true (by omega), ec]
              simp only [List.head?_cons, Bool.true_and]
              rw [show decide (c ∈ smallL) = true from h3, Bool.true_and, List.all_map]
              rfl
            have := k H1 sm
            rw [e] at this
            exact this
        · have e : shortL z.cps.toList = false := by
            unfold shortL
            rw [ec]
            simp only [List.head?_cons]
            rw [show decide (c ∈ smallL) = false from (Bool.not_eq_true _).mp h3, Bool.and_false, Bool.false_and]
          have := k H (Same.refl H)
          rw [e] at this
          exact this
    · have h1 : ¬ (1 : Int) ≤ (z.length : Nat) := fun q => h1 (decide_eq_true q)
      have e : shortL z.cps.toList = false := by
        unfold shortL
        rw [decide_eq_false (by omega)]
        rfl
      refine ⟨_, rfl, ite2 (fun _ => ?_) (fun q => absurd rfl q)⟩
      have := k H (Same.refl H)
      rw [e] at this
      exact this
end
end Ask

namespace Ask
open PySem L2
theorem str_ext {a b : Str} (h : a.cps.toList = b.cps.toList) : a = b := by
  obtain ⟨a⟩ := a
  obtain ⟨b⟩ := b
  have h : a.toList = b.toList := h
  rw [Array.toList_inj.mp h]
theorem starts_tilde (z : Str) : Txt.startswith z (Str.ofString "~") = decide (z.cps.toList.head? = some 126) := by
  obtain ⟨⟨l⟩⟩ := z
  unfold Txt.startswith Builtin.Str.subAt
  have e1 : (Str.ofString "~").cps = #[126] := by decide +kernel
  have e2 : (Str.ofString "~").length = 1 := by decide +kernel
  rw [e1, e2]
  cases l with
  | nil => rfl
  | cons c r =>
    have e3 : (⟨(c :: r)⟩ : Array Nat).extract 0 (0 + 1) = #[c] := by simp
    show (decide (0 + 1 ≤ (c :: r).length) && ((⟨(c :: r)⟩ : Array Nat).extract 0 (0 + 1) == #[126])) = decide (some c = some 126)
    rw [e3, decide_eq_true (by simp), Bool.true_and]
    by_cases h : c = 126
    · subst h
      rfl
    · rw [decide_eq_false (by intro q; exact h (Option.some.inj q))]
      simpa using h
theorem cut_rest (z : Str) : cutS z (some 1) none = ⟨(z.cps.toList.drop 1).toArray⟩ := by
  unfold cutS
  rw [show (some (1 : Int)) = some ((1 : Nat) : Int) from rfl, HT.sIx_nat, HT.sIx_none]
  have hl := tl_len z
  by_cases h : z.length = 0
  · have e : z.cps.toList = [] := List.length_eq_zero_iff.mp (by omega)
    rw [e]
    simp
  · have e : min 1 z.length = 1 := by omega
    rw [e, List.take_of_length_le (by rw [List.length_drop]; omega)]
theorem cut_head (z : Str) : cutS z none (some 1) = ⟨(z.cps.toList.take 1).toArray⟩ := by
  unfold cutS
  rw [show (some (1 : Int)) = some ((1 : Nat) : Int) from rfl, HT.sIx_nat, HT.sIx_none]
  have hl := tl_len z
  by_cases h : z.length = 0
  · have e : z.cps.toList = [] := List.length_eq_zero_iff.mp (by omega)
    rw [e]
    simp
  · have e : min 1 z.length = 1 := by omega
    rw [e, List.drop_zero]
theorem head_tilde (z : Str) : decide (V.str (cutS z none (some 1)) = V.str (Str.ofString "~")) = decide (z.cps.toList.head? = some 126) := by
  rw [cut_head]
  have e1 : (Str.ofString "~").cps.toList = [126] := by decide +kernel
  refine decide_eq_decide.mpr ⟨fun h => ?_, fun h => ?_⟩
  · have h2 : (⟨(z.cps.toList.take 1).toArray⟩ : Str) = Str.ofString "~" := V.str.inj h
    have h3 : z.cps.toList.take 1 = [126] := by
      have := congrArg (fun s : Str => s.cps.toList) h2
      rw [e1] at this
      simpa using this
    cases e : z.cps.toList with
    | nil =>
      rw [e] at h3
      cases h3
    | cons c r =>
      rw [e] at h3
      simp at h3
      rw [h3]
      rfl
  · congr 1
    refine str_ext ?_
    rw [e1]
    cases e : z.cps.toList with
    | nil =>
      rw [e] at h
      cases h
    | cons c r =>
      rw [e] at h
      cases h
      simp
theorem word_tilde {z : Str} (h : decide (z.cps.toList.head? = some 126) = true) : cutS z (some 1) none = wordS z := by
  rw [cut_rest]
  unfold wordS wordOf
  rw [if_pos (of_decide_eq_true h)]
theorem word_plain {z : Str} (h : ¬ decide (z.cps.toList.head? = some 126) = true) : z = wordS z := by
  unfold wordS wordOf
  rw [if_neg fun q => h (decide_eq_true q)]
theorem word_len (z : Str) : (wordS z).length ≤ z.length := by
  unfold wordS wordOf
  have hl := tl_len z
  split
  · show (z.cps.toList.drop 1).toArray.size ≤ _
    rw [List.size_toArray, List.length_drop]
    omega
  · show z.cps.toList.toArray.size ≤ _
    rw [List.size_toArray]
    omega
theorem eq_V (a b : Str) : eqV (.str a) (.str b) = decide (a = b) := by
  show (a == b) = _
  by_cases h : a = b
  · subst h; simp
  · rw [decide_eq_false h]
    simpa using h
section
variable {P : Program} {w : World} {K : PySem.W.Frag} {mg : Str → Option Value} {base : Heap}
def spIsL (K : PySem.W.Frag) : Sp := fun vs H Q _ => ∃ (v : V) (d : PyData), vs = [v] ∧ Dp K H v d ∧ Itm d ∧ ∀ H', Same H H' → Q (.bl (isL d)) H'
theorem itm_str {d : PyData} (hi : Itm d) (h : isStrD d = true) : ∃ z : Str, d = .str z ∧ z.length ≤ 500 ∧ Asc z := by
  rcases hi with rfl | rfl | rfl | ⟨z, h1, h2, rfl | rfl | rfl⟩
  · cases h
  · cases h
  · cases h
  · exact ⟨z, rfl, h1, h2⟩
  · cases h
  · cases h
theorem not_str {d : PyData} (h : ¬ isStrD d = true) : isL d = false := by
  cases d <;> first | rfl | exact absurd rfl h
/-! ### is_letter, the package's -/
abbrev s_is_letter : Stmt := top 22
theorem sc_is_letter : FnScope ["value", "word"] ["value"] (defScope s_is_letter) := ⟨rfl, rfl, rfl, by decide +kernel, rfl, by decide +kernel, by decide +kernel⟩
theorem ok_is_letter {f fS : Addr} {fd fdS : FuncData} (F : Fun K "is_letter" "is_letter" s_is_letter f fd) (T : Blt mg) (C : Gv K mg) (GS : FnOk P w K mg base CX0 1 fS fdS ["value"] spShort) (S : At K mg "is_short_word" fS fdS ["value"]) :
    FnOk P w K mg base CX0 2 f fd ["value"] (spIsL K) := by
  refine F.ok sc_is_letter (fun vs H Q E h => ?_) (fun cdv A outer s H vs Q E hr h => ?_)
  · obtain ⟨v, d, rfl, _⟩ := h
    rfl
  · obtain ⟨v, d, rfl, hd, hi, k⟩ := h
    obtain ⟨tB, uB, mB, rB, qB⟩ := C.begins
    refine ⟨_, (pss_cons (ps_if (pt_not (pt_val (pe_callB call_isi (by rfl) T.n_isinstance (by decide +kernel) (pa_cons (pv 0) (pa_cons (pe_bltn (v := .ty "str") (u := .type "str") rfl T.n_str (by decide +kernel) rfl) pa_nil))))) (pss_one (ps_ret pe_bl)) pss_nil)
      (pss_cons (ps_set (i := 1) sc_is_letter.nd rfl (Or.inl rfl) (pe_ifExp (pt_val (pe_m1 PySem.F.slot_str_startswith PySem.F.type_str_startswith mt_startswith (pv 0) pe_str)) (pe_slice sl_str (pv 0) (po_some pe_int) po_none) (pv 0)))
      (pss_one (ps_ret (pe_and (pe_call GS hr (by rfl) S.m S.k S.b .nil pass0 (pa_cons (pv 1) pa_nil)) (pe_one (pe_cmpR op_notIn_seq (pv 1) (pe_glob rfl mB rB) rfl))))))), ?_⟩
    obtain ⟨ty, hty, hkt⟩ := isi_str hd hi
    refine ⟨_, rfl, v, _, ty, _, isStrD d, rfl, .ty _, hty, hkt, _, rfl, ite2 (fun h1 => ?_) (fun h1 => ?_)⟩
    · have h1 : ¬ isStrD d = true := by intro q; rw [q] at h1; cases h1
      have := k H (Same.refl H)
      rw [not_str h1] at this
      exact this
    · have h1 : isStrD d = true := by
        cases q : isStrD d with
        | true => rfl
        | false => rw [q] at h1; exact absurd rfl h1
      obtain ⟨z, rfl, hz, az⟩ := itm_str hi h1
      cases hd
      have z1 : (1000 : Nat) ≤ sizeLine := by decide
      try dsimp only [tNext]
      refine seqIf_cut (fun v H' => v = .str (wordS z) ∧ H' = H) (fun Q' q' => ?_) (fun v H' hv => ?_)
      · refine ⟨_, rfl, ⟨_, rfl⟩, z, _, rfl, rfl, _, rfl, ?_⟩
        rw [starts_tilde]
        refine ite2 (fun h => ?_) (fun h => ?_)
        · exact ⟨_, rfl, _, rfl, z, rfl, by omega, q' _ _ ⟨by rw [word_tilde h], rfl⟩⟩
        · exact ⟨_, rfl, q' _ _ ⟨by rw [← word_plain h], rfl⟩⟩
      · obtain ⟨rfl, rfl⟩ := hv
        have hw := word_len z
        refine ⟨_, rfl, wordS z, rfl, by omega, fun H1 s1 => ⟨_, rfl, ite2 (fun h => ?_) (fun h => ?_)⟩⟩
        · refine ⟨_, rfl, tB, _, rfl, .inr (qB H1), rfl, rfl, ?_⟩
          have e : isL (.str z) = !inV (.str (wordS z)) [.str newW, .str foundW] := by
            show goodW (wordS z) = _
            unfold goodW
            rw [h, Bool.true_and]
            unfold inV
            simp only [List.any_cons, List.any_nil, Bool.or_false, eq_V]
          have := k H1 s1
          rw [e] at this
          exact this
        · have e : isL (.str z) = false := by
            show goodW (wordS z) = _
            unfold goodW
            rw [(Bool.not_eq_true _).mp h, Bool.false_and]
          have := k H1 s1
          rw [e] at this
          exact this
end
end Ask

namespace Ask
open PySem L2
/-! ### what the library asks of data -/
theorem asc_ok {z : Str} (h : Asc z) : PyData.strOk z = true := by
  unfold PyData.strOk
  rw [← Array.all_toList, List.all_eq_true]
  intro c hc
  have := h c hc
  exact decide_eq_true (by omega)
structure Fit (d : PyData) : Prop where
  lay : d.canLay0 = true
  dep : d.depth ≤ 1
  sho : d.showable = true
  nod : d.hasDict = false
  len : d.shown.length ≤ 6000
theorem fit_str {z : Str} (h1 : z.length ≤ 500) (h2 : Asc z) : Fit (.str z) ∧ (PyData.shown (.str z)).length ≤ 5100 := by
  have l := StrLaws.reprText_len z (fun c hc => by have := h2 c hc; omega)
  have l2 : (PyData.shown (.str z)).length ≤ 5100 := by
    show (reprText z).length ≤ 5100
    omega
  exact ⟨⟨asc_ok h2, Nat.zero_le _, rfl, rfl, by omega⟩, l2⟩
theorem itm_fit {d : PyData} (h : Itm d) : Fit d := by
  rcases h with rfl | rfl | rfl | ⟨z, h1, h2, rfl | rfl | rfl⟩
  · exact ⟨rfl, by decide, rfl, rfl, by decide⟩
  · exact ⟨rfl, by decide, rfl, rfl, by decide⟩
  · exact ⟨rfl, by decide, by decide, rfl, by decide⟩
  · exact (fit_str h1 h2).1
  · obtain ⟨f, l⟩ := fit_str h1 h2
    refine ⟨?_, by show max 0 0 + 1 ≤ 1; decide, rfl, rfl, ?_⟩
    · show (PyData.canLay0 (.str z) && true) = true
      rw [f.lay] <;> rfl
    · have := listText_len_le [PyData.shown (.str z)]
      show (listText [PyData.shown (.str z)]).length ≤ 6000
      simp only [List.map_cons, List.map_nil, List.sum_cons, List.sum_nil, List.length_cons, List.length_nil] at this
      omega
  · obtain ⟨f, l⟩ := fit_str h1 h2
    refine ⟨?_, by show max 0 0 + 1 ≤ 1; decide, rfl, rfl, ?_⟩
    · show (PyData.canLay0 (.str z) && true) = true
      rw [f.lay] <;> rfl
    · have := tupleText_len_le [PyData.shown (.str z)]
      show (tupleText [PyData.shown (.str z)]).length ≤ 6000
      simp only [List.map_cons, List.map_nil, List.sum_cons, List.sum_nil, List.length_cons, List.length_nil] at this
      omega
structure FitAll (ds : List PyData) : Prop where
  lay : PyData.canLayAll0 ds = true
  dep : PyData.depthAll ds ≤ 1
  sho : PyData.showableAll ds = true
  nod : PyData.hasDictAll ds = false
  len : ((PyData.shownAll ds).map (·.length)).sum ≤ 6000 * ds.length
  cnt : (PyData.shownAll ds).length = ds.length
theorem fit_all : ∀ {ds : List PyData}, (∀ d ∈ ds, Fit d) → FitAll ds
  | [], _ => ⟨rfl, Nat.zero_le _, rfl, rfl, Nat.le_refl _, rfl⟩
  | d :: r, h => by
    have f := h d (List.mem_cons_self ..)
    have g := fit_all (ds := r) fun x hx => h x (List.mem_cons_of_mem _ hx)
    refine ⟨?_, ?_, ?_, ?_, ?_, ?_⟩
    · show (PyData.canLay0 d && PyData.canLayAll0 r) = true
      rw [f.lay, g.lay] <;> rfl
    · show max (PyData.depth d) (PyData.depthAll r) ≤ 1
      exact Nat.max_le.mpr ⟨f.dep, g.dep⟩
    · show (PyData.showable d && PyData.showableAll r) = true
      rw [f.sho, g.sho] <;> rfl
    · show (PyData.hasDict d || PyData.hasDictAll r) = false
      rw [f.nod, g.nod] <;> rfl
    · show ((PyData.shown d :: PyData.shownAll r).map (·.length)).sum ≤ 6000 * (r.length + 1)
      rw [List.map_cons, List.sum_cons]
      have := f.len
      have := g.len
      omega
    · show (PyData.shown d :: PyData.shownAll r).length = r.length + 1
      rw [List.length_cons, g.cnt]
theorem shaped_of {d : PyData} (h : d.canLay0 = true) (k : d.depth ≤ 64) : SeqAt.shaped d = true := by
  unfold SeqAt.shaped
  rw [h, decide_eq_true k] <;> rfl
theorem FitAll.shapedL {ds : List PyData} (f : FitAll ds) : SeqAt.shaped (.list ds) = true :=
  shaped_of f.lay (by show PyData.depthAll ds + 1 ≤ 64; have := f.dep; omega)
theorem FitAll.shapedT {ds : List PyData} (f : FitAll ds) : SeqAt.shaped (.tuple ds) = true :=
  shaped_of f.lay (by show PyData.depthAll ds + 1 ≤ 64; have := f.dep; omega)
theorem Fit.shaped {d : PyData} (f : Fit d) : SeqAt.shaped d = true := shaped_of f.lay (by have := f.dep; omega)
theorem dp_strs {K : PySem.W.Frag} {H : Hp} : ∀ ys : List Str, DpAll K H (ys.map V.str) (ys.map PyData.str)
  | [] => .nil
  | y :: r => .cons (.str y) (dp_strs r)
theorem fit_strs {ys : List Str} (h : ∀ y ∈ ys, y.length ≤ 500 ∧ Asc y) : FitAll (ys.map PyData.str) := fit_all fun d hd => by
  obtain ⟨y, hy, rfl⟩ := List.mem_map.mp hd
  exact (fit_str (h y hy).1 (h y hy).2).1
theorem eqv_nil : ∀ ds : List PyData, PyData.eqv (.list ds) (.list []) = ds.isEmpty
  | [] => by simp [PyData.eqv, PyData.eqvAll]
  | _ :: _ => by simp [PyData.eqv, PyData.eqvAll]
theorem asc_word {z : Str} (h : Asc z) : Asc (wordS z) := fun c hc => by
  have hc : c ∈ wordOf z.cps.toList := by simpa [wordS] using hc
  unfold wordOf at hc
  split at hc
  · exact h c (List.mem_of_mem_drop hc)
  · exact h c hc
end Ask

namespace Ask
open PySem L2
/-! ### the letters that the laws make are letters, and different ones -/
def fixS (z : Str) : Str := if z = newW ∨ z = foundW then z ++ ("0" : Str) else z
def tildeS : Str := "~"
structure Wds (wd : Nat → Str) (M : Nat) : Prop where
  good : ∀ k, k < M → goodW (wd k) = true
  inj : ∀ j k, j < M → k < M → wd j = wd k → j = k
theorem app_list (a b : Str) : (a ++ b).cps.toList = a.cps.toList ++ b.cps.toList := by rw [Str.cps_append, Array.toList_append]
theorem good_short {z : Str} (h : goodW z = true) : shortL z.cps.toList = true := by
  unfold goodW at h
  exact (Bool.and_eq_true_iff.mp h).1
theorem short_len {l : List Nat} (h : shortL l = true) : 1 ≤ l.length ∧ l.length ≤ 12 := by
  unfold shortL at h
  exact of_decide_eq_true (Bool.and_eq_true_iff.mp (Bool.and_eq_true_iff.mp h).1).1
theorem short_signs {l : List Nat} (h : shortL l = true) : ∀ c ∈ l, c ∈ signsL := by
  unfold shortL at h
  exact fun c hc => of_decide_eq_true (List.all_eq_true.mp (Bool.and_eq_true_iff.mp h).2 c hc)
theorem short_head {l : List Nat} (h : shortL l = true) : ∃ c r, l = c :: r ∧ c ∈ smallL := by
  unfold shortL at h
  have h2 := (Bool.and_eq_true_iff.mp (Bool.and_eq_true_iff.mp h).1).2
  cases l with
  | nil => cases h2
  | cons c r => exact ⟨c, r, rfl, of_decide_eq_true h2⟩
theorem short_mk {c : Nat} {r : List Nat} (h1 : (c :: r).length ≤ 12) (h2 : c ∈ smallL) (h3 : ∀ d ∈ c :: r, d ∈ signsL) : shortL (c :: r) = true := by
  unfold shortL
  rw [decide_eq_true ⟨by simp, h1⟩]
  simp only [List.head?_cons, decide_eq_true h2, Bool.true_and]
  exact List.all_eq_true.mpr fun d hd => decide_eq_true (h3 d hd)
theorem signs_asc' : ∀ c ∈ signsL, c < 128 := signs_asc
theorem small_no : ¬ 126 ∈ smallL := by decide +kernel
theorem small_signs : ∀ c ∈ smallL, c ∈ signsL := by
  have h : smallL.all (fun c => decide (c ∈ signsL)) = true := by decide +kernel
  exact fun c hc => of_decide_eq_true (List.all_eq_true.mp h c hc)
theorem good_asc {z : Str} (h : goodW z = true) : Asc z := fun c hc => signs_asc' c (short_signs (good_short h) c hc)
theorem good_len {z : Str} (h : goodW z = true) : z.length ≤ 12 := by
  have := short_len (good_short h)
  rw [tl_len] at this
  exact this.2
theorem good_no {z : Str} (h : goodW z = true) : z.cps.toList.head? ≠ some 126 := by
  obtain ⟨c, r, e, hc⟩ := short_head (good_short h)
  rw [e]
  intro q
  cases q
  exact small_no hc
theorem word_same {z : Str} (h : z.cps.toList.head? ≠ some 126) : wordS z = z := by
  refine str_ext ?_
  show (wordOf z.cps.toList).toArray.toList = _
  unfold wordOf
  rw [if_neg h]
theorem good_is {z : Str} (h : goodW z = true) : isLs z = true := by
  unfold isLs
  rw [word_same (good_no h)]
  exact h
theorem tilde_is {z : Str} (h : goodW z = true) : isLs (tildeS ++ z) = true := by
  unfold isLs
  have e : wordS (tildeS ++ z) = z := by
    refine str_ext ?_
    show (wordOf (tildeS ++ z).cps.toList).toArray.toList = _
    have e2 : (tildeS ++ z).cps.toList = 126 :: z.cps.toList := by
      rw [app_list]
      have : tildeS.cps.toList = [126] := by decide +kernel
      rw [this]
      rfl
    rw [e2]
    rfl
  rw [e]
  exact h
theorem fix_good {z : Str} (h : shortL z.cps.toList = true) : goodW (fixS z) = true := by
  unfold fixS
  split
  · rename_i q
    rcases q with rfl | rfl <;> decide +kernel
  · rename_i q
    unfold goodW
    rw [h, decide_eq_false (fun e => q (.inl e.symm)), decide_eq_false (fun e => q (.inr e.symm))]
    rfl
theorem fix_at {z : Str} {a : Nat} (h : a < z.cps.toList.length) : (fixS z).cps.toList[a]? = z.cps.toList[a]? := by
  unfold fixS
  split
  · rw [app_list, List.getElem?_append_left h]
  · rfl
theorem wds_mk {wd : Nat → Str} {M : Nat} {S : List Nat} {a : Nat} {sg : Nat → Nat} {T : Nat → List Nat} (ha : a ≤ S.length) (hl : S.length ≤ 11) (hs : ∀ c ∈ S, c ∈ signsL) (hh : ∀ c, S.head? = some c → c ∈ smallL)
    (h1 : ∀ k, k < M → sg k ∈ signsL) (h0 : a = 0 → ∀ k, k < M → sg k ∈ smallL) (inj : ∀ j k, j < M → k < M → sg j = sg k → j = k) (hT : ∀ k, (∀ c ∈ T k, c ∈ signsL) ∧ (T k).length ≤ S.length - a)
    (e : ∀ k, k < M → ∃ z, wd k = fixS z ∧ z.cps.toList = S.take a ++ sg k :: T k) : Wds wd M := by
  refine ⟨fun k hk => ?_, fun j k hj hk q => ?_⟩
  · obtain ⟨z, e1, e2⟩ := e k hk
    rw [e1]
    refine fix_good ?_
    rw [e2]
    have len : (S.take a ++ sg k :: T k).length ≤ 12 := by
      rw [List.length_append, List.length_cons, List.length_take]
      have := (hT k).2
      omega
    have mem : ∀ c ∈ S.take a ++ sg k :: T k, c ∈ signsL := fun c hc => by
      rcases List.mem_append.mp hc with q | q
      · exact hs c (List.mem_of_mem_take q)
      · rcases List.mem_cons.mp q with rfl | q
        · exact h1 k hk
        · exact (hT k).1 c q
    cases a with
    | zero =>
      rw [List.take_zero, List.nil_append] at len mem ⊢
      exact short_mk len (h0 rfl k hk) mem
    | succ a =>
      cases S with
      | nil => simp at ha
      | cons c r =>
        rw [List.take_succ_cons, List.cons_append] at len mem ⊢
        exact short_mk len (hh c rfl) mem
  · obtain ⟨y, e1, e2⟩ := e j hj
    obtain ⟨z, e3, e4⟩ := e k hk
    have l1 : (S.take a).length = a := by rw [List.length_take]; omega
    have p1 : y.cps.toList[a]? = some (sg j) := by
      rw [e2, List.getElem?_append_right (by omega), l1, Nat.sub_self]
      rfl
    have p2 : z.cps.toList[a]? = some (sg k) := by
      rw [e4, List.getElem?_append_right (by omega), l1, Nat.sub_self]
      rfl
    have a1 : a < y.cps.toList.length := by rw [e2, List.length_append, List.length_cons]; omega
    have a2 : a < z.cps.toList.length := by rw [e4, List.length_append, List.length_cons]; omega
    have q2 : (fixS y).cps.toList[a]? = (fixS z).cps.toList[a]? := by rw [← e1, ← e3, q]
    rw [fix_at a1, fix_at a2, p1, p2] at q2
    exact inj j k hj hk (Option.some.inj q2)
/-- the signs of a row of different places -/
theorem step_inj {n f s j k : Nat} (hn : n = 26 ∨ n = 36) (hs : s ∈ [1, 5, 7, 11, 17, 19, 23, 25]) (hj : j < 26) (hk : k < 26) (h : (f + s * j) % n = (f + s * k) % n) : j = k := by
  simp only [List.mem_cons, List.not_mem_nil, or_false] at hs
  rcases hn with rfl | rfl <;> rcases hs with rfl | rfl | rfl | rfl | rfl | rfl | rfl | rfl <;> omega
theorem nodup_at {l : List Nat} (h : l.Nodup) {i j : Nat} {c : Nat} (h1 : l[i]? = some c) (h2 : l[j]? = some c) : i = j := by
  exact (List.getElem?_inj (List.getElem?_eq_some_iff.mp h1).1 h).mp (h1.trans h2.symm)
theorem small_nodup : smallL.Nodup := by decide +kernel
theorem signs_nodup : signsL.Nodup := by decide +kernel
/-! ### what stands behind i turns -/
structure Iv (wd : Nat → Str) (ys : List Str) (i : Nat) : Prop where
  len : ys.length = i
  from_ : ∀ y ∈ ys, ∃ j, j < i ∧ (y = wd j ∨ y = tildeS ++ wd j)
  nd : ys.Nodup
  last : ∀ l, ys.getLast? = some l → l.cps.toList.head? ≠ some 126 → ¬ (tildeS ++ l) ∈ ys
section
variable {wd : Nat → Str} {M i : Nat} {ys : List Str}
theorem tilde_inj {a b : Str} (h : tildeS ++ a = tildeS ++ b) : a = b := by
  have h2 := congrArg (fun z : Str => z.cps.toList) h
  simp only [app_list] at h2
  exact str_ext (List.append_cancel_left h2)
theorem tilde_head (a : Str) : (tildeS ++ a).cps.toList.head? = some 126 := by
  rw [app_list]
  have : tildeS.cps.toList = [126] := by decide +kernel
  rw [this]
  rfl
theorem Iv.nil : Iv wd [] 0 := ⟨rfl, fun _ h => by simp at h, List.nodup_nil, fun _ h => by simp at h⟩
theorem Iv.fresh (v : Iv wd ys i) (w : Wds wd M) (hi : i < M) : ¬ wd i ∈ ys ∧ ¬ (tildeS ++ wd i) ∈ ys := by
  refine ⟨fun h => ?_, fun h => ?_⟩
  · obtain ⟨j, hj, e | e⟩ := v.from_ _ h
    · have := w.inj i j hi (by omega) e
      omega
    · exact good_no (w.good i hi) (by rw [e]; exact tilde_head _)
  · obtain ⟨j, hj, e | e⟩ := v.from_ _ h
    · exact good_no (w.good j (by omega)) (by rw [← e]; exact tilde_head _)
    · have := w.inj i j hi (by omega) (tilde_inj e)
      omega
theorem nodup_app {ys : List Str} {y : Str} (h : ys.Nodup) (n : ¬ y ∈ ys) : (ys ++ [y]).Nodup := by
  rw [List.nodup_append]
  refine ⟨h, by simp, fun a ha b hb q => ?_⟩
  rw [List.mem_singleton.mp hb] at q
  rw [q] at ha
  exact n ha
theorem Iv.plain (v : Iv wd ys i) (w : Wds wd M) (hi : i < M) : Iv wd (ys ++ [wd i]) (i + 1) := by
  obtain ⟨f1, f2⟩ := v.fresh w hi
  refine ⟨by rw [List.length_append, v.len]; rfl, fun y hy => ?_, nodup_app v.nd f1, fun l hl hn => ?_⟩
  · rcases List.mem_append.mp hy with q | q
    · obtain ⟨j, hj, e⟩ := v.from_ y q
      exact ⟨j, by omega, e⟩
    · exact ⟨i, by omega, .inl (List.mem_singleton.mp q)⟩
  · rw [List.getLast?_concat] at hl
    cases hl
    intro q
    rcases List.mem_append.mp q with q | q
    · exact f2 q
    · exact good_no (w.good i hi) (by rw [← List.mem_singleton.mp q]; exact tilde_head _)
theorem Iv.tilde (v : Iv wd ys i) (w : Wds wd M) (hi : i < M) : Iv wd (ys ++ [tildeS ++ wd i]) (i + 1) := by
  obtain ⟨f1, f2⟩ := v.fresh w hi
  refine ⟨by rw [List.length_append, v.len]; rfl, fun y hy => ?_, nodup_app v.nd f2, fun l hl hn => ?_⟩
  · rcases List.mem_append.mp hy with q | q
    · obtain ⟨j, hj, e⟩ := v.from_ y q
      exact ⟨j, by omega, e⟩
    · exact ⟨i, by omega, .inr (List.mem_singleton.mp q)⟩
  · rw [List.getLast?_concat] at hl
    cases hl
    exact absurd (tilde_head _) hn
theorem Iv.again (v : Iv wd ys i) {l : Str} (hl : ys.getLast? = some l) (hn : l.cps.toList.head? ≠ some 126) : Iv wd (ys ++ [tildeS ++ l]) (i + 1) := by
  have ml : l ∈ ys := List.mem_of_getLast? hl
  refine ⟨by rw [List.length_append, v.len]; rfl, fun y hy => ?_, nodup_app v.nd (v.last l hl hn), fun k hk hn' => ?_⟩
  · rcases List.mem_append.mp hy with q | q
    · obtain ⟨j, hj, e⟩ := v.from_ y q
      exact ⟨j, by omega, e⟩
    · obtain ⟨j, hj, e | e⟩ := v.from_ l ml
      · exact ⟨j, by omega, .inr (by rw [List.mem_singleton.mp q, e])⟩
      · exact absurd (by rw [e]; exact tilde_head _) hn
  · rw [List.getLast?_concat] at hk
    cases hk
    exact absurd (tilde_head _) hn'
/-- at the end: letters, different ones -/
theorem Iv.ends (v : Iv wd ys i) (w : Wds wd M) (hi : i ≤ M) : ys.length = i ∧ ys.Nodup ∧ ∀ y ∈ ys, isLs y = true ∧ y.length ≤ 13 ∧ Asc y := by
  refine ⟨v.len, v.nd, fun y hy => ?_⟩
  obtain ⟨j, hj, e⟩ := v.from_ y hy
  have g := w.good j (by omega)
  rcases e with rfl | rfl
  · exact ⟨good_is g, by have := good_len g; omega, good_asc g⟩
  · refine ⟨tilde_is g, ?_, Asc.app (.lit (by decide +kernel)) (good_asc g)⟩
    rw [Str.length_append]
    have := good_len g
    show 1 + _ ≤ 13
    omega
end
end Ask

namespace Ask
open PySem L2
theorem join_ones : ∀ cs : List Nat, (Str.join (Str.ofString "") (cs.map fun c => (⟨#[c]⟩ : Str))).cps.toList = cs
  | [] => rfl
  | [c] => rfl
  | c :: d :: r => by
    show (((⟨#[c]⟩ : Str) ++ Str.ofString "") ++ Str.join (Str.ofString "") ((d :: r).map fun c => (⟨#[c]⟩ : Str))).cps.toList = _
    rw [app_list, app_list, join_ones (d :: r)]
    rfl
theorem joinT_ones (cs : List Nat) : (Txt.join (Str.ofString "") (cs.map fun c => (⟨#[c]⟩ : Str))).cps.toList = cs := by
  rw [TL.join_eq]
  exact join_ones cs
theorem cut_pre (z : Str) (n : Nat) : (cutS z none (some (n : Int))).cps.toList = z.cps.toList.take n := by
  unfold cutS
  rw [HT.sIx_none, HT.sIx_nat, List.drop_zero, Nat.sub_zero]
  have hl := tl_len z
  by_cases h : n ≤ z.length
  · rw [Nat.min_eq_left h]
  · rw [Nat.min_eq_right (by omega), List.take_of_length_le (by omega), List.take_of_length_le (by omega)]
theorem cut_suf (z : Str) (n : Nat) : (cutS z (some (n : Int)) none).cps.toList = z.cps.toList.drop n := by
  unfold cutS
  rw [HT.sIx_none, HT.sIx_nat]
  have hl := tl_len z
  by_cases h : n ≤ z.length
  · rw [Nat.min_eq_left h, List.take_of_length_le (by rw [List.length_drop]; omega)]
  · rw [Nat.min_eq_right (by omega), List.drop_of_length_le (by omega), List.drop_of_length_le (by omega)]
    simp
theorem cut_mem {z : Str} {lo hi : Option Int} {c : Nat} (h : c ∈ (cutS z lo hi).cps.toList) : c ∈ z.cps.toList := List.mem_of_mem_drop (List.mem_of_mem_take h)
/-- the sign of turn k -/
def sgN (zc : Str) (fr s k : Nat) : Nat := (zc.cps.toList[(fr + s * k) % zc.length]?).getD 0
theorem sgN_at (zc : Str) (fr s k : Nat) (h : 0 < zc.length) : zc.cps.toList[(fr + s * k) % zc.length]? = some (sgN zc fr s k) := by
  have hl := tl_len zc
  have lt : (fr + s * k) % zc.length < zc.cps.toList.length := by
    rw [hl]
    exact Nat.mod_lt _ h
  unfold sgN
  rw [List.getElem?_eq_getElem lt]
  rfl
theorem sgN_mem (zc : Str) (fr s k : Nat) (h : 0 < zc.length) : sgN zc fr s k ∈ zc.cps.toList := List.mem_of_getElem? (sgN_at zc fr s k h)
/-- the word of turn k -/
def wdN (stem zc : Str) (at_ fr s : Nat) (k : Nat) : Str :=
  fixS ((cutS stem none (some (at_ : Int)) ++ (⟨#[sgN zc fr s k]⟩ : Str)) ++ cutS (cutS stem (some (at_ : Int)) none) none (some (((cutS stem (some (at_ : Int)) none).length : Int) - (0 + (k : Int)) * (if decide (0 + (k : Int) < 2) = true then 1 else 0))))
theorem wdN_ok {stem zc : Str} {at_ fr s : Nat} (ha : at_ ≤ stem.length) (hl : stem.length ≤ 11) (hs : ∀ c ∈ stem.cps.toList, c ∈ signsL) (hh : ∀ c, stem.cps.toList.head? = some c → c ∈ smallL)
    (hz : zc = if 0 < at_ then signs else small) (hst : s ∈ [1, 5, 7, 11, 17, 19, 23, 25]) : Wds (wdN stem zc at_ fr s) 26 := by
  have hL := tl_len stem
  have hn : zc.length = 26 ∨ zc.length = 36 := by
    rw [hz]
    split
    · exact .inr signs_len
    · exact .inl small_len
  have pos : 0 < zc.length := by omega
  have nd : zc.cps.toList.Nodup := by
    rw [hz]
    split
    · exact signs_nodup
    · exact small_nodup
  refine wds_mk (S := stem.cps.toList) (a := at_) (sg := sgN zc fr s) (T := fun k => (cutS (cutS stem (some (at_ : Int)) none) none (some (((cutS stem (some (at_ : Int)) none).length : Int) - (0 + (k : Int)) * (if decide (0 + (k : Int) < 2) = true then 1 else 0)))).cps.toList)
    (by omega) (by omega) hs hh (fun k hk => ?_) (fun e k hk => ?_) (fun j k hj hk q => ?_) (fun k => ⟨fun c hc => hs c (cut_mem (cut_mem hc)), ?_⟩) (fun k hk => ⟨_, rfl, ?_⟩)
  · have := sgN_mem zc fr s k pos
    generalize sgN zc fr s k = x at this ⊢
    rw [hz] at this
    split at this
    · exact this
    · exact small_signs _ this
  · have := sgN_mem zc fr s k pos
    generalize sgN zc fr s k = x at this ⊢
    rw [hz, e] at this
    exact this
  · have e1 := sgN_at zc fr s j pos
    have e2 := sgN_at zc fr s k pos
    rw [q] at e1
    exact step_inj hn hst hj hk (nodup_at nd e1 e2)
  · rw [tl_len]
    refine Nat.le_trans (cutS_length _ _ _) ?_
    have := tl_len (cutS stem (some (at_ : Int)) none)
    rw [cut_suf, List.length_drop] at this
    omega
  · rw [app_list, app_list, cut_pre]
    show (_ ++ [sgN zc fr s k]) ++ _ = _
    rw [List.append_assoc]
    rfl
/-- what the block of the n signs leaves -/
def SgL (L : List Nat) (p c : Addr) (ns : List Int) (H0 : Hp) (D : Addr) (B i : Nat) (H : Hp) : Prop := ∃ cs : List Nat, Go p c ns H0 H (B + i) ∧ H D = some (.lst ((cs.map fun c => (⟨#[c]⟩ : Str)).map V.str)) ∧ cs.length = i ∧ ∀ c ∈ cs, c ∈ L
theorem SgL.next {L : List Nat} {p c D : Addr} {ns : List Int} {H0 H H' : Hp} {B i j : Nat} (h : SgL L p c ns H0 D B i H) (h0 : H0 D = none) (g : Go p c ns H H' (B + i + 1)) (hi : i ≤ 1000) (hj : j ∈ L) :
    ∃ acc, H' D = some (.lst acc) ∧ acc.length < sizeLine ∧ SgL L p c ns H0 D B (i + 1) (upd H' D (.lst (acc ++ [.str ⟨#[j]⟩]))) := by
  obtain ⟨cs, g0, hD, hl, h1⟩ := h
  refine ⟨_, g.lst hD, ?_, cs ++ [j], ((g0.step g).mut h0).mono (by omega), ?_, ?_, ?_⟩
  · rw [List.length_map, List.length_map]
    exact small1000 (by omega)
  · rw [upd_same, List.map_append, List.map_append]
    rfl
  · rw [List.length_append, hl]
    rfl
  · intro y hy
    rcases List.mem_append.mp hy with z | z
    · exact h1 y z
    · rw [List.mem_singleton.mp z]
      exact hj
theorem in_mem {x : Str} {ys : List Str} (h : x ∈ ys) : inV (.str x) (ys.map V.str) = true := by
  unfold inV
  rw [List.any_eq_true]
  refine ⟨.str x, List.mem_map.mpr ⟨x, h, rfl⟩, ?_⟩
  exact decide_eq_true rfl
section
variable {P : Program} {w : World} {K : PySem.W.Frag} {mg : Str → Option Value} {base : Heap}
/-- different letters in a new list -/
def spLettersD : Sp := fun vs H Q _ => ∃ (p c : Addr) (ns : List Int) (m : Int) (B : Nat), vs = [.ref p, .int m] ∧ Pen c ns H p B ∧ B ≤ 500000000 ∧ 0 ≤ m ∧ m ≤ 26 ∧
  ∀ (H' : Hp) (q : Addr) (ys : List Str), Go p c ns H H' (B + 150) → H q = none → H' q = some (.lst (ys.map V.str)) → (ys.length : Int) = m → ys.Nodup → (∀ y ∈ ys, isLs y = true ∧ y.length ≤ 13 ∧ Asc y) → Q (.ref q) H'
theorem ok_lettersD {f fD fP : Addr} {fd fdD fdP : FuncData} (F : Fun K "_law_letters" "_law_letters" s__law_letters f fd) (T : Blt mg)
    (GD : FnOk P w K mg base CX0 1 fD fdD ["_law_pen_here", "_law_many"] spDraw) (D : At K mg "_law_draw" fD fdD ["_law_pen_here", "_law_many"])
    (GP : FnOk P w K mg base CX0 2 fP fdP ["_law_pen_here", "_law_options"] (spPick K)) (C : At K mg "_law_pick" fP fdP ["_law_pen_here", "_law_options"]) :
    FnOk P w K mg base CX0 3 f fd ["_law_pen_here", "_law_many"] spLettersD := by
  refine F.ok sc__law_letters (fun vs H Q E h => ?_) (fun cdv A outer s H vs Q E hr h => ?_)
  · obtain ⟨p, c, ns, m, B, rfl, _⟩ := h
    rfl
  · obtain ⟨p, c, ns, m, B, rfl, hpen, hB, hm0, hm1, k⟩ := h
    have hr1 : Room 1 _ := hr.mono (by decide)
    refine ⟨_, (pss_cons (ps_asg (pe_tup (pa_cons pe_str (pa_cons pe_str pa_nil))) (pg_tup rfl (pgs_cons (pg_name (i := 2) sc__law_letters.nd rfl (Or.inr rfl)) (pgs_cons (pg_name (i := 3) sc__law_letters.nd rfl (Or.inr rfl)) pgs_nil))))
      (pss_cons (ps_set (i := 4) sc__law_letters.nd rfl (Or.inl rfl) (pe_join pe_str (pe_lc (own := [("_law_k", 11)]) rfl sc__law_letters.nd (pi_range1 rfl T.n_range (pa_cons (pe_callB (call_min2 rfl) (by rfl) T.n_min (by decide +kernel) (pa_cons pe_int (pa_cons (pe_call GD hr1 (by rfl) D.m D.k D.b .nil pass0 (pa_cons (pv 0) (pa_cons pe_int pa_nil))) pa_nil))) pa_nil)) (blkOk_by (N := nLet) (sc := defScope s__law_letters) (by decide +kernel)) (fun _ _ _ _ _ => (pg_name (i := 11) sc__law_letters.nd rfl (Or.inl rfl))) (fun _ _ _ _ _ => pts_nil) (fun _ _ _ _ _ => (pe_call GP (by exact hr) (by rfl) C.m C.k C.b .nil pass0 (pa_cons (pv 0) (pa_cons (pv 2) pa_nil)))))))
      (pss_cons (ps_set (i := 4) sc__law_letters.nd rfl (Or.inl rfl) (pe_op op_add_str (pv 4) (pe_join pe_str (pe_lc (own := [("_law_k", 11)]) rfl sc__law_letters.nd (pi_range1 rfl T.n_range (pa_cons (pe_op op_mul (pe_call GD hr1 (by rfl) D.m D.k D.b .nil pass0 (pa_cons (pv 0) (pa_cons pe_int pa_nil))) (pe_callB call_len_str (by rfl) T.n_len (by decide +kernel) (pa_cons (pv 4) pa_nil))) pa_nil)) (blkOk_by (N := nLet) (sc := defScope s__law_letters) (by decide +kernel)) (fun _ _ _ _ _ => (pg_name (i := 11) sc__law_letters.nd rfl (Or.inl rfl))) (fun _ _ _ _ _ => pts_nil) (fun _ _ _ _ _ => (pe_call GP (by exact hr) (by rfl) C.m C.k C.b .nil pass0 (pa_cons (pv 0) (pa_cons (pv 3) pa_nil))))))))
      (pss_cons (ps_par (i := 5) (j := 6) rfl sc__law_letters.nd rfl rfl (by decide) rfl rfl (pa_cons (pe_call GD hr1 (by rfl) D.m D.k D.b .nil pass0 (pa_cons (pv 0) (pa_cons (pe_op op_add (pe_callB call_len_str (by rfl) T.n_len (by decide +kernel) (pa_cons (pv 4) pa_nil)) pe_int) pa_nil))) (pa_cons (pe_call GD hr1 (by rfl) D.m D.k D.b .nil pass0 (pa_cons (pv 0) (pa_cons pe_int pa_nil))) pa_nil)) (by rfl))
      (pss_cons (ps_set (i := 7) sc__law_letters.nd rfl (Or.inl rfl) (pe_ifExp (pt_cmpR op_gt (pv 5) pe_int (nomark _)) (pv 3) (pv 2)))
      (pss_cons (ps_par3 (i := 8) (j := 9) (l := 10) rfl sc__law_letters.nd rfl rfl rfl (by decide) (by decide) (by decide) rfl rfl rfl (pa_cons (pe_call GP hr (by rfl) C.m C.k C.b .nil pass0 (pa_cons (pv 0) (pa_cons (pe_lst (pa_cons pe_int (pa_cons pe_int (pa_cons pe_int (pa_cons pe_int (pa_cons pe_int (pa_cons pe_int (pa_cons pe_int (pa_cons pe_int pa_nil))))))))) pa_nil))) (pa_cons (pe_slice sl_str (pv 4) (po_some (pv 5)) po_none) (pa_cons (pe_lst pa_nil) pa_nil))) (by rfl))
      (pss_cons (ps_for PassesOwn.never rfl (pi_range1 rfl T.n_range (pa_cons (pv 1) pa_nil)) (pg_name (i := 11) sc__law_letters.nd rfl (Or.inl rfl)) (pss_cons (ps_set (i := 12) sc__law_letters.nd rfl (Or.inl rfl) (pe_ix ix_str (pv 7) (pe_op op_mod (pe_callTy call_int1 (by rfl) T.n_int (by decide +kernel) (pa_cons (pe_op op_add (pv 6) (pe_op op_mul (pv 8) (pv 11))) pa_nil)) (pe_callB call_len_str (by rfl) T.n_len (by decide +kernel) (pa_cons (pv 7) pa_nil))) (fun _ _ => rfl)))
      (pss_cons (ps_set (i := 13) sc__law_letters.nd rfl (Or.inl rfl) (pe_op op_add_str (pe_op op_add_str (pe_slice sl_str (pv 4) po_none (po_some (pv 5))) (pv 12)) (pe_slice sl_str (pv 9) po_none (po_some (pe_op op_sub (pe_callB call_len_str (by rfl) T.n_len (by decide +kernel) (pa_cons (pv 9) pa_nil)) (pe_op op_mul (pv 11) (pe_callTy call_int1 (by rfl) T.n_int (by decide +kernel) (pa_cons (pe_cmpR op_lt (pv 11) pe_int (nomark _)) pa_nil))))))))
      (pss_cons (ps_if (pt_cmpR op_in_seq (pv 13) (pe_tup (pa_cons pe_str (pa_cons pe_str pa_nil))) rfl) (pss_one (ps_set (i := 13) sc__law_letters.nd rfl (Or.inl rfl) (pe_op op_add_str (pv 13) pe_str))) pss_nil)
      (pss_cons (ps_if (PW.pt (pw_and (pt_cmpR op_gt (pv 11) pe_int (nomark _)) (pw_and (pt_cmpR op_ne (pe_slice sl_str (pe_ix ix_list (pv 10) (pe_un un_neg pe_int) (fun _ _ => rfl)) po_none (po_some pe_int)) pe_str (nomark _)) (pw_and1 (pt_cmpR op_eq (pe_call GD hr1 (by rfl) D.m D.k D.b .nil pass0 (pa_cons (pv 0) (pa_cons pe_int pa_nil))) pe_int (nomark _)))))) (pss_one (ps_set (i := 13) sc__law_letters.nd rfl (Or.inl rfl) (pe_ix ix_list (pv 10) (pe_un un_neg pe_int) (fun _ _ => rfl)))) pss_nil)
      (pss_one (ps_expr (pe_bm PySem.F.plainAttrs_list PySem.F.slot_list_append PySem.F.type_list_append mt_append (pv 10) (pa_cons (pe_ifExp (PW.pt (pw_and (pt_cmpR op_notIn_seq (pv 13) (pv 10) rfl) (pw_and1 (pt_cmpR op_gt (pe_call GD hr1 (by rfl) D.m D.k D.b .nil pass0 (pa_cons (pv 0) (pa_cons pe_int pa_nil))) pe_int (nomark _))))) (pv 13) (pe_op op_add_str pe_str (pv 13))) pa_nil)))))))))
      (pss_one (ps_ret (pv 10)))))))))), ?_⟩
    have g0 := Go.refl hpen
    have z1 : (1000 : Nat) ≤ sizeLine := by decide
    -- small, signs
    refine ⟨by show 2 ≤ sizeLine; decide, fun t1 ht1 => ⟨t1, _, rfl, SqT.of upd_same, rfl, _, _, rfl, _, _, rfl, rfl, ?_⟩⟩
    have g1 := g0.new (o := .tup [.str small, .str signs]) ht1
    change Go p c ns H (upd H t1 (.tup [.str "abcdefghijklmnopqrstuvwxyz", .str "abcdefghijklmnopqrstuvwxyz0123456789"])) B at g1
    generalize upd H t1 _ = H1 at g1 ⊢
    -- stem, its first sign or none
    refine ⟨⟨_, rfl⟩, _, rfl, p, c, ns, 4, B, rfl, g1.pen, by omega, by decide, by decide, fun H2 r g2 r0 r1 => ⟨1, r, rfl, _, rfl, by split <;> omega, by split <;> omega, fun L hL => ?_⟩⟩
    have g2 := g1.step g2
    obtain ⟨n, en, hn⟩ : ∃ n : Nat, (if r < 1 then r else 1).toNat = n ∧ n ≤ 1 := ⟨_, rfl, by split <;> omega⟩
    rw [en]
    have hL0 := g2.free hL
    refine lc_range (lo := 0) (n := n) (SgL smallL p c ns H L (B + 1)) ⟨[], g2.new hL, upd_same, rfl, by simp⟩ (fun i H3 hi hs => ?_) (fun H3 hs => ?_)
    · obtain ⟨cs, g3, _⟩ := id hs
      refine ⟨rfl, ?_⟩
      exact ⟨_, rfl, _, rfl, p, c, ns, _, B + 1 + i, rfl, g3.pen, by omega, .inr ⟨small, rfl, by rw [small_len]; decide, by rw [small_len]; decide, fun H4 j g4 hj => hs.next hL0 g4 (by omega) hj⟩⟩
    obtain ⟨cs, g3, hL3, hl3, h13⟩ := hs
    have one1 : ∀ (cs : List Nat) (y : Str), y ∈ (cs.map fun c => (⟨#[c]⟩ : Str)) → y.length = 1 := fun cs y hy => by
      obtain ⟨c', _, rfl⟩ := List.mem_map.mp hy
      rfl
    refine ⟨_, L, cs.map fun c => (⟨#[c]⟩ : Str), rfl, rfl, .inl (SqL.of hL3), (by rw [len_sum1 _ (one1 cs), List.length_map]; show cs.length + cs.length * 0 ≤ _; omega), ?_⟩
    have hst := joinT_ones cs
    generalize Txt.join (Str.ofString "") (cs.map fun c => (⟨#[c]⟩ : Str)) = stem at hst ⊢
    have hstem : stem.length = n := by rw [← tl_len, hst, hl3]
    clear hL3
    -- stem, further signs
    refine ⟨_, rfl, ⟨_, rfl⟩, _, rfl, p, c, ns, 11, B + 1 + n, rfl, g3.pen, by omega, by decide, by decide, fun H4 r' g4 r0' r1' => ?_⟩
    have g4 := g3.step g4
    refine ⟨_, rfl, stem, rfl, Nat.le_trans (show stem.length ≤ 1000 by omega) (by decide), _, _, rfl, rfl, mul_small (by omega), ?_⟩
    obtain ⟨n', en', hn', ei', hn0⟩ : ∃ n' : Nat, (r' * (stem.length : Int)).toNat = n' ∧ n' ≤ 10 ∧ r' * (stem.length : Int) = (n' : Int) ∧ (n = 0 → n' = 0) := by
      rw [hstem]
      have h01 : n = 0 ∨ n = 1 := by omega
      rcases h01 with e | e
      · rw [e]
        exact ⟨0, by simp, by decide, by simp, fun _ => rfl⟩
      · rw [e]
        exact ⟨r'.toNat, by simp, by omega, by simp; omega, fun z => absurd z (by decide)⟩
    refine ⟨_, rfl, by omega, by omega, fun L' hL' => ?_⟩
    rw [en']
    have hL0' := g4.free hL'
    refine lc_range (lo := 0) (n := n') (SgL signsL p c ns H L' (B + 3)) ⟨[], (g4.new hL').mono (by omega), upd_same, rfl, by simp⟩ (fun i H5 hi hs => ?_) (fun H5 hs => ?_)
    · obtain ⟨cs, g5, _⟩ := id hs
      refine ⟨rfl, ?_⟩
      exact ⟨_, rfl, _, rfl, p, c, ns, _, B + 3 + i, rfl, g5.pen, by omega, .inr ⟨signs, rfl, by rw [signs_len]; decide, by rw [signs_len]; decide, fun H4 j g4 hj => hs.next hL0' g4 (by omega) hj⟩⟩
    obtain ⟨cs2, g5, hL5, hl5, h15⟩ := hs
    refine ⟨_, L', cs2.map fun c => (⟨#[c]⟩ : Str), rfl, rfl, .inl (SqL.of hL5), (by rw [len_sum1 _ (one1 cs2), List.length_map]; show cs2.length + cs2.length * 0 ≤ _; omega), ?_⟩
    have hst2 := joinT_ones cs2
    generalize Txt.join (Str.ofString "") (cs2.map fun c => (⟨#[c]⟩ : Str)) = more at hst2 ⊢
    have hmore : more.length = n' := by rw [← tl_len, hst2, hl5]
    refine ⟨_, _, rfl, rfl, Nat.le_trans (show stem.length + more.length ≤ 1000 by omega) (by decide), ?_⟩
    have hlen : (stem ++ more).length ≤ 11 := by
      rw [Str.length_append]
      omega
    have hls : ∀ d ∈ (stem ++ more).cps.toList, d ∈ signsL := by
      rw [app_list, hst, hst2]
      intro d hd
      rcases List.mem_append.mp hd with z | z
      · exact small_signs d (h13 d z)
      · exact h15 d z
    have hlh : ∀ d, (stem ++ more).cps.toList.head? = some d → d ∈ smallL := by
      rw [app_list, hst, hst2]
      intro d hd
      cases cs with
      | nil =>
        have e0 : n = 0 := hl3.symm
        have e1 := hn0 e0
        rw [e1] at hl5
        rw [List.eq_nil_of_length_eq_zero hl5] at hd
        cases hd
      | cons a b =>
        cases hd
        exact h13 _ (List.mem_cons_self ..)
    generalize stem ++ more = stem' at hlen hls hlh ⊢
    replace g5 : Go p c ns H H5 (B + 20) := g5.mono (by omega)
    clear ei' en' hstem hmore g4 g3 g2 g1 hL5 h15 hl5 h13 hl3 hst hst2 hn0
    -- at, front
    refine ⟨_, rfl, _, rfl, stem', rfl, by omega, _, _, rfl, rfl, p, c, ns, _, B + 20, rfl, g5.pen, by omega, by omega, by omega, fun H6 at_ g6 a0 a1 => ?_⟩
    refine ⟨_, rfl, p, c, ns, 36, B + 20 + 1, rfl, g6.pen, by omega, by decide, by decide, fun H7 fr g7 f0 f1 => ⟨_, _, rfl, ?_⟩⟩
    replace g7 : Go p c ns H H7 (B + 25) := ((g5.step g6).step g7).mono (by omega)
    clear g5 g6
    obtain ⟨atN, rfl⟩ : ∃ n : Nat, at_ = (n : Int) := ⟨at_.toNat, by omega⟩
    obtain ⟨frN, rfl⟩ : ∃ n : Nat, fr = (n : Int) := ⟨fr.toNat, by omega⟩
    obtain ⟨zc, hz⟩ : ∃ zc : Str, zc = if 0 < atN then signs else small := ⟨_, rfl⟩
    -- choice
    try dsimp only
    refine seqIf_cut (fun v H' => H' = H7 ∧ v = .str zc) (fun Q' q' => ?_) (fun v H' hv => ?_)
    · refine ⟨_, rfl, _, _, rfl, rfl, _, rfl, ?_⟩
      refine ite2 (fun h => ?_) (fun h => ?_)
      · have h : (0 : Int) < (atN : Int) := of_decide_eq_true h
        exact ⟨_, rfl, q' _ _ ⟨rfl, by rw [hz, if_pos (by omega)]; rfl⟩⟩
      · have h : ¬ (0 : Int) < (atN : Int) := fun q => h (decide_eq_true q)
        exact ⟨_, rfl, q' _ _ ⟨rfl, by rw [hz, if_neg (by omega)]; rfl⟩⟩
    obtain ⟨rfl, rfl⟩ := hv
    -- step, tail, found
    refine ⟨_, rfl, by show 8 ≤ sizeLine; decide, fun o ho => ⟨p, c, ns, _, B + 25, rfl, (g7.new ho).pen, by omega, .inl ⟨o, _, rfl, SqL.of upd_same, by show 0 < 8; decide, by show 8 ≤ 1000; decide, fun H9 v g9 hv => ?_⟩⟩⟩
    have g9 := (g7.new ho).step g9
    obtain ⟨st, rfl, hst⟩ : ∃ s : Nat, v = .int (s : Int) ∧ s ∈ [1, 5, 7, 11, 17, 19, 23, 25] := by
      simp only [List.mem_cons, List.not_mem_nil, or_false] at hv
      rcases hv with rfl | rfl | rfl | rfl | rfl | rfl | rfl | rfl
      · exact ⟨1, rfl, by decide⟩
      · exact ⟨5, rfl, by decide⟩
      · exact ⟨7, rfl, by decide⟩
      · exact ⟨11, rfl, by decide⟩
      · exact ⟨17, rfl, by decide⟩
      · exact ⟨19, rfl, by decide⟩
      · exact ⟨23, rfl, by decide⟩
      · exact ⟨25, rfl, by decide⟩
    have st1 : st ≤ 25 := by
      simp only [List.mem_cons, List.not_mem_nil, or_false] at hst
      omega
    have W : Wds (wdN stem' zc atN frN st) 26 := wdN_ok (by omega) hlen hls hlh hz hst
    have zl : 0 < zc.length ∧ zc.length ≤ 36 := by
      rw [hz]
      split
      · rw [signs_len]
        decide
      · rw [small_len]
        decide
    refine ⟨_, rfl, _, rfl, _, rfl, _, rfl, by omega, Nat.zero_le _, fun q hq => ⟨_, _, _, rfl, ?_⟩⟩
    obtain ⟨tail, etail⟩ : ∃ tail, tail = cutS stem' (some (atN : Int)) none := ⟨_, rfl⟩
    have htl : tail.length ≤ 11 := by rw [etail]; exact Nat.le_trans (cutS_length _ _ _) hlen
    rw [← etail]
    have hq0 := g9.free hq
    have g10 : Go p c ns H (upd H9 q (.lst [])) (B + 60) := (g9.new hq).mono (by omega)
    have hq1 : upd H9 q (.lst []) q = some (.lst (([] : List Str).map V.str)) := upd_same
    generalize upd H9 q (.lst []) = H10 at g10 hq1 ⊢
    clear g9 g7 hv hq ho
    -- the loop
    refine ⟨_, rfl, m, rfl, by omega, by omega, for_range (lo := 0) (n := m.toNat) (fun i σ' H' => ∃ (ys : List Str) (o1 o2 o3 : Option V),
      σ' = [some (.ref p), some (.int m), some (.str small), some (.str signs), some (.str stem'), some (.int (atN : Int)), some (.int (frN : Int)), some (.str zc), some (.int (st : Int)), some (.str tail), some (.ref q), o1, o2, o3] ∧
      Go p c ns H H' (B + 60 + 2 * i) ∧ H' q = some (.lst (ys.map V.str)) ∧ Iv (wdN stem' zc atN frN st) ys i)
      ⟨[], none, none, none, rfl, g10, hq1, .nil⟩ ?_ ?_⟩
    · rintro i σ' H11 hi ⟨ys, o1, o2, o3, rfl, g, hL, iv⟩
      have hi' : i < 26 := by omega
      obtain ⟨hl, _, hb⟩ := iv.ends W (by omega)
      have idx : ((frN : Int) + (st : Int) * (0 + (i : Int))) % ((zc.length : Nat) : Int) = (((frN + st * i) % zc.length : Nat) : Int) := by
        rw [Int.zero_add, Int.natCast_emod, Int.natCast_add, Int.natCast_mul]
      -- sign
      refine ⟨_, rfl, _, rfl, _, rfl, _, rfl, _, _, rfl, rfl, mul_small (by omega), _, _, rfl, rfl, .inl ⟨_, rfl, _, rfl, zc, rfl, by omega, _, _, rfl, rfl, (by omega), zc, _, sgN zc frN st i, rfl, rfl, by omega, at_by idx (sgN_at zc frN st i zl.1), ?_⟩⟩
      -- word
      refine ⟨_, rfl, _, rfl, _, rfl, stem', rfl, by omega, _, rfl, _, _, rfl, rfl, ?_, ?_⟩
      · have := cutS_length stem' none (some (atN : Int))
        show (cutS stem' none (some (atN : Int))).length + 1 ≤ sizeLine
        omega
      have hw1 : (cutS stem' none (some (atN : Int)) ++ (⟨#[sgN zc frN st i]⟩ : Str)).length ≤ 12 := by
        rw [Str.length_append]
        have := cutS_length stem' none (some (atN : Int))
        show (cutS stem' none (some (atN : Int))).length + 1 ≤ 12
        omega
      refine ⟨_, rfl, _, rfl, tail, rfl, by omega, _, rfl, _, rfl, _, _, rfl, rfl, .inr ⟨_, rfl, _, _, rfl, rfl, mul_small (by omega), _, _, rfl, rfl, _, rfl, tail, rfl, by omega, _, _, rfl, rfl, ?_, ?_⟩⟩
      · have := cutS_length tail none (some ((tail.length : Int) - (0 + (i : Int)) * (if decide (0 + (i : Int) < 2) = true then 1 else 0)))
        omega
      have ew : wdN stem' zc atN frN st i = fixS ((cutS stem' none (some (atN : Int)) ++ (⟨#[sgN zc frN st i]⟩ : Str)) ++ cutS tail none (some ((tail.length : Int) - (0 + (i : Int)) * (if decide (0 + (i : Int) < 2) = true then 1 else 0)))) := by
        rw [etail]
        rfl
      have hw2 : ((cutS stem' none (some (atN : Int)) ++ (⟨#[sgN zc frN st i]⟩ : Str)) ++ cutS tail none (some ((tail.length : Int) - (0 + (i : Int)) * (if decide (0 + (i : Int) < 2) = true then 1 else 0)))).length ≤ 23 := by
        rw [Str.length_append]
        have := cutS_length tail none (some ((tail.length : Int) - (0 + (i : Int)) * (if decide (0 + (i : Int) < 2) = true then 1 else 0)))
        omega
      generalize (cutS stem' none (some (atN : Int)) ++ (⟨#[sgN zc frN st i]⟩ : Str)) ++ cutS tail none (some ((tail.length : Int) - (0 + (i : Int)) * (if decide (0 + (i : Int) < 2) = true then 1 else 0))) = w2 at hw2 ew ⊢
      have gi := W.good i hi'
      have gl := good_len gi
      obtain ⟨wi, ewi⟩ : ∃ wi, wi = wdN stem' zc atN frN st i := ⟨_, rfl⟩
      rw [← ewi] at ew gi gl
      -- new, found
      try dsimp only
      refine seqIf_mid (fun σ' H' => σ' = [some (.ref p), some (.int m), some (.str small), some (.str signs), some (.str stem'), some (.int (atN : Int)), some (.int (frN : Int)), some (.str zc), some (.int (st : Int)), some (.str tail), some (.ref q), some (.int (0 + (i : Int))), some (.str ⟨#[sgN zc frN st i]⟩), some (.str wi)] ∧
        Go p c ns H H' (B + 60 + 2 * i) ∧ H' q = some (.lst (ys.map V.str))) (fun N hN => ?_) (fun σ' H' hm => ?_)
      · refine ⟨_, rfl, by show 2 ≤ sizeLine; decide, fun t ht => ⟨t, _, rfl, .inr (SqT.of upd_same), rfl, rfl, _, rfl, ?_⟩⟩
        have gt := g.new (o := .tup [.str "new", .str "found"]) ht
        have hLt : upd H11 t (.tup [.str "new", .str "found"]) q = some (.lst (ys.map V.str)) := by rw [upd_ne (ne_of_none hL ht)]; exact hL
        have e3 : inV (.str w2) [.str "new", .str "found"] = decide (w2 = newW ∨ w2 = foundW) := by
          unfold inV
          simp only [List.any_cons, List.any_nil, Bool.or_false, eq_V]
          by_cases c1 : w2 = newW
          · rw [decide_eq_true (show (Str.ofString "new") = w2 from c1.symm), decide_eq_true (show w2 = newW ∨ w2 = foundW from .inl c1)]
            rfl
          · by_cases c2 : w2 = foundW
            · rw [decide_eq_true (show (Str.ofString "found") = w2 from c2.symm), decide_eq_true (show w2 = newW ∨ w2 = foundW from .inr c2), Bool.or_true]
            · rw [decide_eq_false (show ¬ (Str.ofString "new") = w2 from fun z => c1 z.symm), decide_eq_false (show ¬ (Str.ofString "found") = w2 from fun z => c2 z.symm), decide_eq_false (show ¬ (w2 = newW ∨ w2 = foundW) from fun z => z.elim c1 c2)]
              rfl
        refine ite2 (fun h => ?_) (fun h => ?_)
        · have h : inV (.str w2) [.str "new", .str "found"] = true := h
          rw [e3] at h
          have e4 : wi = w2 ++ ("0" : Str) := by rw [ew]; exact if_pos (of_decide_eq_true h)
          refine ⟨_, rfl, _, _, rfl, rfl, (by show w2.length + 1 ≤ sizeLine; omega), hN _ _ ⟨?_, gt, hLt⟩⟩
          rw [e4]
          rfl
        · have h : ¬ inV (.str w2) [.str "new", .str "found"] = true := h
          rw [e3] at h
          have e4 : wi = w2 := by rw [ew]; exact if_neg (fun q => h (decide_eq_true q))
          refine hN _ _ ⟨?_, gt, hLt⟩
          rw [e4]
          rfl
      obtain ⟨rfl, g, hL⟩ := hm
      -- the last one again
      try dsimp only
      refine seqIf_mid (fun σ' H' => ∃ x : Str, σ' = [some (.ref p), some (.int m), some (.str small), some (.str signs), some (.str stem'), some (.int (atN : Int)), some (.int (frN : Int)), some (.str zc), some (.int (st : Int)), some (.str tail), some (.ref q), some (.int (0 + (i : Int))), some (.str ⟨#[sgN zc frN st i]⟩), some (.str x)] ∧
        Go p c ns H H' (B + 60 + 2 * i + 1) ∧ H' q = some (.lst (ys.map V.str)) ∧ x.length ≤ 13 ∧ (x = wi ∨ (ys.getLast? = some x ∧ x.cps.toList.head? ≠ some 126))) (fun N hN => ?_) (fun σ' H' hm => ?_)
      · have stay : ∀ H', Go p c ns H H' (B + 60 + 2 * i + 1) → H' q = some (.lst (ys.map V.str)) → N ([some (.ref p), some (.int m), some (.str small), some (.str signs), some (.str stem'), some (.int (atN : Int)), some (.int (frN : Int)), some (.str zc), some (.int (st : Int)), some (.str tail), some (.ref q), some (.int (0 + (i : Int))), some (.str ⟨#[sgN zc frN st i]⟩), some (.str wi)]) H' :=
          fun H' g' h' => hN _ _ ⟨wi, rfl, g', h', by omega, .inl rfl⟩
        refine ⟨_, rfl, _, _, rfl, rfl, _, rfl, ite2 (fun h1 => ?_) (fun h1 => iteF (stay _ (g.mono (by omega)) hL))⟩
        have h1 : (0 : Int) < 0 + (i : Int) := of_decide_eq_true h1
        obtain ⟨ys', last, rfl⟩ : ∃ ys' last, ys = ys' ++ [last] := by
          rcases List.eq_nil_or_concat ys with e | ⟨a, b, e⟩
          · rw [e] at hl
            have : (0 : Nat) = i := hl
            omega
          · exact ⟨a, b, by rw [e]; simp⟩
        have hlast := hb last (by simp)
        have hat : atI ((ys' ++ [last]).map V.str) (-1) = some (.str last) := by
          rw [List.map_append]
          exact atI_last _ _
        refine ⟨_, rfl, _, rfl, q, _, _, _, rfl, rfl, SqL.of hL, hat, _, rfl, last, rfl, (by have := hlast.2.1; omega), rfl, _, rfl, ite2 (fun h2 => ?_) (fun _ => iteF (stay _ (g.mono (by omega)) hL))⟩
        have hh : last.cps.toList.head? ≠ some 126 := fun e => by
          have h2 : (!decide (V.str (cutS last none (some 1)) = V.str (Str.ofString "~"))) = true := h2
          rw [head_tilde, decide_eq_true e] at h2
          cases h2
        refine ⟨_, rfl, p, c, ns, 5, B + 60 + 2 * i, rfl, g.pen, by omega, by decide, by decide, fun H12 r g12 _ _ => ⟨rfl, _, rfl, ?_⟩⟩
        have hL2 := g12.lst hL
        have g13 := g.step g12
        refine ite2 (fun _ => ?_) (fun _ => stay _ g13 hL2)
        exact ⟨_, rfl, _, rfl, q, _, _, _, rfl, rfl, SqL.of hL2, hat, hN _ _ ⟨last, rfl, g13, hL2, hlast.2.1, .inr ⟨List.getLast?_concat, hh⟩⟩⟩
      obtain ⟨x, rfl, g, hL, hx, hxw⟩ := hm
      -- found.append(..)
      have fin : ∀ (H' : Hp) (wv : Str), Go p c ns H H' (B + 60 + 2 * i + 2) → H' q = some (.lst (ys.map V.str)) → Iv (wdN stem' zc atN frN st) (ys ++ [wv]) (i + 1) →
          ∃ (ys2 : List Str) (o1 o2 o3 : Option V), [some (.ref p), some (.int m), some (.str small), some (.str signs), some (.str stem'), some (.int (atN : Int)), some (.int (frN : Int)), some (.str zc), some (.int (st : Int)), some (.str tail), some (.ref q), some (.int (0 + (i : Int))), some (.str ⟨#[sgN zc frN st i]⟩), some (.str x)] =
            [some (.ref p), some (.int m), some (.str small), some (.str signs), some (.str stem'), some (.int (atN : Int)), some (.int (frN : Int)), some (.str zc), some (.int (st : Int)), some (.str tail), some (.ref q), o1, o2, o3] ∧
          Go p c ns H (upd H' q (.lst (ys.map V.str ++ [.str wv]))) (B + 60 + 2 * (i + 1)) ∧ upd H' q (.lst (ys.map V.str ++ [.str wv])) q = some (.lst (ys2.map V.str)) ∧ Iv (wdN stem' zc atN frN st) ys2 (i + 1) := by
        intro H' wv g' h' hv
        refine ⟨ys ++ [wv], _, _, _, rfl, (g'.mut hq0).mono (by omega), ?_, hv⟩
        rw [upd_same, List.map_append]
        rfl
      have hflat : (ys.map V.str).all flatV = true := by
        rw [List.all_eq_true]
        intro x hx
        obtain ⟨y, _, rfl⟩ := List.mem_map.mp hx
        rfl
      have hsz : (ys.map V.str).length < sizeLine := by
        rw [List.length_map]
        omega
      have tld : Iv (wdN stem' zc atN frN st) (ys ++ [tildeS ++ x]) (i + 1) := by
        rcases hxw with rfl | ⟨e1, e2⟩
        · rw [ewi]
          exact iv.tilde W hi'
        · exact iv.again e1 e2
      refine ⟨_, rfl, .inl ⟨rfl, _, SqL.of hL⟩, ?_⟩
      refine ⟨_, rfl, _, rfl, q, _, rfl, .inl (SqL.of hL), rfl, hflat, _, rfl, ite2 (fun hn => ?_) (fun _ => iteF ?_)⟩
      · have pl : Iv (wdN stem' zc atN frN st) (ys ++ [x]) (i + 1) := by
          rcases hxw with rfl | ⟨e1, e2⟩
          · rw [ewi]
            exact iv.plain W hi'
          · have hn : (!inV (.str x) (ys.map V.str)) = true := hn
            rw [in_mem (List.mem_of_getLast? e1)] at hn
            cases hn
        refine ⟨_, rfl, p, c, ns, 5, B + 60 + 2 * i + 1, rfl, g.pen, by omega, by decide, by decide, fun H12 r g12 _ _ => ⟨_, _, rfl, rfl, _, rfl, ?_⟩⟩
        have hL2 := g12.lst hL
        have g13 := g.step g12
        refine ite2 (fun _ => ?_) (fun _ => ?_)
        · exact ⟨_, rfl, q, _, _, rfl, rfl, hL2, hsz, fin _ x g13 hL2 pl⟩
        · exact ⟨_, rfl, _, _, rfl, rfl, (by show 1 + x.length ≤ sizeLine; omega), q, _, _, rfl, rfl, hL2, hsz, fin _ _ g13 hL2 tld⟩
      · exact ⟨_, rfl, _, _, rfl, rfl, (by show 1 + x.length ≤ sizeLine; omega), q, _, _, rfl, rfl, hL, hsz, fin _ _ (g.mono (by omega)) hL tld⟩
    · rintro σ' H11 ⟨ys, o1, o2, o3, rfl, g, hL, iv⟩
      obtain ⟨hl, nd, hb⟩ := iv.ends W (by omega)
      exact ⟨_, rfl, k H11 q ys (g.mono (by omega)) hq0 hL (by omega) nd hb⟩
end
end Ask

namespace Ask
open PySem L2
/-- an item of the law's lists, its list or tuple at a place of N -/
def ItV (N : Addr → Prop) (H : Hp) (v : V) (d : PyData) : Prop :=
  (v = .non ∧ d = .none) ∨ (v = .bl true ∧ d = .bool true) ∨ (v = .int 7 ∧ d = .int 7) ∨ ∃ z : Str, (z.length ≤ 500 ∧ Asc z) ∧
    ((v = .str z ∧ d = .str z) ∨ ∃ a, v = .ref a ∧ N a ∧ ((H a = some (.lst [.str z]) ∧ d = .list [.str z]) ∨ (H a = some (.tup [.str z]) ∧ d = .tuple [.str z])))
section
variable {K : PySem.W.Frag} {N N' : Addr → Prop} {H H' H0 : Hp} {v : V} {d : PyData} {p c q : Addr} {ns : List Int} {B : Nat} {o : HO}
theorem ItV.itm (h : ItV N H v d) : Itm d := by
  rcases h with ⟨_, e⟩ | ⟨_, e⟩ | ⟨_, e⟩ | ⟨z, ⟨h1, h2⟩, ⟨_, e⟩ | ⟨a, _, _, ⟨_, e⟩ | ⟨_, e⟩⟩⟩
  · exact .inl e
  · exact .inr (.inl e)
  · exact .inr (.inr (.inl e))
  · exact .inr (.inr (.inr ⟨z, h1, h2, .inl e⟩))
  · exact .inr (.inr (.inr ⟨z, h1, h2, .inr (.inl e)⟩))
  · exact .inr (.inr (.inr ⟨z, h1, h2, .inr (.inr e)⟩))
theorem ItV.dp (h : ItV N H v d) : Dp K H v d := by
  rcases h with ⟨e, e'⟩ | ⟨e, e'⟩ | ⟨e, e'⟩ | ⟨z, _, ⟨e, e'⟩ | ⟨a, e, _, ⟨ea, e'⟩ | ⟨ea, e'⟩⟩⟩ <;> rw [e, e']
  · exact .non
  · exact .bl _
  · exact .int _
  · exact .str _
  · exact .lst (SqL.of ea) (.cons (.str _) .nil)
  · exact .tup (SqT.of ea) (.cons (.str _) .nil)
theorem ItV.mp (h : ItV N H v d) (k : ∀ a o, N a → H a = some o → (∀ kvs, o ≠ .dK kvs) → N' a ∧ H' a = some o) : ItV N' H' v d := by
  rcases h with h | h | h | ⟨z, hz, h | ⟨a, e, n, ⟨ea, e'⟩ | ⟨ea, e'⟩⟩⟩
  · exact .inl h
  · exact .inr (.inl h)
  · exact .inr (.inr (.inl h))
  · exact .inr (.inr (.inr ⟨z, hz, .inl h⟩))
  · obtain ⟨n', ea'⟩ := k a _ n ea (by intro _ z; cases z)
    exact .inr (.inr (.inr ⟨z, hz, .inr ⟨a, e, n', .inl ⟨ea', e'⟩⟩⟩))
  · obtain ⟨n', ea'⟩ := k a _ n ea (by intro _ z; cases z)
    exact .inr (.inr (.inr ⟨z, hz, .inr ⟨a, e, n', .inr ⟨ea', e'⟩⟩⟩))
theorem ItV.go (h : ItV N H v d) (g : Go p c ns H H' B) : ItV N H' v d := h.mp fun a o n e k => ⟨n, g.at e k⟩
theorem ItV.same (h : ItV N H v d) (s : Same H H') : ItV N H' v d := h.mp fun a o n e _ => ⟨n, s a o e⟩
theorem ItV.mut (h : ItV N H v d) (n : ∀ a, N a → a ≠ q) : ItV N (upd H q o) v d := h.mp fun a u m e _ => ⟨m, by rw [upd_ne (n a m)]; exact e⟩
theorem ItV.wk (h : ItV N H v d) (n : ∀ a, N a → N' a) : ItV N' H v d := h.mp fun a u m e _ => ⟨n a m, e⟩
def ItS (N : Addr → Prop) (H : Hp) (xs : List V) : Prop := ∀ v ∈ xs, ∃ d, ItV N H v d
theorem ItS.nil : ItS N H [] := fun _ h => by cases h
theorem ItS.cons {xs : List V} (h : ∃ d, ItV N H v d) (r : ItS N H xs) : ItS N H (v :: xs) := fun x hx => by
  rcases List.mem_cons.mp hx with rfl | hx
  · exact h
  · exact r x hx
theorem ItS.app {xs ys : List V} (h : ItS N H xs) (r : ItS N H ys) : ItS N H (xs ++ ys) := fun x hx => by
  rcases List.mem_append.mp hx with hx | hx
  · exact h x hx
  · exact r x hx
theorem itStr {z : Str} (h : z.length ≤ 500 ∧ Asc z) : ∃ d, ItV N H (.str z) d := ⟨_, .inr (.inr (.inr ⟨z, h, .inl ⟨rfl, rfl⟩⟩))⟩
end
theorem asc_upper {z : Str} (h : Asc z) : Asc (Txt.upper z) ∧ (Txt.upper z).length = z.length := by
  rw [PyProof.Rows.upper_ascii h]
  refine ⟨fun c hc => ?_, by simp [Str.length]⟩
  have hc : c ∈ (z.cps.map PyProof.Rows.up1).toList := hc
  rw [Array.toList_map] at hc
  obtain ⟨b, hb, rfl⟩ := List.mem_map.mp hc
  have := h b hb
  unfold PyProof.Rows.up1
  split <;> omega
theorem asc_rep {z : Str} (h : Asc z) (n : Nat) : Asc (repS z n) := by
  have : ∀ (n : Nat) (acc : Array Nat), (∀ c ∈ acc.toList, c < 128) → ∀ c ∈ ((List.replicate n z.cps).foldl (· ++ ·) acc).toList, c < 128 := by
    intro n
    induction n with
    | zero => intro acc ha; simpa using ha
    | succ n ih =>
      intro acc ha
      rw [List.replicate_succ, List.foldl_cons]
      refine ih _ fun c hc => ?_
      rw [Array.toList_append] at hc
      rcases List.mem_append.mp hc with q | q
      · exact ha c q
      · exact h c q
  exact this n #[] (fun c hc => by cases hc)
end Ask

namespace Ask
open PySem L2
/-! ### the answers, by the mirror -/
def badAt (ds : List PyData) (k : Nat) : Bool := match ds[k]? with
  | some d => !isL d || (ds.take k).any fun z => PyData.eqv z d
  | none => false
def bads (ds : List PyData) : List Nat := (List.range ds.length).filter (badAt ds)
def res (ds : List PyData) : PyData :=
  if 12 < ds.length then .tuple [.str "many", .str "letters", .int (ds.length : Nat), .int 12]
  else match bads ds with
    | k :: _ => .tuple [.str "letters", .int (k : Nat)]
    | [] => if ds.length = 0 then .tuple [.str "letters", .int 0] else .none
theorem res_many {ds : List PyData} (h : 12 < ds.length) : res ds = .tuple [.str "many", .str "letters", .int (ds.length : Nat), .int 12] := if_pos h
theorem res_none {ds : List PyData} (h : ds.length = 0) : res ds = .tuple [.str "letters", .int 0] := by
  have e : ds = [] := List.eq_nil_of_length_eq_zero h
  subst e
  rfl
theorem bads_at {ds : List PyData} {k : Nat} (h1 : k < ds.length) (h2 : badAt ds k = true) (h3 : ∀ j < k, badAt ds j = false) : ∃ r, bads ds = k :: r := by
  unfold bads
  have e : ds.length = k + (1 + (ds.length - k - 1)) := by omega
  rw [e, List.range_add, List.filter_append]
  have e1 : (List.range k).filter (badAt ds) = [] := List.filter_eq_nil_iff.mpr fun x hx => by
    rw [h3 x (List.mem_range.mp hx)]
    exact Bool.false_ne_true
  rw [e1, List.nil_append, Nat.add_comm 1, List.range_succ_eq_map, List.map_cons, List.filter_cons, if_pos (by simpa using h2)]
  exact ⟨_, rfl⟩
theorem res_at {ds : List PyData} {k : Nat} (h0 : ¬ 12 < ds.length) (h1 : k < ds.length) (h2 : badAt ds k = true) (h3 : ∀ j < k, badAt ds j = false) : res ds = .tuple [.str "letters", .int (k : Nat)] := by
  obtain ⟨r, e⟩ := bads_at h1 h2 h3
  unfold res
  rw [if_neg h0, e]
theorem res_good {ds : List PyData} (h0 : ¬ 12 < ds.length) (h1 : 0 < ds.length) (h3 : ∀ j < ds.length, badAt ds j = false) : res ds = .none := by
  have e : bads ds = [] := List.filter_eq_nil_iff.mpr fun x hx => by
    rw [h3 x (List.mem_range.mp hx)]
    exact Bool.false_ne_true
  unfold res
  rw [if_neg h0, e]
  exact if_neg (by omega)
/-- an answer of the law's -/
def Rs (H : Hp) (v : V) (d : PyData) : Prop := (v = .non ∧ d = .none) ∨ ∃ a xs ds, v = .ref a ∧ d = .tuple ds ∧ H a = some (.tup xs) ∧ ∀ (K : PySem.W.Frag) (H' : Hp), DpAll K H' xs ds
/-- the items of a list -/
def ItL (N : Addr → Prop) (H : Hp) : List V → List PyData → Prop
  | [], [] => True
  | v :: xs, d :: ds => ItV N H v d ∧ ItL N H xs ds
  | _, _ => False
section
variable {K : PySem.W.Frag} {N N' : Addr → Prop} {H H' H0 : Hp} {v : V} {d : PyData} {p c q : Addr} {ns : List Int} {B : Nat} {o : HO}
theorem Rs.dp (h : Rs H v d) : Dp K H v d := by
  rcases h with ⟨rfl, rfl⟩ | ⟨a, xs, ds, rfl, rfl, e, k⟩
  · exact .non
  · exact .tup (SqT.of e) (k K H)
theorem Rs.same (h : Rs H v d) (s : Same H H') : Rs H' v d := by
  rcases h with h | ⟨a, xs, ds, h1, h2, e, k⟩
  · exact .inl h
  · exact .inr ⟨a, xs, ds, h1, h2, s _ _ e, k⟩
theorem ItL.len : ∀ {xs : List V} {ds : List PyData}, ItL N H xs ds → xs.length = ds.length
  | [], [], _ => rfl
  | _ :: _, _ :: _, h => by rw [List.length_cons, List.length_cons, ItL.len h.2]
  | [], _ :: _, h => h.elim
  | _ :: _, [], h => h.elim
theorem ItL.mp : ∀ {xs : List V} {ds : List PyData}, ItL N H xs ds → (∀ v d, ItV N H v d → ItV N' H' v d) → ItL N' H' xs ds
  | [], [], _, _ => trivial
  | _ :: _, _ :: _, h, k => ⟨k _ _ h.1, ItL.mp h.2 k⟩
  | [], _ :: _, h, _ => h.elim
  | _ :: _, [], h, _ => h.elim
theorem ItL.dp : ∀ {xs : List V} {ds : List PyData}, ItL N H xs ds → DpAll K H xs ds
  | [], [], _ => .nil
  | _ :: _, _ :: _, h => .cons h.1.dp (ItL.dp h.2)
  | [], _ :: _, h => h.elim
  | _ :: _, [], h => h.elim
theorem ItL.itm : ∀ {xs : List V} {ds : List PyData}, ItL N H xs ds → ∀ d ∈ ds, Itm d
  | [], [], _, _, h => by cases h
  | _ :: _, _ :: _, h, d, hd => by
    rcases List.mem_cons.mp hd with rfl | hd
    · exact h.1.itm
    · exact ItL.itm h.2 d hd
  | [], _ :: _, h, _, _ => h.elim
  | _ :: _, [], h, _, _ => h.elim
theorem ItL.fit {xs : List V} {ds : List PyData} (h : ItL N H xs ds) : FitAll ds := fit_all fun d hd => itm_fit (h.itm d hd)
theorem ItL.get : ∀ {xs : List V} {ds : List PyData} (k : Nat), ItL N H xs ds → k < xs.length → ∃ v d, xs[k]? = some v ∧ ds[k]? = some d ∧ ItV N H v d
  | [], _, _, _, h => absurd h (Nat.not_lt_zero _)
  | _ :: _, [], _, h, _ => h.elim
  | v :: _, d :: _, 0, h, _ => ⟨v, d, rfl, rfl, h.1⟩
  | _ :: _, _ :: _, k + 1, h, hk => by
    obtain ⟨v, d, h1, h2, h3⟩ := ItL.get k h.2 (Nat.lt_of_succ_lt_succ hk)
    exact ⟨v, d, by simpa using h1, by simpa using h2, h3⟩
theorem ItL.take : ∀ {xs : List V} {ds : List PyData} (k : Nat), ItL N H xs ds → ItL N H (xs.take k) (ds.take k)
  | [], [], _, _ => by rw [List.take_nil, List.take_nil]; trivial
  | _ :: _, _ :: _, 0, _ => trivial
  | _ :: _, _ :: _, k + 1, h => ⟨h.1, ItL.take k h.2⟩
  | [], _ :: _, _, h => h.elim
  | _ :: _, [], _, h => h.elim
theorem ItL.set : ∀ {xs : List V} {ds : List PyData} (k : Nat), ItL N H xs ds → ItV N H v d → ItL N H (xs.set k v) (ds.set k d)
  | [], [], _, _, _ => trivial
  | _ :: _, _ :: _, 0, h, hv => ⟨hv, h.2⟩
  | _ :: _, _ :: _, k + 1, h, hv => ⟨h.1, ItL.set k h.2 hv⟩
  | [], _ :: _, _, h, _ => h.elim
  | _ :: _, [], _, h, _ => h.elim
theorem ItL.app1 : ∀ {xs : List V} {ds : List PyData}, ItL N H xs ds → ItV N H v d → ItL N H (xs ++ [v]) (ds ++ [d])
  | [], [], _, hv => ⟨hv, trivial⟩
  | _ :: _, _ :: _, h, hv => ⟨h.1, ItL.app1 h.2 hv⟩
  | [], _ :: _, h, _ => h.elim
  | _ :: _, [], h, _ => h.elim
theorem itl_strs : ∀ {ys : List Str}, (∀ y ∈ ys, y.length ≤ 500 ∧ Asc y) → ItL N H (ys.map V.str) (ys.map PyData.str)
  | [], _ => trivial
  | y :: r, h => ⟨.inr (.inr (.inr ⟨y, h y (List.mem_cons_self ..), .inl ⟨rfl, rfl⟩⟩)), itl_strs fun z hz => h z (List.mem_cons_of_mem _ hz)⟩
end
theorem ints_lay : ∀ ks : List Nat, (∀ k ∈ ks, k ≤ 1000) → PyData.canLayAll0 (ks.map fun k : Nat => PyData.int k) = true ∧ PyData.depthAll (ks.map fun k : Nat => PyData.int k) = 0
  | [], _ => ⟨rfl, rfl⟩
  | k :: r, h => by
    obtain ⟨h1, h2⟩ := ints_lay r fun z hz => h z (List.mem_cons_of_mem _ hz)
    have hk := h k (List.mem_cons_self ..)
    refine ⟨?_, ?_⟩
    · show (PyData.canLay0 (.int (k : Nat)) && PyData.canLayAll0 (r.map fun k : Nat => PyData.int k)) = true
      rw [h1, Bool.and_true]
      rfl
    · show max 0 (PyData.depthAll (r.map fun k : Nat => PyData.int k)) = 0
      rw [h2]
      rfl
theorem ints_shaped {ks : List Nat} (h : ∀ k ∈ ks, k ≤ 1000) : SeqAt.shaped (.list (ks.map fun k : Nat => PyData.int k)) = true := by
  obtain ⟨h1, h2⟩ := ints_lay ks h
  exact shaped_of h1 (by show PyData.depthAll _ + 1 ≤ 64; omega)
theorem dp_ints {K : PySem.W.Frag} {H : Hp} : ∀ ks : List Nat, DpAll K H (ks.map fun k : Nat => V.int k) (ks.map fun k : Nat => PyData.int k)
  | [] => .nil
  | k :: r => .cons (.int _) (dp_ints r)
theorem cutV_take (xs : List V) (k : Nat) (h : k ≤ xs.length) : cutV xs none (some (k : Int)) = xs.take k := by
  unfold cutV
  rw [HT.sIx_none, HT.sIx_nat, List.drop_zero, Nat.sub_zero, Nat.min_eq_left h]
end Ask

/-! C(e, ..), what its __init__ raises wished for at the caller's slots -/
namespace Ask
open PySem L2 PySem.Spec PyProof.Rows
def tMakeS (C : Addr) (sp : Sp) (E : L2.St → XK) (t : TA) : TE := fun σ H Q => t σ H fun vs H1 => ∀ x dx, H1 x = none → H1 dx = none → dx ≠ x →
  sp (.ref x :: vs) (upd (upd H1 dx (.own x)) x (.ins C dx [])) (fun v H2 => v = .non ∧ Q (.ref x) H2) (E σ)
theorem pe_makeS {X : Cx} {CX : CXT} {k : Nat} {f C : Addr} {fd : FuncData} {ps : List Str} {sp : Sp} {E : L2.St → XK} {x : Str} {p pos : Pos} {e : Expr} {es : List Expr} {t : TA}
    (M : Mk X.K C f) (F : FnOk X.prog X.w X.K X.mg X.base CX k f fd ps sp) (hr : Room (k + 1) X.A) (hg : Gl X x) (hm : X.mg x = some (.ref C)) (hb : Binds X.K fd ps []) (hx : ∀ σ, PassesAt CX X σ (E σ)) (ha : PA X (e :: es) t)
    (hdb : (x == ("__debug__" : Str)) = false := by decide) (he : starEach (e :: es) X.env = (false, eval e X.env) :: starEach es X.env := by rfl) (hpl : (backTo pos (starEach es X.env)).any (·.1) = false := by rfl) :
    PE X (.Call (.Name x p) (e :: es) [] pos) (tMakeS C sp E t) := by
  refine ⟨fun pins s σ H Q I h => wpAny_Call_Name_kw (ld_glob I hg hm ?_ hdb)⟩
  refine PySem.W.callWith_K (h₀ := X.base) I.ok.mod.kin M.kp (thn (ha.run pos pins s σ H _ I h) fun us s1 ⟨vs, H1, I1, r, q⟩ => ⟨I1.kIn, ?_⟩) he hpl
  have w := q (s1.heap.objs.size + 1) s1.heap.objs.size (I1.hok.fresh (Nat.le_succ _)) (I1.hok.fresh (Nat.le_refl _)) (Nat.ne_of_lt (Nat.lt_succ_self _))
  have I2 := Inv.made (C := C) I1
  have r2 : Vals (V.ref (s1.heap.objs.size + 1) :: vs) (Value.ref (s1.heap.objs.size + 1) :: us) := .cons rfl r
  have len : (Value.ref (s1.heap.objs.size + 1) :: us).length = ps.length := by
    rw [← r2.length]
    exact F.len _ _ _ _ w
  have len2 : (Value.ref (s1.heap.objs.size + 1) :: us ++ []).length = ps.length := by
    rw [List.append_nil]
    exact len
  have bound := hb _ (Value.ref (s1.heap.objs.size + 1) :: us) I2.kIn len2
  rw [List.append_nil] at bound
  refine wpAny_call (make_map (f := f) I1.kIn M.makes M.init (beq_iff_eq.mp M.fn) (codeAny_mono (F.run _ X.stack _ _ ⟨Value.ref (s1.heap.objs.size + 1) :: us, []⟩ _ _ _ (E σ) (hr.make C us []) (I2.env0.make C us []) bound r2 w) fun r s' got => ?_))
  match r, got with
  | .error e, got => exact hx σ pins _ _ e s' I2 got
  | .ok .next, got => exact False.elim got
  | .ok .brk, got => exact False.elim got
  | .ok .cont, got => exact False.elim got
  | .ok (.ret u), got =>
    obtain ⟨v, H', I3, rv, ev, z⟩ := I2.after got
    subst ev
    exact ⟨rv, ⟨V.ref (s1.heap.objs.size + 1), H', I3, rfl, z⟩⟩
end Ask

namespace Ask
open PySem L2
section
variable {P : Program} {w : World} {K : PySem.W.Frag} {mg : Str → Option Value} {base : Heap}
/-! ### copied, of a number or a text -/
def spCopy : Sp := fun vs H Q _ => ∃ x : V, vs = [x] ∧ ((∃ i, x = .int i) ∨ ∃ z, x = .str z) ∧ Q x H
abbrev s_copied : Stmt := top 8
theorem sc_copied : FnScope ["value"] ["value"] (defScope s_copied) := ⟨rfl, rfl, rfl, by decide +kernel, rfl, by decide +kernel, by decide +kernel⟩
theorem ok_copied {f : Addr} {fd : FuncData} (F : Fun K "copied" "copied" s_copied f fd) (T : Blt mg) (nD : mg "dict" = none) : FnOk P w K mg base CX0 1 f fd ["value"] spCopy := by
  refine F.ok sc_copied (fun vs H Q E h => ?_) (fun cdv A outer s H vs Q E hr h => ?_)
  · obtain ⟨x, rfl, _⟩ := h
    rfl
  · obtain ⟨x, rfl, hx, k⟩ := h
    refine ⟨_, (pss_cons (ps_if (pt_val (pe_callB call_isi (by rfl) T.n_isinstance (by decide +kernel) (pa_cons (pv 0) (pa_cons (pe_bltn (v := .ty "list") (u := .type "list") rfl T.n_list (by decide +kernel) rfl) pa_nil)))) pss_never pss_nil)
      (pss_cons (ps_if (pt_val (pe_callB call_isi (by rfl) T.n_isinstance (by decide +kernel) (pa_cons (pv 0) (pa_cons (pe_bltn (v := .ty "tuple") (u := .type "tuple") rfl T.n_tuple (by decide +kernel) rfl) pa_nil)))) pss_never pss_nil)
      (pss_cons (ps_if (pt_val (pe_callB call_isi (by rfl) T.n_isinstance (by decide +kernel) (pa_cons (pv 0) (pa_cons (pe_bltn (v := .ty "dict") (u := .type "dict") rfl nD (by decide +kernel) rfl) pa_nil)))) pss_never pss_nil)
      (pss_one (ps_ret (pv 0)))))), ?_⟩
    rcases hx with ⟨i, rfl⟩ | ⟨z, rfl⟩
    · refine ⟨_, rfl, _, _, _, _, false, rfl, .ty _, .base (.int _), kit_ty (by decide +kernel), _, rfl, iteF ?_⟩
      refine ⟨_, rfl, _, _, _, _, false, rfl, .ty _, .base (.int _), kit_ty (by decide +kernel), _, rfl, iteF ?_⟩
      refine ⟨_, rfl, _, _, _, _, false, rfl, .ty _, .base (.int _), kit_ty (by decide +kernel), _, rfl, iteF ?_⟩
      exact ⟨_, rfl, k⟩
    · refine ⟨_, rfl, _, _, _, _, false, rfl, .ty _, .base (.str _), kit_ty (by decide +kernel), _, rfl, iteF ?_⟩
      refine ⟨_, rfl, _, _, _, _, false, rfl, .ty _, .base (.str _), kit_ty (by decide +kernel), _, rfl, iteF ?_⟩
      refine ⟨_, rfl, _, _, _, _, false, rfl, .ty _, .base (.str _), kit_ty (by decide +kernel), _, rfl, iteF ?_⟩
      exact ⟨_, rfl, k⟩
/-! ### the errors -/
def spErr (C : Addr) (ok : List V → Prop) (fs : List V → List (Str × V)) : Sp := fun vs H Q _ => ∃ (a : Addr) (ws : List V), vs = .ref a :: ws ∧ ok ws ∧ H a = some (exo a C none) ∧
  ∀ (H' : Hp) (dx : Addr), H dx = none → dx ≠ a → H' a = some (exo a C (some dx)) → H' dx = some (exd dx (fs ws)) → (∀ b o, b ≠ a → H b = some o → H' b = some o) → Q .non H'
def okBad : List V → Prop := fun ws => ∃ i : Int, ws = [.int i]
def fsBad : List V → List (Str × V) := fun ws => match ws with
  | [v] => [("index", v)]
  | _ => []
def okMany : List V → Prop := fun ws => ∃ n : Int, ws = [.str "letters", .int n, .int 12]
def fsMany : List V → List (Str × V) := fun ws => match ws with
  | [v, n, m] => [("most", m), ("many", n), ("what", v)]
  | _ => []
abbrev s_BadLetters_init : Stmt := inClass (top 11) 0
theorem sc_BadLetters_init : FnScope ["self", "index"] ["self", "index"] (defScope s_BadLetters_init) := ⟨rfl, rfl, rfl, by decide +kernel, rfl, by decide +kernel, by decide +kernel⟩
abbrev s_TooMany_init : Stmt := inClass (top 18) 0
theorem sc_TooMany_init : FnScope ["self", "what", "many", "most"] ["self", "what", "many", "most"] (defScope s_TooMany_init) := ⟨rfl, rfl, rfl, by decide +kernel, rfl, by decide +kernel, by decide +kernel⟩
theorem ok_badInit {f fC C : Addr} {fd fdC : FuncData} (F : Fun K "__init__" "BadLetters.__init__" s_BadLetters_init f fd) (T : OexC K C) (h1 : PySem.W.findIn K (.ref C) "index" = some none)
    (GC : FnOk P w K mg base CX0 1 fC fdC ["value"] spCopy) (CP : At K mg "copied" fC fdC ["value"]) : FnOk P w K mg base CX0 2 f fd ["self", "index"] (spErr C okBad fsBad) := by
  refine F.ok sc_BadLetters_init (fun vs H Q E h => ?_) (fun cdv A outer s H vs Q E hr h => ?_)
  · obtain ⟨a, ws, rfl, ⟨i, rfl⟩, _⟩ := h
    rfl
  · obtain ⟨a, ws, rfl, ⟨i, rfl⟩, ha, k⟩ := h
    refine ⟨_, pss_one (ps_ost (pv 0) (pe_call GC hr (by rfl) CP.m CP.k CP.b .nil pass0 (pa_cons (pv 1) pa_nil))), ?_⟩
    refine ⟨_, rfl, _, rfl, .inl ⟨i, rfl⟩, _, rfl, a, C, rfl, T, h1, .inl ⟨ha, fun dx hdx hne => ?_⟩⟩
    refine k _ dx hdx hne upd_same (by rw [upd_ne hne]; exact upd_same) fun b o hb e => ?_
    rw [upd_ne hb, upd_ne (ne_of_none e hdx)]
    exact e
theorem ok_manyInit {f fC C : Addr} {fd fdC : FuncData} (F : Fun K "__init__" "TooMany.__init__" s_TooMany_init f fd) (T : OexC K C) (h1 : PySem.W.findIn K (.ref C) "what" = some none) (h2 : PySem.W.findIn K (.ref C) "many" = some none) (h3 : PySem.W.findIn K (.ref C) "most" = some none)
    (GC : FnOk P w K mg base CX0 1 fC fdC ["value"] spCopy) (CP : At K mg "copied" fC fdC ["value"]) : FnOk P w K mg base CX0 2 f fd ["self", "what", "many", "most"] (spErr C okMany fsMany) := by
  refine F.ok sc_TooMany_init (fun vs H Q E h => ?_) (fun cdv A outer s H vs Q E hr h => ?_)
  · obtain ⟨a, ws, rfl, ⟨i, rfl⟩, _⟩ := h
    rfl
  · obtain ⟨a, ws, rfl, ⟨i, rfl⟩, ha, k⟩ := h
    refine ⟨_, pss_cons (ps_ost (pv 0) (pe_call GC hr (by rfl) CP.m CP.k CP.b .nil pass0 (pa_cons (pv 1) pa_nil))) (pss_cons (ps_ost (pv 0) (pe_call GC hr (by rfl) CP.m CP.k CP.b .nil pass0 (pa_cons (pv 2) pa_nil))) (pss_one (ps_ost (pv 0) (pe_call GC hr (by rfl) CP.m CP.k CP.b .nil pass0 (pa_cons (pv 3) pa_nil))))), ?_⟩
    refine ⟨_, rfl, _, rfl, .inr ⟨_, rfl⟩, _, rfl, a, C, rfl, T, h1, .inl ⟨ha, fun dx hdx hne => ?_⟩⟩
    have e1 : upd (upd H dx (exd dx [("what", .str "letters")])) a (exo a C (some dx)) a = some (exo a C (some dx)) := upd_same
    have e2 : upd (upd H dx (exd dx [("what", .str "letters")])) a (exo a C (some dx)) dx = some (exd dx [("what", .str "letters")]) := by rw [upd_ne hne]; exact upd_same
    have k1 : ∀ b o, b ≠ a → H b = some o → upd (upd H dx (exd dx [("what", .str "letters")])) a (exo a C (some dx)) b = some o := fun b o hb e => by
      rw [upd_ne hb, upd_ne (ne_of_none e hdx)]
      exact e
    generalize upd (upd H dx (exd dx [("what", .str "letters")])) a (exo a C (some dx)) = H1 at e1 e2 k1 ⊢
    refine ⟨_, rfl, _, rfl, .inl ⟨_, rfl⟩, _, rfl, a, C, rfl, T, h2, .inr ⟨dx, _, e1, e2, by show 1 ≤ 900; decide, ?_⟩⟩
    refine ⟨_, rfl, _, rfl, .inl ⟨_, rfl⟩, _, rfl, a, C, rfl, T, h3, .inr ⟨dx, _, (by rw [upd_ne hne.symm]; exact e1), upd_same, by show 2 ≤ 900; decide, ?_⟩⟩
    refine k _ dx hdx hne (by rw [upd_ne hne.symm, upd_ne hne.symm]; exact e1) upd_same fun b o hb e => ?_
    have nb := ne_of_none e hdx
    rw [upd_ne nb, upd_ne nb]
    exact k1 b o hb e
end
end Ask

/-! tuple(list), frozen: its object has no dict, so that its methods can be called -/
namespace Ask
open PySem L2 PySem.Spec PyProof.Rows
section
variable {X : Cx}
theorem call_tuple_frz : CallR X (.type "tuple") (fun xs H Q => ∃ p ys, xs = [.ref p] ∧ SqL X.K H p ys ∧ ∀ (l : Addr) (o : Obj), H l = none → o.dict = none → Q (.ref l) (upd H l (.frz o (.tup ys)))) := by
  intro pins s σ H xs us Q I r h
  obtain ⟨p, ys, rfl, hq, q⟩ := h
  obtain ⟨u, rfl, rx⟩ := vals1 r
  cases rx
  obtain ⟨its, r', pl, hz⟩ := I.list hq
  have hlen := r'.length
  refine call_tuple_list pl.isList (fun h' kp => ?_) (by simp only [List.size_toArray] <;> omega)
  have I1 : Inv X pins σ H { s with heap := h' } := I.kept (t' := s.toks) kp
  have I2 : Inv X pins σ (upd H h'.objs.size (.frz { cls := .type "tuple", data := .seq its.toArray } (.tup ys))) { s with heap := h'.push { cls := .type "tuple", data := .seq its.toArray } } :=
    I1.laid (t' := s.toks) (fun b o e => Heap.get?_push_of_some _ e) (Nat.le_refl _) (show ObjOk X.prog X.w _ _ _ (.frz _ (.tup ys)) from ⟨Heap.get?_push_size _ rfl, hz, its, r', IsTup.new _ _⟩)
  exact ⟨.ref h'.objs.size, _, I2, rfl, q _ _ (I1.hok.fresh (Nat.le_refl _)) rfl⟩
def tBMT (r : V → List V → Hp → VK → Prop) (to : TE) (t : TA) : TE := fun σ H Q => to σ H fun x H1 => (∃ (p : Addr) (o : Obj) (xs : List V), x = .ref p ∧ H1 p = some (.frz o (.tup xs)) ∧ o.dict = none) ∧ t σ H1 fun xs H2 => r x xs H2 Q
variable {o e : Expr} {es : List Expr} {to : TE} {t : TA} {name : Str} {apos cpos : Pos} {id : String} {r : V → List V → Hp → VK → Prop}
theorem pe_bmT (slot : Slot "tuple" name id) (hty : typeOf (.builtin id) = pure (.type "method_descriptor")) (hm : MtR X id r) (ho : PE X o to) (ha : PA X (e :: es) t)
    (hbase : attributeBase o name X.env (eval o X.env) = eval o X.env := by rfl)
    (hfew : ((backTo cpos (starEach (e :: es) X.env)).all (fun x => !x.1) && (backToKw cpos (keywordEach [] X.env)).all (fun x => x.1.isSome)
      && decide ((e :: es).length + ([] : List Keyword).length + (if ([] : List Keyword).isEmpty then 0 else 1) < 30)) = true := by rfl)
    (hline : (apos.endLine == cpos.line) = true := by rfl) (hs : starEach (e :: es) X.env = (false, eval e X.env) :: starEach es X.env := by rfl) (hplain : (backTo cpos (starEach es X.env)).any (·.1) = false := by rfl) :
    PE X (.Call (.Attribute o name apos) (e :: es) [] cpos) (tBMT r to t) := by
  refine ⟨fun pins s σ H Q I h => ?_⟩
  refine wpAny_Call_method_late hbase hfew hline rfl (thn (ho.run pins s σ H _ I h) fun v s1 ⟨x, H1, I1, r1, ⟨p, ob, xs, ex, hp, hd⟩, q1⟩ => ?_)
  subst ex
  obtain rfl : v = Value.ref p := r1
  obtain ⟨its, rv, pl, _⟩ := I1.tuple (.inl (.inr ⟨ob, hp⟩))
  have ho := (show ObjOk X.prog X.w H1 s1.heap p (.frz ob (.tup xs)) from I1.hok p _ hp).1
  refine ⟨"tuple", id, PySem.F.plainAttrs_tuple, slot, hty, ?_, fun a ea => ?_, ?_⟩
  · obtain ⟨o1, h1, h2, _⟩ := pl
    exact ⟨o1, h1, h2⟩
  · cases ea
    exact ⟨ob, ho, hd⟩
  · have hA := ha.run cpos pins s1 σ H1 _ I1 q1
    rw [hs] at hA ⊢
    refine Calls.callWith_builtin (by show (false || (backTo cpos (starEach es X.env)).any (·.1)) = false; rw [hplain] <;> rfl) (Calls.evalArgs_plain ?_)
    exact thn hA fun us s2 ⟨vs, H2, I2, r2, q2⟩ => hm pins s2 σ H2 (.ref p) vs _ us Q I2 rfl r2 q2
end
end Ask

namespace Ask
open PySem L2
/-- an own error class of the text, its __init__ at f -/
structure ErrAt (K : PySem.W.Frag) (mg : Str → Option Value) (x : Str) (C f : Addr) (fd : FuncData) (ps : List Str) : Prop where
  m : mg x = some (.ref C)
  o : OexC K C
  i : PySem.W.findIn K (.ref C) "__init__" = some (some (.ref f))
  t : PySem.W.typeIn K (.ref f) = some (.type "function")
  b : Binds K fd ps []
  xf : XfC K C
theorem err_made {C : Addr} {ok : List V → Prop} {fs : List V → List (Str × V)} {H0 H1 : Hp} {ws : List V} {Qx : XK} (s : Same H0 H1) (hok : ok ws) (hl : ws.length ≤ 1000)
    (k : ∀ (H' : Hp) (d : Addr), Same H0 H' → H' d = some (.xd (fs ws)) → Qx (.ref C) (some d) H') :
    ws.length ≤ 1000 ∧ ∀ a, H1 a = none → spErr C ok fs (.ref a :: (ws ++ [])) (upd H1 a (exo a C none))
      (fun v H2 => v = .non ∧ ∃ (d : Addr) (fs' : List (Str × V)), H2 a = some (exo a C (some d)) ∧ H2 d = some (exd d fs') ∧ H1 d = none ∧ Qx (.ref C) (some d) (upd (del H2 a) d (.xd fs'))) (fun _ _ _ => False) := by
  refine ⟨hl, fun a ha => ⟨a, ws, by rw [List.append_nil], hok, upd_same, fun H' dx hdx hne e1 e2 kk => ?_⟩⟩
  have h1 : H1 dx = none := by
    rw [upd_ne hne] at hdx
    exact hdx
  refine ⟨rfl, dx, _, e1, e2, h1, k _ dx (fun b o e => ?_) upd_same⟩
  have e' := s b o e
  have nb : b ≠ a := ne_of_none e' ha
  rw [upd_ne (ne_of_none e' h1), del_ne nb]
  exact kk b o nb (by rw [upd_ne nb]; exact e')
theorem for_enum {K : PySem.W.Frag} {ta : TA} {g : TG} {tb u : TS} {D : Ends} {σ : L2.St} {H : Hp} {J : It} {n : Nat} {G : Hp → Prop} {Y : Nat → Hp → V → Hp → Prop} (f : ∀ R : It → Hp → Prop, R J H → iEnumA K ta σ H R)
    (wk : Walk J n G Y) (Pv : Nat → L2.St → Hp → Prop) (h0 : Pv 0 σ H) (hG : ∀ i σ H, i ≤ n → Pv i σ H → G H)
    (hs : ∀ i x σ H H', i < n → Pv i σ H → Y i H x H' → g x σ H' fun σ2 H2 => tb { D with nx := Pv (i + 1), ct := Pv (i + 1), bk := u D } σ2 H2) (hd : ∀ σ H, Pv n σ H → u D σ H) :
    tSeq (tFor (iEnumA K ta) g tb) u D σ H := by
  delta tSeq tFor
  exact f _ (for_it (D := { D with nx := u D }) wk Pv h0 hG hs hd)
theorem seqT_same {K : PySem.W.Frag} {H H' : Hp} {a : Addr} {xs : List V} (e : Same H H') (h : SqT K H a xs) : SqT K H' a xs := by
  rcases h with (h | ⟨o, h⟩) | h
  · exact .inl (.inl (e _ _ h))
  · exact .inl (.inr ⟨o, e _ _ h⟩)
  · exact .inr h
section
variable {P : Program} {w : World} {K : PySem.W.Frag} {mg : Str → Option Value} {base : Heap}
/-! ### Letters(words) -/
def spLet (K : PySem.W.Frag) (CL CB CM : Addr) : Sp := fun vs H Q E => ∃ (p dx a : Addr) (xs : List V) (ds : List PyData) (N : Addr → Prop), vs = [.ref p, .ref a] ∧ H p = some (.ins CL dx []) ∧ (SqL K H a xs ∨ SqT K H a xs) ∧ ItL N H xs ds ∧ xs.length ≤ 100 ∧
  (∀ (H' : Hp) (d : Addr) (i : Int), res ds = .tuple [.str "letters", .int i] → Same H H' → H' d = some (.xd (fsBad [.int i])) → E (.ref CB) (some d) H') ∧
  (∀ (H' : Hp) (d : Addr), 12 < ds.length → Same H H' → H' d = some (.xd (fsMany [.str "letters", .int (ds.length : Nat), .int 12])) → E (.ref CM) (some d) H') ∧
  (∀ (H' : Hp) (t : Addr) (o : Obj), res ds = .none → o.dict = none → H' p = some (.ins CL dx [("words", .ref t)]) → H' t = some (.frz o (.tup xs)) → (∀ b o, b ≠ p → H b = some o → H' b = some o) → Q .non H')
abbrev s_Letters_init : Stmt := inClass (top 23) 0
theorem sc_Letters_init : FnScope ["self", "words", "many", "kept", "index", "word"] ["self", "words"] (defScope s_Letters_init) := ⟨rfl, rfl, rfl, by decide +kernel, rfl, by decide +kernel, by decide +kernel⟩
theorem ok_letInit {f fI fB fM CL CB CM : Addr} {fd fdI fdB fdM : FuncData} (F : Fun K "__init__" "Letters.__init__" s_Letters_init f fd) (T : Blt mg) (C : Gv K mg) (hC : Cls K CL) (hA : NoAttr K CL "words")
    (GI : FnOk P w K mg base CX0 2 fI fdI ["value"] (spIsL K)) (I : At K mg "is_letter" fI fdI ["value"])
    (FB : FnOk P w K mg base CX0 2 fB fdB ["self", "index"] (spErr CB okBad fsBad)) (EB : ErrAt K mg "BadLetters" CB fB fdB ["self", "index"])
    (FM : FnOk P w K mg base CX0 2 fM fdM ["self", "what", "many", "most"] (spErr CM okMany fsMany)) (EM : ErrAt K mg "TooMany" CM fM fdM ["self", "what", "many", "most"]) :
    FnOk P w K mg base (L2.CX P w) 4 f fd ["self", "words"] (spLet K CL CB CM) := by
  refine F.okX sc_Letters_init (fun vs H Q E h => ?_) (fun cdv A outer s H vs Q E hr h => ?_)
  · obtain ⟨p, dx, a, xs, ds, N, rfl, _⟩ := h
    rfl
  · obtain ⟨p, dx, a, xs, ds, N, rfl, hp, hS, hI, hn, kB, kM, kQ⟩ := h
    have hu65 : A.units + 3 + 65 < cLine := by have := hr.un; have e : (A.deeper (PyProof.Rows.envOfC (Str.ofString "Letters.__init__") (defScope s_Letters_init) s.heap.objs.size f cdv)).units = A.units + 3 := rfl; omega
    have hr2 := hr.mono (j := 2) (by decide)
    refine ⟨_, (pss_cons (ps_set (i := 2) sc_Letters_init.nd rfl (Or.inl rfl) (pe_callB call_len_seq (by rfl) T.n_len (by decide +kernel) (pa_cons (pv 1) pa_nil)))
      (pss_cons (ps_if (pt_cmpR op_gt (pv 2) (pe_gv rfl C.mostL) (nomark _)) (pss_one (ps_raise rfl (takes_of rfl rfl rfl rfl) (pmk_oex EM.o EM.i EM.t FM hr EM.b .nil pass0 (by rfl) EM.m (pa_cons pe_str (pa_cons (pv 2) (pa_cons (pe_gv rfl C.mostL) pa_nil)))))) pss_nil)
      (pss_cons (ps_if (pt_cmpR op_eq (pv 2) pe_int (nomark _)) (pss_one (ps_raise rfl (takes_of rfl rfl rfl rfl) (pmk_oex EB.o EB.i EB.t FB hr EB.b .nil pass0 (by rfl) EB.m (pa_cons pe_int pa_nil)))) pss_nil)
      (pss_cons (ps_set (i := 3) sc_Letters_init.nd rfl (Or.inl rfl) (pe_lst pa_nil))
      (pss_cons (ps_for (passes_of rfl) rfl (pi_enumA (by rfl) T.n_enumerate (pa_cons (pv 1) pa_nil)) (pg_tup rfl (pgs_cons (pg_name (i := 4) sc_Letters_init.nd rfl (Or.inl rfl)) (pgs_cons (pg_name (i := 5) sc_Letters_init.nd rfl (Or.inl rfl)) pgs_nil))) (pss_cons (ps_if (PW.pt (pw_or (pt_not (pt_val (pe_call GI hr2 (by rfl) I.m I.k I.b .nil pass0 (pa_cons (pv 5) pa_nil)))) (pw_or1 (pt_cmpR (op_inD hu65) (pv 5) (pv 3) rfl)))) (pss_one (ps_raise rfl (takes_of rfl rfl rfl rfl) (pmk_oex EB.o EB.i EB.t FB hr EB.b .nil pass0 (by rfl) EB.m (pa_cons (pv 4) pa_nil)))) pss_nil)
      (pss_one (ps_expr (pe_bm PySem.F.plainAttrs_list PySem.F.slot_list_append PySem.F.type_list_append mt_append (pv 3) (pa_cons (pv 5) pa_nil))))))
      (pss_one (ps_fld (pv 0) (pe_callTy call_tuple_frz (by rfl) T.n_tuple (by decide +kernel) (pa_cons (pv 3) pa_nil)) rfl))))))), ?_⟩
    have hlen := hI.len
    have z1 : (1000 : Nat) ≤ sizeLine := by decide
    have fit := hI.fit
    refine ⟨_, rfl, a, xs, rfl, hS, _, rfl, _, _, rfl, rfl, _, rfl, ite2 (fun h1 => ?_) (fun h1 => ?_)⟩
    · have h1 : (12 : Int) < (xs.length : Nat) := of_decide_eq_true h1
      refine ⟨_, rfl, err_made (Same.refl H) ⟨_, rfl⟩ (by show 3 ≤ 1000; decide) (fun H' d s' e => kM H' d (by omega) s' ?_)⟩
      rw [← hlen]
      exact e
    have h1 : ¬ 12 < ds.length := fun q => h1 (decide_eq_true (by omega))
    refine ⟨_, rfl, rfl, _, rfl, ite2 (fun h2 => ?_) (fun h2 => ?_)⟩
    · have h2 : V.int ((xs.length : Nat) : Int) = V.int 0 := of_decide_eq_true h2
      injection h2 with h2
      exact err_made (Same.refl H) ⟨_, rfl⟩ (by show 1 ≤ 1000; decide) (fun H' d s' e => kB H' d 0 (res_none (by omega)) s' e)
    have h2 : 0 < ds.length := by
      have : ¬ ((xs.length : Nat) : Int) = 0 := fun q => h2 (decide_eq_true (congrArg V.int q))
      omega
    refine ⟨Nat.zero_le _, fun L hL => ?_⟩
    have s1 := Ask.Same.made1 (o := .lst []) (Same.refl H) hL
    have hL1 : upd H L (.lst []) L = some (.lst (xs.take 0)) := upd_same
    generalize upd H L (.lst []) = H1 at s1 hL1 ⊢
    obtain ⟨J, G, wk, hG, fits⟩ : ∃ (J : It) (G : Hp → Prop), Walk J xs.length G (YPair (fun i => some (.int (i : Nat))) (fun i => xs[i]?)) ∧ (∀ H', Same H H' → G H') ∧
        ∀ (R : It → Hp → Prop), R J H1 → iEnumA K (tCons (tVar 1) tNil) [some (.ref p), some (.ref a), some (.int (xs.length : Nat)), some (.ref L), none, none] H1 R := by
      rcases hS with hS | hS
      · exact ⟨Ite K a, _, walk_enum, fun H' s' => s'.seq hS, fun R r => ⟨_, rfl, a, xs, rfl, .inl ⟨s1.seq hS, r⟩⟩⟩
      · exact ⟨IteT K a, _, walk_enumT, fun H' s' => seqT_same s' hS, fun R r => ⟨_, rfl, a, xs, rfl, .inr ⟨seqT_same s1 hS, r⟩⟩⟩
    refine for_enum fits wk (fun i σ' H' => ∃ o4 o5 : Option V, σ' = [some (.ref p), some (.ref a), some (.int (xs.length : Nat)), some (.ref L), o4, o5] ∧ Same H H' ∧ H' L = some (.lst (xs.take i)) ∧ ∀ j < i, badAt ds j = false)
      ⟨none, none, rfl, s1, hL1, fun j hj => absurd hj (Nat.not_lt_zero _)⟩ (fun i σ' H' _ ⟨_, _, _, s', _⟩ => hG H' s') ?_ ?_
    · rintro i x σ' H2 H3 hi ⟨o4, o5, rfl, s2, hL2, hno⟩ ⟨t, x0, y0, rfl, ht, rfl, ex, ey⟩
      cases ex
      obtain ⟨v, d, hv, hd, hvd⟩ := hI.get i hi
      replace ey : xs[i]? = some y0 := ey
      obtain rfl : v = y0 := Option.some.inj (hv.symm.trans ey)
      clear ey
      have s3 := Ask.Same.made1 (o := .tup [.int (i : Nat), v]) s2 ht
      have hL3 : upd H2 t (.tup [.int (i : Nat), v]) L = some (.lst (xs.take i)) := by rw [upd_ne (ne_of_none hL2 ht)]; exact hL2
      have ht3 : upd H2 t (.tup [.int (i : Nat), v]) t = some (.tup [.int (i : Nat), v]) := upd_same
      generalize upd H2 t (.tup [.int (i : Nat), v]) = H4 at s3 hL3 ht3 ⊢
      have e0 : badAt ds i = (!isL d || (ds.take i).any fun z => PyData.eqv z d) := by
        unfold badAt
        rw [hd]
      have bad : ∀ H5, Same H H5 → badAt ds i = true → tMkO CB (spErr CB okBad fsBad) [] (tCons (tVar 4) tNil) [some (.ref p), some (.ref a), some (.int (xs.length : Nat)), some (.ref L), some (.int (i : Nat)), some v] H5 fun cls d H' => E cls d H' := fun H5 s5 q =>
        ⟨_, rfl, err_made s5 ⟨_, rfl⟩ (by show 1 ≤ 1000; decide) (fun H' d s' e => kB H' d i (res_at h1 (by omega) q hno) s' e)⟩
      refine ⟨t, _, rfl, SqT.of ht3, rfl, _, _, rfl, _, _, rfl, rfl, ?_⟩
      have hvd4 := hvd.same s3
      refine ⟨_, rfl, v, d, rfl, hvd4.dp, hvd4.itm, fun H5 s5 => ⟨_, rfl, ?_⟩⟩
      have s35 := s3.trans s5
      have hL5 := s5 _ _ hL3
      refine ite2 (fun q => ?_) (fun q => ?_)
      · exact iteT (bad H5 s35 (by rw [e0]; have q : (!isL d) = true := q; rw [q]; rfl))
      · have q : (!isL d) = false := (Bool.not_eq_true _).mp q
        have hT := (hI.mp fun v d h => h.same s35).take i
        refine ⟨_, rfl, _, rfl, d, ds.take i, (hvd.same s35).dp, .lst (SqL.of hL5) hT.dp, (itm_fit hvd.itm).shaped, hT.fit.shapedL, _, rfl, ?_⟩
        have e1 : badAt ds i = (ds.take i).any fun z => PyData.eqv z d := by rw [e0, q, Bool.false_or]
        refine ite2 (fun q => bad H5 s35 (by rw [e1]; exact q)) (fun q => ?_)
        have q : badAt ds i = false := by rw [e1]; exact (Bool.not_eq_true _).mp q
        refine ⟨_, rfl, .inl ⟨rfl, _, SqL.of hL5⟩, _, rfl, L, _, _, rfl, rfl, hL5, ?_, ?_⟩
        · rw [List.length_take]
          omega
        · refine ⟨_, _, rfl, Ask.Same.upd_new s35 hL, ?_, fun j hj => ?_⟩
          · rw [upd_same, List.take_add_one, hv]
            rfl
          · rcases Nat.lt_succ_iff_lt_or_eq.mp hj with hj | rfl
            · exact hno j hj
            · exact q
    · rintro σ' H2 ⟨o4, o5, rfl, s2, hL2, hno⟩
      rw [List.take_length] at hL2
      refine ⟨_, rfl, L, xs, rfl, SqL.of hL2, fun t ob ht hob => ?_⟩
      have npt : p ≠ t := ne_of_none (s2 _ _ hp) ht
      refine ⟨_, rfl, p, CL, dx, [], rfl, (by rw [upd_ne npt]; exact s2 _ _ hp), hC, hA, (by show 0 < 1000; decide), ?_⟩
      refine kQ _ t ob (res_good h1 h2 (by rw [← hlen]; exact hno)) hob upd_same (by rw [upd_ne npt.symm]; exact upd_same) fun b o hb e => ?_
      have e' := s2 _ _ e
      rw [upd_ne hb, upd_ne (ne_of_none e' ht)]
      exact e'
end
end Ask

/-! a loop over a list or a tuple, a pair that is a list or a tuple -/
namespace Ask
open PySem L2 PySem.Spec PyProof.Rows
theorem pg_or {X : Cx} {tg : Expr} {g1 g2 : TG} (h1 : PG X tg g1) (h2 : PG X tg g2) : PG X tg (fun v σ H Q => g1 v σ H Q ∨ g2 v σ H Q) :=
  ⟨fun pins s σ H v u Q I r h => h.elim (h1.run pins s σ H v u Q I r) (h2.run pins s σ H v u Q I r)⟩
theorem pi_or {X : Cx} {tg e : Expr} {w1 w2 : TI} (h1 : PI X tg e w1) (h2 : PI X tg e w2) : PI X tg e (fun σ H R => w1 σ H R ∨ w2 σ H R) :=
  ⟨fun pins s σ H R I h => h.elim (h1.run pins s σ H R I) (h2.run pins s σ H R I)⟩
end Ask

namespace Ask
open PySem L2
/-! ### runs, joined: the mirror -/
abbrev Run := Str × Int
def jstep (st : List Run × Option Run) (r : Run) : List Run × Option Run := match st.2 with
  | some l => if l.1 = r.1 then (st.1, some (l.1, l.2 + r.2)) else (st.1 ++ [l], some r)
  | none => (st.1, some r)
def jrun (rs : List Run) : List Run × Option Run := rs.foldl jstep ([], none)
def joinR (rs : List Run) : List Run := (jrun rs).1 ++ (jrun rs).2.toList
theorem jstep_eq {st1 : List Run} {l r : Run} (e : l.1 = r.1) : jstep (st1, some l) r = (st1, some (l.1, l.2 + r.2)) := if_pos e
theorem jstep_ne {st1 : List Run} {l r : Run} (e : ¬ l.1 = r.1) : jstep (st1, some l) r = (st1 ++ [l], some r) := if_neg e
theorem jrun_more {rs : List Run} {i : Nat} {r : Run} (h : rs[i]? = some r) : jrun (rs.take (i + 1)) = jstep (jrun (rs.take i)) r := by
  unfold jrun
  rw [List.take_add_one, h, List.foldl_append]
  rfl
theorem jrun_len (rs : List Run) : (jrun rs).1.length ≤ rs.length := by
  have : ∀ (rs : List Run) (st : List Run × Option Run), (rs.foldl jstep st).1.length ≤ st.1.length + rs.length := by
    intro rs
    induction rs with
    | nil => intro st; simp
    | cons r rs ih =>
      intro st
      rw [List.foldl_cons]
      refine Nat.le_trans (ih _) ?_
      have : (jstep st r).1.length ≤ st.1.length + 1 := by
        unfold jstep
        split
        · split
          · exact Nat.le_succ _
          · rw [List.length_append]; exact Nat.le_refl _
        · exact Nat.le_succ _
      rw [List.length_cons]
      omega
  have := this rs ([], none)
  simpa [jrun] using this
/-- a run as a value: a list or a tuple of a text and a number -/
def RunV (K : PySem.W.Frag) (H : Hp) (v : V) (r : Run) : Prop := ∃ b, v = .ref b ∧ (SqL K H b [.str r.1, .int r.2] ∨ SqT K H b [.str r.1, .int r.2])
def RunsV (K : PySem.W.Frag) (H : Hp) (xs : List V) (rs : List Run) : Prop := xs.length = rs.length ∧ ∀ (i : Nat) (v : V) (r : Run), xs[i]? = some v → rs[i]? = some r → RunV K H v r
/-- made pairs -/
def PairsV (H : Hp) (xs : List V) (rs : List Run) : Prop := xs.length = rs.length ∧ ∀ (i : Nat) (v : V) (r : Run), xs[i]? = some v → rs[i]? = some r → ∃ b, v = .ref b ∧ H b = some (.tup [.str r.1, .int r.2])
theorem RunV.same {K : PySem.W.Frag} {H H' : Hp} {v : V} {r : Run} (h : RunV K H v r) (s : Same H H') : RunV K H' v r := by
  obtain ⟨b, e, h | h⟩ := h
  · exact ⟨b, e, .inl (s.seq h)⟩
  · exact ⟨b, e, .inr (seqT_same s h)⟩
theorem PairsV.same {H H' : Hp} {xs : List V} {rs : List Run} (h : PairsV H xs rs) (s : Same H H') : PairsV H' xs rs :=
  ⟨h.1, fun i v r h1 h2 => let ⟨b, e, h3⟩ := h.2 i v r h1 h2; ⟨b, e, s _ _ h3⟩⟩
theorem PairsV.nil {H : Hp} : PairsV H [] [] := ⟨rfl, fun i v r h _ => by simp at h⟩
theorem PairsV.app {H : Hp} {xs : List V} {rs : List Run} {b : Addr} {r : Run} (h : PairsV H xs rs) (hb : H b = some (.tup [.str r.1, .int r.2])) : PairsV H (xs ++ [.ref b]) (rs ++ [r]) := by
  refine ⟨by rw [List.length_append, List.length_append, h.1]; rfl, fun i v r' h1 h2 => ?_⟩
  by_cases hi : i < xs.length
  · rw [List.getElem?_append_left hi] at h1
    rw [List.getElem?_append_left (by rw [← h.1]; exact hi)] at h2
    exact h.2 i v r' h1 h2
  · rw [List.getElem?_append_right (by omega)] at h1
    rw [List.getElem?_append_right (by rw [← h.1]; omega), ← h.1] at h2
    have e : i - xs.length = 0 := by
      have := (List.getElem?_eq_some_iff.mp h1).1
      have : i - xs.length < 1 := this
      omega
    rw [e] at h1 h2
    cases h1
    cases h2
    exact ⟨b, rfl, hb⟩
/-- PairsV stands where only what is no pair of it is written -/
theorem PairsV.mut {H : Hp} {xs ys : List V} {rs : List Run} {L : Addr} {o : HO} (h : PairsV H xs rs) (hL : H L = some (.lst ys)) : PairsV (upd H L o) xs rs :=
  ⟨h.1, fun i v r h1 h2 => let ⟨b, e, h3⟩ := h.2 i v r h1 h2; ⟨b, e, by rw [upd_ne (ne_of h3 hL (by intro z; cases z))]; exact h3⟩⟩
theorem for_any {wi : TI} {g : TG} {tb u : TS} {D : Ends} {σ : L2.St} {H : Hp} {J : It} {n : Nat} {G : Hp → Prop} {Y : Nat → Hp → V → Hp → Prop} (f : ∀ R : It → Hp → Prop, R J H → wi σ H R)
    (wk : Walk J n G Y) (Pv : Nat → L2.St → Hp → Prop) (h0 : Pv 0 σ H) (hG : ∀ i σ H, i ≤ n → Pv i σ H → G H)
    (hs : ∀ i x σ H H', i < n → Pv i σ H → Y i H x H' → g x σ H' fun σ2 H2 => tb { D with nx := Pv (i + 1), ct := Pv (i + 1), bk := u D } σ2 H2) (hd : ∀ σ H, Pv n σ H → u D σ H) :
    tSeq (tFor wi g tb) u D σ H := by
  delta tSeq tFor
  exact f _ (for_it (D := { D with nx := u D }) wk Pv h0 hG hs hd)
def lastV : Option Run → V
  | some r => .str r.1
  | none => .non
def totV : Option Run → V
  | some r => .int r.2
  | none => .int 0
section
variable {P : Program} {w : World} {K : PySem.W.Frag} {mg : Str → Option Value} {base : Heap}
def spJoined (K : PySem.W.Frag) : Sp := fun vs H Q _ => ∃ (a : Addr) (xs : List V) (rs : List Run), vs = [.ref a] ∧ (SqL K H a xs ∨ SqT K H a xs) ∧ RunsV K H xs rs ∧ rs.length ≤ 10000 ∧
  ∀ (H' : Hp) (t : Addr) (ks : List V), Same H H' → H' t = some (.tup ks) → PairsV H' ks (joinR rs) → Q (.ref t) H'
abbrev s_joined : Stmt := top 25
theorem sc_joined : FnScope ["runs", "kept", "last", "total", "letter", "count"] ["runs"] (defScope s_joined) := ⟨rfl, rfl, rfl, by decide +kernel, rfl, by decide +kernel, by decide +kernel⟩
theorem ok_joined {f : Addr} {fd : FuncData} (F : Fun K "joined" "joined" s_joined f fd) (T : Blt mg) : FnOk P w K mg base CX0 1 f fd ["runs"] (spJoined K) := by
  refine F.ok sc_joined (fun vs H Q E h => ?_) (fun cdv A outer s H vs Q E hr h => ?_)
  · obtain ⟨a, xs, rs, rfl, _⟩ := h
    rfl
  · obtain ⟨a, xs, rs, rfl, hS, hR, hn, k⟩ := h
    refine ⟨_, (pss_cons (ps_set (i := 1) sc_joined.nd rfl (Or.inl rfl) (pe_lst pa_nil))
      (pss_cons (ps_asg (pe_tup (pa_cons pe_non (pa_cons pe_int pa_nil))) (pg_tup rfl (pgs_cons (pg_name (i := 2) sc_joined.nd rfl (Or.inl rfl)) (pgs_cons (pg_name (i := 3) sc_joined.nd rfl (Or.inl rfl)) pgs_nil))))
      (pss_cons (ps_for PassesOwn.never rfl (pi_or (pi_list (pv 0)) (pi_tup (pv 0))) (pg_or (pg_tup rfl (pgs_cons (pg_name (i := 4) sc_joined.nd rfl (Or.inl rfl)) (pgs_cons (pg_name (i := 5) sc_joined.nd rfl (Or.inl rfl)) pgs_nil))) (pg_lst rfl (pgs_cons (pg_name (i := 4) sc_joined.nd rfl (Or.inl rfl)) (pgs_cons (pg_name (i := 5) sc_joined.nd rfl (Or.inl rfl)) pgs_nil)))) (pss_one (ps_if (pt_cmpR op_eq (pv 4) (pv 2) (nomark _)) (pss_one (ps_set (i := 3) sc_joined.nd rfl (Or.inl rfl) (pe_op op_add (pv 3) (pv 5)))) (pss_cons (ps_if (pt_cmpR op_notN (pv 2) pe_non (nomark _)) (pss_one (ps_expr (pe_bm PySem.F.plainAttrs_list PySem.F.slot_list_append PySem.F.type_list_append mt_append (pv 1) (pa_cons (pe_tup (pa_cons (pv 2) (pa_cons (pv 3) pa_nil))) pa_nil)))) pss_nil)
      (pss_one (ps_par (i := 2) (j := 3) rfl sc_joined.nd rfl rfl (by decide) rfl rfl (pa_cons (pv 4) (pa_cons (pv 5) pa_nil)) (by rfl)))))))
      (pss_cons (ps_if (pt_cmpR op_notN (pv 2) pe_non (nomark _)) (pss_one (ps_expr (pe_bm PySem.F.plainAttrs_list PySem.F.slot_list_append PySem.F.type_list_append mt_append (pv 1) (pa_cons (pe_tup (pa_cons (pv 2) (pa_cons (pv 3) pa_nil))) pa_nil)))) pss_nil)
      (pss_one (ps_ret (pe_callTy call_tuple_of (by rfl) T.n_tuple (by decide +kernel) (pa_cons (pv 1) pa_nil)))))))), ?_⟩
    have z1 : (100000 : Nat) ≤ sizeLine := by decide
    -- kept, last, total
    refine ⟨Nat.zero_le _, fun L hL => ?_⟩
    have s1 := Ask.Same.made1 (o := .lst []) (Same.refl H) hL
    have hL1 : upd H L (.lst []) L = some (.lst []) := upd_same
    generalize upd H L (.lst []) = H1 at s1 hL1 ⊢
    refine ⟨by show 2 ≤ sizeLine; decide, fun t ht => ⟨t, _, rfl, SqT.of upd_same, rfl, _, _, rfl, _, _, rfl, rfl, ?_⟩⟩
    have s2 := Ask.Same.made1 (o := .tup [.non, .int 0]) s1 ht
    have hL2 : upd H1 t (.tup [.non, .int 0]) L = some (.lst []) := by rw [upd_ne (ne_of_none hL1 ht)]; exact hL1
    generalize upd H1 t (.tup [.non, .int 0]) = H2 at s2 hL2 ⊢
    clear hL1 s1 ht
    -- the loop
    obtain ⟨J, G, wk, hG, fits⟩ : ∃ (J : It) (G : Hp → Prop), Walk J xs.length G (YAt xs) ∧ (∀ H', Same H H' → G H') ∧
        ∀ (R : It → Hp → Prop), R J H2 → (iList K (tVar 0) [some (.ref a), some (.ref L), some .non, some (.int 0), none, none] H2 R ∨ iTup K (tVar 0) [some (.ref a), some (.ref L), some .non, some (.int 0), none, none] H2 R) := by
      rcases hS with hS | hS
      · exact ⟨Itl K a, _, walk_list, fun H' s' => s'.seq hS, fun R r => .inl ⟨_, rfl, a, rfl, ⟨_, s2.seq hS⟩, r⟩⟩
      · exact ⟨Itt K a, _, walk_tup, fun H' s' => seqT_same s' hS, fun R r => .inr ⟨_, rfl, a, rfl, ⟨_, seqT_same s2 hS⟩, r⟩⟩
    try dsimp only
    refine for_any fits wk (fun i σ' H' => ∃ o4 o5 : Option V, σ' = [some (.ref a), some (.ref L), some (lastV (jrun (rs.take i)).2), some (totV (jrun (rs.take i)).2), o4, o5] ∧ Same H H' ∧ ∃ ks, H' L = some (.lst ks) ∧ PairsV H' ks (jrun (rs.take i)).1)
      ⟨none, none, rfl, s2, [], hL2, PairsV.nil⟩ (fun i σ' H' _ ⟨_, _, _, s', _⟩ => hG H' s') ?_ ?_
    · rintro i v σ' H3 H4 hi ⟨o4, o5, rfl, s3, ks, hL3, hk⟩ ⟨rfl, hv⟩
      obtain ⟨r, hri⟩ : ∃ r, rs[i]? = some r := ⟨_, List.getElem?_eq_getElem (by rw [← hR.1]; exact hi)⟩
      have step := jrun_more hri
      have hkl : ks.length ≤ 10000 := by
        have e1 := hk.1
        have e2 := jrun_len (rs.take i)
        rw [List.length_take] at e2
        omega
      obtain ⟨b, rfl, hb⟩ := (hR.2 i v _ hv hri).same s3
      generalize jrun (rs.take i) = st at step hk ⊢
      obtain ⟨st1, st2⟩ := st
      rcases hb with hb | hb
      all_goals
        first
          | refine .inr ⟨b, _, rfl, hb, rfl, _, _, rfl, _, _, rfl, rfl, ?_⟩
          | refine .inl ⟨b, _, rfl, hb, rfl, _, _, rfl, _, _, rfl, rfl, ?_⟩
        rcases st2 with _ | l
        · refine ⟨_, rfl, _, rfl, rfl, _, rfl, ?_⟩
          rw [decide_eq_false (show ¬ V.str r.1 = lastV none from fun z => by cases z)]
          refine iteF ?_
          refine ⟨_, rfl, rfl, _, rfl, ?_⟩
          rw [decide_eq_true (show lastV none = V.non from rfl)]
          refine iteF ?_
          refine ⟨_, rfl, _, rfl, _, _, rfl, some (.str r.1), some (.int r.2), ?_, s3, ks, hL3, ?_⟩
          · rw [step]
            rfl
          · rw [step]
            exact hk
        · refine ⟨_, rfl, _, rfl, rfl, _, rfl, ?_⟩
          by_cases e : l.1 = r.1
          · rw [decide_eq_true (show V.str r.1 = lastV (some l) from congrArg V.str e.symm)]
            refine iteT ?_
            refine ⟨_, rfl, _, rfl, _, _, rfl, rfl, some (.str r.1), some (.int r.2), ?_, s3, ks, hL3, ?_⟩
            · rw [step, jstep_eq e]
              rfl
            · rw [step, jstep_eq e]
              exact hk
          · rw [decide_eq_false (show ¬ V.str r.1 = lastV (some l) from fun z => e (V.str.inj z).symm)]
            refine iteF ?_
            refine ⟨_, rfl, rfl, _, rfl, ?_⟩
            rw [decide_eq_false (show ¬ lastV (some l) = V.non from fun z => by cases z)]
            refine iteT ?_
            refine ⟨_, rfl, .inl ⟨rfl, _, SqL.of hL3⟩, _, rfl, _, rfl, by show 2 ≤ sizeLine; decide, fun b2 hb2 => ?_⟩
            have hL4 : upd H4 b2 (.tup [.str l.1, .int l.2]) L = some (.lst ks) := by rw [upd_ne (ne_of_none hL3 hb2)]; exact hL3
            have s4 := Ask.Same.made1 (o := .tup [.str l.1, .int l.2]) s3 hb2
            have k4 := hk.same (Ask.Same.made1 (o := .tup [.str l.1, .int l.2]) (Same.refl H4) hb2)
            have hb4 : upd H4 b2 (.tup [.str l.1, .int l.2]) b2 = some (.tup [.str l.1, .int l.2]) := upd_same
            refine ⟨L, _, _, rfl, rfl, hL4, by omega, ?_⟩
            refine ⟨_, rfl, _, rfl, _, _, rfl, some (.str r.1), some (.int r.2), ?_, Ask.Same.upd_new s4 hL, _, upd_same, ?_⟩
            · rw [step, jstep_ne e]
              rfl
            · rw [step, jstep_ne e]
              exact (k4.app (b := b2) (r := l) hb4).mut hL4
    · rintro σ' H3 ⟨o4, o5, rfl, s3, ks, hL3, hk⟩
      rw [hR.1, List.take_length] at hk ⊢
      have hkl : ks.length ≤ 10000 := by
        have e1 := hk.1
        have e2 := jrun_len rs
        omega
      have ej : joinR rs = (jrun rs).1 ++ (jrun rs).2.toList := rfl
      generalize jrun rs = st at hk ej ⊢
      obtain ⟨st1, st2⟩ := st
      have fin : ∀ (H4 : Hp) (kt : List V), Same H H4 → H4 L = some (.lst kt) → PairsV H4 kt (joinR rs) → tRet (tCB (fun xs H Q => ∃ p ys, xs = [.ref p] ∧ ((SqL K H p ys ∧ ∀ l, H l = none → Q (.ref l) (upd H l (.tup ys))) ∨ (SqT K H p ys ∧ Q (.ref p) H))) (tCons (tVar 1) tNil)) { nx := fun _ H' => Q .non H', rt := Q } [some (.ref a), some (.ref L), some (lastV st2), some (totV st2), o4, o5] H4 :=
        fun H4 kt s4 h4 k4 => ⟨_, rfl, L, kt, rfl, .inl ⟨SqL.of h4, fun t2 ht2 => k _ t2 kt (Ask.Same.made1 s4 ht2) upd_same (k4.same (Ask.Same.made1 (Same.refl H4) ht2))⟩⟩
      rcases st2 with _ | l
      · refine ⟨_, rfl, rfl, _, rfl, ?_⟩
        rw [decide_eq_true (show lastV none = V.non from rfl)]
        refine iteF (fin H3 ks s3 hL3 ?_)
        rw [ej]
        simpa using hk
      · refine ⟨_, rfl, rfl, _, rfl, ?_⟩
        rw [decide_eq_false (show ¬ lastV (some l) = V.non from fun z => by cases z)]
        refine iteT ?_
        refine ⟨_, rfl, .inl ⟨rfl, _, SqL.of hL3⟩, _, rfl, _, rfl, by show 2 ≤ sizeLine; decide, fun b2 hb2 => ?_⟩
        have hL4 : upd H3 b2 (.tup [.str l.1, .int l.2]) L = some (.lst ks) := by rw [upd_ne (ne_of_none hL3 hb2)]; exact hL3
        have s4 := Ask.Same.made1 (o := .tup [.str l.1, .int l.2]) s3 hb2
        have k4 := hk.same (Ask.Same.made1 (o := .tup [.str l.1, .int l.2]) (Same.refl H3) hb2)
        have hb4 : upd H3 b2 (.tup [.str l.1, .int l.2]) b2 = some (.tup [.str l.1, .int l.2]) := upd_same
        refine ⟨L, _, _, rfl, rfl, hL4, by omega, ?_⟩
        refine fin _ _ (Ask.Same.upd_new s4 hL) upd_same ?_
        rw [ej]
        exact (k4.app (b := b2) (r := l) hb4).mut hL4
end
end Ask

namespace Ask
open PySem L2
theorem RunsV.same {K : PySem.W.Frag} {H H' : Hp} {xs : List V} {rs : List Run} (h : RunsV K H xs rs) (s : Same H H') : RunsV K H' xs rs := ⟨h.1, fun i v r h1 h2 => (h.2 i v r h1 h2).same s⟩
theorem PairsV.runs {K : PySem.W.Frag} {H : Hp} {xs : List V} {rs : List Run} (h : PairsV H xs rs) : RunsV K H xs rs := ⟨h.1, fun i v r h1 h2 => let ⟨b, e, h3⟩ := h.2 i v r h1 h2; ⟨b, e, .inr (SqT.of h3)⟩⟩
/-- how many letters runs tell -/
def sizeR (rs : List Run) : Int := (rs.map (·.2)).sum
theorem ret_cb {r : List V → Hp → VK → Prop} {t : TE} {D : Ends} {σ : L2.St} {H : Hp} (h : t σ H fun x H1 => r [x] H1 D.rt) : tRet (tCB r (tCons t tNil)) D σ H := h
theorem lc_any {wi : TI} {g : TG} {tt : TT} {te : TE} {vs : List Nat} {σ : L2.St} {H : Hp} {Q : VK} {J : It} {n : Nat} {G : Hp → Prop} {Y : Nat → Hp → V → Hp → Prop} (f : ∀ R : It → Hp → Prop, R J H → wi σ H R) (wk : Walk J n G Y)
    (h : ∀ D, H D = none → ∃ Pv : Nat → Hp → Prop, Pv 0 (upd H D (.lst [])) ∧ (∀ i H, i ≤ n → Pv i H → G H) ∧
      (∀ i x H H', i < n → Pv i H → Y i H x H' → g x (wipe σ vs) H' fun σ2 H2 => wipe σ2 vs = wipe σ vs ∧ tt σ2 H2 fun b H3 =>
        if b = true then te σ2 H3 fun y H4 => ∃ acc, H4 D = some (.lst acc) ∧ acc.length < sizeLine ∧ Pv (i + 1) (upd H4 D (.lst (acc ++ [y]))) else Pv (i + 1) H3) ∧ (∀ H, Pv n H → Q (.ref D) H)) :
    tLc wi g tt te vs σ H Q := by
  delta tLc
  exact f _ fun D hD => let ⟨Pv, h0, hG, hs, hd⟩ := h D hD; lc_it wk Pv h0 hG hs hd
section
variable {P : Program} {w : World} {K : PySem.W.Frag} {mg : Str → Option Value} {base : Heap}
def spSize (K : PySem.W.Frag) : Sp := fun vs H Q _ => ∃ (a : Addr) (xs : List V) (rs : List Run), vs = [.ref a] ∧ (SqL K H a xs ∨ SqT K H a xs) ∧ RunsV K H xs rs ∧ rs.length ≤ 10000 ∧ ∀ H', Same H H' → Q (.int (sizeR rs)) H'
abbrev s_size_of : Stmt := top 28
theorem sc_size_of : FnScope ["runs", "letter", "count"] ["runs"] (defScope s_size_of) := ⟨rfl, rfl, rfl, by decide +kernel, rfl, by decide +kernel, by decide +kernel⟩
theorem ok_size {f : Addr} {fd : FuncData} (F : Fun K "size_of" "size_of" s_size_of f fd) (nS : mg "sum" = none) : FnOk P w K mg base CX0 1 f fd ["runs"] (spSize K) := by
  refine F.ok sc_size_of (fun vs H Q E h => ?_) (fun cdv A outer s H vs Q E hr h => ?_)
  · obtain ⟨a, xs, rs, rfl, _⟩ := h
    rfl
  · obtain ⟨a, xs, rs, rfl, hS, hR, hn, k⟩ := h
    refine ⟨_, (pss_one (ps_ret (pe_callB (cr_sum rfl) (by rfl) nS (by decide +kernel) (pa_cons (pe_lc (own := [("letter", 1), ("count", 2)]) rfl sc_size_of.nd (pi_or (pi_list (pv 0)) (pi_tup (pv 0))) (blkOk_by (N := ["runs", "letter", "count"]) (sc := defScope s_size_of) (by decide +kernel)) (fun _ _ _ _ _ => (pg_or (show PG _ _ (gTup K 2 _) from pg_tup rfl (pgs_cons (pg_name (i := 1) sc_size_of.nd rfl (Or.inl rfl)) (pgs_cons (pg_name (i := 2) sc_size_of.nd rfl (Or.inl rfl)) pgs_nil))) (show PG _ _ (gLst K 2 _) from pg_lst rfl (pgs_cons (pg_name (i := 1) sc_size_of.nd rfl (Or.inl rfl)) (pgs_cons (pg_name (i := 2) sc_size_of.nd rfl (Or.inl rfl)) pgs_nil))))) (fun _ _ _ _ _ => pts_nil) (fun _ _ _ _ _ => (pv 2))) pa_nil)))), ?_⟩
    have z1 : (100000 : Nat) ≤ sizeLine := by decide
    obtain ⟨J, G, wk, hG, fits⟩ : ∃ (J : It) (G : Hp → Prop), Walk J xs.length G (YAt xs) ∧ (∀ H', Same H H' → G H') ∧
        ∀ (R : It → Hp → Prop), R J H → (iList K (tVar 0) [some (.ref a), none, none] H R ∨ iTup K (tVar 0) [some (.ref a), none, none] H R) := by
      rcases hS with hS | hS
      · exact ⟨Itl K a, _, walk_list, fun H' s' => s'.seq hS, fun R r => .inl ⟨_, rfl, a, rfl, ⟨_, hS⟩, r⟩⟩
      · exact ⟨Itt K a, _, walk_tup, fun H' s' => seqT_same s' hS, fun R r => .inr ⟨_, rfl, a, rfl, ⟨_, hS⟩, r⟩⟩
    refine ret_cb ?_
    refine lc_any (wi := fun σ H R => iList K (tVar 0) σ H R ∨ iTup K (tVar 0) σ H R) fits wk fun L hL => ⟨fun i H' => Same H H' ∧ H' L = some (.lst (((rs.take i).map (·.2)).map V.int)), ⟨Ask.Same.upd_new (Same.refl _) hL, upd_same⟩, fun i H' _ hh => hG H' hh.1, ?_, ?_⟩
    · rintro i v H3 H4 hi ⟨s3, hL3⟩ ⟨rfl, hv⟩
      obtain ⟨r, hri⟩ : ∃ r, rs[i]? = some r := ⟨_, List.getElem?_eq_getElem (by rw [← hR.1]; exact hi)⟩
      obtain ⟨b, rfl, hb⟩ := (hR.2 i v _ hv hri).same s3
      have go : ∀ (o : Option V), ∃ acc, H4 L = some (.lst acc) ∧ acc.length < sizeLine ∧ (Same H (upd H4 L (.lst (acc ++ [.int r.2]))) ∧ upd H4 L (.lst (acc ++ [.int r.2])) L = some (.lst (((rs.take (i + 1)).map (·.2)).map V.int))) := fun _ => by
        refine ⟨_, hL3, ?_, Ask.Same.upd_new s3 hL, ?_⟩
        · rw [List.length_map, List.length_map, List.length_take]
          omega
        · rw [upd_same, List.take_add_one, hri]
          simp only [Option.toList_some, List.map_append, List.map_cons, List.map_nil]
      rcases hb with hb | hb
      · exact .inr ⟨b, _, rfl, hb, rfl, _, _, rfl, _, _, rfl, rfl, rfl, _, rfl, go none⟩
      · exact .inl ⟨b, _, rfl, hb, rfl, _, _, rfl, _, _, rfl, rfl, rfl, _, rfl, go none⟩
    · rintro H3 ⟨s3, hL3⟩
      rw [hR.1, List.take_length] at hL3
      exact ⟨L, _, rfl, SqL.of hL3, k H3 s3⟩
end
end Ask

namespace Ask
open PySem L2
section
variable {P : Program} {w : World} {K : PySem.W.Frag} {mg : Str → Option Value} {base : Heap}
/-! ### is_whole, of any value whose kind is known -/
def spWhole (K : PySem.W.Frag) : Sp := fun vs H Q _ => ∃ (v : V) (t : Value) (b c : Bool), vs = [v] ∧ TyX K H v t ∧ PySem.W.kitOne K t (.type "int") = some b ∧ PySem.W.kitOne K t (.type "bool") = some c ∧ Q (.bl (b && !c)) H
abbrev s_is_whole : Stmt := top 5
theorem sc_is_whole : FnScope ["value"] ["value"] (defScope s_is_whole) := ⟨rfl, rfl, rfl, by decide +kernel, rfl, by decide +kernel, by decide +kernel⟩
theorem ok_whole {f : Addr} {fd : FuncData} (F : Fun K "is_whole" "is_whole" s_is_whole f fd) (T : Blt mg) (nB : mg "bool" = none) : FnOk P w K mg base CX0 1 f fd ["value"] (spWhole K) := by
  refine F.ok sc_is_whole (fun vs H Q E h => ?_) (fun cdv A outer s H vs Q E hr h => ?_)
  · obtain ⟨v, t, b, c, rfl, _⟩ := h
    rfl
  · obtain ⟨v, t, b, c, rfl, ty, h1, h2, k⟩ := h
    refine ⟨_, (pss_one (ps_ret (pe_and (pe_callB call_isi (by rfl) T.n_isinstance (by decide +kernel) (pa_cons (pv 0) (pa_cons (pe_bltn (v := .ty "int") (u := .type "int") rfl T.n_int (by decide +kernel) rfl) pa_nil))) (pe_one (pe_not (pe_callB call_isi (by rfl) T.n_isinstance (by decide +kernel) (pa_cons (pv 0) (pa_cons (pe_bltn (v := .ty "bool") (u := .type "bool") rfl nB (by decide +kernel) rfl) pa_nil)))))))), ?_⟩
    refine ⟨_, rfl, v, _, t, _, b, rfl, .ty _, ty, h1, _, rfl, ite2 (fun h => ?_) (fun h => ?_)⟩
    · have h : b = true := h
      subst h
      exact ⟨_, rfl, v, _, t, _, c, rfl, .ty _, ty, h2, _, rfl, k⟩
    · have h : b = false := (Bool.not_eq_true _).mp h
      subst h
      exact k
/-! ### is_list_of -/
def spListOf (K : PySem.W.Frag) : Sp := fun vs H Q _ => ∃ (v : V) (t : Value) (m : Int), vs = [v, .int m] ∧ TyX K H v t ∧
  ((PySem.W.kitAny K t [.type "list", .type "tuple"] = some false ∧ ∀ H', Same H H' → Q (.bl false) H') ∨
    (PySem.W.kitAny K t [.type "list", .type "tuple"] = some true ∧ ∃ (a : Addr) (xs : List V), v = .ref a ∧ (SqL K H a xs ∨ SqT K H a xs) ∧ ∀ H', Same H H' → Q (.bl (decide ((xs.length : Int) = m))) H'))
abbrev s_is_list_of : Stmt := top 6
theorem sc_is_list_of : FnScope ["value", "many"] ["value", "many"] (defScope s_is_list_of) := ⟨rfl, rfl, rfl, by decide +kernel, rfl, by decide +kernel, by decide +kernel⟩
theorem tyx_same {H H' : Hp} {v : V} {t : Value} (h : TyX K H v t) (s : Same H H') : TyX K H' v t := by
  cases h with
  | base b =>
    cases b with
    | non => exact .base .non
    | bl y => exact .base (.bl y)
    | int i => exact .base (.int i)
    | str y => exact .base (.str y)
    | flt y => exact .base (.flt y)
    | lst e => exact .base (.lst (s _ _ e))
    | frz e => exact .base (.frz (s _ _ e))
    | tup e => exact .base (.tup (s _ _ e))
    | dK e => exact .base (.dK (s _ _ e))
    | dT e => exact .base (.dT (s _ _ e))
    | ins e cl ha hn ht hm => exact .base (.ins (s _ _ e) cl ha hn ht hm)
  | byt b => exact .byt b
  | set e => exact .set (s _ _ e)
  | kList e c => exact .kList e c
  | kTuple e c => exact .kTuple e c
  | kDict e c => exact .kDict e c
  | fTuple e => exact .fTuple (s _ _ e)
  | fDict e => exact .fDict (s _ _ e)
theorem ok_listOf {f : Addr} {fd : FuncData} (F : Fun K "is_list_of" "is_list_of" s_is_list_of f fd) (T : Blt mg) : FnOk P w K mg base CX0 1 f fd ["value", "many"] (spListOf K) := by
  refine F.ok sc_is_list_of (fun vs H Q E h => ?_) (fun cdv A outer s H vs Q E hr h => ?_)
  · obtain ⟨v, t, m, rfl, _⟩ := h
    rfl
  · obtain ⟨v, t, m, rfl, ty, h⟩ := h
    refine ⟨_, (pss_one (ps_ret (pe_and (pe_callB call_isiT (by rfl) T.n_isinstance (by decide +kernel) (pa_cons (pv 0) (pa_cons (pe_tup (pa_cons (pe_bltn (v := .ty "list") (u := .type "list") rfl T.n_list (by decide +kernel) rfl) (pa_cons (pe_bltn (v := .ty "tuple") (u := .type "tuple") rfl T.n_tuple (by decide +kernel) rfl) pa_nil))) pa_nil))) (pe_one (pe_cmpR op_eq (pe_callB call_len_seq (by rfl) T.n_len (by decide +kernel) (pa_cons (pv 0) pa_nil)) (pv 1) (nomark _)))))), ?_⟩
    refine ⟨_, rfl, by show 2 ≤ sizeLine; decide, fun q hq => ?_⟩
    have s1 := Ask.Same.made1 (o := .tup [.ty "list", .ty "tuple"]) (Same.refl H) hq
    have hq1 : upd H q (.tup [.ty "list", .ty "tuple"]) q = some (.tup [.ty "list", .ty "tuple"]) := upd_same
    generalize upd H q (.tup [.ty "list", .ty "tuple"]) = H1 at s1 hq1 ⊢
    rcases h with ⟨ka, k⟩ | ⟨ka, a, xs, rfl, hS, k⟩
    · refine ⟨v, q, _, t, _, false, rfl, hq1, .cons (.ty _) (.cons (.ty _) .nil), tyx_same ty s1, ka, _, rfl, ite2 (fun h => absurd h Bool.false_ne_true) (fun _ => k H1 s1)⟩
    · refine ⟨_, q, _, t, _, true, rfl, hq1, .cons (.ty _) (.cons (.ty _) .nil), tyx_same ty s1, ka, _, rfl, ite2 (fun _ => ?_) (fun h => absurd rfl h)⟩
      have hS1 : SqL K H1 a xs ∨ SqT K H1 a xs := by
        rcases hS with hS | hS
        · exact .inl (s1.seq hS)
        · exact .inr (seqT_same s1 hS)
      refine ⟨_, rfl, a, xs, rfl, hS1, _, rfl, rfl, ?_⟩
      have e : decide (V.int (xs.length : Int) = V.int m) = decide ((xs.length : Int) = m) := by
        by_cases h : (xs.length : Int) = m
        · rw [decide_eq_true h, decide_eq_true (congrArg V.int h)]
        · rw [decide_eq_false h, decide_eq_false (fun z => h (V.int.inj z))]
      have := k H1 s1
      rw [← e] at this
      exact this
end
end Ask

/-! an instance's own __contains__, __len__, __eq__, each by what its def promises -/
namespace Ask
open PySem L2 PySem.Spec PyProof.Rows
section
variable {X : Cx} {CX : CXT} {k : Nat} {C f : Addr} {fd : FuncData} {ps : List Str} {sp : Sp} {E : XK}
theorem run_at {A : Around} {pins : List (Addr × Obj)} {σ : L2.St} {H : Hp} {s : Shared} {Q : VK} {us : List Value} {vs : List V} (F : FnOk X.prog X.w X.K X.mg X.base CX k f fd ps sp) (hr : Room k A) (hfr : A.frames = X.A.frames) (hb : Binds X.K fd ps []) (hx : Passes CX X E)
    (I : Inv X pins σ H s) (r : Vals vs us) (h : sp vs H Q E) : wpAny (model X.prog X.w) A (call (.ref f) us) (EP X pins σ Q) X.xe s := by
  have hl : us.length = ps.length := by rw [← r.length]; exact F.len _ _ _ _ h
  have b := hb s us I.kIn (by rw [List.append_nil]; exact hl)
  rw [List.append_nil] at b
  have e0 : Env0 X.prog X.w X.K X.mg X.base A X.stack s H := by
    have e := I.env0
    exact ⟨by rw [hfr]; exact e.frames, e.mod, e.bs, e.bsz, e.funs, e.frf, e.hok, e.bare⟩
  refine wpAny_call (codeAny_mono (F.run A X.stack s H ⟨us, []⟩ us vs Q E hr e0 b r h) fun r s' hq => ?_)
  cases r with
  | error e => exact hx pins σ H s e s' I hq
  | ok fl =>
    cases fl with
    | ret u => exact I.after hq
    | next => exact False.elim hq
    | brk => exact False.elim hq
    | cont => exact False.elim hq
/-- x in y, y an instance of C -/
def rInI (C : Addr) (sp : Sp) (E : XK) (neg : Bool) : R2 := fun x y H Q => ∃ (a dx : Addr) (fs : List (Str × V)), y = .ref a ∧ H a = some (.ins C dx fs) ∧ sp [.ref a, x] H (fun v H' => ∃ b : Bool, v = .bl b ∧ Q (.bl (if neg then !b else b)) H') E
theorem op_inI (F : FnOk X.prog X.w X.K X.mg X.base CX k f fd ps sp) (hr : Room k X.A) (hb : Binds X.K fd ps []) (hx : Passes CX X E) (hs : PySem.W.findIn X.K (.ref C) "__contains__" = some (some (.ref f))) (hf : PySem.W.isFn X.K (.ref f) = true) :
    OpR X (compareOp .In) (rInI C sp E false) := by
  intro pins s σ H x y v u Q I rx ry h
  obtain ⟨a, dx, fs, rfl, ha, q⟩ := h
  cases ry
  obtain ⟨mA, J, _⟩ := ins_get I.hok ha
  obtain ⟨od, J, _⟩ := J.look
  obtain ⟨m, hF⟩ := I.fr
  refine PySem.W.in_K hF I.ok.mod.kin J hs hf (thn (run_at (vs := [.ref a, x]) F hr rfl hb hx I (.cons rfl (.cons rx .nil)) q) fun r s' ⟨z, H', I', rz, b, ez, q'⟩ => ?_)
  subst ez
  cases rz
  exact wpAny_truthy_bool ⟨.bl b, H', I', rfl, q'⟩
theorem op_notInI (F : FnOk X.prog X.w X.K X.mg X.base CX k f fd ps sp) (hr : Room k X.A) (hb : Binds X.K fd ps []) (hx : Passes CX X E) (hs : PySem.W.findIn X.K (.ref C) "__contains__" = some (some (.ref f))) (hf : PySem.W.isFn X.K (.ref f) = true) :
    OpR X (compareOp .NotIn) (rInI C sp E true) := by
  intro pins s σ H x y v u Q I rx ry h
  obtain ⟨a, dx, fs, rfl, ha, q⟩ := h
  cases ry
  obtain ⟨mA, J, _⟩ := ins_get I.hok ha
  obtain ⟨od, J, _⟩ := J.look
  obtain ⟨m, hF⟩ := I.fr
  refine PySem.W.notIn_K hF I.ok.mod.kin J hs hf (thn (run_at (vs := [.ref a, x]) F hr rfl hb hx I (.cons rfl (.cons rx .nil)) q) fun r s' ⟨z, H', I', rz, b, ez, q'⟩ => ?_)
  subst ez
  cases rz
  exact wpAny_truthy_bool ⟨.bl (!b), H', I', rfl, q'⟩
/-- len(x), x an instance of C -/
theorem call_lenI (F : FnOk X.prog X.w X.K X.mg X.base CX k f fd ps sp) (hr : Room (k + 1) X.A) (hb : Binds X.K fd ps []) (hx : Passes CX X E) (hs : PySem.W.findIn X.K (.ref C) "__len__" = some (some (.ref f))) (hf : PySem.W.isFn X.K (.ref f) = true) :
    CallR X (.builtin "len") (fun xs H Q => ∃ (a dx : Addr) (fs : List (Str × V)), xs = [.ref a] ∧ H a = some (.ins C dx fs) ∧ sp [.ref a] H (fun v H' => ∃ n : Nat, v = .int n ∧ n ≤ 16777216 ∧ Q (.int n) H') E) := by
  intro pins s σ H xs us Q I r h
  obtain ⟨a, dx, fs, rfl, ha, q⟩ := h
  obtain ⟨u, rfl, ra⟩ := vals1 r
  obtain rfl : u = Value.ref a := ra
  obtain ⟨mA, J, _⟩ := ins_get I.hok ha
  obtain ⟨od, J, _⟩ := J.look
  obtain ⟨m, hF⟩ := I.fr
  refine PySem.W.len_K hF I.ok.mod.kin J hs hf (thn (run_at (vs := [.ref a]) F hr.in1 rfl hb hx I (.cons rfl .nil) q) fun r s' ⟨z, H', I', rz, n, ez, hn, q'⟩ => ?_)
  subst ez
  obtain ⟨t, rfl⟩ := rz
  exact ⟨⟨by omega, by omega⟩, ⟨.int n, H', I'.tok _, ⟨_, rfl⟩, q'⟩⟩
/-- x == y, both instances of C -/
theorem op_eqI (F : FnOk X.prog X.w X.K X.mg X.base CX k f fd ps sp) (hr : Room k X.A) (hb : Binds X.K fd ps []) (hx : Passes CX X E) (hs : PySem.W.findIn X.K (.ref C) "__eq__" = some (some (.ref f))) (hf : PySem.W.isFn X.K (.ref f) = true) :
    OpR X (compareOp .Eq) (fun x y H Q => ∃ (a b dx dy : Addr) (fs gs : List (Str × V)), x = .ref a ∧ y = .ref b ∧ H a = some (.ins C dx fs) ∧ H b = some (.ins C dy gs) ∧ sp [.ref a, .ref b] H (fun v H' => ∃ c : Bool, v = .bl c ∧ Q (.bl c) H') E) := by
  intro pins s σ H x y v u Q I rx ry h
  obtain ⟨a, b, dx, dy, fs, gs, rfl, rfl, ha, hb', q⟩ := h
  cases rx
  cases ry
  obtain ⟨mA, J, _⟩ := ins_get I.hok ha
  obtain ⟨mB, J', _⟩ := ins_get I.hok hb'
  obtain ⟨od, J, _⟩ := J.look
  obtain ⟨od', J', _⟩ := J'.look
  obtain ⟨m, hF⟩ := I.fr
  show wpAny (model X.prog X.w) X.A (richCompare .Eq (.ref a) (.ref b)) (EP X pins σ Q) X.xe s
  refine PySem.W.cmp_K (op := .Eq) (tb := .ref C) hr.units0 hF I.ok.mod.kin J J'.type (by simp [PySem.W.notFirst]) hs hf (thn (run_at (vs := [.ref a, .ref b]) F hr rfl hb hx I (.cons rfl (.cons rfl .nil)) q) fun r s' ⟨z, H', I', rz, c, ez, q'⟩ => ?_)
  subst ez
  cases rz
  exact ⟨.bl c, H', I', rfl, q'⟩
/-- a class over object with its own __eq__ at f and no __ne__ -/
def OwnNe (K : PySem.W.Frag) (C f : Addr) : Prop :=
  ∃ (nm q : Str) (N : Addr) (bs : List Value) (hdct : Bool) (sn : List Str) (sub : List Value) (ab : Bool) (col : Option Bool) (dd : Option Addr) (k0 k1 k2 k3 k5 : Option Value) (newId : String) (oN : Obj) (es : Array DictEntry) (ep : Nat) (of : Obj),
    K.lookup C = some (excClassObj nm q C N bs [.type "object"] hdct sn sub ab col dd k0 k1 k2 k3 k5 newId) ∧ K.lookup N = some oN ∧ oN.data = .dict es ep ∧ StrKeys es ∧ nsFind es "__eq__" = some (.ref f) ∧ nsFind es "__ne__" = none ∧
    K.lookup f = some of ∧ of.cls = .type "function"
/-- x != y, both instances of C -/
theorem op_neI (F : FnOk X.prog X.w X.K X.mg X.base CX k f fd ps sp) (hr : Room (k + 1) X.A) (hb : Binds X.K fd ps []) (hx : Passes CX X E) (cl : OwnNe X.K C f) :
    OpR X (compareOp .NotEq) (fun x y H Q => ∃ (a b dx dy : Addr) (fs gs : List (Str × V)), x = .ref a ∧ y = .ref b ∧ H a = some (.ins C dx fs) ∧ H b = some (.ins C dy gs) ∧ sp [.ref a, .ref b] H (fun v H' => ∃ c : Bool, v = .bl c ∧ Q (.bl (!c)) H') E) := by
  intro pins s σ H x y v u Q I rx ry h
  obtain ⟨a, b, dx, dy, fs, gs, rfl, rfl, ha, hb', q⟩ := h
  cases rx
  cases ry
  obtain ⟨mA, J, _⟩ := ins_get I.hok ha
  obtain ⟨mB, J', _⟩ := ins_get I.hok hb'
  obtain ⟨od, J, _⟩ := J.look
  obtain ⟨od', J', _⟩ := J'.look
  obtain ⟨nm, qn, N, bs, hdct, sn, sub, ab, col, dd, k0, k1, k2, k3, k5, newId, oN, es, ep, of, lC, lN, dN, sk, fe, fn, lf, cf⟩ := cl
  have kin := I.kIn
  obtain ⟨hp, g, d, t, os⟩ := s
  have own : hp.OwnEqNoNe a C f "object" [.type "object"] :=
    ⟨_, of, nm, qn, N, bs, hdct, sn, sub, ab, col, dd, k0, k1, k2, k3, k5, newId, nsFind es, _, J.1, J.cls, kin _ _ lC, ⟨oN, es, ep, kin _ _ lN, dN, sk, fun _ => rfl⟩, fe, kin _ _ lf, cf, PySem.F.cmp_object.mro, PySem.F.cmp_object.eq.lookup, fn⟩
  refine compareOp_ne_ownEq PySem.F.cmp_object own J'.1 J'.cls (by have := hr.un; omega) (thn (run_at (vs := [.ref a, .ref b]) F hr.in1 rfl hb hx I (.cons rfl (.cons rfl .nil)) q) fun r s' ⟨z, H', I', rz, c, ez, q'⟩ => ?_)
  subst ez
  cases rz
  exact ⟨c, rfl, ⟨.bl (!c), H', I', rfl, q'⟩⟩
end
end Ask

/-! a text against a dict; a dict in a tuple or list of texts -/
namespace Ask
open PySem L2 PySem.Spec PyProof.Rows PySem.SeqAt
theorem sub_sd : isSubtype (.type "str") (.type "dict") = pure false := by rw [isSubtype_type]; kernel_rfl
theorem sub_ds : isSubtype (.type "dict") (.type "str") = pure false := by rw [isSubtype_type]; kernel_rfl
theorem dict_declines (l : Addr) (o : Obj) (b : Str) (u : Tok) (hc : o.cls = .type "dict") :
    Meets (Builtin.«dict.__eq__» ⟨[.ref l, .str b u], []⟩) (fun _ R s => s.heap.get? l = some o ∧ R (.ok (.ret .notImplemented)) s) :=
  .of_wp fun prog w A R s h => by
    obtain ⟨hp, g, d, tk, os⟩ := s
    obtain ⟨cls, dd, data, sl⟩ := o
    obtain rfl : cls = .type "dict" := hc
    obtain ⟨hl, h⟩ := h
    have f1 := sub_sd
    wp_walk using wpAny_loadPart' hl
    exact ⟨_, rfl, h⟩
theorem str_declines (l : Addr) (o : Obj) (b : Str) (u : Tok) (hc : o.cls = .type "dict") {es : Array DictEntry} {ep : Nat} (hd : o.data = .dict es ep) :
    Meets (Builtin.«str.__eq__» ⟨[.str b u, .ref l], []⟩) (fun _ R s => s.heap.get? l = some o ∧ R (.ok (.ret .notImplemented)) s) :=
  .of_wp fun prog w A R s h => by
    obtain ⟨hp, g, d, tk, os⟩ := s
    obtain ⟨cls, dd, data, sl⟩ := o
    obtain rfl : cls = .type "dict" := hc
    obtain rfl : data = .dict es ep := hd
    obtain ⟨hl, h⟩ := h
    wp_walk using wpAny_loadPart' hl, wpAny_load hl
    exact ⟨_, rfl, h⟩
section
variable {A : Around} {s : Shared}
theorem rcAt_sd {l : Addr} {o : Obj} (b : Str) (u : Tok) (ho : s.heap.get? l = some o) (hc : o.cls = .type "dict") {es : Array DictEntry} {ep : Nat} (hd : o.data = .dict es ep) (hu : A.units < cLine) : RcAt A s (.str b u) (.ref l) false := fun prog w E Q h =>
  rc_eq_decline_or (k := false) (typeIs_str s b u) ⟨o, ho, hc⟩ (by decide) sub_ds PySem.F.slot_str_eq PySem.F.slot_dict_eq_refl
    (fun _ hq => call_meets PySem.F.slot_str_eq (typeIs_str s b u) PySem.F.entry_str_eq (PySem.F.args_str_eq_2 _ _) (str_declines l o b u hc hd) ⟨ho, hq⟩)
    (fun _ hq => call_meets PySem.F.slot_dict_eq_refl ⟨o, ho, hc⟩ PySem.F.entry_dict_eq (PySem.F.args_dict_eq_2 _ _) (dict_declines l o b u hc) ⟨ho, hq⟩)
    (fun _ hq => wpAny_of_eq (rfl : isSame (.str b u) (.ref l) = pure false) hq) (.inr hu) h
theorem eqAt_sd {l : Addr} {o : Obj} (b : Str) (u : Tok) (ho : s.heap.get? l = some o) (hc : o.cls = .type "dict") {es : Array DictEntry} {ep : Nat} (hd : o.data = .dict es ep) (hu : A.units < cLine) : EqAt A s (.str b u) (.ref l) false := fun prog w E Q h => by
  unfold eqBool
  refine wpAny_holding ?_
  refine wpAny_ite_split (fun hab => absurd (eq_of_beq hab) nofun) (fun _ => ?_)
  exact wpAny_bind (rcAt_sd b u ho hc hd hu prog w E _ (wpAny_truthy_bool h))
end
section
variable {X : Cx}
/-- a dict in a tuple of texts -/
def rInSD (K : PySem.W.Frag) (neg : Bool) : R2 := fun x y H Q => ∃ (d p : Addr) (kvs : List (Key × V)) (ys : List Str), x = .ref d ∧ y = .ref p ∧ H d = some (.dK kvs) ∧ SqT K H p (ys.map V.str) ∧ Q (.bl neg) H
theorem strs_eqAt {A : Around} {s : Shared} {l : Addr} {o : Obj} (ho : s.heap.get? l = some o) (hc : o.cls = .type "dict") {es : Array DictEntry} {ep : Nat} (hd : o.data = .dict es ep) (hu : A.units < cLine) : ∀ (ys : List Str) (us : List Value), Vals (ys.map V.str) us → ∀ w ∈ us, EqAt A s w (.ref l) false
  | [], us, r => by
    cases r
    exact fun w hw => by cases hw
  | y :: ys, us, r => by
    cases r with
    | cons r t =>
      intro w hw
      rcases List.mem_cons.mp hw with rfl | hw
      · obtain ⟨tk, rfl⟩ := r
        exact eqAt_sd y tk ho hc hd hu
      · exact strs_eqAt ho hc hd hu ys _ t w hw
theorem op_inSD (hu : X.A.units + 1 < cLine) : OpR X (compareOp .In) (rInSD X.K false) := by
  intro pins s σ H x y v u Q I rx ry h
  obtain ⟨d, p, kvs, ys, rfl, rfl, hd, hq, q⟩ := h
  cases rx
  cases ry
  obtain ⟨_, _, vs, _, o, es, ep, ho, hx, hdd, _⟩ := I.hok d _ hd
  obtain ⟨its, r, pl, hz⟩ := I.tuple hq
  refine in_tupleAt (fun _ => false) pl (fun w hw => strs_eqAt (A := X.A.in1) ho hx.1 hdd hu ys _ r w (by simpa using hw)) ⟨.bl false, H, I, ?_, q⟩
  show Value.bool _ = Value.bool false
  simp
theorem op_notInSD (hu : X.A.units + 1 < cLine) : OpR X (compareOp .NotIn) (rInSD X.K true) := by
  intro pins s σ H x y v u Q I rx ry h
  obtain ⟨d, p, kvs, ys, rfl, rfl, hd, hq, q⟩ := h
  cases rx
  cases ry
  obtain ⟨_, _, vs, _, o, es, ep, ho, hx, hdd, _⟩ := I.hok d _ hd
  obtain ⟨its, r, pl, hz⟩ := I.tuple hq
  refine notIn_tupleAt (fun _ => false) pl (fun w hw => strs_eqAt (A := X.A.in1) ho hx.1 hdd hu ys _ r w (by simpa using hw)) ⟨.bl true, H, I, ?_, q⟩
  show Value.bool _ = Value.bool true
  simp
end
end Ask

/-! isinstance(e, c) in a suite, e an own error with fields -/
namespace Ask
open PySem L2 PySem.Spec PyProof.Rows
/-- what the class says of __class__ -/
structure XkC (K : PySem.W.Frag) (C : Addr) : Prop where
  ic : PySem.W.isClsIn K C = true
  ha : PySem.W.findIn K (.ref C) "__class__" = some (some (.builtin "object.__class__"))
  hn : PySem.W.specialIn K (.builtin "object.__class__") "__get__" = some (some (.builtin "getset_descriptor.__get__"))
  ht : PySem.W.takesIn K (.builtin "object.__class__") = some true
  hm : PySem.W.mroIn K C (.type "object") = some true
def rIsX (K : PySem.W.Frag) (C a : Addr) (cls : Value) (d : Option Addr) : List V → Hp → VK → Prop := fun xs H Q => ∃ (c : V) (cv : Value) (b : Bool) (dd : Addr) (fs : List (Str × V)), xs = [.ref a, c] ∧ cls = .ref C ∧ d = some dd ∧ H dd = some (.xd fs) ∧ ClsV c cv ∧ PySem.W.kitOne K (.ref C) cv = some b ∧ Q (.bl b) H
theorem call_isX {X : Cx} {a C : Addr} {oe : Obj} {cls : Value} {d : Option Addr} {pn : List (Addr × Obj)} (T : XfC X.K C) (Y : XkC X.K C) (hz : Zc cls d oe) (hf : ∃ vs, oe.data = .fields vs) :
    CallR (X.suite a ((a, oe) :: pn)) (.builtin "isinstance") (rIsX X.K C a cls d) := by
  intro pins s σ H xs us Q I r h
  obtain ⟨c, cv, b, dd, fs, rfl, rfl, rfl, ed, hcv, e, q⟩ := h
  obtain ⟨u1, u2, rfl, r1, r2⟩ := vals2 r
  obtain rfl : u1 = Value.ref a := r1
  have ec := hcv.eq r2
  subst ec
  obtain ⟨ha, _⟩ := I.pin (a, oe) (List.mem_append_left _ List.mem_cons_self)
  obtain ⟨vs, hd⟩ := hf
  obtain ⟨mA, hns, hr⟩ := (show ObjOk X.prog X.w H s.heap dd (.xd fs) from I.hok dd _ ed)
  obtain ⟨od, ho, hl⟩ := lookIn_ns hns
  have J : PySem.W.InstAt s.heap a oe C (some od) := ⟨ha, hz.1, by unfold PySem.W.notCls; rw [hd] <;> rfl, by rw [hz.2]; exact ho⟩
  exact PySem.W.kia_one (PySem.W.kitx_exc Y.ic T.ga T.gg T.exC Y.ha Y.hn Y.ht Y.hm) I.kIn J e (fun z => nomatch z) fun tk => ⟨.bl b, H, I.kept (t' := tk) fun _ _ z => z, rfl, q⟩
end Ask

namespace Ask
open PySem L2
open PySem.SeqAt (in_tupleAt EqAt)
/-- whether x is in the texts: by value, or a list, tuple or dict that is none -/
def InW (H : Hp) (x : V) (ys : List Str) (b : Bool) : Prop := (flatV x = true ∧ b = inV x (ys.map V.str)) ∨
  (b = false ∧ ∃ d, x = .ref d ∧ ((∃ kvs, H d = some (.dK kvs)) ∨ (∃ xs, H d = some (.lst xs)) ∨ (∃ xs, H d = some (.tup xs))))
theorem strs_eqAtR {A : Around} {s : Shared} {l : Addr} (h : ∀ (y : Str) (t : Tok), EqAt A s (.str y t) (.ref l) false) : ∀ (ys : List Str) (us : List Value), Vals (ys.map V.str) us → ∀ w ∈ us, EqAt A s w (.ref l) false
  | [], us, r => by
    cases r
    exact fun w hw => by cases hw
  | y :: ys, us, r => by
    cases r with
    | cons r t =>
      intro w hw
      rcases List.mem_cons.mp hw with rfl | hw
      · obtain ⟨tk, rfl⟩ := r
        exact h y tk
      · exact strs_eqAtR h ys _ t w hw
section
variable {X : Cx}
theorem op_inW (hu : X.A.units + 1 < cLine) : OpR X (compareOp .In) (fun x y H Q => ∃ (p : Addr) (ys : List Str) (b : Bool), y = .ref p ∧ SqT X.K H p (ys.map V.str) ∧ InW H x ys b ∧ Q (.bl b) H) := by
  intro pins s σ H x y v u Q I rx ry h
  obtain ⟨p, ys, b, rfl, hq, hw, q⟩ := h
  rcases hw with ⟨fx, rfl⟩ | ⟨rfl, d, rfl, hd⟩
  · refine op_in_seq pins s σ H x (.ref p) v u Q I rx ry ⟨p, _, rfl, .inr hq, fx, ?_, q⟩
    rw [List.all_eq_true]
    intro y hy
    obtain ⟨z, _, rfl⟩ := List.mem_map.mp hy
    rfl
  · cases rx
    cases ry
    obtain ⟨its, r, pl, hz⟩ := I.tuple hq
    have at_ : ∀ (y : Str) (t : Tok), EqAt X.A.in1 s (.str y t) (.ref d) false := fun y t => by
      rcases hd with ⟨kvs, hd⟩ | ⟨xs, hd⟩ | ⟨xs, hd⟩
      · obtain ⟨_, _, vs, _, o, es, ep, ho, hx, hdd, _⟩ := I.hok d _ hd
        exact eqAt_sd y t ho hx.1 hdd hu
      · obtain ⟨its2, r2, pl2, _⟩ := I.list (.inl (.inl hd))
        exact PySem.SeqAt.EqAt.str_list y t pl2.isList hu
      · obtain ⟨its2, r2, pl2, _⟩ := I.tuple (.inl (.inl hd))
        exact PySem.SeqAt.EqAt.str_tuple y t pl2 hu
    refine in_tupleAt (fun _ => false) pl (fun w hw => strs_eqAtR at_ ys _ r w (by simpa using hw)) ⟨.bl false, H, I, ?_, q⟩
    show Value.bool _ = Value.bool false
    simp
end
/-- letters ys at p, their tuple at t -/
def Mde (CL : Addr) (H : Hp) (p t : Addr) (ys : List Str) : Prop := ∃ (dx : Addr) (o : Obj), H p = some (.ins CL dx [("words", .ref t)]) ∧ H t = some (.frz o (.tup (ys.map V.str))) ∧ o.dict = none
def spHas (CL : Addr) : Sp := fun vs H Q _ => ∃ (p t : Addr) (ys : List Str) (x : V) (b : Bool), vs = [.ref p, x] ∧ Mde CL H p t ys ∧ InW H x ys b ∧ Q (.bl b) H
def spLen (CL : Addr) : Sp := fun vs H Q _ => ∃ (p t : Addr) (ys : List Str), vs = [.ref p] ∧ Mde CL H p t ys ∧ ys.length ≤ 1000 ∧ Q (.int (ys.length : Nat)) H
def spEq2 (CL : Addr) : Sp := fun vs H Q _ => ∃ (p t p' t' : Addr) (ys zs : List Str), vs = [.ref p, .ref p'] ∧ Mde CL H p t ys ∧ Mde CL H p' t' zs ∧ (∀ y ∈ ys, y.length ≤ 500 ∧ Asc y) ∧ (∀ y ∈ zs, y.length ≤ 500 ∧ Asc y) ∧
  Q (.bl (PyData.eqv (.tuple (ys.map PyData.str)) (.tuple (zs.map PyData.str)))) H
def spRank (CL CE : Addr) : Sp := fun vs H Q E => ∃ (p t : Addr) (ys : List Str) (x : V), vs = [.ref p, x] ∧ Mde CL H p t ys ∧ ys.Nodup ∧
  ((∃ (i : Nat) (z : Str), x = .str z ∧ ys[i]? = some z ∧ ∀ H', Same H H' → Q (.int (i : Nat)) H') ∨ (InW H x ys false ∧ ∀ (H' : Hp) (d : Addr), Same H H' → H' d = some (.xd (fsBad [.int 0])) → E (.ref CE) (some d) H'))
abbrev s_Has : Stmt := inClass (top 23) 2
theorem sc_Has : FnScope ["self", "x"] ["self", "x"] (defScope s_Has) := ⟨rfl, rfl, rfl, by decide +kernel, rfl, by decide +kernel, by decide +kernel⟩
abbrev s_Len : Stmt := inClass (top 23) 3
theorem sc_Len : FnScope ["self"] ["self"] (defScope s_Len) := ⟨rfl, rfl, rfl, by decide +kernel, rfl, by decide +kernel, by decide +kernel⟩
abbrev s_Eq : Stmt := inClass (top 23) 4
theorem sc_Eq : FnScope ["self", "other"] ["self", "other"] (defScope s_Eq) := ⟨rfl, rfl, rfl, by decide +kernel, rfl, by decide +kernel, by decide +kernel⟩
abbrev s_Rank : Stmt := inClass (top 23) 1
theorem sc_Rank : FnScope ["self", "x"] ["self", "x"] (defScope s_Rank) := ⟨rfl, rfl, rfl, by decide +kernel, rfl, by decide +kernel, by decide +kernel⟩
theorem passE {X : Cx} : Passes (L2.CX X.prog X.w) X E0 := fun _ _ _ _ _ _ _ h => by
  obtain ⟨_, _, _, _, _, _, _, _, _, _, _, _, e⟩ := h
  exact e.elim
section
variable {P : Program} {w : World} {K : PySem.W.Frag} {mg : Str → Option Value} {base : Heap}
theorem ok_has {f CL : Addr} {fd : FuncData} (F : Fun K "__contains__" "Letters.__contains__" s_Has f fd) (hC : Cls K CL) (hA : NoAttr K CL "words") : FnOk P w K mg base CX0 1 f fd ["self", "x"] (spHas CL) := by
  refine F.ok sc_Has (fun vs H Q E h => ?_) (fun cdv A outer s H vs Q E hr h => ?_)
  · obtain ⟨p, t, ys, x, b, rfl, _⟩ := h
    rfl
  · obtain ⟨p, t, ys, x, b, rfl, ⟨dx, ob, hp, ht, hob⟩, hw, k⟩ := h
    exact ⟨_, pss_one (ps_ret (pe_cmpR (op_inW (hu_of hr)) (pv 1) (pe_fld (pv 0) rfl) rfl)), _, rfl, _, rfl, p, CL, dx, _, _, rfl, hp, hC, hA, rfl, t, ys, b, rfl, (.inl (.inr ⟨ob, ht⟩)), hw, k⟩
theorem ok_len {f CL : Addr} {fd : FuncData} (F : Fun K "__len__" "Letters.__len__" s_Len f fd) (T : Blt mg) (hC : Cls K CL) (hA : NoAttr K CL "words") : FnOk P w K mg base CX0 1 f fd ["self"] (spLen CL) := by
  refine F.ok sc_Len (fun vs H Q E h => ?_) (fun cdv A outer s H vs Q E hr h => ?_)
  · obtain ⟨p, t, ys, rfl, _⟩ := h
    rfl
  · obtain ⟨p, t, ys, rfl, ⟨dx, ob, hp, ht, hob⟩, hl, k⟩ := h
    refine ⟨_, pss_one (ps_ret (pe_callB call_len_seq (by rfl) T.n_len (by decide +kernel) (pa_cons (pe_fld (pv 0) rfl) pa_nil))), _, rfl, p, CL, dx, _, _, rfl, hp, hC, hA, rfl, t, _, rfl, .inr ((.inl (.inr ⟨ob, ht⟩))), ?_⟩
    rw [List.length_map]
    exact k
theorem ok_eq {f CL : Addr} {fd : FuncData} (F : Fun K "__eq__" "Letters.__eq__" s_Eq f fd) (T : Blt mg) (hC : Cls K CL) (hA : NoAttr K CL "words") (Y : XkC K CL) (mL : mg "Letters" = some (.ref CL)) : FnOk P w K mg base CX0 1 f fd ["self", "other"] (spEq2 CL) := by
  refine F.ok sc_Eq (fun vs H Q E h => ?_) (fun cdv A outer s H vs Q E hr h => ?_)
  · obtain ⟨p, t, p', t', ys, zs, rfl, _⟩ := h
    rfl
  · obtain ⟨p, t, p', t', ys, zs, rfl, ⟨dx, ob, hp, ht, hob⟩, ⟨dx', ob', hp', ht', hob'⟩, hy, hz, k⟩ := h
    refine ⟨_, (pss_one (ps_ret (pe_and (pe_callB call_isi (by rfl) T.n_isinstance (by decide +kernel) (pa_cons (pv 1) (pa_cons (pe_gv (v := .ref CL) rfl ⟨_, mL, rfl⟩) pa_nil))) (pe_one (pe_cmpR (op_eqD hr.units) (pe_fld (pv 0) rfl) (pe_fld (pv 1) rfl) (nomark _)))))), ?_⟩
    have kk : PySem.W.kitOne K (.ref CL) (.ref CL) = some true := by
      unfold PySem.W.kitOne
      rw [if_pos (by simp)]
    refine ⟨_, rfl, _, _, _, _, true, rfl, .own CL, .base (.ins hp' hC Y.ha Y.hn Y.ht Y.hm), kk, _, rfl, ite2 (fun _ => ?_) (fun q => absurd rfl q)⟩
    exact ⟨_, rfl, p, CL, dx, _, _, rfl, hp, hC, hA, rfl, _, rfl, p', CL, dx', _, _, rfl, hp', hC, hA, rfl, _, _, .tup ((.inl (.inr ⟨ob, ht⟩))) (dp_strs _), .tup ((.inl (.inr ⟨ob', ht'⟩))) (dp_strs _), (fit_strs hy).shapedT, (fit_strs hz).shapedT, k⟩
end
end Ask

namespace Ask
open PySem L2
theorem kitAny_l {K : PySem.W.Frag} : PySem.W.kitAny K (.type "list") [.type "list", .type "tuple"] = some true := kitAny_cons (b := true) (kit_ty (by show kitB "list" "list" = some true; decide +kernel)) (fun z => by cases z) (fun _ => rfl)
theorem kitAny_t {K : PySem.W.Frag} : PySem.W.kitAny K (.type "tuple") [.type "list", .type "tuple"] = some true := kitAny_cons (kit_ty (by show kitB "tuple" "list" = some false; decide +kernel)) (fun _ => kitAny_cons (kit_ty (by show kitB "tuple" "tuple" = some true; decide +kernel)) (fun z => by cases z) (fun _ => rfl)) (fun z => by cases z)
theorem Mde.same {CL m t : Addr} {H H' : Hp} {ys : List Str} (h : Mde CL H m t ys) (s : Same H H') : Mde CL H' m t ys := by
  obtain ⟨dx, ob, h1, h2, h3⟩ := h
  exact ⟨dx, ob, s _ _ h1, s _ _ h2, h3⟩
theorem for_any1 {wi : TI} {g : TG} {tb : TS} {D : Ends} {σ : L2.St} {H : Hp} {J : It} {n : Nat} {G : Hp → Prop} {Y : Nat → Hp → V → Hp → Prop} (f : ∀ R : It → Hp → Prop, R J H → wi σ H R)
    (wk : Walk J n G Y) (Pv : Nat → L2.St → Hp → Prop) (h0 : Pv 0 σ H) (hG : ∀ i σ H, i ≤ n → Pv i σ H → G H)
    (hs : ∀ i x σ H H', i < n → Pv i σ H → Y i H x H' → g x σ H' fun σ2 H2 => tb { D with nx := Pv (i + 1), ct := Pv (i + 1), bk := D.nx } σ2 H2) (hd : ∀ σ H, Pv n σ H → D.nx σ H) :
    tFor wi g tb D σ H := by
  delta tFor
  exact f _ (for_it (D := D) wk Pv h0 hG hs hd)
section
variable {P : Program} {w : World} {K : PySem.W.Frag} {mg : Str → Option Value} {base : Heap}
/-! ### require_runs, where nothing is wrong -/
def spReqOk (K : PySem.W.Frag) (CL : Addr) : Sp := fun vs H Q _ => ∃ (m t : Addr) (ys : List Str) (a : Addr) (xs : List V) (rs : List Run), vs = [.ref m, .ref a] ∧ Mde CL H m t ys ∧ (SqL K H a xs ∨ SqT K H a xs) ∧ RunsV K H xs rs ∧ rs.length ≤ 10000 ∧
  (∀ r ∈ rs, r.1 ∈ ys ∧ 1 ≤ r.2 ∧ r.2 ≤ 1000000000000000000000000000000) ∧ ∀ H', Same H H' → Q .non H'
/-! ### require_count, where nothing is wrong -/
def spReqCnt : Sp := fun vs H Q _ => ∃ (x : V) (n : Int), vs = [x, .int n] ∧ 1 ≤ n ∧ n ≤ 1000000000000000000000000000000 ∧ Q .non H
abbrev s_require_count : Stmt := top 35
theorem sc_require_count : FnScope ["index", "value"] ["index", "value"] (defScope s_require_count) := ⟨rfl, rfl, rfl, by decide +kernel, rfl, by decide +kernel, by decide +kernel⟩
theorem ok_reqCnt {f fW : Addr} {fd fdW : FuncData} (F : Fun K "require_count" "require_count" s_require_count f fd) (mM : ∃ u, mg "MOST_COUNT" = some u ∧ RelV (.int 1000000000000000000000000000000) u)
    (GW : FnOk P w K mg base CX0 1 fW fdW ["value"] (spWhole K)) (AW : At K mg "is_whole" fW fdW ["value"]) :
    FnOk P w K mg base CX0 2 f fd ["index", "value"] spReqCnt := by
  refine F.ok sc_require_count (fun vs H Q E h => ?_) (fun cdv A outer s H vs Q E hr h => ?_)
  · obtain ⟨x, n, rfl, _⟩ := h
    rfl
  · obtain ⟨x, n, rfl, h1, h2, k⟩ := h
    refine ⟨_, (pss_one (ps_if (PW.pt (pw_or (pt_not (pt_val (pe_call GW hr (by rfl) AW.m AW.k AW.b .nil pass0 (pa_cons (pv 1) pa_nil)))) (pw_or1 (pt_not (pt_chain op_le op_le pe_int (pv 1) (pe_gv rfl mM)))))) pss_never pss_nil)), ?_⟩
    refine ⟨_, rfl, _, .type "int", true, false, rfl, .base (.int _), kit_ty (by decide +kernel), kit_ty (by decide +kernel), _, rfl, ?_⟩
    refine iteF ?_
    refine ⟨_, rfl, _, _, rfl, rfl, _, rfl, ?_⟩
    refine ite2 (fun _ => ?_) (fun q => absurd (decide_eq_true h1) q)
    refine ⟨_, _, rfl, rfl, _, rfl, ?_⟩
    rw [decide_eq_true h2]
    exact iteF k
abbrev s_require_runs : Stmt := top 36
theorem sc_require_runs : FnScope ["letters", "runs", "index", "run"] ["letters", "runs"] (defScope s_require_runs) := ⟨rfl, rfl, rfl, by decide +kernel, rfl, by decide +kernel, by decide +kernel⟩
theorem ok_reqOk {f fO fN fH CL : Addr} {fd fdO fdN fdH : FuncData} (F : Fun K "require_runs" "require_runs" s_require_runs f fd) (T : Blt mg)
    (GO : FnOk P w K mg base CX0 1 fO fdO ["value", "many"] (spListOf K)) (AO : At K mg "is_list_of" fO fdO ["value", "many"])
    (GN : FnOk P w K mg base CX0 2 fN fdN ["index", "value"] spReqCnt) (AN : At K mg "require_count" fN fdN ["index", "value"])
    (GH : FnOk P w K mg base CX0 1 fH fdH ["self", "x"] (spHas CL)) (bH : Binds K fdH ["self", "x"] []) (hH : PySem.W.findIn K (.ref CL) "__contains__" = some (some (.ref fH))) (iH : PySem.W.isFn K (.ref fH) = true) :
    FnOk P w K mg base CX0 3 f fd ["letters", "runs"] (spReqOk K CL) := by
  refine F.ok sc_require_runs (fun vs H Q E h => ?_) (fun cdv A outer s H vs Q E hr h => ?_)
  · obtain ⟨m, t, ys, a, xs, rs, rfl, _⟩ := h
    rfl
  · obtain ⟨m, t, ys, a, xs, rs, rfl, hM, hS, hR, hn, hok, k⟩ := h
    refine ⟨_, (pss_one (ps_for PassesOwn.never rfl (pi_enumA (by rfl) T.n_enumerate (pa_cons (pv 1) pa_nil)) (pg_tup rfl (pgs_cons (pg_name (i := 2) sc_require_runs.nd rfl (Or.inl rfl)) (pgs_cons (pg_name (i := 3) sc_require_runs.nd rfl (Or.inl rfl)) pgs_nil))) (pss_cons (ps_if (pt_not (pt_val (pe_call GO (hr.mono (by decide)) (by rfl) AO.m AO.k AO.b .nil pass0 (pa_cons (pv 3) (pa_cons pe_int pa_nil))))) pss_never pss_nil)
      (pss_cons (ps_if (pt_cmpR (op_notInI (C := CL) (E := E0) GH (hr.mono (by decide)) bH pass0 hH iH) (pe_ix ix_seq (pv 3) pe_int (fun _ _ => rfl)) (pv 0) rfl) pss_never pss_nil)
      (pss_one (ps_expr (pe_call GN hr (by rfl) AN.m AN.k AN.b .nil pass0 (pa_cons (pv 2) (pa_cons (pe_ix ix_seq (pv 3) pe_int (fun _ _ => rfl)) pa_nil))))))))), ?_⟩
    obtain ⟨J, G, wk, hG, fits⟩ : ∃ (J : It) (G : Hp → Prop), Walk J xs.length G (YPair (fun i => some (.int (i : Nat))) (fun i => xs[i]?)) ∧ (∀ H', Same H H' → G H') ∧
        ∀ (R : It → Hp → Prop), R J H → iEnumA K (tCons (tVar 1) tNil) [some (.ref m), some (.ref a), none, none] H R := by
      rcases hS with hS | hS
      · exact ⟨Ite K a, _, walk_enum, fun H' s' => s'.seq hS, fun R r => ⟨_, rfl, a, xs, rfl, .inl ⟨hS, r⟩⟩⟩
      · exact ⟨IteT K a, _, walk_enumT, fun H' s' => seqT_same s' hS, fun R r => ⟨_, rfl, a, xs, rfl, .inr ⟨hS, r⟩⟩⟩
    refine for_any1 fits wk (fun i σ' H' => ∃ o2 o3 : Option V, σ' = [some (.ref m), some (.ref a), o2, o3] ∧ Same H H') ⟨none, none, rfl, Same.refl H⟩ (fun i σ' H' _ ⟨_, _, _, s'⟩ => hG H' s') ?_ (fun σ' H' ⟨_, _, _, s'⟩ => k H' s')
    rintro i x σ' H2 H3 hi ⟨o2, o3, rfl, s2⟩ ⟨t2, x0, y0, rfl, ht, rfl, ex, ey⟩
    cases ex
    replace ey : xs[i]? = some y0 := ey
    obtain ⟨r, hri⟩ : ∃ r, rs[i]? = some r := ⟨_, List.getElem?_eq_getElem (by rw [← hR.1]; exact hi)⟩
    obtain ⟨hr1, hr2, hr3⟩ := hok r (List.mem_of_getElem? hri)
    have s3 := Ask.Same.made1 (o := .tup [.int (i : Nat), y0]) s2 ht
    have ht3 : upd H2 t2 (.tup [.int (i : Nat), y0]) t2 = some (.tup [.int (i : Nat), y0]) := upd_same
    generalize upd H2 t2 (.tup [.int (i : Nat), y0]) = H4 at s3 ht3 ⊢
    obtain ⟨b, rfl, hb⟩ := hR.2 i y0 r ey hri
    have hin : ∀ H', InW H' (.str r.1) ys true := fun _ => .inl ⟨rfl, (in_mem hr1).symm⟩
    refine ⟨t2, _, rfl, SqT.of ht3, rfl, _, _, rfl, _, _, rfl, rfl, ?_⟩
    have hty : ∃ ty, TyX K H4 (.ref b) ty ∧ PySem.W.kitAny K ty [.type "list", .type "tuple"] = some true := by
      rcases hb with hb | hb
      · exact ⟨_, ty_list (s3.seq hb), kitAny_l⟩
      · exact ⟨_, ty_tup (seqT_same s3 hb), kitAny_t⟩
    obtain ⟨ty, hty, hka⟩ := hty
    have hb4 : SqL K H4 b [.str r.1, .int r.2] ∨ SqT K H4 b [.str r.1, .int r.2] := by
      rcases hb with hb | hb
      · exact .inl (s3.seq hb)
      · exact .inr (seqT_same s3 hb)
    refine ⟨_, rfl, .ref b, ty, 2, rfl, hty, .inr ⟨hka, b, _, rfl, hb4, fun H5 s5 => ⟨_, rfl, ?_⟩⟩⟩
    have s35 := s3.trans s5
    have md := hM.same s35
    obtain ⟨dx, ob, m1, _⟩ := id md
    rw [decide_eq_true (show (([V.str r.1, .int r.2] : List V).length : Int) = 2 from rfl)]
    refine iteF ?_
    rcases hb with hb | hb
    · have hb5 := s35.seq hb
      refine ⟨_, rfl, .inl ⟨b, _, 0, _, rfl, rfl, hb5, at_by (j := 0) rfl rfl, _, rfl, m, dx, _, rfl, m1, m, t, ys, _, true, rfl, md, hin _, _, rfl, _, rfl, ?_⟩⟩
      refine iteF ?_
      exact ⟨_, rfl, _, rfl, .inl ⟨b, _, 1, _, rfl, rfl, hb5, at_by (j := 1) rfl rfl, _, _, rfl, hr2, hr3, _, _, rfl, s35⟩⟩
    · have hb5 := seqT_same s35 hb
      refine ⟨_, rfl, .inr (.inl ⟨b, _, 0, _, rfl, rfl, hb5, at_by (j := 0) rfl rfl, _, rfl, m, dx, _, rfl, m1, m, t, ys, _, true, rfl, md, hin _, _, rfl, _, rfl, ?_⟩)⟩
      refine iteF ?_
      exact ⟨_, rfl, _, rfl, .inr (.inl ⟨b, _, 1, _, rfl, rfl, hb5, at_by (j := 1) rfl rfl, _, _, rfl, hr2, hr3, _, _, rfl, s35⟩)⟩
end
end Ask

namespace Ask
open PySem L2
theorem eqv_str1 (a b : Str) : PyData.eqv (.str a) (.str b) = decide (a = b) := by
  simp only [PyData.eqv]
  by_cases h : a = b
  · subst h; simp
  · rw [decide_eq_false h]; simpa using h
theorem eqvAll_strs : ∀ ys zs : List Str, PyData.eqvAll (ys.map PyData.str) (zs.map PyData.str) = decide (ys = zs)
  | [], [] => by simp [PyData.eqvAll]
  | [], _ :: _ => by simp [PyData.eqvAll]
  | _ :: _, [] => by simp [PyData.eqvAll]
  | y :: ys, z :: zs => by
    rw [List.map_cons, List.map_cons, PyData.eqvAll, eqv_str1, eqvAll_strs ys zs]
    by_cases h : y = z
    · subst h
      by_cases h2 : ys = zs
      · subst h2; simp
      · simp [h2]
    · simp [h]
theorem eqv_strs (ys zs : List Str) : PyData.eqv (.tuple (ys.map PyData.str)) (.tuple (zs.map PyData.str)) = decide (ys = zs) := by
  rw [PyData.eqv]
  exact eqvAll_strs ys zs
/-- letters that Letters takes -/
structure Lts (ys : List Str) : Prop where
  nd : ys.Nodup
  ok : ∀ y ∈ ys, isLs y = true ∧ y.length ≤ 13 ∧ Asc y
  l0 : 1 ≤ ys.length
  l1 : ys.length ≤ 12
theorem Lts.fit {ys : List Str} (h : Lts ys) : ∀ y ∈ ys, y.length ≤ 500 ∧ Asc y := fun y hy => ⟨by have := (h.ok y hy).2.1; omega, (h.ok y hy).2.2⟩
theorem Lts.res {ys : List Str} (h : Lts ys) : res (ys.map PyData.str) = .none := by
  have l0 := h.l0
  have l1 := h.l1
  refine res_good (by rw [List.length_map]; omega) (by rw [List.length_map]; omega) fun j hj => ?_
  rw [List.length_map] at hj
  unfold badAt
  rw [List.getElem?_map, List.getElem?_eq_getElem hj]
  show (!isLs ys[j] || ((ys.map PyData.str).take j).any fun z => PyData.eqv z (.str ys[j])) = false
  rw [(h.ok _ (List.getElem_mem hj)).1, Bool.not_true, Bool.false_or, List.any_eq_false]
  intro x hx
  rw [← List.map_take] at hx
  obtain ⟨y, hy, rfl⟩ := List.mem_map.mp hx
  rw [eqv_str1]
  intro e
  have e : y = ys[j] := of_decide_eq_true e
  obtain ⟨i, hi⟩ := List.mem_iff_getElem?.mp hy
  have hij : i < j := by
    have := (List.getElem?_eq_some_iff.mp hi).1
    rw [List.length_take] at this
    omega
  rw [List.getElem?_take_of_lt hij] at hi
  have : i = j := (List.getElem?_inj (List.getElem?_eq_some_iff.mp hi).1 h.nd).mp (hi.trans (by rw [e, List.getElem?_eq_getElem hj]))
  omega
theorem cutV_init (xs : List V) : cutV xs none (some (-1)) = xs.take (xs.length - 1) := by
  have e : HT.sIx xs.length xs.length (some (-1)) = xs.length - 1 := by
    show (if (-1 : Int) < 0 then ((-1 : Int) + (xs.length : Int)).toNat else min (-1 : Int).toNat xs.length) = _
    rw [if_pos (by decide)]
    omega
  unfold cutV
  rw [HT.sIx_none, List.drop_zero, Nat.sub_zero, e]
/-- a text none or one time -/
theorem op_mul_str01 {X : Cx} : OpR X (binaryOp .Mult) (fun x y H Q => ∃ (z : Str) (n : Int), x = .str z ∧ y = .int n ∧ (n = 0 ∨ n = 1) ∧ z.length ≤ 1000 ∧ ∀ z' : Str, z'.length ≤ z.length → Q (.str z') H) := by
  intro pins s σ H x y v u Q I rx ry h
  obtain ⟨z, n, rfl, rfl, hn, z1, q⟩ := h
  obtain ⟨t, rfl⟩ := rx
  obtain ⟨t2, rfl⟩ := ry
  rcases hn with rfl | rfl
  · exact P.mul_str_none (by decide) (by decide) ⟨.str Str.empty, H, I.tok _, ⟨_, rfl⟩, q _ (Nat.zero_le _)⟩
  · refine P.mul_str (by decide) (fun _ e => by simp at e) (fun _ e => by simp at e) ?_
    rw [if_neg (by decide), if_pos (by simp)]
    exact ⟨.str z, H, I, ⟨_, rfl⟩, q _ (Nat.le_refl _)⟩
theorem cutV_tail (xs : List V) : cutV xs (some 1) none = xs.drop 1 := by
  unfold cutV
  rw [HT.sIx_none, show (some (1 : Int)) = some ((1 : Nat) : Int) from rfl, HT.sIx_nat]
  by_cases h : 1 ≤ xs.length
  · rw [Nat.min_eq_left h, List.take_of_length_le (by rw [List.length_drop]; omega)]
  · have : xs = [] := List.eq_nil_of_length_eq_zero (by omega)
    subst this
    rfl
section
variable {p c CL q m t m' t' l : Addr} {ns : List Int} {H0 H H' : Hp} {ys zs : List Str} {B B' : Nat} {o : HO} {xs : List V}
theorem Mde.go (h : Mde CL H m t ys) (g : Go p c ns H H' B) : Mde CL H' m t ys := by
  obtain ⟨dx, ob, h1, h2, h3⟩ := h
  exact ⟨dx, ob, g.at h1 (by intro _ z; cases z), g.at h2 (by intro _ z; cases z), h3⟩
theorem Mde.mut (h : Mde CL H m t ys) (hl : H l = some (.lst xs)) : Mde CL (upd H l o) m t ys := by
  obtain ⟨dx, ob, h1, h2, h3⟩ := h
  exact ⟨dx, ob, by rw [upd_ne (ne_of h1 hl (by intro z; cases z))]; exact h1, by rw [upd_ne (ne_of h2 hl (by intro z; cases z))]; exact h2, h3⟩
theorem Mde.seq {K : PySem.W.Frag} (h : Mde CL H m t ys) : SqT K H t (ys.map V.str) := by
  obtain ⟨dx, ob, h1, h2, h3⟩ := h
  exact .inl (.inr ⟨ob, h2⟩)
end
end Ask

namespace Ask
open PySem L2
/-! ### spliced: the mirror -/
def spliceR (h t : List Run) : List Run := match h.getLast?, t with
  | some l, r :: t' => if l.1 = r.1 then h.dropLast ++ [(l.1, l.2 + r.2)] ++ t' else h ++ t
  | _, _ => h ++ t
theorem splice_nil (t : List Run) : spliceR [] t = t := rfl
theorem PairsV.get {H : Hp} {xs : List V} {rs : List Run} (h : PairsV H xs rs) {i : Nat} {r : Run} (e : rs[i]? = some r) : ∃ b, xs[i]? = some (.ref b) ∧ H b = some (.tup [.str r.1, .int r.2]) := by
  have hi : i < xs.length := by rw [h.1]; exact (List.getElem?_eq_some_iff.mp e).1
  obtain ⟨b, e2, e3⟩ := h.2 i _ r (List.getElem?_eq_getElem hi) e
  exact ⟨b, by rw [List.getElem?_eq_getElem hi, e2], e3⟩
theorem PairsV.cat {H : Hp} {xs ys : List V} {rs ss : List Run} (h : PairsV H xs rs) (k : PairsV H ys ss) : PairsV H (xs ++ ys) (rs ++ ss) := by
  refine ⟨by rw [List.length_append, List.length_append, h.1, k.1], fun i v r h1 h2 => ?_⟩
  by_cases hi : i < xs.length
  · rw [List.getElem?_append_left hi] at h1
    rw [List.getElem?_append_left (by rw [← h.1]; exact hi)] at h2
    exact h.2 i v r h1 h2
  · rw [List.getElem?_append_right (by omega)] at h1
    rw [List.getElem?_append_right (by rw [← h.1]; omega), ← h.1] at h2
    exact k.2 _ v r h1 h2
theorem PairsV.take {H : Hp} {xs : List V} {rs : List Run} (h : PairsV H xs rs) (n : Nat) : PairsV H (xs.take n) (rs.take n) := by
  refine ⟨by rw [List.length_take, List.length_take, h.1], fun i v r h1 h2 => ?_⟩
  have hi : i < n := by
    have := (List.getElem?_eq_some_iff.mp h1).1
    rw [List.length_take] at this
    omega
  rw [List.getElem?_take_of_lt hi] at h1 h2
  exact h.2 i v r h1 h2
theorem PairsV.drop {H : Hp} {xs : List V} {rs : List Run} (h : PairsV H xs rs) (n : Nat) : PairsV H (xs.drop n) (rs.drop n) := by
  refine ⟨by rw [List.length_drop, List.length_drop, h.1], fun i v r h1 h2 => ?_⟩
  rw [List.getElem?_drop] at h1 h2
  exact h.2 _ v r h1 h2
theorem PairsV.one {H : Hp} {b : Addr} {r : Run} (h : H b = some (.tup [.str r.1, .int r.2])) : PairsV H [.ref b] [r] := by
  refine ⟨rfl, fun i v r' h1 h2 => ?_⟩
  cases i with
  | zero =>
    cases h1
    cases h2
    exact ⟨b, rfl, h⟩
  | succ i => simp at h1
theorem sIx_init {n : Nat} : HT.sIx n n (some (-1)) = n - 1 := by
  show (if (-1 : Int) < 0 then ((-1 : Int) + (n : Int)).toNat else min (-1 : Int).toNat n) = _
  rw [if_pos (by decide)]
  omega
theorem sIx_one {n : Nat} (h : 1 ≤ n) : HT.sIx n 0 (some 1) = 1 := by
  show (if (1 : Int) < 0 then ((1 : Int) + (n : Int)).toNat else min (1 : Int).toNat n) = _
  rw [if_neg (by decide)]
  show min 1 n = 1
  omega
theorem atI_back {α : Type} {xs : List α} {v : α} (h : xs[xs.length - 1]? = some v) : atI xs (-1) = some v := by
  have ln := (List.getElem?_eq_some_iff.mp h).1
  have e : xs = xs.take (xs.length - 1) ++ [v] := by
    have h2 := List.take_append_getElem (l := xs) (i := xs.length - 1) ln
    rw [(List.getElem?_eq_some_iff.mp h).2] at h2
    rw [h2, List.take_of_length_le (by omega)]
  have k := atI_last (xs.take (xs.length - 1)) v
  rw [← e] at k
  exact k
section
variable {P : Program} {w : World} {K : PySem.W.Frag} {mg : Str → Option Value} {base : Heap}
def spSpliced (K : PySem.W.Frag) : Sp := fun vs H Q _ => ∃ (a b : Addr) (hs ts : List V) (h t : List Run), vs = [.ref a, .ref b] ∧ SqT K H a hs ∧ SqT K H b ts ∧ PairsV H hs h ∧ PairsV H ts t ∧ h.length ≤ 10000 ∧ t.length ≤ 10000 ∧
  ∀ (H' : Hp) (c : Addr) (ks : List V), Same H H' → SqT K H' c ks → PairsV H' ks (spliceR h t) → Q (.ref c) H'
abbrev s_spliced : Stmt := top 26
theorem sc_spliced : FnScope ["head", "tail"] ["head", "tail"] (defScope s_spliced) := ⟨rfl, rfl, rfl, by decide +kernel, rfl, by decide +kernel, by decide +kernel⟩
theorem ok_spliced {f : Addr} {fd : FuncData} (F : Fun K "spliced" "spliced" s_spliced f fd) : FnOk P w K mg base CX0 1 f fd ["head", "tail"] (spSpliced K) := by
  refine F.ok sc_spliced (fun vs H Q E h => ?_) (fun cdv A outer s H vs Q E hr h => ?_)
  · obtain ⟨a, b, hs, ts, h, t, rfl, _⟩ := h
    rfl
  · obtain ⟨a, b, hs, ts, h, t, rfl, ha, hb, hh, ht, lh, lt, k⟩ := h
    refine ⟨_, (pss_cons (ps_if (PW.pt (pw_and (pt_truth (pv 0) (by intro _; rfl)) (pw_and (pt_truth (pv 1) (by intro _; rfl)) (pw_and1 (pt_cmpR op_eq (pe_ix ix_tup (pe_ix ix_tup (pv 0) (pe_un un_neg pe_int) (fun _ _ => rfl)) pe_int (fun _ _ => rfl)) (pe_ix ix_tup (pe_ix ix_tup (pv 1) pe_int (fun _ _ => rfl)) pe_int (fun _ _ => rfl)) (nomark _)))))) (pss_one (ps_ret (pe_op op_catA (pe_op op_catA (pe_slice sl_tupA (pv 0) po_none (po_some (pe_un un_neg pe_int))) (pe_tup (pa_cons (pe_tup (pa_cons (pe_ix ix_tup (pe_ix ix_tup (pv 0) (pe_un un_neg pe_int) (fun _ _ => rfl)) pe_int (fun _ _ => rfl)) (pa_cons (pe_op op_add (pe_ix ix_tup (pe_ix ix_tup (pv 0) (pe_un un_neg pe_int) (fun _ _ => rfl)) pe_int (fun _ _ => rfl)) (pe_ix ix_tup (pe_ix ix_tup (pv 1) pe_int (fun _ _ => rfl)) pe_int (fun _ _ => rfl))) pa_nil))) pa_nil))) (pe_slice sl_tupA (pv 1) (po_some pe_int) po_none)))) pss_nil)
      (pss_one (ps_ret (pe_op op_catA (pv 0) (pv 1))))), ?_⟩
    have z1 : (100000 : Nat) ≤ sizeLine := by decide
    have e1 := hh.1
    have e2 := ht.1
    -- the plain sum
    have plain : spliceR h t = h ++ t → tRet (tOp (rCatA K) (tVar 0) (tVar 1)) { nx := fun _ H' => Q .non H', rt := Q } [some (.ref a), some (.ref b)] H := fun e => by
      have e3 : PairsV H (hs ++ ts) (spliceR h t) := by rw [e]; exact hh.cat ht
      refine ⟨_, rfl, _, rfl, a, b, hs, ts, rfl, rfl, ha, hb, by omega, fun z => ?_, fun _ z => ?_, fun _ _ p hp => ?_⟩
      · subst z
        exact k H b ts (Same.refl H) hb e3
      · subst z
        rw [List.append_nil] at e3
        exact k H a hs (Same.refl H) ha e3
      · have s1 := Ask.Same.made1 (o := .tup (hs ++ ts)) (Same.refl H) hp
        exact k _ p _ s1 (SqT.of upd_same) (e3.same s1)
    refine ⟨_, rfl, !hs.isEmpty, .inr (.inl ⟨hs, ha, rfl⟩), ite2 (fun q1 => ?_) (fun q1 => iteF (plain (by
      have q1 : (!hs.isEmpty) = false := (Bool.not_eq_true _).mp q1
      have : hs = [] := by cases hs with | nil => rfl | cons => cases q1
      subst this
      have : h = [] := List.eq_nil_of_length_eq_zero e1.symm
      subst this
      rfl)))⟩
    have q1 : hs ≠ [] := fun z => by subst z; cases q1
    refine ⟨_, rfl, !ts.isEmpty, .inr (.inl ⟨ts, hb, rfl⟩), ite2 (fun q2 => ?_) (fun q2 => iteF (plain (by
      have q2 : (!ts.isEmpty) = false := (Bool.not_eq_true _).mp q2
      have : ts = [] := by cases ts with | nil => rfl | cons => cases q2
      subst this
      have : t = [] := List.eq_nil_of_length_eq_zero e2.symm
      subst this
      unfold spliceR
      split
      · contradiction
      · rfl)))⟩
    have q2 : ts ≠ [] := fun z => by subst z; cases q2
    have l1 : 1 ≤ hs.length := List.length_pos_iff.mpr q1
    have l2 : 1 ≤ ts.length := List.length_pos_iff.mpr q2
    obtain ⟨l, hl⟩ : ∃ l, h[h.length - 1]? = some l := ⟨_, List.getElem?_eq_getElem (by omega)⟩
    obtain ⟨r, hr0⟩ : ∃ r, t[0]? = some r := ⟨_, List.getElem?_eq_getElem (by omega)⟩
    obtain ⟨x, hx, hx2⟩ := hh.get hl
    obtain ⟨y, hy, hy2⟩ := ht.get hr0
    rw [← e1] at hx
    have at1 : atI hs (-1) = some (.ref x) := atI_back hx
    have at2 : atI ts 0 = some (.ref y) := at_by (j := 0) rfl hy
    have bx0 : atI [V.str l.1, .int l.2] 0 = some (.str l.1) := at_by (j := 0) rfl rfl
    have bx1 : atI [V.str l.1, .int l.2] 1 = some (.int l.2) := at_by (j := 1) rfl rfl
    have by0 : atI [V.str r.1, .int r.2] 0 = some (.str r.1) := at_by (j := 0) rfl rfl
    have by1 : atI [V.str r.1, .int r.2] 1 = some (.int r.2) := at_by (j := 1) rfl rfl
    have sp : spliceR h t = if l.1 = r.1 then h.dropLast ++ [(l.1, l.2 + r.2)] ++ t.drop 1 else h ++ t := by
      have e3 : h.getLast? = some l := by rw [List.getLast?_eq_getElem?]; exact hl
      obtain ⟨t', rfl⟩ : ∃ t', t = r :: t' := by
        cases t with
        | nil => simp at hr0
        | cons a t => cases hr0; exact ⟨t, rfl⟩
      unfold spliceR
      rw [e3]
      rfl
    refine ⟨_, rfl, _, rfl, a, _, _, _, rfl, rfl, ha, at1, x, _, _, _, rfl, rfl, SqT.of hx2, bx0, _, rfl, b, _, _, _, rfl, rfl, hb, at2, y, _, _, _, rfl, rfl, SqT.of hy2, by0, rfl, _, rfl, ite2 (fun q3 => ?_) (fun q3 => plain (by
      have q3 : ¬ l.1 = r.1 := fun z => q3 (decide_eq_true (congrArg V.str z))
      rw [sp, if_neg q3]))⟩
    have q3 : l.1 = r.1 := V.str.inj (of_decide_eq_true q3)
    rw [if_pos q3] at sp
    refine ⟨_, rfl, _, rfl, _, rfl, a, hs, rfl, ha, fun z => ?_, fun _ p hp => ?_⟩
    · have z := z.2
      rw [sIx_init] at z
      omega
    have s1 := Ask.Same.made1 (o := .tup (cutV hs none (some (-1)))) (Same.refl H) hp
    have p1 : upd H p (.tup (cutV hs none (some (-1)))) p = some (.tup (cutV hs none (some (-1)))) := upd_same
    generalize upd H p (.tup (cutV hs none (some (-1)))) = H1 at s1 p1 ⊢
    have ha1 := seqT_same s1 ha
    have hb1 := seqT_same s1 hb
    refine ⟨_, rfl, _, rfl, a, _, _, _, rfl, rfl, ha1, at1, x, _, _, _, rfl, rfl, SqT.of (s1 _ _ hx2), bx0, ?_⟩
    refine ⟨_, rfl, _, rfl, a, _, _, _, rfl, rfl, ha1, at1, x, _, _, _, rfl, rfl, SqT.of (s1 _ _ hx2), bx1, ?_⟩
    refine ⟨_, rfl, b, _, _, _, rfl, rfl, hb1, at2, y, _, _, _, rfl, rfl, SqT.of (s1 _ _ hy2), by1, _, _, rfl, rfl, by show 2 ≤ sizeLine; decide, fun u hu => ?_⟩
    have s2 := Ask.Same.made1 (o := .tup [.str l.1, .int (l.2 + r.2)]) s1 hu
    have p2 : upd H1 u (.tup [.str l.1, .int (l.2 + r.2)]) p = some (.tup (cutV hs none (some (-1)))) := by rw [upd_ne (ne_of_none p1 hu)]; exact p1
    have u2 : upd H1 u (.tup [.str l.1, .int (l.2 + r.2)]) u = some (.tup [.str l.1, .int (l.2 + r.2)]) := upd_same
    generalize upd H1 u (.tup [.str l.1, .int (l.2 + r.2)]) = H2 at s2 p2 u2 ⊢
    refine ⟨by show 1 ≤ sizeLine; decide, fun g hg => ?_⟩
    have s3 := Ask.Same.made1 (o := .tup [.ref u]) s2 hg
    have st3 := Ask.Same.made1 (o := .tup [.ref u]) (Same.refl H2) hg
    have g3 : upd H2 g (.tup [.ref u]) g = some (.tup [.ref u]) := upd_same
    generalize upd H2 g (.tup [.ref u]) = H3 at s3 st3 g3 ⊢
    have hc : PairsV H3 (cutV hs none (some (-1))) h.dropLast := by
      rw [cutV_init, List.dropLast_eq_take, e1]
      exact (hh.take _).same s3
    have hc1 : PairsV H3 (cutV hs none (some (-1)) ++ [.ref u]) (h.dropLast ++ [(l.1, l.2 + r.2)]) := hc.cat (.one (st3 _ _ u2))
    have lc : (cutV hs none (some (-1))).length ≤ hs.length := cutV_length _ _ _
    -- the first sum
    have go : ∀ (H4 : Hp) (g4 : Addr), Same H3 H4 → SqT K H4 g4 (cutV hs none (some (-1)) ++ [.ref u]) →
        tSl (rSlA K) (tVar 1) (tPart (tC (.int 1))) tNoPart [some (.ref a), some (.ref b)] H4 fun y H2 => rCatA K (.ref g4) y H2 Q := fun H4 g4 s34 hg4 => by
      have s4 := s3.trans s34
      refine ⟨_, rfl, _, rfl, b, ts, rfl, seqT_same s4 hb, fun z => ?_, fun _ v hv => ?_⟩
      · have z := z.1
        rw [sIx_one l2] at z
        cases z
      have s45 := Ask.Same.made1 (o := .tup (cutV ts (some 1) none)) (Same.refl H4) hv
      have s5 := s4.trans s45
      have v5 : upd H4 v (.tup (cutV ts (some 1) none)) v = some (.tup (cutV ts (some 1) none)) := upd_same
      generalize upd H4 v (.tup (cutV ts (some 1) none)) = H5 at s45 s5 v5 ⊢
      rw [cutV_tail] at v5
      have ld : (ts.drop 1).length ≤ ts.length := by rw [List.length_drop]; omega
      have fin : PairsV H5 ((cutV hs none (some (-1)) ++ [.ref u]) ++ ts.drop 1) (spliceR h t) := by
        rw [sp]
        exact (hc1.same (s34.trans s45)).cat ((ht.drop 1).same s5)
      refine ⟨g4, v, _, _, rfl, rfl, seqT_same s45 hg4, SqT.of v5, by rw [List.length_append, List.length_singleton]; omega, fun z => ?_, fun _ z => ?_, fun _ _ d hd => ?_⟩
      · simp at z
      · rw [z, List.append_nil] at fin
        exact k H5 g4 _ s5 (seqT_same s45 hg4) fin
      · have s6 := Ask.Same.made1 (o := .tup ((cutV hs none (some (-1)) ++ [.ref u]) ++ ts.drop 1)) (Same.refl H5) hd
        exact k _ d _ (s5.trans s6) (SqT.of upd_same) (fin.same s6)
    refine ⟨p, g, _, _, rfl, rfl, SqT.of (st3 _ _ p2), SqT.of g3, (by rw [List.length_singleton]; omega), fun z => ?_, fun _ z => (by cases z), fun _ _ d hd => ?_⟩
    · exact go H3 g (Same.refl H3) (by rw [z]; exact SqT.of g3)
    · exact go _ d (Ask.Same.made1 (Same.refl H3) hd) (SqT.of upd_same)
end
end Ask

namespace Ask
open PySem L2
theorem seqA_same {K : PySem.W.Frag} {H H' : Hp} {a : Addr} {xs : List V} (h : SqL K H a xs ∨ SqT K H a xs) (s : Same H H') : SqL K H' a xs ∨ SqT K H' a xs := by
  rcases h with h | h
  · exact .inl (s.seq h)
  · exact .inr (seqT_same s h)
theorem joinR_len (rs : List Run) : (joinR rs).length ≤ rs.length + 1 := by
  unfold joinR
  rw [List.length_append]
  have := jrun_len rs
  have : (jrun rs).2.toList.length ≤ 1 := by cases (jrun rs).2 <;> simp
  omega
/-- what comes last: a letter or the beginning -/
def lastR (b : Str) (rs : List Run) : Str := ((rs.getLast?.map (·.1)).getD b)
/-- the attributes of a history -/
def hf (m c : Addr) (b : Str) (rs : List Run) : List (Str × V) := [("letters", .ref m), ("beginning", .str b), ("runs", .ref c), ("size", .int (sizeR rs)), ("last", .str (lastR b rs))]
/-- a history of the runs rs at p -/
def HistAt (K : PySem.W.Frag) (CL CH : Addr) (H : Hp) (p : Addr) (ys : List Str) (b : Str) (rs : List Run) : Prop := ∃ (dx m t c : Addr) (ks : List V), H p = some (.ins CH dx (hf m c b rs)) ∧ Mde CL H m t ys ∧ SqT K H c ks ∧ PairsV H ks rs
theorem HistAt.same {K : PySem.W.Frag} {CL CH p : Addr} {H H' : Hp} {ys : List Str} {b : Str} {rs : List Run} (h : HistAt K CL CH H p ys b rs) (s : Same H H') : HistAt K CL CH H' p ys b rs := by
  obtain ⟨dx, m, t, c, ks, h1, h2, h3, h4⟩ := h
  exact ⟨dx, m, t, c, ks, s _ _ h1, h2.same s, seqT_same s h3, h4.same s⟩
section
variable {P : Program} {w : World} {K : PySem.W.Frag} {mg : Str → Option Value} {base : Heap}
/-! ### is_beginning, of a text -/
def spIsBeg (K : PySem.W.Frag) : Sp := fun vs H Q _ => ∃ b : Str, vs = [.str b] ∧ (b = "new" ∨ b = "found") ∧ Q (.bl true) H
abbrev s_is_beginning : Stmt := top 33
theorem sc_is_beginning : FnScope ["value"] ["value"] (defScope s_is_beginning) := ⟨rfl, rfl, rfl, by decide +kernel, rfl, by decide +kernel, by decide +kernel⟩
theorem ok_isBeg {f : Addr} {fd : FuncData} (F : Fun K "is_beginning" "is_beginning" s_is_beginning f fd) (C : Gv K mg) : FnOk P w K mg base CX0 1 f fd ["value"] (spIsBeg K) := by
  refine F.ok sc_is_beginning (fun vs H Q E h => ?_) (fun cdv A outer s H vs Q E hr h => ?_)
  · obtain ⟨b, rfl, _⟩ := h
    rfl
  · obtain ⟨b, rfl, hb, k⟩ := h
    obtain ⟨tB, u, mB, uB, hB⟩ := C.begins
    refine ⟨_, (pss_one (ps_ret (pe_cmpR op_in_seq (pv 0) (pe_gv (v := .ref tB) rfl ⟨u, mB, uB⟩) rfl))), ?_⟩
    refine ⟨_, rfl, tB, _, rfl, .inr (hB H), rfl, rfl, ?_⟩
    rcases hb with rfl | rfl
    · exact k
    · exact k
/-! ### extended, where nothing is wrong -/
def spExtOk (K : PySem.W.Frag) (CL : Addr) : Sp := fun vs H Q _ => ∃ (m t e : Addr) (ys : List Str) (a : Addr) (hs xs : List V) (h rs : List Run), vs = [.ref m, .ref e, .ref a] ∧ Mde CL H m t ys ∧ SqT K H e hs ∧ PairsV H hs h ∧ h.length ≤ 1000 ∧ (SqL K H a xs ∨ SqT K H a xs) ∧ RunsV K H xs rs ∧ rs.length ≤ 1000 ∧
  (∀ r ∈ rs, r.1 ∈ ys ∧ 1 ≤ r.2 ∧ r.2 ≤ 1000000000000000000000000000000) ∧ (spliceR h (joinR rs)).length ≤ 400 ∧ ∀ (H' : Hp) (c : Addr) (ks : List V), Same H H' → SqT K H' c ks → PairsV H' ks (spliceR h (joinR rs)) → Q (.ref c) H'
abbrev s_extended : Stmt := top 37
theorem sc_extended : FnScope ["letters", "kept", "runs", "together"] ["letters", "kept", "runs"] (defScope s_extended) := ⟨rfl, rfl, rfl, by decide +kernel, rfl, by decide +kernel, by decide +kernel⟩
theorem ok_extOk {f fR fS fJ CL : Addr} {fd fdR fdS fdJ : FuncData} (F : Fun K "extended" "extended" s_extended f fd) (T : Blt mg) (mM : ∃ u, mg "MOST_RUNS" = some u ∧ RelV (.int 400) u)
    (GR : FnOk P w K mg base CX0 3 fR fdR ["letters", "runs"] (spReqOk K CL)) (AR : At K mg "require_runs" fR fdR ["letters", "runs"])
    (GS : FnOk P w K mg base CX0 1 fS fdS ["head", "tail"] (spSpliced K)) (AS : At K mg "spliced" fS fdS ["head", "tail"])
    (GJ : FnOk P w K mg base CX0 1 fJ fdJ ["runs"] (spJoined K)) (AJ : At K mg "joined" fJ fdJ ["runs"]) :
    FnOk P w K mg base CX0 4 f fd ["letters", "kept", "runs"] (spExtOk K CL) := by
  refine F.ok sc_extended (fun vs H Q E h => ?_) (fun cdv A outer s H vs Q E hr h => ?_)
  · obtain ⟨m, t, e, ys, a, hs, xs, h, rs, rfl, _⟩ := h
    rfl
  · obtain ⟨m, t, e, ys, a, hs, xs, h, rs, rfl, hM, he, hh, lh, ha, hR, ln, hok, lm, k⟩ := h
    have hr1 := hr.mono (j := 1) (by decide)
    refine ⟨_, (pss_cons (ps_expr (pe_call GR hr (by rfl) AR.m AR.k AR.b .nil pass0 (pa_cons (pv 0) (pa_cons (pv 2) pa_nil))))
      (pss_cons (ps_set (i := 3) sc_extended.nd rfl (Or.inl rfl) (pe_call GS hr1 (by rfl) AS.m AS.k AS.b .nil pass0 (pa_cons (pv 1) (pa_cons (pe_call GJ hr1 (by rfl) AJ.m AJ.k AJ.b .nil pass0 (pa_cons (pv 2) pa_nil)) pa_nil))))
      (pss_cons (ps_if (pt_cmpR op_gt (pe_callB call_len_seq (by rfl) T.n_len (by decide +kernel) (pa_cons (pv 3) pa_nil)) (pe_gv rfl mM) (nomark _)) pss_never pss_nil)
      (pss_one (ps_ret (pv 3)))))), ?_⟩
    refine ⟨_, rfl, _, rfl, m, t, ys, a, xs, rs, rfl, hM, ha, hR, by omega, hok, fun H1 s1 => ?_⟩
    refine ⟨_, rfl, _, rfl, a, xs, rs, rfl, seqA_same ha s1, hR.same s1, by omega, fun H2 j js s2 hj hjs => ?_⟩
    have s02 := s1.trans s2
    refine ⟨e, j, hs, js, h, joinR rs, rfl, seqT_same s02 he, SqT.of hj, hh.same s02, hjs, by omega, (by have := joinR_len rs; omega), fun H3 c ks s3 hc hks => ?_⟩
    have s03 := s02.trans s3
    refine ⟨_, rfl, c, ks, rfl, .inr hc, _, _, rfl, rfl, _, rfl, ?_⟩
    have e1 := hks.1
    rw [decide_eq_false (by omega)]
    exact iteF ⟨_, rfl, k H3 c ks s03 hc hks⟩
end
end Ask

namespace Ask
open PySem L2
theorem kit_other {K : PySem.W.Frag} {T : String} {C : Addr} (h1 : PySem.W.isClsIn K C = true) (h2 : PySem.W.typeIn K (.ref C) = some (.type "type")) (h3 : PySem.W.subIn K (.type T) (.ref C) = some false) : PySem.W.kitOne K (.type T) (.ref C) = some false := by
  unfold PySem.W.kitOne
  rw [if_neg (by simp)]
  have e2 : ((PySem.W.clsIn K C).isSome && PySem.W.typeIn K (.ref C) == some (.type "type")) = true := by
    have h2' : (PySem.W.clsIn K C).isSome = true := h1
    rw [h2', h2] <;> rfl
  show (if ((PySem.W.clsIn K C).isSome && PySem.W.typeIn K (.ref C) == some (.type "type")) = true then PySem.W.subIn K (.type T) (.ref C) else none) = some false
  rw [if_pos e2]
  exact h3
theorem sub_list {K : PySem.W.Frag} {C : Addr} : PySem.W.subIn K (.type "list") (.ref C) = some false := by
  show (fastBuiltinMro "list").map (·.contains (.ref C)) = some false
  have e : fastBuiltinMro "list" = some [.type "list", .type "object"] := by decide +kernel
  rw [e]
  rfl
theorem sub_tuple {K : PySem.W.Frag} {C : Addr} : PySem.W.subIn K (.type "tuple") (.ref C) = some false := by
  show (fastBuiltinMro "tuple").map (·.contains (.ref C)) = some false
  have e : fastBuiltinMro "tuple" = some [.type "tuple", .type "object"] := by decide +kernel
  rw [e]
  rfl
/-- a class that is another one than list and tuple -/
structure OnC (K : PySem.W.Frag) (mg : Str → Option Value) (x : Str) (C : Addr) : Prop where
  m : mg x = some (.ref C)
  i : PySem.W.isClsIn K C = true
  t : PySem.W.typeIn K (.ref C) = some (.type "type")
theorem ty_seqA {K : PySem.W.Frag} {mg : Str → Option Value} {x : Str} {C a : Addr} {H : Hp} {xs : List V} (h : SqL K H a xs ∨ SqT K H a xs) (o : OnC K mg x C) : ∃ ty, TyX K H (.ref a) ty ∧ PySem.W.kitOne K ty (.ref C) = some false := by
  rcases h with h | h
  · exact ⟨_, ty_list h, kit_other o.i o.t sub_list⟩
  · exact ⟨_, ty_tup h, kit_other o.i o.t sub_tuple⟩
/-- the attributes that a history is given -/
structure HsC (K : PySem.W.Frag) (C : Addr) : Prop where
  c : Cls K C
  a1 : NoAttr K C "letters"
  a2 : NoAttr K C "beginning"
  a3 : NoAttr K C "runs"
  a4 : NoAttr K C "size"
  a5 : NoAttr K C "last"
section
variable {K : PySem.W.Frag} {H H' : Hp} {p a m t CL C dx : Addr} {ys : List Str} {fs : List (Str × V)} {xs : List V} {rs : List Run}
theorem Mde.but (h : Mde CL H m t ys) (k : ∀ b o, b ≠ p → H b = some o → H' b = some o) (hp : H p = some (.ins C dx fs)) (n : fs ≠ ([("words", V.ref t)] : List (Str × V)) := by intro z; cases z) : Mde CL H' m t ys := by
  obtain ⟨dx', ob, h1, h2, h3⟩ := h
  refine ⟨dx', ob, k _ _ ?_ h1, k _ _ ?_ h2, h3⟩
  · refine ne_of h1 hp ?_
    intro z
    injection z with z1 z2 z3
    exact n z3.symm
  · exact ne_of h2 hp (by intro z; cases z)
theorem seqL_but (h : SqL K H a xs) (k : ∀ b o, b ≠ p → H b = some o → H' b = some o) (hp : H p = some (.ins C dx fs)) : SqL K H' a xs := by
  rcases h with (h | ⟨o, h⟩) | h
  · exact .inl (.inl (k _ _ (ne_of h hp (by intro z; cases z)) h))
  · exact .inl (.inr ⟨o, k _ _ (ne_of h hp (by intro z; cases z)) h⟩)
  · exact .inr h
theorem seqT_but (h : SqT K H a xs) (k : ∀ b o, b ≠ p → H b = some o → H' b = some o) (hp : H p = some (.ins C dx fs)) : SqT K H' a xs := by
  rcases h with (h | ⟨o, h⟩) | h
  · exact .inl (.inl (k _ _ (ne_of h hp (by intro z; cases z)) h))
  · exact .inl (.inr ⟨o, k _ _ (ne_of h hp (by intro z; cases z)) h⟩)
  · exact .inr h
theorem seqA_but (h : SqL K H a xs ∨ SqT K H a xs) (k : ∀ b o, b ≠ p → H b = some o → H' b = some o) (hp : H p = some (.ins C dx fs)) : SqL K H' a xs ∨ SqT K H' a xs := by
  rcases h with h | h
  · exact .inl (seqL_but h k hp)
  · exact .inr (seqT_but h k hp)
theorem RunsV.but (h : RunsV K H xs rs) (k : ∀ b o, b ≠ p → H b = some o → H' b = some o) (hp : H p = some (.ins C dx fs)) : RunsV K H' xs rs := by
  refine ⟨h.1, fun i v r h1 h2 => ?_⟩
  obtain ⟨b, e, h3⟩ := h.2 i v r h1 h2
  exact ⟨b, e, seqA_but h3 k hp⟩
theorem PairsV.but (h : PairsV H xs rs) (k : ∀ b o, b ≠ p → H b = some o → H' b = some o) (hp : H p = some (.ins C dx fs)) : PairsV H' xs rs :=
  ⟨h.1, fun i v r h1 h2 => let ⟨b, e, h3⟩ := h.2 i v r h1 h2; ⟨b, e, k _ _ (ne_of h3 hp (by intro z; cases z)) h3⟩⟩
end
section
variable {P : Program} {w : World} {K : PySem.W.Frag} {mg : Str → Option Value} {base : Heap}
/-! ### require_beginning, where nothing is wrong -/
def spReqBeg : Sp := fun vs H Q _ => ∃ (b : Str), vs = [.str b] ∧ (b = "new" ∨ b = "found") ∧ Q .non H
abbrev s_require_beginning : Stmt := top 34
theorem sc_require_beginning : FnScope ["value"] ["value"] (defScope s_require_beginning) := ⟨rfl, rfl, rfl, by decide +kernel, rfl, by decide +kernel, by decide +kernel⟩
theorem ok_reqBeg {f fB : Addr} {fd fdB : FuncData} (F : Fun K "require_beginning" "require_beginning" s_require_beginning f fd)
    (GB : FnOk P w K mg base CX0 1 fB fdB ["value"] (spIsBeg K)) (AB : At K mg "is_beginning" fB fdB ["value"]) :
    FnOk P w K mg base CX0 2 f fd ["value"] spReqBeg := by
  refine F.ok sc_require_beginning (fun vs H Q E h => ?_) (fun cdv A outer s H vs Q E hr h => ?_)
  · obtain ⟨b, rfl, _⟩ := h
    rfl
  · obtain ⟨b, rfl, hb, k⟩ := h
    refine ⟨_, (pss_one (ps_if (pt_not (pt_val (pe_call GB hr (by rfl) AB.m AB.k AB.b .nil pass0 (pa_cons (pv 0) pa_nil)))) pss_never pss_nil)), ?_⟩
    exact ⟨_, rfl, b, rfl, hb, _, rfl, iteF k⟩
def spHist (K : PySem.W.Frag) (CL CH : Addr) : Sp := fun vs H Q _ => ∃ (p dx m t a : Addr) (b : Str) (ys : List Str) (xs : List V) (rs : List Run), vs = [.ref p, .ref m, .str b, .ref a] ∧ H p = some (.ins CH dx []) ∧ Mde CL H m t ys ∧ (b = "new" ∨ b = "found") ∧
  (SqL K H a xs ∨ SqT K H a xs) ∧ RunsV K H xs rs ∧ rs.length ≤ 1000 ∧ (∀ r ∈ rs, r.1 ∈ ys ∧ 1 ≤ r.2 ∧ r.2 ≤ 1000000000000000000000000000000) ∧ (joinR rs).length ≤ 400 ∧
  ∀ (H' : Hp) (c : Addr) (ks : List V), H' p = some (.ins CH dx (hf m c b (joinR rs))) → Mde CL H' m t ys → SqT K H' c ks → PairsV H' ks (joinR rs) → (∀ b o, b ≠ p → H b = some o → H' b = some o) → Q .non H'
abbrev s_Hist_init : Stmt := inClass (top 39) 0
theorem sc_Hist_init : FnScope ["self", "letters", "beginning", "runs"] ["self", "letters", "beginning", "runs"] (defScope s_Hist_init) := ⟨rfl, rfl, rfl, by decide +kernel, rfl, by decide +kernel, by decide +kernel⟩
theorem hist_binds {K : PySem.W.Frag} {d : V} {f : Addr} {fd : FuncData} (F : FunD K "__init__" "History.__init__" (defArgs s_Hist_init) (defBody s_Hist_init) (defScope s_Hist_init) [d] [] f fd) : (∃ u, RelV d u ∧ Binds K fd ["self", "letters", "beginning", "runs"] [u]) ∧ Binds K fd ["self", "letters", "beginning", "runs"] [] := by
  constructor
  · obtain ⟨ds, r, b⟩ := F.binds1 (ps := ["self", "letters", "beginning", "runs"]) 3 0 (by simp) rfl fun T kV doc pm an cdv ct us its hu hi => match us, hu, its, hi with | [_, _, _], _, [_], _ => ⟨_, rfl, rfl⟩
    obtain ⟨u, rfl, ru⟩ := vals1 r
    exact ⟨u, ru, b⟩
  · obtain ⟨ds, r, b⟩ := F.binds1 (ps := ["self", "letters", "beginning", "runs"]) 4 1 (by simp) rfl fun T kV doc pm an cdv ct us its hu hi => match us, hu, its, hi with | [_, _, _, _], _, [_], _ => ⟨_, rfl, rfl⟩
    cases r
    exact b
theorem ok_histInit {dvs : List V} {f fB fX fZ CL CH CK : Addr} {fd fdB fdX fdZ : FuncData} (F : FunD K "__init__" "History.__init__" (defArgs s_Hist_init) (defBody s_Hist_init) (defScope s_Hist_init) dvs [] f fd) (T : Blt mg) (hC : HsC K CH) (O : OnC K mg "CheckedRuns" CK)
    (GB : FnOk P w K mg base CX0 2 fB fdB ["value"] spReqBeg) (AB : At K mg "require_beginning" fB fdB ["value"])
    (GX : FnOk P w K mg base CX0 4 fX fdX ["letters", "kept", "runs"] (spExtOk K CL)) (AX : At K mg "extended" fX fdX ["letters", "kept", "runs"])
    (GZ : FnOk P w K mg base CX0 1 fZ fdZ ["runs"] (spSize K)) (AZ : At K mg "size_of" fZ fdZ ["runs"]) :
    FnOk P w K mg base CX0 5 f fd ["self", "letters", "beginning", "runs"] (spHist K CL CH) := by
  refine F.ok sc_Hist_init (fun vs H Q E h => ?_) (fun cdv A outer s H vs Q E hr h => ?_)
  · obtain ⟨p, dx, m, t, a, b, ys, xs, rs, rfl, _⟩ := h
    rfl
  · obtain ⟨p, dx, m, t, a, b, ys, xs, rs, rfl, hp, hM, hb, ha, hR, ln, hok, lm, k⟩ := h
    have hr1 := hr.mono (j := 1) (by decide)
    refine ⟨_, PSs.nox (pss_cons (ps_expr (pe_call GB (hr.mono (by decide)) (by rfl) AB.m AB.k AB.b .nil pass0 (pa_cons (pv 2) pa_nil)))
      (pss_cons (ps_fld (pv 0) (pv 1) rfl)
      (pss_cons (ps_fld (pv 0) (pv 2) rfl)
      (pss_cons (ps_fld (pv 0) (pe_ifExp (pt_val (pe_callB call_isi (by rfl) T.n_isinstance (by decide +kernel) (pa_cons (pv 3) (pa_cons (pe_gv (v := .ref CK) rfl ⟨_, O.m, rfl⟩) pa_nil)))) (pe_fld (pv 3) rfl) (pe_call GX hr (by rfl) AX.m AX.k AX.b .nil pass0 (pa_cons (pv 1) (pa_cons (pe_tup pa_nil) (pa_cons (pv 3) pa_nil))))) rfl)
      (pss_cons (ps_fld (pv 0) (pe_call GZ hr1 (by rfl) AZ.m AZ.k AZ.b .nil pass0 (pa_cons (pe_fld (pv 0) rfl) pa_nil)) rfl)
      (pss_one (ps_fld (pv 0) (pe_ifExp (pt_truth (pe_fld (pv 0) rfl) (by intro _; rfl)) (pe_ix ix_tup (pe_ix ix_tup (pe_fld (pv 0) rfl) (pe_un un_neg pe_int) (fun _ _ => rfl)) pe_int (fun _ _ => rfl)) (pv 2)) rfl))))))), ?_⟩
    refine ⟨_, rfl, b, rfl, hb, ?_⟩
    -- letters, beginning
    refine ⟨_, rfl, _, rfl, p, CH, dx, [], rfl, hp, hC.c, hC.a1, (by show 0 < 1000; decide), ?_⟩
    have p1 : upd H p (.ins CH dx [("letters", .ref m)]) p = some (.ins CH dx [("letters", .ref m)]) := upd_same
    refine ⟨_, rfl, _, rfl, p, CH, dx, _, rfl, p1, hC.c, hC.a2, (by show 1 < 1000; decide), ?_⟩
    have p2 : upd (upd H p (.ins CH dx (putF "letters" (.ref m) []))) p (.ins CH dx (putF "beginning" (.str b) [("letters", .ref m)])) p = some (.ins CH dx [("letters", .ref m), ("beginning", .str b)]) := upd_same
    have k2 : ∀ b' o, b' ≠ p → H b' = some o → upd (upd H p (.ins CH dx (putF "letters" (.ref m) []))) p (.ins CH dx (putF "beginning" (.str b) [("letters", .ref m)])) b' = some o := fun b' o hb e => by rw [upd_ne hb, upd_ne hb]; exact e
    generalize upd (upd H p (.ins CH dx (putF "letters" (.ref m) []))) p (.ins CH dx (putF "beginning" (.str b) [("letters", .ref m)])) = H2 at p2 k2 ⊢
    have hM2 := hM.but k2 hp
    have ha2 := seqA_but ha k2 hp
    have hR2 := hR.but k2 hp
    -- runs
    obtain ⟨ty, hty, hkt⟩ := ty_seqA ha2 O
    refine ⟨_, rfl, .ref a, .ref CK, ty, _, false, rfl, .own CK, hty, hkt, _, rfl, iteF ?_⟩
    refine ⟨_, rfl, by show 0 ≤ sizeLine; decide, fun e he => ?_⟩
    have s3 := Ask.Same.made1 (o := .tup []) (Same.refl H2) he
    have e3 : upd H2 e (.tup []) e = some (.tup []) := upd_same
    generalize upd H2 e (.tup []) = H3 at s3 e3 ⊢
    refine ⟨_, rfl, m, t, e, ys, a, [], xs, [], rs, rfl, hM2.same s3, SqT.of e3, PairsV.nil, by show 0 ≤ 1000; decide, seqA_same ha2 s3, hR2.same s3, ln, hok, by rw [splice_nil]; exact lm, fun H4 c ks s4 hc hks => ?_⟩
    rw [splice_nil] at hks
    have s24 := s3.trans s4
    refine ⟨_, rfl, p, CH, dx, _, rfl, s24 _ _ p2, hC.c, hC.a3, (by show 2 < 1000; decide), ?_⟩
    have p5 : upd H4 p (.ins CH dx (putF "runs" (.ref c) [("letters", .ref m), ("beginning", .str b)])) p = some (.ins CH dx [("letters", .ref m), ("beginning", .str b), ("runs", .ref c)]) := upd_same
    have k5 : ∀ b' o, b' ≠ p → H4 b' = some o → upd H4 p (.ins CH dx (putF "runs" (.ref c) [("letters", .ref m), ("beginning", .str b)])) b' = some o := fun b' o hb e => by rw [upd_ne hb]; exact e
    generalize upd H4 p (.ins CH dx (putF "runs" (.ref c) [("letters", .ref m), ("beginning", .str b)])) = H5 at p5 k5 ⊢
    have p4 := s24 _ _ p2
    have hM5 := (hM2.same s24).but k5 p4
    have hc5 := seqT_but hc k5 p4
    have hks5 := hks.but k5 p4
    have kk5 : ∀ b' o, b' ≠ p → H b' = some o → H5 b' = some o := fun b' o hb e => k5 _ _ hb (s24 _ _ (k2 _ _ hb e))
    -- size
    refine ⟨_, rfl, p, CH, dx, _, _, rfl, p5, hC.c, hC.a3, rfl, c, ks, joinR rs, rfl, .inr hc5, hks5.runs, by omega, fun H6 s6 => ?_⟩
    have p6 := s6 _ _ p5
    refine ⟨_, rfl, p, CH, dx, _, rfl, p6, hC.c, hC.a4, (by show 3 < 1000; decide), ?_⟩
    have p7 : upd H6 p (.ins CH dx (putF "size" (.int (sizeR (joinR rs))) [("letters", .ref m), ("beginning", .str b), ("runs", .ref c)])) p = some (.ins CH dx [("letters", .ref m), ("beginning", .str b), ("runs", .ref c), ("size", .int (sizeR (joinR rs)))]) := upd_same
    have k7 : ∀ b' o, b' ≠ p → H6 b' = some o → upd H6 p (.ins CH dx (putF "size" (.int (sizeR (joinR rs))) [("letters", .ref m), ("beginning", .str b), ("runs", .ref c)])) b' = some o := fun b' o hb e => by rw [upd_ne hb]; exact e
    generalize upd H6 p (.ins CH dx (putF "size" (.int (sizeR (joinR rs))) [("letters", .ref m), ("beginning", .str b), ("runs", .ref c)])) = H7 at p7 k7 ⊢
    have hM7 := (hM5.same s6).but k7 p6
    have hc7 := seqT_but (seqT_same s6 hc5) k7 p6
    have hks7 := (hks5.same s6).but k7 p6
    have kk7 : ∀ b' o, b' ≠ p → H b' = some o → H7 b' = some o := fun b' o hb e => k7 _ _ hb (s6 _ _ (kk5 _ _ hb e))
    -- last
    have fin : ∀ z : Str, z = lastR b (joinR rs) → Q .non (upd H7 p (.ins CH dx (putF "last" (.str z) [("letters", .ref m), ("beginning", .str b), ("runs", .ref c), ("size", .int (sizeR (joinR rs)))]))) := fun z hz => by
      have p8 : upd H7 p (.ins CH dx (putF "last" (.str z) [("letters", .ref m), ("beginning", .str b), ("runs", .ref c), ("size", .int (sizeR (joinR rs)))])) p = some (.ins CH dx (hf m c b (joinR rs))) := by
        rw [hz]
        exact upd_same
      have k8 : ∀ b' o, b' ≠ p → H7 b' = some o → upd H7 p (.ins CH dx (putF "last" (.str z) [("letters", .ref m), ("beginning", .str b), ("runs", .ref c), ("size", .int (sizeR (joinR rs)))])) b' = some o := fun b' o hb e => by rw [upd_ne hb]; exact e
      exact k _ c ks p8 (hM7.but k8 p7) (seqT_but hc7 k8 p7) (hks7.but k8 p7) fun b' o hb e => k8 _ _ hb (kk7 _ _ hb e)
    refine ⟨_, rfl, p, CH, dx, _, _, rfl, p7, hC.c, hC.a3, rfl, !ks.isEmpty, .inr (.inl ⟨ks, hc7, rfl⟩), ite2 (fun q => ?_) (fun q => ?_)⟩
    · have q0 : ks ≠ [] := fun z => by subst z; cases q
      have l1 : 1 ≤ ks.length := List.length_pos_iff.mpr q0
      have e1 := hks7.1
      obtain ⟨l, hl⟩ : ∃ l, (joinR rs)[(joinR rs).length - 1]? = some l := ⟨_, List.getElem?_eq_getElem (by omega)⟩
      obtain ⟨x, hx, hx2⟩ := hks7.get hl
      rw [← e1] at hx
      refine ⟨_, rfl, p, CH, dx, _, _, rfl, p7, hC.c, hC.a3, rfl, _, rfl, c, _, _, _, rfl, rfl, hc7, atI_back hx, x, _, _, _, rfl, rfl, SqT.of hx2, at_by (j := 0) rfl rfl, ?_⟩
      refine ⟨_, rfl, p, CH, dx, _, rfl, p7, hC.c, hC.a5, (by show 4 < 1000; decide), fin l.1 ?_⟩
      unfold lastR
      rw [List.getLast?_eq_getElem?, hl]
      rfl
    · have q : (!ks.isEmpty) = false := (Bool.not_eq_true _).mp q
      have q0 : ks = [] := by cases ks with | nil => rfl | cons => cases q
      have q1 : joinR rs = [] := List.eq_nil_of_length_eq_zero (by rw [← hks7.1, q0]; rfl)
      refine ⟨_, rfl, _, rfl, p, CH, dx, _, rfl, p7, hC.c, hC.a5, (by show 4 < 1000; decide), fin b ?_⟩
      rw [q1]
      rfl
end
end Ask

namespace Ask
open PySem L2
section
variable {K : PySem.W.Frag} {H H' : Hp} {a b : Addr} {xs ys : List V} {Q : VK} {lo hi : Option Int}
theorem sl_any (h : SqT K H a xs) (k : ∀ (H' : Hp) (q : Addr), Same H H' → SqT K H' q (cutV xs lo hi) → Q (.ref q) H') : rSlA K (.ref a) lo hi H Q := by
  refine ⟨a, xs, rfl, h, fun z => ?_, fun _ p hp => k _ p (Ask.Same.made1 (Same.refl H) hp) (SqT.of upd_same)⟩
  refine k H a (Same.refl H) ?_
  have e : cutV xs lo hi = xs := by
    unfold cutV
    rw [z.1, z.2, List.drop_zero, Nat.sub_zero, List.take_length]
  rw [e]
  exact h
theorem sl_from {σ : L2.St} (h : SqT K H a xs) (k : ∀ (H' : Hp) (q : Addr), Same H H' → SqT K H' q (cutV xs lo none) → Q (.ref q) H') : tNoPart σ H (fun u H1 => rSlA K (.ref a) lo u H1 Q) := by
  show rSlA K (.ref a) lo none H Q
  exact sl_any h k
theorem cat_any (h : SqT K H a xs) (h' : SqT K H b ys) (l : xs.length + ys.length ≤ 1000000) (k : ∀ (H' : Hp) (q : Addr), Same H H' → SqT K H' q (xs ++ ys) → Q (.ref q) H') : rCatA K (.ref a) (.ref b) H Q := by
  have z1 : (1000000 : Nat) ≤ sizeLine := by decide
  refine ⟨a, b, xs, ys, rfl, rfl, h, h', by omega, fun z => ?_, fun _ z => ?_, fun _ _ p hp => k _ p (Ask.Same.made1 (Same.refl H) hp) (SqT.of upd_same)⟩
  · subst z
    exact k H b (Same.refl H) h'
  · subst z
    exact k H a (Same.refl H) (by rw [List.append_nil]; exact h)
theorem cutV_to {n : Nat} : cutV xs none (some (n : Int)) = xs.take n := by
  unfold cutV
  rw [HT.sIx_none, HT.sIx_nat, List.drop_zero, Nat.sub_zero]
  by_cases h : n ≤ xs.length
  · rw [Nat.min_eq_left h]
  · rw [Nat.min_eq_right (by omega), List.take_length, List.take_of_length_le (by omega)]
theorem cutV_from {n : Nat} : cutV xs (some (n : Int)) none = xs.drop n := by
  unfold cutV
  rw [HT.sIx_none, HT.sIx_nat]
  by_cases h : n ≤ xs.length
  · rw [Nat.min_eq_left h, List.take_of_length_le (by rw [List.length_drop]; omega)]
  · rw [Nat.min_eq_right (by omega), Nat.sub_self, List.take_zero, List.drop_of_length_le (by omega)]
end
/-! ### parted: the mirror -/
def partR : List Run → Int → Option (List Run × List Run)
  | [], n => if n = 0 then some ([], []) else none
  | r :: rs, n => if n = 0 then some ([], r :: rs) else if n < r.2 then some ([(r.1, n)], (r.1, r.2 - n) :: rs) else (partR rs (n - r.2)).map fun p => (r :: p.1, p.2)
def partAt (rs : List Run) (i : Nat) (n : Int) : Option (List Run × List Run) := (partR (rs.drop i) n).map fun p => (rs.take i ++ p.1, p.2)
theorem partAt_zero (rs : List Run) (n : Int) : partAt rs 0 n = partR rs n := by
  unfold partAt
  rw [List.drop_zero, List.take_zero]
  cases partR rs n <;> rfl
theorem partAt_eq0 {rs : List Run} {i : Nat} {r : Run} (h : rs[i]? = some r) : partAt rs i 0 = some (rs.take i, rs.drop i) := by
  unfold partAt
  rw [List.drop_eq_getElem_cons (List.getElem?_eq_some_iff.mp h).1, partR, if_pos rfl, Option.map_some, List.append_nil]
theorem partAt_lt {rs : List Run} {i : Nat} {r : Run} {n : Int} (h : rs[i]? = some r) (h0 : n ≠ 0) (h1 : n < r.2) : partAt rs i n = some (rs.take i ++ [(r.1, n)], (r.1, r.2 - n) :: rs.drop (i + 1)) := by
  unfold partAt
  obtain ⟨hi, e⟩ := List.getElem?_eq_some_iff.mp h
  rw [List.drop_eq_getElem_cons hi, e, partR, if_neg h0, if_pos h1]
  rfl
theorem partAt_ge {rs : List Run} {i : Nat} {r : Run} {n : Int} (h : rs[i]? = some r) (h0 : n ≠ 0) (h1 : ¬ n < r.2) : partAt rs i n = partAt rs (i + 1) (n - r.2) := by
  unfold partAt
  obtain ⟨hi, e⟩ := List.getElem?_eq_some_iff.mp h
  rw [List.drop_eq_getElem_cons hi, e, partR, if_neg h0, if_neg h1, List.take_add_one, h]
  cases partR (rs.drop (i + 1)) (n - r.2) with
  | none => rfl
  | some p =>
    show some (rs.take i ++ r :: p.1, p.2) = some (rs.take i ++ [r] ++ p.1, p.2)
    rw [List.append_assoc]
    rfl
theorem partAt_end {rs : List Run} {n : Int} : partAt rs rs.length n = if n = 0 then some (rs, []) else none := by
  unfold partAt
  rw [List.drop_length, partR, List.take_length]
  by_cases h : n = 0
  · rw [if_pos h, if_pos h, Option.map_some, List.append_nil]
  · rw [if_neg h, if_neg h]
    rfl
section
variable {P : Program} {w : World} {K : PySem.W.Frag} {mg : Str → Option Value} {base : Heap}
def spParted (K : PySem.W.Frag) : Sp := fun vs H Q _ => ∃ (a : Addr) (n : Int) (ks : List V) (rs : List Run), vs = [.ref a, .int n] ∧ SqT K H a ks ∧ PairsV H ks rs ∧ rs.length ≤ 10000 ∧
  (∀ f b, partR rs n = some (f, b) → ∀ (H' : Hp) (t x y : Addr) (xs ys : List V), Same H H' → H' t = some (.tup [.ref x, .ref y]) → SqT K H' x xs → PairsV H' xs f → SqT K H' y ys → PairsV H' ys b → Q (.ref t) H') ∧
  (partR rs n = none → ∀ H', Same H H' → Q .non H')
abbrev s_parted : Stmt := top 27
theorem sc_parted : FnScope ["runs", "size", "left", "index", "letter", "count"] ["runs", "size"] (defScope s_parted) := ⟨rfl, rfl, rfl, by decide +kernel, rfl, by decide +kernel, by decide +kernel⟩
theorem ok_parted {f : Addr} {fd : FuncData} (F : Fun K "parted" "parted" s_parted f fd) (T : Blt mg) : FnOk P w K mg base CX0 1 f fd ["runs", "size"] (spParted K) := by
  refine F.ok sc_parted (fun vs H Q E h => ?_) (fun cdv A outer s H vs Q E hr h => ?_)
  · obtain ⟨a, n, ks, rs, rfl, _⟩ := h
    rfl
  · obtain ⟨a, n, ks, rs, rfl, ha, hR, ln, k, kN⟩ := h
    refine ⟨_, (pss_cons (ps_set (i := 2) sc_parted.nd rfl (Or.inl rfl) (pv 1))
      (pss_cons (ps_for PassesOwn.never rfl (pi_enumA (by rfl) T.n_enumerate (pa_cons (pv 0) pa_nil)) (pg_tup rfl (pgs_cons (pg_name (i := 3) sc_parted.nd rfl (Or.inl rfl)) (pgs_cons (pg_tup rfl (pgs_cons (pg_name (i := 4) sc_parted.nd rfl (Or.inl rfl)) (pgs_cons (pg_name (i := 5) sc_parted.nd rfl (Or.inl rfl)) pgs_nil))) pgs_nil))) (pss_cons (ps_if (pt_cmpR op_eq (pv 2) pe_int (nomark _)) (pss_one (ps_ret (pe_tup (pa_cons (pe_slice sl_tupA (pv 0) po_none (po_some (pv 3))) (pa_cons (pe_slice sl_tupA (pv 0) (po_some (pv 3)) po_none) pa_nil))))) pss_nil)
      (pss_cons (ps_if (pt_cmpR op_lt (pv 2) (pv 5) (nomark _)) (pss_one (ps_ret (pe_tup (pa_cons (pe_op op_catA (pe_slice sl_tupA (pv 0) po_none (po_some (pv 3))) (pe_tup (pa_cons (pe_tup (pa_cons (pv 4) (pa_cons (pv 2) pa_nil))) pa_nil))) (pa_cons (pe_op op_catA (pe_tup (pa_cons (pe_tup (pa_cons (pv 4) (pa_cons (pe_op op_sub (pv 5) (pv 2)) pa_nil))) pa_nil)) (pe_slice sl_tupA (pv 0) (po_some (pe_op op_add (pv 3) pe_int)) po_none)) pa_nil))))) pss_nil)
      (pss_one (ps_set (i := 2) sc_parted.nd rfl (Or.inl rfl) (pe_op op_sub (pv 2) (pv 5)))))))
      (pss_one (ps_ret (pe_ifExp (pt_cmpR op_eq (pv 2) pe_int (nomark _)) (pe_tup (pa_cons (pv 0) (pa_cons (pe_tup pa_nil) pa_nil))) pe_non))))), ?_⟩
    have z1 : (100000 : Nat) ≤ sizeLine := by decide
    have el := hR.1
    refine ⟨_, rfl, ?_⟩
    have fits : ∀ (R : It → Hp → Prop), R (IteT K a) H → iEnumA K (tCons (tVar 0) tNil) [some (.ref a), some (.int n), some (.int n), none, none, none] H R := fun R r => ⟨_, rfl, a, ks, rfl, .inr ⟨ha, r⟩⟩
    refine for_enum fits walk_enumT (fun i σ' H' => ∃ (l : Int) (o3 o4 o5 : Option V), σ' = [some (.ref a), some (.int n), some (.int l), o3, o4, o5] ∧ Same H H' ∧ partR rs n = partAt rs i l)
      ⟨n, none, none, none, rfl, Same.refl H, (partAt_zero rs n).symm⟩ (fun i σ' H' _ ⟨_, _, _, _, _, s', _⟩ => seqT_same s' ha) ?_ ?_
    · rintro i x σ' H2 H3 hi ⟨l, o3, o4, o5, rfl, s2, ep⟩ ⟨t2, x0, y0, rfl, ht, rfl, ex, ey⟩
      cases ex
      replace ey : ks[i]? = some y0 := ey
      obtain ⟨r, hri⟩ : ∃ r, rs[i]? = some r := ⟨_, List.getElem?_eq_getElem (by omega)⟩
      obtain ⟨b, rfl, hb⟩ := hR.2 i y0 r ey hri
      have s3 := Ask.Same.made1 (o := .tup [.int (i : Nat), .ref b]) s2 ht
      have ht3 : upd H2 t2 (.tup [.int (i : Nat), .ref b]) t2 = some (.tup [.int (i : Nat), .ref b]) := upd_same
      generalize upd H2 t2 (.tup [.int (i : Nat), .ref b]) = H4 at s3 ht3 ⊢
      have hb4 := s3 _ _ hb
      refine ⟨t2, _, rfl, SqT.of ht3, rfl, _, _, rfl, _, _, rfl, b, _, rfl, SqT.of hb4, rfl, _, _, rfl, _, _, rfl, rfl, rfl, ?_⟩
      have ha4 := seqT_same s3 ha
      refine ⟨_, rfl, rfl, _, rfl, ite2 (fun q => ?_) (fun q => ?_)⟩
      · have q : l = 0 := V.int.inj (of_decide_eq_true q)
        subst q
        rw [partAt_eq0 hri] at ep
        refine ⟨_, rfl, _, rfl, _, rfl, sl_any ha4 fun H5 u s5 hu => ?_⟩
        have ha5 := seqT_same s5 ha4
        refine ⟨_, rfl, _, rfl, _, rfl, sl_from ha5 fun H6 v s6 hv => ?_⟩
        refine ⟨by show 2 ≤ sizeLine; decide, fun t ht => ?_⟩
        have s7 := Ask.Same.made1 (o := .tup [.ref u, .ref v]) (Same.refl H6) ht
        have s67 := s6.trans s7
        have s47 := (s5.trans s67)
        rw [cutV_to] at hu
        rw [cutV_from] at hv
        exact k _ _ ep _ t u v _ _ (s3.trans s47) upd_same (seqT_same s67 hu) ((hR.take i).same (s3.trans s47)) (seqT_same s7 hv) ((hR.drop i).same (s3.trans s47))
      have q0 : ¬ l = 0 := fun z => q (decide_eq_true (congrArg V.int z))
      clear q
      refine ⟨_, rfl, _, rfl, _, _, rfl, rfl, _, rfl, ite2 (fun q => ?_) (fun q => ?_)⟩
      · have q : l < r.2 := of_decide_eq_true q
        rw [partAt_lt hri q0 q] at ep
        -- the first part
        refine ⟨_, rfl, _, rfl, _, rfl, sl_any ha4 fun H5 u s5 hu => ?_⟩
        rw [cutV_to] at hu
        refine ⟨_, rfl, _, rfl, by show 2 ≤ sizeLine; decide, fun v hv => ?_⟩
        have s6 := Ask.Same.made1 (o := .tup [.str r.1, .int l]) (Same.refl H5) hv
        have hv6 : upd H5 v (.tup [.str r.1, .int l]) v = some (.tup [.str r.1, .int l]) := upd_same
        generalize upd H5 v (.tup [.str r.1, .int l]) = H6 at s6 hv6 ⊢
        refine ⟨by show 1 ≤ sizeLine; decide, fun w hw => ?_⟩
        have s7 := Ask.Same.made1 (o := .tup [.ref v]) (Same.refl H6) hw
        have hw7 : upd H6 w (.tup [.ref v]) w = some (.tup [.ref v]) := upd_same
        generalize upd H6 w (.tup [.ref v]) = H7 at s7 hw7 ⊢
        have s57 := s6.trans s7
        have lk : (ks.take i).length ≤ ks.length := by rw [List.length_take]; omega
        refine cat_any (seqT_same s57 hu) (SqT.of hw7) (by rw [List.length_singleton]; omega) fun H8 g s8 hg => ?_
        have s48 := (s5.trans s57).trans s8
        have hf8 : PairsV H8 (ks.take i ++ [.ref v]) (rs.take i ++ [(r.1, l)]) := ((hR.take i).same (s3.trans s48)).cat (.one (s8 _ _ (s7 _ _ hv6)))
        have ha8 := seqT_same s48 ha4
        clear hw7 hv6 hw hv hu s57 s7 s6 s5
        -- the second part
        refine ⟨_, rfl, _, rfl, _, rfl, _, _, rfl, rfl, by show 2 ≤ sizeLine; decide, fun v hv => ?_⟩
        have s6 := Ask.Same.made1 (o := .tup [.str r.1, .int (r.2 - l)]) (Same.refl H8) hv
        have hv6 : upd H8 v (.tup [.str r.1, .int (r.2 - l)]) v = some (.tup [.str r.1, .int (r.2 - l)]) := upd_same
        generalize upd H8 v (.tup [.str r.1, .int (r.2 - l)]) = H9 at s6 hv6 ⊢
        refine ⟨by show 1 ≤ sizeLine; decide, fun w hw => ?_⟩
        have s7 := Ask.Same.made1 (o := .tup [.ref v]) (Same.refl H9) hw
        have hw7 : upd H9 w (.tup [.ref v]) w = some (.tup [.ref v]) := upd_same
        generalize upd H9 w (.tup [.ref v]) = Ha at s7 hw7 ⊢
        refine ⟨_, rfl, _, rfl, _, _, rfl, rfl, _, rfl, sl_from (seqT_same (s6.trans s7) ha8) fun Hb u2 s9 hu2 => ?_⟩
        rw [show ((i : Nat) : Int) + 1 = ((i + 1 : Nat) : Int) from rfl, cutV_from] at hu2
        have ld : (ks.drop (i + 1)).length ≤ ks.length := by rw [List.length_drop]; omega
        refine cat_any (seqT_same s9 (SqT.of hw7)) hu2 (by rw [List.length_singleton]; omega) fun Hc g2 s10 hg2 => ?_
        have s8c := ((s6.trans s7).trans s9).trans s10
        have s04 := s3.trans (s48.trans s8c)
        have hb8 : PairsV Hc ([.ref v] ++ ks.drop (i + 1)) ((r.1, r.2 - l) :: rs.drop (i + 1)) := (PairsV.one (r := (r.1, r.2 - l)) (s10 _ _ (s9 _ _ (s7 _ _ hv6)))).cat ((hR.drop (i + 1)).same s04)
        refine ⟨by show 2 ≤ sizeLine; decide, fun t ht => ?_⟩
        have s11 := Ask.Same.made1 (o := .tup [.ref g, .ref g2]) (Same.refl Hc) ht
        exact k _ _ ep _ t g g2 _ _ (s04.trans s11) upd_same (seqT_same (s8c.trans s11) hg) (hf8.same (s8c.trans s11)) (seqT_same s11 hg2) (hb8.same s11)
      · have q : ¬ l < r.2 := fun z => q (decide_eq_true z)
        rw [partAt_ge hri q0 q] at ep
        refine ⟨_, rfl, _, rfl, _, _, rfl, rfl, l - r.2, _, _, _, rfl, s3, ep⟩
    · rintro σ' H2 ⟨l, o3, o4, o5, rfl, s2, ep⟩
      rw [el, partAt_end] at ep
      refine ⟨_, rfl, rfl, _, rfl, ite2 (fun q => ?_) (fun q => ?_)⟩
      · have q : l = 0 := V.int.inj (of_decide_eq_true q)
        subst q
        rw [if_pos rfl] at ep
        refine ⟨_, rfl, by show 0 ≤ sizeLine; decide, fun e he => ?_⟩
        have s3 := Ask.Same.made1 (o := .tup []) s2 he
        have he3 : upd H2 e (.tup []) e = some (.tup []) := upd_same
        generalize upd H2 e (.tup []) = H3 at s3 he3 ⊢
        refine ⟨by show 2 ≤ sizeLine; decide, fun t ht => ?_⟩
        have s4 := Ask.Same.made1 (o := .tup [.ref a, .ref e]) (Same.refl H3) ht
        exact k _ _ ep _ t a e _ _ (s3.trans s4) upd_same (seqT_same (s3.trans s4) ha) (hR.same (s3.trans s4)) (seqT_same s4 (SqT.of he3)) PairsV.nil
      · have q0 : ¬ l = 0 := fun z => q (decide_eq_true (congrArg V.int z))
        rw [if_neg q0] at ep
        exact kN ep H2 s2
end
end Ask

/-! defs that are called where no repr is under way; repr of any data -/
namespace Ask
open PySem L2 PySem.Spec PyProof.Rows
structure FnG (P : Program) (w : World) (K : PySem.W.Frag) (mg : Str → Option Value) (base : Heap) (CX : CXT) (k : Nat) (f : Addr) (fd : FuncData) (ps : List Str) (sp : Sp) : Prop where
  long : ∀ xs J R Z, sp xs J R Z → xs.length = ps.length
  goes : ∀ (A : Around) (out : List Env) (s : Shared) (J : Hp) (args : Args) (us : List Value) (xs : List V) (R : VK) (Z : XK), A.guards = some [] → Room k A → Env0 P w K mg base A out s J → BindsTo s fd args (ps.zip us) → Vals xs us → sp xs J R Z →
    codeAny (model P w) A (.call (.ref f) args) (CR CX out P w J s R Z) s
theorem FnG.mk0 {P : Program} {w : World} {K : PySem.W.Frag} {mg : Str → Option Value} {base : Heap} {CX : CXT} {k : Nat} {f : Addr} {x qual : Str} {st : Stmt} {fd : FuncData} {N ps : List Str} {sp : Sp} (F : Fun K x qual st f fd) (S : FnScope N ps (defScope st)) (ln : ∀ xs J R Z, sp xs J R Z → xs.length = ps.length)
    (hb : ∀ (cdv : Value) (A : Around) (out : List Env) (s : Shared) (J : Hp) (xs : List V) (R : VK) (Z : XK), A.guards = some [] → Room k (A.deeper (envOfC qual (defScope st) s.heap.objs.size f cdv)) → sp xs J R Z →
      ∃ t, PSs (cxOf CX P w K mg base N qual (defScope st) f cdv A out s J Z) (defBody st) t ∧ t { nx := fun _ H' => R .non H', rt := R } (start N xs) J) : FnG P w K mg base CX (k + 1) f fd ps sp :=
  ⟨ln, fun A out s J args us xs R Z hg hr e0 bd r q => fn_run F S hr e0 bd r (ln _ _ _ _ q) fun cdv hr' => hb cdv A out s J xs R Z hg hr' q⟩
theorem run_fnG {X : Cx} {CX : CXT} {k : Nat} {f : Addr} {fd : FuncData} {ps : List Str} {sp : Sp} {Z : XK} {pins : List (Addr × Obj)} {σ : L2.St} {J : Hp} {s : Shared} {R : VK} {us : List Value} {xs : List V} (F : FnG X.prog X.w X.K X.mg X.base CX k f fd ps sp) (hg : X.A.guards = some []) (hr : Room k X.A)
    (hb : Binds X.K fd ps []) (hx : Passes CX X Z) (I : Inv X pins σ J s) (r : Vals xs us) (q : sp xs J R Z) : wpAny (model X.prog X.w) X.A (call (.ref f) us) (EP X pins σ R) X.xe s := by
  have ul : us.length = ps.length := r.length.symm.trans (F.long _ _ _ _ q)
  have bd := hb s us I.kIn ((List.append_nil us).symm ▸ ul)
  rw [List.append_nil] at bd
  refine wpAny_call (codeAny_mono (F.goes X.A X.stack s J ⟨us, []⟩ us xs R Z hg hr I.env0 bd r q) fun got s' z => ?_)
  rcases got with e | fl
  · exact hx pins σ J s e s' I z
  · cases fl <;> first | exact I.after z | exact False.elim z
theorem pe_callG {X : Cx} {CX : CXT} {k : Nat} {f : Addr} {fd : FuncData} {ps : List Str} {sp : Sp} {Z : XK} {x : Str} {p pos : Pos} {e : Expr} {es : List Expr} {t : TA} (F : FnG X.prog X.w X.K X.mg X.base CX k f fd ps sp) (hG : X.A.guards = some []) (hr : Room k X.A) (hg : Gl X x) (hm : X.mg x = some (.ref f))
    (hk : PySem.W.keepIn X.K (.ref f) = true) (hb : Binds X.K fd ps []) (hx : Passes CX X Z) (ha : PA X (e :: es) t) (hdb : (x == ("__debug__" : Str)) = false := by decide) (he : starEach (e :: es) X.env = (false, eval e X.env) :: starEach es X.env := by rfl) (hpl : (backTo pos (starEach es X.env)).any (·.1) = false := by rfl) :
    PE X (.Call (.Name x p) (e :: es) [] pos) (fun σ J R => t σ J fun xs J1 => sp xs J1 R Z) := by
  constructor
  intro pins s σ J R I q
  refine wpAny_Call_Name_kw (ld_glob I hg hm ?_ hdb)
  exact PySem.W.callWith_K (h₀ := X.base) I.ok.mod.kin hk (thn (ha.run pos pins s σ J _ I q) fun us s1 ⟨xs, J1, I1, r, z⟩ => ⟨I1.kIn, run_fnG F hG hr hb hx I1 r z⟩) he hpl
/-- repr of data of any kind -/
def rReprV (K : PySem.W.Frag) : List V → Hp → VK → Prop := fun xs J R => ∃ (x : V) (d : PyData), xs = [x] ∧ Dp K J x d ∧ d.showable = true ∧ d.hasDict = false ∧ d.depth ≤ 30 ∧ d.shown.length ≤ sizeLine ∧ R (.str d.shown) J
theorem call_reprV {X : Cx} (hg : X.A.guards = some []) (hu : X.A.units + 64 < cLine) : CallR X (.builtin "repr") (rReprV X.K) := by
  intro pins s σ J xs us R I r h
  obtain ⟨x, d, rfl, hd, sh, nd, dp, sz, q⟩ := h
  have lst : ∀ a, x = .ref a → wpAny (model X.prog X.w) X.A (call (.builtin "repr") us) (EP X pins σ R) X.xe s := fun a e => by
    subst e
    exact call_reprD hg hu pins s σ J _ us R I r ⟨a, d, rfl, hd, sh, nd, dp, sz, q⟩
  obtain ⟨u, rfl, ra⟩ := vals1 r
  cases hd with
  | non =>
    obtain rfl : u = Value.none := ra
    exact P.repr_of_none ⟨.str _, J, I.tok _, ⟨_, rfl⟩, by simpa only [PyData.shown] using q⟩
  | bl b =>
    obtain rfl : u = Value.bool b := ra
    exact P.repr_of_bool ⟨.str _, J, I.tok _, ⟨_, rfl⟩, by simpa only [PyData.shown] using q⟩
  | int i =>
    obtain ⟨t, rfl⟩ := ra
    exact P.repr_of_int (of_decide_eq_true (by simpa only [PyData.showable] using sh)) ⟨.str _, J, I.tok _, ⟨_, rfl⟩, by simpa only [PyData.shown] using q⟩
  | str z =>
    obtain ⟨t, rfl⟩ := ra
    exact P.repr_of_str ⟨.str _, J, I.tok _, ⟨_, rfl⟩, by simpa only [PyData.shown] using q⟩ (by simpa only [PyData.shown] using sz)
  | lst h1 h2 => exact lst _ rfl
  | tup h1 h2 => exact lst _ rfl
end Ask

namespace Ask
open PySem L2
/-- a value that is no object -/
def Fl (x : V) : Prop := x = .non ∨ (∃ b, x = .bl b) ∨ (∃ i, x = .int i) ∨ ∃ z, x = .str z
theorem Fl.kit {K : PySem.W.Frag} {H : Hp} {x : V} (h : Fl x) : ∃ T, TyX K H x (.type T) ∧ PySem.W.kitOne K (.type T) (.type "list") = some false ∧ PySem.W.kitOne K (.type T) (.type "tuple") = some false ∧ PySem.W.kitOne K (.type T) (.type "dict") = some false := by
  rcases h with rfl | ⟨b, rfl⟩ | ⟨i, rfl⟩ | ⟨z, rfl⟩
  · exact ⟨_, .base .non, kit_ty (by decide +kernel), kit_ty (by decide +kernel), kit_ty (by decide +kernel)⟩
  · exact ⟨_, .base (.bl b), kit_ty (by decide +kernel), kit_ty (by decide +kernel), kit_ty (by decide +kernel)⟩
  · exact ⟨_, .base (.int i), kit_ty (by decide +kernel), kit_ty (by decide +kernel), kit_ty (by decide +kernel)⟩
  · exact ⟨_, .base (.str z), kit_ty (by decide +kernel), kit_ty (by decide +kernel), kit_ty (by decide +kernel)⟩
/-- a value that is no object, as data -/
def flD : V → PyData
  | .bl b => .bool b
  | .int i => .int i
  | .str z => .str z
  | _ => .none
theorem Fl.dp {K : PySem.W.Frag} {H : Hp} {x : V} (h : Fl x) : Dp K H x (flD x) := by
  rcases h with rfl | ⟨b, rfl⟩ | ⟨i, rfl⟩ | ⟨z, rfl⟩
  · exact .non
  · exact .bl b
  · exact .int i
  · exact .str z
theorem Fl.dps {K : PySem.W.Frag} {H : Hp} : ∀ {zs : List V}, (∀ z ∈ zs, Fl z) → DpAll K H zs (zs.map flD)
  | [], _ => .nil
  | z :: zs, h => .cons (h z (List.mem_cons_self ..)).dp (Fl.dps fun x hx => h x (List.mem_cons_of_mem _ hx))
/-- what is copied, as x: itself, or a list or a tuple of such; D tells it -/
def CopyOk (K : PySem.W.Frag) (H : Hp) (x : V) (D : PyData) : Prop := (Fl x ∧ D = flD x) ∨ ∃ (a : Addr) (zs : List V), x = .ref a ∧ (∀ z ∈ zs, Fl z) ∧ zs.length ≤ 1000 ∧ ((SqL K H a zs ∧ D = .list (zs.map flD)) ∨ (SqT K H a zs ∧ D = .tuple (zs.map flD)))
/-- y is a copy of what D tells -/
def Cpy (D : PyData) (H' : Hp) (y : V) : Prop := (Fl y ∧ D = flD y) ∨ ∃ (b : Addr) (zs : List V), y = .ref b ∧ (∀ z ∈ zs, Fl z) ∧ ((D = .list (zs.map flD) ∧ H' b = some (.lst zs)) ∨ (D = .tuple (zs.map flD) ∧ H' b = some (.tup zs)))
theorem Cpy.dp {K : PySem.W.Frag} {D : PyData} {H : Hp} {y : V} (h : Cpy D H y) : Dp K H y D := by
  rcases h with ⟨h, rfl⟩ | ⟨b, zs, rfl, f, ⟨rfl, h⟩ | ⟨rfl, h⟩⟩
  · exact h.dp
  · exact .lst (SqL.of h) (Fl.dps f)
  · exact .tup (SqT.of h) (Fl.dps f)
theorem Cpy.same {D : PyData} {H1 H2 : Hp} {y : V} (h : Cpy D H1 y) (s : Same H1 H2) : Cpy D H2 y := by
  rcases h with h | ⟨b, zs, e2, f, h⟩
  · exact .inl h
  · refine .inr ⟨b, zs, e2, f, ?_⟩
    rcases h with ⟨h1, h2⟩ | ⟨h1, h2⟩
    · exact .inl ⟨h1, s _ _ h2⟩
    · exact .inr ⟨h1, s _ _ h2⟩
theorem CopyOk.same {K : PySem.W.Frag} {H H' : Hp} {x : V} {D : PyData} (h : CopyOk K H x D) (s : Same H H') : CopyOk K H' x D := by
  rcases h with h | ⟨a, zs, e1, f, l, h⟩
  · exact .inl h
  · refine .inr ⟨a, zs, e1, f, l, ?_⟩
    rcases h with ⟨h1, h2⟩ | ⟨h1, h2⟩
    · exact .inl ⟨s.seq h1, h2⟩
    · exact .inr ⟨seqT_same s h1, h2⟩
section
variable {P : Program} {w : World} {K : PySem.W.Frag} {mg : Str → Option Value} {base : Heap}
def spCopyF : Sp := fun vs H Q _ => ∃ x : V, vs = [x] ∧ Fl x ∧ Q x H
theorem sc_copiedN : FnScope ["value", "part", "key"] ["value"] (defScope s_copied) := ⟨rfl, rfl, rfl, by decide +kernel, rfl, by decide +kernel, by decide +kernel⟩
theorem ok_copiedF {f : Addr} {fd : FuncData} (F : Fun K "copied" "copied" s_copied f fd) (T : Blt mg) (nD : mg "dict" = none) : FnOk P w K mg base CX0 1 f fd ["value"] spCopyF := by
  refine F.ok sc_copiedN (fun vs H Q E h => ?_) (fun cdv A outer s H vs Q E hr h => ?_)
  · obtain ⟨x, rfl, _⟩ := h
    rfl
  · obtain ⟨x, rfl, hx, k⟩ := h
    refine ⟨_, (pss_cons (ps_if (pt_val (pe_callB call_isi (by rfl) T.n_isinstance (by decide +kernel) (pa_cons (pv 0) (pa_cons (pe_bltn (v := .ty "list") (u := .type "list") rfl T.n_list (by decide +kernel) rfl) pa_nil)))) pss_never pss_nil)
      (pss_cons (ps_if (pt_val (pe_callB call_isi (by rfl) T.n_isinstance (by decide +kernel) (pa_cons (pv 0) (pa_cons (pe_bltn (v := .ty "tuple") (u := .type "tuple") rfl T.n_tuple (by decide +kernel) rfl) pa_nil)))) pss_never pss_nil)
      (pss_cons (ps_if (pt_val (pe_callB call_isi (by rfl) T.n_isinstance (by decide +kernel) (pa_cons (pv 0) (pa_cons (pe_bltn (v := .ty "dict") (u := .type "dict") rfl nD (by decide +kernel) rfl) pa_nil)))) pss_never pss_nil)
      (pss_one (ps_ret (pv 0)))))), ?_⟩
    obtain ⟨t, ty, k1, k2, k3⟩ := hx.kit (K := K) (H := H)
    exact ⟨_, rfl, _, _, _, _, false, rfl, .ty _, ty, k1, _, rfl, iteF ⟨_, rfl, _, _, _, _, false, rfl, .ty _, ty, k2, _, rfl, iteF ⟨_, rfl, _, _, _, _, false, rfl, .ty _, ty, k3, _, rfl, iteF ⟨_, rfl, k⟩⟩⟩⟩
def spCopyD (K : PySem.W.Frag) : Sp := fun vs H Q _ => ∃ (x : V) (D : PyData), vs = [x] ∧ CopyOk K H x D ∧ ∀ (H' : Hp) (y : V), Same H H' → Cpy D H' y → Q y H'
theorem ok_copiedD {f : Addr} {fd : FuncData} (F : Fun K "copied" "copied" s_copied f fd) (T : Blt mg) (nD : mg "dict" = none) (G1 : FnOk P w K mg base CX0 1 f fd ["value"] spCopyF) (A1 : At K mg "copied" f fd ["value"]) : FnOk P w K mg base CX0 2 f fd ["value"] (spCopyD K) := by
  refine F.ok sc_copiedN (fun vs H Q E h => ?_) (fun cdv A outer s H vs Q E hr h => ?_)
  · obtain ⟨x, D0, rfl, _⟩ := h
    rfl
  · obtain ⟨x, D0, rfl, hx, k⟩ := h
    refine ⟨_, (pss_cons (ps_if (pt_val (pe_callB call_isi (by rfl) T.n_isinstance (by decide +kernel) (pa_cons (pv 0) (pa_cons (pe_bltn (v := .ty "list") (u := .type "list") rfl T.n_list (by decide +kernel) rfl) pa_nil)))) (pss_one (ps_ret (pe_lc (own := [("part", 1)]) rfl sc_copiedN.nd (pi_list (pv 0)) (blkOk_by (N := ["value", "part", "key"]) (sc := defScope s_copied) (by decide +kernel)) (fun _ _ _ _ _ => (pg_name (i := 1) sc_copiedN.nd rfl (Or.inl rfl))) (fun _ _ _ _ _ => pts_nil) (fun _ _ _ _ _ => (pe_call G1 (by exact hr) (by rfl) A1.m A1.k A1.b .nil pass0 (pa_cons (pv 1) pa_nil)))))) pss_nil)
      (pss_cons (ps_if (pt_val (pe_callB call_isi (by rfl) T.n_isinstance (by decide +kernel) (pa_cons (pv 0) (pa_cons (pe_bltn (v := .ty "tuple") (u := .type "tuple") rfl T.n_tuple (by decide +kernel) rfl) pa_nil)))) (pss_one (ps_ret (pe_callTy call_tuple_of (by rfl) T.n_tuple (by decide +kernel) (pa_cons (pe_lc (own := [("part", 1)]) rfl sc_copiedN.nd (pi_tup (pv 0)) (blkOk_by (N := ["value", "part", "key"]) (sc := defScope s_copied) (by decide +kernel)) (fun _ _ _ _ _ => (pg_name (i := 1) sc_copiedN.nd rfl (Or.inl rfl))) (fun _ _ _ _ _ => pts_nil) (fun _ _ _ _ _ => (pe_call G1 (by exact hr) (by rfl) A1.m A1.k A1.b .nil pass0 (pa_cons (pv 1) pa_nil)))) pa_nil)))) pss_nil)
      (pss_cons (ps_if (pt_val (pe_callB call_isi (by rfl) T.n_isinstance (by decide +kernel) (pa_cons (pv 0) (pa_cons (pe_bltn (v := .ty "dict") (u := .type "dict") rfl nD (by decide +kernel) rfl) pa_nil)))) pss_never pss_nil)
      (pss_one (ps_ret (pv 0)))))), ?_⟩
    have z1 : (1000 : Nat) < sizeLine := by decide
    rcases hx with ⟨hx, rfl⟩ | ⟨a, zs, rfl, hz, lz, h⟩
    · obtain ⟨t, ty, k1, k2, k3⟩ := hx.kit (K := K) (H := H)
      exact ⟨_, rfl, _, _, _, _, false, rfl, .ty _, ty, k1, _, rfl, iteF ⟨_, rfl, _, _, _, _, false, rfl, .ty _, ty, k2, _, rfl, iteF ⟨_, rfl, _, _, _, _, false, rfl, .ty _, ty, k3, _, rfl, iteF ⟨_, rfl, k H x (Same.refl H) (.inl ⟨hx, rfl⟩)⟩⟩⟩⟩
    rcases h with ⟨h, rfl⟩ | ⟨h, rfl⟩
    · refine ⟨_, rfl, _, _, _, _, true, rfl, .ty _, ty_list h, kit_ty (by show kitB "list" "list" = some true; decide +kernel), _, rfl, iteT ?_⟩
      refine ⟨_, rfl, a, rfl, ⟨_, h⟩, fun D hD => lc_list (K := K) (a := a) (xs := zs) (fun i H' => Same H H' ∧ H' D = some (.lst (zs.take i))) ⟨Ask.Same.upd_new (Same.refl _) hD, upd_same⟩ (fun i H' _ hh => hh.1.seq h) ?_ ?_⟩
      · rintro i v H' hi ⟨s', hD'⟩
        refine ⟨rfl, _, rfl, v, rfl, hz v (List.mem_of_getElem? hi), _, hD', by rw [List.length_take]; omega, Ask.Same.upd_new s' hD, ?_⟩
        rw [upd_same, List.take_add_one, hi]
        rfl
      · rintro H' ⟨s', hD'⟩
        rw [List.take_length] at hD'
        exact k H' _ s' (.inr ⟨D, zs, rfl, hz, .inl ⟨rfl, hD'⟩⟩)
    · refine ⟨_, rfl, _, _, _, _, false, rfl, .ty _, ty_tup h, kit_ty (by show kitB "tuple" "list" = some false; decide +kernel), _, rfl, iteF ?_⟩
      refine ⟨_, rfl, _, _, _, _, true, rfl, .ty _, ty_tup h, kit_ty (by show kitB "tuple" "tuple" = some true; decide +kernel), _, rfl, iteT ?_⟩
      refine ⟨_, rfl, a, rfl, ⟨_, h⟩, fun D hD => lc_tup (K := K) (a := a) (xs := zs) (fun i H' => Same H H' ∧ H' D = some (.lst (zs.take i))) ⟨Ask.Same.upd_new (Same.refl _) hD, upd_same⟩ (fun i H' _ hh => seqT_same hh.1 h) ?_ ?_⟩
      · rintro i v H' hi ⟨s', hD'⟩
        refine ⟨rfl, _, rfl, v, rfl, hz v (List.mem_of_getElem? hi), _, hD', by rw [List.length_take]; omega, Ask.Same.upd_new s' hD, ?_⟩
        rw [upd_same, List.take_add_one, hi]
        rfl
      · rintro H' ⟨s', hD'⟩
        rw [List.take_length] at hD'
        refine ⟨D, zs, rfl, .inl ⟨SqL.of hD', fun t ht => k _ _ (Ask.Same.made1 s' ht) (.inr ⟨t, zs, rfl, hz, .inr ⟨rfl, upd_same⟩⟩)⟩⟩
end
end Ask

namespace Ask
open PySem L2
theorem Cpy.but {D : PyData} {H1 H2 : Hp} {y : V} (h : Cpy D H1 y) (k : ∀ b o, (∃ zs, o = .lst zs ∨ o = .tup zs) → H1 b = some o → H2 b = some o) : Cpy D H2 y := by
  rcases h with h | ⟨b, zs, e2, f, h⟩
  · exact .inl h
  · refine .inr ⟨b, zs, e2, f, ?_⟩
    rcases h with ⟨h1, h2⟩ | ⟨h1, h2⟩
    · exact .inl ⟨h1, k _ _ ⟨zs, .inl rfl⟩ h2⟩
    · exact .inr ⟨h1, k _ _ ⟨zs, .inr rfl⟩ h2⟩
section
variable {P : Program} {w : World} {K : PySem.W.Frag} {mg : Str → Option Value} {base : Heap}
def spBP (K : PySem.W.Frag) (C : Addr) : Sp := fun vs H Q _ => ∃ (a : Addr) (x : V) (D : PyData), vs = [.ref a, x] ∧ CopyOk K H x D ∧ H a = some (exo a C none) ∧
  ∀ (H' : Hp) (dx : Addr) (y : V), H dx = none → dx ≠ a → H' a = some (exo a C (some dx)) → H' dx = some (exd dx [("place", y)]) → Cpy D H' y → (∀ b o, b ≠ a → H b = some o → H' b = some o) → Q .non H'
abbrev s_BadPlace_init : Stmt := inClass (top 16) 0
theorem sc_BadPlace_init : FnScope ["self", "place"] ["self", "place"] (defScope s_BadPlace_init) := ⟨rfl, rfl, rfl, by decide +kernel, rfl, by decide +kernel, by decide +kernel⟩
theorem ok_bpInit {f fC C : Addr} {fd fdC : FuncData} (F : Fun K "__init__" "BadPlace.__init__" s_BadPlace_init f fd) (T : OexC K C) (h1 : PySem.W.findIn K (.ref C) "place" = some none)
    (GC : FnOk P w K mg base CX0 2 fC fdC ["value"] (spCopyD K)) (CP : At K mg "copied" fC fdC ["value"]) : FnOk P w K mg base CX0 3 f fd ["self", "place"] (spBP K C) := by
  refine F.ok sc_BadPlace_init (fun vs H Q E h => ?_) (fun cdv A outer s H vs Q E hr h => ?_)
  · obtain ⟨a, x, D, rfl, _⟩ := h
    rfl
  · obtain ⟨a, x, D, rfl, hx, ha, k⟩ := h
    refine ⟨_, pss_one (ps_ost (pv 0) (pe_call GC hr (by rfl) CP.m CP.k CP.b .nil pass0 (pa_cons (pv 1) pa_nil))), ?_⟩
    refine ⟨_, rfl, x, D, rfl, hx, fun H1 y s1 hc => ?_⟩
    refine ⟨_, rfl, a, C, rfl, T, h1, .inl ⟨s1 _ _ ha, fun dx hdx hne => ?_⟩⟩
    have ke : ∀ b o, b ≠ a → H1 b = some o → upd (upd H1 dx (exd dx (putF "place" y []))) a (exo a C (some dx)) b = some o := fun b o hb e => by
      rw [upd_ne hb, upd_ne (ne_of_none e hdx)]
      exact e
    refine k _ dx y (s1.free hdx) hne upd_same (by rw [upd_ne hne]; exact upd_same) (hc.but fun b o ho e => ke b o ?_ e) fun b o hb e => ke b o hb (s1 _ _ e)
    intro z
    subst z
    rw [s1 _ _ ha] at e
    obtain ⟨zs, ho | ho⟩ := ho <;> subst ho <;> cases e
def okSize : List V → Prop := fun ws => ∃ i : Int, ws = [.int i]
def fsSize : List V → List (Str × V) := fun ws => match ws with
  | [v] => [("size", v)]
  | _ => []
abbrev s_TooLong_init : Stmt := inClass (top 17) 0
theorem sc_TooLong_init : FnScope ["self", "size"] ["self", "size"] (defScope s_TooLong_init) := ⟨rfl, rfl, rfl, by decide +kernel, rfl, by decide +kernel, by decide +kernel⟩
theorem ok_tlInit {f fC C : Addr} {fd fdC : FuncData} (F : Fun K "__init__" "TooLong.__init__" s_TooLong_init f fd) (T : OexC K C) (h1 : PySem.W.findIn K (.ref C) "size" = some none)
    (GC : FnOk P w K mg base CX0 1 fC fdC ["value"] spCopyF) (CP : At K mg "copied" fC fdC ["value"]) : FnOk P w K mg base CX0 2 f fd ["self", "size"] (spErr C okSize fsSize) := by
  refine F.ok sc_TooLong_init (fun vs H Q E h => ?_) (fun cdv A outer s H vs Q E hr h => ?_)
  · obtain ⟨a, ws, rfl, ⟨i, rfl⟩, _⟩ := h
    rfl
  · obtain ⟨a, ws, rfl, ⟨i, rfl⟩, ha, k⟩ := h
    refine ⟨_, pss_one (ps_ost (pv 0) (pe_call GC hr (by rfl) CP.m CP.k CP.b .nil pass0 (pa_cons (pv 1) pa_nil))), ?_⟩
    refine ⟨_, rfl, _, rfl, .inr (.inr (.inl ⟨i, rfl⟩)), _, rfl, a, C, rfl, T, h1, .inl ⟨ha, fun dx hdx hne => ?_⟩⟩
    refine k _ dx hdx hne upd_same (by rw [upd_ne hne]; exact upd_same) fun b o hb e => ?_
    rw [upd_ne hb, upd_ne (ne_of_none e hdx)]
    exact e
end
end Ask

namespace Ask
open PySem L2
section
variable {P : Program} {w : World} {K : PySem.W.Frag} {mg : Str → Option Value} {base : Heap}
def OddPl (n : Int) (x : V) (u v : Bool) : Prop := (u && !v) = false ∨ ((u && !v) = true ∧ ∃ i : Int, x = .int i ∧ ¬ (0 ≤ i ∧ i < n))
def spGet (K : PySem.W.Frag) (CL CH CE : Addr) : Sp := fun vs H Q E => ∃ (p : Addr) (ys : List Str) (b : Str) (rs : List Run) (x : V) (ty : Value) (u v : Bool) (D : PyData), vs = [.ref p, x] ∧ HistAt K CL CH H p ys b rs ∧ rs.length ≤ 10000 ∧
  TyX K H x ty ∧ PySem.W.kitOne K ty (.type "int") = some u ∧ PySem.W.kitOne K ty (.type "bool") = some v ∧
  (((u && !v) = true ∧ ∃ (n : Int) (f b : List Run) (r : Run), x = .int n ∧ 0 ≤ n ∧ n < sizeR rs ∧ partR rs n = some (f, r :: b) ∧ ∀ H', Same H H' → Q (.str r.1) H') ∨
   (OddPl (sizeR rs) x u v ∧ CopyOk K H x D ∧ ∀ (H' : Hp) (d : Addr) (y : V), Same H H' → H' d = some (.xd [("place", y)]) → Cpy D H' y → E (.ref CE) (some d) H'))
abbrev s_Get : Stmt := inClass (top 39) 4
theorem sc_Get : FnScope ["self", "at"] ["self", "at"] (defScope s_Get) := ⟨rfl, rfl, rfl, by decide +kernel, rfl, by decide +kernel, by decide +kernel⟩
theorem ok_get {f fW fP fE CL CH CE : Addr} {fd fdW fdP fdE : FuncData} (F : Fun K "__getitem__" "History.__getitem__" s_Get f fd) (hC : HsC K CH)
    (GW : FnOk P w K mg base CX0 1 fW fdW ["value"] (spWhole K)) (AW : At K mg "is_whole" fW fdW ["value"])
    (GP : FnOk P w K mg base CX0 1 fP fdP ["runs", "size"] (spParted K)) (AP : At K mg "parted" fP fdP ["runs", "size"])
    (GE : FnOk P w K mg base CX0 3 fE fdE ["self", "place"] (spBP K CE)) (EE : ErrAt K mg "BadPlace" CE fE fdE ["self", "place"]) :
    FnOk P w K mg base (L2.CX P w) 5 f fd ["self", "at"] (spGet K CL CH CE) := by
  refine F.okX sc_Get (fun vs H Q E h => ?_) (fun cdv A outer s H vs Q E hr h => ?_)
  · obtain ⟨p, ys, b, rs, x, ty, u, v, D, rfl, _⟩ := h
    rfl
  · obtain ⟨p, ys, b, rs, x, ty, u, v, D, rfl, ⟨dx, m, t, c, ks, hp, hM, hc, hks⟩, ln, hty, hu, hv, h⟩ := h
    have hr1 := hr.mono (j := 1) (by decide)
    refine ⟨_, (pss_cons (ps_if (PW.pt (pw_or (pt_not (pt_val (pe_call GW hr1 (by rfl) AW.m AW.k AW.b .nil pass0 (pa_cons (pv 1) pa_nil)))) (pw_or1 (pt_not (pt_chain op_le op_lt pe_int (pv 1) (pe_fld (pv 0) rfl)))))) (pss_one (ps_raise rfl (takes_of rfl rfl rfl rfl) (pmk_oex EE.o EE.i EE.t GE hr EE.b .nil pass0 (by rfl) EE.m (pa_cons (pv 1) pa_nil)))) pss_nil)
      (pss_one (ps_ret (pe_ix ix_tup (pe_ix ix_tup (pe_ix ix_tup (pe_call GP hr1 (by rfl) AP.m AP.k AP.b .nil pass0 (pa_cons (pe_fld (pv 0) rfl) (pa_cons (pv 1) pa_nil))) pe_int (fun _ _ => rfl)) pe_int (fun _ _ => rfl)) pe_int (fun _ _ => rfl))))), ?_⟩
    have e1 := hks.1
    refine ⟨_, rfl, x, ty, u, v, rfl, hty, hu, hv, _, rfl, ?_⟩
    rcases h with ⟨huv, n, ff, bb, r, rfl, n0, n1, hn, k⟩ | ⟨ho, hcp, k⟩
    · rw [huv]
      refine iteF ?_
      refine ⟨_, rfl, _, _, rfl, rfl, _, rfl, ?_⟩
      refine ite2 (fun _ => ?_) (fun q => absurd (decide_eq_true n0) q)
      refine ⟨_, rfl, p, CH, dx, _, _, rfl, hp, hC.c, hC.a4, rfl, _, _, rfl, rfl, _, rfl, ?_⟩
      rw [decide_eq_true n1]
      refine iteF ?_
      refine ⟨_, rfl, p, CH, dx, _, _, rfl, hp, hC.c, hC.a3, rfl, _, rfl, c, n, ks, rs, rfl, hc, hks, ln, fun f' b' e' => ?_, fun e' => ?_⟩
      · rw [hn] at e'
        cases e'
        intro H' t' x' y' xs' ys' s' ht' hx' hfx hy' hfy
        obtain ⟨q, hq1, hq2⟩ := hfy.get (i := 0) (r := r) rfl
        exact ⟨t', _, _, _, rfl, rfl, SqT.of ht', at_by (j := 1) rfl rfl, y', _, _, _, rfl, rfl, hy', at_by (j := 0) rfl hq1, q, _, _, _, rfl, rfl, SqT.of hq2, at_by (j := 0) rfl rfl, k H' s'⟩
      · rw [hn] at e'
        cases e'
    · have go : ∀ (σ : L2.St), σ = [some (.ref p), some x] → tMkO CE (spBP K CE) [] (tCons (tVar 1) tNil) σ H fun cls d H' => E cls d H' := fun σ hσ => by
        subst hσ
        refine ⟨_, rfl, by show 1 ≤ 1000; decide, fun a ha => ⟨a, x, D, rfl, hcp.same (Ask.Same.made1 (Same.refl H) ha), upd_same, fun H' dx' y hdx hne e1 e2 hc' kk => ?_⟩⟩
        have h1 : H dx' = none := by
          rw [upd_ne hne] at hdx
          exact hdx
        have na : ∀ b o, H b = some o → b ≠ a := fun b o e => ne_of_none e ha
        refine ⟨rfl, dx', _, e1, e2, h1, k _ dx' y (fun b o e => ?_) upd_same ?_⟩
        · rw [upd_ne (ne_of_none e h1), del_ne (na b o e)]
          exact kk b o (na b o e) (by rw [upd_ne (na b o e)]; exact e)
        · refine hc'.but fun b o ho e => ?_
          have nd : b ≠ dx' := fun z => by
            subst z
            rw [e2] at e
            obtain ⟨zs, ho | ho⟩ := ho <;> subst ho <;> cases e
          have nb : b ≠ a := fun z => by
            subst z
            rw [e1] at e
            obtain ⟨zs, ho | ho⟩ := ho <;> subst ho <;> cases e
          rw [upd_ne nd, del_ne nb]
          exact e
      rcases ho with ho | ⟨ho, i, rfl, hi⟩
      · rw [ho]
        exact iteT (go _ rfl)
      · rw [ho]
        refine iteF ?_
        refine ⟨_, rfl, _, _, rfl, rfl, _, rfl, ?_⟩
        refine ite2 (fun q => ?_) (fun q => ?_)
        · have q : 0 ≤ i := of_decide_eq_true q
          refine ⟨_, rfl, p, CH, dx, _, _, rfl, hp, hC.c, hC.a4, rfl, _, _, rfl, rfl, _, rfl, ?_⟩
          rw [decide_eq_false (fun z => hi ⟨q, z⟩)]
          exact iteT (go _ rfl)
        · exact ⟨_, rfl, iteT (go _ rfl)⟩
end
end Ask

/-! a comprehension with two for, by two walks -/
namespace Ask
open PySem L2 PySem.Spec PyProof.Rows
section
variable {J J1 : It} {n n1 : Nat} {G G1 : Hp → Prop} {Y Y1 : Nat → Hp → V → Hp → Prop} {wi wi1 : TI} {g g1 : TG} {tt tt1 : TT} {te : TE} {vs vs1 : List Nat} {σ : L2.St} {H : Hp} {Q : VK}
/-- the inner turns, behind which M holds -/
def In2 (J1 : It) (g1 : TG) (tt1 : TT) (te : TE) (vs1 : List Nat) (D : Addr) (σ2 : L2.St) (M : Hp → Prop) (H4 : Hp) : Prop := ∃ W1 : Nat → Nat → Hp → Prop, (∃ m, W1 0 m H4) ∧ ∀ j k H, W1 j k H → (J1.stop j H ∧ M H) ∨ (J1.go j H ∧ ∃ Nx1 : Hp → Prop, (∀ H', Nx1 H' → ∃ k', k' < k ∧ W1 (j + 1) k' H') ∧
  ∀ x H', J1.yld j H x H' → g1 x (wipe σ2 vs1) H' fun σ3 H5 => wipe σ3 vs1 = wipe σ2 vs1 ∧ tt1 σ3 H5 fun b H6 => if b = true then te σ3 H6 fun y H7 => ∃ acc, H7 D = some (.lst acc) ∧ acc.length < sizeLine ∧ Nx1 (upd H7 D (.lst (acc ++ [y]))) else Nx1 H6)
theorem in2_it (w1 : Walk J1 n1 G1 Y1) {D : Addr} {σ2 : L2.St} {M : Hp → Prop} {H4 : Hp} (Pw : Nat → Hp → Prop) (h0 : Pw 0 H4) (hG : ∀ j H, j ≤ n1 → Pw j H → G1 H)
    (hs : ∀ j x H H', j < n1 → Pw j H → Y1 j H x H' → g1 x (wipe σ2 vs1) H' fun σ3 H5 => wipe σ3 vs1 = wipe σ2 vs1 ∧ tt1 σ3 H5 fun b H6 => if b = true then te σ3 H6 fun y H7 => ∃ acc, H7 D = some (.lst acc) ∧ acc.length < sizeLine ∧ Pw (j + 1) (upd H7 D (.lst (acc ++ [y]))) else Pw (j + 1) H6)
    (hd : ∀ H, Pw n1 H → M H) : In2 J1 g1 tt1 te vs1 D σ2 M H4 := by
  refine ⟨fun j k H => k = n1 - j ∧ j ≤ n1 ∧ Pw j H, ⟨n1, by simp, Nat.zero_le _, h0⟩, ?_⟩
  rintro j k H ⟨rfl, hj, p⟩
  have q := hG j H hj p
  rcases Nat.lt_or_ge j n1 with lt | ge
  · exact .inr ⟨w1.goes j H lt q, Pw (j + 1), fun H' p' => ⟨n1 - (j + 1), by omega, rfl, lt, p'⟩, fun x H' y => hs j x H H' lt p (w1.yields j H x H' lt q y)⟩
  · obtain rfl : j = n1 := by omega
    exact .inl ⟨w1.stops H q, hd H p⟩
theorem lc2_it (f : ∀ R : It → Hp → Prop, R J H → wi σ H R) (wk : Walk J n G Y)
    (h : ∀ D, H D = none → ∃ Pv : Nat → Hp → Prop, Pv 0 (upd H D (.lst [])) ∧ (∀ i H, i ≤ n → Pv i H → G H) ∧
      (∀ i x H H', i < n → Pv i H → Y i H x H' → g x (wipe σ vs) H' fun σ2 H2 => wipe σ2 vs = wipe σ vs ∧ tt σ2 H2 fun b H3 => if b = true then wi1 σ2 H3 fun J1 H4 => In2 J1 g1 tt1 te vs1 D σ2 (Pv (i + 1)) H4 else Pv (i + 1) H3) ∧ (∀ H, Pv n H → Q (.ref D) H)) :
    tLc2 wi g tt wi1 g1 tt1 te vs vs1 σ H Q := by
  delta tLc2
  refine f _ fun D hD => ?_
  obtain ⟨Pv, h0, hG, hs, hd⟩ := h D hD
  refine ⟨fun i m H => m = n - i ∧ i ≤ n ∧ Pv i H, ⟨n, by simp, Nat.zero_le _, h0⟩, ?_⟩
  rintro i m H ⟨rfl, hi, p⟩
  have q := hG i H hi p
  rcases Nat.lt_or_ge i n with lt | ge
  · exact .inr ⟨wk.goes i H lt q, Pv (i + 1), fun H' p' => ⟨n - (i + 1), by omega, rfl, lt, p'⟩, fun x H' y => hs i x H H' lt p (wk.yields i H x H' lt q y)⟩
  · obtain rfl : i = n := by omega
    exact .inl ⟨wk.stops H q, hd H p⟩
end
end Ask

namespace Ask
open PySem L2
/-- the letters of runs, one by one -/
def plainR (rs : List Run) : List Str := rs.flatMap fun r => List.replicate r.2.toNat r.1
theorem plainR_app (rs ss : List Run) : plainR (rs ++ ss) = plainR rs ++ plainR ss := List.flatMap_append ..
theorem plainR_more {rs : List Run} {i : Nat} {r : Run} (h : rs[i]? = some r) : plainR (rs.take (i + 1)) = plainR (rs.take i) ++ List.replicate r.2.toNat r.1 := by
  rw [List.take_add_one, h, plainR_app]
  unfold plainR
  simp
theorem sizeR_cons (r : Run) (rs : List Run) : sizeR (r :: rs) = r.2 + sizeR rs := by
  unfold sizeR
  rw [List.map_cons, List.sum_cons]
theorem sizeR_app (rs ss : List Run) : sizeR (rs ++ ss) = sizeR rs + sizeR ss := by
  induction rs with
  | nil => simp [sizeR]
  | cons r rs ih => rw [List.cons_append, sizeR_cons, sizeR_cons, ih, Int.add_assoc]
theorem sizeR_nonneg {rs : List Run} (h : ∀ r ∈ rs, 0 ≤ r.2) : 0 ≤ sizeR rs := by
  induction rs with
  | nil => exact Int.le_refl 0
  | cons r rs ih =>
    rw [sizeR_cons]
    have := h r (List.mem_cons_self ..)
    have := ih fun x hx => h x (List.mem_cons_of_mem _ hx)
    omega
theorem plainR_len {rs : List Run} (h : ∀ r ∈ rs, 0 ≤ r.2) : ((plainR rs).length : Int) = sizeR rs := by
  induction rs with
  | nil => rfl
  | cons r rs ih =>
    have h1 := h r (List.mem_cons_self ..)
    have h2 := ih fun x hx => h x (List.mem_cons_of_mem _ hx)
    rw [sizeR_cons]
    unfold plainR at h2 ⊢
    rw [List.flatMap_cons, List.length_append, List.length_replicate]
    omega
theorem count_le {rs : List Run} (h : ∀ r ∈ rs, 0 ≤ r.2) {r : Run} (hr : r ∈ rs) : r.2 ≤ sizeR rs := by
  induction rs with
  | nil => cases hr
  | cons a rs ih =>
    rw [sizeR_cons]
    have h1 := h a (List.mem_cons_self ..)
    have h2 := sizeR_nonneg fun x hx => h x (List.mem_cons_of_mem _ hx)
    rcases List.mem_cons.mp hr with rfl | hr
    · omega
    · have := ih (fun x hx => h x (List.mem_cons_of_mem _ hx)) hr
      omega
theorem sizeR_take {rs : List Run} (h : ∀ r ∈ rs, 0 ≤ r.2) (i : Nat) : sizeR (rs.take i) ≤ sizeR rs := by
  have e : sizeR rs = sizeR (rs.take i) + sizeR (rs.drop i) := by rw [← sizeR_app, List.take_append_drop]
  have := sizeR_nonneg (rs := rs.drop i) fun x hx => h x (List.mem_of_mem_drop hx)
  omega
section
variable {P : Program} {w : World} {K : PySem.W.Frag} {mg : Str → Option Value} {base : Heap}
def spWord (K : PySem.W.Frag) (CL CH CT : Addr) : Sp := fun vs H Q E => ∃ (p : Addr) (ys : List Str) (b : Str) (rs : List Run), vs = [.ref p] ∧ HistAt K CL CH H p ys b rs ∧ (∀ r ∈ rs, 0 ≤ r.2) ∧
  (sizeR rs ≤ 2000 → ∀ (H' : Hp) (t : Addr), Same H H' → H' t = some (.tup ((plainR rs).map V.str)) → Q (.ref t) H') ∧
  (2000 < sizeR rs → ∀ (H' : Hp) (d : Addr), Same H H' → H' d = some (.xd (fsSize [.int (sizeR rs)])) → E (.ref CT) (some d) H')
abbrev s_Word : Stmt := inClass (top 39) 2
theorem sc_Word : FnScope ["self", "letter", "count", "_"] ["self"] (defScope s_Word) := ⟨rfl, rfl, rfl, by decide +kernel, rfl, by decide +kernel, by decide +kernel⟩
theorem ok_word {f fE CL CH CT : Addr} {fd fdE : FuncData} (F : Fun K "word" "History.word" s_Word f fd) (T : Blt mg) (hC : HsC K CH) (mM : ∃ u, mg "MOST_SPELLED" = some u ∧ RelV (.int 2000) u)
    (GE : FnOk P w K mg base CX0 2 fE fdE ["self", "size"] (spErr CT okSize fsSize)) (EE : ErrAt K mg "TooLong" CT fE fdE ["self", "size"]) :
    FnOk P w K mg base (L2.CX P w) 4 f fd ["self"] (spWord K CL CH CT) := by
  refine F.okX sc_Word (fun vs H Q E h => ?_) (fun cdv A outer s H vs Q E hr h => ?_)
  · obtain ⟨p, ys, b, rs, rfl, _⟩ := h
    rfl
  · obtain ⟨p, ys, b, rs, rfl, ⟨dx, m, t, c, ks, hp, hM, hc, hks⟩, hpos, k, kE⟩ := h
    refine ⟨_, (pss_cons (ps_if (pt_cmpR op_gt (pe_fld (pv 0) rfl) (pe_gv rfl mM) (nomark _)) (pss_one (ps_raise rfl (takes_of rfl rfl rfl rfl) (pmk_oex EE.o EE.i EE.t GE hr EE.b .nil pass0 (by rfl) EE.m (pa_cons (pe_fld (pv 0) rfl) pa_nil)))) pss_nil)
      (pss_one (ps_ret (pe_callTy call_tuple_of (by rfl) T.n_tuple (by decide +kernel) (pa_cons (pe_lc2 (own := [("letter", 1), ("count", 2), ("_", 3)]) (vs1 := [3]) rfl sc_Word.nd (pi_tup (pe_fld (pv 0) rfl)) (blkOk_by (N := ["self", "letter", "count", "_"]) (sc := defScope s_Word) (by decide +kernel)) (by decide) (fun _ _ _ _ _ => (show PG _ _ (gTup K 2 _) from pg_tup rfl (pgs_cons (pg_name (i := 1) sc_Word.nd rfl (Or.inl rfl)) (pgs_cons (pg_name (i := 2) sc_Word.nd rfl (Or.inl rfl)) pgs_nil)))) (fun _ _ _ _ _ => pts_nil)
        (fun _ _ _ _ _ => pi_range1 rfl T.n_range (pa_cons (pv 2) pa_nil)) (fun _ _ _ _ _ => pg_name (i := 3) sc_Word.nd rfl (Or.inl rfl)) (fun _ _ _ _ _ => pts_nil) (fun _ _ _ _ _ => (pv 1))) pa_nil))))), ?_⟩
    have z1 : (100000 : Nat) ≤ sizeLine := by decide
    have el := hks.1
    refine ⟨_, rfl, p, CH, dx, _, _, rfl, hp, hC.c, hC.a4, rfl, _, _, rfl, rfl, _, rfl, ite2 (fun q => ?_) (fun q => ?_)⟩
    · have q : 2000 < sizeR rs := of_decide_eq_true q
      exact ⟨_, rfl, p, CH, dx, _, _, rfl, hp, hC.c, hC.a4, rfl, err_made (Same.refl H) ⟨_, rfl⟩ (by show 1 ≤ 1000; decide) (fun H' d s' e => kE q H' d s' e)⟩
    · have q : sizeR rs ≤ 2000 := by
        have : ¬ 2000 < sizeR rs := fun z => q (decide_eq_true z)
        omega
      dsimp only [tNext]
      refine ret_cb ?_
      have fits : ∀ (R : It → Hp → Prop), R (Itt K c) H → iTup K (tFld K (tVar 0) "runs") [some (.ref p), none, none, none] H R := fun R r => ⟨_, rfl, p, CH, dx, _, _, rfl, hp, hC.c, hC.a3, rfl, c, rfl, ⟨_, hc⟩, r⟩
      refine lc2_it fits walk_tup fun D hD => ⟨fun i H' => Same H H' ∧ H' D = some (.lst ((plainR (rs.take i)).map V.str)), ⟨Ask.Same.upd_new (Same.refl _) hD, upd_same⟩, fun i H' _ hh => seqT_same hh.1 hc, ?_, ?_⟩
      · rintro i x H2 H3 hi ⟨s2, hD2⟩ ⟨rfl, hx⟩
        obtain ⟨r, hri⟩ : ∃ r, rs[i]? = some r := ⟨_, List.getElem?_eq_getElem (by omega)⟩
        obtain ⟨u, rfl, hu⟩ := hks.2 i x r hx hri
        have hr0 := hpos r (List.mem_of_getElem? hri)
        have hr1 := count_le hpos (List.mem_of_getElem? hri)
        have hl := plainR_len (rs := rs.take i) fun x hx => hpos x (List.mem_of_mem_take hx)
        have hl2 := sizeR_take hpos i
        refine ⟨u, _, rfl, SqT.of (s2 _ _ hu), rfl, _, _, rfl, _, _, rfl, rfl, rfl, _, rfl, r.2, rfl, by omega, by omega, ?_⟩
        refine in2_it walk_range (fun j H' => Same H H' ∧ H' D = some (.lst ((plainR (rs.take i) ++ List.replicate j r.1).map V.str))) ⟨s2, by rw [List.replicate_zero, List.append_nil]; exact hD2⟩ (fun _ _ _ _ => trivial) ?_ ?_
        · rintro j x H4 H5 hj ⟨s4, hD4⟩ ⟨rfl, rfl⟩
          refine ⟨rfl, _, rfl, _, hD4, ?_, Ask.Same.upd_new s4 hD, ?_⟩
          · rw [List.length_map, List.length_append, List.length_replicate]
            omega
          · rw [upd_same, List.replicate_succ', ← List.append_assoc, List.map_append (l₂ := [r.1])]
            rfl
        · rintro H4 ⟨s4, hD4⟩
          exact ⟨s4, by rw [plainR_more hri]; exact hD4⟩
      · rintro H2 ⟨s2, hD2⟩
        rw [el, List.take_length] at hD2
        exact ⟨D, _, rfl, .inl ⟨SqL.of hD2, fun t ht => k q _ t (Ask.Same.made1 s2 ht) upd_same⟩⟩
end
end Ask

namespace Ask
open PySem L2
/-! ### runs as data -/
def runD (r : Run) : PyData := .tuple [.str r.1, .int r.2]
def runsD (rs : List Run) : PyData := .tuple (rs.map runD)
theorem dp_runs {K : PySem.W.Frag} {H : Hp} : ∀ {xs : List V} {rs : List Run}, PairsV H xs rs → DpAll K H xs (rs.map runD)
  | [], [], _ => .nil
  | [], _ :: _, h => by have := h.1; simp at this
  | _ :: _, [], h => by have := h.1; simp at this
  | x :: xs, r :: rs, h => by
    obtain ⟨b, rfl, hb⟩ := h.2 0 x r rfl rfl
    refine .cons (.tup (SqT.of hb) (.cons (.str _) (.cons (.int _) .nil))) (dp_runs ⟨Nat.succ.inj h.1, fun i v r' h1 h2 => h.2 (i + 1) v r' h1 h2⟩)
theorem eqv_int1 (a b : Int) : PyData.eqv (.int a) (.int b) = decide (a = b) := by
  simp only [PyData.eqv]
  by_cases h : a = b
  · subst h; simp
  · rw [decide_eq_false h]; simpa using h
theorem eqv_run (r s : Run) : PyData.eqv (runD r) (runD s) = decide (r = s) := by
  unfold runD
  rw [PyData.eqv, PyData.eqvAll, PyData.eqvAll, PyData.eqvAll, eqv_str1, eqv_int1, Bool.and_true]
  by_cases h : r = s
  · subst h; simp
  · rw [decide_eq_false h]
    by_cases h1 : r.1 = s.1
    · have h2 : ¬ r.2 = s.2 := fun z => h (Prod.ext h1 z)
      rw [decide_eq_false h2, Bool.and_false]
    · rw [decide_eq_false h1, Bool.false_and]
theorem eqvAll_runs : ∀ rs ss : List Run, PyData.eqvAll (rs.map runD) (ss.map runD) = decide (rs = ss)
  | [], [] => by simp [PyData.eqvAll]
  | [], _ :: _ => by simp [PyData.eqvAll]
  | _ :: _, [] => by simp [PyData.eqvAll]
  | r :: rs, s :: ss => by
    rw [List.map_cons, List.map_cons, PyData.eqvAll, eqv_run, eqvAll_runs rs ss]
    by_cases h : r = s
    · subst h
      by_cases h2 : rs = ss
      · subst h2; simp
      · simp [h2]
    · simp [h]
theorem eqv_runs (rs ss : List Run) : PyData.eqv (runsD rs) (runsD ss) = decide (rs = ss) := by
  unfold runsD
  rw [PyData.eqv]
  exact eqvAll_runs rs ss
theorem lay_runs : ∀ {rs : List Run}, (∀ r ∈ rs, Asc r.1) → PyData.canLayAll0 (rs.map runD) = true ∧ PyData.depthAll (rs.map runD) ≤ 1 ∧ PyData.hasDictAll (rs.map runD) = false
  | [], _ => ⟨rfl, Nat.zero_le _, rfl⟩
  | r :: rs, h => by
    obtain ⟨h1, h2, h3⟩ := lay_runs (rs := rs) fun x hx => h x (List.mem_cons_of_mem _ hx)
    have a := asc_ok (h r (List.mem_cons_self ..))
    refine ⟨?_, ?_, ?_⟩
    · show (((PyData.canLay0 (.str r.1)) && (PyData.canLay0 (.int r.2) && true)) && PyData.canLayAll0 (rs.map runD)) = true
      rw [h1]
      show (((PyData.strOk r.1) && (true && true)) && true) = true
      rw [a] <;> rfl
    · show max (PyData.depth (runD r)) (PyData.depthAll (rs.map runD)) ≤ 1
      refine Nat.max_le.mpr ⟨?_, h2⟩
      show max 0 (max 0 0) + 1 ≤ 1
      decide
    · show ((false || (false || false)) || PyData.hasDictAll (rs.map runD)) = false
      rw [h3] <;> rfl
theorem shaped_runs {rs : List Run} (h : ∀ r ∈ rs, Asc r.1) : SeqAt.shaped (runsD rs) = true := by
  obtain ⟨h1, h2, _⟩ := lay_runs h
  exact shaped_of h1 (by show PyData.depthAll (rs.map runD) + 1 ≤ 64; omega)
/-- letters whose signs are plain ones -/
def Plain (ys : List Str) : Prop := ∀ y ∈ ys, y.length ≤ 500 ∧ Asc y
def OfL (ys : List Str) (rs : List Run) : Prop := ∀ r ∈ rs, r.1 ∈ ys
theorem OfL.asc {ys : List Str} {rs : List Run} (h : OfL ys rs) (p : Plain ys) : ∀ r ∈ rs, Asc r.1 := fun r hr => (p _ (h r hr)).2
section
variable {P : Program} {w : World} {K : PySem.W.Frag} {mg : Str → Option Value} {base : Heap}
/-! ### History.__eq__ -/
def spHEq (K : PySem.W.Frag) (CL CH : Addr) : Sp := fun vs H Q _ => ∃ (p q : Addr) (ys zs : List Str) (b c : Str) (rs ss : List Run), vs = [.ref p, .ref q] ∧ HistAt K CL CH H p ys b rs ∧ HistAt K CL CH H q zs c ss ∧ Plain ys ∧ Plain zs ∧ OfL ys rs ∧ OfL zs ss ∧
  Q (.bl (decide (ys = zs) && (decide (b = c) && decide (rs = ss)))) H
abbrev s_HEq : Stmt := inClass (top 39) 7
theorem sc_HEq : FnScope ["self", "other"] ["self", "other"] (defScope s_HEq) := ⟨rfl, rfl, rfl, by decide +kernel, rfl, by decide +kernel, by decide +kernel⟩
theorem ok_heq {f fQ CL CH : Addr} {fd fdQ : FuncData} (F : Fun K "__eq__" "History.__eq__" s_HEq f fd) (T : Blt mg) (hC : HsC K CH) (Y : XkC K CH) (mH : mg "History" = some (.ref CH))
    (GQ : FnOk P w K mg base CX0 1 fQ fdQ ["self", "other"] (spEq2 CL)) (bQ : Binds K fdQ ["self", "other"] []) (hQ : PySem.W.findIn K (.ref CL) "__eq__" = some (some (.ref fQ))) (iQ : PySem.W.isFn K (.ref fQ) = true) :
    FnOk P w K mg base CX0 2 f fd ["self", "other"] (spHEq K CL CH) := by
  refine F.ok sc_HEq (fun vs H Q E h => ?_) (fun cdv A outer s H vs Q E hr h => ?_)
  · obtain ⟨p, q, ys, zs, b, c, rs, ss, rfl, _⟩ := h
    rfl
  · obtain ⟨p, q, ys, zs, b, c, rs, ss, rfl, ⟨dx, m, t, c1, ks, hp, hM, hc1, hks⟩, ⟨dx', m', t', c2, ls, hq, hM', hc2, hls⟩, py, pz, oy, oz, k⟩ := h
    refine ⟨_, (pss_one (ps_ret (pe_and (pe_callB call_isi (by rfl) T.n_isinstance (by decide +kernel) (pa_cons (pv 1) (pa_cons (pe_gv (v := .ref CH) rfl ⟨_, mH, rfl⟩) pa_nil))) (pe_and (pe_cmpR (op_eqI (C := CL) (E := E0) GQ hr bQ pass0 hQ iQ) (pe_fld (pv 0) rfl) (pe_fld (pv 1) rfl) (nomark _)) (pe_and (pe_cmpR op_eq (pe_fld (pv 0) rfl) (pe_fld (pv 1) rfl) (nomark _)) (pe_one (pe_cmpR (op_eqD hr.units) (pe_fld (pv 0) rfl) (pe_fld (pv 1) rfl) (nomark _)))))))), ?_⟩
    have kk : PySem.W.kitOne K (.ref CH) (.ref CH) = some true := by
      unfold PySem.W.kitOne
      rw [if_pos (by simp)]
    refine ⟨_, rfl, _, _, _, _, true, rfl, .own CH, .base (.ins hq hC.c Y.ha Y.hn Y.ht Y.hm), kk, _, rfl, ite2 (fun _ => ?_) (fun q => absurd rfl q)⟩
    obtain ⟨d1, o1, e1, e2, e3⟩ := id hM
    obtain ⟨d2, o2, g1, g2, g3⟩ := id hM'
    refine ⟨_, rfl, p, CH, dx, _, _, rfl, hp, hC.c, hC.a1, rfl, _, rfl, q, CH, dx', _, _, rfl, hq, hC.c, hC.a1, rfl, m, m', d1, d2, _, _, rfl, rfl, e1, g1, m, t, m', t', ys, zs, rfl, hM, hM', py, pz, _, rfl, _, rfl, ?_⟩
    rw [eqv_strs]
    refine ite2 (fun h => ?_) (fun h => ?_)
    · rw [h, Bool.true_and] at k
      refine ⟨_, rfl, p, CH, dx, _, _, rfl, hp, hC.c, hC.a2, rfl, _, rfl, q, CH, dx', _, _, rfl, hq, hC.c, hC.a2, rfl, rfl, _, rfl, ?_⟩
      have e : decide (V.str b = V.str c) = decide (b = c) := by
        by_cases h : b = c
        · rw [decide_eq_true h, decide_eq_true (congrArg V.str h)]
        · rw [decide_eq_false h, decide_eq_false (fun z => h (V.str.inj z))]
      rw [e]
      refine ite2 (fun h => ?_) (fun h => ?_)
      · rw [h, Bool.true_and] at k
        refine ⟨_, rfl, p, CH, dx, _, _, rfl, hp, hC.c, hC.a3, rfl, _, rfl, q, CH, dx', _, _, rfl, hq, hC.c, hC.a3, rfl, runsD rs, runsD ss, .tup hc1 (dp_runs hks), .tup hc2 (dp_runs hls), shaped_runs (oy.asc py), shaped_runs (oz.asc pz), ?_⟩
        rw [eqv_runs]
        exact k
      · have h : decide (b = c) = false := (Bool.not_eq_true _).mp h
        rw [h, Bool.false_and] at k
        exact k
    · have h : decide (ys = zs) = false := (Bool.not_eq_true _).mp h
      rw [h, Bool.false_and] at k
      exact k
end
end Ask

namespace Ask
open PySem L2
/-! ### the law's own joined list -/
theorem jrun_none : ∀ {rs : List Run}, (jrun rs).2 = none → rs = [] := by
  intro rs h
  rcases List.eq_nil_or_concat rs with rfl | ⟨L, r, rfl⟩
  · rfl
  · exfalso
    rw [List.concat_eq_append] at h
    unfold jrun at h
    rw [List.foldl_append] at h
    generalize List.foldl jstep ([], none) L = st at h
    obtain ⟨a, b⟩ := st
    cases b with
    | none => cases h
    | some l =>
      by_cases e : l.1 = r.1
      · rw [List.foldl_cons, List.foldl_nil, jstep_eq e] at h
        cases h
      · rw [List.foldl_cons, List.foldl_nil, jstep_ne e] at h
        cases h
theorem join_nil : joinR [] = [] := rfl
/-- one run more -/
theorem join_more (rs : List Run) (r : Run) : joinR (rs ++ [r]) = spliceR (joinR rs) [r] := by
  have e : jrun (rs ++ [r]) = jstep (jrun rs) r := by
    unfold jrun
    rw [List.foldl_append]
    rfl
  have n : (jrun rs).2 = none → jrun rs = ([], none) := fun z => by
    have := jrun_none z
    subst this
    rfl
  unfold joinR
  rw [e]
  generalize jrun rs = st at n ⊢
  obtain ⟨a, b⟩ := st
  cases b with
  | none =>
    have := n rfl
    cases this
    rfl
  | some l =>
    have gl : (a ++ [l]).getLast? = some l := by simp
    by_cases e : l.1 = r.1
    · rw [jstep_eq e]
      show a ++ [(l.1, l.2 + r.2)] = spliceR (a ++ [l]) [r]
      unfold spliceR
      rw [gl]
      show _ = if l.1 = r.1 then _ else _
      rw [if_pos e, List.dropLast_concat, List.append_nil]
    · rw [jstep_ne e]
      show (a ++ [l]) ++ [r] = spliceR (a ++ [l]) [r]
      unfold spliceR
      rw [gl]
      show _ = if l.1 = r.1 then _ else _
      rw [if_neg e]
theorem join_take {rs : List Run} {i : Nat} {r : Run} (h : rs[i]? = some r) : joinR (rs.take (i + 1)) = spliceR (joinR (rs.take i)) [r] := by
  rw [List.take_add_one, h]
  exact join_more _ _
theorem set_last {α : Type} : ∀ (xs : List α) (v : α), xs ≠ [] → xs.set (xs.length - 1) v = xs.dropLast ++ [v]
  | [], _, h => absurd rfl h
  | [a], v, _ => rfl
  | a :: b :: xs, v, _ => by
    have := set_last (b :: xs) v (by simp)
    show (a :: b :: xs).set (xs.length + 1) v = a :: ((b :: xs).dropLast ++ [v])
    rw [List.set_cons_succ]
    exact congrArg _ this
theorem mem_splice {h t : List Run} {x : Run} (m : x ∈ spliceR h t) : (∃ y ∈ h, y.1 = x.1) ∨ ∃ y ∈ t, y.1 = x.1 := by
  unfold spliceR at m
  split at m
  · rename_i l r t' e1
    split at m
    · rename_i e
      rcases List.mem_append.mp m with m | m
      · rcases List.mem_append.mp m with m | m
        · exact .inl ⟨x, (List.dropLast_sublist h).subset m, rfl⟩
        · rw [List.mem_singleton] at m
          subst m
          exact .inl ⟨l, List.mem_of_getLast? e1, rfl⟩
      · exact .inr ⟨x, List.mem_cons_of_mem _ m, rfl⟩
    · rcases List.mem_append.mp m with m | m
      · exact .inl ⟨x, m, rfl⟩
      · exact .inr ⟨x, m, rfl⟩
  · rcases List.mem_append.mp m with m | m
    · exact .inl ⟨x, m, rfl⟩
    · exact .inr ⟨x, m, rfl⟩
/-- joining makes no other letters -/
theorem mem_join : ∀ {rs : List Run} {x : Run}, x ∈ joinR rs → ∃ y ∈ rs, y.1 = x.1 := by
  intro rs
  have : ∀ (n : Nat) (x : Run), x ∈ joinR (rs.take n) → ∃ y ∈ rs, y.1 = x.1 := by
    intro n
    induction n with
    | zero => intro x h; simp [join_nil] at h
    | succ n ih =>
      intro x h
      cases e : rs[n]? with
      | none =>
        rw [List.take_add_one, e] at h
        rw [show (none : Option Run).toList = [] from rfl, List.append_nil] at h
        exact ih x h
      | some r =>
        rw [join_take e] at h
        rcases mem_splice h with ⟨y, hy, e1⟩ | ⟨y, hy, e1⟩
        · obtain ⟨z, hz, e2⟩ := ih y hy
          exact ⟨z, hz, e2.trans e1⟩
        · rw [List.mem_singleton] at hy
          subst hy
          exact ⟨y, List.mem_of_getElem? e, e1⟩
  intro x h
  exact this rs.length x (by rw [List.take_length]; exact h)
theorem shaped_runsL {rs : List Run} (h : ∀ r ∈ rs, Asc r.1) : SeqAt.shaped (.list (rs.map runD)) = true := by
  obtain ⟨h1, h2, _⟩ := lay_runs h
  exact shaped_of h1 (by show PyData.depthAll (rs.map runD) + 1 ≤ 64; omega)
theorem eqv_nilL (ds : List PyData) : PyData.eqv (.list ds) (.list []) = ds.isEmpty := by
  cases ds with
  | nil => simp [PyData.eqv, PyData.eqvAll]
  | cons d ds => simp [PyData.eqv, PyData.eqvAll]
/-- the runs that have letters -/
def posR (rs : List Run) : List Run := rs.filter fun r => decide (0 < r.2)
theorem posR_more {rs : List Run} {i : Nat} {r : Run} (h : rs[i]? = some r) : posR (rs.take (i + 1)) = if 0 < r.2 then posR (rs.take i) ++ [r] else posR (rs.take i) := by
  unfold posR
  rw [List.take_add_one, h, List.filter_append, Option.toList_some, List.filter_cons, List.filter_nil]
  by_cases q : 0 < r.2
  · rw [if_pos q, if_pos (decide_eq_true q)]
  · rw [if_neg q, if_neg (fun z => q (of_decide_eq_true z)), List.append_nil]
theorem posR_all {rs : List Run} (h : ∀ r ∈ rs, 0 < r.2) : posR rs = rs := List.filter_eq_self.mpr fun r hr => decide_eq_true (h r hr)
theorem posR_pos (rs : List Run) : ∀ r ∈ posR rs, 0 < r.2 := fun r hr => of_decide_eq_true (List.mem_filter.mp hr).2
theorem posR_mem {rs : List Run} {r : Run} (h : r ∈ posR rs) : r ∈ rs := (List.mem_filter.mp h).1
theorem posR_len (rs : List Run) : (posR rs).length ≤ rs.length := List.length_filter_le _ _
section
variable {P : Program} {w : World} {K : PySem.W.Frag} {mg : Str → Option Value} {base : Heap}
def spLawJoined (K : PySem.W.Frag) : Sp := fun vs H Q _ => ∃ (a : Addr) (xs : List V) (rs : List Run), vs = [.ref a] ∧ SqL K H a xs ∧ PairsV H xs rs ∧ rs.length ≤ 10000 ∧ (∀ r ∈ rs, Asc r.1) ∧
  ∀ (H' : Hp) (L : Addr) (ks : List V), Same H H' → H L = none → H' L = some (.lst ks) → PairsV H' ks (joinR (posR rs)) → Q (.ref L) H'
abbrev s__law_joined : Stmt := top 49
theorem sc__law_joined : FnScope ["_law_runs_here", "_law_found", "_law_letter", "_law_count_here"] ["_law_runs_here"] (defScope s__law_joined) := ⟨rfl, rfl, rfl, by decide +kernel, rfl, by decide +kernel, by decide +kernel⟩
theorem ok_lawJoined {f : Addr} {fd : FuncData} (F : Fun K "_law_joined" "_law_joined" s__law_joined f fd) : FnOk P w K mg base CX0 1 f fd ["_law_runs_here"] (spLawJoined K) := by
  refine F.ok sc__law_joined (fun vs H Q E h => ?_) (fun cdv A outer s H vs Q E hr h => ?_)
  · obtain ⟨a, xs, rs, rfl, _⟩ := h
    rfl
  · obtain ⟨a, xs, rs, rfl, hS, hR, hn, hok, k⟩ := h
    refine ⟨_, (pss_cons (ps_set (i := 1) sc__law_joined.nd rfl (Or.inl rfl) (pe_lst pa_nil))
      (pss_cons (ps_for PassesOwn.never rfl (pi_list (pv 0)) (pg_tup rfl (pgs_cons (pg_name (i := 2) sc__law_joined.nd rfl (Or.inl rfl)) (pgs_cons (pg_name (i := 3) sc__law_joined.nd rfl (Or.inl rfl)) pgs_nil))) (pss_one (ps_if (PW.pt (pw_and (pt_cmpR op_gt (pv 3) pe_int (nomark _)) (pw_and (pt_cmpR (op_neD hr.units) (pv 1) (pe_lst pa_nil) (nomark _)) (pw_and1 (pt_cmpR op_eq (pe_ix ix_tup (pe_ix ix_list (pv 1) (pe_un un_neg pe_int) (fun _ _ => rfl)) pe_int (fun _ _ => rfl)) (pv 2) (nomark _)))))) (pss_one (ps_asg (pe_tup (pa_cons (pv 2) (pa_cons (pe_op op_add (pe_ix ix_tup (pe_ix ix_list (pv 1) (pe_un un_neg pe_int) (fun _ _ => rfl)) pe_int (fun _ _ => rfl)) (pv 3)) pa_nil))) (pg_sub (pv 1) (pe_un un_neg pe_int) set_list (by intro _; rfl)))) (pss_one (ps_if (pt_cmpR op_gt (pv 3) pe_int (nomark _)) (pss_one (ps_expr (pe_bm PySem.F.plainAttrs_list PySem.F.slot_list_append PySem.F.type_list_append mt_append (pv 1) (pa_cons (pe_tup (pa_cons (pv 2) (pa_cons (pv 3) pa_nil))) pa_nil)))) pss_nil)))))
      (pss_one (ps_ret (pv 1))))), ?_⟩
    have z1 : (100000 : Nat) ≤ sizeLine := by decide
    refine ⟨Nat.zero_le _, fun L hL => ?_⟩
    have s1 := Ask.Same.made1 (o := .lst []) (Same.refl H) hL
    have hL1 : upd H L (.lst []) L = some (.lst []) := upd_same
    generalize upd H L (.lst []) = H1 at s1 hL1 ⊢
    try dsimp only
    refine for_any (fun R r => ⟨_, rfl, a, rfl, ⟨_, s1.seq hS⟩, r⟩) (walk_list (xs := xs)) (fun i σ' H' => ∃ o2 o3 : Option V, σ' = [some (.ref a), some (.ref L), o2, o3] ∧ Same H H' ∧ ∃ ks, H' L = some (.lst ks) ∧ PairsV H' ks (joinR (posR (rs.take i))))
      ⟨none, none, rfl, s1, [], hL1, PairsV.nil⟩ (fun i σ' H' _ ⟨_, _, _, s', _⟩ => s'.seq hS) ?_ ?_
    · rintro i v σ' H3 H4 hi ⟨o2, o3, rfl, s3, ks, hL3, hk⟩ ⟨rfl, hv⟩
      obtain ⟨r, hri⟩ : ∃ r, rs[i]? = some r := ⟨_, List.getElem?_eq_getElem (by rw [← hR.1]; exact hi)⟩
      obtain ⟨b, rfl, hb⟩ := (hR.same s3).2 i v r hv hri
      have step0 := posR_more hri
      have hasc : ∀ x ∈ joinR (posR (rs.take i)), Asc x.1 := fun x hx => by
        obtain ⟨y, hy, e⟩ := mem_join hx
        rw [← e]
        exact hok y (List.mem_of_mem_take (posR_mem hy))
      have hjl := joinR_len (posR (rs.take i))
      have hpl := posR_len (rs.take i)
      rw [List.length_take] at hpl
      by_cases rpos : 0 < r.2
      case neg =>
        rw [if_neg rpos] at step0
        have gt0 : decide ((0 : Int) < r.2) = false := decide_eq_false rpos
        refine ⟨b, _, rfl, SqT.of hb, rfl, _, _, rfl, _, _, rfl, rfl, ?_⟩
        refine ⟨_, rfl, _, _, rfl, rfl, _, rfl, ?_⟩
        rw [gt0]
        refine iteF ?_
        dsimp only
        refine ⟨_, rfl, _, _, rfl, rfl, _, rfl, ?_⟩
        rw [gt0]
        exact iteF ⟨_, _, rfl, s3, ks, hL3, by rw [step0]; exact hk⟩
      rw [if_pos rpos] at step0
      have step : joinR (posR (rs.take (i + 1))) = spliceR (joinR (posR (rs.take i))) [r] := by rw [step0, join_more]
      generalize joinR (posR (rs.take i)) = js at step hk hasc hjl ⊢
      have ekl := hk.1
      refine ⟨b, _, rfl, SqT.of hb, rfl, _, _, rfl, _, _, rfl, rfl, ?_⟩
      have gt0 : decide ((0 : Int) < r.2) = true := decide_eq_true rpos
      refine ⟨_, rfl, _, _, rfl, rfl, _, rfl, ?_⟩
      rw [gt0]
      refine iteT ?_
      refine ⟨_, rfl, Nat.zero_le _, fun q hq => ?_⟩
      have s4 := Ask.Same.made1 (o := .lst []) s3 hq
      have hq4 : upd H4 q (.lst []) q = some (.lst []) := upd_same
      have hL4 : upd H4 q (.lst []) L = some (.lst ks) := by rw [upd_ne (ne_of_none hL3 hq)]; exact hL3
      have hk4 := hk.same (Ask.Same.made1 (o := .lst []) (Same.refl H4) hq)
      have hb4 : upd H4 q (.lst []) b = some (.tup [.str r.1, .int r.2]) := by rw [upd_ne (ne_of_none hb hq)]; exact hb
      generalize upd H4 q (.lst []) = H5 at s4 hq4 hL4 hk4 hb4 ⊢
      refine ⟨.list (js.map runD), .list [], .lst (SqL.of hL4) (dp_runs hk4), .lst (SqL.of hq4) .nil, shaped_runsL hasc, by decide, _, rfl, ?_⟩
      rw [eqv_nilL]
      -- what a new run leaves
      have fin : ∀ (t : Addr), H5 t = none → spliceR js [r] = js ++ [r] → ∃ o2 o3 : Option V, [some (V.ref a), some (.ref L), some (.str r.1), some (.int r.2)] = [some (.ref a), some (.ref L), o2, o3] ∧ Same H (upd (upd H5 t (.tup [.str r.1, .int r.2])) L (.lst (ks ++ [.ref t]))) ∧
          ∃ ks', upd (upd H5 t (.tup [.str r.1, .int r.2])) L (.lst (ks ++ [.ref t])) L = some (.lst ks') ∧ PairsV (upd (upd H5 t (.tup [.str r.1, .int r.2])) L (.lst (ks ++ [.ref t]))) ks' (joinR (posR (rs.take (i + 1)))) := fun t ht e => by
        have s5 := Ask.Same.made1 (o := .tup [.str r.1, .int r.2]) s4 ht
        have k5 := hk4.same (Ask.Same.made1 (o := .tup [.str r.1, .int r.2]) (Same.refl H5) ht)
        refine ⟨_, _, rfl, Ask.Same.upd_new s5 hL, _, upd_same, ?_⟩
        rw [step, e]
        exact (k5.app (b := t) (r := r) upd_same).mut (L := L) (ys := ks) (by rw [upd_ne (ne_of_none hL4 ht)]; exact hL4)
      have kl : ks.length ≤ 10001 := by omega
      have hLt : ∀ t, H5 t = none → upd H5 t (.tup [.str r.1, .int r.2]) L = some (.lst ks) := fun t ht => by rw [upd_ne (ne_of_none hL4 ht)]; exact hL4
      rcases List.eq_nil_or_concat js with e0 | ⟨j1, l, e0⟩
      · have e1 : (js.map runD).isEmpty = true := by subst e0; rfl
        rw [e1]
        refine iteF ?_
        dsimp only
        refine ⟨_, rfl, _, _, rfl, rfl, _, rfl, ?_⟩
        rw [gt0]
        refine iteT ⟨_, rfl, .inl ⟨rfl, _, SqL.of hL4⟩, _, rfl, _, rfl, by show 2 ≤ sizeLine; decide, fun t ht => ⟨L, _, _, rfl, rfl, hLt t ht, by omega, fin t ht (by subst e0; rfl)⟩⟩
      · rw [List.concat_eq_append] at e0
        have e1 : (js.map runD).isEmpty = false := by subst e0; simp
        rw [e1]
        refine iteT ?_
        have gl : js.getLast? = some l := by subst e0; simp
        have hjne : js ≠ [] := by subst e0; simp
        have hkne : ks ≠ [] := fun z => by subst z; exact hjne (List.eq_nil_of_length_eq_zero ekl.symm)
        have hl : js[js.length - 1]? = some l := by rw [← List.getLast?_eq_getElem?]; exact gl
        obtain ⟨x, hx, hx2⟩ := hk4.get hl
        rw [← ekl] at hx
        have at1 : atI ks (-1) = some (.ref x) := atI_back hx
        have bx0 : atI [V.str l.1, .int l.2] 0 = some (.str l.1) := at_by (j := 0) rfl rfl
        have bx1 : atI [V.str l.1, .int l.2] 1 = some (.int l.2) := at_by (j := 1) rfl rfl
        have sp : spliceR js [r] = if l.1 = r.1 then js.dropLast ++ [(l.1, l.2 + r.2)] ++ [] else js ++ [r] := by
          unfold spliceR
          rw [gl]
        refine ⟨_, rfl, _, rfl, L, _, _, _, rfl, rfl, SqL.of hL4, at1, x, _, _, _, rfl, rfl, SqT.of hx2, bx0, _, rfl, rfl, _, rfl, ?_⟩
        by_cases q3 : l.1 = r.1
        · rw [decide_eq_true (congrArg V.str q3)]
          rw [if_pos q3, List.append_nil] at sp
          refine iteT ?_
          dsimp only
          refine ⟨_, rfl, _, rfl, _, rfl, L, _, _, _, rfl, rfl, SqL.of hL4, at1, x, _, _, _, rfl, rfl, SqT.of hx2, bx1, _, rfl, _, _, rfl, rfl, by show 2 ≤ sizeLine; decide, fun t ht => ?_⟩
          have s5 := Ask.Same.made1 (o := .tup [.str r.1, .int (l.2 + r.2)]) s4 ht
          have k5 := hk4.same (Ask.Same.made1 (o := .tup [.str r.1, .int (l.2 + r.2)]) (Same.refl H5) ht)
          have hL5 : upd H5 t (.tup [.str r.1, .int (l.2 + r.2)]) L = some (.lst ks) := by rw [upd_ne (ne_of_none hL4 ht)]; exact hL4
          have ht5 : upd H5 t (.tup [.str r.1, .int (l.2 + r.2)]) t = some (.tup [.str r.1, .int (l.2 + r.2)]) := upd_same
          generalize upd H5 t (.tup [.str r.1, .int (l.2 + r.2)]) = H6 at s5 k5 hL5 ht5 ⊢
          have k1 : 1 ≤ ks.length := List.length_pos_iff.mpr hkne
          refine ⟨_, rfl, _, rfl, L, ks, _, ks.length - 1, rfl, rfl, hL5, ?_, _, _, rfl, Ask.Same.upd_new s5 hL, _, upd_same, ?_⟩
          · show ixN ks.length (-1) = some (ks.length - 1)
            unfold ixN
            rw [if_neg (by decide), if_pos (by omega)]
            congr 1
            omega
          · rw [step, sp, set_last _ _ hkne]
            have : PairsV H6 (ks.dropLast ++ [.ref t]) (js.dropLast ++ [(l.1, l.2 + r.2)]) := by
              refine PairsV.app ?_ (by rw [q3]; exact ht5)
              rw [List.dropLast_eq_take, List.dropLast_eq_take, ekl]
              exact k5.take _
            exact this.mut hL5
        · rw [decide_eq_false (fun z => q3 (V.str.inj z))]
          rw [if_neg q3] at sp
          refine iteF ?_
          dsimp only
          refine ⟨_, rfl, _, _, rfl, rfl, _, rfl, ?_⟩
          rw [gt0]
          refine iteT ⟨_, rfl, .inl ⟨rfl, _, SqL.of hL4⟩, _, rfl, _, rfl, by show 2 ≤ sizeLine; decide, fun t ht => ⟨L, _, _, rfl, rfl, hLt t ht, by omega, fin t ht sp⟩⟩
    · rintro σ' H3 ⟨o2, o3, rfl, s3, ks, hL3, hk⟩
      rw [hR.1, List.take_length] at hk
      exact ⟨_, rfl, k H3 L ks s3 hL hL3 hk⟩
end
end Ask

namespace Ask
open PySem L2
/-- one run for each letter -/
def onesR (ws : List Str) : List Run := ws.map fun z => (z, 1)
section
variable {P : Program} {w : World} {K : PySem.W.Frag} {mg : Str → Option Value} {base : Heap}
/-! ### a beginning -/
def spBeg : Sp := fun vs H Q _ => ∃ (p c : Addr) (ns : List Int) (B : Nat), vs = [.ref p] ∧ Pen c ns H p B ∧ B ≤ 1000000000 ∧ ∀ (H' : Hp) (b : Str), Go p c ns H H' (B + 1) → (b = "new" ∨ b = "found") → Q (.str b) H'
abbrev s__law_beginning : Stmt := top 52
theorem sc__law_beginning : FnScope ["_law_pen_here"] ["_law_pen_here"] (defScope s__law_beginning) := ⟨rfl, rfl, rfl, by decide +kernel, rfl, by decide +kernel, by decide +kernel⟩
theorem ok_beg {f fD : Addr} {fd fdD : FuncData} (F : Fun K "_law_beginning" "_law_beginning" s__law_beginning f fd)
    (GD : FnOk P w K mg base CX0 1 fD fdD ["_law_pen_here", "_law_many"] spDraw) (D : At K mg "_law_draw" fD fdD ["_law_pen_here", "_law_many"]) : FnOk P w K mg base CX0 2 f fd ["_law_pen_here"] spBeg := by
  refine F.ok sc__law_beginning (fun vs H Q E h => ?_) (fun cdv A outer s H vs Q E hr h => ?_)
  · obtain ⟨p, c, ns, B, rfl, _⟩ := h
    rfl
  · obtain ⟨p, c, ns, B, rfl, hp, hB, k⟩ := h
    refine ⟨_, (pss_one (ps_ret (pe_ix ix_list (pe_lst (pa_cons pe_str (pa_cons pe_str pa_nil))) (pe_call GD hr (by rfl) D.m D.k D.b .nil pass0 (pa_cons (pv 0) (pa_cons pe_int pa_nil))) (fun _ _ => rfl)))), ?_⟩
    refine ⟨by show 2 ≤ sizeLine; decide, fun q hq => ?_⟩
    have g1 := (Go.refl hp).new (o := .lst [.str "new", .str "found"]) hq
    have hq1 : upd H q (.lst [.str "new", .str "found"]) q = some (.lst [.str "new", .str "found"]) := upd_same
    generalize upd H q (.lst [.str "new", .str "found"]) = H1 at g1 hq1 ⊢
    refine ⟨_, rfl, p, c, ns, 2, B, rfl, g1.pen, hB, by decide, by decide, fun H2 r g2 r0 r1 => ?_⟩
    have hr : r = 0 ∨ r = 1 := by omega
    rcases hr with rfl | rfl
    · exact ⟨q, _, _, _, rfl, rfl, SqL.of (g2.lst hq1), at_by (j := 0) rfl rfl, k H2 "new" (g1.step g2) (.inl rfl)⟩
    · exact ⟨q, _, _, _, rfl, rfl, SqL.of (g2.lst hq1), at_by (j := 1) rfl rfl, k H2 "found" (g1.step g2) (.inr rfl)⟩
end
end Ask

namespace Ask
open PySem L2
/-! ### runs and their letters, one by one -/
theorem ones_app (a b : List Str) : onesR (a ++ b) = onesR a ++ onesR b := List.map_append
theorem splice_some {h : List Run} {l : Run} (e : h.getLast? = some l) (r : Run) : spliceR h [r] = if l.1 = r.1 then h.dropLast ++ [(l.1, l.2 + r.2)] else h ++ [r] := by
  unfold spliceR
  rw [e]
  show (if l.1 = r.1 then h.dropLast ++ [(l.1, l.2 + r.2)] ++ [] else h ++ [r]) = _
  rw [List.append_nil]
theorem splice_none {h : List Run} (e : h.getLast? = none) (r : Run) : spliceR h [r] = [r] := by
  have : h = [] := List.getLast?_eq_none_iff.mp e
  subst this
  rfl
theorem splice_two (h : List Run) (z : Str) (a b : Int) : spliceR (spliceR h [(z, a)]) [(z, b)] = spliceR h [(z, a + b)] := by
  cases e : h.getLast? with
  | none =>
    rw [splice_none e, splice_none e, splice_some (l := (z, a)) rfl]
    rw [if_pos rfl]
    rfl
  | some l =>
    rw [splice_some e, splice_some e]
    by_cases q : l.1 = z
    · rw [if_pos q, if_pos q, splice_some (l := (l.1, l.2 + a)) (by simp), if_pos q, List.dropLast_concat]
      show _ ++ [(l.1, l.2 + a + b)] = _ ++ [(l.1, l.2 + (a + b))]
      rw [Int.add_assoc]
    · rw [if_neg q, if_neg q, splice_some (l := (z, a)) (by simp), if_pos rfl, List.dropLast_concat]
theorem join_rep1 (as : List Run) (z : Str) : ∀ n : Nat, joinR (as ++ onesR (List.replicate (n + 1) z)) = spliceR (joinR as) [(z, (n : Int) + 1)]
  | 0 => join_more as (z, 1)
  | n + 1 => by
    rw [List.replicate_succ', ones_app, ← List.append_assoc]
    show joinR (as ++ onesR (List.replicate (n + 1) z) ++ [(z, 1)]) = _
    rw [join_more, join_rep1 as z n, splice_two]
    rfl
/-- runs are the runs of their letters -/
theorem join_plain {rs : List Run} (h : ∀ r ∈ rs, 0 < r.2) : joinR (onesR (plainR rs)) = joinR rs := by
  have : ∀ n, joinR (onesR (plainR (rs.take n))) = joinR (rs.take n) := by
    intro n
    induction n with
    | zero => rfl
    | succ n ih =>
      cases e : rs[n]? with
      | none =>
        rw [List.take_add_one, e, show (none : Option Run).toList = [] from rfl, List.append_nil]
        exact ih
      | some r =>
        have hr := h r (List.mem_of_getElem? e)
        rw [plainR_more e, join_take e, ones_app]
        obtain ⟨m, hm⟩ : ∃ m : Nat, r.2.toNat = m + 1 := ⟨r.2.toNat - 1, by omega⟩
        rw [hm, join_rep1, ih]
        have : (m : Int) + 1 = r.2 := by omega
        rw [this]
  have k := this rs.length
  rw [List.take_length] at k
  exact k
theorem plain_cons (r : Run) (rs : List Run) : plainR (r :: rs) = List.replicate r.2.toNat r.1 ++ plainR rs := List.flatMap_cons
theorem plain_one (r : Run) : plainR [r] = List.replicate r.2.toNat r.1 := by
  rw [plain_cons]
  exact List.append_nil _
/-- a spliced sum has the letters of both -/
theorem plain_splice {h : List Run} {r : Run} (p : ∀ x ∈ h, 0 < x.2) (q : 0 < r.2) : plainR (spliceR h [r]) = plainR h ++ plainR [r] := by
  cases e : h.getLast? with
  | none =>
    rw [splice_none e]
    have : h = [] := List.getLast?_eq_none_iff.mp e
    subst this
    rfl
  | some l =>
    rw [splice_some e]
    by_cases z : l.1 = r.1
    · rw [if_pos z]
      have hd : h = h.dropLast ++ [l] := by
        obtain ⟨ys, rfl⟩ := List.getLast?_eq_some_iff.mp e
        rw [List.dropLast_concat]
      have hl := p l (List.mem_of_getLast? e)
      conv => rhs; rw [hd]
      rw [plainR_app, plainR_app, plain_one, plain_one, plain_one, List.append_assoc]
      show _ ++ List.replicate (l.2 + r.2).toNat l.1 = _ ++ (List.replicate l.2.toNat l.1 ++ List.replicate r.2.toNat r.1)
      rw [← z, List.replicate_append_replicate]
      congr 2
      omega
    · rw [if_neg z, plainR_app]
theorem pos_splice {h : List Run} {r : Run} (p : ∀ x ∈ h, 0 < x.2) (q : 0 < r.2) : ∀ x ∈ spliceR h [r], 0 < x.2 := by
  intro x hx
  cases e : h.getLast? with
  | none =>
    rw [splice_none e, List.mem_singleton] at hx
    subst hx
    exact q
  | some l =>
    rw [splice_some e] at hx
    by_cases z : l.1 = r.1
    · rw [if_pos z] at hx
      rcases List.mem_append.mp hx with hx | hx
      · exact p x ((List.dropLast_sublist h).subset hx)
      · rw [List.mem_singleton] at hx
        subst hx
        have := p l (List.mem_of_getLast? e)
        show 0 < l.2 + r.2
        omega
    · rw [if_neg z] at hx
      rcases List.mem_append.mp hx with hx | hx
      · exact p x hx
      · rw [List.mem_singleton] at hx
        subst hx
        exact q
theorem join_keeps {rs : List Run} (h : ∀ r ∈ rs, 0 < r.2) : (∀ x ∈ joinR rs, 0 < x.2) ∧ plainR (joinR rs) = plainR rs := by
  have : ∀ n, (∀ x ∈ joinR (rs.take n), 0 < x.2) ∧ plainR (joinR (rs.take n)) = plainR (rs.take n) := by
    intro n
    induction n with
    | zero => exact ⟨fun x hx => by simp [join_nil] at hx, rfl⟩
    | succ n ih =>
      cases e : rs[n]? with
      | none =>
        rw [List.take_add_one, e, show (none : Option Run).toList = [] from rfl, List.append_nil]
        exact ih
      | some r =>
        have hr := h r (List.mem_of_getElem? e)
        rw [join_take e]
        refine ⟨pos_splice ih.1 hr, ?_⟩
        rw [plain_splice ih.1 hr, ih.2, plainR_more e, plain_one]
  have k := this rs.length
  rw [List.take_length] at k
  exact k
theorem join_pos {rs : List Run} (h : ∀ r ∈ rs, 0 < r.2) : ∀ x ∈ joinR rs, 0 < x.2 := (join_keeps h).1
theorem plain_join {rs : List Run} (h : ∀ r ∈ rs, 0 < r.2) : plainR (joinR rs) = plainR rs := (join_keeps h).2
theorem ones_pos (ws : List Str) : ∀ r ∈ onesR ws, 0 < r.2 := fun r hr => by
  obtain ⟨z, _, rfl⟩ := List.mem_map.mp hr
  exact Int.one_pos
theorem plain_ones : ∀ ws : List Str, plainR (onesR ws) = ws
  | [] => rfl
  | z :: ws => by
    show plainR ((z, 1) :: onesR ws) = _
    rw [plain_cons, plain_ones ws]
    rfl
theorem size_join {rs : List Run} (h : ∀ r ∈ rs, 0 < r.2) : sizeR (joinR rs) = ((plainR rs).length : Int) := by
  rw [← plain_join h, plainR_len fun r hr => Int.le_of_lt (join_pos h r hr)]
/-- joined runs joined again -/
theorem join_join {rs : List Run} (h : ∀ r ∈ rs, 0 < r.2) : joinR (joinR rs) = joinR rs := by
  rw [← join_plain (join_pos h), plain_join h, join_plain h]
theorem last_plain {rs : List Run} (h : ∀ r ∈ rs, 0 < r.2) (b : Str) : lastR b rs = ((plainR rs).getLast?).getD b := by
  rcases List.eq_nil_or_concat rs with rfl | ⟨L, r, rfl⟩
  · rfl
  · rw [List.concat_eq_append] at h ⊢
    have hr := h r (List.mem_append_right _ (List.mem_singleton.mpr rfl))
    unfold lastR
    rw [plainR_app, plain_one]
    obtain ⟨m, hm⟩ : ∃ m : Nat, r.2.toNat = m + 1 := ⟨r.2.toNat - 1, by omega⟩
    rw [hm, List.replicate_succ', ← List.append_assoc, List.getLast?_concat, List.getLast?_concat]
    rfl
/-- the letter at a place -/
theorem part_plain : ∀ {rs : List Run} {n : Nat} {z : Str}, (∀ r ∈ rs, 0 < r.2) → (plainR rs)[n]? = some z → ∃ (f b : List Run) (r : Run), partR rs (n : Int) = some (f, r :: b) ∧ r.1 = z
  | [], n, z, _, e => by simp [plainR] at e
  | r :: rs, n, z, h, e => by
    have hr := h r (List.mem_cons_self ..)
    unfold partR
    by_cases n0 : (n : Int) = 0
    · rw [if_pos n0]
      refine ⟨[], rs, r, rfl, ?_⟩
      have : n = 0 := by omega
      subst this
      rw [plain_cons] at e
      obtain ⟨m, hm⟩ : ∃ m : Nat, r.2.toNat = m + 1 := ⟨r.2.toNat - 1, by omega⟩
      rw [hm, List.replicate_succ] at e
      exact Option.some.inj e
    · rw [if_neg n0]
      rw [plain_cons] at e
      by_cases q : (n : Int) < r.2
      · rw [if_pos q]
        refine ⟨_, _, (r.1, r.2 - n), rfl, ?_⟩
        rw [List.getElem?_append_left (by rw [List.length_replicate]; omega), List.getElem?_replicate, if_pos (by omega)] at e
        exact Option.some.inj e
      · rw [if_neg q]
        rw [List.getElem?_append_right (by rw [List.length_replicate]; omega), List.length_replicate] at e
        obtain ⟨f, b, r', e1, e2⟩ := part_plain (fun x hx => h x (List.mem_cons_of_mem _ hx)) e
        have : ((n - r.2.toNat : Nat) : Int) = (n : Int) - r.2 := by omega
        rw [this] at e1
        exact ⟨r :: f, b, r', by rw [e1]; rfl, e2⟩
theorem plain_mem {rs : List Run} {z : Str} (h : z ∈ plainR rs) : ∃ r ∈ rs, r.1 = z := by
  obtain ⟨r, hr, hz⟩ := List.mem_flatMap.mp h
  exact ⟨r, hr, (List.eq_of_mem_replicate hz).symm⟩
end Ask

/-! o[e] by an instance's own __getitem__, what it raises wished for at the slots as they stand -/
namespace Ask
open PySem L2 PySem.Spec PyProof.Rows
def tItI (C : Addr) (sp : Sp) (E : L2.St → XK) (ta tb : TE) : TE := fun σ H Q => ta σ H fun x H1 => tb σ H1 fun y H2 => ∃ (a dx : Addr) (fs : List (Str × V)), x = .ref a ∧ H2 a = some (.ins C dx fs) ∧ sp [.ref a, y] H2 Q (E σ)
section
variable {X : Cx} {CX : CXT} {k : Nat} {C f : Addr} {fd : FuncData} {ps : List Str} {sp : Sp} {E : L2.St → XK}
theorem run_atS {A : Around} {pins : List (Addr × Obj)} {σ : L2.St} {H : Hp} {s : Shared} {Q : VK} {us : List Value} {vs : List V} (F : FnOk X.prog X.w X.K X.mg X.base CX k f fd ps sp) (hr : Room k A) (hfr : A.frames = X.A.frames) (hb : Binds X.K fd ps []) (hx : PassesAt CX X σ (E σ))
    (I : Inv X pins σ H s) (r : Vals vs us) (h : sp vs H Q (E σ)) : wpAny (model X.prog X.w) A (call (.ref f) us) (EP X pins σ Q) X.xe s := by
  have hl : us.length = ps.length := by rw [← r.length]; exact F.len _ _ _ _ h
  have b := hb s us I.kIn (by rw [List.append_nil]; exact hl)
  rw [List.append_nil] at b
  have e0 : Env0 X.prog X.w X.K X.mg X.base A X.stack s H := by
    have e := I.env0
    exact ⟨by rw [hfr]; exact e.frames, e.mod, e.bs, e.bsz, e.funs, e.frf, e.hok, e.bare⟩
  refine wpAny_call (codeAny_mono (F.run A X.stack s H ⟨us, []⟩ us vs Q (E σ) hr e0 b r h) fun r s' hq => ?_)
  cases r with
  | error e => exact hx pins H s e s' I hq
  | ok fl =>
    cases fl with
    | ret u => exact I.after hq
    | next => exact False.elim hq
    | brk => exact False.elim hq
    | cont => exact False.elim hq
theorem pe_itI {a b : Expr} {pos : Pos} {ta tb : TE} (ha : PE X a ta) (hb : PE X b tb) (F : FnOk X.prog X.w X.K X.mg X.base CX k f fd ps sp) (hr : Room (k + 1) X.A) (hbd : Binds X.K fd ps []) (hx : ∀ σ, PassesAt CX X σ (E σ))
    (hs : PySem.W.findIn X.K (.ref C) "__getitem__" = some (some (.ref f))) (hfn : PySem.W.fnIn X.K f = true) (hf : PySem.W.isFn X.K (.ref f) = true)
    (hsl : ∀ (x : Addr) (i : Value), subscripted b true (.ref x) i = runValue (.builtin "lifetime.subscript" ⟨[.ref x, i], []⟩) := by intro x i; with_unfolding_all rfl) : PE X (.Subscript a b pos) (tItI C sp E ta tb) := by
  refine ⟨fun pins s σ H Q I h => ?_⟩
  refine Subscript_ (binT ha hb I h fun v u s2 x y H2 I2 rx ry q => ?_)
  obtain ⟨p, dx, fs, rfl, hp, q⟩ := q
  obtain rfl : v = Value.ref p := rx
  obtain ⟨mA, J, _⟩ := ins_get I2.hok hp
  obtain ⟨od, J, _⟩ := J.look
  obtain ⟨m, hF⟩ := I2.fr
  exact PySem.W.sub_K hF I2.ok.mod.kin J hs hfn hf (run_atS (vs := [.ref p, y]) F hr.in1 rfl hbd (hx σ) I2 (.cons rfl (.cons ry .nil)) q) (hsl _ _)
end
end Ask

namespace Ask
open PySem PySem.Spec PyProof.Rows L2
/-- o.m(e, ..) within a try, what it raises wished for at the slots as they stand -/
def tMethE (C : Addr) (m : Str) (sp : Sp) (E : L2.St → XK) (ta : TE) (t : TA) : TE := fun σ H Q => ta σ H fun x H1 => ∃ (a dx : Addr) (fs : List (Str × V)), x = .ref a ∧ H1 a = some (.ins C dx fs) ∧ fs.lookup m = none ∧ t σ H1 fun vs H2 => sp (x :: vs) H2 Q (E σ)
theorem pe_methE {X : Cx} {CX : CXT} {k : Nat} {f C : Addr} {fd : FuncData} {ps : List Str} {sp : Sp} {E : L2.St → XK} {m : Str} {pos apos : Pos} {e o : Expr} {es : List Expr} {ta : TE} {t : TA} {pl : Sem Bool} (he : PE X o ta) (c : Cls X.K C) (hm : Meth X.K C m f)
    (F : FnOk X.prog X.w X.K X.mg X.base CX k f fd ps sp) (hr : Room k X.A) (hb : Binds X.K fd ps []) (hx : ∀ σ, PassesAt CX X σ (E σ)) (ha : PA X (e :: es) t)
    (hst : starEach (e :: es) X.env = (false, eval e X.env) :: starEach es X.env := by rfl) (hpl : (backTo pos (starEach es X.env)).any (·.1) = false := by rfl)
    (ht : eval (.Call (.Attribute o m apos) (e :: es) [] pos) X.env = (do
      let ov ← eval o X.env
      standAt apos.atName
      let (f, first) ← holding [ov] (getMethod ov m pl)
      callWith pos f first (backTo pos (starEach (e :: es) X.env)) (backToKw pos (keywordEach [] X.env))) := by rfl) :
    PE X (.Call (.Attribute o m apos) (e :: es) [] pos) (tMethE C m sp E ta t) := by
  refine ⟨fun pins s σ H Q I h => PySem.W.methodCall_KW (pl := pl) (thn (he.run pins s σ H _ I h) fun u s1 ⟨x, H1, I1, rx, a, dx, fs, ex, ea, l, q⟩ => ?_) ht⟩
  subst ex
  obtain rfl : u = Value.ref a := rx
  refine getmeth_ok I1 ea c hm l (PySem.W.callWith_K (first := [.ref a]) (h₀ := X.base) I.ok.mod.kin hm.kp (thn (ha.run pos pins s1 σ H1 _ I1 q) fun us s2 ⟨vs, H2, I2, r, q2⟩ => ⟨I2.kIn, ?_⟩) hst hpl)
  exact run_fnS (us := .ref a :: us) (vs := .ref a :: vs) F hr hb (hx σ) I2 (.cons rfl r) q2
/-- o.m() within a try -/
theorem pe_methE0 {X : Cx} {CX : CXT} {k : Nat} {f C : Addr} {fd : FuncData} {ps : List Str} {sp : Sp} {E : L2.St → XK} {m : Str} {pos apos : Pos} {o : Expr} {ta : TE} {pl : Sem Bool} (he : PE X o ta) (c : Cls X.K C) (hm : Meth X.K C m f)
    (F : FnOk X.prog X.w X.K X.mg X.base CX k f fd ps sp) (hr : Room k X.A) (hb : Binds X.K fd ps []) (hx : ∀ σ, PassesAt CX X σ (E σ))
    (ht : eval (.Call (.Attribute o m apos) [] [] pos) X.env = (do
      let ov ← eval o X.env
      standAt apos.atName
      let (f, first) ← holding [ov] (getMethod ov m pl)
      callWith pos f first (backTo pos (starEach [] X.env)) (backToKw pos (keywordEach [] X.env))) := by rfl) :
    PE X (.Call (.Attribute o m apos) [] [] pos) (tMethE C m sp E ta tNil) := by
  refine ⟨fun pins s σ H Q I h => PySem.W.methodCall_KW (pl := pl) (thn (he.run pins s σ H _ I h) fun u s1 ⟨x, H1, I1, rx, a, dx, fs, ex, ea, l, q⟩ => ?_) ht⟩
  subst ex
  obtain rfl : u = Value.ref a := rx
  exact getmeth_ok I1 ea c hm l (PySem.W.callWith_K0 (first := [.ref a]) I1.kIn hm.kp (run_fnS (us := [.ref a]) (vs := [.ref a]) F hr hb (hx σ) I1 (.cons rfl .nil) q))
end Ask

/-! o + l by an instance's own __add__, l a list or a tuple -/
namespace Ask
open PySem L2 PySem.Spec PyProof.Rows
theorem fills_list : fillsNumberSlot (.type "list") "add" = pure false := by
  have a : typeLookup (.type "list") (PySem.dunder "add") = pure (some (.builtin "list.__add__")) := by rw [typeLookup_type, builtinLookup_eq_fast]; kernel_rfl
  have b : typeLookup (.type "list") (PySem.dunderR "add") = pure none := by rw [typeLookup_type, builtinLookup_eq_fast]; kernel_rfl
  have c : isSeqSlot (some (.builtin "list.__add__")) = true := by decide +kernel
  unfold fillsNumberSlot
  simp [a, b, c]
theorem fills_tup : fillsNumberSlot (.type "tuple") "add" = pure false := by
  have a : typeLookup (.type "tuple") (PySem.dunder "add") = pure (some (.builtin "tuple.__add__")) := by rw [typeLookup_type, builtinLookup_eq_fast]; kernel_rfl
  have b : typeLookup (.type "tuple") (PySem.dunderR "add") = pure none := by rw [typeLookup_type, builtinLookup_eq_fast]; kernel_rfl
  have c : isSeqSlot (some (.builtin "tuple.__add__")) = true := by decide +kernel
  unfold fillsNumberSlot
  simp [a, b, c]
section
variable {prog : Program} {w : World} {A : Around} {E : Value → Shared → Prop} {s : Shared} {K : PySem.W.Frag} {x C L f : Addr} {h₀ : Heap} {m : Str → Option Value} {ox : Obj} {od : Option Obj}
open PySem.W in
theorem add_K {T : String} {b : Value} {Q : Value → Shared → Prop} (F : Fr h₀ L s.heap m) (X₀ : K.In h₀) (I : InstAt s.heap x ox C od) (hb : s.TypeIs b T) (hT : fillsNumberSlot (.type T) "add" = pure false) (hc : selfFirst K C = true)
    (hs : findIn K (.ref C) "__add__" = some (some (.ref f))) (hf : isFn K (.ref f) = true)
    (h : wpAny (model prog w) A (call (.ref f) [.ref x, b]) (PySem.W.CmpBack Q) E s) : wpAny (model prog w) A (binaryOp .Add (.ref x) b) Q E s := by
  have X := X₀.keeps F.keep
  have ed : ("__add__" : Str) = PySem.dunder "add" := by decide +kernel
  rw [ed] at hs
  obtain ⟨cd, hcd, hm⟩ := any_some hc
  obtain ⟨rest, hm⟩ : ∃ rest, cd.mro = .ref C :: rest := by
    cases q : cd.mro with
    | nil => rw [q] at hm; cases hm
    | cons a r => rw [q] at hm; exact ⟨r, by rw [List.head?_cons] at hm; cases (beq_iff_eq.mp hm); rfl⟩
  unfold binaryOp
  refine wpAny_holding (wpAny_bind ?_)
  unfold binaryOp1
  refine wpAny_bind (I.type.here (wpAny_bind (wpAny_typeOf hb (wpAny_bind ((fills_K X hcd hm hs).here ?_)))))
  rw [show ((Value.ref C == Value.type T) = false) from by simp]
  simp only [Bool.false_eq_true, if_false]
  show wpAny (model prog w) A (fillsNumberSlot (.type T) "add" >>= _) _ _ _
  rw [hT]
  refine wpAny_bind (wpAny_pure ?_)
  simp only [Bool.and_false, Bool.false_eq_true, if_false, Bool.false_and]
  refine wpAny_bind (wpAny_pure ?_)
  simp only [Bool.false_eq_true, if_false]
  refine wpAny_bind (m := tryMethod (.ref x) _ b) ?_
  unfold tryMethod
  refine wpAny_bind (special_fn X I hs (beq_iff_eq.mp hf) (wpAny_mono h (fun v s' hv => ?_) fun _ _ e => e))
  cases v <;> first | exact hv.elim | exact wpAny_pure (wpAny_pure (wpAny_pure hv))
end
section
variable {X : Cx} {CX : CXT} {k : Nat} {C f : Addr} {fd : FuncData} {ps : List Str} {sp : Sp} {E : XK}
theorem op_addI (F : FnOk X.prog X.w X.K X.mg X.base CX k f fd ps sp) (hr : Room k X.A) (hb : Binds X.K fd ps []) (hx : Passes CX X E) (hs : PySem.W.findIn X.K (.ref C) "__add__" = some (some (.ref f))) (hf : PySem.W.isFn X.K (.ref f) = true) (hc : PySem.W.selfFirst X.K C = true) :
    OpR X (binaryOp .Add) (fun x y H Q => ∃ (a b dx : Addr) (fs : List (Str × V)) (zs : List V), x = .ref a ∧ y = .ref b ∧ H a = some (.ins C dx fs) ∧ (SqL X.K H b zs ∨ SqT X.K H b zs) ∧ sp [.ref a, .ref b] H (fun v H' => (∃ r, v = .ref r) ∧ Q v H') E) := by
  intro pins s σ H x y v u Q I rx ry h
  obtain ⟨a, b, dx, fs, zs, rfl, rfl, ha, hz, q⟩ := h
  cases rx
  cases ry
  obtain ⟨mA, J, _⟩ := ins_get I.hok ha
  obtain ⟨od, J, _⟩ := J.look
  obtain ⟨m, hF⟩ := I.fr
  have body : wpAny (model X.prog X.w) X.A (call (.ref f) [.ref a, .ref b]) (PySem.W.CmpBack (EP X pins σ Q)) X.xe s := by
    refine thn (run_at (vs := [.ref a, .ref b]) F hr rfl hb hx I (.cons rfl (.cons rfl .nil)) q) fun r s' ⟨z, H', I', rz, ⟨p, ez⟩, q'⟩ => ?_
    subst ez
    obtain rfl : r = Value.ref p := rz
    exact ⟨.ref p, H', I', rfl, q'⟩
  rcases hz with hz | hz
  · obtain ⟨its, _, ⟨o, n, e, c, _, _⟩, _⟩ := I.list hz
    exact add_K hF I.ok.mod.kin J (T := "list") ⟨o, e, c⟩ fills_list hc hs hf body
  · obtain ⟨its, _, ⟨o, e, c, _⟩, _⟩ := I.tuple hz
    exact add_K hF I.ok.mod.kin J (T := "tuple") ⟨o, e, c⟩ fills_tup hc hs hf body
end
end Ask

namespace Ask
open PySem L2
section
variable {P : Program} {w : World} {K : PySem.W.Frag} {mg : Str → Option Value} {base : Heap}
/-! ### a great number -/
def spGreat : Sp := fun vs H Q _ => ∃ (p c : Addr) (ns : List Int) (B : Nat), vs = [.ref p] ∧ Pen c ns H p B ∧ B ≤ 500000000 ∧ ∀ (H' : Hp) (r : Int), Go p c ns H H' (B + 30) → 1 ≤ r → r ≤ 1000000000000000000000000000000 → Q (.int r) H'
abbrev s__law_great : Stmt := top 46
theorem sc__law_great : FnScope ["_law_pen_here", "_law_found", "_law_k"] ["_law_pen_here"] (defScope s__law_great) := ⟨rfl, rfl, rfl, by decide +kernel, rfl, by decide +kernel, by decide +kernel⟩
theorem ok_great {f fD : Addr} {fd fdD : FuncData} (F : Fun K "_law_great" "_law_great" s__law_great f fd) (T : Blt mg)
    (GD : FnOk P w K mg base CX0 1 fD fdD ["_law_pen_here", "_law_many"] spDraw) (D : At K mg "_law_draw" fD fdD ["_law_pen_here", "_law_many"]) : FnOk P w K mg base CX0 2 f fd ["_law_pen_here"] spGreat := by
  refine F.ok sc__law_great (fun vs H Q E h => ?_) (fun cdv A outer s H vs Q E hr h => ?_)
  · obtain ⟨p, c, ns, B, rfl, _⟩ := h
    rfl
  · obtain ⟨p, c, ns, B, rfl, hp, hB, k⟩ := h
    refine ⟨_, (pss_cons (ps_set (i := 1) sc__law_great.nd rfl (Or.inl rfl) pe_int)
      (pss_cons (ps_for PassesOwn.never rfl (pi_range1 rfl T.n_range (pa_cons pe_int pa_nil)) (pg_name (i := 2) sc__law_great.nd rfl (Or.inl rfl)) (pss_one (ps_set (i := 1) sc__law_great.nd rfl (Or.inl rfl) (pe_op op_add (pe_op op_mul pe_int (pv 1)) (pe_call GD hr (by rfl) D.m D.k D.b .nil pass0 (pa_cons (pv 0) (pa_cons pe_int pa_nil)))))))
      (pss_one (ps_ret (pe_op op_add pe_int (pv 1)))))), ?_⟩
    refine ⟨30, rfl, by decide, by decide, for_range (lo := 0) (n := 30) (fun i σ' H' => ∃ (x : Int) (o2 : Option V), σ' = [some (.ref p), some (.int x), o2] ∧ Go p c ns H H' (B + i) ∧ 0 ≤ x ∧ x < 10 ^ i) ⟨0, none, rfl, Go.refl hp, by decide, by decide⟩ ?_ ?_⟩
    · rintro i σ' H1 hi ⟨x, o2, rfl, g1, x0, x1⟩
      refine ⟨_, rfl, _, _, rfl, rfl, .inl ⟨by decide, by decide⟩, _, rfl, p, c, ns, 10, B + i, rfl, g1.pen, by omega, by decide, by decide, fun H2 r g2 r0 r1 => ⟨_, _, rfl, rfl, _, _, rfl, g1.step g2, by omega, ?_⟩⟩
      rw [Int.pow_succ]
      omega
    · rintro σ' H1 ⟨x, o2, rfl, g1, x0, x1⟩
      have x1 : x < 1000000000000000000000000000000 := x1
      exact ⟨_, rfl, _, _, rfl, rfl, k H1 _ g1 (by omega) (by omega)⟩
/-! ### a count -/
def spCount : Sp := fun vs H Q _ => ∃ (p c : Addr) (ns : List Int) (B : Nat), vs = [.ref p] ∧ Pen c ns H p B ∧ B ≤ 400000000 ∧ ∀ (H' : Hp) (r : Int), Go p c ns H H' (B + 40) → 1 ≤ r → r ≤ 1000000000000000000000000000000 → Q (.int r) H'
abbrev s__law_count : Stmt := top 47
theorem sc__law_count : FnScope ["_law_pen_here", "_law_way"] ["_law_pen_here"] (defScope s__law_count) := ⟨rfl, rfl, rfl, by decide +kernel, rfl, by decide +kernel, by decide +kernel⟩
theorem ok_count {f fD fG : Addr} {fd fdD fdG : FuncData} (F : Fun K "_law_count" "_law_count" s__law_count f fd)
    (GD : FnOk P w K mg base CX0 1 fD fdD ["_law_pen_here", "_law_many"] spDraw) (D : At K mg "_law_draw" fD fdD ["_law_pen_here", "_law_many"])
    (GG : FnOk P w K mg base CX0 2 fG fdG ["_law_pen_here"] spGreat) (AG : At K mg "_law_great" fG fdG ["_law_pen_here"]) : FnOk P w K mg base CX0 3 f fd ["_law_pen_here"] spCount := by
  refine F.ok sc__law_count (fun vs H Q E h => ?_) (fun cdv A outer s H vs Q E hr h => ?_)
  · obtain ⟨p, c, ns, B, rfl, _⟩ := h
    rfl
  · obtain ⟨p, c, ns, B, rfl, hp, hB, k⟩ := h
    have hr1 := hr.mono (j := 1) (by decide)
    refine ⟨_, (pss_cons (ps_set (i := 1) sc__law_count.nd rfl (Or.inl rfl) (pe_call GD hr1 (by rfl) D.m D.k D.b .nil pass0 (pa_cons (pv 0) (pa_cons pe_int pa_nil))))
      (pss_cons (ps_if (pt_cmpR op_lt (pv 1) pe_int (nomark _)) (pss_one (ps_ret (pe_ix ix_list (pe_lst (pa_cons pe_int (pa_cons pe_int (pa_cons pe_int (pa_cons pe_int (pa_cons pe_int (pa_cons pe_int pa_nil))))))) (pv 1) (fun _ _ => rfl)))) pss_nil)
      (pss_one (ps_ret (pe_ix ix_list (pe_lst (pa_cons (pe_op op_add pe_int (pe_call GD hr1 (by rfl) D.m D.k D.b .nil pass0 (pa_cons (pv 0) (pa_cons pe_int pa_nil)))) (pa_cons (pe_op op_sub (pe_op op_pow pe_int pe_int) (pe_call GD hr1 (by rfl) D.m D.k D.b .nil pass0 (pa_cons (pv 0) (pa_cons pe_int pa_nil)))) (pa_cons (pe_call GG hr (by rfl) AG.m AG.k AG.b .nil pass0 (pa_cons (pv 0) pa_nil)) pa_nil)))) (pe_op op_sub (pv 1) pe_int) (fun _ _ => rfl)))))), ?_⟩
    refine ⟨_, rfl, p, c, ns, 9, B, rfl, hp, by omega, by decide, by decide, fun H1 r g1 r0 r1 => ?_⟩
    refine ⟨_, rfl, _, _, rfl, rfl, _, rfl, ite2 (fun q => ?_) (fun q => ?_)⟩
    · have q : r < 6 := of_decide_eq_true q
      refine ⟨by show 6 ≤ sizeLine; decide, fun u hu => ?_⟩
      have g2 := g1.new (o := .lst [.int 1, .int 1, .int 2, .int 2, .int 3, .int 5]) hu
      obtain ⟨n, rfl⟩ : ∃ n : Nat, r = (n : Int) := ⟨r.toNat, by omega⟩
      have hn : n < 6 := by omega
      obtain ⟨v, e1, e2⟩ : ∃ v : Int, ([V.int 1, .int 1, .int 2, .int 2, .int 3, .int 5] : List V)[n]? = some (.int v) ∧ 1 ≤ v ∧ v ≤ 5 := by
        match n, hn with
        | 0, _ => exact ⟨1, rfl, by decide⟩
        | 1, _ => exact ⟨1, rfl, by decide⟩
        | 2, _ => exact ⟨2, rfl, by decide⟩
        | 3, _ => exact ⟨2, rfl, by decide⟩
        | 4, _ => exact ⟨3, rfl, by decide⟩
        | 5, _ => exact ⟨5, rfl, by decide⟩
      exact ⟨_, rfl, u, _, _, _, rfl, rfl, SqL.of upd_same, at_by (j := n) rfl e1, k _ v (g2.mono (by omega)) (by omega) (by omega)⟩
    · have q : ¬ r < 6 := fun z => q (decide_eq_true z)
      refine ⟨_, rfl, p, c, ns, 9, _, rfl, g1.pen, by omega, by decide, by decide, fun H2 r2 g2 a0 a1 => ⟨_, _, rfl, rfl, _, _, rfl, rfl, ⟨by decide, by decide, by decide⟩, _, rfl, p, c, ns, 4, _, rfl, g2.pen, by omega, by decide, by decide, fun H3 r3 g3 b0 b1 => ⟨_, _, rfl, rfl, _, rfl, p, c, ns, _, rfl, g3.pen, by omega, fun H4 r4 g4 c0 c1 => ?_⟩⟩⟩
      have g := ((g1.step g2).step g3).step g4
      refine ⟨by show 3 ≤ sizeLine; decide, fun u hu => ?_⟩
      have g5 := g.new (o := .lst [.int (7 + r2), .int (10 ^ Int.toNat 30 - r3), .int r4]) hu
      obtain ⟨n, hn1, hn⟩ : ∃ n : Nat, r - 6 = (n : Int) ∧ n < 3 := ⟨(r - 6).toNat, by omega, by omega⟩
      obtain ⟨v, e1, e2⟩ : ∃ v : Int, ([V.int (7 + r2), .int (10 ^ Int.toNat 30 - r3), .int r4] : List V)[n]? = some (.int v) ∧ 1 ≤ v ∧ v ≤ 1000000000000000000000000000000 := by
        match n, hn with
        | 0, _ => exact ⟨_, rfl, by omega⟩
        | 1, _ =>
          refine ⟨_, rfl, ?_⟩
          show 1 ≤ (1000000000000000000000000000000 : Int) - r3 ∧ (1000000000000000000000000000000 : Int) - r3 ≤ _
          omega
        | 2, _ => exact ⟨_, rfl, by omega⟩
      exact ⟨_, rfl, _, _, rfl, rfl, u, _, _, _, rfl, rfl, SqL.of upd_same, at_by (j := n) hn1 e1, k _ v (g5.mono (by omega)) e2.1 e2.2⟩
end
end Ask

namespace Ask
open PySem L2
theorem PairsV.go {p c : Addr} {ns : List Int} {H H' : Hp} {B : Nat} {xs : List V} {rs : List Run} (h : PairsV H xs rs) (g : Go p c ns H H' B) : PairsV H' xs rs :=
  ⟨h.1, fun i v r h1 h2 => let ⟨b, e, h3⟩ := h.2 i v r h1 h2; ⟨b, e, g.tup h3⟩⟩
/-- drawn runs -/
def RunOk (ys : List Str) (rs : List Run) : Prop := ∀ r ∈ rs, r.1 ∈ ys ∧ 1 ≤ r.2 ∧ r.2 ≤ 1000000000000000000000000000000
theorem RunOk.pos {ys : List Str} {rs : List Run} (h : RunOk ys rs) : ∀ r ∈ rs, 0 < r.2 := fun r hr => by have := (h r hr).2.1; omega
/-! ### where runs end -/
def marksR (rs : List Run) : List Int := (List.range (rs.length + 1)).map fun i => sizeR (rs.take i)
theorem sizeR_more {rs : List Run} {i : Nat} {r : Run} (h : rs[i]? = some r) : sizeR (rs.take (i + 1)) = sizeR (rs.take i) + r.2 := by
  rw [List.take_add_one, h, sizeR_app]
  show _ + (r.2 + 0) = _
  rw [Int.add_zero]
/-! ### the letter at a place -/
def letR : List Run → Int → Option Str
  | [], _ => none
  | r :: rs, n => if 0 ≤ n ∧ n < r.2 then some r.1 else letR rs (n - r.2)
def optV : Option Str → V
  | some z => .str z
  | none => .non
theorem let_neg : ∀ {rs : List Run} {n : Int}, (∀ r ∈ rs, 0 < r.2) → n < 0 → letR rs n = none
  | [], _, _, _ => rfl
  | r :: rs, n, h, hn => by
    have hr := h r (List.mem_cons_self ..)
    unfold letR
    rw [if_neg (by omega)]
    exact let_neg (fun x hx => h x (List.mem_cons_of_mem _ hx)) (by omega)
theorem let_far : ∀ {rs : List Run} {n : Int}, (∀ r ∈ rs, 0 < r.2) → sizeR rs ≤ n → letR rs n = none
  | [], _, _, _ => rfl
  | r :: rs, n, h, hn => by
    have hr := h r (List.mem_cons_self ..)
    have hs := sizeR_nonneg (rs := rs) fun x hx => Int.le_of_lt (h x (List.mem_cons_of_mem _ hx))
    rw [sizeR_cons] at hn
    unfold letR
    rw [if_neg (by omega)]
    exact let_far (fun x hx => h x (List.mem_cons_of_mem _ hx)) (by omega)
theorem let_part : ∀ {rs : List Run} {n : Int}, (∀ r ∈ rs, 0 < r.2) → 0 ≤ n → n < sizeR rs → ∃ (f b : List Run) (r : Run), partR rs n = some (f, r :: b) ∧ letR rs n = some r.1
  | [], n, _, h0, h1 => by
    have h1 : n < 0 := h1
    omega
  | r :: rs, n, h, h0, h1 => by
    have hr := h r (List.mem_cons_self ..)
    rw [sizeR_cons] at h1
    unfold partR letR
    by_cases n0 : n = 0
    · rw [if_pos n0, if_pos (by omega)]
      exact ⟨[], rs, r, rfl, rfl⟩
    · rw [if_neg n0]
      by_cases q : n < r.2
      · rw [if_pos q, if_pos ⟨h0, q⟩]
        exact ⟨_, _, (r.1, r.2 - n), rfl, rfl⟩
      · rw [if_neg q, if_neg (by omega)]
        obtain ⟨f, b, r', e1, e2⟩ := let_part (fun x hx => h x (List.mem_cons_of_mem _ hx)) (by omega) (show n - r.2 < sizeR rs by omega)
        exact ⟨r :: f, b, r', by rw [e1]; rfl, e2⟩
theorem letR_drop {rs : List Run} {i : Nat} {r : Run} (h : rs[i]? = some r) (n : Int) : letR (rs.drop i) n = if 0 ≤ n ∧ n < r.2 then some r.1 else letR (rs.drop (i + 1)) (n - r.2) := by
  obtain ⟨hi, e⟩ := List.getElem?_eq_some_iff.mp h
  rw [List.drop_eq_getElem_cons hi, e]
  rfl
section
variable {P : Program} {w : World} {K : PySem.W.Frag} {mg : Str → Option Value} {base : Heap}
def spRuns (K : PySem.W.Frag) : Sp := fun vs H Q _ => ∃ (p c q : Addr) (ns : List Int) (B : Nat) (ys : List Str) (m : Int), vs = [.ref p, .ref q, .int m] ∧ Pen c ns H p B ∧ B ≤ 300000000 ∧ SqL K H q (ys.map V.str) ∧ 0 < ys.length ∧ ys.length ≤ 100 ∧ 0 ≤ m ∧ m ≤ 20 ∧
  ∀ (H' : Hp) (L : Addr) (xs : List V) (rs : List Run), Go p c ns H H' (B + 2000) → H L = none → H' L = some (.lst xs) → PairsV H' xs rs → (rs.length : Int) ≤ m → RunOk ys rs → Q (.ref L) H'
abbrev s__law_runs : Stmt := top 48
theorem sc__law_runs : FnScope ["_law_pen_here", "_law_letters_here", "_law_highest", "_law_k"] ["_law_pen_here", "_law_letters_here", "_law_highest"] (defScope s__law_runs) := ⟨rfl, rfl, rfl, by decide +kernel, rfl, by decide +kernel, by decide +kernel⟩
theorem ok_runs {f fD fP fC : Addr} {fd fdD fdP fdC : FuncData} (F : Fun K "_law_runs" "_law_runs" s__law_runs f fd) (T : Blt mg)
    (GD : FnOk P w K mg base CX0 1 fD fdD ["_law_pen_here", "_law_many"] spDraw) (D : At K mg "_law_draw" fD fdD ["_law_pen_here", "_law_many"])
    (GP : FnOk P w K mg base CX0 2 fP fdP ["_law_pen_here", "_law_options"] (spPick K)) (AP : At K mg "_law_pick" fP fdP ["_law_pen_here", "_law_options"])
    (GC : FnOk P w K mg base CX0 3 fC fdC ["_law_pen_here"] spCount) (AC : At K mg "_law_count" fC fdC ["_law_pen_here"]) :
    FnOk P w K mg base CX0 4 f fd ["_law_pen_here", "_law_letters_here", "_law_highest"] (spRuns K) := by
  refine F.ok sc__law_runs (fun vs H Q E h => ?_) (fun cdv A outer s H vs Q E hr h => ?_)
  · obtain ⟨p, c, q, ns, B, ys, m, rfl, _⟩ := h
    rfl
  · obtain ⟨p, c, q, ns, B, ys, m, rfl, hp, hB, hq, l0, l1, m0, m1, k⟩ := h
    have h1 := hr.mono (j := 1) (by decide)
    have h2 := hr.mono (j := 2) (by decide)
    refine ⟨_, (pss_one (ps_ret (pe_lc (own := [("_law_k", 3)]) rfl sc__law_runs.nd (pi_range1 rfl T.n_range (pa_cons (pe_call GD (by exact h1) (by rfl) D.m D.k D.b .nil pass0 (pa_cons (pv 0) (pa_cons (pe_op op_add (pv 2) pe_int) pa_nil))) pa_nil)) (blkOk_by (N := ["_law_pen_here", "_law_letters_here", "_law_highest", "_law_k"]) (sc := defScope s__law_runs) (by decide +kernel)) (fun _ _ _ _ _ => (pg_name (i := 3) sc__law_runs.nd rfl (Or.inl rfl))) (fun _ _ _ _ _ => pts_nil) (fun _ _ _ _ _ => (pe_tup (pa_cons (pe_call GP (by exact h2) (by rfl) AP.m AP.k AP.b .nil pass0 (pa_cons (pv 0) (pa_cons (pv 1) pa_nil))) (pa_cons (pe_call GC (by exact hr) (by rfl) AC.m AC.k AC.b .nil pass0 (pa_cons (pv 0) pa_nil)) pa_nil))))))), ?_⟩
    have z1 : (100000 : Nat) ≤ sizeLine := by decide
    refine ⟨_, rfl, _, rfl, _, _, rfl, rfl, p, c, ns, m + 1, B, rfl, hp, by omega, by omega, by omega, fun H1 r g1 r0 r1 => ⟨r, rfl, by omega, by omega, fun L hL => ?_⟩⟩
    have hL0 := g1.free hL
    refine lc_range (lo := 0) (n := r.toNat) (fun j H' => Go p c ns H H' (B + 1 + 50 * j) ∧ ∃ xs rs, H' L = some (.lst xs) ∧ PairsV H' xs rs ∧ rs.length = j ∧ RunOk ys rs) ⟨(g1.new hL).mono (by omega), [], [], upd_same, PairsV.nil, rfl, fun r hr => by cases hr⟩ (fun j H2 hj hh => ?_) (fun H2 hh => ?_)
    · obtain ⟨g2, xs, rs, e1, e2, e3, e4⟩ := hh
      refine ⟨rfl, _, rfl, _, rfl, p, c, ns, .ref q, _, rfl, g2.pen, by omega, .inl ⟨q, _, rfl, g2.seq hq, by rw [List.length_map]; exact l0, by rw [List.length_map]; omega, fun H3 v g3 hv => ?_⟩⟩
      obtain ⟨z, hz, rfl⟩ := List.mem_map.mp hv
      refine ⟨_, rfl, p, c, ns, _, rfl, g3.pen, by omega, fun H4 n g4 n0 n1 => ⟨by show 2 ≤ sizeLine; decide, fun b hb => ?_⟩⟩
      have g34 := g3.step g4
      have g5 := (g2.step g34).new (o := .tup [.str z, .int n]) hb
      have e1' := g34.lst e1
      have el := e2.1
      have e1n : upd H4 b (.tup [.str z, .int n]) L = some (.lst xs) := by rw [upd_ne (ne_of_none e1' hb)]; exact e1'
      refine ⟨xs, e1n, by omega, (g5.mut hL0).mono (by omega), _, rs ++ [(z, n)], upd_same, (((e2.go g34).same (Ask.Same.made1 (Same.refl H4) hb)).app (b := b) (r := (z, n)) upd_same).mut e1n, by rw [List.length_append, e3]; rfl, fun r' hr' => ?_⟩
      rcases List.mem_append.mp hr' with hr' | hr'
      · exact e4 r' hr'
      · rw [List.mem_singleton] at hr'
        subst hr'
        exact ⟨hz, n0, n1⟩
    · obtain ⟨g2, xs, rs, e1, e2, e3, e4⟩ := hh
      exact k H2 L xs rs (g2.mono (by omega)) hL0 e1 e2 (by omega) e4
end
end Ask

/-! data that repr takes: how deep, how long -/
namespace Ask
open PySem L2 PySem.Spec PyProof.Rows StrLaws
structure Dk (d : PyData) (L : Nat) : Prop where
  lay : d.canLay0 = true
  dep : d.depth ≤ 5
  sho : d.showable = true
  len : d.shown.length ≤ L
structure DkAll (ds : List PyData) (L : Nat) : Prop where
  lay : PyData.canLayAll0 ds = true
  dep : PyData.depthAll ds ≤ 5
  sho : PyData.showableAll ds = true
  len : ((PyData.shownAll ds).map (·.length)).sum + 2 * ds.length ≤ L
theorem shownAll_len : ∀ ds : List PyData, (PyData.shownAll ds).length = ds.length
  | [] => rfl
  | d :: ds => by simp only [PyData.shownAll, List.length_cons, shownAll_len ds]
theorem Dk.mono {d : PyData} {L M : Nat} (h : Dk d L) (l : L ≤ M) : Dk d M := ⟨h.lay, h.dep, h.sho, Nat.le_trans h.len l⟩
theorem DkAll.nil : DkAll [] 0 := ⟨rfl, Nat.zero_le _, rfl, Nat.le_refl _⟩
theorem DkAll.cons {d : PyData} {ds : List PyData} {L M : Nat} (h : Dk d L) (k : DkAll ds M) : DkAll (d :: ds) (L + 2 + M) := by
  refine ⟨?_, Nat.max_le.mpr ⟨h.dep, k.dep⟩, ?_, ?_⟩
  · show (PyData.canLay0 d && PyData.canLayAll0 ds) = true
    rw [h.lay, k.lay] <;> rfl
  · show (PyData.showable d && PyData.showableAll ds) = true
    rw [h.sho, k.sho] <;> rfl
  · show ((PyData.shown d :: PyData.shownAll ds).map (·.length)).sum + 2 * (ds.length + 1) ≤ _
    rw [List.map_cons, List.sum_cons]
    have := h.len
    have := k.len
    omega
theorem DkAll.each {f : PyData → Prop} {L : Nat} : ∀ {ds : List PyData}, (∀ d ∈ ds, Dk d L) → DkAll ds ((L + 2) * ds.length)
  | [], _ => DkAll.nil
  | d :: ds, h => by
    have k := (h d (List.mem_cons_self ..))
    have r := DkAll.each (f := f) (ds := ds) fun x hx => h x (List.mem_cons_of_mem _ hx)
    have := DkAll.cons k r
    rw [List.length_cons, Nat.mul_succ, Nat.add_comm _ (L + 2)]
    exact this
theorem DkAll.tup {ds : List PyData} {L : Nat} (h : DkAll ds L) (d : PyData.depthAll ds ≤ 4) : Dk (.tuple ds) (L + 3) := by
  refine ⟨h.lay, Nat.succ_le_succ d, h.sho, ?_⟩
  have := tupleText_len_le (PyData.shownAll ds)
  have e := shownAll_len ds
  have := h.len
  show (tupleText (PyData.shownAll ds)).length ≤ _
  omega
theorem DkAll.lst {ds : List PyData} {L : Nat} (h : DkAll ds L) (d : PyData.depthAll ds ≤ 4) : Dk (.list ds) (L + 3) := by
  refine ⟨h.lay, Nat.succ_le_succ d, h.sho, ?_⟩
  have := listText_len_le (PyData.shownAll ds)
  have e := shownAll_len ds
  have := h.len
  show (listText (PyData.shownAll ds)).length ≤ _
  omega
theorem Dk.nod {d : PyData} {L : Nat} (h : Dk d L) : d.hasDict = false := PyData.hasDict_of_canLay d h.lay
theorem Dk.shaped {d : PyData} {L : Nat} (h : Dk d L) : SeqAt.shaped d = true := by
  unfold SeqAt.shaped
  rw [h.lay, decide_eq_true (Nat.le_trans h.dep (by decide))] <;> rfl
theorem dk_str {z : Str} (a : ∀ c ∈ z.cps.toList, c < 128) : Dk (.str z) (10 * z.length + 10) := by
  refine ⟨?_, Nat.zero_le _, rfl, ?_⟩
  · show PyData.strOk z = true
    unfold PyData.strOk
    rw [← Array.all_toList, List.all_eq_true]
    intro c hc
    have := a c hc
    exact decide_eq_true (by omega)
  · have l := StrLaws.reprText_len z (fun c hc => by have := a c hc; omega)
    show (reprText z).length ≤ _
    omega
theorem dk_int {i : Int} (h0 : 0 ≤ i) (h1 : i < 10 ^ 40) : Dk (.int i) 40 := by
  refine ⟨rfl, Nat.zero_le _, ?_, ?_⟩
  · show decide (i.natAbs.log2 < 1920) = true
    refine decide_eq_true ?_
    by_cases z : i.natAbs = 0
    · rw [z]
      decide
    · refine (Nat.log2_lt z).mpr ?_
      have : (10 : Int) ^ 40 < (2 : Int) ^ 1920 := by decide +kernel
      have : (i.natAbs : Int) < (2 : Int) ^ 1920 := by omega
      exact_mod_cast this
  · exact toString_length_le h0 (by decide) h1
theorem dk_non : Dk .none 4 := ⟨rfl, Nat.zero_le _, rfl, by decide⟩
theorem dk_bool (b : Bool) : Dk (.bool b) 5 := by cases b <;> exact ⟨rfl, Nat.zero_le _, rfl, by decide⟩
end Ask

namespace Ask
open PySem L2
/-- letters as they stand in runs -/
def Short (ys : List Str) : Prop := ∀ y ∈ ys, y.length ≤ 13 ∧ Asc y
theorem Lts.short {ys : List Str} (h : Lts ys) : Short ys := fun y hy => (h.ok y hy).2
theorem Lts.plain {ys : List Str} (h : Lts ys) : Plain ys := h.fit
theorem dk_run {r : Run} (h1 : r.1.length ≤ 13) (h2 : Asc r.1) (h3 : 0 ≤ r.2) (h4 : r.2 < 10 ^ 40) : Dk (runD r) 190 ∧ (runD r).depth ≤ 1 := by
  have k := DkAll.cons (dk_str (z := r.1) h2) (DkAll.cons (dk_int h3 h4) DkAll.nil)
  refine ⟨(DkAll.tup k (by show max 0 (max 0 0) ≤ 4; decide)).mono (by omega), by show max 0 (max 0 0) + 1 ≤ 1; decide⟩
theorem dk_runs {rs : List Run} (h : ∀ r ∈ rs, r.1.length ≤ 13 ∧ Asc r.1 ∧ 0 ≤ r.2 ∧ r.2 < 10 ^ 40) : Dk (runsD rs) (192 * rs.length + 3) ∧ (runsD rs).depth ≤ 2 := by
  have k := DkAll.each (f := fun _ => True) (L := 190) (ds := rs.map runD) fun d hd => by
    obtain ⟨r, hr, rfl⟩ := List.mem_map.mp hd
    obtain ⟨a, b, c, d⟩ := h r hr
    exact (dk_run a b c d).1
  rw [List.length_map] at k
  have dp := (lay_runs fun r hr => (h r hr).2.1).2.1
  exact ⟨DkAll.tup k (by omega), by show PyData.depthAll (rs.map runD) + 1 ≤ 2; omega⟩
theorem dk_strs {ws : List Str} (h : Short ws) : DkAll (ws.map PyData.str) (142 * ws.length) ∧ PyData.depthAll (ws.map PyData.str) = 0 := by
  have k := DkAll.each (f := fun _ => True) (L := 140) (ds := ws.map PyData.str) fun d hd => by
    obtain ⟨r, hr, rfl⟩ := List.mem_map.mp hd
    obtain ⟨a, b⟩ := h r hr
    exact (dk_str (z := r) b).mono (by omega)
  rw [List.length_map] at k
  refine ⟨k, ?_⟩
  clear k
  induction ws with
  | nil => rfl
  | cons w ws ih =>
    show max 0 (PyData.depthAll (ws.map PyData.str)) = 0
    rw [ih fun x hx => h x (List.mem_cons_of_mem _ hx)]
    rfl
section
variable {P : Program} {w : World} {K : PySem.W.Frag} {mg : Str → Option Value} {base : Heap} {CL CB CM CH : Addr} {H : Hp} {a m t : Addr} {ys : List Str} {b : Str} {xs : List V} {rs : List Run} {Q : VK} {E : XK}
/-- Letters(a) is made -/
theorem let_made (lts : Lts ys) (ha : SqL K H a (ys.map V.str) ∨ SqT K H a (ys.map V.str)) {x dx : Addr} (hx : H x = none) (hdx : H dx = none) (hne : dx ≠ x) (k : ∀ (H' : Hp) (t : Addr), Same H H' → Mde CL H' x t ys → Q .non H') :
    spLet K CL CB CM [.ref x, .ref a] (upd (upd H dx (.own x)) x (.ins CL dx [])) Q E := by
  have sm : Same H (upd (upd H dx (.own x)) x (.ins CL dx [])) := Ask.Same.made1 (Ask.Same.made1 (Same.refl H) hdx) (by rw [upd_ne hne.symm]; exact hx)
  refine ⟨x, dx, a, _, _, (fun _ => True), rfl, upd_same, seqA_same ha sm, itl_strs lts.fit, (by rw [List.length_map]; have := lts.l1; omega), fun _ _ _ e => ?_, fun _ _ e => ?_, fun H5 t o5 _ ho e1 e2 kk => ?_⟩
  · rw [lts.res] at e
    cases e
  · rw [List.length_map] at e
    have := lts.l1
    omega
  · exact k H5 t (Same.made hx hdx fun b o e hb => kk b o hb e) ⟨dx, o5, e1, e2, ho⟩
/-- History(m, b, a) is made -/
theorem hist_made (hM : Mde CL H m t ys) (hb : b = "new" ∨ b = "found") (ha : SqL K H a xs ∨ SqT K H a xs) (hR : RunsV K H xs rs) (ln : rs.length ≤ 1000) (hok : ∀ r ∈ rs, r.1 ∈ ys ∧ 1 ≤ r.2 ∧ r.2 ≤ 1000000000000000000000000000000) (lm : (joinR rs).length ≤ 400)
    {x dx : Addr} (hx : H x = none) (hdx : H dx = none) (hne : dx ≠ x) (k : ∀ H', Same H H' → HistAt K CL CH H' x ys b (joinR rs) → Q .non H') :
    spHist K CL CH [.ref x, .ref m, .str b, .ref a] (upd (upd H dx (.own x)) x (.ins CH dx [])) Q E := by
  have sm : Same H (upd (upd H dx (.own x)) x (.ins CH dx [])) := Ask.Same.made1 (Ask.Same.made1 (Same.refl H) hdx) (by rw [upd_ne hne.symm]; exact hx)
  refine ⟨x, dx, m, t, a, b, ys, xs, rs, rfl, upd_same, hM.same sm, hb, seqA_same ha sm, hR.same sm, ln, hok, lm, fun H' c ks e1 e2 e3 e4 kk => ?_⟩
  exact k H' (Same.made hx hdx fun b o e hb => kk b o hb e) ⟨dx, m, t, c, ks, e1, e2, e3, e4⟩
end
end Ask

namespace Ask
open PySem L2
/-! ### no two neighbours alike -/
def NoEq : List Run → Prop
  | [] => True
  | r :: rs => (∀ s, rs.head? = some s → r.1 ≠ s.1) ∧ NoEq rs
theorem noeq_snoc : ∀ {rs : List Run} {r : Run}, NoEq (rs ++ [r]) ↔ (NoEq rs ∧ ∀ l, rs.getLast? = some l → l.1 ≠ r.1)
  | [], r => by
    refine ⟨fun _ => ⟨trivial, (fun l h => by cases h)⟩, fun _ => ⟨(fun s h => by cases h), trivial⟩⟩
  | [a], r => by
    constructor
    · rintro ⟨h1, _⟩
      refine ⟨⟨(fun s h => by cases h), trivial⟩, fun l h => ?_⟩
      cases h
      exact h1 r rfl
    · rintro ⟨_, h2⟩
      refine ⟨fun s h => ?_, (fun s h => by cases h), trivial⟩
      cases h
      exact h2 a rfl
  | a :: b :: rs, r => by
    have ih := noeq_snoc (rs := b :: rs) (r := r)
    constructor
    · rintro ⟨h1, h2⟩
      obtain ⟨i1, i2⟩ := ih.mp h2
      exact ⟨⟨h1, i1⟩, fun l h => i2 l (by rw [List.getLast?_cons_cons] at h; exact h)⟩
    · rintro ⟨⟨h1, h2⟩, h3⟩
      exact ⟨h1, ih.mpr ⟨h2, fun l h => h3 l (by rw [List.getLast?_cons_cons]; exact h)⟩⟩
theorem noeq_splice {h : List Run} {r : Run} (n : NoEq h) : NoEq (spliceR h [r]) := by
  rcases List.eq_nil_or_concat h with rfl | ⟨g, l, rfl⟩
  · exact ⟨(fun s h => by cases h), trivial⟩
  · rw [List.concat_eq_append] at n ⊢
    have gl : (g ++ [l]).getLast? = some l := by simp
    rw [splice_some gl]
    by_cases q : l.1 = r.1
    · rw [if_pos q, List.dropLast_concat]
      obtain ⟨n1, n2⟩ := noeq_snoc.mp n
      exact noeq_snoc.mpr ⟨n1, n2⟩
    · rw [if_neg q]
      refine noeq_snoc.mpr ⟨n, fun l' h => ?_⟩
      rw [gl] at h
      cases h
      exact q
theorem noeq_join (rs : List Run) : NoEq (joinR rs) := by
  have : ∀ n, NoEq (joinR (rs.take n)) := by
    intro n
    induction n with
    | zero => exact trivial
    | succ n ih =>
      cases e : rs[n]? with
      | none =>
        rw [List.take_add_one, e, show (none : Option Run).toList = [] from rfl, List.append_nil]
        exact ih
      | some r =>
        rw [join_take e]
        exact noeq_splice ih
  have k := this rs.length
  rw [List.take_length] at k
  exact k
theorem join_noeq {rs : List Run} (h : NoEq rs) : joinR rs = rs := by
  have : ∀ n, n ≤ rs.length → NoEq (rs.take n) ∧ joinR (rs.take n) = rs.take n := by
    intro n
    induction n with
    | zero => intro _; exact ⟨trivial, rfl⟩
    | succ n ih =>
      intro hn
      obtain ⟨i1, i2⟩ := ih (by omega)
      have e : rs[n]? = some rs[n] := List.getElem?_eq_getElem (by omega)
      have nn : NoEq (rs.take (n + 1)) := by
        have : ∀ (m : Nat) (ss : List Run), NoEq ss → NoEq (ss.take m) := by
          intro m
          induction m with
          | zero => intro ss _; exact trivial
          | succ m im =>
            intro ss hs
            cases ss with
            | nil => exact trivial
            | cons a ss =>
              refine ⟨fun s h => hs.1 s ?_, im ss hs.2⟩
              cases m with
              | zero => cases h
              | succ m => cases ss with
                | nil => cases h
                | cons b ss => exact h
        exact this _ _ h
      refine ⟨nn, ?_⟩
      rw [join_take e, i2, List.take_add_one, e]
      rw [List.take_add_one, e] at nn
      have nn := (noeq_snoc.mp nn).2
      cases g : (rs.take n).getLast? with
      | none =>
        rw [splice_none g]
        have : rs.take n = [] := List.getLast?_eq_none_iff.mp g
        rw [this]
        rfl
      | some l =>
        rw [splice_some g, if_neg (nn l g)]
        rfl
  have k := (this rs.length (Nat.le_refl _)).2
  rw [List.take_length] at k
  exact k
/-! ### the two parts of a cut -/
theorem splice_cons {f b : List Run} (r : Run) (h : f ≠ []) : spliceR (r :: f) b = r :: spliceR f b := by
  obtain ⟨g, l, rfl⟩ : ∃ g l, f = g ++ [l] := by
    rcases List.eq_nil_or_concat f with e | ⟨g, l, e⟩
    · exact absurd e h
    · exact ⟨g, l, by rw [e, List.concat_eq_append]⟩
  have e1 : (g ++ [l]).getLast? = some l := by simp
  have e2 : (r :: (g ++ [l])).getLast? = some l := by rw [← List.cons_append, List.getLast?_concat]
  have e3 : (r :: (g ++ [l])).dropLast = r :: (g ++ [l]).dropLast := by rw [← List.cons_append, List.dropLast_concat, List.dropLast_concat]
  unfold spliceR
  rw [e1, e2]
  cases b with
  | nil => rfl
  | cons c b =>
    show (if l.1 = c.1 then _ else _) = r :: (if l.1 = c.1 then _ else _)
    by_cases q : l.1 = c.1
    · rw [if_pos q, if_pos q, e3]
      rfl
    · rw [if_neg q, if_neg q]
      rfl
structure Parts (rs : List Run) (n : Int) (f b : List Run) : Prop where
  sz : sizeR f = n
  spl : spliceR f b = rs
  nf : NoEq f
  nb : NoEq b
  pf : ∀ r ∈ f, 0 < r.2
  pb : ∀ r ∈ b, 0 < r.2
  lf : f.length ≤ rs.length
  lb : b.length ≤ rs.length
  mf : ∀ r ∈ f, ∃ y ∈ rs, y.1 = r.1
  mb : ∀ r ∈ b, ∃ y ∈ rs, y.1 = r.1
  hf : ∀ r, f.head? = some r → ∃ s, rs.head? = some s ∧ s.1 = r.1
  e0 : f = [] → b = rs
theorem part_parts : ∀ {rs : List Run} {n : Int} {f b : List Run}, NoEq rs → (∀ r ∈ rs, 0 < r.2) → 0 ≤ n → partR rs n = some (f, b) → Parts rs n f b
  | [], n, f, b, _, _, _, e => by
    unfold partR at e
    by_cases n0 : n = 0
    · rw [if_pos n0] at e
      cases e
      subst n0
      exact ⟨rfl, rfl, trivial, trivial, (fun r hr => by cases hr), (fun r hr => by cases hr), Nat.le_refl _, Nat.le_refl _, (fun r hr => by cases hr), (fun r hr => by cases hr), (fun r h => by cases h), fun _ => rfl⟩
    · rw [if_neg n0] at e
      cases e
  | r :: rs, n, f, b, ne, ps, h0, e => by
    have hr := ps r (List.mem_cons_self ..)
    unfold partR at e
    by_cases n0 : n = 0
    · rw [if_pos n0] at e
      cases e
      subst n0
      exact ⟨rfl, rfl, trivial, ne, (fun r hr => by cases hr), ps, Nat.zero_le _, Nat.le_refl _, (fun r hr => by cases hr), fun r hr => ⟨r, hr, rfl⟩, (fun r h => by cases h), fun _ => rfl⟩
    · rw [if_neg n0] at e
      by_cases q : n < r.2
      · rw [if_pos q] at e
        cases e
        refine ⟨?_, ?_, ⟨(fun s h => by cases h), trivial⟩, ⟨ne.1, ne.2⟩, fun x hx => ?_, fun x hx => ?_, by rw [List.length_cons]; exact Nat.succ_le_succ (Nat.zero_le _), Nat.le_refl _, fun x hx => ?_, fun x hx => ?_, fun x h => ?_, (fun h => by cases h)⟩
        · show n + 0 = n
          omega
        · unfold spliceR
          show (if r.1 = r.1 then _ else _) = _
          rw [if_pos rfl]
          show [(r.1, n + (r.2 - n))] ++ rs = r :: rs
          rw [show n + (r.2 - n) = r.2 by omega]
          rfl
        · rw [List.mem_singleton] at hx
          subst hx
          show 0 < n
          omega
        · rcases List.mem_cons.mp hx with rfl | hx
          · show 0 < r.2 - n
            omega
          · exact ps x (List.mem_cons_of_mem _ hx)
        · rw [List.mem_singleton] at hx
          subst hx
          exact ⟨r, List.mem_cons_self .., rfl⟩
        · rcases List.mem_cons.mp hx with rfl | hx
          · exact ⟨r, List.mem_cons_self .., rfl⟩
          · exact ⟨x, List.mem_cons_of_mem _ hx, rfl⟩
        · cases h
          exact ⟨r, rfl, rfl⟩
      · rw [if_neg q] at e
        cases e2 : partR rs (n - r.2) with
        | none => rw [e2] at e; cases e
        | some p =>
          obtain ⟨f', b'⟩ := p
          rw [e2] at e
          cases e
          have i := part_parts ne.2 (fun x hx => ps x (List.mem_cons_of_mem _ hx)) (by omega) e2
          refine ⟨?_, ?_, ⟨fun s h => ?_, i.nf⟩, i.nb, fun x hx => ?_, i.pb, Nat.succ_le_succ i.lf, Nat.le_succ_of_le i.lb, fun x hx => ?_, fun x hx => ?_, fun x h => ?_, (fun h => by cases h)⟩
          · rw [sizeR_cons, i.sz]
            omega
          · by_cases fe : f' = []
            · have := i.e0 fe
              subst fe
              rw [this]
              unfold spliceR
              cases rs with
              | nil => rfl
              | cons s rs =>
                show (if r.1 = s.1 then _ else _) = _
                rw [if_neg (ne.1 s rfl)]
                rfl
            · rw [splice_cons r fe, i.spl]
          · obtain ⟨s', h1, h2⟩ := i.hf s h
            rw [← h2]
            exact ne.1 s' h1
          · rcases List.mem_cons.mp hx with rfl | hx
            · exact hr
            · exact i.pf x hx
          · rcases List.mem_cons.mp hx with rfl | hx
            · exact ⟨x, List.mem_cons_self .., rfl⟩
            · obtain ⟨y, hy, e⟩ := i.mf x hx
              exact ⟨y, List.mem_cons_of_mem _ hy, e⟩
          · obtain ⟨y, hy, e⟩ := i.mb x hx
            exact ⟨y, List.mem_cons_of_mem _ hy, e⟩
          · cases h
            exact ⟨_, rfl, rfl⟩
theorem part_some : ∀ {rs : List Run} {n : Int}, (∀ r ∈ rs, 0 < r.2) → 0 ≤ n → n ≤ sizeR rs → ∃ f b, partR rs n = some (f, b)
  | [], n, _, h0, h1 => by
    have h1 : n ≤ 0 := h1
    unfold partR
    rw [if_pos (by omega)]
    exact ⟨_, _, rfl⟩
  | r :: rs, n, h, h0, h1 => by
    rw [sizeR_cons] at h1
    unfold partR
    by_cases n0 : n = 0
    · rw [if_pos n0]
      exact ⟨_, _, rfl⟩
    · rw [if_neg n0]
      by_cases q : n < r.2
      · rw [if_pos q]
        exact ⟨_, _, rfl⟩
      · rw [if_neg q]
        obtain ⟨f, b, e⟩ := part_some (rs := rs) (n := n - r.2) (fun x hx => h x (List.mem_cons_of_mem _ hx)) (by omega) (by omega)
        exact ⟨r :: f, b, by rw [e]; rfl⟩
/-! ### the law's own cut -/
def takeC (n c : Int) : Int := if n ≤ 0 then 0 else if n < c then n else c
def aheadR : List Run → Int → List Run
  | [], _ => []
  | r :: rs, n => (r.1, takeC n r.2) :: aheadR rs (n - takeC n r.2)
def rearR : List Run → Int → List Run
  | [], _ => []
  | r :: rs, n => (r.1, r.2 - takeC n r.2) :: rearR rs (n - takeC n r.2)
theorem cut_zero : ∀ {rs : List Run}, (∀ r ∈ rs, 0 < r.2) → posR (aheadR rs 0) = [] ∧ posR (rearR rs 0) = rs
  | [], _ => ⟨rfl, rfl⟩
  | r :: rs, h => by
    have hr := h r (List.mem_cons_self ..)
    obtain ⟨i1, i2⟩ := cut_zero (rs := rs) fun x hx => h x (List.mem_cons_of_mem _ hx)
    have t : takeC 0 r.2 = 0 := if_pos (Int.le_refl 0)
    constructor
    · unfold aheadR posR
      rw [t, List.filter_cons, if_neg (by simp)]
      exact i1
    · unfold rearR posR
      rw [t, List.filter_cons, if_pos (by simpa using hr)]
      show (r.1, r.2 - 0) :: posR (rearR rs (0 - 0)) = _
      rw [Int.sub_zero, Int.sub_zero, i2]
theorem cut_part : ∀ {rs : List Run} {n : Int} {f b : List Run}, (∀ r ∈ rs, 0 < r.2) → 0 ≤ n → partR rs n = some (f, b) → posR (aheadR rs n) = f ∧ posR (rearR rs n) = b
  | [], n, f, b, _, _, e => by
    unfold partR at e
    by_cases n0 : n = 0
    · rw [if_pos n0] at e
      cases e
      exact ⟨rfl, rfl⟩
    · rw [if_neg n0] at e
      cases e
  | r :: rs, n, f, b, h, h0, e => by
    have hr := h r (List.mem_cons_self ..)
    have hs : ∀ x ∈ rs, 0 < x.2 := fun x hx => h x (List.mem_cons_of_mem _ hx)
    by_cases n0 : n = 0
    · subst n0
      have := cut_zero h
      unfold partR at e
      rw [if_pos rfl] at e
      cases e
      exact this
    · unfold partR at e
      rw [if_neg n0] at e
      by_cases q : n < r.2
      · rw [if_pos q] at e
        cases e
        have t : takeC n r.2 = n := by unfold takeC; rw [if_neg (by omega), if_pos q]
        obtain ⟨i1, i2⟩ := cut_zero hs
        constructor
        · unfold aheadR posR
          rw [t, List.filter_cons, if_pos (by simp; omega)]
          show (r.1, n) :: posR (aheadR rs (n - n)) = _
          rw [Int.sub_self, i1]
        · unfold rearR posR
          rw [t, List.filter_cons, if_pos (by simp; omega)]
          show (r.1, r.2 - n) :: posR (rearR rs (n - n)) = _
          rw [Int.sub_self, i2]
      · rw [if_neg q] at e
        cases e2 : partR rs (n - r.2) with
        | none => rw [e2] at e; cases e
        | some p =>
          obtain ⟨f', b'⟩ := p
          rw [e2] at e
          cases e
          have t : takeC n r.2 = r.2 := by unfold takeC; rw [if_neg (by omega), if_neg q]
          obtain ⟨i1, i2⟩ := cut_part hs (by omega) e2
          constructor
          · unfold aheadR posR
            rw [t, List.filter_cons, if_pos (by simpa using hr)]
            show (r.1, r.2) :: posR (aheadR rs (n - r.2)) = _
            rw [i1]
          · unfold rearR posR
            rw [t, List.filter_cons, if_neg (by simp)]
            exact i2
end Ask

namespace Ask
open PySem L2
section
variable {P : Program} {w : World} {K : PySem.W.Frag} {mg : Str → Option Value} {base : Heap}
/-! ### a history of checked runs -/
def spChk (CK : Addr) : Sp := fun vs H Q _ => ∃ (p dx : Addr) (c : Addr), vs = [.ref p, .ref c] ∧ H p = some (.ins CK dx []) ∧ ∀ H', H' p = some (.ins CK dx [("runs", .ref c)]) → (∀ b o, b ≠ p → H b = some o → H' b = some o) → Q .non H'
abbrev s_Chk_init : Stmt := inClass (top 38) 0
theorem sc_Chk_init : FnScope ["self", "runs"] ["self", "runs"] (defScope s_Chk_init) := ⟨rfl, rfl, rfl, by decide +kernel, rfl, by decide +kernel, by decide +kernel⟩
theorem ok_chk {f CK : Addr} {fd : FuncData} (F : Fun K "__init__" "CheckedRuns.__init__" s_Chk_init f fd) (cK : Cls K CK) (nK : NoAttr K CK "runs") : FnOk P w K mg base CX0 1 f fd ["self", "runs"] (spChk CK) := by
  refine F.ok sc_Chk_init (fun vs H Q E h => ?_) (fun cdv A outer s H vs Q E hr h => ?_)
  · obtain ⟨p, dx, c, rfl, _⟩ := h
    rfl
  · obtain ⟨p, dx, c, rfl, hp, k⟩ := h
    refine ⟨_, pss_one (ps_fld (pv 0) (pv 1) rfl), ?_⟩
    refine ⟨_, rfl, _, rfl, p, CK, dx, [], rfl, hp, cK, nK, (by show 0 < 1000; decide), k _ upd_same fun b o hb e => by rw [upd_ne hb]; exact e⟩
def spHistC (K : PySem.W.Frag) (CL CH CK : Addr) : Sp := fun vs H Q _ => ∃ (p dx m t a dk c : Addr) (b : Str) (ys : List Str) (ks : List V) (rs : List Run), vs = [.ref p, .ref m, .str b, .ref a] ∧ H p = some (.ins CH dx []) ∧ Mde CL H m t ys ∧ (b = "new" ∨ b = "found") ∧
  H a = some (.ins CK dk [("runs", .ref c)]) ∧ SqT K H c ks ∧ PairsV H ks rs ∧ rs.length ≤ 1000 ∧
  ∀ H', H' p = some (.ins CH dx (hf m c b rs)) → Mde CL H' m t ys → SqT K H' c ks → PairsV H' ks rs → (∀ b o, b ≠ p → H b = some o → H' b = some o) → Q .non H'
theorem ok_histInitC {dvs : List V} {f fB fX fZ CL CH CK : Addr} {fd fdB fdX fdZ : FuncData} (F : FunD K "__init__" "History.__init__" (defArgs s_Hist_init) (defBody s_Hist_init) (defScope s_Hist_init) dvs [] f fd) (T : Blt mg) (hC : HsC K CH) (O : OnC K mg "CheckedRuns" CK) (cK : Cls K CK) (nK : NoAttr K CK "runs") (YK : XkC K CK)
    (GB : FnOk P w K mg base CX0 2 fB fdB ["value"] spReqBeg) (AB : At K mg "require_beginning" fB fdB ["value"])
    (GX : FnOk P w K mg base CX0 4 fX fdX ["letters", "kept", "runs"] (spExtOk K CL)) (AX : At K mg "extended" fX fdX ["letters", "kept", "runs"])
    (GZ : FnOk P w K mg base CX0 1 fZ fdZ ["runs"] (spSize K)) (AZ : At K mg "size_of" fZ fdZ ["runs"]) :
    FnOk P w K mg base CX0 5 f fd ["self", "letters", "beginning", "runs"] (spHistC K CL CH CK) := by
  refine F.ok sc_Hist_init (fun vs H Q E h => ?_) (fun cdv A outer s H vs Q E hr h => ?_)
  · obtain ⟨p, dx, m, t, a, dk, c, b, ys, ks, rs, rfl, _⟩ := h
    rfl
  · obtain ⟨p, dx, m, t, a, dk, c, b, ys, ks, rs, rfl, hp, hM, hb, ha, hc0, hR, ln, k⟩ := h
    have hr1 := hr.mono (j := 1) (by decide)
    refine ⟨_, PSs.nox (pss_cons (ps_expr (pe_call GB (hr.mono (by decide)) (by rfl) AB.m AB.k AB.b .nil pass0 (pa_cons (pv 2) pa_nil)))
      (pss_cons (ps_fld (pv 0) (pv 1) rfl)
      (pss_cons (ps_fld (pv 0) (pv 2) rfl)
      (pss_cons (ps_fld (pv 0) (pe_ifExp (pt_val (pe_callB call_isi (by rfl) T.n_isinstance (by decide +kernel) (pa_cons (pv 3) (pa_cons (pe_gv (v := .ref CK) rfl ⟨_, O.m, rfl⟩) pa_nil)))) (pe_fld (pv 3) rfl) (pe_call GX hr (by rfl) AX.m AX.k AX.b .nil pass0 (pa_cons (pv 1) (pa_cons (pe_tup pa_nil) (pa_cons (pv 3) pa_nil))))) rfl)
      (pss_cons (ps_fld (pv 0) (pe_call GZ hr1 (by rfl) AZ.m AZ.k AZ.b .nil pass0 (pa_cons (pe_fld (pv 0) rfl) pa_nil)) rfl)
      (pss_one (ps_fld (pv 0) (pe_ifExp (pt_truth (pe_fld (pv 0) rfl) (by intro _; rfl)) (pe_ix ix_tup (pe_ix ix_tup (pe_fld (pv 0) rfl) (pe_un un_neg pe_int) (fun _ _ => rfl)) pe_int (fun _ _ => rfl)) (pv 2)) rfl))))))), ?_⟩
    refine ⟨_, rfl, b, rfl, hb, ?_⟩
    -- letters, beginning
    refine ⟨_, rfl, _, rfl, p, CH, dx, [], rfl, hp, hC.c, hC.a1, (by show 0 < 1000; decide), ?_⟩
    have p1 : upd H p (.ins CH dx [("letters", .ref m)]) p = some (.ins CH dx [("letters", .ref m)]) := upd_same
    refine ⟨_, rfl, _, rfl, p, CH, dx, _, rfl, p1, hC.c, hC.a2, (by show 1 < 1000; decide), ?_⟩
    have p2 : upd (upd H p (.ins CH dx (putF "letters" (.ref m) []))) p (.ins CH dx (putF "beginning" (.str b) [("letters", .ref m)])) p = some (.ins CH dx [("letters", .ref m), ("beginning", .str b)]) := upd_same
    have k2 : ∀ b' o, b' ≠ p → H b' = some o → upd (upd H p (.ins CH dx (putF "letters" (.ref m) []))) p (.ins CH dx (putF "beginning" (.str b) [("letters", .ref m)])) b' = some o := fun b' o hb e => by rw [upd_ne hb, upd_ne hb]; exact e
    generalize upd (upd H p (.ins CH dx (putF "letters" (.ref m) []))) p (.ins CH dx (putF "beginning" (.str b) [("letters", .ref m)])) = H2 at p2 k2 ⊢
    have hM2 := hM.but k2 hp
    have nap : a ≠ p := ne_of ha hp (by intro z; injection z with z1 z2 z3; cases z3)
    have ha2 := k2 _ _ nap ha
    have hc := seqT_but hc0 k2 hp
    have hks := hR.but k2 hp
    -- runs
    have kk : PySem.W.kitOne K (.ref CK) (.ref CK) = some true := by
      unfold PySem.W.kitOne
      rw [if_pos (by simp)]
    refine ⟨_, rfl, .ref a, .ref CK, _, _, true, rfl, .own CK, .base (.ins ha2 cK YK.ha YK.hn YK.ht YK.hm), kk, _, rfl, iteT ?_⟩
    refine ⟨_, rfl, a, CK, dk, _, _, rfl, ha2, cK, nK, rfl, ?_⟩
    have s24 := Same.refl H2
    refine ⟨_, rfl, p, CH, dx, _, rfl, s24 _ _ p2, hC.c, hC.a3, (by show 2 < 1000; decide), ?_⟩
    have p5 : upd H2 p (.ins CH dx (putF "runs" (.ref c) [("letters", .ref m), ("beginning", .str b)])) p = some (.ins CH dx [("letters", .ref m), ("beginning", .str b), ("runs", .ref c)]) := upd_same
    have k5 : ∀ b' o, b' ≠ p → H2 b' = some o → upd H2 p (.ins CH dx (putF "runs" (.ref c) [("letters", .ref m), ("beginning", .str b)])) b' = some o := fun b' o hb e => by rw [upd_ne hb]; exact e
    generalize upd H2 p (.ins CH dx (putF "runs" (.ref c) [("letters", .ref m), ("beginning", .str b)])) = H5 at p5 k5 ⊢
    have p4 := s24 _ _ p2
    have hM5 := (hM2.same s24).but k5 p4
    have hc5 := seqT_but hc k5 p4
    have hks5 := hks.but k5 p4
    have kk5 : ∀ b' o, b' ≠ p → H b' = some o → H5 b' = some o := fun b' o hb e => k5 _ _ hb (s24 _ _ (k2 _ _ hb e))
    -- size
    refine ⟨_, rfl, p, CH, dx, _, _, rfl, p5, hC.c, hC.a3, rfl, c, ks, rs, rfl, .inr hc5, hks5.runs, by omega, fun H6 s6 => ?_⟩
    have p6 := s6 _ _ p5
    refine ⟨_, rfl, p, CH, dx, _, rfl, p6, hC.c, hC.a4, (by show 3 < 1000; decide), ?_⟩
    have p7 : upd H6 p (.ins CH dx (putF "size" (.int (sizeR rs)) [("letters", .ref m), ("beginning", .str b), ("runs", .ref c)])) p = some (.ins CH dx [("letters", .ref m), ("beginning", .str b), ("runs", .ref c), ("size", .int (sizeR rs))]) := upd_same
    have k7 : ∀ b' o, b' ≠ p → H6 b' = some o → upd H6 p (.ins CH dx (putF "size" (.int (sizeR rs)) [("letters", .ref m), ("beginning", .str b), ("runs", .ref c)])) b' = some o := fun b' o hb e => by rw [upd_ne hb]; exact e
    generalize upd H6 p (.ins CH dx (putF "size" (.int (sizeR rs)) [("letters", .ref m), ("beginning", .str b), ("runs", .ref c)])) = H7 at p7 k7 ⊢
    have hM7 := (hM5.same s6).but k7 p6
    have hc7 := seqT_but (seqT_same s6 hc5) k7 p6
    have hks7 := (hks5.same s6).but k7 p6
    have kk7 : ∀ b' o, b' ≠ p → H b' = some o → H7 b' = some o := fun b' o hb e => k7 _ _ hb (s6 _ _ (kk5 _ _ hb e))
    -- last
    have fin : ∀ z : Str, z = lastR b rs → Q .non (upd H7 p (.ins CH dx (putF "last" (.str z) [("letters", .ref m), ("beginning", .str b), ("runs", .ref c), ("size", .int (sizeR rs))]))) := fun z hz => by
      have p8 : upd H7 p (.ins CH dx (putF "last" (.str z) [("letters", .ref m), ("beginning", .str b), ("runs", .ref c), ("size", .int (sizeR rs))])) p = some (.ins CH dx (hf m c b rs)) := by
        rw [hz]
        exact upd_same
      have k8 : ∀ b' o, b' ≠ p → H7 b' = some o → upd H7 p (.ins CH dx (putF "last" (.str z) [("letters", .ref m), ("beginning", .str b), ("runs", .ref c), ("size", .int (sizeR rs))])) b' = some o := fun b' o hb e => by rw [upd_ne hb]; exact e
      exact k _ p8 (hM7.but k8 p7) (seqT_but hc7 k8 p7) (hks7.but k8 p7) fun b' o hb e => k8 _ _ hb (kk7 _ _ hb e)
    refine ⟨_, rfl, p, CH, dx, _, _, rfl, p7, hC.c, hC.a3, rfl, !ks.isEmpty, .inr (.inl ⟨ks, hc7, rfl⟩), ite2 (fun q => ?_) (fun q => ?_)⟩
    · have q0 : ks ≠ [] := fun z => by subst z; cases q
      have l1 : 1 ≤ ks.length := List.length_pos_iff.mpr q0
      have e1 := hks7.1
      obtain ⟨l, hl⟩ : ∃ l, rs[rs.length - 1]? = some l := ⟨_, List.getElem?_eq_getElem (by omega)⟩
      obtain ⟨x, hx, hx2⟩ := hks7.get hl
      rw [← e1] at hx
      refine ⟨_, rfl, p, CH, dx, _, _, rfl, p7, hC.c, hC.a3, rfl, _, rfl, c, _, _, _, rfl, rfl, hc7, atI_back hx, x, _, _, _, rfl, rfl, SqT.of hx2, at_by (j := 0) rfl rfl, ?_⟩
      refine ⟨_, rfl, p, CH, dx, _, rfl, p7, hC.c, hC.a5, (by show 4 < 1000; decide), fin l.1 ?_⟩
      unfold lastR
      rw [List.getLast?_eq_getElem?, hl]
      rfl
    · have q : (!ks.isEmpty) = false := (Bool.not_eq_true _).mp q
      have q0 : ks = [] := by cases ks with | nil => rfl | cons => cases q
      have q1 : rs = [] := List.eq_nil_of_length_eq_zero (by rw [← hks7.1, q0]; rfl)
      refine ⟨_, rfl, _, rfl, p, CH, dx, _, rfl, p7, hC.c, hC.a5, (by show 4 < 1000; decide), fin b ?_⟩
      rw [q1]
      rfl
end
end Ask

namespace Ask
open PySem L2
theorem InW.same {H H' : Hp} {x : V} {ys : List Str} {b : Bool} (h : InW H x ys b) (s : Same H H') : InW H' x ys b := by
  rcases h with h | ⟨e, d, ed, h⟩
  · exact .inl h
  · refine .inr ⟨e, d, ed, ?_⟩
    rcases h with ⟨z, h⟩ | ⟨z, h⟩ | ⟨z, h⟩
    · exact .inl ⟨z, s _ _ h⟩
    · exact .inr (.inl ⟨z, s _ _ h⟩)
    · exact .inr (.inr ⟨z, s _ _ h⟩)
/-- a list or a tuple -/
def SqA (K : PySem.W.Frag) (H : Hp) (a : Addr) (xs : List V) : Prop := SqL K H a xs ∨ SqT K H a xs
theorem SqA.same {K : PySem.W.Frag} {H H' : Hp} {a : Addr} {xs : List V} (h : SqA K H a xs) (s : Same H H') : SqA K H' a xs := by
  rcases h with h | h
  · exact .inl (s.seq h)
  · exact .inr (seqT_same s h)
inductive Wr where
  | runs | letter | count
/-- the first thing that is wrong with a run -/
def WrongV (K : PySem.W.Frag) (H : Hp) (ys : List Str) (v : V) : Wr → Prop
  | .runs => ∃ ty, TyX K H v ty ∧ (PySem.W.kitAny K ty [.type "list", .type "tuple"] = some false ∨ (PySem.W.kitAny K ty [.type "list", .type "tuple"] = some true ∧ ∃ b zs, v = .ref b ∧ SqA K H b zs ∧ zs.length ≠ 2))
  | .letter => ∃ b x y ty p, v = .ref b ∧ SqA K H b [x, y] ∧ InW H x ys false ∧ TyX K H x ty ∧ PySem.W.kitOne K ty (.type "str") = some p ∧ (p = true → ∃ z, x = .str z ∧ z ∉ ys)
  | .count => ∃ b z y ty p q, v = .ref b ∧ SqA K H b [.str z, y] ∧ z ∈ ys ∧ TyX K H y ty ∧ PySem.W.kitOne K ty (.type "int") = some p ∧ PySem.W.kitOne K ty (.type "bool") = some q ∧
      ((p && !q) = false ∨ ((p && !q) = true ∧ ∃ i : Int, y = .int i ∧ ¬ (1 ≤ i ∧ i ≤ 1000000000000000000000000000000)))
theorem WrongV.same {K : PySem.W.Frag} {H H' : Hp} {ys : List Str} {v : V} {k : Wr} (h : WrongV K H ys v k) (s : Same H H') : WrongV K H' ys v k := by
  cases k with
  | runs =>
    obtain ⟨ty, h1, h2⟩ := h
    refine ⟨ty, tyx_same h1 s, ?_⟩
    rcases h2 with h2 | ⟨h2, b, zs, e, h3, h4⟩
    · exact .inl h2
    · exact .inr ⟨h2, b, zs, e, h3.same s, h4⟩
  | letter =>
    obtain ⟨b, x, y, ty, p, e, h1, h2, h3, h4⟩ := h
    exact ⟨b, x, y, ty, p, e, h1.same s, h2.same s, tyx_same h3 s, h4⟩
  | count =>
    obtain ⟨b, z, y, ty, p, q, e, h1, h2, h3, h4⟩ := h
    exact ⟨b, z, y, ty, p, q, e, h1.same s, h2, tyx_same h3 s, h4⟩
theorem SqA.ty {K : PySem.W.Frag} {H : Hp} {b : Addr} {xs : List V} (h : SqA K H b xs) : ∃ ty, TyX K H (.ref b) ty ∧ PySem.W.kitAny K ty [.type "list", .type "tuple"] = some true := by
  rcases h with h | h
  · exact ⟨_, ty_list h, kitAny_l⟩
  · exact ⟨_, ty_tup h, kitAny_t⟩
/-- an item of a list or a tuple -/
theorem SqA.ix {K : PySem.W.Frag} {H : Hp} {b : Addr} {xs : List V} {i : Int} {v : V} {Q : VK} (h : SqA K H b xs) (e : atI xs i = some v) (q : Q v H) : rIx K (.ref b) (.int i) H Q := by
  rcases h with h | h
  · exact .inl ⟨b, _, i, _, rfl, rfl, h, e, q⟩
  · exact .inr (.inl ⟨b, _, i, _, rfl, rfl, h, e, q⟩)
/-- what stands at a place: a run that is right, or something wrong -/
inductive Stt where
  | ok (r : Run)
  | no (k : Wr)
def StV (K : PySem.W.Frag) (H : Hp) (ys : List Str) (v : V) : Stt → Prop
  | .ok r => RunV K H v r ∧ r.1 ∈ ys ∧ 1 ≤ r.2 ∧ r.2 ≤ 1000000000000000000000000000000
  | .no k => WrongV K H ys v k
theorem StV.same {K : PySem.W.Frag} {H H' : Hp} {ys : List Str} {v : V} {t : Stt} (h : StV K H ys v t) (s : Same H H') : StV K H' ys v t := by
  cases t with
  | ok r => exact ⟨h.1.same s, h.2⟩
  | no k => exact WrongV.same h s
def StsV (K : PySem.W.Frag) (H : Hp) (ys : List Str) (xs : List V) (ss : List Stt) : Prop := xs.length = ss.length ∧ ∀ (i : Nat) (v : V) (t : Stt), xs[i]? = some v → ss[i]? = some t → StV K H ys v t
theorem StsV.same {K : PySem.W.Frag} {H H' : Hp} {ys : List Str} {xs : List V} {ss : List Stt} (h : StsV K H ys xs ss) (s : Same H H') : StsV K H' ys xs ss := ⟨h.1, fun i v t h1 h2 => (h.2 i v t h1 h2).same s⟩
/-- the first that is wrong -/
def fbad : List Stt → Option (Nat × Wr)
  | [] => none
  | .no k :: _ => some (0, k)
  | .ok _ :: r => (fbad r).map fun p => (p.1 + 1, p.2)
def oks : List Stt → List Run
  | [] => []
  | .no _ :: r => oks r
  | .ok r :: rs => r :: oks rs
theorem fbad_at : ∀ {ss : List Stt} {i : Nat} {k : Wr}, (∀ j < i, ∃ r, ss[j]? = some (.ok r)) → ss[i]? = some (.no k) → fbad ss = some (i, k)
  | [], i, k, _, e => by simp at e
  | .no k' :: ss, 0, k, _, e => by cases e; rfl
  | .no k' :: ss, i + 1, k, h, _ => by
    obtain ⟨r, e⟩ := h 0 (Nat.succ_pos _)
    cases e
  | .ok r :: ss, 0, k, _, e => by cases e
  | .ok r :: ss, i + 1, k, h, e => by
    have ih : fbad ss = some (i, k) := fbad_at (fun j hj => h (j + 1) (Nat.succ_lt_succ hj)) e
    show (fbad ss).map _ = _
    rw [ih]
    rfl
theorem fbad_none : ∀ {ss : List Stt}, (∀ j < ss.length, ∃ r, ss[j]? = some (.ok r)) → fbad ss = none
  | [], _ => rfl
  | .no k' :: ss, h => by
    obtain ⟨r, e⟩ := h 0 (Nat.succ_pos _)
    cases e
  | .ok r :: ss, h => by
    have ih : fbad ss = none := fbad_none fun j hj => h (j + 1) (Nat.succ_lt_succ hj)
    show (fbad ss).map _ = _
    rw [ih]
    rfl
theorem oks_of : ∀ {ss : List Stt}, fbad ss = none → ss = (oks ss).map Stt.ok
  | [], _ => rfl
  | .no k :: ss, h => by cases h
  | .ok r :: ss, h => by
    have h : (fbad ss).map (fun p => (p.1 + 1, p.2)) = none := h
    have ih := oks_of (ss := ss) (by cases e : fbad ss with
      | none => rfl
      | some p => rw [e] at h; cases h)
    show Stt.ok r :: ss = Stt.ok r :: (oks ss).map Stt.ok
    rw [← ih]
theorem oks_len {ss : List Stt} (h : fbad ss = none) : (oks ss).length = ss.length := by
  have := congrArg List.length (oks_of h)
  rw [List.length_map] at this
  exact this.symm
theorem StsV.oks {K : PySem.W.Frag} {H : Hp} {ys : List Str} {xs : List V} {ss : List Stt} (h : StsV K H ys xs ss) (e : fbad ss = none) : RunsV K H xs (oks ss) ∧ ∀ r ∈ oks ss, r.1 ∈ ys ∧ 1 ≤ r.2 ∧ r.2 ≤ 1000000000000000000000000000000 := by
  have eq := oks_of e
  have at_ : ∀ (i : Nat) (r : Run), (Ask.oks ss)[i]? = some r → ss[i]? = some (.ok r) := fun i r hr => by
    rw [eq, List.getElem?_map, hr]
    rfl
  refine ⟨⟨by rw [h.1, oks_len e], fun i v r h1 h2 => (h.2 i v _ h1 (at_ i r h2)).1⟩, fun r hr => ?_⟩
  obtain ⟨i, hi⟩ := List.mem_iff_getElem?.mp hr
  have hl : i < xs.length := by
    rw [h.1]
    exact (List.getElem?_eq_some_iff.mp (at_ i r hi)).1
  exact (h.2 i _ _ (List.getElem?_eq_getElem hl) (at_ i r hi)).2
section
variable {P : Program} {w : World} {K : PySem.W.Frag} {mg : Str → Option Value} {base : Heap}
/-! ### require_runs -/
/-- the class of what is wrong -/
def clW (CR CT CC : Addr) : Wr → Addr
  | .runs => CR
  | .letter => CT
  | .count => CC
def spReq (K : PySem.W.Frag) (CL CR CT CC : Addr) : Sp := fun vs H Q E => ∃ (m t : Addr) (ys : List Str) (a : Addr) (xs : List V) (ss : List Stt), vs = [.ref m, .ref a] ∧ Mde CL H m t ys ∧ (SqL K H a xs ∨ SqT K H a xs) ∧ StsV K H ys xs ss ∧ ss.length ≤ 10000 ∧
  (fbad ss = none → ∀ H', Same H H' → Q .non H') ∧
  (∀ (i : Nat) (k : Wr), fbad ss = some (i, k) → ∀ (H' : Hp) (d : Addr), Same H H' → H' d = some (.xd (fsBad [.int (i : Nat)])) → E (.ref (clW CR CT CC k)) (some d) H')
/-- require_count, of any value whose kind is known -/
def spReqCntE (K : PySem.W.Frag) (CC : Addr) : Sp := fun vs H Q E => ∃ (i : Int) (y : V) (ty : Value) (p q : Bool), vs = [.int i, y] ∧ TyX K H y ty ∧ PySem.W.kitOne K ty (.type "int") = some p ∧ PySem.W.kitOne K ty (.type "bool") = some q ∧
  ((((p && !q) = false ∨ ((p && !q) = true ∧ ∃ j : Int, y = .int j ∧ ¬ (1 ≤ j ∧ j ≤ 1000000000000000000000000000000))) ∧ ∀ (H' : Hp) (d : Addr), Same H H' → H' d = some (.xd (fsBad [.int i])) → E (.ref CC) (some d) H') ∨
   ((p && !q) = true ∧ ∃ n : Int, y = .int n ∧ 1 ≤ n ∧ n ≤ 1000000000000000000000000000000 ∧ Q .non H))
theorem ok_reqCntE {f fW fC CC : Addr} {fd fdW fdC : FuncData} (F : Fun K "require_count" "require_count" s_require_count f fd) (mM : ∃ u, mg "MOST_COUNT" = some u ∧ RelV (.int 1000000000000000000000000000000) u)
    (GW : FnOk P w K mg base CX0 1 fW fdW ["value"] (spWhole K)) (AW : At K mg "is_whole" fW fdW ["value"])
    (FC : FnOk P w K mg base CX0 2 fC fdC ["self", "index"] (spErr CC okBad fsBad)) (EC : ErrAt K mg "BadCount" CC fC fdC ["self", "index"]) :
    FnOk P w K mg base (L2.CX P w) 4 f fd ["index", "value"] (spReqCntE K CC) := by
  refine F.okX sc_require_count (fun vs H Q E h => ?_) (fun cdv A outer s H vs Q E hr h => ?_)
  · obtain ⟨i, y, ty, p, q, rfl, _⟩ := h
    rfl
  · obtain ⟨i, y, ty, p, q, rfl, hty, hp, hq, h⟩ := h
    have hr1 := hr.mono (j := 1) (by decide)
    refine ⟨_, (pss_one (ps_if (PW.pt (pw_or (pt_not (pt_val (pe_call GW hr1 (by rfl) AW.m AW.k AW.b .nil pass0 (pa_cons (pv 1) pa_nil)))) (pw_or1 (pt_not (pt_chain op_le op_le pe_int (pv 1) (pe_gv rfl mM)))))) (pss_one (ps_raise rfl (takes_of rfl rfl rfl rfl) (pmk_oex EC.o EC.i EC.t FC hr EC.b .nil pass0 (by rfl) EC.m (pa_cons (pv 0) pa_nil)))) pss_nil)), ?_⟩
    have bad : (∀ (H' : Hp) (d : Addr), Same H H' → H' d = some (.xd (fsBad [.int i])) → E (.ref CC) (some d) H') → tMkO CC (spErr CC okBad fsBad) [] (tCons (tVar 0) tNil) [some (.int i), some y] H fun cls d H' => E cls d H' := fun kE =>
      ⟨_, rfl, err_made (Same.refl H) ⟨_, rfl⟩ (by show 1 ≤ 1000; decide) (fun H' d s' e' => kE H' d s' e')⟩
    refine ⟨_, rfl, _, ty, p, q, rfl, hty, hp, hq, _, rfl, ?_⟩
    rcases h with ⟨hc, kE⟩ | ⟨hc, n, rfl, h1, h2, k⟩
    · rcases hc with hc | ⟨hc, j, rfl, hj⟩
      · rw [hc]
        exact iteT (bad kE)
      · rw [hc]
        refine iteF ⟨_, rfl, _, _, rfl, rfl, _, rfl, ite2 (fun h1 => ?_) (fun h1 => ?_)⟩
        · refine ⟨_, _, rfl, rfl, _, rfl, ?_⟩
          have h1 : (1 : Int) ≤ j := of_decide_eq_true h1
          rw [decide_eq_false (by omega)]
          exact iteT (bad kE)
        · exact ⟨_, rfl, iteT (bad kE)⟩
    · rw [hc]
      refine iteF ⟨_, rfl, _, _, rfl, rfl, _, rfl, ite2 (fun _ => ?_) (fun q => absurd (decide_eq_true h1) q)⟩
      refine ⟨_, _, rfl, rfl, _, rfl, ?_⟩
      rw [decide_eq_true h2]
      exact iteF k
theorem ok_req {f fO fN fH fR fT CL CR CT CC : Addr} {fd fdO fdN fdH fdR fdT : FuncData} (F : Fun K "require_runs" "require_runs" s_require_runs f fd) (T : Blt mg)
    (GO : FnOk P w K mg base CX0 1 fO fdO ["value", "many"] (spListOf K)) (AO : At K mg "is_list_of" fO fdO ["value", "many"])
    (GN : FnOk P w K mg base (L2.CX P w) 4 fN fdN ["index", "value"] (spReqCntE K CC)) (AN : At K mg "require_count" fN fdN ["index", "value"])
    (GH : FnOk P w K mg base CX0 1 fH fdH ["self", "x"] (spHas CL)) (bH : Binds K fdH ["self", "x"] []) (hH : PySem.W.findIn K (.ref CL) "__contains__" = some (some (.ref fH))) (iH : PySem.W.isFn K (.ref fH) = true)
    (FR : FnOk P w K mg base CX0 2 fR fdR ["self", "index"] (spErr CR okBad fsBad)) (ER : ErrAt K mg "BadRuns" CR fR fdR ["self", "index"])
    (FT : FnOk P w K mg base CX0 2 fT fdT ["self", "index"] (spErr CT okBad fsBad)) (ET : ErrAt K mg "BadLetter" CT fT fdT ["self", "index"]) :
    FnOk P w K mg base (L2.CX P w) 5 f fd ["letters", "runs"] (spReq K CL CR CT CC) := by
  refine F.okX sc_require_runs (fun vs H Q E h => ?_) (fun cdv A outer s H vs Q E hr h => ?_)
  · obtain ⟨m, t, ys, a, xs, ss, rfl, _⟩ := h
    rfl
  · obtain ⟨m, t, ys, a, xs, ss, rfl, hM, hS, hR, hn, kQ, kE⟩ := h
    have hr1 := hr.mono (j := 1) (by decide)
    have hr3 := hr.mono (j := 3) (by decide)
    refine ⟨_, (pss_one (ps_for (passes_of rfl) rfl (pi_enumA (by rfl) T.n_enumerate (pa_cons (pv 1) pa_nil)) (pg_tup rfl (pgs_cons (pg_name (i := 2) sc_require_runs.nd rfl (Or.inl rfl)) (pgs_cons (pg_name (i := 3) sc_require_runs.nd rfl (Or.inl rfl)) pgs_nil)))
      (pss_cons (ps_if (pt_not (pt_val (pe_call GO hr1 (by rfl) AO.m AO.k AO.b .nil pass0 (pa_cons (pv 3) (pa_cons pe_int pa_nil))))) (pss_one (ps_raise rfl (takes_of rfl rfl rfl rfl) (pmk_oex ER.o ER.i ER.t FR hr3 ER.b .nil pass0 (by rfl) ER.m (pa_cons (pv 2) pa_nil)))) pss_nil)
      (pss_cons (ps_if (pt_cmpR (op_notInI (C := CL) (E := E0) GH hr1 bH pass0 hH iH) (pe_ix ix_seq (pv 3) pe_int (fun _ _ => rfl)) (pv 0) rfl) (pss_one (ps_raise rfl (takes_of rfl rfl rfl rfl) (pmk_oex ET.o ET.i ET.t FT hr3 ET.b .nil pass0 (by rfl) ET.m (pa_cons (pv 2) pa_nil)))) pss_nil)
      (pss_one (ps_expr (pe_call (E := E) GN hr (by rfl) AN.m AN.k AN.b .nil (passes_call (takes_of rfl rfl rfl rfl) (fun _ _ _ _ h => h)) (pa_cons (pv 2) (pa_cons (pe_ix ix_seq (pv 3) pe_int (fun _ _ => rfl)) pa_nil))))))))), ?_⟩
    obtain ⟨J, G, wk, hG, fits⟩ : ∃ (J : It) (G : Hp → Prop), Walk J xs.length G (YPair (fun i => some (.int (i : Nat))) (fun i => xs[i]?)) ∧ (∀ H', Same H H' → G H') ∧
        ∀ (R : It → Hp → Prop), R J H → iEnumA K (tCons (tVar 1) tNil) [some (.ref m), some (.ref a), none, none] H R := by
      rcases hS with hS | hS
      · exact ⟨Ite K a, _, walk_enum, fun H' s' => s'.seq hS, fun R r => ⟨_, rfl, a, xs, rfl, .inl ⟨hS, r⟩⟩⟩
      · exact ⟨IteT K a, _, walk_enumT, fun H' s' => seqT_same s' hS, fun R r => ⟨_, rfl, a, xs, rfl, .inr ⟨hS, r⟩⟩⟩
    refine for_any1 fits wk (fun i σ' H' => ∃ o2 o3 : Option V, σ' = [some (.ref m), some (.ref a), o2, o3] ∧ Same H H' ∧ ∀ j < i, ∃ r, ss[j]? = some (.ok r)) ⟨none, none, rfl, Same.refl H, fun j hj => absurd hj (Nat.not_lt_zero _)⟩ (fun i σ' H' _ ⟨_, _, _, s', _⟩ => hG H' s') ?_ (fun σ' H' ⟨_, _, _, s', hno⟩ => kQ (fbad_none (by rw [← hR.1]; exact hno)) H' s')
    rintro i x σ' H2 H3 hi ⟨o2, o3, rfl, s2, hno⟩ ⟨t2, x0, y0, rfl, ht, rfl, ex, ey⟩
    cases ex
    replace ey : xs[i]? = some y0 := ey
    obtain ⟨st, hst⟩ : ∃ st, ss[i]? = some st := ⟨_, List.getElem?_eq_getElem (by rw [← hR.1]; exact hi)⟩
    have s3 := Ask.Same.made1 (o := .tup [.int (i : Nat), y0]) s2 ht
    have ht3 : upd H2 t2 (.tup [.int (i : Nat), y0]) t2 = some (.tup [.int (i : Nat), y0]) := upd_same
    generalize upd H2 t2 (.tup [.int (i : Nat), y0]) = H4 at s3 ht3 ⊢
    have hv := (hR.2 i y0 st ey hst).same s3
    refine ⟨t2, _, rfl, SqT.of ht3, rfl, _, _, rfl, _, _, rfl, rfl, ?_⟩
    have bad : ∀ (k : Wr), st = .no k → ∀ H5, Same H H5 → tMkO (clW CR CT CC k) (spErr (clW CR CT CC k) okBad fsBad) [] (tCons (tVar 2) tNil) [some (.ref m), some (.ref a), some (.int (i : Nat)), some y0] H5 fun cls d H' => E cls d H' := fun k e H5 s5 =>
      ⟨_, rfl, err_made s5 ⟨_, rfl⟩ (by show 1 ≤ 1000; decide) (fun H' d s' e' => kE i k (fbad_at hno (by rw [hst, e])) H' d s' e')⟩
    have more : ∀ (r : Run), st = .ok r → ∀ j < i + 1, ∃ r, ss[j]? = some (.ok r) := fun r e j hj => by
      rcases Nat.lt_succ_iff_lt_or_eq.mp hj with hj | rfl
      · exact hno j hj
      · exact ⟨r, by rw [hst, e]⟩
    -- the three looks, for a list or a tuple of two
    have two : ∀ (b : Addr) (z y : V) (H5 : Hp), y0 = .ref b → SqA K H5 b [z, y] → rIx K y0 (.int 0) H5 = rIx K (.ref b) (.int 0) H5 := fun b z y H5 e _ => by rw [e]
    cases st with
    | no k =>
      cases k with
      | runs =>
        obtain ⟨ty, hty, h⟩ := hv
        rcases h with ka | ⟨ka, b, zs, rfl, hb, hl⟩
        · refine ⟨_, rfl, y0, ty, 2, rfl, hty, .inl ⟨ka, fun H5 s5 => ⟨_, rfl, iteT (bad _ rfl H5 (s3.trans s5))⟩⟩⟩
        · refine ⟨_, rfl, .ref b, ty, 2, rfl, hty, .inr ⟨ka, b, _, rfl, hb, fun H5 s5 => ⟨_, rfl, ?_⟩⟩⟩
          rw [decide_eq_false (by omega)]
          exact iteT (bad _ rfl H5 (s3.trans s5))
      | letter =>
        obtain ⟨b, z, y, tyl, p, rfl, hb, hw, _⟩ := hv
        obtain ⟨ty, hty, ka⟩ := hb.ty
        refine ⟨_, rfl, .ref b, ty, 2, rfl, hty, .inr ⟨ka, b, _, rfl, hb, fun H5 s5 => ⟨_, rfl, ?_⟩⟩⟩
        have s35 := s3.trans s5
        have md := hM.same s35
        obtain ⟨dx, ob, m1, _⟩ := id md
        rw [decide_eq_true (show (([z, y] : List V).length : Int) = 2 from rfl)]
        refine iteF ⟨_, rfl, (hb.same s5).ix (at_by (j := 0) rfl rfl) ⟨_, rfl, m, dx, _, rfl, m1, m, t, ys, _, false, rfl, md, hw.same s5, _, rfl, _, rfl, ?_⟩⟩
        exact iteT (bad _ rfl H5 s35)
      | count =>
        obtain ⟨b, z, y, ty2, p, q, rfl, hb, hz, hty2, hp, hq, hc⟩ := hv
        obtain ⟨ty, hty, ka⟩ := hb.ty
        refine ⟨_, rfl, .ref b, ty, 2, rfl, hty, .inr ⟨ka, b, _, rfl, hb, fun H5 s5 => ⟨_, rfl, ?_⟩⟩⟩
        have s35 := s3.trans s5
        have md := hM.same s35
        obtain ⟨dx, ob, m1, _⟩ := id md
        rw [decide_eq_true (show (([V.str z, y] : List V).length : Int) = 2 from rfl)]
        refine iteF ⟨_, rfl, (hb.same s5).ix (at_by (j := 0) rfl rfl) ⟨_, rfl, m, dx, _, rfl, m1, m, t, ys, _, true, rfl, md, .inl ⟨rfl, (in_mem hz).symm⟩, _, rfl, _, rfl, iteF ?_⟩⟩
        exact ⟨_, rfl, _, rfl, (hb.same s5).ix (at_by (j := 1) rfl rfl) ⟨_, _, ty2, p, q, rfl, tyx_same hty2 s5, hp, hq, .inl ⟨hc, fun H' d s' e' => kE i .count (fbad_at hno hst) H' d (s35.trans s') e'⟩⟩⟩
    | ok r =>
      obtain ⟨⟨b, rfl, hb⟩, hr1, hr2, hr3⟩ := hv
      have hb : SqA K H4 b [.str r.1, .int r.2] := hb
      obtain ⟨ty, hty, ka⟩ := hb.ty
      refine ⟨_, rfl, .ref b, ty, 2, rfl, hty, .inr ⟨ka, b, _, rfl, hb, fun H5 s5 => ⟨_, rfl, ?_⟩⟩⟩
      have s35 := s3.trans s5
      have md := hM.same s35
      obtain ⟨dx, ob, m1, _⟩ := id md
      rw [decide_eq_true (show (([V.str r.1, .int r.2] : List V).length : Int) = 2 from rfl)]
      refine iteF ⟨_, rfl, (hb.same s5).ix (at_by (j := 0) rfl rfl) ⟨_, rfl, m, dx, _, rfl, m1, m, t, ys, _, true, rfl, md, .inl ⟨rfl, (in_mem hr1).symm⟩, _, rfl, _, rfl, iteF ?_⟩⟩
      exact ⟨_, rfl, _, rfl, (hb.same s5).ix (at_by (j := 1) rfl rfl) ⟨_, _, .type "int", true, false, rfl, .base (.int _), kit_ty (by decide +kernel), kit_ty (by decide +kernel), .inr ⟨rfl, _, rfl, hr2, hr3, _, _, rfl, s35, more r rfl⟩⟩⟩
end
end Ask

/-! C(), C an own error without __init__ -/
namespace Ask
open PySem PySem.Spec PyProof.Rows L2
theorem pmk_own0 {X : Cx} {C : Addr} {bmB : List Value} {B newId initId : String} {x : Str} {p pos : Pos} (F : ExcBaseFacts B newId initId bmB) (q : PySem.W.excIn X.K C bmB newId = true) (gC : X.mg x = some (.ref C)) (kC : PySem.W.keepIn X.K (.ref C) = true) (r : Raises X (.ref C)) (hg : Gl X x)
    (hdb : (x == ("__debug__" : Str)) = false := by decide) : PMk X (.Call (.Name x p) [] [] pos) (fun _ H Q => Q (.ref C) none H) := by
  intro pins s σ H Q I h
  refine wpAny_Call_Name_kw (ld_glob I hg gC ?_ hdb)
  refine PySem.W.callWith_K0 (first := []) I.kIn kC ?_
  show wpAny _ _ (call (.ref C) []) _ _ _
  obtain ⟨bm, N, nm, qn, bs, hdct, sn, sub, ab, col, dd, k0, k1, k2, k3, k5, mN, hC, hN, hni, T⟩ := exc_obj I.kIn q
  refine wpAny_call_exc_subT F T hC hN hni (fun h' e hm => ?_) (Nat.zero_le _)
  exact mk_of I hm r h (I.hok.gone hm.new)
/-- an own error class without __init__ -/
structure Err0 (K : PySem.W.Frag) (mg : Str → Option Value) (x : Str) (C : Addr) : Prop where
  m : mg x = some (.ref C)
  e : PySem.W.excIn K C [Value.type "ValueError", Value.type "Exception", Value.type "BaseException", Value.type "object"] "ValueError.__new__" = true
  k : PySem.W.keepIn K (.ref C) = true
  b : PySem.W.subIn K (.ref C) (.type "BaseException") = some true
  t : PySem.W.typeIn K (.ref C) = some (.type "type")
end Ask

namespace Ask
open PySem L2
section
variable {P : Program} {w : World} {K : PySem.W.Frag} {mg : Str → Option Value} {base : Heap}
abbrev s_BadRuns_init : Stmt := inClass (top 14) 0
theorem sc_BadRuns_init : FnScope ["self", "index"] ["self", "index"] (defScope s_BadRuns_init) := ⟨rfl, rfl, rfl, by decide +kernel, rfl, by decide +kernel, by decide +kernel⟩
theorem ok_initBadRuns {f fC C : Addr} {fd fdC : FuncData} (F : Fun K "__init__" "BadRuns.__init__" s_BadRuns_init f fd) (T : OexC K C) (h1 : PySem.W.findIn K (.ref C) "index" = some none)
    (GC : FnOk P w K mg base CX0 1 fC fdC ["value"] spCopy) (CP : At K mg "copied" fC fdC ["value"]) : FnOk P w K mg base CX0 2 f fd ["self", "index"] (spErr C okBad fsBad) := by
  refine F.ok sc_BadRuns_init (fun vs H Q E h => ?_) (fun cdv A outer s H vs Q E hr h => ?_)
  · obtain ⟨a, ws, rfl, ⟨i, rfl⟩, _⟩ := h
    rfl
  · obtain ⟨a, ws, rfl, ⟨i, rfl⟩, ha, k⟩ := h
    refine ⟨_, pss_one (ps_ost (pv 0) (pe_call GC hr (by rfl) CP.m CP.k CP.b .nil pass0 (pa_cons (pv 1) pa_nil))), ?_⟩
    refine ⟨_, rfl, _, rfl, .inl ⟨i, rfl⟩, _, rfl, a, C, rfl, T, h1, .inl ⟨ha, fun dx hdx hne => ?_⟩⟩
    refine k _ dx hdx hne upd_same (by rw [upd_ne hne]; exact upd_same) fun b o hb e => ?_
    rw [upd_ne hb, upd_ne (ne_of_none e hdx)]
    exact e
abbrev s_BadLetter_init : Stmt := inClass (top 12) 0
theorem sc_BadLetter_init : FnScope ["self", "index"] ["self", "index"] (defScope s_BadLetter_init) := ⟨rfl, rfl, rfl, by decide +kernel, rfl, by decide +kernel, by decide +kernel⟩
theorem ok_initBadLetter {f fC C : Addr} {fd fdC : FuncData} (F : Fun K "__init__" "BadLetter.__init__" s_BadLetter_init f fd) (T : OexC K C) (h1 : PySem.W.findIn K (.ref C) "index" = some none)
    (GC : FnOk P w K mg base CX0 1 fC fdC ["value"] spCopy) (CP : At K mg "copied" fC fdC ["value"]) : FnOk P w K mg base CX0 2 f fd ["self", "index"] (spErr C okBad fsBad) := by
  refine F.ok sc_BadLetter_init (fun vs H Q E h => ?_) (fun cdv A outer s H vs Q E hr h => ?_)
  · obtain ⟨a, ws, rfl, ⟨i, rfl⟩, _⟩ := h
    rfl
  · obtain ⟨a, ws, rfl, ⟨i, rfl⟩, ha, k⟩ := h
    refine ⟨_, pss_one (ps_ost (pv 0) (pe_call GC hr (by rfl) CP.m CP.k CP.b .nil pass0 (pa_cons (pv 1) pa_nil))), ?_⟩
    refine ⟨_, rfl, _, rfl, .inl ⟨i, rfl⟩, _, rfl, a, C, rfl, T, h1, .inl ⟨ha, fun dx hdx hne => ?_⟩⟩
    refine k _ dx hdx hne upd_same (by rw [upd_ne hne]; exact upd_same) fun b o hb e => ?_
    rw [upd_ne hb, upd_ne (ne_of_none e hdx)]
    exact e
abbrev s_BadCount_init : Stmt := inClass (top 15) 0
theorem sc_BadCount_init : FnScope ["self", "index"] ["self", "index"] (defScope s_BadCount_init) := ⟨rfl, rfl, rfl, by decide +kernel, rfl, by decide +kernel, by decide +kernel⟩
theorem ok_initBadCount {f fC C : Addr} {fd fdC : FuncData} (F : Fun K "__init__" "BadCount.__init__" s_BadCount_init f fd) (T : OexC K C) (h1 : PySem.W.findIn K (.ref C) "index" = some none)
    (GC : FnOk P w K mg base CX0 1 fC fdC ["value"] spCopy) (CP : At K mg "copied" fC fdC ["value"]) : FnOk P w K mg base CX0 2 f fd ["self", "index"] (spErr C okBad fsBad) := by
  refine F.ok sc_BadCount_init (fun vs H Q E h => ?_) (fun cdv A outer s H vs Q E hr h => ?_)
  · obtain ⟨a, ws, rfl, ⟨i, rfl⟩, _⟩ := h
    rfl
  · obtain ⟨a, ws, rfl, ⟨i, rfl⟩, ha, k⟩ := h
    refine ⟨_, pss_one (ps_ost (pv 0) (pe_call GC hr (by rfl) CP.m CP.k CP.b .nil pass0 (pa_cons (pv 1) pa_nil))), ?_⟩
    refine ⟨_, rfl, _, rfl, .inl ⟨i, rfl⟩, _, rfl, a, C, rfl, T, h1, .inl ⟨ha, fun dx hdx hne => ?_⟩⟩
    refine k _ dx hdx hne upd_same (by rw [upd_ne hne]; exact upd_same) fun b o hb e => ?_
    rw [upd_ne hb, upd_ne (ne_of_none e hdx)]
    exact e
def okManyR : List V → Prop := fun ws => ∃ n : Int, ws = [.str "runs", .int n, .int 400]
theorem ok_manyInitR {f fC C : Addr} {fd fdC : FuncData} (F : Fun K "__init__" "TooMany.__init__" s_TooMany_init f fd) (T : OexC K C) (h1 : PySem.W.findIn K (.ref C) "what" = some none) (h2 : PySem.W.findIn K (.ref C) "many" = some none) (h3 : PySem.W.findIn K (.ref C) "most" = some none)
    (GC : FnOk P w K mg base CX0 1 fC fdC ["value"] spCopy) (CP : At K mg "copied" fC fdC ["value"]) : FnOk P w K mg base CX0 2 f fd ["self", "what", "many", "most"] (spErr C okManyR fsMany) := by
  refine F.ok sc_TooMany_init (fun vs H Q E h => ?_) (fun cdv A outer s H vs Q E hr h => ?_)
  · obtain ⟨a, ws, rfl, ⟨i, rfl⟩, _⟩ := h
    rfl
  · obtain ⟨a, ws, rfl, ⟨i, rfl⟩, ha, k⟩ := h
    refine ⟨_, pss_cons (ps_ost (pv 0) (pe_call GC hr (by rfl) CP.m CP.k CP.b .nil pass0 (pa_cons (pv 1) pa_nil))) (pss_cons (ps_ost (pv 0) (pe_call GC hr (by rfl) CP.m CP.k CP.b .nil pass0 (pa_cons (pv 2) pa_nil))) (pss_one (ps_ost (pv 0) (pe_call GC hr (by rfl) CP.m CP.k CP.b .nil pass0 (pa_cons (pv 3) pa_nil))))), ?_⟩
    refine ⟨_, rfl, _, rfl, .inr ⟨_, rfl⟩, _, rfl, a, C, rfl, T, h1, .inl ⟨ha, fun dx hdx hne => ?_⟩⟩
    have e1 : upd (upd H dx (exd dx [("what", .str "runs")])) a (exo a C (some dx)) a = some (exo a C (some dx)) := upd_same
    have e2 : upd (upd H dx (exd dx [("what", .str "runs")])) a (exo a C (some dx)) dx = some (exd dx [("what", .str "runs")]) := by rw [upd_ne hne]; exact upd_same
    have k1 : ∀ b o, b ≠ a → H b = some o → upd (upd H dx (exd dx [("what", .str "runs")])) a (exo a C (some dx)) b = some o := fun b o hb e => by
      rw [upd_ne hb, upd_ne (ne_of_none e hdx)]
      exact e
    generalize upd (upd H dx (exd dx [("what", .str "runs")])) a (exo a C (some dx)) = H1 at e1 e2 k1 ⊢
    refine ⟨_, rfl, _, rfl, .inl ⟨_, rfl⟩, _, rfl, a, C, rfl, T, h2, .inr ⟨dx, _, e1, e2, by show 1 ≤ 900; decide, ?_⟩⟩
    refine ⟨_, rfl, _, rfl, .inl ⟨_, rfl⟩, _, rfl, a, C, rfl, T, h3, .inr ⟨dx, _, (by rw [upd_ne hne.symm]; exact e1), upd_same, by show 2 ≤ 900; decide, ?_⟩⟩
    refine k _ dx hdx hne (by rw [upd_ne hne.symm, upd_ne hne.symm]; exact e1) upd_same fun b o hb e => ?_
    have nb := ne_of_none e hdx
    rw [upd_ne nb, upd_ne nb]
    exact k1 b o hb e
/-! ### is_beginning, of any value that a look tells -/
def spIsBegW : Sp := fun vs H Q _ => ∃ (v : V) (b : Bool), vs = [v] ∧ InW H v ["new", "found"] b ∧ Q (.bl b) H
theorem ok_isBegW {f : Addr} {fd : FuncData} (F : Fun K "is_beginning" "is_beginning" s_is_beginning f fd) (C : Gv K mg) : FnOk P w K mg base CX0 1 f fd ["value"] spIsBegW := by
  refine F.ok sc_is_beginning (fun vs H Q E h => ?_) (fun cdv A outer s H vs Q E hr h => ?_)
  · obtain ⟨v, b, rfl, _⟩ := h
    rfl
  · obtain ⟨v, b, rfl, hv, k⟩ := h
    obtain ⟨tB, u, mB, uB, hB⟩ := C.begins
    refine ⟨_, (pss_one (ps_ret (pe_cmpR (op_inW (hu_of hr)) (pv 0) (pe_gv (v := .ref tB) rfl ⟨u, mB, uB⟩) rfl))), ?_⟩
    exact ⟨_, rfl, tB, ["new", "found"], b, rfl, hB H, hv, k⟩
/-! ### extended -/
def spExt (K : PySem.W.Frag) (CL CR CT CC CM : Addr) : Sp := fun vs H Q E => ∃ (m t e : Addr) (ys : List Str) (a : Addr) (hs xs : List V) (h : List Run) (ss : List Stt), vs = [.ref m, .ref e, .ref a] ∧ Mde CL H m t ys ∧ SqT K H e hs ∧ PairsV H hs h ∧ h.length ≤ 1000 ∧ (SqL K H a xs ∨ SqT K H a xs) ∧ StsV K H ys xs ss ∧ ss.length ≤ 1000 ∧
  (∀ (i : Nat) (k : Wr), fbad ss = some (i, k) → ∀ (H' : Hp) (d : Addr), Same H H' → H' d = some (.xd (fsBad [.int (i : Nat)])) → E (.ref (clW CR CT CC k)) (some d) H') ∧
  (fbad ss = none → 400 < (spliceR h (joinR (oks ss))).length → ∀ (H' : Hp) (d : Addr), Same H H' → H' d = some (.xd (fsMany [.str "runs", .int ((spliceR h (joinR (oks ss))).length : Nat), .int 400])) → E (.ref CM) (some d) H') ∧
  (fbad ss = none → (spliceR h (joinR (oks ss))).length ≤ 400 → ∀ (H' : Hp) (c : Addr) (ks : List V), Same H H' → SqT K H' c ks → PairsV H' ks (spliceR h (joinR (oks ss))) → Q (.ref c) H')
theorem ok_ext {f fR fS fJ fM CL CR CT CC CM : Addr} {fd fdR fdS fdJ fdM : FuncData} (F : Fun K "extended" "extended" s_extended f fd) (T : Blt mg) (mM : ∃ u, mg "MOST_RUNS" = some u ∧ RelV (.int 400) u)
    (GR : FnOk P w K mg base (L2.CX P w) 5 fR fdR ["letters", "runs"] (spReq K CL CR CT CC)) (AR : At K mg "require_runs" fR fdR ["letters", "runs"])
    (GS : FnOk P w K mg base CX0 1 fS fdS ["head", "tail"] (spSpliced K)) (AS : At K mg "spliced" fS fdS ["head", "tail"])
    (GJ : FnOk P w K mg base CX0 1 fJ fdJ ["runs"] (spJoined K)) (AJ : At K mg "joined" fJ fdJ ["runs"])
    (FM : FnOk P w K mg base CX0 2 fM fdM ["self", "what", "many", "most"] (spErr CM okManyR fsMany)) (EM : ErrAt K mg "TooMany" CM fM fdM ["self", "what", "many", "most"]) :
    FnOk P w K mg base (L2.CX P w) 6 f fd ["letters", "kept", "runs"] (spExt K CL CR CT CC CM) := by
  refine F.okX sc_extended (fun vs H Q E h => ?_) (fun cdv A outer s H vs Q E hr h => ?_)
  · obtain ⟨m, t, e, ys, a, hs, xs, h, ss, rfl, _⟩ := h
    rfl
  · obtain ⟨m, t, e, ys, a, hs, xs, h, ss, rfl, hM, he, hh, lh, ha, hR, ln, kE, kM, kQ⟩ := h
    have hr1 := hr.mono (j := 1) (by decide)
    have hr3 := hr.mono (j := 3) (by decide)
    refine ⟨_, (pss_cons (ps_expr (pe_call (E := E) GR hr (by rfl) AR.m AR.k AR.b .nil (passes_call (takes_of rfl rfl rfl rfl) (fun _ _ _ _ h => h)) (pa_cons (pv 0) (pa_cons (pv 2) pa_nil))))
      (pss_cons (ps_set (i := 3) sc_extended.nd rfl (Or.inl rfl) (pe_call GS hr1 (by rfl) AS.m AS.k AS.b .nil pass0 (pa_cons (pv 1) (pa_cons (pe_call GJ hr1 (by rfl) AJ.m AJ.k AJ.b .nil pass0 (pa_cons (pv 2) pa_nil)) pa_nil))))
      (pss_cons (ps_if (pt_cmpR op_gt (pe_callB call_len_seq (by rfl) T.n_len (by decide +kernel) (pa_cons (pv 3) pa_nil)) (pe_gv rfl mM) (nomark _)) (pss_one (ps_raise rfl (takes_of rfl rfl rfl rfl) (pmk_oex EM.o EM.i EM.t FM hr3 EM.b .nil pass0 (by rfl) EM.m (pa_cons pe_str (pa_cons (pe_callB call_len_seq (by rfl) T.n_len (by decide +kernel) (pa_cons (pv 3) pa_nil)) (pa_cons (pe_gv rfl mM) pa_nil)))))) pss_nil)
      (pss_one (ps_ret (pv 3)))))), ?_⟩
    refine ⟨_, rfl, _, rfl, m, t, ys, a, xs, ss, rfl, hM, ha, hR, by omega, fun hno H1 s1 => ?_, fun i k e' H1 d s1 e1 => kE i k e' H1 d s1 e1⟩
    obtain ⟨hR', -⟩ := (hR.same s1).oks hno
    have lk := oks_len hno
    replace kM := kM hno
    replace kQ := kQ hno
    generalize oks ss = rs at hR' lk kM kQ
    have jl := joinR_len rs
    refine ⟨_, rfl, _, rfl, a, xs, rs, rfl, seqA_same ha s1, hR', by omega, fun H2 j js s2 hj hjs => ?_⟩
    have s02 := s1.trans s2
    refine ⟨e, j, hs, js, h, joinR rs, rfl, seqT_same s02 he, SqT.of hj, hh.same s02, hjs, by omega, by omega, fun H3 c ks s3 hc hks => ?_⟩
    have s03 := s02.trans s3
    have e1 := hks.1
    refine ⟨_, rfl, c, ks, rfl, .inr hc, _, _, rfl, rfl, _, rfl, ite2 (fun q => ?_) (fun q => ?_)⟩
    · have q : (400 : Int) < (ks.length : Nat) := of_decide_eq_true q
      refine ⟨_, rfl, c, ks, rfl, .inr hc, err_made s03 ⟨_, rfl⟩ (by show 3 ≤ 1000; decide) (fun H' d s' e' => kM (by omega) H' d s' ?_)⟩
      rw [← e1]
      exact e'
    · have q : ¬ (400 : Int) < (ks.length : Nat) := fun z => q (decide_eq_true z)
      exact ⟨_, rfl, kQ (by omega) H3 c ks s03 hc hks⟩
end
end Ask

namespace Ask
open PySem L2
/-- what stands but at p -/
def But (p : Addr) (H H' : Hp) : Prop := ∀ b o, b ≠ p → H b = some o → H' b = some o
section
variable {P : Program} {w : World} {K : PySem.W.Frag} {mg : Str → Option Value} {base : Heap}
theorem SqA.but {H H' : Hp} {a p C dx : Addr} {xs : List V} {fs : List (Str × V)} (h : SqA K H a xs) (k : But p H H') (hp : H p = some (.ins C dx fs)) : SqA K H' a xs := seqA_but h k hp
theorem InW.but {H H' : Hp} {x : V} {ys : List Str} {b : Bool} {p C dx : Addr} {fs : List (Str × V)} (h : InW H x ys b) (k : But p H H') (hp : H p = some (.ins C dx fs)) : InW H' x ys b := by
  rcases h with h | ⟨e, d, ed, h⟩
  · exact .inl h
  · refine .inr ⟨e, d, ed, ?_⟩
    rcases h with ⟨z, h⟩ | ⟨z, h⟩ | ⟨z, h⟩
    · exact .inl ⟨z, k _ _ (ne_of h hp (by intro z; cases z)) h⟩
    · exact .inr (.inl ⟨z, k _ _ (ne_of h hp (by intro z; cases z)) h⟩)
    · exact .inr (.inr ⟨z, k _ _ (ne_of h hp (by intro z; cases z)) h⟩)
def spHistW (K : PySem.W.Frag) (CL CH CB CR CT CC CM : Addr) : Sp := fun vs H Q E => ∃ (p dx m t a : Addr) (v : V) (bb : Bool) (ys : List Str) (xs : List V) (ss : List Stt), vs = [.ref p, .ref m, v, .ref a] ∧ H p = some (.ins CH dx []) ∧ Mde CL H m t ys ∧ InW H v ["new", "found"] bb ∧ (bb = true → ∃ b : Str, v = .str b ∧ (b = "new" ∨ b = "found")) ∧
  (SqL K H a xs ∨ SqT K H a xs) ∧ (∀ H', But p H H' → StsV K H' ys xs ss) ∧ ss.length ≤ 1000 ∧
  (bb = false → E (.ref CB) none H) ∧
  (∀ (i : Nat) (k : Wr), bb = true → fbad ss = some (i, k) → ∀ (H' : Hp) (d : Addr), But p H H' → H' d = some (.xd (fsBad [.int (i : Nat)])) → E (.ref (clW CR CT CC k)) (some d) H') ∧
  (bb = true → fbad ss = none → 400 < (joinR (oks ss)).length → ∀ (H' : Hp) (d : Addr), But p H H' → H' d = some (.xd (fsMany [.str "runs", .int ((joinR (oks ss)).length : Nat), .int 400])) → E (.ref CM) (some d) H') ∧
  (bb = true → fbad ss = none → (joinR (oks ss)).length ≤ 400 → ∀ (H' : Hp) (c : Addr) (ks : List V) (b : Str), v = .str b → H' p = some (.ins CH dx (hf m c b (joinR (oks ss)))) → SqT K H' c ks → PairsV H' ks (joinR (oks ss)) → But p H H' → Q .non H')
def spReqBegE (CB : Addr) : Sp := fun vs H Q E => ∃ (v : V) (bb : Bool), vs = [v] ∧ InW H v ["new", "found"] bb ∧ (bb = false → E (.ref CB) none H) ∧ (bb = true → Q .non H)
theorem ok_reqBegE {f fB CB : Addr} {fd fdB : FuncData} (F : Fun K "require_beginning" "require_beginning" s_require_beginning f fd)
    (GB : FnOk P w K mg base CX0 1 fB fdB ["value"] spIsBegW) (AB : At K mg "is_beginning" fB fdB ["value"])
    (EB : Err0 K mg "BadBeginning" CB) : FnOk P w K mg base (L2.CX P w) 2 f fd ["value"] (spReqBegE CB) := by
  refine F.okX sc_require_beginning (fun vs H Q E h => ?_) (fun cdv A outer s H vs Q E hr h => ?_)
  · obtain ⟨v, bb, rfl, _⟩ := h
    rfl
  · obtain ⟨v, bb, rfl, hv, kE, k⟩ := h
    refine ⟨_, (pss_one (ps_if (pt_not (pt_val (pe_call GB hr (by rfl) AB.m AB.k AB.b .nil pass0 (pa_cons (pv 0) pa_nil)))) (pss_one (ps_raise rfl (takes_of rfl rfl rfl rfl) (pmk_own0 PySem.F.excBase_ValueError EB.e EB.m EB.k (raises_own EB.b EB.t) (by rfl)))) pss_nil)), ?_⟩
    refine ⟨_, rfl, v, bb, rfl, hv, _, rfl, ?_⟩
    cases bb with
    | false => exact iteT (kE rfl)
    | true => exact iteF (k rfl)
theorem ok_histInitW {dvs : List V} {f fB fX fZ CL CH CK CB CR CT CC CM : Addr} {fd fdB fdX fdZ : FuncData} (F : FunD K "__init__" "History.__init__" (defArgs s_Hist_init) (defBody s_Hist_init) (defScope s_Hist_init) dvs [] f fd) (T : Blt mg) (hC : HsC K CH) (O : OnC K mg "CheckedRuns" CK)
    (GB : FnOk P w K mg base (L2.CX P w) 2 fB fdB ["value"] (spReqBegE CB)) (AB : At K mg "require_beginning" fB fdB ["value"])
    (GX : FnOk P w K mg base (L2.CX P w) 6 fX fdX ["letters", "kept", "runs"] (spExt K CL CR CT CC CM)) (AX : At K mg "extended" fX fdX ["letters", "kept", "runs"])
    (GZ : FnOk P w K mg base CX0 1 fZ fdZ ["runs"] (spSize K)) (AZ : At K mg "size_of" fZ fdZ ["runs"]) :
    FnOk P w K mg base (L2.CX P w) 7 f fd ["self", "letters", "beginning", "runs"] (spHistW K CL CH CB CR CT CC CM) := by
  refine F.ok sc_Hist_init (fun vs H Q E h => ?_) (fun cdv A outer s H vs Q E hr h => ?_)
  · obtain ⟨p, dx, m, t, a, v, bb, ys, xs, ss, rfl, _⟩ := h
    rfl
  · obtain ⟨p, dx, m, t, a, v, bb, ys, xs, ss, rfl, hp, hM, hv, hb, ha, hR, ln, kB, kE, kM, k⟩ := h
    have hr1 := hr.mono (j := 1) (by decide)
    refine ⟨_, (pss_cons (ps_expr (pe_call (E := E) GB (hr.mono (by decide)) (by rfl) AB.m AB.k AB.b .nil (passes_call (takes_of rfl rfl rfl rfl) (fun _ _ _ _ h => h)) (pa_cons (pv 2) pa_nil)))
      (pss_cons (ps_fld (pv 0) (pv 1) rfl)
      (pss_cons (ps_fld (pv 0) (pv 2) rfl)
      (pss_cons (ps_fld (pv 0) (pe_ifExp (pt_val (pe_callB call_isi (by rfl) T.n_isinstance (by decide +kernel) (pa_cons (pv 3) (pa_cons (pe_gv (v := .ref CK) rfl ⟨_, O.m, rfl⟩) pa_nil)))) (pe_fld (pv 3) rfl) (pe_call (E := E) GX hr (by rfl) AX.m AX.k AX.b .nil (passes_call (takes_of rfl rfl rfl rfl) (fun _ _ _ _ h => h)) (pa_cons (pv 1) (pa_cons (pe_tup pa_nil) (pa_cons (pv 3) pa_nil))))) rfl)
      (pss_cons (ps_fld (pv 0) (pe_call GZ hr1 (by rfl) AZ.m AZ.k AZ.b .nil pass0 (pa_cons (pe_fld (pv 0) rfl) pa_nil)) rfl)
      (pss_one (ps_fld (pv 0) (pe_ifExp (pt_truth (pe_fld (pv 0) rfl) (by intro _; rfl)) (pe_ix ix_tup (pe_ix ix_tup (pe_fld (pv 0) rfl) (pe_un un_neg pe_int) (fun _ _ => rfl)) pe_int (fun _ _ => rfl)) (pv 2)) rfl))))))), ?_⟩
    refine ⟨_, rfl, v, bb, rfl, hv, kB, fun hbb => ?_⟩
    subst hbb
    obtain ⟨b, rfl, hb⟩ := hb rfl
    replace kE := fun i k => kE i k rfl
    replace kM := kM rfl
    replace k := k rfl
    -- letters, beginning
    refine ⟨_, rfl, _, rfl, p, CH, dx, [], rfl, hp, hC.c, hC.a1, (by show 0 < 1000; decide), ?_⟩
    have p1 : upd H p (.ins CH dx [("letters", .ref m)]) p = some (.ins CH dx [("letters", .ref m)]) := upd_same
    refine ⟨_, rfl, _, rfl, p, CH, dx, _, rfl, p1, hC.c, hC.a2, (by show 1 < 1000; decide), ?_⟩
    have p2 : upd (upd H p (.ins CH dx (putF "letters" (.ref m) []))) p (.ins CH dx (putF "beginning" (.str b) [("letters", .ref m)])) p = some (.ins CH dx [("letters", .ref m), ("beginning", .str b)]) := upd_same
    have k2 : ∀ b' o, b' ≠ p → H b' = some o → upd (upd H p (.ins CH dx (putF "letters" (.ref m) []))) p (.ins CH dx (putF "beginning" (.str b) [("letters", .ref m)])) b' = some o := fun b' o hb e => by rw [upd_ne hb, upd_ne hb]; exact e
    generalize upd (upd H p (.ins CH dx (putF "letters" (.ref m) []))) p (.ins CH dx (putF "beginning" (.str b) [("letters", .ref m)])) = H2 at p2 k2 ⊢
    have hM2 := hM.but k2 hp
    have ha2 := seqA_but ha k2 hp
    have hR2 := hR H2 k2
    -- runs
    obtain ⟨ty, hty, hkt⟩ := ty_seqA ha2 O
    refine ⟨_, rfl, .ref a, .ref CK, ty, _, false, rfl, .own CK, hty, hkt, _, rfl, iteF ?_⟩
    refine ⟨_, rfl, by show 0 ≤ sizeLine; decide, fun e he => ?_⟩
    have s3 := Ask.Same.made1 (o := .tup []) (Same.refl H2) he
    have e3 : upd H2 e (.tup []) e = some (.tup []) := upd_same
    generalize upd H2 e (.tup []) = H3 at s3 e3 ⊢
    refine ⟨_, rfl, m, t, e, ys, a, [], xs, [], ss, rfl, hM2.same s3, SqT.of e3, PairsV.nil, by show 0 ≤ 1000; decide, seqA_same ha2 s3, hR2.same s3, ln, fun i k' e' H4 d s4 e4 => kE i k' e' H4 d (fun b' o hb e => s4 _ _ (s3 _ _ (k2 _ _ hb e))) e4, fun hno lm H4 d s4 e4 => kM hno (by rw [splice_nil] at lm; exact lm) H4 d (fun b' o hb e => s4 _ _ (s3 _ _ (k2 _ _ hb e))) (by rw [splice_nil] at e4; exact e4), fun hno lm H4 c ks s4 hc hks => ?_⟩
    rw [splice_nil] at hks lm
    have lk := oks_len hno
    replace k := k hno lm
    generalize oks ss = rs at lk lm hks k
    have s24 := s3.trans s4
    refine ⟨_, rfl, p, CH, dx, _, rfl, s24 _ _ p2, hC.c, hC.a3, (by show 2 < 1000; decide), ?_⟩
    have p5 : upd H4 p (.ins CH dx (putF "runs" (.ref c) [("letters", .ref m), ("beginning", .str b)])) p = some (.ins CH dx [("letters", .ref m), ("beginning", .str b), ("runs", .ref c)]) := upd_same
    have k5 : ∀ b' o, b' ≠ p → H4 b' = some o → upd H4 p (.ins CH dx (putF "runs" (.ref c) [("letters", .ref m), ("beginning", .str b)])) b' = some o := fun b' o hb e => by rw [upd_ne hb]; exact e
    generalize upd H4 p (.ins CH dx (putF "runs" (.ref c) [("letters", .ref m), ("beginning", .str b)])) = H5 at p5 k5 ⊢
    have p4 := s24 _ _ p2
    have hM5 := (hM2.same s24).but k5 p4
    have hc5 := seqT_but hc k5 p4
    have hks5 := hks.but k5 p4
    have kk5 : ∀ b' o, b' ≠ p → H b' = some o → H5 b' = some o := fun b' o hb e => k5 _ _ hb (s24 _ _ (k2 _ _ hb e))
    -- size
    refine ⟨_, rfl, p, CH, dx, _, _, rfl, p5, hC.c, hC.a3, rfl, c, ks, joinR rs, rfl, .inr hc5, hks5.runs, by omega, fun H6 s6 => ?_⟩
    have p6 := s6 _ _ p5
    refine ⟨_, rfl, p, CH, dx, _, rfl, p6, hC.c, hC.a4, (by show 3 < 1000; decide), ?_⟩
    have p7 : upd H6 p (.ins CH dx (putF "size" (.int (sizeR (joinR rs))) [("letters", .ref m), ("beginning", .str b), ("runs", .ref c)])) p = some (.ins CH dx [("letters", .ref m), ("beginning", .str b), ("runs", .ref c), ("size", .int (sizeR (joinR rs)))]) := upd_same
    have k7 : ∀ b' o, b' ≠ p → H6 b' = some o → upd H6 p (.ins CH dx (putF "size" (.int (sizeR (joinR rs))) [("letters", .ref m), ("beginning", .str b), ("runs", .ref c)])) b' = some o := fun b' o hb e => by rw [upd_ne hb]; exact e
    generalize upd H6 p (.ins CH dx (putF "size" (.int (sizeR (joinR rs))) [("letters", .ref m), ("beginning", .str b), ("runs", .ref c)])) = H7 at p7 k7 ⊢
    have hM7 := (hM5.same s6).but k7 p6
    have hc7 := seqT_but (seqT_same s6 hc5) k7 p6
    have hks7 := (hks5.same s6).but k7 p6
    have kk7 : ∀ b' o, b' ≠ p → H b' = some o → H7 b' = some o := fun b' o hb e => k7 _ _ hb (s6 _ _ (kk5 _ _ hb e))
    -- last
    have fin : ∀ z : Str, z = lastR b (joinR rs) → Q .non (upd H7 p (.ins CH dx (putF "last" (.str z) [("letters", .ref m), ("beginning", .str b), ("runs", .ref c), ("size", .int (sizeR (joinR rs)))]))) := fun z hz => by
      have p8 : upd H7 p (.ins CH dx (putF "last" (.str z) [("letters", .ref m), ("beginning", .str b), ("runs", .ref c), ("size", .int (sizeR (joinR rs)))])) p = some (.ins CH dx (hf m c b (joinR rs))) := by
        rw [hz]
        exact upd_same
      have k8 : ∀ b' o, b' ≠ p → H7 b' = some o → upd H7 p (.ins CH dx (putF "last" (.str z) [("letters", .ref m), ("beginning", .str b), ("runs", .ref c), ("size", .int (sizeR (joinR rs)))])) b' = some o := fun b' o hb e => by rw [upd_ne hb]; exact e
      exact k _ c ks b rfl p8 (seqT_but hc7 k8 p7) (hks7.but k8 p7) fun b' o hb e => k8 _ _ hb (kk7 _ _ hb e)
    refine ⟨_, rfl, p, CH, dx, _, _, rfl, p7, hC.c, hC.a3, rfl, !ks.isEmpty, .inr (.inl ⟨ks, hc7, rfl⟩), ite2 (fun q => ?_) (fun q => ?_)⟩
    · have q0 : ks ≠ [] := fun z => by subst z; cases q
      have l1 : 1 ≤ ks.length := List.length_pos_iff.mpr q0
      have e1 := hks7.1
      obtain ⟨l, hl⟩ : ∃ l, (joinR rs)[(joinR rs).length - 1]? = some l := ⟨_, List.getElem?_eq_getElem (by omega)⟩
      obtain ⟨x, hx, hx2⟩ := hks7.get hl
      rw [← e1] at hx
      refine ⟨_, rfl, p, CH, dx, _, _, rfl, p7, hC.c, hC.a3, rfl, _, rfl, c, _, _, _, rfl, rfl, hc7, atI_back hx, x, _, _, _, rfl, rfl, SqT.of hx2, at_by (j := 0) rfl rfl, ?_⟩
      refine ⟨_, rfl, p, CH, dx, _, rfl, p7, hC.c, hC.a5, (by show 4 < 1000; decide), fin l.1 ?_⟩
      unfold lastR
      rw [List.getLast?_eq_getElem?, hl]
      rfl
    · have q : (!ks.isEmpty) = false := (Bool.not_eq_true _).mp q
      have q0 : ks = [] := by cases ks with | nil => rfl | cons => cases q
      have q1 : joinR rs = [] := List.eq_nil_of_length_eq_zero (by rw [← hks7.1, q0]; rfl)
      refine ⟨_, rfl, _, rfl, p, CH, dx, _, rfl, p7, hC.c, hC.a5, (by show 4 < 1000; decide), fin b ?_⟩
      rw [q1]
      rfl
end
end Ask

namespace Ask
open PySem L2
/-! ### what stays, whatever becomes of the pen p and the list L -/
def Keeps (p L : Addr) (H H' : Hp) : Prop := ∀ a o, a ≠ p → a ≠ L → H a = some o → H' a = some o
theorem Keeps.refl {p L : Addr} {H : Hp} : Keeps p L H H := fun _ _ _ _ h => h
theorem Keeps.trans {p L : Addr} {H H1 H2 : Hp} (a : Keeps p L H H1) (b : Keeps p L H1 H2) : Keeps p L H H2 := fun x o h1 h2 e => b x o h1 h2 (a x o h1 h2 e)
theorem Keeps.kp {p L : Addr} {H H' : Hp} (k : Kp p H H') : Keeps p L H H' := fun a o h _ e => k a o h e
theorem Keeps.upd {p L : Addr} {H : Hp} {o : HO} : Keeps p L H (upd H L o) := fun a u _ h e => by rw [upd_ne h]; exact e
/-- F holds at H4 and behind it, whatever becomes of the pen and of a list that stood in H -/
def Ev (p : Addr) (H H4 : Hp) (F : Hp → Prop) : Prop := ∀ L, H L ≠ none → ∀ H', Keeps p L H4 H' → F H'
theorem Ev.step {p : Addr} {H H4 H5 : Hp} {F : Hp → Prop} (h : Ev p H H4 F) (k : Kp p H4 H5) : Ev p H H5 F := fun L hL H' k' => h L hL H' ((Keeps.kp k).trans k')
theorem Ev.mp {p : Addr} {H H4 : Hp} {F F' : Hp → Prop} (h : Ev p H H4 F) (k : ∀ H', F H' → F' H') : Ev p H H4 F' := fun L hL H' k' => k H' (h L hL H' k')
theorem Ev.and {p : Addr} {H H4 : Hp} {F F' : Hp → Prop} (h : Ev p H H4 F) (h' : Ev p H H4 F') : Ev p H H4 (fun H' => F H' ∧ F' H') := fun L hL H' k' => ⟨h L hL H' k', h' L hL H' k'⟩
theorem Ev.all {p : Addr} {H H4 : Hp} {F : Hp → Prop} (h : ∀ H', F H') : Ev p H H4 F := fun _ _ H' _ => h H'
theorem Ev.at {p q : Addr} {H H4 : Hp} {o : HO} (hq : H q = none) (hp : q ≠ p) (e : H4 q = some o) : Ev p H H4 (fun H' => H' q = some o) := fun L hL H' k => k q o hp (fun z => hL (by rw [← z]; exact hq)) e
def AllV (F : V → Prop) (xs : List V) : Prop := ∀ v ∈ xs, F v
theorem AllV.nil {F : V → Prop} : AllV F [] := fun _ h => by cases h
theorem AllV.cons {F : V → Prop} {x : V} {xs : List V} (h : F x) (r : AllV F xs) : AllV F (x :: xs) := fun v hv => by
  rcases List.mem_cons.mp hv with rfl | hv
  · exact h
  · exact r v hv
/-- a count that is wrong -/
def CntV (K : PySem.W.Frag) (H : Hp) (y : V) : Prop := ∃ ty p q, TyX K H y ty ∧ PySem.W.kitOne K ty (.type "int") = some p ∧ PySem.W.kitOne K ty (.type "bool") = some q ∧ ((p && !q) = false ∨ ((p && !q) = true ∧ ∃ i : Int, y = .int i ∧ ¬ (1 ≤ i ∧ i ≤ 1000000000000000000000000000000)))
/-- a letter, right or wrong -/
def LetV (K : PySem.W.Frag) (ys : List Str) (b : Bool) (H : Hp) (x : V) : Prop := ∃ ty p, InW H x ys b ∧ TyX K H x ty ∧ PySem.W.kitOne K ty (.type "str") = some p ∧ (p = true → ∃ z, x = .str z ∧ (b = false → z ∉ ys)) ∧ (b = true → ∃ z, x = .str z ∧ z ∈ ys)
section
variable {K : PySem.W.Frag} {H : Hp} {ys : List Str}
theorem inV_str (z : Str) (ys : List Str) : inV (.str z) (ys.map V.str) = decide (z ∈ ys) := by
  by_cases h : z ∈ ys
  · rw [in_mem h, decide_eq_true h]
  · rw [decide_eq_false h]
    unfold inV
    rw [List.any_eq_false]
    intro y hy
    obtain ⟨x, hx, rfl⟩ := List.mem_map.mp hy
    intro e
    have e : decide (x = z) = true := e
    exact h (of_decide_eq_true e ▸ hx)
theorem inV_other {x : V} (h : ∀ z, eqV (.str z) x = false) (ys : List Str) : inV x (ys.map V.str) = false := by
  unfold inV
  rw [List.any_eq_false]
  intro y hy
  obtain ⟨z, hz, rfl⟩ := List.mem_map.mp hy
  rw [h z]
  exact Bool.false_ne_true
theorem LetV.str (z : Str) : LetV K ys (decide (z ∈ ys)) H (.str z) := ⟨.type "str", true, .inl ⟨rfl, (inV_str z ys).symm⟩, .base (.str z), kit_ty (by decide +kernel), fun _ => ⟨z, rfl, fun h => of_decide_eq_false h⟩, fun h => ⟨z, rfl, of_decide_eq_true h⟩⟩
theorem LetV.non : LetV K ys false H .non := ⟨.type "NoneType", false, .inl ⟨rfl, (inV_other (fun _ => rfl) ys).symm⟩, .base .non, kit_ty (by decide +kernel), fun h => (by cases h), fun h => by cases h⟩
theorem LetV.int (i : Int) : LetV K ys false H (.int i) := ⟨.type "int", false, .inl ⟨rfl, (inV_other (fun _ => rfl) ys).symm⟩, .base (.int i), kit_ty (by decide +kernel), fun h => (by cases h), fun h => by cases h⟩
theorem LetV.lst {q : Addr} {xs : List V} (e : H q = some (.lst xs)) : LetV K ys false H (.ref q) := ⟨.type "list", false, .inr ⟨rfl, q, rfl, .inr (.inl ⟨xs, e⟩)⟩, ty_list (SqL.of e), kit_ty (by decide +kernel), fun h => (by cases h), fun h => by cases h⟩
theorem LetV.tup {q : Addr} {xs : List V} (e : H q = some (.tup xs)) : LetV K ys false H (.ref q) := ⟨.type "tuple", false, .inr ⟨rfl, q, rfl, .inr (.inr ⟨xs, e⟩)⟩, ty_tup (SqT.of e), kit_ty (by decide +kernel), fun h => (by cases h), fun h => by cases h⟩
theorem CntV.int {i : Int} (h : ¬ (1 ≤ i ∧ i ≤ 1000000000000000000000000000000)) : CntV K H (.int i) := ⟨.type "int", true, false, .base (.int i), kit_ty (by decide +kernel), kit_ty (by decide +kernel), .inr ⟨rfl, i, rfl, h⟩⟩
theorem CntV.bl (b : Bool) : CntV K H (.bl b) := ⟨.type "bool", true, true, .base (.bl b), kit_ty (by decide +kernel), kit_ty (by decide +kernel), .inl rfl⟩
theorem CntV.non : CntV K H .non := ⟨.type "NoneType", false, false, .base .non, kit_ty (by decide +kernel), kit_ty (by decide +kernel), .inl rfl⟩
theorem CntV.str (z : Str) : CntV K H (.str z) := ⟨.type "str", false, false, .base (.str z), kit_ty (by decide +kernel), kit_ty (by decide +kernel), .inl rfl⟩
theorem CntV.lst {q : Addr} {xs : List V} (e : H q = some (.lst xs)) : CntV K H (.ref q) := ⟨.type "list", false, false, ty_list (SqL.of e), kit_ty (by decide +kernel), kit_ty (by decide +kernel), .inl rfl⟩
theorem CntV.tup {q : Addr} {xs : List V} (e : H q = some (.tup xs)) : CntV K H (.ref q) := ⟨.type "tuple", false, false, ty_tup (SqT.of e), kit_ty (by decide +kernel), kit_ty (by decide +kernel), .inl rfl⟩
theorem kitAny_no {T : String} (h1 : kitB T "list" = some false) (h2 : kitB T "tuple" = some false) : PySem.W.kitAny K (.type T) [.type "list", .type "tuple"] = some false :=
  kitAny_cons (kit_ty h1) (fun _ => kitAny_cons (kit_ty h2) (fun _ => rfl) (fun z => by cases z)) (fun z => by cases z)
theorem StV.flat {v : V} {T : String} (h : TyX K H v (.type T)) (h1 : kitB T "list" = some false) (h2 : kitB T "tuple" = some false) : StV K H ys v (.no .runs) := ⟨_, h, .inl (kitAny_no h1 h2)⟩
theorem StV.lst {q : Addr} {xs : List V} (e : H q = some (.lst xs)) (hl : xs.length ≠ 2) : StV K H ys (.ref q) (.no .runs) := ⟨_, ty_list (SqL.of e), .inr ⟨kitAny_l, q, xs, rfl, .inl (SqL.of e), hl⟩⟩
theorem StV.tup {q : Addr} {xs : List V} (e : H q = some (.tup xs)) (hl : xs.length ≠ 2) : StV K H ys (.ref q) (.no .runs) := ⟨_, ty_tup (SqT.of e), .inr ⟨kitAny_t, q, xs, rfl, .inr (SqT.of e), hl⟩⟩
/-- a letter and a wrong count -/
theorem StV.bad {q : Addr} {x y : V} {b : Bool} (e : SqA K H q [x, y]) (hx : LetV K ys b H x) (hy : CntV K H y) : StV K H ys (.ref q) (if b = true then .no .count else .no .letter) := by
  obtain ⟨ty, p, h1, h2, h3, h4, h5⟩ := hx
  cases b with
  | false =>
    refine ⟨q, x, y, ty, p, rfl, e, h1, h2, h3, fun h => ?_⟩
    obtain ⟨z, hz, k⟩ := h4 h
    exact ⟨z, hz, k rfl⟩
  | true =>
    obtain ⟨z, rfl, hz⟩ := h5 rfl
    obtain ⟨ty2, p2, q2, k1, k2, k3, k4⟩ := hy
    exact ⟨q, z, y, ty2, p2, q2, rfl, e, hz, k1, k2, k3, k4⟩
/-- a letter, whatever it is, and a right count -/
theorem StV.let {q : Addr} {x : V} {n : Int} {b : Bool} {z : Str} (e : SqA K H q [x, .int n]) (hx : LetV K ys b H x) (h1 : 1 ≤ n) (h2 : n ≤ 1000000000000000000000000000000) (hz : b = true → x = .str z) : StV K H ys (.ref q) (if b = true then .ok (z, n) else .no .letter) := by
  obtain ⟨ty, p, k1, k2, k3, k4, k5⟩ := hx
  cases b with
  | false =>
    refine ⟨q, x, .int n, ty, p, rfl, e, k1, k2, k3, fun h => ?_⟩
    obtain ⟨z, hz, k⟩ := k4 h
    exact ⟨z, hz, k rfl⟩
  | true =>
    obtain ⟨z', rfl, hz'⟩ := k5 rfl
    cases hz rfl
    exact ⟨⟨q, rfl, e⟩, hz', h1, h2⟩
end
end Ask

namespace Ask
open PySem L2
/-- what the list of odd things holds -/
def OddV (p : Addr) (H : Hp) (v : V) : Prop := (v = .non ∨ v = .bl true ∨ v = .int 0 ∨ v = .int 1) ∨ (∃ z : Str, v = .str z) ∨
  ∃ d, v = .ref d ∧ d ≠ p ∧ ((∃ kvs, H d = some (.dK kvs)) ∨ (∃ xs, H d = some (.lst xs)) ∨ (∃ xs, H d = some (.tup xs)))
def isStrV : V → Bool
  | .str _ => true
  | _ => false
theorem odd_isi {K : PySem.W.Frag} {p : Addr} {H : Hp} {v : V} (h : OddV p H v) : ∃ t : Value, TyX K H v t ∧ PySem.W.kitOne K t (.type "str") = some (isStrV v) := by
  rcases h with (rfl | rfl | rfl | rfl) | ⟨z, rfl⟩ | ⟨d, rfl, _, ⟨kvs, h⟩ | ⟨xs, h⟩ | ⟨xs, h⟩⟩
  · exact ⟨_, .base .non, kit_ty (by decide +kernel)⟩
  · exact ⟨_, .base (.bl _), kit_ty (by decide +kernel)⟩
  · exact ⟨_, .base (.int _), kit_ty (by decide +kernel)⟩
  · exact ⟨_, .base (.int _), kit_ty (by decide +kernel)⟩
  · exact ⟨_, .base (.str _), kit_ty (by show kitB "str" "str" = some true; decide +kernel)⟩
  · exact ⟨_, .base (.dK h), kit_ty (by show kitB "dict" "str" = some false; decide +kernel)⟩
  · exact ⟨_, .base (.lst h), kit_ty (by show kitB "list" "str" = some false; decide +kernel)⟩
  · exact ⟨_, .base (.tup h), kit_ty (by show kitB "tuple" "str" = some false; decide +kernel)⟩
theorem inV_no {v : V} {ys : List Str} (h : ∀ y : Str, eqV (.str y) v = false) : inV v (ys.map V.str) = false := by
  unfold inV
  rw [List.any_eq_false]
  intro x hx
  obtain ⟨y, _, rfl⟩ := List.mem_map.mp hx
  rw [h y]
  exact Bool.false_ne_true
/-- not a text of ys, stable -/
def Out (p : Addr) (H : Hp) (v : V) (ys : List Str) : Prop := InW H v ys false ∧ ∀ d, v = .ref d → d ≠ p
theorem OddV.out {p : Addr} {H : Hp} {v : V} {ys : List Str} (h : OddV p H v) (n : isStrV v = true → inV v (ys.map V.str) = false) : Out p H v ys := by
  rcases h with (rfl | rfl | rfl | rfl) | ⟨z, rfl⟩ | ⟨d, rfl, hn, h⟩
  · exact ⟨.inl ⟨rfl, (inV_no fun _ => rfl).symm⟩, fun _ e => nomatch e⟩
  · exact ⟨.inl ⟨rfl, (inV_no fun _ => rfl).symm⟩, fun _ e => nomatch e⟩
  · exact ⟨.inl ⟨rfl, (inV_no fun _ => rfl).symm⟩, fun _ e => nomatch e⟩
  · exact ⟨.inl ⟨rfl, (inV_no fun _ => rfl).symm⟩, fun _ e => nomatch e⟩
  · exact ⟨.inl ⟨rfl, (n rfl).symm⟩, fun _ e => nomatch e⟩
  · exact ⟨.inr ⟨rfl, d, rfl, h⟩, fun _ e => by cases e; exact hn⟩
theorem Out.kp {p : Addr} {H H' : Hp} {v : V} {ys : List Str} (h : Out p H v ys) (k : Kp p H H') : Out p H' v ys := by
  obtain ⟨h | ⟨e, d, rfl, h⟩, n⟩ := h
  · exact ⟨.inl h, n⟩
  · refine ⟨.inr ⟨e, d, rfl, ?_⟩, n⟩
    have nd := n d rfl
    rcases h with ⟨kvs, h⟩ | ⟨xs, h⟩ | ⟨xs, h⟩
    · exact .inl ⟨kvs, k _ _ nd h⟩
    · exact .inr (.inl ⟨xs, k _ _ nd h⟩)
    · exact .inr (.inr ⟨xs, k _ _ nd h⟩)
section
variable {P : Program} {w : World} {K : PySem.W.Frag} {mg : Str → Option Value} {base : Heap}
def spOdd (K : PySem.W.Frag) : Sp := fun vs H Q _ => ∃ (p c : Addr) (ns : List Int) (a : Addr) (ys : List Str) (B : Nat), vs = [.ref p, .ref a] ∧ Pen c ns H p B ∧ B ≤ 500000000 ∧ SqL K H a (ys.map V.str) ∧ 0 < ys.length ∧ ys.length ≤ 1000 ∧
  (∀ y ∈ ys, y.length ≤ 200 ∧ Asc y) ∧ ∀ (H' : Hp) (v : V), Go p c ns H H' (B + 3) → Out p H' v ys → Q v H'
abbrev s__law_odd : Stmt := top 50
theorem sc__law_odd : FnScope ["_law_pen_here", "_law_letters_here", "_law_one", "_law_longer", "_law_odd_here", "_law_some", "_law_value"] ["_law_pen_here", "_law_letters_here"] (defScope s__law_odd) := ⟨rfl, rfl, rfl, by decide +kernel, rfl, by decide +kernel, by decide +kernel⟩
theorem ok_odd {f fP : Addr} {fd fdP : FuncData} (F : Fun K "_law_odd" "_law_odd" s__law_odd f fd) (T : Blt mg)
    (GP : FnOk P w K mg base CX0 2 fP fdP ["_law_pen_here", "_law_options"] (spPick K)) (C : At K mg "_law_pick" fP fdP ["_law_pen_here", "_law_options"]) :
    FnOk P w K mg base CX0 3 f fd ["_law_pen_here", "_law_letters_here"] (spOdd K) := by
  refine F.ok sc__law_odd (fun vs H Q E h => ?_) (fun cdv A outer s H vs Q E hr h => ?_)
  · obtain ⟨p, c, ns, a, ys, B, rfl, _⟩ := h
    rfl
  · obtain ⟨p, c, ns, a, ys, B, rfl, hpen, hB, hS, h0, h1, hy, k⟩ := h
    refine ⟨_, (pss_cons (ps_set (i := 2) sc__law_odd.nd rfl (Or.inl rfl) (pe_call GP hr (by rfl) C.m C.k C.b .nil pass0 (pa_cons (pv 0) (pa_cons (pv 1) pa_nil))))
      (pss_cons (ps_set (i := 3) sc__law_odd.nd rfl (Or.inl rfl) (pe_op op_add_str (pv 2) (pe_call GP hr (by rfl) C.m C.k C.b .nil pass0 (pa_cons (pv 0) (pa_cons pe_str pa_nil)))))
      (pss_cons (ps_set (i := 4) sc__law_odd.nd rfl (Or.inl rfl) (pe_lst (pa_cons pe_non (pa_cons pe_bl (pa_cons pe_int (pa_cons pe_int (pa_cons (pe_lst (pa_cons (pv 2) pa_nil)) (pa_cons (pe_tup (pa_cons (pv 2) pa_nil)) (pa_cons (pe_disp (pps_cons (pv 2) (pv 2) pps_nil) (by rfl) (by rfl) (fun z => by cases z) (by decide)) (pa_cons pe_str (pa_cons pe_str (pa_cons pe_str (pa_cons (pv 3) (pa_cons (pe_slice sl_str (pv 2) (po_some pe_int) po_none) (pa_cons (pe_upper (pv 2)) (pa_cons (pe_op op_add_str pe_str (pv 2)) pa_nil))))))))))))))))
      (pss_cons (ps_setLc (i := 5) (own := [("_law_value", 6)]) rfl sc__law_odd.nd rfl rfl (sw_true rfl rfl rfl (by decide +kernel)) (pi_list (pv 4)) (blkOk_by (N := ["_law_pen_here", "_law_letters_here", "_law_one", "_law_longer", "_law_odd_here", "_law_some", "_law_value"]) (sc := defScope s__law_odd) (by decide +kernel)) (fun _ _ _ _ _ => (pg_name (i := 6) sc__law_odd.nd rfl (Or.inl rfl))) (fun _ _ _ _ _ => pts_one (pt_not (PW.pt (pw_and (pt_val (pe_callB (show CallR _ _ (rIsi K) from call_isi) (by rfl) T.n_isinstance (by decide +kernel) (pa_cons (pv 6) (pa_cons (pe_bltn (v := .ty "str") (u := .type "str") rfl T.n_str (by decide +kernel) rfl) pa_nil)))) (pw_and1 (pt_cmpR (show OpR _ _ (rIn K false) from op_in_seq) (pv 6) (pv 1) rfl)))))) (fun _ _ _ _ _ => (pv 6)))
      (pss_one (ps_ret (pe_call GP hr (by rfl) C.m C.k C.b .nil pass0 (pa_cons (pv 0) (pa_cons (pv 5) pa_nil))))))))), ?_⟩
    have z1 : (1000 : Nat) ≤ sizeLine := by decide
    refine ⟨_, rfl, _, rfl, p, c, ns, _, B, rfl, hpen, by omega, .inl ⟨a, _, rfl, hS, by rw [List.length_map]; exact h0, by rw [List.length_map]; exact h1, fun H1 v g1 hv => ?_⟩⟩
    obtain ⟨one, hone, rfl⟩ := List.mem_map.mp hv
    obtain ⟨l1, a1⟩ := hy one hone
    clear hv
    have np : ∀ {H' : Hp} {q : Addr} {o : HO}, Go p c ns H H' (B + 3) → H' q = none → q ≠ p := fun g e => (g.ne (g.free e)).1
    -- longer
    refine ⟨_, rfl, _, rfl, p, c, ns, _, B + 1, rfl, g1.pen, by omega, .inr ⟨_, rfl, by decide, by decide, fun H2 i g2 hi => ?_⟩⟩
    have g2 := g1.step g2
    refine ⟨_, _, rfl, rfl, (by show one.length + 1 ≤ sizeLine; omega), ?_⟩
    -- the list
    refine ⟨_, rfl, by show 1 ≤ sizeLine; decide, fun q1 hq1 => ?_⟩
    have n1 := (g2.ne (g2.free hq1)).1
    have f1 : upd H2 q1 (.lst [.str one]) q1 = some (.lst [.str one]) := upd_same
    have g3 := g2.new (o := .lst [.str one]) hq1
    generalize upd H2 q1 (.lst [.str one]) = H3 at f1 g3 ⊢
    refine ⟨_, rfl, by show 1 ≤ sizeLine; decide, fun q2 hq2 => ?_⟩
    have n2 := (g3.ne (g3.free hq2)).1
    have f2 : upd H3 q2 (.tup [.str one]) q2 = some (.tup [.str one]) := upd_same
    replace f1 : upd H3 q2 (.tup [.str one]) q1 = some (.lst [.str one]) := by rw [upd_ne (ne_of_none f1 hq2)]; exact f1
    have g4 := g3.new (o := .tup [.str one]) hq2
    generalize upd H3 q2 (.tup [.str one]) = H4 at f1 f2 g4 ⊢
    intro q3 hq3
    have n3 := (g4.ne (g4.free hq3)).1
    refine ⟨_, rfl, _, rfl, upd_same, [(Sum.inr one, .str one)], rfl, (by show 1 ≤ 15; decide), ?_⟩
    obtain ⟨kvs, hk⟩ : ∃ kvs, kvs = mergeK [] [((Sum.inr one : Key), V.str one)] := ⟨_, rfl⟩
    rw [← hk]
    have f3 : upd (upd H4 q3 (.dK [])) q3 (.dK kvs) q3 = some (.dK kvs) := upd_same
    have e1 : ∀ b, b ≠ q3 → upd (upd H4 q3 (.dK [])) q3 (.dK kvs) b = H4 b := fun b hb => by rw [upd_ne hb, upd_ne hb]
    replace f1 : upd (upd H4 q3 (.dK [])) q3 (.dK kvs) q1 = some (.lst [.str one]) := by rw [e1 _ (ne_of_none f1 hq3)]; exact f1
    replace f2 : upd (upd H4 q3 (.dK [])) q3 (.dK kvs) q2 = some (.tup [.str one]) := by rw [e1 _ (ne_of_none f2 hq3)]; exact f2
    have g5 := (g4.new (o := .dK []) hq3).mut (o := .dK kvs) (g4.free hq3)
    generalize upd (upd H4 q3 (.dK [])) q3 (.dK kvs) = H5 at f1 f2 f3 g5 ⊢
    clear e1 g4 g3 hq1 hq2 hq3
    refine ⟨_, rfl, _, rfl, _, rfl, one, rfl, by omega, _, rfl, ⟨one, rfl⟩, one, rfl, rfl, by omega, ?_⟩
    refine ⟨_, rfl, _, _, rfl, rfl, (by show 1 + one.length ≤ sizeLine; omega), (by show 14 ≤ sizeLine; decide), fun q4 hq4 => ?_⟩
    obtain ⟨xs1, H6, e6, f4, t1, ln1, hd1⟩ : ∃ xs1 H6, H6 = upd H5 q4 (.lst [.non, .bl true, .int 0, .int 1, .ref q1, .ref q2, .ref q3, .str "", .str "new", .str "found", .str (one ++ (⟨#[i]⟩ : Str)), .str (cutS one (some 1) none), .str (Txt.upper one), .str ("~" ++ one)]) ∧ H6 q4 = some (.lst xs1) ∧
        (∀ H', H' q1 = some (.lst [.str one]) → H' q2 = some (.tup [.str one]) → H' q3 = some (.dK kvs) → ∀ v ∈ xs1, OddV p H' v) ∧ xs1.length = 14 ∧ xs1[0]? = some .non := by
      refine ⟨_, _, rfl, upd_same, fun H' e1 e2 e3 v hv => ?_, rfl, rfl⟩
      simp only [List.mem_cons, List.not_mem_nil, or_false] at hv
      rcases hv with rfl | rfl | rfl | rfl | rfl | rfl | rfl | rfl | rfl | rfl | rfl | rfl | rfl | rfl
      · exact .inl (.inl rfl)
      · exact .inl (.inr (.inl rfl))
      · exact .inl (.inr (.inr (.inl rfl)))
      · exact .inl (.inr (.inr (.inr rfl)))
      · exact .inr (.inr ⟨q1, rfl, n1, .inr (.inl ⟨_, e1⟩)⟩)
      · exact .inr (.inr ⟨q2, rfl, n2, .inr (.inr ⟨_, e2⟩)⟩)
      · exact .inr (.inr ⟨q3, rfl, n3, .inl ⟨_, e3⟩⟩)
      all_goals exact .inr (.inl ⟨_, rfl⟩)
    rw [← e6]
    replace f1 : H6 q1 = some (.lst [.str one]) := by rw [e6, upd_ne (ne_of_none f1 hq4)]; exact f1
    replace f2 : H6 q2 = some (.tup [.str one]) := by rw [e6, upd_ne (ne_of_none f2 hq4)]; exact f2
    replace f3 : H6 q3 = some (.dK kvs) := by rw [e6, upd_ne (ne_of_none f3 hq4)]; exact f3
    have g6 : Go p c ns H H6 (B + 1 + 1) := by rw [e6]; exact g5.new hq4
    clear e6 hq4 g5
    have odd := t1 H6 f1 f2 f3
    -- the filter
    refine ⟨_, rfl, q4, rfl, ⟨_, SqL.of f4⟩, fun L hL => ?_⟩
    refine lc_it (walk_list (xs := xs1)) (fun j H' => Same H6 H' ∧ ∃ zs : List V, H' L = some (.lst zs) ∧ zs.length ≤ j ∧ (0 < j → 0 < zs.length) ∧ ∀ v ∈ zs, Out p H6 v ys)
      ⟨Ask.Same.upd_new (Same.refl _) hL, [], upd_same, Nat.le_refl 0, fun z => absurd z (Nat.lt_irrefl 0), by simp⟩ (fun j H' _ hh => (hh.1).seq (SqL.of f4)) ?_ ?_
    · rintro j v H8 H7 hj ⟨s7, zs, hz, hzl, hzp, hzs⟩ ⟨rfl, hx⟩
      have ov := odd v (List.mem_of_getElem? hx)
      have ov7 : OddV p H7 v := by
        rcases ov with o | o | ⟨d, e, n, ⟨k1, h⟩ | ⟨k1, h⟩ | ⟨k1, h⟩⟩
        · exact .inl o
        · exact .inr (.inl o)
        · exact .inr (.inr ⟨d, e, n, .inl ⟨k1, s7 _ _ h⟩⟩)
        · exact .inr (.inr ⟨d, e, n, .inr (.inl ⟨k1, s7 _ _ h⟩)⟩)
        · exact .inr (.inr ⟨d, e, n, .inr (.inr ⟨k1, s7 _ _ h⟩)⟩)
      obtain ⟨ty, hty, hkt⟩ := odd_isi ov7
      have add : Out p H6 v ys → tVar 6 [some (.ref p), some (.ref a), some (.str one), some (.str (one ++ (⟨#[i]⟩ : Str))), some (.ref q4), none, some v] H7 fun y H4 => ∃ acc, H4 L = some (.lst acc) ∧ acc.length < sizeLine ∧
          (Same H6 (upd H4 L (.lst (acc ++ [y]))) ∧ ∃ zs : List V, upd H4 L (.lst (acc ++ [y])) L = some (.lst zs) ∧ zs.length ≤ j + 1 ∧ (0 < j + 1 → 0 < zs.length) ∧ ∀ v ∈ zs, Out p H6 v ys) := fun ho =>
        ⟨_, rfl, _, hz, by omega, Ask.Same.upd_new s7 hL, _, upd_same, by rw [List.length_append]; show zs.length + 1 ≤ _; omega, fun _ => by rw [List.length_append]; show 0 < zs.length + 1; omega, fun x hx => by
          rcases List.mem_append.mp hx with q | q
          · exact hzs x q
          · rw [List.mem_singleton.mp q]
            exact ho⟩
      refine ⟨rfl, _, rfl, v, _, ty, _, isStrV v, rfl, .ty _, hty, hkt, _, rfl, ?_⟩
      have hflat : (ys.map V.str).all flatV = true := by
        rw [List.all_eq_true]
        intro x hx
        obtain ⟨y, _, rfl⟩ := List.mem_map.mp hx
        rfl
      refine ite2 (fun q => ?_) (fun q => iteT (add (ov.out fun h => absurd h q)))
      refine ⟨_, rfl, _, rfl, a, _, rfl, .inl (s7.seq (g6.seq hS)), ?_, hflat, _, rfl, ?_⟩
      · cases v <;> first | rfl | exact absurd q Bool.false_ne_true
      · show if (!inV v (ys.map V.str)) = true then _ else _
        refine ite2 (fun h => add (ov.out fun _ => ?_)) (fun h => ?_)
        · cases e : inV v (ys.map V.str) with
          | false => rfl
          | true =>
            rw [e] at h
            cases h
        · refine ⟨s7, zs, hz, by omega, fun _ => ?_, hzs⟩
          rcases Nat.eq_zero_or_pos j with rfl | hj0
          · have : v = .non := Option.some.inj (hx.symm.trans hd1)
            subst this
            exact absurd q Bool.false_ne_true
          · exact hzp hj0
    · rintro H7 ⟨s7, zs, hz, hzl, hzp, hzs⟩
      have g7 := g6.same s7
      refine ⟨_, rfl, _, rfl, p, c, ns, _, B + 1 + 1, rfl, g7.pen, by omega, .inl ⟨L, zs, rfl, SqL.of hz, hzp (by omega), by omega, fun H8 v g8 hv => ?_⟩⟩
      exact k H8 v (g7.step g8) (((hzs v hv).kp (Kp.of s7)).kp g8.kp)
end
end Ask

namespace Ask
open PySem L2
theorem part_len : ∀ {rs : List Run} {n : Int} {f b : List Run}, partR rs n = some (f, b) → f.length ≤ rs.length
  | [], n, f, b, e => by
    unfold partR at e
    by_cases n0 : n = 0
    · rw [if_pos n0] at e
      cases e
      exact Nat.le_refl _
    · rw [if_neg n0] at e
      cases e
  | r :: rs, n, f, b, e => by
    unfold partR at e
    by_cases n0 : n = 0
    · rw [if_pos n0] at e
      cases e
      exact Nat.zero_le _
    · rw [if_neg n0] at e
      by_cases q : n < r.2
      · rw [if_pos q] at e
        cases e
        exact Nat.succ_le_succ (Nat.zero_le _)
      · rw [if_neg q] at e
        cases e2 : partR rs (n - r.2) with
        | none => rw [e2] at e; cases e
        | some p =>
          obtain ⟨f', b'⟩ := p
          rw [e2] at e
          cases e
          exact Nat.succ_le_succ (part_len e2)
section
variable {P : Program} {w : World} {K : PySem.W.Frag} {mg : Str → Option Value} {base : Heap} {CL CH CK CE : Addr} {H : Hp} {a m t c dk : Addr} {ys : List Str} {b : Str} {ks : List V} {rs : List Run} {Q : VK} {E : XK}
theorem chk_made {x dx : Addr} (hx : H x = none) (hdx : H dx = none) (hne : dx ≠ x) (k : ∀ H', Same H H' → H' x = some (.ins CK dx [("runs", .ref c)]) → Q .non H') :
    spChk CK [.ref x, .ref c] (upd (upd H dx (.own x)) x (.ins CK dx [])) Q E :=
  ⟨x, dx, c, rfl, upd_same, fun H' e kk => k H' (Same.made hx hdx fun b o e hb => kk b o hb e) e⟩
theorem histC_made (hM : Mde CL H m t ys) (hb : b = "new" ∨ b = "found") (ha : H a = some (.ins CK dk [("runs", .ref c)])) (hc : SqT K H c ks) (hR : PairsV H ks rs) (ln : rs.length ≤ 1000) {x dx : Addr} (hx : H x = none) (hdx : H dx = none) (hne : dx ≠ x)
    (k : ∀ H', Same H H' → HistAt K CL CH H' x ys b rs → Q .non H') : spHistC K CL CH CK [.ref x, .ref m, .str b, .ref a] (upd (upd H dx (.own x)) x (.ins CH dx [])) Q E := by
  have sm : Same H (upd (upd H dx (.own x)) x (.ins CH dx [])) := Ask.Same.made1 (Ask.Same.made1 (Same.refl H) hdx) (by rw [upd_ne hne.symm]; exact hx)
  exact ⟨x, dx, m, t, a, dk, c, b, ys, ks, rs, rfl, upd_same, hM.same sm, hb, sm _ _ ha, seqT_same sm hc, hR.same sm, ln, fun H' e1 e2 e3 e4 kk => k H' (Same.made hx hdx fun b o e hb => kk b o hb e) ⟨dx, m, t, c, ks, e1, e2, e3, e4⟩⟩
/-! ### History.__add__ -/
def spAdd (K : PySem.W.Frag) (CL CH : Addr) : Sp := fun vs H Q _ => ∃ (p a : Addr) (ys : List Str) (b : Str) (hs rs : List Run) (xs : List V), vs = [.ref p, .ref a] ∧ HistAt K CL CH H p ys b hs ∧ (b = "new" ∨ b = "found") ∧ hs.length ≤ 1000 ∧ (SqL K H a xs ∨ SqT K H a xs) ∧ RunsV K H xs rs ∧ rs.length ≤ 1000 ∧
  (∀ r ∈ rs, r.1 ∈ ys ∧ 1 ≤ r.2 ∧ r.2 ≤ 1000000000000000000000000000000) ∧ (spliceR hs (joinR rs)).length ≤ 400 ∧ ∀ (H' : Hp) (r : Addr), Same H H' → H r = none → HistAt K CL CH H' r ys b (spliceR hs (joinR rs)) → Q (.ref r) H'
abbrev s_Add : Stmt := inClass (top 39) 6
theorem sc_Add : FnScope ["self", "other", "runs"] ["self", "other"] (defScope s_Add) := ⟨rfl, rfl, rfl, by decide +kernel, rfl, by decide +kernel, by decide +kernel⟩
theorem ok_add {f fX fH fK : Addr} {fd fdX fdH fdK : FuncData} (F : Fun K "__add__" "History.__add__" s_Add f fd) (hC : HsC K CH)
    (GX : FnOk P w K mg base CX0 4 fX fdX ["letters", "kept", "runs"] (spExtOk K CL)) (AX : At K mg "extended" fX fdX ["letters", "kept", "runs"])
    (MH : Mk K CH fH) (mH : mg "History" = some (.ref CH)) (bH : Binds K fdH ["self", "letters", "beginning", "runs"] []) (GH : FnOk P w K mg base CX0 5 fH fdH ["self", "letters", "beginning", "runs"] (spHistC K CL CH CK))
    (MK : Mk K CK fK) (mK : mg "CheckedRuns" = some (.ref CK)) (bK : Binds K fdK ["self", "runs"] []) (GK : FnOk P w K mg base CX0 1 fK fdK ["self", "runs"] (spChk CK)) :
    FnOk P w K mg base CX0 7 f fd ["self", "other"] (spAdd K CL CH) := by
  refine F.ok sc_Add (fun vs H Q E h => ?_) (fun cdv A outer s H vs Q E hr h => ?_)
  · obtain ⟨p, a, ys, b, hs, rs, xs, rfl, _⟩ := h
    rfl
  · obtain ⟨p, a, ys, b, hs, rs, xs, rfl, ⟨dx, m, t, c, ks, hp, hM, hc, hks⟩, hb, lh, ha, hR, ln, hok, lm, k⟩ := h
    have hr2 := hr.mono (j := 2) (by decide)
    have hr3 := hr.mono (j := 3) (by decide)
    refine ⟨_, (pss_cons (ps_set (i := 2) sc_Add.nd rfl (Or.inl rfl) (pe_call GX (hr.mono (j := 4) (by decide)) (by rfl) AX.m AX.k AX.b .nil pass0 (pa_cons (pe_fld (pv 0) rfl) (pa_cons (pe_fld (pv 0) rfl) (pa_cons (pv 1) pa_nil)))))
      (pss_one (ps_ret (pe_make MH GH hr (by rfl) mH bH .nil pass0 (pa_cons (pe_fld (pv 0) rfl) (pa_cons (pe_fld (pv 0) rfl) (pa_cons (pe_make MK GK hr2 (by rfl) mK bK .nil pass0 (pa_cons (pv 2) pa_nil)) pa_nil))))))), ?_⟩
    have e1 := hks.1
    refine ⟨_, rfl, p, CH, dx, _, _, rfl, hp, hC.c, hC.a1, rfl, _, rfl, p, CH, dx, _, _, rfl, hp, hC.c, hC.a3, rfl, _, rfl, m, t, c, ys, a, ks, xs, hs, rs, rfl, hM, hc, hks, lh, ha, hR, ln, hok, lm, fun H1 c1 k1 s1 hc1 hk1 => ?_⟩
    have hp1 := s1 _ _ hp
    refine ⟨_, rfl, p, CH, dx, _, _, rfl, hp1, hC.c, hC.a1, rfl, _, rfl, p, CH, dx, _, _, rfl, hp1, hC.c, hC.a2, rfl, _, rfl, fun x xd hx hxd hne => chk_made hx hxd hne fun H2 s2 hx2 => ⟨rfl, fun r rd hr hrd hner => ?_⟩⟩
    exact histC_made (hM.same (s1.trans s2)) hb hx2 (seqT_same s2 hc1) (hk1.same s2) (by omega) hr hrd hner fun H3 s3 hH => ⟨rfl, k H3 r (s1.trans (s2.trans s3)) ((s1.trans s2).free hr) hH⟩
end
end Ask

/-! str(o), o an instance with its own __str__ -/
namespace Ask
open PySem L2 PySem.Spec PyProof.Rows
open Builtin Builtin.Str
theorem strOf_own {prog : Program} {w : World} {K : PySem.W.Frag} {A : Around} {E : Value → Shared → Prop} {s : Shared} {x C f : Addr} {ox : Obj} {od : Option Obj} {Q : Value → Shared → Prop} (hu : A.units < cLine) (X : K.In s.heap) (I : PySem.W.InstAt s.heap x ox C od)
    (hs : PySem.W.findIn K (.ref C) "__str__" = some (some (.ref f))) (hf : PySem.W.isFn K (.ref f) = true)
    (h : wpAny (model prog w) A (call (.ref f) [.ref x]) (fun v s' => ∃ y t, v = .str y t ∧ Q v s') E s) : wpAny (model prog w) A (Builtin.Str.strOf (.ref x)) Q E s := by
  unfold Builtin.Str.strOf
  rw [show isExactStr (Value.ref x) = false from rfl]
  refine wpAny_bind (m := cRoomFor _ _) (wpAny_cRoomFor hu ?_)
  refine wpAny_bind (m := callSpecial? (.ref x) (Str.ofString "__str__")) (PySem.W.special_fn X I hs (beq_iff_eq.mp hf) (wpAny_mono h (fun r s' hr => ?_) fun _ _ z => z))
  obtain ⟨y, t, rfl, q⟩ := hr
  exact wpAny_pure q
theorem meetsIn_str_new {prog : Program} {w : World} {v : Value} {S : PySem.Spec} (hs : ∀ (A : Around) (R : Result → Shared → Prop) (s : Shared), S A R s →
      wpAny (model prog w) A.in1 (Builtin.Str.strOf v) (fun r s' => R (.ok (.ret r)) s') (fun e s' => R (.error e) s') s) : MeetsIn prog w (Builtin.«str.__new__» ⟨[.type "str", v], []⟩) S := by
  refine MeetsIn.of_wp fun A R s h => ?_
  rw [str_new_tree v]
  refine wpAny_bind (wpAny_pure ?_)
  refine wpAny_bind (wpAny_of_eq isSubtype_str_str ?_)
  exact wpAny_bind (wpAny_mono (hs A R s h) (fun r s' h' => wpAny_pure ⟨_, rfl, h'⟩) fun _ _ e => e)
section
variable {X : Cx} {CX : CXT} {k : Nat} {C f : Addr} {fd : FuncData} {ps : List Str} {sp : Sp} {E : XK}
theorem call_strI (F : FnOk X.prog X.w X.K X.mg X.base CX k f fd ps sp) (hr : Room (k + 2) X.A) (hb : Binds X.K fd ps []) (hx : Passes CX X E) (hs : PySem.W.findIn X.K (.ref C) "__str__" = some (some (.ref f))) (hf : PySem.W.isFn X.K (.ref f) = true) :
    CallR X (.type "str") (fun xs H Q => ∃ (a dx : Addr) (fs : List (Str × V)), xs = [.ref a] ∧ H a = some (.ins C dx fs) ∧ sp [.ref a] H (fun v H' => ∃ z : Str, v = .str z ∧ Q (.str z) H') E) := by
  intro pins s σ H xs us Q I r h
  obtain ⟨a, dx, fs, rfl, ha, q⟩ := h
  obtain ⟨u, rfl, ra⟩ := vals1 r
  obtain rfl : u = Value.ref a := ra
  obtain ⟨mA, J, _⟩ := ins_get I.hok ha
  obtain ⟨od, J, _⟩ := J.look
  have hu := hr.in1.in1.un
  refine PySem.callType_newIn PySem.F.called_str (by decide) (PySem.F.typeCall_str_1 _) (PySem.F.newCall_str_1 _) (fun obj => PySem.F.args_object_init_2 obj _) PySem.F.entry_str_new
    (meetsIn_str_new (prog := X.prog) (w := X.w) (v := .ref a) (S := fun A' R s' => A'.in1.units < cLine ∧ (∃ ox, X.K.In s'.heap ∧ PySem.W.InstAt s'.heap a ox C od) ∧ wpAny (model X.prog X.w) A'.in1 (call (.ref f) [.ref a]) (fun v s2 => ∃ y t, v = .str y t ∧ R (.ok (.ret v)) s2) (fun e s2 => R (.error e) s2) s')
      fun A' R s' hq => by
        obtain ⟨h1, ⟨ox, h2, h3⟩, h4⟩ := hq
        exact strOf_own h1 h2 h3 hs hf h4) ?_
  refine ⟨by omega, ⟨_, I.kIn, J⟩, thn (run_at (vs := [.ref a]) F hr.in1.in1 rfl hb hx I (.cons rfl .nil) q) fun r s' ⟨z, H', I', rz, y, ez, q'⟩ => ?_⟩
  subst ez
  obtain ⟨t, rfl⟩ := rz
  exact ⟨y, t, rfl, typeIs_str _ _ _, ⟨.str y, H', I', ⟨_, rfl⟩, q'⟩⟩
end
end Ask

/-! cls(e, ..), the class in a variable -/
namespace Ask
open PySem L2 PySem.Spec PyProof.Rows
def tMakeL (i : Nat) (C : Addr) (sp : Sp) (dvs : List V) (E : XK) (t : TA) : TE := fun σ H Q => σ[i]? = some (some (.ref C)) ∧ tMake C sp dvs E t σ H Q
theorem pe_makeL {X : Cx} {CX : CXT} {k i : Nat} {f C : Addr} {fd : FuncData} {ps : List Str} {sp : Sp} {dvs : List V} {ds : List Value} {E : XK} {x : Str} {p pos : Pos} {e : Expr} {es : List Expr} {t : TA}
    (M : Mk X.K C f) (F : FnOk X.prog X.w X.K X.mg X.base CX k f fd ps sp) (hr : Room (k + 1) X.A) (hN : X.N[i]? = some x) (hv : Vis X.env.scope x) (hb : Binds X.K fd ps ds) (hd : Vals dvs ds) (hx : Passes CX X E)
    (ha : PA X (e :: es) t) (hdb : (x == ("__debug__" : Str)) = false := by decide) (hcd : (x == ("__classdict__" : Str)) = false := by decide) (he : starEach (e :: es) X.env = (false, eval e X.env) :: starEach es X.env := by rfl) (hpl : (backTo pos (starEach es X.env)).any (·.1) = false := by rfl) :
    PE X (.Call (.Name x p) (e :: es) [] pos) (tMakeL i C sp dvs E t) := by
  refine ⟨fun pins s σ H Q I h => ?_⟩
  obtain ⟨hs, ht⟩ := h
  refine wpAny_Call_Name_kw (thn ((pe_var (pos := p) hN hv hdb hcd).run pins s σ H (fun v H1 => v = .ref C ∧ H1 = H) I ⟨.ref C, hs, rfl, rfl⟩) fun u s1 ⟨v, H1, I1, r1, q1⟩ => ?_)
  obtain ⟨rfl, rfl⟩ := q1
  cases r1
  refine PySem.W.callWith_K (h₀ := X.base) I.ok.mod.kin M.kp (thn (ha.run pos pins s1 σ _ _ I1 ht) fun us s2 ⟨vs, H2, I2, r, q⟩ => ⟨I2.kIn, ?_⟩) he hpl
  exact run_make M F hr hb hd hx I2 r q
end Ask

/-! o + e by the own __add__ within a try; C.m(..), a classmethod, within a try -/
namespace Ask
open PySem L2 PySem.Spec PyProof.Rows ClX
def tAddE (K : PySem.W.Frag) (C : Addr) (sp : Sp) (E : L2.St → XK) (ta tb : TE) : TE := fun σ H Q => ta σ H fun x H1 => tb σ H1 fun y H2 => ∃ (a b dx : Addr) (fs : List (Str × V)) (zs : List V), x = .ref a ∧ y = .ref b ∧ H2 a = some (.ins C dx fs) ∧ (SqL K H2 b zs ∨ SqT K H2 b zs) ∧
  sp [.ref a, .ref b] H2 (fun v H' => (∃ r, v = .ref r) ∧ Q v H') (E σ)
section
variable {X : Cx} {CX : CXT} {k : Nat} {C f : Addr} {fd : FuncData} {ps : List Str} {sp : Sp} {E : L2.St → XK}
theorem pe_addE {a b : Expr} {pos : Pos} {ta tb : TE} (ha : PE X a ta) (hb : PE X b tb) (F : FnOk X.prog X.w X.K X.mg X.base CX k f fd ps sp) (hr : Room k X.A) (hbd : Binds X.K fd ps []) (hx : ∀ σ, PassesAt CX X σ (E σ))
    (hs : PySem.W.findIn X.K (.ref C) "__add__" = some (some (.ref f))) (hf : PySem.W.isFn X.K (.ref f) = true) (hc : PySem.W.selfFirst X.K C = true) : PE X (.BinOp a .Add b pos) (tAddE X.K C sp E ta tb) := by
  refine ⟨fun pins s σ H Q I h => ?_⟩
  refine wpAny_BinOp (binT ha hb I h fun v u s2 x y H2 I2 rx ry q => ?_)
  obtain ⟨p, q', dx, fs, zs, rfl, rfl, hp, hz, q⟩ := q
  cases rx
  cases ry
  obtain ⟨mA, J, _⟩ := ins_get I2.hok hp
  obtain ⟨od, J, _⟩ := J.look
  obtain ⟨m, hF⟩ := I2.fr
  have body : wpAny (model X.prog X.w) X.A (call (.ref f) [.ref p, .ref q']) (PySem.W.CmpBack (EP X pins σ Q)) X.xe s2 := by
    refine thn (run_atS (vs := [.ref p, .ref q']) F hr rfl hbd (hx σ) I2 (.cons rfl (.cons rfl .nil)) q) fun r s' ⟨z, H', I', rz, ⟨p', ez⟩, q'⟩ => ?_
    subst ez
    obtain rfl : r = Value.ref p' := rz
    exact ⟨.ref p', H', I', rfl, q'⟩
  rcases hz with hz | hz
  · obtain ⟨its, _, ⟨o, n, e, c, _, _⟩, _⟩ := I2.list hz
    exact add_K hF I2.ok.mod.kin J (T := "list") ⟨o, e, c⟩ fills_list hc hs hf body
  · obtain ⟨its, _, ⟨o, e, c, _⟩, _⟩ := I2.tuple hz
    exact add_K hF I2.ok.mod.kin J (T := "tuple") ⟨o, e, c⟩ fills_tup hc hs hf body
end
def tCMethE (C : Addr) (sp : Sp) (E : L2.St → XK) (ta : TE) (t : TA) : TE := fun σ H Q => ta σ H fun x H1 => x = .ref C ∧ t σ H1 fun vs H2 => sp (.ref C :: vs) H2 Q (E σ)
section
variable {X : Cx} {pins : List (Addr × Obj)} {σ : L2.St} {H : Hp} {s : Shared} {C p g : Addr} {mc : Value}
theorem run_cmS {CX : CXT} {k : Nat} {q : Addr} {sp : Sp} {E : XK} {Q : VK} {us : List Value} {vs : List V} (F : FnR X.prog X.w X.K X.mg X.base CX k g sp) (hr : Room k X.A) (hx : PassesAt CX X σ E) (I : Inv X ((q, PySem.W.methodObj (.ref g) (.ref C)) :: pins) σ H s)
    (r : Vals vs us) (h : sp (.ref C :: vs) H Q E) : wpAny (model X.prog X.w) X.A (call (.ref q) us) (EP X pins σ Q) X.xe s := by
  have z : wpAny (model X.prog X.w) X.A (call (.ref q) us) (EP X ((q, PySem.W.methodObj (.ref g) (.ref C)) :: pins) σ Q) X.xe s := by
    refine wpAny_call (PySem.W.method_call (pin_at I) ?_)
    refine codeAny_mono (F X.A X.stack s H (.ref C :: us) (.ref C :: vs) Q E hr I.env0 (.cons rfl r) h) fun r s' hq => ?_
    cases r with
    | error e => exact hx _ H s e s' I hq
    | ok fl =>
      cases fl with
      | ret u => exact I.after hq
      | next => exact False.elim hq
      | brk => exact False.elim hq
      | cont => exact False.elim hq
  exact thn z fun _ _ y => unpinE y
theorem pe_cmethE {CX : CXT} {k : Nat} {sp : Sp} {E : L2.St → XK} {m : Str} {pos apos : Pos} {e o : Expr} {es : List Expr} {ta : TE} {t : TA} {pl : Sem Bool} (he : PE X o ta) (r : CRead X.K C mc) (c : CMet X.K C mc m p g) (F : FnR X.prog X.w X.K X.mg X.base CX k g sp) (hr : Room k X.A) (hx : ∀ σ, PassesAt CX X σ (E σ)) (ha : PA X (e :: es) t)
    (hst : starEach (e :: es) X.env = (false, eval e X.env) :: starEach es X.env := by rfl) (hpl : (backTo pos (starEach es X.env)).any (·.1) = false := by rfl)
    (ht : eval (.Call (.Attribute o m apos) (e :: es) [] pos) X.env = (do
      let ov ← eval o X.env
      standAt apos.atName
      let (f, first) ← holding [ov] (getMethod ov m pl)
      callWith pos f first (backTo pos (starEach (e :: es) X.env)) (backToKw pos (keywordEach [] X.env))) := by rfl) :
    PE X (.Call (.Attribute o m apos) (e :: es) [] pos) (tCMethE C sp E ta t) := by
  refine ⟨fun pins s σ H Q I h => ?_⟩
  refine PySem.W.methodCall_KW (pl := pl) (thn (he.run pins s σ H _ I h) fun u s1 ⟨x, H1, I1, rx, ex, q⟩ => ?_) ht
  subst ex
  obtain rfl : u = Value.ref C := rx
  refine getmethcm_ok I1 r c fun s2 I2 => ?_
  refine callwith_cm I2 (base_none I1 (Nat.le_refl _)) c.fi (thn (ha.run pos _ s2 σ H1 _ I2 q) fun us s3 ⟨vs, H2, I3, rv, q2⟩ => ⟨⟨pin_at I3, I3.kIn⟩, ?_⟩) hst hpl
  exact run_cmS F hr (hx σ) I3 rv q2
end
end Ask

namespace Ask
open PySem L2
theorem inW_letter {K : PySem.W.Frag} {H : Hp} {x : V} {ys : List Str} (h : InW H x ys false) : ∃ (ty : Value) (p : Bool), TyX K H x ty ∧ PySem.W.kitOne K ty (.type "str") = some p ∧ (p = true → ∃ z, x = .str z ∧ z ∉ ys) := by
  rcases h with ⟨f, e⟩ | ⟨_, d, rfl, h⟩
  · cases x with
    | non => exact ⟨_, false, .base .non, kit_ty (by decide +kernel), fun q => Bool.noConfusion q⟩
    | bl b => exact ⟨_, false, .base (.bl _), kit_ty (by decide +kernel), fun q => Bool.noConfusion q⟩
    | int i => exact ⟨_, false, .base (.int _), kit_ty (by decide +kernel), fun q => Bool.noConfusion q⟩
    | str z =>
      refine ⟨_, true, .base (.str _), kit_ty (by show kitB "str" "str" = some true; decide +kernel), fun _ => ⟨z, rfl, fun hz => ?_⟩⟩
      rw [in_mem hz] at e
      cases e
    | _ => cases f
  · rcases h with ⟨kvs, h⟩ | ⟨xs, h⟩ | ⟨xs, h⟩
    · exact ⟨_, false, .base (.dK h), kit_ty (by show kitB "dict" "str" = some false; decide +kernel), fun q => Bool.noConfusion q⟩
    · exact ⟨_, false, .base (.lst h), kit_ty (by show kitB "list" "str" = some false; decide +kernel), fun q => Bool.noConfusion q⟩
    · exact ⟨_, false, .base (.tup h), kit_ty (by show kitB "tuple" "str" = some false; decide +kernel), fun q => Bool.noConfusion q⟩
/-- an item of a word: a letter, or something that is none -/
def WdV (H : Hp) (ys : List Str) (v : V) : Stt → Prop
  | .ok r => v = .str r.1 ∧ r.2 = 1 ∧ r.1 ∈ ys
  | .no k => k = .letter ∧ InW H v ys false
theorem WdV.same {H H' : Hp} {ys : List Str} {v : V} {t : Stt} (h : WdV H ys v t) (s : Same H H') : WdV H' ys v t := by
  cases t with
  | ok r => exact h
  | no k => exact ⟨h.1, h.2.same s⟩
theorem WdV.but {H H' : Hp} {ys : List Str} {v : V} {t : Stt} {p C dx : Addr} {fs : List (Str × V)} (h : WdV H ys v t) (k : But p H H') (hp : H p = some (.ins C dx fs)) : WdV H' ys v t := by
  cases t with
  | ok r => exact h
  | no k' => exact ⟨h.1, h.2.but k hp⟩
def WdsV (H : Hp) (ys : List Str) (xs : List V) (ss : List Stt) : Prop := xs.length = ss.length ∧ ∀ (i : Nat) (v : V) (t : Stt), xs[i]? = some v → ss[i]? = some t → WdV H ys v t
theorem WdsV.same {H H' : Hp} {ys : List Str} {xs : List V} {ss : List Stt} (h : WdsV H ys xs ss) (s : Same H H') : WdsV H' ys xs ss := ⟨h.1, fun i v t h1 h2 => (h.2 i v t h1 h2).same s⟩
/-- pairs of the items with 1 -/
def OnsV (H : Hp) (ks xs : List V) : Prop := ks.length = xs.length ∧ ∀ (i : Nat) (v : V), xs[i]? = some v → ∃ b, ks[i]? = some (.ref b) ∧ H b = some (.tup [v, .int 1])
theorem OnsV.nil {H : Hp} : OnsV H [] [] := ⟨rfl, fun i v h => by cases h⟩
theorem OnsV.same {H H' : Hp} {ks xs : List V} (h : OnsV H ks xs) (s : Same H H') : OnsV H' ks xs := ⟨h.1, fun i v e => let ⟨b, e1, e2⟩ := h.2 i v e; ⟨b, e1, s _ _ e2⟩⟩
theorem OnsV.but {H H' : Hp} {ks xs : List V} {p C dx : Addr} {fs : List (Str × V)} (h : OnsV H ks xs) (k : But p H H') (hp : H p = some (.ins C dx fs)) : OnsV H' ks xs :=
  ⟨h.1, fun i v e => let ⟨b, e1, e2⟩ := h.2 i v e; ⟨b, e1, k _ _ (ne_of e2 hp (by intro z; cases z)) e2⟩⟩
theorem OnsV.mut {H : Hp} {ks xs : List V} {L : Addr} {ls : List V} {o : HO} (h : OnsV H ks xs) (hL : H L = some (.lst ls)) : OnsV (upd H L o) ks xs :=
  ⟨h.1, fun i v e => let ⟨b, e1, e2⟩ := h.2 i v e; ⟨b, e1, by rw [upd_ne (ne_of e2 hL (by intro z; cases z))]; exact e2⟩⟩
theorem OnsV.app {H : Hp} {ks xs : List V} {v : V} {b : Addr} (h : OnsV H ks xs) (e : H b = some (.tup [v, .int 1])) : OnsV H (ks ++ [.ref b]) (xs ++ [v]) := by
  refine ⟨by rw [List.length_append, List.length_append, h.1]; rfl, fun i w e2 => ?_⟩
  rcases Nat.lt_or_ge i xs.length with hi | hi
  · rw [List.getElem?_append_left hi] at e2
    obtain ⟨b', e1, e3⟩ := h.2 i w e2
    exact ⟨b', by rw [List.getElem?_append_left (by rw [h.1]; exact hi)]; exact e1, e3⟩
  · rw [List.getElem?_append_right hi] at e2
    have i0 : i - xs.length = 0 := by
      cases q : i - xs.length with
      | zero => rfl
      | succ n => rw [q] at e2; cases e2
    rw [i0] at e2
    cases e2
    exact ⟨b, by rw [List.getElem?_append_right (by rw [h.1]; exact hi), h.1, i0]; rfl, e⟩
theorem OnsV.sts {K : PySem.W.Frag} {H : Hp} {ys : List Str} {ks xs : List V} {ss : List Stt} (h : OnsV H ks xs) (w : WdsV H ys xs ss) : StsV K H ys ks ss := by
  refine ⟨h.1.trans w.1, fun i v t h1 h2 => ?_⟩
  have hi : i < xs.length := by rw [← h.1]; exact (List.getElem?_eq_some_iff.mp h1).1
  obtain ⟨x, hx⟩ : ∃ x, xs[i]? = some x := ⟨_, List.getElem?_eq_getElem hi⟩
  obtain ⟨b, e1, e2⟩ := h.2 i x hx
  rw [h1] at e1
  cases e1
  have q := w.2 i x t hx h2
  cases t with
  | ok r =>
    obtain ⟨rfl, e3, e4⟩ := q
    exact ⟨⟨b, rfl, .inr (by rw [e3]; exact SqT.of e2)⟩, e4, by rw [e3]; decide, by rw [e3]; decide⟩
  | no k =>
    obtain ⟨rfl, e3⟩ := q
    obtain ⟨ty, p, t1, t2, t3⟩ := inW_letter (K := K) e3
    exact ⟨b, x, .int 1, ty, p, rfl, .inr (SqT.of e2), e3, t1, t2, t3⟩
section
variable {P : Program} {w : World} {K : PySem.W.Frag} {mg : Str → Option Value} {base : Heap}
def spSpelledE (K : PySem.W.Frag) (CL CH CB CT CM : Addr) : Sp := fun vs H Q E => ∃ (m t a : Addr) (bv : V) (bb : Bool) (ys : List Str) (xs : List V) (ss : List Stt), vs = [.ref CH, .ref m, bv, .ref a] ∧ Mde CL H m t ys ∧ InW H bv ["new", "found"] bb ∧ (bb = true → ∃ b : Str, bv = .str b ∧ (b = "new" ∨ b = "found")) ∧
  (SqL K H a xs ∨ SqT K H a xs) ∧ WdsV H ys xs ss ∧ ss.length ≤ 1000 ∧
  (bb = false → ∀ H', Same H H' → E (.ref CB) none H') ∧
  (∀ (i : Nat), bb = true → fbad ss = some (i, .letter) → ∀ (H' : Hp) (d : Addr), Same H H' → H' d = some (.xd (fsBad [.int (i : Nat)])) → E (.ref CT) (some d) H') ∧
  (bb = true → fbad ss = none → 400 < (joinR (oks ss)).length → ∀ (H' : Hp) (d : Addr), Same H H' → H' d = some (.xd (fsMany [.str "runs", .int ((joinR (oks ss)).length : Nat), .int 400])) → E (.ref CM) (some d) H') ∧
  (bb = true → fbad ss = none → (joinR (oks ss)).length ≤ 400 → ∀ (H' : Hp) (r : Addr) (b : Str), Same H H' → bv = .str b → HistAt K CL CH H' r ys b (joinR (oks ss)) → Q (.ref r) H')
theorem fbad_letter : ∀ {H : Hp} {ys : List Str} {xs : List V} {ss : List Stt} {i : Nat} {k : Wr}, WdsV H ys xs ss → fbad ss = some (i, k) → k = .letter := by
  intro H ys xs ss i k h e
  have q : ∀ (ss : List Stt) (i : Nat) (k : Wr), fbad ss = some (i, k) → ss[i]? = some (.no k) := by
    intro ss
    induction ss with
    | nil => intro i k e; cases e
    | cons t ss ih =>
      intro i k e
      cases t with
      | no k' => cases e; rfl
      | ok r =>
        have e : (fbad ss).map (fun p => (p.1 + 1, p.2)) = some (i, k) := e
        cases e2 : fbad ss with
        | none => rw [e2] at e; cases e
        | some p =>
          rw [e2] at e
          cases e
          exact ih _ _ e2
  have e2 := q _ _ _ e
  have hi : i < xs.length := by rw [h.1]; exact (List.getElem?_eq_some_iff.mp e2).1
  exact (h.2 i _ _ (List.getElem?_eq_getElem hi) e2).1
abbrev s_Spelled : Stmt := inClass (top 39) 1
theorem sc_Spelled : FnScope ["cls", "letters", "beginning", "word", "letter"] ["cls", "letters", "beginning", "word"] (defScope s_Spelled) := ⟨rfl, rfl, rfl, by decide +kernel, rfl, by decide +kernel, by decide +kernel⟩
theorem ok_spelledE {f fY CL CH CB CR CT CC CM : Addr} {fd fdY : FuncData} (F : Fun K "spelled" "History.spelled" s_Spelled f fd)
    (MY : Mk K CH fY) (bY : Binds K fdY ["self", "letters", "beginning", "runs"] []) (GY : FnOk P w K mg base (L2.CX P w) 7 fY fdY ["self", "letters", "beginning", "runs"] (spHistW K CL CH CB CR CT CC CM)) :
    FnOk P w K mg base (L2.CX P w) 9 f fd ["cls", "letters", "beginning", "word"] (spSpelledE K CL CH CB CT CM) := by
  refine F.okX sc_Spelled (fun vs H Q E h => ?_) (fun cdv A outer s H vs Q E hr h => ?_)
  · obtain ⟨m, t, a, bv, bb, ys, xs, ss, rfl, _⟩ := h
    rfl
  · obtain ⟨m, t, a, bv, bb, ys, xs, ss, rfl, hM, hb, hbt, hS, hW, hn, kB, kE, kM, k⟩ := h
    refine ⟨_, (pss_one (ps_ret (pe_makeL (E := E) (i := 0) MY GY hr rfl (Or.inl rfl) bY .nil (passes_call (takes_of rfl rfl rfl rfl) (fun _ _ _ _ h => h)) (pa_cons (pv 1) (pa_cons (pv 2) (pa_cons (pe_lc (own := [("letter", 4)]) rfl sc_Spelled.nd (pi_or (pi_list (pv 3)) (pi_tup (pv 3))) (blkOk_by (N := ["cls", "letters", "beginning", "word", "letter"]) (sc := defScope s_Spelled) (by decide +kernel)) (fun _ _ _ _ _ => (pg_name (i := 4) sc_Spelled.nd rfl (Or.inl rfl))) (fun _ _ _ _ _ => pts_nil) (fun _ _ _ _ _ => (pe_tup (pa_cons (pv 4) (pa_cons pe_int pa_nil))))) pa_nil)))))), ?_⟩
    have z1 : (1000 : Nat) ≤ sizeLine := by decide
    obtain ⟨J, G, wk, hG, fits⟩ : ∃ (J : It) (G : Hp → Prop), Walk J xs.length G (YAt xs) ∧ (∀ H', Same H H' → G H') ∧
        ∀ (R : It → Hp → Prop), R J H → (iList K (tVar 3) [some (.ref CH), some (.ref m), some bv, some (.ref a), none] H R ∨ iTup K (tVar 3) [some (.ref CH), some (.ref m), some bv, some (.ref a), none] H R) := by
      rcases hS with hS | hS
      · exact ⟨Itl K a, _, walk_list, fun H' s' => s'.seq hS, fun R r => .inl ⟨_, rfl, a, rfl, ⟨_, hS⟩, r⟩⟩
      · exact ⟨Itt K a, _, walk_tup, fun H' s' => seqT_same s' hS, fun R r => .inr ⟨_, rfl, a, rfl, ⟨_, hS⟩, r⟩⟩
    refine ⟨rfl, _, rfl, _, rfl, ?_⟩
    refine lc_any (wi := fun σ H R => iList K (tVar 3) σ H R ∨ iTup K (tVar 3) σ H R) fits wk fun L hL => ⟨fun i H' => Same H H' ∧ ∃ ks, H' L = some (.lst ks) ∧ OnsV H' ks (xs.take i), ⟨Ask.Same.upd_new (Same.refl _) hL, [], upd_same, OnsV.nil⟩, fun i H' _ hh => hG H' hh.1, ?_, ?_⟩
    · rintro i v H2 H3 hi ⟨s2, ks, hL2, hk⟩ ⟨rfl, hv⟩
      have ek := hk.1
      rw [List.length_take] at ek
      have hx := hW.1
      refine ⟨rfl, _, rfl, by show 2 ≤ sizeLine; decide, fun u hu => ?_⟩
      have hL3 : upd H3 u (.tup [v, .int 1]) L = some (.lst ks) := by rw [upd_ne (ne_of_none hL2 hu)]; exact hL2
      have s3 := Ask.Same.made1 (o := .tup [v, .int 1]) s2 hu
      have k3 := hk.same (Ask.Same.made1 (o := .tup [v, .int 1]) (Same.refl H3) hu)
      refine ⟨ks, hL3, by omega, Ask.Same.upd_new s3 hL, _, upd_same, ?_⟩
      rw [List.take_add_one, hv]
      exact (k3.app (b := u) upd_same).mut hL3
    · rintro H2 ⟨s2, ks, hL2, hk⟩
      rw [List.take_length] at hk
      intro x dx hx hdx hne
      have sm : Same H2 (upd (upd H2 dx (.own x)) x (.ins CH dx [])) := Ask.Same.made1 (Ask.Same.made1 (Same.refl H2) hdx) (by rw [upd_ne hne.symm]; exact hx)
      have hp0 : upd (upd H2 dx (.own x)) x (.ins CH dx []) x = some (.ins CH dx []) := upd_same
      have back : ∀ H', But x (upd (upd H2 dx (.own x)) x (.ins CH dx [])) H' → Same H2 H' := fun H' kk b o e => kk b o (ne_of_none e hx) (sm _ _ e)
      generalize upd (upd H2 dx (.own x)) x (.ins CH dx []) = H3 at sm hp0 back ⊢
      have s3 := s2.trans sm
      refine ⟨x, dx, m, t, L, bv, bb, ys, ks, ss, rfl, hp0, hM.same s3, hb.same s3, hbt, .inl (SqL.of (sm _ _ hL2)), fun H' kk => (hk.same (back H' kk)).sts (hW.same (s2.trans (back H' kk))), hn, fun hbb => kB hbb _ s3, fun i kw hbb hf H' d kk e => ?_, fun hbb hf hl H' d kk e => kM hbb hf hl H' d (s2.trans (back H' kk)) e, fun hbb hf hl H' c ks' b eb e1 hc hks kk => ⟨rfl, ?_⟩⟩
      · have := fbad_letter hW hf
        subst this
        exact kE i hbb hf H' d (s2.trans (back H' kk)) e
      · have s4 := s2.trans (back H' kk)
        exact k hbb hf hl H' x b s4 eb ⟨dx, m, t, c, ks', e1, hM.same s4, hc, hks⟩
def spAddE (K : PySem.W.Frag) (CL CH CR CT CC CM : Addr) : Sp := fun vs H Q E => ∃ (p a : Addr) (ys : List Str) (b : Str) (hs : List Run) (xs : List V) (ss : List Stt), vs = [.ref p, .ref a] ∧ HistAt K CL CH H p ys b hs ∧ (b = "new" ∨ b = "found") ∧ hs.length ≤ 1000 ∧ (SqL K H a xs ∨ SqT K H a xs) ∧ StsV K H ys xs ss ∧ ss.length ≤ 1000 ∧
  (∀ (i : Nat) (k : Wr), fbad ss = some (i, k) → ∀ (H' : Hp) (d : Addr), Same H H' → H' d = some (.xd (fsBad [.int (i : Nat)])) → E (.ref (clW CR CT CC k)) (some d) H') ∧
  (fbad ss = none → 400 < (spliceR hs (joinR (oks ss))).length → ∀ (H' : Hp) (d : Addr), Same H H' → H' d = some (.xd (fsMany [.str "runs", .int ((spliceR hs (joinR (oks ss))).length : Nat), .int 400])) → E (.ref CM) (some d) H') ∧
  (fbad ss = none → (spliceR hs (joinR (oks ss))).length ≤ 400 → ∀ (H' : Hp) (r : Addr), Same H H' → H r = none → HistAt K CL CH H' r ys b (spliceR hs (joinR (oks ss))) → Q (.ref r) H')
theorem ok_addE {f fX fH fK CL CH CK CR CT CC CM : Addr} {fd fdX fdH fdK : FuncData} (F : Fun K "__add__" "History.__add__" s_Add f fd) (hC : HsC K CH)
    (GX : FnOk P w K mg base (L2.CX P w) 6 fX fdX ["letters", "kept", "runs"] (spExt K CL CR CT CC CM)) (AX : At K mg "extended" fX fdX ["letters", "kept", "runs"])
    (MH : Mk K CH fH) (mH : mg "History" = some (.ref CH)) (bH : Binds K fdH ["self", "letters", "beginning", "runs"] []) (GH : FnOk P w K mg base CX0 5 fH fdH ["self", "letters", "beginning", "runs"] (spHistC K CL CH CK))
    (MK : Mk K CK fK) (mK : mg "CheckedRuns" = some (.ref CK)) (bK : Binds K fdK ["self", "runs"] []) (GK : FnOk P w K mg base CX0 1 fK fdK ["self", "runs"] (spChk CK)) :
    FnOk P w K mg base (L2.CX P w) 7 f fd ["self", "other"] (spAddE K CL CH CR CT CC CM) := by
  refine F.okX sc_Add (fun vs H Q E h => ?_) (fun cdv A outer s H vs Q E hr h => ?_)
  · obtain ⟨p, a, ys, b, hs, xs, ss, rfl, _⟩ := h
    rfl
  · obtain ⟨p, a, ys, b, hs, xs, ss, rfl, ⟨dx, m, t, c, ks, hp, hM, hc, hks⟩, hb, lh, ha, hR, ln, kE, kM, k⟩ := h
    have hr2 := hr.mono (j := 2) (by decide)
    refine ⟨_, (pss_cons (ps_set (i := 2) sc_Add.nd rfl (Or.inl rfl) (pe_call (E := E) GX hr (by rfl) AX.m AX.k AX.b .nil (passes_call (takes_of rfl rfl rfl rfl) (fun _ _ _ _ h => h)) (pa_cons (pe_fld (pv 0) rfl) (pa_cons (pe_fld (pv 0) rfl) (pa_cons (pv 1) pa_nil)))))
      (pss_one (ps_ret (pe_make MH GH hr (by rfl) mH bH .nil pass0 (pa_cons (pe_fld (pv 0) rfl) (pa_cons (pe_fld (pv 0) rfl) (pa_cons (pe_make MK GK hr2 (by rfl) mK bK .nil pass0 (pa_cons (pv 2) pa_nil)) pa_nil))))))), ?_⟩
    refine ⟨_, rfl, p, CH, dx, _, _, rfl, hp, hC.c, hC.a1, rfl, _, rfl, p, CH, dx, _, _, rfl, hp, hC.c, hC.a3, rfl, _, rfl, m, t, c, ys, a, ks, xs, hs, ss, rfl, hM, hc, hks, lh, ha, hR, ln, kE, kM, fun hf hl H1 c1 k1 s1 hc1 hk1 => ?_⟩
    have hp1 := s1 _ _ hp
    refine ⟨_, rfl, p, CH, dx, _, _, rfl, hp1, hC.c, hC.a1, rfl, _, rfl, p, CH, dx, _, _, rfl, hp1, hC.c, hC.a2, rfl, _, rfl, fun x xd hx hxd hne => chk_made hx hxd hne fun H2 s2 hx2 => ⟨rfl, fun r rd hr hrd hner => ?_⟩⟩
    exact histC_made (hM.same (s1.trans s2)) hb hx2 (seqT_same s2 hc1) (hk1.same s2) (by omega) hr hrd hner fun H3 s3 hH => ⟨rfl, k hf hl H3 r (s1.trans (s2.trans s3)) ((s1.trans s2).free hr) hH⟩
end
end Ask

namespace Ask
open PySem L2
theorem splice_tail (h : List Run) (r : Run) (t : List Run) : spliceR h (r :: t) = spliceR h [r] ++ t := by
  cases e : h.getLast? with
  | none =>
    have : h = [] := List.getLast?_eq_none_iff.mp e
    subst this
    rfl
  | some l =>
    rw [splice_some e]
    unfold spliceR
    rw [e]
    show (if l.1 = r.1 then h.dropLast ++ [(l.1, l.2 + r.2)] ++ t else h ++ (r :: t)) = _
    by_cases q : l.1 = r.1
    · rw [if_pos q, if_pos q]
    · rw [if_neg q, if_neg q, List.append_assoc]
      rfl
theorem splice_nilr (h : List Run) : spliceR h [] = h := by
  unfold spliceR
  cases h.getLast? <;> simp
theorem splice_last (h : List Run) (r : Run) : ∃ l, (spliceR h [r]).getLast? = some l ∧ l.1 = r.1 := by
  cases e : h.getLast? with
  | none => rw [splice_none e]; exact ⟨r, rfl, rfl⟩
  | some l =>
    rw [splice_some e]
    by_cases q : l.1 = r.1
    · rw [if_pos q]
      exact ⟨_, List.getLast?_concat, q⟩
    · rw [if_neg q]
      exact ⟨_, List.getLast?_concat, rfl⟩
theorem noeq_tail {S : List Run} {r : Run} (hS : NoEq S) (hl : ∃ l, S.getLast? = some l ∧ l.1 = r.1) : ∀ (n : Nat) (t : List Run), t.length = n → NoEq (r :: t) → NoEq (S ++ t)
  | 0, t, e, _ => by
    have : t = [] := List.eq_nil_of_length_eq_zero e
    subst this
    rw [List.append_nil]
    exact hS
  | n + 1, t, e, h => by
    rcases List.eq_nil_or_concat t with rfl | ⟨t', x, rfl⟩
    · cases e
    · rw [List.concat_eq_append] at e h ⊢
      rw [List.length_append] at e
      have h2 := (noeq_snoc (rs := r :: t') (r := x)).mp h
      rw [← List.append_assoc]
      refine noeq_snoc.mpr ⟨noeq_tail hS hl n t' (by have : ([x] : List Run).length = 1 := rfl; omega) h2.1, fun l el => ?_⟩
      rcases List.eq_nil_or_concat t' with rfl | ⟨t'', y, rfl⟩
      · rw [List.append_nil] at el
        obtain ⟨l', e1, e2⟩ := hl
        rw [el] at e1
        cases e1
        rw [e2]
        exact h2.2 r rfl
      · rw [List.concat_eq_append] at el h2
        rw [← List.append_assoc, List.getLast?_concat] at el
        cases el
        exact h2.2 _ (by rw [← List.cons_append, List.getLast?_concat])
theorem join_of_plain {A B : List Run} (hA : ∀ r ∈ A, 0 < r.2) (hB : ∀ r ∈ B, 0 < r.2) (e : plainR A = plainR B) : joinR A = joinR B := by
  rw [← join_plain hA, ← join_plain hB, e]
theorem pos_app {A B : List Run} (hA : ∀ r ∈ A, 0 < r.2) (hB : ∀ r ∈ B, 0 < r.2) : ∀ r ∈ A ++ B, 0 < r.2 := fun r hr => by
  rcases List.mem_append.mp hr with h | h
  · exact hA r h
  · exact hB r h
theorem splice_join {A B : List Run} (hA : ∀ r ∈ A, 0 < r.2) (hB : ∀ r ∈ B, 0 < r.2) : spliceR (joinR A) (joinR B) = joinR (A ++ B) := by
  have pB := plain_join hB
  have qB := join_pos hB
  have nB := noeq_join B
  cases e : joinR B with
  | nil =>
    rw [e] at pB
    rw [splice_nilr]
    refine join_of_plain hA (pos_app hA hB) ?_
    rw [plainR_app, ← pB]
    show plainR A = plainR A ++ []
    rw [List.append_nil]
  | cons r t =>
    rw [e] at pB qB nB
    rw [splice_tail]
    have hr : 0 < r.2 := qB r (List.mem_cons_self ..)
    have pX : ∀ x ∈ spliceR (joinR A) [r] ++ t, 0 < x.2 := pos_app (pos_splice (join_pos hA) hr) fun x hx => qB x (List.mem_cons_of_mem _ hx)
    have nX : NoEq (spliceR (joinR A) [r] ++ t) := noeq_tail (noeq_splice (noeq_join A)) (splice_last _ r) _ t rfl nB
    rw [← join_noeq nX]
    refine join_of_plain pX (pos_app hA hB) ?_
    rw [plainR_app, plain_splice (join_pos hA) hr, plain_join hA, plainR_app, ← pB, List.append_assoc, ← plainR_app]
    rfl
/-- a run of d letters, none at 0 -/
def tlR (z : Str) (d : Int) : List Run := if d = 0 then [] else [(z, d)]
theorem tlR_pos {z : Str} {d : Int} (h : 0 ≤ d) : ∀ r ∈ tlR z d, 0 < r.2 := fun r hr => by
  unfold tlR at hr
  by_cases e : d = 0
  · rw [if_pos e] at hr; cases hr
  · rw [if_neg e, List.mem_singleton] at hr
    subst hr
    show 0 < d
    omega
theorem tlR_plain {z : Str} {d : Int} : plainR (tlR z d) = List.replicate d.toNat z := by
  unfold tlR
  by_cases e : d = 0
  · rw [if_pos e, e]; rfl
  · rw [if_neg e, plain_one]
theorem tl_more {A : List Run} (hA : ∀ r ∈ A, 0 < r.2) {z : Str} {d m : Int} (h0 : 0 ≤ d) (h1 : 0 < m) : joinR (A ++ tlR z d ++ [(z, m)]) = joinR (A ++ tlR z (d + m)) := by
  have one : ∀ r ∈ ([(z, m)] : List Run), 0 < r.2 := fun r hr => by rw [List.mem_singleton] at hr; subst hr; exact h1
  refine join_of_plain (pos_app (pos_app hA (tlR_pos h0)) one) (pos_app hA (tlR_pos (by omega))) ?_
  rw [plainR_app, plainR_app, plainR_app, tlR_plain, tlR_plain, plain_one, List.append_assoc]
  show _ ++ (List.replicate d.toNat z ++ List.replicate m.toNat z) = _
  rw [List.replicate_append_replicate, Int.toNat_add h0 (Int.le_of_lt h1)]
theorem join_one {z : Str} {m : Int} : joinR [(z, m)] = [(z, m)] := rfl
end Ask

namespace Ask
open PySem L2
theorem rep_flat (v : V) : ∀ n : Nat, (List.replicate n [v]).flatten = List.replicate n v
  | 0 => rfl
  | n + 1 => by rw [List.replicate_succ, List.flatten_cons, rep_flat v n, List.replicate_succ]; rfl
theorem PairsV.rep {H : Hp} {b : Addr} {r : Run} (h : H b = some (.tup [.str r.1, .int r.2])) (n : Nat) : PairsV H (List.replicate n (.ref b)) (List.replicate n r) := by
  refine ⟨by rw [List.length_replicate, List.length_replicate], fun i v s h1 h2 => ?_⟩
  have e1 := List.eq_of_mem_replicate (List.mem_of_getElem? h1)
  have e2 := List.eq_of_mem_replicate (List.mem_of_getElem? h2)
  subst e1 e2
  exact ⟨b, rfl, h⟩
section
variable {P : Program} {w : World} {K : PySem.W.Frag} {mg : Str → Option Value} {base : Heap}
/-! ### a word -/
def spLWord (K : PySem.W.Frag) : Sp := fun vs H Q _ => ∃ (p c q : Addr) (ns : List Int) (B : Nat) (ys : List Str) (m : Int), vs = [.ref p, .ref q, .int m] ∧ Pen c ns H p B ∧ B ≤ 300000000 ∧ SqL K H q (ys.map V.str) ∧ 0 < ys.length ∧ ys.length ≤ 100 ∧ 0 ≤ m ∧ m ≤ 20 ∧
  ∀ (H' : Hp) (L : Addr) (ws : List Str), Go p c ns H H' (B + 100) → H L = none → H' L = some (.lst (ws.map V.str)) → (ws.length : Int) ≤ m → (∀ z ∈ ws, z ∈ ys) → Q (.ref L) H'
abbrev s__law_word : Stmt := top 45
theorem sc__law_word : FnScope ["_law_pen_here", "_law_letters_here", "_law_highest", "_law_k"] ["_law_pen_here", "_law_letters_here", "_law_highest"] (defScope s__law_word) := ⟨rfl, rfl, rfl, by decide +kernel, rfl, by decide +kernel, by decide +kernel⟩
theorem ok_lawWord {f fD fP : Addr} {fd fdD fdP : FuncData} (F : Fun K "_law_word" "_law_word" s__law_word f fd) (T : Blt mg)
    (GD : FnOk P w K mg base CX0 1 fD fdD ["_law_pen_here", "_law_many"] spDraw) (D : At K mg "_law_draw" fD fdD ["_law_pen_here", "_law_many"])
    (GP : FnOk P w K mg base CX0 2 fP fdP ["_law_pen_here", "_law_options"] (spPick K)) (AP : At K mg "_law_pick" fP fdP ["_law_pen_here", "_law_options"]) :
    FnOk P w K mg base CX0 3 f fd ["_law_pen_here", "_law_letters_here", "_law_highest"] (spLWord K) := by
  refine F.ok sc__law_word (fun vs H Q E h => ?_) (fun cdv A outer s H vs Q E hr h => ?_)
  · obtain ⟨p, c, q, ns, B, ys, m, rfl, _⟩ := h
    rfl
  · obtain ⟨p, c, q, ns, B, ys, m, rfl, hp, hB, hq, l0, l1, m0, m1, k⟩ := h
    have h1 := hr.mono (j := 1) (by decide)
    refine ⟨_, (pss_one (ps_ret (pe_lc (own := [("_law_k", 3)]) rfl sc__law_word.nd (pi_range1 rfl T.n_range (pa_cons (pe_call GD (by exact h1) (by rfl) D.m D.k D.b .nil pass0 (pa_cons (pv 0) (pa_cons (pe_op op_add (pv 2) pe_int) pa_nil))) pa_nil)) (blkOk_by (N := ["_law_pen_here", "_law_letters_here", "_law_highest", "_law_k"]) (sc := defScope s__law_word) (by decide +kernel)) (fun _ _ _ _ _ => (pg_name (i := 3) sc__law_word.nd rfl (Or.inl rfl))) (fun _ _ _ _ _ => pts_nil) (fun _ _ _ _ _ => (pe_call GP (by exact hr) (by rfl) AP.m AP.k AP.b .nil pass0 (pa_cons (pv 0) (pa_cons (pv 1) pa_nil))))))), ?_⟩
    have z1 : (100000 : Nat) ≤ sizeLine := by decide
    refine ⟨_, rfl, _, rfl, _, _, rfl, rfl, p, c, ns, m + 1, B, rfl, hp, by omega, by omega, by omega, fun H1 r g1 r0 r1 => ⟨r, rfl, by omega, by omega, fun L hL => ?_⟩⟩
    have hL0 := g1.free hL
    refine lc_range (lo := 0) (n := r.toNat) (fun j H' => Go p c ns H H' (B + 1 + j) ∧ ∃ ws : List Str, H' L = some (.lst (ws.map V.str)) ∧ ws.length = j ∧ ∀ z ∈ ws, z ∈ ys) ⟨(g1.new hL).mono (by omega), [], upd_same, rfl, fun r hr => by cases hr⟩ (fun j H2 hj hh => ?_) (fun H2 hh => ?_)
    · obtain ⟨g2, ws, e1, e3, e4⟩ := hh
      refine ⟨rfl, _, rfl, _, rfl, p, c, ns, .ref q, _, rfl, g2.pen, by omega, .inl ⟨q, _, rfl, g2.seq hq, by rw [List.length_map]; exact l0, by rw [List.length_map]; omega, fun H3 v g3 hv => ?_⟩⟩
      obtain ⟨z, hz, rfl⟩ := List.mem_map.mp hv
      have e1' := g3.lst e1
      refine ⟨_, e1', by rw [List.length_map]; omega, ((g2.step g3).mut hL0).mono (by omega), ws ++ [z], by rw [upd_same, List.map_append]; rfl, by rw [List.length_append, e3]; rfl, fun r' hr' => ?_⟩
      rcases List.mem_append.mp hr' with hr' | hr'
      · exact e4 r' hr'
      · rw [List.mem_singleton] at hr'
        subst hr'
        exact hz
    · obtain ⟨g2, ws, e1, e3, e4⟩ := hh
      exact k H2 L ws (g2.mono (by omega)) hL0 e1 (by omega) e4
/-! ### pieces -/
def spPieces (K : PySem.W.Frag) : Sp := fun vs H Q _ => ∃ (p c a : Addr) (ns : List Int) (B : Nat) (ys : List Str) (xs : List V) (rs : List Run), vs = [.ref p, .ref a] ∧ Pen c ns H p B ∧ B ≤ 300000000 ∧ SqL K H a xs ∧ PairsV H xs rs ∧ rs.length ≤ 20 ∧ RunOk ys rs ∧
  ∀ (H' : Hp) (L : Addr) (ks : List V) (ps : List Run), Go p c ns H H' (B + 100) → H' L = some (.lst ks) → PairsV H' ks ps → ps.length ≤ 2 * rs.length → RunOk ys ps → plainR ps = plainR rs → Q (.ref L) H'
abbrev s__law_pieces : Stmt := top 55
theorem sc__law_pieces : FnScope ["_law_pen_here", "_law_runs_here", "_law_found", "_law_letter", "_law_count_here", "_law_part"] ["_law_pen_here", "_law_runs_here"] (defScope s__law_pieces) := ⟨rfl, rfl, rfl, by decide +kernel, rfl, by decide +kernel, by decide +kernel⟩
theorem ok_pieces {f fD : Addr} {fd fdD : FuncData} (F : Fun K "_law_pieces" "_law_pieces" s__law_pieces f fd) (T : Blt mg)
    (GD : FnOk P w K mg base CX0 1 fD fdD ["_law_pen_here", "_law_many"] spDraw) (D : At K mg "_law_draw" fD fdD ["_law_pen_here", "_law_many"]) :
    FnOk P w K mg base CX0 2 f fd ["_law_pen_here", "_law_runs_here"] (spPieces K) := by
  refine F.ok sc__law_pieces (fun vs H Q E h => ?_) (fun cdv A outer s H vs Q E hr h => ?_)
  · obtain ⟨p, c, a, ns, B, ys, xs, rs, rfl, _⟩ := h
    rfl
  · obtain ⟨p, c, a, ns, B, ys, xs, rs, rfl, hp, hB, hS, hR, hn, hok, k⟩ := h
    refine ⟨_, (pss_cons (ps_set (i := 2) sc__law_pieces.nd rfl (Or.inl rfl) (pe_lst pa_nil))
      (pss_cons (ps_for PassesOwn.never rfl (pi_list (pv 1)) (pg_tup rfl (pgs_cons (pg_name (i := 3) sc__law_pieces.nd rfl (Or.inl rfl)) (pgs_cons (pg_name (i := 4) sc__law_pieces.nd rfl (Or.inl rfl)) pgs_nil))) (pss_cons (ps_set (i := 5) sc__law_pieces.nd rfl (Or.inl rfl) (pe_call GD (by exact hr) (by rfl) D.m D.k D.b .nil pass0 (pa_cons (pv 0) (pa_cons (pe_callB (call_min2 rfl) (by rfl) T.n_min (by decide +kernel) (pa_cons (pv 4) (pa_cons (pe_op op_pow pe_int pe_int) pa_nil))) pa_nil))))
      (pss_one (ps_set (i := 2) sc__law_pieces.nd rfl (Or.inl rfl) (pe_op op_cat (pe_op op_cat (pv 2) (pe_op op_rep (pe_lst (pa_cons (pe_tup (pa_cons (pv 3) (pa_cons (pv 5) pa_nil))) pa_nil)) (pe_callTy call_int1 (by rfl) T.n_int (by decide +kernel) (pa_cons (pe_cmpR op_gt (pv 5) pe_int (nomark _)) pa_nil)))) (pe_lst (pa_cons (pe_tup (pa_cons (pv 3) (pa_cons (pe_op op_sub (pv 4) (pv 5)) pa_nil))) pa_nil)))))))
      (pss_one (ps_ret (pv 2))))), ?_⟩
    have z1 : (100000 : Nat) ≤ sizeLine := by decide
    have e9 : (10 : Int) ^ Int.toNat 9 = 1000000000 := by decide
    refine ⟨Nat.zero_le _, fun u hu => ?_⟩
    have g1 := (Go.refl hp).new (o := .lst []) hu
    have hu1 : upd H u (.lst []) u = some (.lst []) := upd_same
    generalize upd H u (.lst []) = H1 at g1 hu1 ⊢
    try dsimp only
    refine for_any (fun R r => ⟨_, rfl, a, rfl, ⟨_, g1.seq hS⟩, r⟩) (walk_list (xs := xs)) (fun i σ' H' => ∃ (L : Addr) (ks : List V) (ps : List Run) (o3 o4 o5 : Option V), σ' = [some (.ref p), some (.ref a), some (.ref L), o3, o4, o5] ∧ Go p c ns H H' (B + i) ∧ H' L = some (.lst ks) ∧ PairsV H' ks ps ∧ ps.length ≤ 2 * i ∧ RunOk ys ps ∧ plainR ps = plainR (rs.take i))
      ⟨u, [], [], none, none, none, rfl, g1, hu1, PairsV.nil, Nat.zero_le _, (fun r hr => by cases hr), rfl⟩ (fun i σ' H' _ ⟨_, _, _, _, _, _, _, g, _⟩ => g.seq hS) ?_ ?_
    · rintro i x σ' H3 H4 hi ⟨L, ks, ps, o3, o4, o5, rfl, g3, hL, pk, pl, pok, pp⟩ ⟨rfl, hx⟩
      obtain ⟨r, hri⟩ : ∃ r, rs[i]? = some r := ⟨_, List.getElem?_eq_getElem (by rw [← hR.1]; exact hi)⟩
      have hi2 : i < rs.length := by rw [← hR.1]; exact hi
      obtain ⟨b, rfl, hb⟩ := (hR.go g3).2 i x r hx hri
      obtain ⟨rok1, rok2, rok3⟩ := hok r (List.mem_of_getElem? hri)
      refine ⟨b, _, rfl, SqT.of hb, rfl, _, _, rfl, _, _, rfl, rfl, ?_⟩
      refine ⟨_, rfl, _, rfl, _, _, rfl, rfl, ⟨by decide, by decide, by decide⟩, _, _, rfl, p, c, ns, _, _, rfl, g3.pen, by omega, by rw [e9]; split <;> omega, by rw [e9]; split <;> omega, fun H5 d g5 d0 d1 => ?_⟩
      rw [e9] at d1
      replace d1 : d < r.2 := by
        revert d1
        split <;> omega
      have gg := g3.step g5
      have hL5 := g5.lst hL
      have pk5 := pk.go g5
      have pk1 := pk.1
      -- the first one
      refine ⟨_, rfl, _, rfl, _, rfl, by show 2 ≤ sizeLine; decide, fun t1 ht1 => ?_⟩
      have s1 := Ask.Same.made1 (o := .tup [.str r.1, .int d]) (Same.refl H5) ht1
      have f1 : upd H5 t1 (.tup [.str r.1, .int d]) t1 = some (.tup [.str r.1, .int d]) := upd_same
      replace gg := gg.new (o := .tup [.str r.1, .int d]) ht1
      generalize upd H5 t1 (.tup [.str r.1, .int d]) = H6 at s1 f1 gg ⊢
      refine ⟨by show 1 ≤ sizeLine; decide, fun t2 ht2 => ?_⟩
      replace s1 := Ask.Same.made1 (o := .lst [.ref t1]) s1 ht2
      have f2 : upd H6 t2 (.lst [.ref t1]) t2 = some (.lst [.ref t1]) := upd_same
      replace f1 : upd H6 t2 (.lst [.ref t1]) t1 = some (.tup [.str r.1, .int d]) := by rw [upd_ne (ne_of_none f1 ht2)]; exact f1
      replace gg := gg.new (o := .lst [.ref t1]) ht2
      generalize upd H6 t2 (.lst [.ref t1]) = H7 at s1 f1 f2 gg ⊢
      refine ⟨_, rfl, _, _, rfl, rfl, .inr ⟨_, rfl, ?_⟩⟩
      obtain ⟨n, hn1, hn2, hn3⟩ : ∃ n : Nat, (if decide (d > 0) = true then (1 : Int) else 0) = (n : Int) ∧ n ≤ 1 ∧ (n = 1 ↔ 0 < d) := by
        by_cases q : 0 < d
        · exact ⟨1, by rw [if_pos (decide_eq_true q)]; rfl, Nat.le_refl _, ⟨fun _ => q, fun _ => rfl⟩⟩
        · exact ⟨0, by rw [if_neg (fun z => q (of_decide_eq_true z))]; rfl, Nat.zero_le _, ⟨fun z => (by cases z), fun z => absurd z q⟩⟩
      rw [hn1]
      refine ⟨t2, _, _, rfl, rfl, f2, by omega, by omega, by show 1 * _ ≤ sizeLine; omega, fun t3 ht3 => ?_⟩
      rw [rep_flat, Int.toNat_natCast]
      replace s1 := Ask.Same.made1 (o := .lst (List.replicate n (.ref t1))) s1 ht3
      have f3 : upd H7 t3 (.lst (List.replicate n (.ref t1))) t3 = some (.lst (List.replicate n (.ref t1))) := upd_same
      replace f1 : upd H7 t3 (.lst (List.replicate n (.ref t1))) t1 = some (.tup [.str r.1, .int d]) := by rw [upd_ne (ne_of_none f1 ht3)]; exact f1
      replace gg := gg.new (o := .lst (List.replicate n (.ref t1))) ht3
      generalize upd H7 t3 (.lst (List.replicate n (.ref t1))) = H8 at s1 f1 f3 gg ⊢
      refine ⟨L, t3, _, _, rfl, rfl, s1 _ _ hL5, f3, by rw [List.length_replicate]; omega, fun t4 ht4 => ?_⟩
      replace s1 := Ask.Same.made1 (o := .lst (ks ++ List.replicate n (.ref t1))) s1 ht4
      have f4 : upd H8 t4 (.lst (ks ++ List.replicate n (.ref t1))) t4 = some (.lst (ks ++ List.replicate n (.ref t1))) := upd_same
      replace f1 : upd H8 t4 (.lst (ks ++ List.replicate n (.ref t1))) t1 = some (.tup [.str r.1, .int d]) := by rw [upd_ne (ne_of_none f1 ht4)]; exact f1
      replace gg := gg.new (o := .lst (ks ++ List.replicate n (.ref t1))) ht4
      generalize upd H8 t4 (.lst (ks ++ List.replicate n (.ref t1))) = H9 at s1 f1 f4 gg ⊢
      -- the second one
      refine ⟨_, rfl, _, rfl, _, rfl, _, _, rfl, rfl, by show 2 ≤ sizeLine; decide, fun t5 ht5 => ?_⟩
      replace s1 := Ask.Same.made1 (o := .tup [.str r.1, .int (r.2 - d)]) s1 ht5
      have f5 : upd H9 t5 (.tup [.str r.1, .int (r.2 - d)]) t5 = some (.tup [.str r.1, .int (r.2 - d)]) := upd_same
      replace f1 : upd H9 t5 (.tup [.str r.1, .int (r.2 - d)]) t1 = some (.tup [.str r.1, .int d]) := by rw [upd_ne (ne_of_none f1 ht5)]; exact f1
      replace f4 : upd H9 t5 (.tup [.str r.1, .int (r.2 - d)]) t4 = some (.lst (ks ++ List.replicate n (.ref t1))) := by rw [upd_ne (ne_of_none f4 ht5)]; exact f4
      replace gg := gg.new (o := .tup [.str r.1, .int (r.2 - d)]) ht5
      generalize upd H9 t5 (.tup [.str r.1, .int (r.2 - d)]) = Ha at s1 f1 f4 f5 gg ⊢
      refine ⟨by show 1 ≤ sizeLine; decide, fun t6 ht6 => ?_⟩
      replace s1 := Ask.Same.made1 (o := .lst [.ref t5]) s1 ht6
      have s6 := Ask.Same.made1 (o := .lst [.ref t5]) (Same.refl Ha) ht6
      have f6 : upd Ha t6 (.lst [.ref t5]) t6 = some (.lst [.ref t5]) := upd_same
      replace f1 := s6 _ _ f1
      replace f4 := s6 _ _ f4
      replace f5 := s6 _ _ f5
      replace gg := gg.new (o := .lst [.ref t5]) ht6
      generalize upd Ha t6 (.lst [.ref t5]) = Hb at s1 s6 f1 f4 f5 f6 gg ⊢
      refine ⟨t4, t6, _, _, rfl, rfl, f4, f6, by rw [List.length_append, List.length_replicate]; show _ + 1 ≤ _; omega, fun t7 ht7 => ?_⟩
      replace s1 := Ask.Same.made1 (o := .lst (ks ++ List.replicate n (.ref t1) ++ [.ref t5])) s1 ht7
      have s7 := Ask.Same.made1 (o := .lst (ks ++ List.replicate n (.ref t1) ++ [.ref t5])) (Same.refl Hb) ht7
      have f7 : upd Hb t7 (.lst (ks ++ List.replicate n (.ref t1) ++ [.ref t5])) t7 = some (.lst (ks ++ List.replicate n (.ref t1) ++ [.ref t5])) := upd_same
      replace f1 := s7 _ _ f1
      replace f5 := s7 _ _ f5
      replace gg := gg.new (o := .lst (ks ++ List.replicate n (.ref t1) ++ [.ref t5])) ht7
      generalize upd Hb t7 (.lst (ks ++ List.replicate n (.ref t1) ++ [.ref t5])) = Hc at s1 s7 f1 f5 f7 gg ⊢
      refine ⟨t7, _, ps ++ List.replicate n (r.1, d) ++ [(r.1, r.2 - d)], _, _, _, rfl, gg.mono (by omega), f7, ((pk5.same s1).cat (PairsV.rep (r := (r.1, d)) f1 n)).app (b := t5) (r := (r.1, r.2 - d)) f5, by rw [List.length_append, List.length_append, List.length_replicate]; show _ + 1 ≤ _; omega, fun x hx => ?_, ?_⟩
      · rcases List.mem_append.mp hx with hx | hx
        · rcases List.mem_append.mp hx with hx | hx
          · exact pok x hx
          · have hn0 : n = 1 := by
              rcases Nat.lt_or_ge 0 n with h | h
              · omega
              · have : n = 0 := by omega
                subst this
                cases hx
            rw [List.eq_of_mem_replicate hx]
            exact ⟨rok1, by show 1 ≤ d; have := hn3.mp hn0; omega, by show d ≤ _; omega⟩
        · rw [List.mem_singleton] at hx
          subst hx
          exact ⟨rok1, by show 1 ≤ r.2 - d; omega, by show r.2 - d ≤ _; omega⟩
      · rw [plainR_app, plainR_app, pp, plainR_more hri, List.append_assoc]
        congr 1
        rcases Nat.lt_or_ge 0 n with h | h
        · have hn0 : n = 1 := by omega
          subst hn0
          show plainR [(r.1, d)] ++ plainR [(r.1, r.2 - d)] = _
          rw [plain_one, plain_one]
          show List.replicate d.toNat r.1 ++ List.replicate (r.2 - d).toNat r.1 = _
          rw [List.replicate_append_replicate]
          congr 1
          omega
        · have hn0 : n = 0 := by omega
          subst hn0
          have : d = 0 := by
            have := hn3
            omega
          subst this
          show plainR [] ++ plainR [(r.1, r.2 - 0)] = _
          rw [plain_one, Int.sub_zero]
          rfl
    · rintro σ' H3 ⟨L, ks, ps, o3, o4, o5, rfl, g3, hL, pk, pl, pok, pp⟩
      rw [hR.1, List.take_length] at pp
      rw [hR.1] at pl
      have hxl := hR.1
      exact ⟨_, rfl, k H3 L ks ps (g3.mono (by omega)) hL pk pl pok pp⟩
end
end Ask

namespace Ask
open PySem L2
theorem tl_step {A : List Run} (hA : ∀ r ∈ A, 0 < r.2) {z : Str} {d m : Int} (h0 : 0 ≤ d) (h1 : 0 < m) : spliceR (joinR (A ++ tlR z d)) (joinR [(z, m)]) = joinR (A ++ tlR z (d + m)) := by
  have one : ∀ r ∈ ([(z, m)] : List Run), 0 < r.2 := fun r hr => by rw [List.mem_singleton] at hr; subst hr; exact h1
  rw [splice_join (pos_app hA (tlR_pos h0)) one, tl_more hA h0 h1]
theorem tl_lenR (A : List Run) (z : Str) (d : Int) : (joinR (A ++ tlR z d)).length ≤ A.length + 2 := by
  have h := joinR_len (A ++ tlR z d)
  rw [List.length_append] at h
  have : (tlR z d).length ≤ 1 := by
    unfold tlR
    split
    · exact Nat.zero_le _
    · exact Nat.le_refl _
  omega
theorem tl_all {rs : List Run} {i : Nat} {r : Run} (h : rs[i]? = some r) (p : 0 < r.2) : rs.take i ++ tlR r.1 r.2 = rs.take (i + 1) := by
  unfold tlR
  rw [if_neg (by omega), List.take_add_one, h]
  rfl
section
variable {P : Program} {w : World} {K : PySem.W.Frag} {mg : Str → Option Value} {base : Heap}
def spLHist (K : PySem.W.Frag) (CL CH : Addr) : Sp := fun vs H Q _ => ∃ (a q : Addr) (b : Str) (ys : List Str) (xs : List V) (rs : List Run), vs = [.ref a, .str b, .ref q] ∧ SqL K H a (ys.map V.str) ∧ Lts ys ∧ (b = "new" ∨ b = "found") ∧ SqL K H q xs ∧ PairsV H xs rs ∧ rs.length ≤ 40 ∧
  (∀ r ∈ rs, r.1 ∈ ys ∧ 1 ≤ r.2) ∧ ∀ (H' : Hp) (x : Addr), Same H H' → HistAt K CL CH H' x ys b (joinR rs) → Q (.ref x) H'
abbrev s__law_history : Stmt := top 51
theorem sc__law_history : FnScope ["_law_letters_here", "_law_beginning_here", "_law_runs_here", "_law_found", "_law_letter", "_law_count_here", "_law_left"] ["_law_letters_here", "_law_beginning_here", "_law_runs_here"] (defScope s__law_history) := ⟨rfl, rfl, rfl, by decide +kernel, rfl, by decide +kernel, by decide +kernel⟩
theorem ok_lawHist {f fL fH fA CL CH CB CM aD : Addr} {uD : Value} {fd fdL fdH fdA : FuncData} (F : Fun K "_law_history" "_law_history" s__law_history f fd) (T : Blt mg)
    (ML : Mk K CL fL) (mL : mg "Letters" = some (.ref CL)) (bL : Binds K fdL ["self", "words"] []) (GL : FnOk P w K mg base (L2.CX P w) 4 fL fdL ["self", "words"] (spLet K CL CB CM))
    (MH : Mk K CH fH) (mH : mg "History" = some (.ref CH)) (bH0 : Binds K fdH ["self", "letters", "beginning", "runs"] [uD]) (ru : RelV (.ref aD) uD) (hD0 : ∀ H, SqT K H aD [])
    (GH : FnOk P w K mg base CX0 5 fH fdH ["self", "letters", "beginning", "runs"] (spHist K CL CH))
    (GA : FnOk P w K mg base CX0 7 fA fdA ["self", "other"] (spAdd K CL CH)) (bA : Binds K fdA ["self", "other"] []) (hA : PySem.W.findIn K (.ref CH) "__add__" = some (some (.ref fA))) (iA : PySem.W.isFn K (.ref fA) = true) (sA : PySem.W.selfFirst K CH = true) :
    FnOk P w K mg base CX0 8 f fd ["_law_letters_here", "_law_beginning_here", "_law_runs_here"] (spLHist K CL CH) := by
  refine F.ok sc__law_history (fun vs H Q E h => ?_) (fun cdv A outer s H vs Q E hr h => ?_)
  · obtain ⟨a, q, b, ys, xs, rs, rfl, _⟩ := h
    rfl
  · obtain ⟨a, q, b, ys, xs, rs, rfl, hS, lts, hb, hQ, hR, hn, hok, k⟩ := h
    have h5 := hr.mono (j := 5) (by decide)
    have h6 := hr.mono (j := 6) (by decide)
    refine ⟨_, PSs.nox (pss_cons (ps_set (i := 3) sc__law_history.nd rfl (Or.inl rfl) (pe_make MH GH (by exact h6) (by rfl) mH bH0 (.cons ru .nil) pass0 (pa_cons (pe_make ML GL (by exact h5) (by rfl) mL bL .nil passE (pa_cons (pv 0) pa_nil)) (pa_cons (pv 1) pa_nil))))
      (pss_cons (ps_for PassesOwn.never rfl (pi_list (pv 2)) (pg_tup rfl (pgs_cons (pg_name (i := 4) sc__law_history.nd rfl (Or.inl rfl)) (pgs_cons (pg_name (i := 5) sc__law_history.nd rfl (Or.inl rfl)) pgs_nil)))
          (pss_cons (ps_set (i := 6) sc__law_history.nd rfl (Or.inl rfl) (pv 5))
          (pss_one (ps_while PassesOwn.never (pt_cmpR op_gt (pv 6) pe_int (nomark _))
            (pss_cons (ps_set (i := 3) sc__law_history.nd rfl (Or.inl rfl) (pe_op (op_addI (C := CH) (E := E0) GA (by exact hr) bA pass0 hA iA sA) (pv 3) (pe_lst (pa_cons (pe_tup (pa_cons (pv 4) (pa_cons (pe_callB (call_min2 rfl) (by rfl) T.n_min (by decide +kernel) (pa_cons (pv 6) (pa_cons (pe_op op_pow pe_int pe_int) pa_nil))) pa_nil))) pa_nil))))
            (pss_one (ps_set (i := 6) sc__law_history.nd rfl (Or.inl rfl) (pe_op op_sub (pv 6) (pe_callB (call_min2 rfl) (by rfl) T.n_min (by decide +kernel) (pa_cons (pv 6) (pa_cons (pe_op op_pow pe_int pe_int) pa_nil)))))))))))
      (pss_one (ps_ret (pv 3))))), ?_⟩
    have z1 : (100000 : Nat) ≤ sizeLine := by decide
    have e30 : (10 : Int) ^ Int.toNat 30 = 1000000000000000000000000000000 := by decide
    refine ⟨_, rfl, fun m md hm hmd hne => let_made lts (.inl hS) hm hmd hne fun H1 t s1 hM => ⟨rfl, _, rfl, fun x xd hx hxd hnex => ?_⟩⟩
    refine hist_made (rs := []) hM hb (.inr (hD0 _)) (PairsV.nil).runs (Nat.zero_le _) (fun r hr => by cases hr) (Nat.zero_le _) hx hxd hnex fun H2 s2 hH => ⟨rfl, ?_⟩
    have s12 := s1.trans s2
    try dsimp only
    refine for_any (fun R r => ⟨_, rfl, q, rfl, ⟨_, s12.seq hQ⟩, r⟩) (walk_list (xs := xs)) (fun i σ' H' => ∃ (x : Addr) (o4 o5 o6 : Option V), σ' = [some (.ref a), some (.str b), some (.ref q), some (.ref x), o4, o5, o6] ∧ Same H H' ∧ HistAt K CL CH H' x ys b (joinR (rs.take i)))
      ⟨x, none, none, none, rfl, s12, hH⟩ (fun i σ' H' _ ⟨_, _, _, _, _, s', _⟩ => s'.seq hQ) ?_ ?_
    · rintro i v σ' H3 H4 hi ⟨x, o4, o5, o6, rfl, s3, hx3⟩ ⟨rfl, hv⟩
      obtain ⟨r, hri⟩ : ∃ r, rs[i]? = some r := ⟨_, List.getElem?_eq_getElem (by rw [← hR.1]; exact hi)⟩
      have hi2 : i < rs.length := by rw [← hR.1]; exact hi
      obtain ⟨bb, rfl, hbb⟩ := (hR.same s3).2 i v r hv hri
      obtain ⟨rok1, rok2⟩ := hok r (List.mem_of_getElem? hri)
      have pos : ∀ x ∈ rs.take i, 0 < x.2 := fun x hx => by have := (hok x (List.mem_of_mem_take hx)).2; omega
      refine ⟨bb, _, rfl, SqT.of hbb, rfl, _, _, rfl, _, _, rfl, rfl, ?_⟩
      refine ⟨_, rfl, ?_⟩
      refine ⟨fun m σ' H' => ∃ (d : Int) (x : Addr), 0 ≤ d ∧ d ≤ r.2 ∧ m = (r.2 - d).toNat ∧ σ' = [some (.ref a), some (.str b), some (.ref q), some (.ref x), some (.str r.1), some (.int r.2), some (.int (r.2 - d))] ∧ Same H H' ∧ HistAt K CL CH H' x ys b (joinR (rs.take i ++ tlR r.1 d)), ⟨_, 0, x, Int.le_refl _, by omega, rfl, by rw [Int.sub_zero]; rfl, s3, by show HistAt _ _ _ _ _ _ _ (joinR (rs.take i ++ [])); rw [List.append_nil]; exact hx3⟩, ?_⟩
      rintro m σ' H5 ⟨d, x, d0, d1, rfl, rfl, s5, hx5⟩
      refine ⟨_, rfl, _, _, rfl, rfl, _, rfl, ?_⟩
      show (if decide (r.2 - d > 0) = true then _ else _)
      by_cases ql : r.2 - d > 0
      · rw [if_pos (decide_eq_true ql)]
        refine ⟨_, fun σ' H' h => h, ?_⟩
        obtain ⟨dx, mm, tt, cc, ks, hp5, hM5, hc5, hk5⟩ := id hx5
        refine ⟨_, rfl, _, rfl, _, rfl, _, _, rfl, rfl, ⟨by decide, by decide, by decide⟩, _, _, rfl, by show 2 ≤ sizeLine; decide, fun t1 ht1 => ?_⟩
        obtain ⟨mn, hmn, mn0, mn1, mn2⟩ : ∃ mn : Int, (if (10 : Int) ^ Int.toNat 30 < r.2 - d then (10 : Int) ^ Int.toNat 30 else r.2 - d) = mn ∧ 1 ≤ mn ∧ mn ≤ 1000000000000000000000000000000 ∧ mn ≤ r.2 - d := by
          rw [e30]
          by_cases q1 : (1000000000000000000000000000000 : Int) < r.2 - d
          · exact ⟨_, if_pos q1, by decide, Int.le_refl _, by omega⟩
          · exact ⟨_, if_neg q1, by omega, by omega, Int.le_refl _⟩
        rw [hmn]
        have s6 := Ask.Same.made1 (o := .tup [.str r.1, .int mn]) (Same.refl H5) ht1
        have f1 : upd H5 t1 (.tup [.str r.1, .int mn]) t1 = some (.tup [.str r.1, .int mn]) := upd_same
        generalize upd H5 t1 (.tup [.str r.1, .int mn]) = H6 at s6 f1 ⊢
        refine ⟨by show 1 ≤ sizeLine; decide, fun t2 ht2 => ?_⟩
        replace s6 := Ask.Same.made1 (o := .lst [.ref t1]) s6 ht2
        have f2 : upd H6 t2 (.lst [.ref t1]) t2 = some (.lst [.ref t1]) := upd_same
        replace f1 : upd H6 t2 (.lst [.ref t1]) t1 = some (.tup [.str r.1, .int mn]) := by rw [upd_ne (ne_of_none f1 ht2)]; exact f1
        generalize upd H6 t2 (.lst [.ref t1]) = H7 at s6 f1 f2 ⊢
        have st := tl_step pos (z := r.1) d0 (show 0 < mn by omega)
        refine ⟨x, t2, dx, _, _, rfl, rfl, s6 _ _ hp5, .inl (SqL.of f2), x, t2, ys, b, joinR (rs.take i ++ tlR r.1 d), [(r.1, mn)], [.ref t1], rfl, ⟨dx, mm, tt, cc, ks, s6 _ _ hp5, hM5.same s6, seqT_same s6 hc5, hk5.same s6⟩, hb, ?_, .inl (SqL.of f2), (PairsV.one f1).runs, by show 1 ≤ 1000; decide, fun r' hr' => ?_, ?_, fun H8 y s8 _ hy => ?_⟩
        · have := tl_lenR (rs.take i) r.1 d
          rw [List.length_take] at this
          omega
        · rw [List.mem_singleton] at hr'
          subst hr'
          exact ⟨rok1, mn0, mn1⟩
        · rw [st]
          have := tl_lenR (rs.take i) r.1 (d + mn)
          rw [List.length_take] at this
          omega
        · rw [st] at hy
          refine ⟨⟨_, rfl⟩, _, rfl, _, rfl, _, _, rfl, rfl, ⟨by decide, by decide, by decide⟩, _, _, rfl, _, _, rfl, rfl, ?_⟩
          rw [hmn]
          have ee : r.2 - (d + mn) = r.2 - d - mn := by omega
          refine ⟨(r.2 - (d + mn)).toNat, by omega, d + mn, y, by omega, by omega, rfl, ?_, s5.trans (s6.trans s8), hy⟩
          rw [ee]
          rfl
      · rw [if_neg (fun z => ql (of_decide_eq_true z))]
        have ed : d = r.2 := by omega
        subst ed
        rw [tl_all hri (by omega)] at hx5
        exact ⟨x, _, _, _, rfl, s5, hx5⟩
    · rintro σ' H3 ⟨x, o4, o5, o6, rfl, s3, hx3⟩
      rw [hR.1, List.take_length] at hx3
      exact ⟨_, rfl, k H3 x s3 hx3⟩
end
end Ask

/-! a clause «except X» without a name, among several -/
namespace Ask
open PySem L2 PySem.Spec PyProof.Rows
def wNo (K : PySem.W.Frag) (c : Value) (ts : TS) (W : WX) (D : Ends) : WX := fun cls d σ H =>
  ∃ b, PySem.W.exmOne K cls c = some b ∧ (b = true → ts D σ H) ∧ (b = false → W cls d σ H)
theorem hands_no {X : Cx} {D : Ends} {hds : List ExceptHandler} {W : WX} {x : Str} {c : Value} {suite : List Stmt} {b₀ : Stmt} {np pos' : Pos} {ts : TS}
    (hf : X.env.frame = some X.env.locals) (hc : Names X x c)
    (su : ∀ (a : Addr) (oe : Obj) (pn : List (Addr × Obj)), PSs (X.suite a ((a, oe) :: pn)) (b₀ :: suite) ts)
    (rest : Hands X D hds W) : Hands X D (.ExceptHandler (some (.Name x np)) none (b₀ :: suite) pos' :: hds) (wNo X.K c ts W D) := by
  intro pins σ H sI s B a cls d w q
  obtain ⟨b, hb, yes, no⟩ := q
  have J := w.now
  have ok := J.ok
  obtain ⟨oe, vs, he, hz, hd, nL, nF⟩ := w.apart hf
  have S := J.suite he hd w.na nL nF
  refine wpAny_handleBy_cons (codeAny_handlers_test ?_) (by intro z; cases z)
  have ty : PySem.W.Looks (model X.prog X.w) s.heap (typeOf (.ref a)) cls := fun A Q E s' k z => wpAny_typeOf_ref (k _ _ he) (by rw [hz.1]; exact z)
  have isIt := PySem.W.exm_one (M := model X.prog X.w) J.kIn ty hb
  have named : ∀ {Q : Value → Shared → Prop} {E : Value → Shared → Prop}, Q c s → wpAny (model X.prog X.w) (X.A.mark (some (.ref a))) (eval (.Name x np) X.env) Q E s := fun {Q E} z => by
    obtain ⟨g, dbg, m | ⟨m, bt, nn⟩⟩ := hc
    · exact ld_glob (X := X.suite a ((a, oe) :: (X.pn ++ pins))) S g m z dbg
    · exact ld_blt (X := X.suite a ((a, oe) :: (X.pn ++ pins))) S g m bt z nn dbg
  refine named (isIt.here ?_)
  cases b with
  | false => exact rest pins σ H sI s B a cls d w (no rfl)
  | true =>
    refine codeAny_handlers_suite (HandSPX.lands_againZ w.fl fun h4 fl4 up4 => ?_)
    have w4 : Down X pins σ H sI B a cls d { s with heap := h4 } := ⟨fl4, w.inv, w.nb, w.up.trans up4, w.os, w.ag, w.na⟩
    obtain ⟨oe4, vs4, he4, hz4, hd4, nL4, nF4⟩ := w4.apart hf
    have S4 := w4.now.suite he4 hd4 w.na nL4 nF4
    refine wpAny_mono ((su a oe4 (X.pn ++ pins)).run [] _ σ H _ S4 (yes rfl)) (fun f s6 got => ?_) (fun _ _ z => False.elim z)
    cases f with
    | ret u => obtain ⟨v, σ6, H6, S6, r, z⟩ := got; exact ⟨v, σ6, H6, S6.unsuite ok, r, z⟩
    | next => obtain ⟨σ6, H6, S6, z⟩ := got; exact ⟨σ6, H6, S6.unsuite ok, z⟩
    | brk => obtain ⟨σ6, H6, S6, z⟩ := got; exact ⟨σ6, H6, S6.unsuite ok, z⟩
    | cont => obtain ⟨σ6, H6, S6, z⟩ := got; exact ⟨σ6, H6, S6.unsuite ok, z⟩
end Ask

namespace Ask
open PySem L2 ClX
def kwS : Wr → Str
  | .runs => "runs"
  | .letter => "letter"
  | .count => "count"
def tsIxN (lab : Str) (C : Addr) (n : Nat) : Addr → Value → Option Addr → TS := fun a cls d => tRet (tTup (tCons (tC (.str lab)) (tCons (tXf a cls d C "index" (tVar n)) tNil)))
def tsManyN (CM : Addr) (n : Nat) : Addr → Value → Option Addr → TS := fun a cls d => tRet (tTup (tCons (tC (.str "many")) (tCons (tXf a cls d CM "what" (tVar n)) (tCons (tXf a cls d CM "many" (tVar n)) (tCons (tXf a cls d CM "most" (tVar n)) tNil)))))
def wAdded (K : PySem.W.Frag) (CR CT CC CM : Addr) (D : Ends) : WX := wAs K (.ref CR) 2 (tsIxN "runs" CR 2) (wAs K (.ref CT) 2 (tsIxN "letter" CT 2) (wAs K (.ref CC) 2 (tsIxN "count" CC 2) (wAs K (.ref CM) 2 (tsManyN CM 2) (fun _ _ _ _ => False) D) D) D) D
def tsBegS : TS := tRet (tC (.str "beginning"))
def wSpelled (K : PySem.W.Frag) (CB CT CM : Addr) (D : Ends) : WX := wNo K (.ref CB) tsBegS (wAs K (.ref CT) 3 (tsIxN "letter" CT 3) (wAs K (.ref CM) 3 (tsManyN CM 3) (fun _ _ _ _ => False) D) D) D
/-- what the clauses ask of the classes -/
structure Ex6 (K : PySem.W.Frag) (CB CR CT CC CM : Addr) : Prop where
  bb : PySem.W.exmOne K (.ref CB) (.ref CB) = some true
  tb : PySem.W.exmOne K (.ref CT) (.ref CB) = some false
  mb : PySem.W.exmOne K (.ref CM) (.ref CB) = some false
  rr : PySem.W.exmOne K (.ref CR) (.ref CR) = some true
  tr : PySem.W.exmOne K (.ref CT) (.ref CR) = some false
  tt : PySem.W.exmOne K (.ref CT) (.ref CT) = some true
  cr : PySem.W.exmOne K (.ref CC) (.ref CR) = some false
  ct : PySem.W.exmOne K (.ref CC) (.ref CT) = some false
  cc : PySem.W.exmOne K (.ref CC) (.ref CC) = some true
  mr : PySem.W.exmOne K (.ref CM) (.ref CR) = some false
  mt : PySem.W.exmOne K (.ref CM) (.ref CT) = some false
  mc : PySem.W.exmOne K (.ref CM) (.ref CC) = some false
  mm : PySem.W.exmOne K (.ref CM) (.ref CM) = some true
  r1 : PySem.W.findIn K (.ref CR) "index" = some none
  t1 : PySem.W.findIn K (.ref CT) "index" = some none
  c1 : PySem.W.findIn K (.ref CC) "index" = some none
  m1 : PySem.W.findIn K (.ref CM) "what" = some none
  m2 : PySem.W.findIn K (.ref CM) "many" = some none
  m3 : PySem.W.findIn K (.ref CM) "most" = some none
section
variable {P : Program} {w : World} {K : PySem.W.Frag} {mg : Str → Option Value} {base : Heap}
def spAdded (K : PySem.W.Frag) (CL CH : Addr) : Sp := fun vs H Q _ => ∃ (p a : Addr) (ys : List Str) (b : Str) (hs : List Run) (xs : List V) (ss : List Stt), vs = [.ref p, .ref a] ∧ HistAt K CL CH H p ys b hs ∧ (b = "new" ∨ b = "found") ∧ hs.length ≤ 1000 ∧ (SqL K H a xs ∨ SqT K H a xs) ∧ StsV K H ys xs ss ∧ ss.length ≤ 1000 ∧
  (∀ (i : Nat) (k : Wr), fbad ss = some (i, k) → ∀ (H' : Hp) (q : Addr), Same H H' → H' q = some (.tup [.str (kwS k), .int (i : Nat)]) → Q (.ref q) H') ∧
  (fbad ss = none → 400 < (spliceR hs (joinR (oks ss))).length → ∀ (H' : Hp) (q : Addr), Same H H' → H' q = some (.tup [.str "many", .str "runs", .int ((spliceR hs (joinR (oks ss))).length : Nat), .int 400]) → Q (.ref q) H') ∧
  (fbad ss = none → (spliceR hs (joinR (oks ss))).length ≤ 400 → ∀ (H' : Hp) (r : Addr), Same H H' → HistAt K CL CH H' r ys b (spliceR hs (joinR (oks ss))) → Q (.ref r) H')
abbrev s__law_added : Stmt := top 53
theorem sc__law_added : FnScope ["_law_made", "_law_runs_here", "e"] ["_law_made", "_law_runs_here"] (defScope s__law_added) := ⟨rfl, rfl, rfl, by decide +kernel, rfl, by decide +kernel, by decide +kernel⟩
theorem ok_added {f fA CL CH CB CR CT CC CM fR fT fC fM : Addr} {fd fdA fdR fdT fdC fdM : FuncData} {psR psT psC psM : List Str} (F : Fun K "_law_added" "_law_added" s__law_added f fd)
    (GA : FnOk P w K mg base (L2.CX P w) 7 fA fdA ["self", "other"] (spAddE K CL CH CR CT CC CM)) (bA : Binds K fdA ["self", "other"] []) (hA : PySem.W.findIn K (.ref CH) "__add__" = some (some (.ref fA))) (iA : PySem.W.isFn K (.ref fA) = true) (sA : PySem.W.selfFirst K CH = true)
    (ER : ErrAt K mg "BadRuns" CR fR fdR psR) (ET : ErrAt K mg "BadLetter" CT fT fdT psT) (EC : ErrAt K mg "BadCount" CC fC fdC psC) (EM : ErrAt K mg "TooMany" CM fM fdM psM) (X : Ex6 K CB CR CT CC CM) :
    FnOk P w K mg base CX0 8 f fd ["_law_made", "_law_runs_here"] (spAdded K CL CH) := by
  refine F.ok sc__law_added (fun vs H Q E h => ?_) (fun cdv A outer s H vs Q E hr h => ?_)
  · obtain ⟨p, a, ys, b, hs, xs, ss, rfl, _⟩ := h
    rfl
  · obtain ⟨p, a, ys, b, hs, xs, ss, rfl, hH, hb, lh, hS, hR, hn, kE, kM, k⟩ := h
    refine ⟨_, (pss_one (ps_try_hands (tb := fun W => tRet (tAddE K CH (spAddE K CL CH CR CT CC CM) (WE W) (tVar 0) (tVar 1))) (Wf := wAdded K CR CT CC CM) rfl rfl
        (fun W pn xe tk _ => pss_one (ps_ret (by exact (pe_addE (pv 0) (pv 1) GA hr bA (fun σ => passAt tk σ) hA iA sA))))
        (fun D => hands_as (ts := tsIxN "runs" CR 2) rfl sc__law_added.nd rfl rfl ⟨rfl, by decide, Or.inl ER.m⟩
            (fun a oe cls d pn hz hf => pss_one (ps_ret (by exact (pe_tup (pa_cons pe_str (pa_cons (pe_xf ER.xf X.r1 hz hf (pv 2)) pa_nil))))))
          (hands_as (ts := tsIxN "letter" CT 2) rfl sc__law_added.nd rfl rfl ⟨rfl, by decide, Or.inl ET.m⟩
            (fun a oe cls d pn hz hf => pss_one (ps_ret (by exact (pe_tup (pa_cons pe_str (pa_cons (pe_xf ET.xf X.t1 hz hf (pv 2)) pa_nil))))))
          (hands_as (ts := tsIxN "count" CC 2) rfl sc__law_added.nd rfl rfl ⟨rfl, by decide, Or.inl EC.m⟩
            (fun a oe cls d pn hz hf => pss_one (ps_ret (by exact (pe_tup (pa_cons pe_str (pa_cons (pe_xf EC.xf X.c1 hz hf (pv 2)) pa_nil))))))
          (hands_as (ts := tsManyN CM 2) rfl sc__law_added.nd rfl rfl ⟨rfl, by decide, Or.inl EM.m⟩
            (fun a oe cls d pn hz hf => pss_one (ps_ret (by exact (pe_tup (pa_cons pe_str (pa_cons (pe_xf EM.xf X.m1 hz hf (pv 2)) (pa_cons (pe_xf EM.xf X.m2 hz hf (pv 2)) (pa_cons (pe_xf EM.xf X.m3 hz hf (pv 2)) pa_nil))))))))
            (hands_nil rfl rfl takes0))))))), ?_⟩
    obtain ⟨dx, m, t, c, ks, hp, _⟩ := id hH
    refine ⟨_, rfl, _, rfl, p, a, dx, _, xs, rfl, rfl, hp, hS, p, a, ys, b, hs, xs, ss, rfl, hH, hb, lh, hS, hR, hn, fun i kw hf H' d s' e => ?_, fun hf hl H' d s' e => ?_, fun hf hl H' r s' _ hr' => ⟨⟨_, rfl⟩, k hf hl H' r s' hr'⟩⟩
    · have kk := kE i kw hf
      cases kw with
      | runs =>
        refine ⟨true, X.rr, fun _ a0 _ => ?_, fun q => Bool.noConfusion q⟩
        exact ⟨_, rfl, rfl, rfl, d, _, _, rfl, e, rfl, by show 2 ≤ sizeLine; decide, fun q hq => kk _ _ (Ask.Same.made1 s' hq) upd_same⟩
      | letter =>
        refine ⟨false, X.tr, (fun q => Bool.noConfusion q), fun _ => ⟨true, X.tt, fun _ a0 _ => ?_, fun q => Bool.noConfusion q⟩⟩
        exact ⟨_, rfl, rfl, rfl, d, _, _, rfl, e, rfl, by show 2 ≤ sizeLine; decide, fun q hq => kk _ _ (Ask.Same.made1 s' hq) upd_same⟩
      | count =>
        refine ⟨false, X.cr, (fun q => Bool.noConfusion q), fun _ => ⟨false, X.ct, (fun q => Bool.noConfusion q), fun _ => ⟨true, X.cc, fun _ a0 _ => ?_, fun q => Bool.noConfusion q⟩⟩⟩
        exact ⟨_, rfl, rfl, rfl, d, _, _, rfl, e, rfl, by show 2 ≤ sizeLine; decide, fun q hq => kk _ _ (Ask.Same.made1 s' hq) upd_same⟩
    · refine ⟨false, X.mr, (fun q => Bool.noConfusion q), fun _ => ⟨false, X.mt, (fun q => Bool.noConfusion q), fun _ => ⟨false, X.mc, (fun q => Bool.noConfusion q), fun _ => ⟨true, X.mm, fun _ a0 _ => ?_, fun q => Bool.noConfusion q⟩⟩⟩⟩
      refine ⟨_, rfl, rfl, rfl, d, _, _, rfl, e, rfl, ?_⟩
      refine ⟨_, rfl, rfl, rfl, d, _, _, rfl, e, rfl, ?_⟩
      refine ⟨_, rfl, rfl, rfl, d, _, _, rfl, e, rfl, by show 4 ≤ sizeLine; decide, fun q hq => ?_⟩
      exact kM hf hl _ _ (Ask.Same.made1 s' hq) upd_same
def spLSpelled (K : PySem.W.Frag) (CL CH : Addr) : Sp := fun vs H Q _ => ∃ (a q : Addr) (bv : V) (bb : Bool) (ys : List Str) (xs : List V) (ss : List Stt), vs = [.ref a, bv, .ref q] ∧ SqL K H a (ys.map V.str) ∧ Lts ys ∧ InW H bv ["new", "found"] bb ∧ (bb = true → ∃ b : Str, bv = .str b ∧ (b = "new" ∨ b = "found")) ∧
  (SqL K H q xs ∨ SqT K H q xs) ∧ WdsV H ys xs ss ∧ ss.length ≤ 1000 ∧
  (bb = false → ∀ H', Same H H' → Q (.str "beginning") H') ∧
  (∀ (i : Nat), bb = true → fbad ss = some (i, .letter) → ∀ (H' : Hp) (q : Addr), Same H H' → H' q = some (.tup [.str "letter", .int (i : Nat)]) → Q (.ref q) H') ∧
  (bb = true → fbad ss = none → 400 < (joinR (oks ss)).length → ∀ (H' : Hp) (q : Addr), Same H H' → H' q = some (.tup [.str "many", .str "runs", .int ((joinR (oks ss)).length : Nat), .int 400]) → Q (.ref q) H') ∧
  (bb = true → fbad ss = none → (joinR (oks ss)).length ≤ 400 → ∀ (H' : Hp) (r : Addr) (b : Str), Same H H' → bv = .str b → HistAt K CL CH H' r ys b (joinR (oks ss)) → Q (.ref r) H')
abbrev s__law_spelled : Stmt := top 54
theorem sc__law_spelled : FnScope ["_law_letters_here", "_law_beginning_here", "_law_word_here", "e"] ["_law_letters_here", "_law_beginning_here", "_law_word_here"] (defScope s__law_spelled) := ⟨rfl, rfl, rfl, by decide +kernel, rfl, by decide +kernel, by decide +kernel⟩
theorem ok_lawSpelled {f fL fP pP CL CH CE CB CR CT CC CM fT fM : Addr} {mc : Value} {fd fdL fdP fdT fdM : FuncData} {psT psM : List Str} (F : Fun K "_law_spelled" "_law_spelled" s__law_spelled f fd)
    (ML : Mk K CL fL) (mL : mg "Letters" = some (.ref CL)) (bL : Binds K fdL ["self", "words"] []) (GL : FnOk P w K mg base (L2.CX P w) 4 fL fdL ["self", "words"] (spLet K CL CE CM))
    (GP : FnOk P w K mg base (L2.CX P w) 9 fP fdP ["cls", "letters", "beginning", "word"] (spSpelledE K CL CH CB CT CM)) (bP : Binds K fdP ["cls", "letters", "beginning", "word"] []) (rP : CRead K CH mc) (cP : CMet K CH mc "spelled" pP fP) (mH : mg "History" = some (.ref CH))
    (EB : Err0 K mg "BadBeginning" CB) (ET : ErrAt K mg "BadLetter" CT fT fdT psT) (EM : ErrAt K mg "TooMany" CM fM fdM psM) (X : Ex6 K CB CR CT CC CM) :
    FnOk P w K mg base CX0 10 f fd ["_law_letters_here", "_law_beginning_here", "_law_word_here"] (spLSpelled K CL CH) := by
  refine F.ok sc__law_spelled (fun vs H Q E h => ?_) (fun cdv A outer s H vs Q E hr h => ?_)
  · obtain ⟨a, q, bv, bb, ys, xs, ss, rfl, _⟩ := h
    rfl
  · obtain ⟨a, q, bv, bb, ys, xs, ss, rfl, hA, lts, hb, hbt, hS, hW, hn, kB, kE, kM, k⟩ := h
    have hr5 := hr.mono (j := 5) (by decide)
    refine ⟨_, (pss_one (ps_try_hands (tb := fun W => tRet (tCMethE CH (fun vs H Q E => spSpelledE K CL CH CB CT CM (vs ++ []) H Q E) (WE W) (tC (.ref CH)) (tCons (tMakeS CL (spLet K CL CE CM) (WE W) (tCons (tVar 0) tNil)) (tCons (tVar 1) (tCons (tVar 2) tNil))))) (Wf := wSpelled K CB CT CM) rfl rfl
        (fun W pn xe tk _ => pss_one (ps_ret (by exact (pe_cmethE (pe_gv (v := .ref CH) rfl ⟨_, mH, rfl⟩) rP cP (FnOk.raw GP bP .nil) hr (fun σ => passAt tk σ) (by exact (pa_cons (pe_makeS ML GL hr5 (by rfl) mL bL (fun σ => passAt tk σ) (by exact (pa_cons (pv 0) pa_nil))) (pa_cons (pv 1) (pa_cons (pv 2) pa_nil))))))))
        (fun D => hands_no (ts := tsBegS) rfl ⟨rfl, by decide, Or.inl EB.m⟩ (fun a oe pn => pss_one (ps_ret (by exact pe_str)))
          (hands_as (ts := tsIxN "letter" CT 3) rfl sc__law_spelled.nd rfl rfl ⟨rfl, by decide, Or.inl ET.m⟩
            (fun a oe cls d pn hz hf => pss_one (ps_ret (by exact (pe_tup (pa_cons pe_str (pa_cons (pe_xf ET.xf X.t1 hz hf (pv 3)) pa_nil))))))
          (hands_as (ts := tsManyN CM 3) rfl sc__law_spelled.nd rfl rfl ⟨rfl, by decide, Or.inl EM.m⟩
            (fun a oe cls d pn hz hf => pss_one (ps_ret (by exact (pe_tup (pa_cons pe_str (pa_cons (pe_xf EM.xf X.m1 hz hf (pv 3)) (pa_cons (pe_xf EM.xf X.m2 hz hf (pv 3)) (pa_cons (pe_xf EM.xf X.m3 hz hf (pv 3)) pa_nil))))))))
            (hands_nil rfl rfl takes0)))))), ?_⟩
    refine ⟨rfl, _, rfl, fun m md hm hmd hne => let_made lts (.inl hA) hm hmd hne fun H1 t s1 hM => ⟨rfl, _, rfl, _, rfl, ?_⟩⟩
    have hS1 : SqL K H1 q xs ∨ SqT K H1 q xs := seqA_same hS s1
    refine ⟨m, t, q, bv, bb, ys, xs, ss, rfl, hM, hb.same s1, hbt, hS1, hW.same s1, hn, fun hbb H' s' => ?_, fun i hbb hf H' d s' e => ?_, fun hbb hf hl H' d s' e => ?_, fun hbb hf hl H' r b s' eb hr' => k hbb hf hl H' r b (s1.trans s') eb hr'⟩
    · exact ⟨true, X.bb, fun _ => kB hbb _ (s1.trans s'), fun q => Bool.noConfusion q⟩
    · refine ⟨false, X.tb, (fun q => Bool.noConfusion q), fun _ => ⟨true, X.tt, fun _ a0 _ => ?_, fun q => Bool.noConfusion q⟩⟩
      exact ⟨_, rfl, rfl, rfl, d, _, _, rfl, e, rfl, by show 2 ≤ sizeLine; decide, fun q hq => kE i hbb hf _ _ (Ask.Same.made1 (s1.trans s') hq) upd_same⟩
    · refine ⟨false, X.mb, (fun q => Bool.noConfusion q), fun _ => ⟨false, X.mt, (fun q => Bool.noConfusion q), fun _ => ⟨true, X.mm, fun _ a0 _ => ?_, fun q => Bool.noConfusion q⟩⟩⟩
      refine ⟨_, rfl, rfl, rfl, d, _, _, rfl, e, rfl, ?_⟩
      refine ⟨_, rfl, rfl, rfl, d, _, _, rfl, e, rfl, ?_⟩
      refine ⟨_, rfl, rfl, rfl, d, _, _, rfl, e, rfl, by show 4 ≤ sizeLine; decide, fun q hq => ?_⟩
      exact kM hbb hf hl _ _ (Ask.Same.made1 (s1.trans s') hq) upd_same
end
end Ask

namespace Ask
open PySem L2
theorem lay_kw (k : Wr) (i : Int) : PyData.canLay0 (.tuple [.str (kwS k), .int i]) = true := by
  cases k
  · exact (show (PyData.strOk "runs" && (true && true)) = true by decide +kernel)
  · exact (show (PyData.strOk "letter" && (true && true)) = true by decide +kernel)
  · exact (show (PyData.strOk "count" && (true && true)) = true by decide +kernel)
theorem shape_of {D : PyData} (k : PyData.canLay0 D = true) (d : D.depth ≤ 64) : SeqAt.shaped D = true := by
  unfold SeqAt.shaped
  simp [k, d]
theorem sh_kw (k : Wr) (i : Int) : SeqAt.shaped (.tuple [.str (kwS k), .int i]) = true := shape_of (lay_kw k i) (show max 0 (max 0 0) + 1 ≤ 64 by decide)
theorem lay_many (n : Int) : PyData.canLay0 (.tuple [.str "many", .str "runs", .int n, .int 400]) = true := (show (PyData.strOk "many" && (PyData.strOk "runs" && (true && (true && true)))) = true by decide +kernel)
theorem sh_many (n : Int) : SeqAt.shaped (.tuple [.str "many", .str "runs", .int n, .int 400]) = true := shape_of (lay_many n) (show max 0 (max 0 (max 0 (max 0 0))) + 1 ≤ 64 by decide)
/-- the statuses of a word of letters -/
def okW (ws : List Str) : List Stt := ws.map fun z => Stt.ok (z, 1)
theorem okW_bad : ∀ ws : List Str, fbad (okW ws) = none
  | [] => rfl
  | z :: ws => by
    show (fbad (okW ws)).map _ = none
    rw [okW_bad ws]
    rfl
theorem okW_oks : ∀ ws : List Str, oks (okW ws) = onesR ws
  | [] => rfl
  | z :: ws => by
    show (z, 1) :: oks (okW ws) = (z, 1) :: onesR ws
    rw [okW_oks ws]
theorem okW_len (ws : List Str) : (okW ws).length = ws.length := List.length_map ..
theorem okW_at (ws : List Str) (k : Wr) (ss : List Stt) : fbad (okW ws ++ .no k :: ss) = some (ws.length, k) := by
  induction ws with
  | nil => rfl
  | cons z ws ih =>
    show (fbad (okW ws ++ .no k :: ss)).map _ = _
    rw [ih]
    rfl
theorem WdsV.of {H : Hp} {ys ws : List Str} (h : ∀ z ∈ ws, z ∈ ys) : WdsV H ys (ws.map V.str) (okW ws) := by
  refine ⟨by rw [List.length_map, okW_len], fun i v t h1 h2 => ?_⟩
  unfold okW at h2
  rw [List.getElem?_map] at h1 h2
  cases e : ws[i]? with
  | none => rw [e] at h1; cases h1
  | some z =>
    rw [e] at h1 h2
    cases h1
    cases h2
    exact ⟨rfl, rfl, h z (List.mem_of_getElem? e)⟩
theorem WdsV.app {H : Hp} {ys : List Str} {xs zs : List V} {ss ts : List Stt} (h : WdsV H ys xs ss) (k : WdsV H ys zs ts) : WdsV H ys (xs ++ zs) (ss ++ ts) := by
  refine ⟨by rw [List.length_append, List.length_append, h.1, k.1], fun i v t h1 h2 => ?_⟩
  rcases Nat.lt_or_ge i xs.length with hi | hi
  · rw [List.getElem?_append_left hi] at h1
    rw [List.getElem?_append_left (by rw [← h.1]; exact hi)] at h2
    exact h.2 i v t h1 h2
  · rw [List.getElem?_append_right hi] at h1
    rw [List.getElem?_append_right (by rw [← h.1]; exact hi), ← h.1] at h2
    exact k.2 _ v t h1 h2
theorem WdsV.odd {H : Hp} {ys : List Str} {v : V} (h : InW H v ys false) : WdsV H ys [v] [.no .letter] := by
  refine ⟨rfl, fun i w t h1 h2 => ?_⟩
  cases i with
  | zero => cases h1; cases h2; exact ⟨rfl, h⟩
  | succ i => cases h1
theorem same3 {ys : List Str} {b : Str} {rs : List Run} : (decide (ys = ys) && (decide (b = b) && decide (rs = rs))) = true := by simp
theorem join_of {ys : List Str} {rs : List Run} (h : ∀ r ∈ rs, r.1 ∈ ys) : OfL ys (joinR rs) := fun r hr => by
  obtain ⟨y, hy, e⟩ := mem_join hr
  rw [← e]
  exact h y hy
theorem beg_in {H : Hp} {b : Str} (hb : b = "new" ∨ b = "found") : InW H (.str b) ["new", "found"] true :=
  .inl ⟨rfl, (in_mem (by rcases hb with rfl | rfl <;> simp)).symm⟩
theorem seqT_go {K : PySem.W.Frag} {p c : Addr} {ns : List Int} {H H' : Hp} {B : Nat} {a : Addr} {xs : List V} (h : SqT K H a xs) (g : Go p c ns H H' B) : SqT K H' a xs := by
  rcases h with (h | ⟨o, h⟩) | h
  · exact .inl (.inl (g.at h (by intro _ z; cases z)))
  · exact .inl (.inr ⟨o, g.at h (by intro _ z; cases z)⟩)
  · exact .inr h
theorem HistAt.go {K : PySem.W.Frag} {CL CH : Addr} {p c : Addr} {ns : List Int} {H H' : Hp} {B : Nat} {x : Addr} {ys : List Str} {b : Str} {rs : List Run} (h : HistAt K CL CH H x ys b rs) (g : Go p c ns H H' B) : HistAt K CL CH H' x ys b rs := by
  obtain ⟨dx, m, t, c', ks, h1, h2, h3, h4⟩ := h
  exact ⟨dx, m, t, c', ks, g.at h1 (by intro _ z; cases z), h2.go g, seqT_go h3 g, h4.go g⟩
section
variable {P : Program} {w : World} {K : PySem.W.Frag} {mg : Str → Option Value} {base : Heap}
theorem heq_same {CL CH x y : Addr} {H : Hp} {ys : List Str} {b : Str} {rs ss : List Run} {Q : VK} {E : XK} (h1 : HistAt K CL CH H x ys b rs) (h2 : HistAt K CL CH H y ys b ss) (e : rs = ss) (lts : Lts ys) (o : OfL ys rs) (q : Q (.bl true) H) :
    spHEq K CL CH [.ref x, .ref y] H Q E := by
  subst e
  refine ⟨x, y, ys, ys, b, b, rs, rs, rfl, h1, h2, lts.plain, lts.plain, o, o, ?_⟩
  rw [same3]
  exact q
theorem HistAt.ins {CL CH x : Addr} {H : Hp} {ys : List Str} {b : Str} {rs : List Run} (h : HistAt K CL CH H x ys b rs) : ∃ (dx : Addr) (fs : List (Str × V)), H x = some (.ins CH dx fs) := by
  obtain ⟨dx, m, mt, c, cs, p, _⟩ := h
  exact ⟨dx, _, p⟩
def spSR (K : PySem.W.Frag) : Sp := fun vs H Q _ => ∃ (p c a : Addr) (ns : List Int) (B : Nat) (ys : List Str) (b : Str), vs = [.ref p, .ref a, .str b] ∧ Pen c ns H p B ∧ B ≤ 200000000 ∧ SqL K H a (ys.map V.str) ∧ Lts ys ∧ (b = "new" ∨ b = "found") ∧
  ∀ (H' : Hp), Go p c ns H H' (B + 300) → Q (.bl true) H'
abbrev s__law_sr : Stmt := top 57
def nSr : List Str := ["_law_pen_here", "_law_letters_here", "_law_beginning_here", "_law_word_here", "_law_odd_here", "_law_told", "_law_plain", "_law_at", "_law_letter"]
theorem sc_sr : FnScope nSr ["_law_pen_here", "_law_letters_here", "_law_beginning_here"] (defScope s__law_sr) := ⟨rfl, rfl, rfl, by decide +kernel, rfl, by decide +kernel, by decide +kernel⟩
theorem ok_sr {f fD fP fW fO fS fL fH fE fG CL CH CB CM CT : Addr} {fd fdD fdP fdW fdO fdS fdL fdH fdE fdG : FuncData} (F : Fun K "_law_spelled_right" "_law_spelled_right" s__law_sr f fd) (T : Blt mg) (hC : HsC K CH)
    (GD : FnOk P w K mg base CX0 1 fD fdD ["_law_pen_here", "_law_many"] spDraw) (AD : At K mg "_law_draw" fD fdD ["_law_pen_here", "_law_many"])
    (GP : FnOk P w K mg base CX0 2 fP fdP ["_law_pen_here", "_law_options"] (spPick K)) (AP : At K mg "_law_pick" fP fdP ["_law_pen_here", "_law_options"])
    (GW : FnOk P w K mg base CX0 3 fW fdW ["_law_pen_here", "_law_letters_here", "_law_highest"] (spLWord K)) (AW : At K mg "_law_word" fW fdW ["_law_pen_here", "_law_letters_here", "_law_highest"])
    (GO : FnOk P w K mg base CX0 3 fO fdO ["_law_pen_here", "_law_letters_here"] (spOdd K)) (AO : At K mg "_law_odd" fO fdO ["_law_pen_here", "_law_letters_here"])
    (GS : FnOk P w K mg base CX0 10 fS fdS ["_law_letters_here", "_law_beginning_here", "_law_word_here"] (spLSpelled K CL CH)) (AS : At K mg "_law_spelled" fS fdS ["_law_letters_here", "_law_beginning_here", "_law_word_here"])
    (ML : Mk K CL fL) (mL : mg "Letters" = some (.ref CL)) (bL : Binds K fdL ["self", "words"] []) (GL : FnOk P w K mg base (L2.CX P w) 4 fL fdL ["self", "words"] (spLet K CL CB CM))
    (MH : Mk K CH fH) (mH : mg "History" = some (.ref CH)) (bH : Binds K fdH ["self", "letters", "beginning", "runs"] []) (GH : FnOk P w K mg base CX0 5 fH fdH ["self", "letters", "beginning", "runs"] (spHist K CL CH))
    (GE : FnOk P w K mg base CX0 2 fE fdE ["self", "other"] (spHEq K CL CH)) (bE : Binds K fdE ["self", "other"] []) (nE : OwnNe K CH fE)
    (GG : FnOk P w K mg base (L2.CX P w) 4 fG fdG ["self"] (spWord K CL CH CT)) (bG : Binds K fdG ["self"] []) (mG : Meth K CH "word" fG) :
    FnOk P w K mg base CX0 11 f fd ["_law_pen_here", "_law_letters_here", "_law_beginning_here"] (spSR K) := by
  refine F.ok sc_sr (fun vs H Q E h => ?_) (fun cdv A outer s H vs Q E hr h => ?_)
  · obtain ⟨p, c, a, ns, B, ys, b, rfl, _⟩ := h
    rfl
  · obtain ⟨p, c, a, ns, B, ys, b, rfl, hp, hB, hS, lts, hb, k⟩ := h
    have h1 := hr.mono (j := 1) (by decide)
    have h2 := hr.mono (j := 2) (by decide)
    have h3 := hr.mono (j := 3) (by decide)
    have h4 := hr.mono (j := 4) (by decide)
    have h5 := hr.mono (j := 5) (by decide)
    have h6 := hr.mono (j := 6) (by decide)
    refine ⟨_, PSs.nox (pss_cons (ps_par (i := 3) (j := 4) rfl sc_sr.nd rfl rfl (by decide) rfl rfl (pa_cons (pe_call GW (by exact h3) (by rfl) AW.m AW.k AW.b .nil pass0 (pa_cons (pv 0) (pa_cons (pv 1) (pa_cons pe_int pa_nil)))) (pa_cons (pe_call GO (by exact h3) (by rfl) AO.m AO.k AO.b .nil pass0 (pa_cons (pv 0) (pa_cons (pv 1) pa_nil))) pa_nil)) (by rfl))
      (pss_cons (ps_set (i := 5) sc_sr.nd rfl (Or.inl rfl) (pe_call GS (by exact hr) (by rfl) AS.m AS.k AS.b .nil pass0 (pa_cons (pv 1) (pa_cons (pv 2) (pa_cons (pe_callTy call_tuple_of (by rfl) T.n_tuple (by decide +kernel) (pa_cons (pv 3) pa_nil)) pa_nil)))))
      (pss_cons (ps_setLc (i := 6) (own := [("_law_letter", 8)]) rfl sc_sr.nd rfl rfl (sw_true rfl rfl rfl (by decide +kernel)) (pi_list (pv 3)) (blkOk_by (N := nSr) (sc := defScope s__law_sr) (by decide +kernel)) (fun _ _ _ _ _ => (pg_name (i := 8) sc_sr.nd rfl (Or.inl rfl))) (fun _ _ _ _ _ => pts_nil) (fun _ _ _ _ _ => (pe_tup (pa_cons (pv 8) (pa_cons pe_int pa_nil)))))
      (pss_cons (ps_if (PW.pt (pw_or (pt_cmpR (op_neI (C := CH) (E := E0) GE (by exact h3) bE pass0 nE) (pv 5) (pe_make MH GH (by exact h6) (by rfl) mH bH .nil pass0 (pa_cons (pe_make ML GL (by exact h5) (by rfl) mL bL .nil passE (pa_cons (pv 1) pa_nil)) (pa_cons (pv 2) (pa_cons (pv 6) pa_nil)))) (nomark _)) (pw_or1 (pt_cmpR (op_neD hr.units) (pe_meth0 (pv 5) hC.c mG GG (by exact h4) bG .nil passE) (pe_callTy call_tuple_of (by rfl) T.n_tuple (by decide +kernel) (pa_cons (pv 3) pa_nil)) (nomark _))))) (pss_one (ps_ret pe_bl)) pss_nil)
      (pss_cons (ps_set (i := 7) sc_sr.nd rfl (Or.inl rfl) (pe_call GD (by exact h1) (by rfl) AD.m AD.k AD.b .nil pass0 (pa_cons (pv 0) (pa_cons (pe_op op_add (pe_callB call_len_seq (by rfl) T.n_len (by decide +kernel) (pa_cons (pv 3) pa_nil)) pe_int) pa_nil))))
      (pss_cons (ps_if (pt_cmpR (op_neD hr.units) (pe_call GS (by exact hr) (by rfl) AS.m AS.k AS.b .nil pass0 (pa_cons (pv 1) (pa_cons (pv 2) (pa_cons (pe_op op_cat (pe_op op_cat (pe_op op_cat (pe_slice sl_list (pv 3) po_none (po_some (pv 7))) (pe_lst (pa_cons (pv 4) pa_nil))) (pe_slice sl_list (pv 3) (po_some (pv 7)) po_none)) (pe_lst (pa_cons (pv 4) pa_nil))) pa_nil)))) (pe_tup (pa_cons pe_str (pa_cons (pv 7) pa_nil))) (nomark _)) (pss_one (ps_ret pe_bl)) pss_nil)
      (pss_one (ps_ret (pe_cmpR op_eq (pe_call GS (by exact hr) (by rfl) AS.m AS.k AS.b .nil pass0 (pa_cons (pv 1) (pa_cons (pe_call GP (by exact h2) (by rfl) AP.m AP.k AP.b .nil pass0 (pa_cons (pv 0) (pa_cons (pe_lst (pa_cons pe_str (pa_cons pe_str (pa_cons pe_non (pa_cons pe_str (pa_cons pe_int pa_nil)))))) pa_nil))) (pa_cons (pe_lst (pa_cons (pv 4) pa_nil)) pa_nil)))) pe_str (nomark _)))))))))), ?_⟩
    have z1 : (100000 : Nat) ≤ sizeLine := by decide
    have l0 := lts.l0
    have l1 := lts.l1
    -- the word, the odd thing
    refine ⟨_, rfl, _, rfl, p, c, a, ns, B, ys, 20, rfl, hp, by omega, hS, by omega, by omega, by decide, by decide, fun H1 L ws g1 hL0 hL hw hwy => ?_⟩
    refine ⟨_, rfl, _, rfl, p, c, ns, a, ys, _, rfl, g1.pen, by omega, g1.seq hS, by omega, by omega, fun y hy => ⟨by have := (lts.ok y hy).2.1; omega, (lts.ok y hy).2.2⟩, fun H2 v g2 hv => ?_⟩
    refine ⟨_, _, rfl, ?_⟩
    replace hL := g2.lst hL
    replace g1 := (g1.step g2).mono (B := B + 200) (by omega)
    clear g2 hL0
    have hwl : ws.length ≤ 20 := by omega
    have lon : (onesR ws).length = ws.length := List.length_map ..
    have ljo := joinR_len (onesR ws)
    have hof : ∀ r ∈ onesR ws, r.1 ∈ ys := fun r hr => by
      obtain ⟨z, hz, rfl⟩ := List.mem_map.mp hr
      exact hwy z hz
    have hsz : sizeR (joinR (onesR ws)) = (ws.length : Nat) := by rw [size_join (ones_pos ws), plain_ones]
    have hpl : plainR (joinR (onesR ws)) = ws := by rw [plain_join (ones_pos ws), plain_ones]
    -- told
    refine ⟨_, rfl, _, rfl, _, rfl, L, _, rfl, .inl ⟨SqL.of hL, fun tt htt => ?_⟩⟩
    replace hv := hv.kp (Kp.of (Ask.Same.made1 (o := .tup (ws.map V.str)) (Same.refl H2) htt))
    replace g1 := g1.new (o := .tup (ws.map V.str)) htt
    have ht : upd H2 tt (.tup (ws.map V.str)) tt = some (.tup (ws.map V.str)) := upd_same
    replace hL : upd H2 tt (.tup (ws.map V.str)) L = some (.lst (ws.map V.str)) := by rw [upd_ne (ne_of_none hL htt)]; exact hL
    generalize upd H2 tt (.tup (ws.map V.str)) = H3 at g1 hv ht hL ⊢
    clear htt
    refine ⟨a, tt, .str b, true, ys, ws.map V.str, okW ws, rfl, g1.seq hS, lts, beg_in hb, fun _ => ⟨b, rfl, hb⟩, .inr (SqT.of ht), WdsV.of hwy, by rw [okW_len]; omega, fun q => Bool.noConfusion q, fun i _ hf => ?_, fun _ _ hl => ?_, fun _ _ hl H4 r b' s4 eb hr' => ?_⟩
    · rw [okW_bad] at hf
      cases hf
    · rw [okW_oks] at hl
      omega
    cases eb
    rw [okW_oks] at hr'
    replace hv := hv.kp (Kp.of s4)
    replace g1 := g1.same s4
    replace hL := s4 _ _ hL
    clear s4 hl ht
    -- plain
    refine ⟨_, rfl, L, rfl, ⟨_, SqL.of hL⟩, fun U hU => ?_⟩
    refine lc_it (walk_list (xs := ws.map V.str)) (fun i H' => Same H4 H' ∧ ∃ ks, H' U = some (.lst ks) ∧ PairsV H' ks (onesR (ws.take i))) ⟨Ask.Same.upd_new (Same.refl _) hU, [], upd_same, PairsV.nil⟩ (fun i H' _ hh => SqL.of (hh.1 _ _ hL)) ?_ ?_
    · rintro i v H2 H3 hi ⟨s2, ks, hL2, hk⟩ ⟨rfl, hv⟩
      rw [List.getElem?_map] at hv
      cases hz : ws[i]? with
      | none => rw [hz] at hv; cases hv
      | some z =>
        rw [hz] at hv
        cases hv
        have ek := hk.1
        have el : (onesR (ws.take i)).length ≤ 100 := by unfold onesR; rw [List.length_map, List.length_take]; omega
        refine ⟨rfl, _, rfl, by show 2 ≤ sizeLine; decide, fun u hu => ?_⟩
        have hL3 : upd H3 u (.tup [.str z, .int 1]) U = some (.lst ks) := by rw [upd_ne (ne_of_none hL2 hu)]; exact hL2
        have s3 := Ask.Same.made1 (o := .tup [.str z, .int 1]) s2 hu
        have k3 := hk.same (Ask.Same.made1 (o := .tup [.str z, .int 1]) (Same.refl H3) hu)
        refine ⟨ks, hL3, by omega, Ask.Same.upd_new s3 hU, _, upd_same, ?_⟩
        have e : onesR (ws.take (i + 1)) = onesR (ws.take i) ++ [(z, 1)] := by
          unfold onesR
          rw [List.take_add_one, hz, List.map_append]
          rfl
        rw [e]
        exact (k3.app (b := u) (r := (z, 1)) upd_same).mut hL3
    rintro H5 ⟨s5, ks, hU5, hk⟩
    rw [List.length_map, List.take_length] at hk
    replace hv := hv.kp (Kp.of s5)
    replace g1 := g1.same s5
    replace hL := s5 _ _ hL
    replace hr' := hr'.same s5
    clear s5 hU
    -- the first look
    refine ⟨_, rfl, _, rfl, fun m md hm hmd hne => let_made lts (.inl (g1.seq hS)) hm hmd hne fun H6 t6 s6 hM => ⟨rfl, _, rfl, _, rfl, fun x xd hx hxd hnex => ?_⟩⟩
    refine hist_made (rs := onesR ws) hM hb (.inl (SqL.of (s6 _ _ hU5))) (hk.same s6).runs (by omega) (fun r hr => ?_) (by omega) hx hxd hnex fun H7 s7 hH => ⟨rfl, ?_⟩
    · obtain ⟨z, hz, rfl⟩ := List.mem_map.mp hr
      exact ⟨hwy z hz, by show (1 : Int) ≤ 1; decide, by show (1 : Int) ≤ 1000000000000000000000000000000; decide⟩
    replace s6 := s6.trans s7
    replace hv := hv.kp (Kp.of s6)
    replace g1 := g1.same s6
    replace hL := s6 _ _ hL
    replace hr' := hr'.same s6
    clear s6 s7 hU5 hk hM hm hmd hne hx hxd hnex
    obtain ⟨da, fa, pa⟩ := hr'.ins
    obtain ⟨db, fb, pb⟩ := hH.ins
    refine ⟨r, x, da, db, fa, fb, rfl, rfl, pa, pb, heq_same hr' hH rfl lts (join_of hof) ⟨_, rfl, _, rfl, iteF ?_⟩⟩
    clear hH pa pb
    obtain ⟨dx, mm, mt, c1, cs, hpr, _⟩ := id hr'
    refine ⟨_, rfl, r, dx, _, rfl, hpr, rfl, r, ys, b, _, rfl, hr', fun r hr => Int.le_of_lt (join_pos (ones_pos ws) r hr), fun _ H8 t8 s8 ht8 => ?_, fun q => by rw [hsz] at q; omega⟩
    rw [hpl] at ht8
    replace hv := hv.kp (Kp.of s8)
    replace g1 := g1.same s8
    replace hL := s8 _ _ hL
    clear s8 hr' hpr
    refine ⟨_, rfl, L, _, rfl, .inl ⟨SqL.of hL, fun t9 ht9 => ?_⟩⟩
    have fw : ∀ y ∈ ws, y.length ≤ 500 ∧ Asc y := fun y hy => lts.fit y (hwy y hy)
    refine ⟨.tuple (ws.map PyData.str), .tuple (ws.map PyData.str), .tup (SqT.of (by rw [upd_ne (ne_of_none ht8 ht9)]; exact ht8)) (dp_strs ws), .tup (SqT.of upd_same) (dp_strs ws), (fit_strs fw).shapedT, (fit_strs fw).shapedT, _, rfl, ?_⟩
    rw [eqv_strs, decide_eq_true rfl]
    refine iteF ?_
    try dsimp only [tNext]
    replace hv := hv.kp (Kp.of (Ask.Same.made1 (o := .tup (ws.map V.str)) (Same.refl H8) ht9))
    replace g1 := g1.new (o := .tup (ws.map V.str)) ht9
    replace hL : upd H8 t9 (.tup (ws.map V.str)) L = some (.lst (ws.map V.str)) := by rw [upd_ne (ne_of_none hL ht9)]; exact hL
    generalize upd H8 t9 (.tup (ws.map V.str)) = H9 at g1 hv hL ⊢
    clear ht9 ht8
    -- at
    refine ⟨_, rfl, _, rfl, L, _, rfl, .inl (SqL.of hL), _, _, rfl, rfl, p, c, ns, _, _, rfl, g1.pen, by omega, by omega, by rw [List.length_map]; omega, fun Ha n ga n0 n1 => ?_⟩
    rw [List.length_map] at n1
    obtain ⟨n, rfl⟩ : ∃ k : Nat, n = (k : Int) := ⟨n.toNat, by omega⟩
    replace hv := hv.kp ga.kp
    replace hL := ga.lst hL
    replace g1 := (g1.step ga).mono (B := B + 201) (by omega)
    clear ga
    -- the second look
    have hws : (ws.map V.str).length = ws.length := List.length_map ..
    refine ⟨_, rfl, _, rfl, _, rfl, _, rfl, _, rfl, L, _, rfl, SqL.of hL, fun t1 ht1 => ?_⟩
    rw [cutV_to, ← List.map_take]
    have st := Ask.Same.made1 (o := .lst ((ws.take n).map V.str)) (Same.refl Ha) ht1
    have f1 : upd Ha t1 (.lst ((ws.take n).map V.str)) t1 = some (.lst ((ws.take n).map V.str)) := upd_same
    replace hL := st _ _ hL
    replace hv := hv.kp (Kp.of st)
    replace g1 := g1.new (o := .lst ((ws.take n).map V.str)) ht1
    generalize upd Ha t1 (.lst ((ws.take n).map V.str)) = Hb at g1 hv st f1 hL ⊢
    clear st ht1
    refine ⟨_, rfl, by show 1 ≤ sizeLine; decide, fun t2 ht2 => ?_⟩
    have st := Ask.Same.made1 (o := .lst [v]) (Same.refl Hb) ht2
    have f2 : upd Hb t2 (.lst [v]) t2 = some (.lst [v]) := upd_same
    replace hL := st _ _ hL
    replace f1 := st _ _ f1
    replace hv := hv.kp (Kp.of st)
    replace g1 := g1.new (o := .lst [v]) ht2
    generalize upd Hb t2 (.lst [v]) = Hc at g1 hv st f2 hL f1 ⊢
    clear st ht2
    refine ⟨t1, t2, _, _, rfl, rfl, f1, f2, by rw [List.length_map, List.length_take]; show _ + 1 ≤ _; omega, fun t3 ht3 => ?_⟩
    have st := Ask.Same.made1 (o := .lst ((ws.take n).map V.str ++ [v])) (Same.refl Hc) ht3
    have f3 : upd Hc t3 (.lst ((ws.take n).map V.str ++ [v])) t3 = some (.lst ((ws.take n).map V.str ++ [v])) := upd_same
    replace hL := st _ _ hL
    replace hv := hv.kp (Kp.of st)
    replace g1 := g1.new (o := .lst ((ws.take n).map V.str ++ [v])) ht3
    generalize upd Hc t3 (.lst ((ws.take n).map V.str ++ [v])) = Hd at g1 hv st f3 hL ⊢
    clear st ht3
    refine ⟨_, rfl, _, rfl, _, rfl, L, _, rfl, SqL.of hL, fun t4 ht4 => ?_⟩
    rw [cutV_from, ← List.map_drop]
    have st := Ask.Same.made1 (o := .lst ((ws.drop n).map V.str)) (Same.refl Hd) ht4
    have f4 : upd Hd t4 (.lst ((ws.drop n).map V.str)) t4 = some (.lst ((ws.drop n).map V.str)) := upd_same
    replace hL := st _ _ hL
    replace f3 := st _ _ f3
    replace hv := hv.kp (Kp.of st)
    replace g1 := g1.new (o := .lst ((ws.drop n).map V.str)) ht4
    generalize upd Hd t4 (.lst ((ws.drop n).map V.str)) = He at g1 hv st f4 hL f3 ⊢
    clear st ht4
    refine ⟨t3, t4, _, _, rfl, rfl, f3, f4, by rw [List.length_append, List.length_map, List.length_map, List.length_take, List.length_drop]; show _ + 1 + _ ≤ _; omega, fun t5 ht5 => ?_⟩
    have st := Ask.Same.made1 (o := .lst ((ws.take n).map V.str ++ [v] ++ (ws.drop n).map V.str)) (Same.refl He) ht5
    have f5 : upd He t5 (.lst ((ws.take n).map V.str ++ [v] ++ (ws.drop n).map V.str)) t5 = some (.lst ((ws.take n).map V.str ++ [v] ++ (ws.drop n).map V.str)) := upd_same
    replace hL := st _ _ hL
    replace hv := hv.kp (Kp.of st)
    replace g1 := g1.new (o := .lst ((ws.take n).map V.str ++ [v] ++ (ws.drop n).map V.str)) ht5
    generalize upd He t5 (.lst ((ws.take n).map V.str ++ [v] ++ (ws.drop n).map V.str)) = Hf at g1 hv st f5 hL ⊢
    clear st ht5
    refine ⟨_, rfl, by show 1 ≤ sizeLine; decide, fun t6 ht6 => ?_⟩
    have st := Ask.Same.made1 (o := .lst [v]) (Same.refl Hf) ht6
    have f6 : upd Hf t6 (.lst [v]) t6 = some (.lst [v]) := upd_same
    replace hL := st _ _ hL
    replace f5 := st _ _ f5
    replace hv := hv.kp (Kp.of st)
    replace g1 := g1.new (o := .lst [v]) ht6
    generalize upd Hf t6 (.lst [v]) = Hg at g1 hv st f6 hL f5 ⊢
    clear st ht6
    refine ⟨t5, t6, _, _, rfl, rfl, f5, f6, by rw [List.length_append, List.length_append, List.length_map, List.length_map, List.length_take, List.length_drop]; show _ + 1 + _ + 1 ≤ _; omega, fun t7 ht7 => ?_⟩
    have st := Ask.Same.made1 (o := .lst ((ws.take n).map V.str ++ [v] ++ (ws.drop n).map V.str ++ [v])) (Same.refl Hg) ht7
    have f7 : upd Hg t7 (.lst ((ws.take n).map V.str ++ [v] ++ (ws.drop n).map V.str ++ [v])) t7 = some (.lst ((ws.take n).map V.str ++ [v] ++ (ws.drop n).map V.str ++ [v])) := upd_same
    replace hv := hv.kp (Kp.of st)
    replace g1 := g1.new (o := .lst ((ws.take n).map V.str ++ [v] ++ (ws.drop n).map V.str ++ [v])) ht7
    generalize upd Hg t7 (.lst ((ws.take n).map V.str ++ [v] ++ (ws.drop n).map V.str ++ [v])) = Hh at g1 hv st f7  ⊢
    clear st ht7
    have wd : WdsV Hh ys ((ws.take n).map V.str ++ [v] ++ (ws.drop n).map V.str ++ [v]) (okW (ws.take n) ++ [Stt.no Wr.letter] ++ okW (ws.drop n) ++ [Stt.no Wr.letter]) :=
      (((WdsV.of fun z hz => hwy z (List.mem_of_mem_take hz)).app (WdsV.odd hv.1)).app (WdsV.of fun z hz => hwy z (List.mem_of_mem_drop hz))).app (WdsV.odd hv.1)
    have wl : (okW (ws.take n) ++ [Stt.no Wr.letter] ++ okW (ws.drop n) ++ [Stt.no Wr.letter]).length ≤ 1000 := by
      rw [← wd.1, List.length_append, List.length_append, List.length_append, List.length_map, List.length_map, List.length_take, List.length_drop]
      show _ + 1 + _ + 1 ≤ _
      omega
    have wb : fbad (okW (ws.take n) ++ [Stt.no Wr.letter] ++ okW (ws.drop n) ++ [Stt.no Wr.letter]) = some (n, .letter) := by
      rw [List.append_assoc, List.append_assoc]
      have := okW_at (ws.take n) .letter (okW (ws.drop n) ++ [Stt.no Wr.letter])
      rw [List.length_take, Nat.min_eq_left (by omega)] at this
      exact this
    refine ⟨a, t7, .str b, true, ys, _, _, rfl, g1.seq hS, lts, beg_in hb, fun _ => ⟨b, rfl, hb⟩, .inl (SqL.of f7), wd, wl, fun q => Bool.noConfusion q, fun i _ hf H1 q s1 hq => ?_, fun _ hf => ?_, fun _ hf => ?_⟩
    rotate_left
    · rw [wb] at hf; cases hf
    · rw [wb] at hf; cases hf
    rw [wb] at hf
    cases hf
    clear wd wl wb f7
    replace hv := hv.kp (Kp.of s1)
    replace g1 := g1.same s1
    refine ⟨_, rfl, by show 2 ≤ sizeLine; decide, fun t8 ht8 => ?_⟩
    have hq8 : upd H1 t8 (.tup [.str "letter", .int (n : Nat)]) q = some (.tup [.str "letter", .int (n : Nat)]) := by rw [upd_ne (ne_of_none hq ht8)]; exact hq
    refine ⟨.tuple [.str "letter", .int (n : Nat)], .tuple [.str "letter", .int (n : Nat)], .tup (SqT.of hq8) (.cons (.str _) (.cons (.int _) .nil)), .tup (SqT.of upd_same) (.cons (.str _) (.cons (.int _) .nil)), sh_kw .letter _, sh_kw .letter _, _, rfl, ?_⟩
    rw [show PyData.eqv (.tuple [.str "letter", .int (n : Nat)]) (.tuple [.str "letter", .int (n : Nat)]) = true from PySem.SeqAt.eqv_refl _ (lay_kw .letter n)]
    refine iteF ?_
    try dsimp only [tNext]
    clear hq8 hq
    replace hv := hv.kp (Kp.of (Ask.Same.made1 (o := .tup [.str "letter", .int (n : Nat)]) (Same.refl H1) ht8))
    replace g1 := g1.new (o := .tup [.str "letter", .int (n : Nat)]) ht8
    generalize upd H1 t8 (.tup [.str "letter", .int (n : Nat)]) = H2 at g1 hv ⊢
    clear ht8
    -- a wrong beginning
    refine ⟨_, rfl, _, rfl, by show 5 ≤ sizeLine; decide, fun t9 ht9 => ?_⟩
    replace hv := hv.kp (Kp.of (Ask.Same.made1 (o := .lst [.str "", .str "old", .non, .str "NEW", .int 5]) (Same.refl H2) ht9))
    replace g1 := g1.new (o := .lst [.str "", .str "old", .non, .str "NEW", .int 5]) ht9
    have f9 : upd H2 t9 (.lst [.str "", .str "old", .non, .str "NEW", .int 5]) t9 = some (.lst [.str "", .str "old", .non, .str "NEW", .int 5]) := upd_same
    generalize upd H2 t9 (.lst [.str "", .str "old", .non, .str "NEW", .int 5]) = H3 at g1 hv f9 ⊢
    clear ht9
    refine ⟨p, c, ns, .ref t9, _, rfl, g1.pen, by omega, .inl ⟨t9, _, rfl, SqL.of f9, by show 0 < 5; decide, by show 5 ≤ 1000; decide, fun H4 bv gb hbv => ?_⟩⟩
    replace hv := hv.kp gb.kp
    replace g1 := (g1.step gb).mono (B := B + 250) (by omega)
    clear gb f9
    refine ⟨_, rfl, by show 1 ≤ sizeLine; decide, fun u2 hu2 => ?_⟩
    replace hv := hv.kp (Kp.of (Ask.Same.made1 (o := .lst [v]) (Same.refl H4) hu2))
    replace g1 := g1.new (o := .lst [v]) hu2
    have fu : upd H4 u2 (.lst [v]) u2 = some (.lst [v]) := upd_same
    generalize upd H4 u2 (.lst [v]) = H5 at g1 hv fu ⊢
    have wr : InW H5 bv ["new", "found"] false := by
      simp only [List.mem_cons, List.not_mem_nil, or_false] at hbv
      rcases hbv with rfl | rfl | rfl | rfl | rfl <;> exact .inl ⟨rfl, by decide⟩
    refine ⟨a, u2, bv, false, ys, [v], [.no .letter], rfl, g1.seq hS, lts, wr, fun q => Bool.noConfusion q, .inl (SqL.of fu), WdsV.odd hv.1, by show 1 ≤ 1000; decide, fun _ H6 s6 => ?_, fun i q => Bool.noConfusion q, fun q => Bool.noConfusion q, fun q => Bool.noConfusion q⟩
    exact ⟨rfl, k H6 ((g1.same s6).mono (by omega))⟩
end
end Ask

namespace Ask
open PySem L2
def altS (y0 y1 : Str) (n : Nat) : Str := if n % 2 = 0 then y0 else y1
def altW (y0 y1 : Str) : Nat → List Str
  | 0 => []
  | n + 1 => altW y0 y1 n ++ [altS y0 y1 n]
theorem alt_len (y0 y1 : Str) : ∀ n, (altW y0 y1 n).length = n
  | 0 => rfl
  | n + 1 => by
    show (altW y0 y1 n ++ [_]).length = _
    rw [List.length_append, alt_len y0 y1 n]
    rfl
theorem alt_mem {y0 y1 : Str} : ∀ {n : Nat} {z : Str}, z ∈ altW y0 y1 n → z = y0 ∨ z = y1
  | 0, z, h => by cases h
  | n + 1, z, h => by
    rcases List.mem_append.mp h with h | h
    · exact alt_mem h
    · rw [List.mem_singleton] at h
      subst h
      unfold altS
      split
      · exact .inl rfl
      · exact .inr rfl
theorem ones_more (ws : List Str) (z : Str) : onesR (ws ++ [z]) = onesR ws ++ [(z, 1)] := by
  unfold onesR
  rw [List.map_append]
  rfl
theorem alt_noeq {y0 y1 : Str} (h : y0 ≠ y1) : ∀ n, NoEq (onesR (altW y0 y1 n))
  | 0 => trivial
  | n + 1 => by
    show NoEq (onesR (altW y0 y1 n ++ [altS y0 y1 n]))
    rw [ones_more]
    refine noeq_snoc.mpr ⟨alt_noeq h n, fun l e => ?_⟩
    cases n with
    | zero => cases e
    | succ n =>
      have e : (onesR (altW y0 y1 n ++ [altS y0 y1 n])).getLast? = some l := e
      rw [ones_more, List.getLast?_concat] at e
      cases e
      show altS y0 y1 n ≠ altS y0 y1 (n + 1)
      unfold altS
      rcases Nat.mod_two_eq_zero_or_one n with q | q
      · rw [if_pos q, if_neg (by omega)]
        exact h
      · rw [if_neg (by omega), if_pos (by omega)]
        exact fun z => h z.symm
theorem alt_spl (y0 y1 : Str) (n : Nat) (l : Str) (m : Int) : (spliceR (onesR (altW y0 y1 (n + 1))) [(l, m)]).length = n + 1 + (if l = altS y0 y1 n then 0 else 1) := by
  have e : (onesR (altW y0 y1 (n + 1))).getLast? = some (altS y0 y1 n, 1) := by
    show (onesR (altW y0 y1 n ++ [altS y0 y1 n])).getLast? = _
    rw [ones_more, List.getLast?_concat]
  have le : (onesR (altW y0 y1 (n + 1))).length = n + 1 := by
    unfold onesR
    rw [List.length_map, alt_len]
  rw [splice_some e]
  by_cases q : l = altS y0 y1 n
  · rw [if_pos q.symm, if_pos q, List.length_append, List.length_dropLast, le]
    rfl
  · rw [if_neg (fun z => q z.symm), if_neg q, List.length_append, le]
    rfl
theorem alt_size (ws : List Str) (l : Str) {m : Int} (hm : 0 < m) : sizeR (spliceR (onesR ws) [(l, m)]) = (ws.length : Nat) + m := by
  have p := pos_splice (r := (l, m)) (ones_pos ws) hm
  rw [← plainR_len fun r hr => Int.le_of_lt (p r hr), plain_splice (ones_pos ws) hm, plain_ones, plain_one, List.length_append, List.length_replicate]
  show ((ws.length + m.toNat : Nat) : Int) = _
  omega
section
variable {P : Program} {w : World} {K : PySem.W.Frag} {mg : Str → Option Value} {base : Heap}
def spJoins (K : PySem.W.Frag) : Sp := fun vs H Q _ => ∃ (p c a : Addr) (ns : List Int) (B : Nat) (y0 y1 : Str), vs = [.ref p, .ref a] ∧ Pen c ns H p B ∧ B ≤ 200000000 ∧ SqL K H a [.str y0, .str y1] ∧ Lts [y0, y1] ∧ ∀ (H' : Hp), Q (.bl true) H'
abbrev s__law_joins : Stmt := top 56
def nJo : List Str := ["_law_pen_here", "_law_letters_here", "_law_many", "_law_word_here", "_law_made", "_law_letter", "_law_due", "_law_told", "_law_again", "_law_k"]
theorem sc_jo : FnScope nJo ["_law_pen_here", "_law_letters_here"] (defScope s__law_joins) := ⟨rfl, rfl, rfl, by decide +kernel, rfl, by decide +kernel, by decide +kernel⟩
theorem ok_joins {f fD fP fS fA CL CH : Addr} {fd fdD fdP fdS fdA : FuncData} (F : Fun K "_law_joins" "_law_joins" s__law_joins f fd) (T : Blt mg) (hC : HsC K CH)
    (GD : FnOk P w K mg base CX0 1 fD fdD ["_law_pen_here", "_law_many"] spDraw) (AD : At K mg "_law_draw" fD fdD ["_law_pen_here", "_law_many"])
    (GP : FnOk P w K mg base CX0 2 fP fdP ["_law_pen_here", "_law_options"] (spPick K)) (AP : At K mg "_law_pick" fP fdP ["_law_pen_here", "_law_options"])
    (GS : FnOk P w K mg base CX0 10 fS fdS ["_law_letters_here", "_law_beginning_here", "_law_word_here"] (spLSpelled K CL CH)) (AS : At K mg "_law_spelled" fS fdS ["_law_letters_here", "_law_beginning_here", "_law_word_here"])
    (GA : FnOk P w K mg base CX0 8 fA fdA ["_law_made", "_law_runs_here"] (spAdded K CL CH)) (AA : At K mg "_law_added" fA fdA ["_law_made", "_law_runs_here"]) :
    FnOk P w K mg base CX0 11 f fd ["_law_pen_here", "_law_letters_here"] (spJoins K) := by
  refine F.ok sc_jo (fun vs H Q E h => ?_) (fun cdv A outer s H vs Q E hr h => ?_)
  · obtain ⟨p, c, a, ns, B, y0, y1, rfl, _⟩ := h
    rfl
  · obtain ⟨p, c, a, ns, B, y0, y1, rfl, hp, hB, hS, lts, k⟩ := h
    have h1 := hr.mono (j := 1) (by decide)
    have h2 := hr.mono (j := 2) (by decide)
    have h8 := hr.mono (j := 8) (by decide)
    refine ⟨_, PSs.nox (pss_cons (ps_set (i := 2) sc_jo.nd rfl (Or.inl rfl) (pe_op op_add pe_int (pe_call GD (by exact h1) (by rfl) AD.m AD.k AD.b .nil pass0 (pa_cons (pv 0) (pa_cons pe_int pa_nil)))))
      (pss_cons (ps_setLc (i := 3) (own := [("_law_k", 9)]) rfl sc_jo.nd rfl rfl (sw_true rfl rfl rfl (by decide +kernel)) (pi_range1 rfl T.n_range (pa_cons (pv 2) pa_nil)) (blkOk_by (N := nJo) (sc := defScope s__law_joins) (by decide +kernel)) (fun _ _ _ _ _ => (pg_name (i := 9) sc_jo.nd rfl (Or.inl rfl))) (fun _ _ _ _ _ => pts_nil) (fun _ _ _ _ _ => (pe_ix (show IxR _ (rIxL K) from ix_list) (pv 1) (pe_op op_sub (pv 9) (pe_op op_mul (pe_op op_fdiv (pv 9) pe_int) pe_int)) (fun _ _ => rfl))))
      (pss_cons (ps_par (i := 4) (j := 5) rfl sc_jo.nd rfl rfl (by decide) rfl rfl (pa_cons (pe_call GS (by exact hr) (by rfl) AS.m AS.k AS.b .nil pass0 (pa_cons (pv 1) (pa_cons pe_str (pa_cons (pv 3) pa_nil)))) (pa_cons (pe_call GP (by exact h2) (by rfl) AP.m AP.k AP.b .nil pass0 (pa_cons (pv 0) (pa_cons (pv 1) pa_nil))) pa_nil)) (by rfl))
      (pss_cons (ps_set (i := 6) sc_jo.nd rfl (Or.inl rfl) (pe_op op_add (pv 2) (pe_callTy call_int1 (by rfl) T.n_int (by decide +kernel) (pa_cons (pe_cmpR op_ne (pv 5) (pe_ix ix_list (pv 3) (pe_un un_neg pe_int) (fun _ _ => rfl)) (nomark _)) pa_nil))))
      (pss_cons (ps_par (i := 7) (j := 8) rfl sc_jo.nd rfl rfl (by decide) rfl rfl (pa_cons (pe_call GA (by exact h8) (by rfl) AA.m AA.k AA.b .nil pass0 (pa_cons (pv 4) (pa_cons (pe_lst (pa_cons (pe_tup (pa_cons (pv 5) (pa_cons pe_int pa_nil))) pa_nil)) pa_nil))) (pa_cons (pe_call GS (by exact hr) (by rfl) AS.m AS.k AS.b .nil pass0 (pa_cons (pv 1) (pa_cons pe_str (pa_cons (pe_op op_cat (pv 3) (pe_lst (pa_cons (pv 5) pa_nil))) pa_nil)))) pa_nil)) (by rfl))
      (pss_cons (ps_if (pt_cmpR op_gt (pv 6) pe_int (nomark _)) (pss_one (ps_ret (pe_and (pe_cmpR (op_eqD hr.units) (pv 7) (pe_tup (pa_cons pe_str (pa_cons pe_str (pa_cons (pv 6) (pa_cons pe_int pa_nil))))) (nomark _)) (pe_one (pe_cmpR (op_eqD hr.units) (pv 8) (pv 7) (nomark _)))))) pss_nil)
      (pss_one (ps_ret (pe_and (pe_cmpR op_eq (pe_fld (pv 7) rfl) (pe_op op_add (pv 2) pe_int) (nomark _)) (pe_and (pe_cmpR op_eq (pe_callB call_len_seq (by rfl) T.n_len (by decide +kernel) (pa_cons (pe_fld (pv 7) rfl) pa_nil)) (pv 6) (nomark _)) (pe_one (pe_cmpR op_eq (pe_fld (pv 8) rfl) (pe_op op_add (pv 2) pe_int) (nomark _))))))))))))), ?_⟩
    have z1 : (100000 : Nat) ≤ sizeLine := by decide
    have ne : y0 ≠ y1 := by
      have := lts.nd
      intro z
      subst z
      simp at this
    -- many
    refine ⟨_, rfl, p, c, ns, 2, B, rfl, hp, by omega, by decide, by decide, fun H1 r g1 r0 r1 => ⟨_, _, rfl, rfl, ?_⟩⟩
    obtain ⟨n, hn⟩ : ∃ n : Nat, (399 : Int) + r = ((n + 1 : Nat) : Int) := ⟨398 + r.toNat, by omega⟩
    have hn1 : 398 ≤ n ∧ n ≤ 399 := by omega
    have hn2 : (399 + r).toNat = n + 1 := by omega
    -- the word
    refine ⟨_, rfl, 399 + r, rfl, by omega, by omega, fun L hL => ?_⟩
    have hL0 := g1.free hL
    rw [hn2]
    refine lc_range (lo := 0) (n := n + 1) (fun j H' => Same H1 H' ∧ H' L = some (.lst ((altW y0 y1 j).map V.str))) ⟨Ask.Same.upd_new (Same.refl _) hL, upd_same⟩ (fun j H2 hj hh => ?_) (fun H2 hh => ?_)
    · obtain ⟨s2, hL2⟩ := hh
      have hS2 := (g1.same s2).seq hS
      have e : (0 + (j : Int)) - (0 + (j : Int)) / 2 * 2 = ((j % 2 : Nat) : Int) := by omega
      refine ⟨rfl, _, rfl, _, rfl, _, rfl, _, _, rfl, rfl, ⟨by decide, by decide⟩, _, _, rfl, rfl, .inr ⟨by decide, by decide⟩, _, _, rfl, rfl, a, _, _, V.str (altS y0 y1 j), rfl, rfl, hS2, ?_, ?_⟩
      · show atI [V.str y0, V.str y1] ((0 + (j : Int)) - (0 + (j : Int)) / 2 * 2) = _
        rw [e]
        unfold altS
        rcases Nat.mod_two_eq_zero_or_one j with q | q
        · rw [q, if_pos rfl]
          exact at_by (j := 0) rfl rfl
        · rw [q, if_neg (by decide)]
          exact at_by (j := 1) rfl rfl
      · refine ⟨_, hL2, by rw [List.length_map, alt_len]; omega, Ask.Same.upd_new s2 hL, ?_⟩
        rw [upd_same]
        show _ = some (HO.lst ((altW y0 y1 j ++ [altS y0 y1 j]).map V.str))
        rw [List.map_append]
        rfl
    obtain ⟨s2, hL⟩ := hh
    replace g1 := g1.same s2
    clear s2
    have aw := alt_len y0 y1 (n + 1)
    have hmem : ∀ z ∈ altW y0 y1 (n + 1), z ∈ [y0, y1] := fun z hz => by
      rcases alt_mem hz with rfl | rfl <;> simp
    have jn : joinR (onesR (altW y0 y1 (n + 1))) = onesR (altW y0 y1 (n + 1)) := join_noeq (alt_noeq ne _)
    have ew : altW y0 y1 (n + 1) = altW y0 y1 n ++ [altS y0 y1 n] := rfl
    have sp := alt_spl y0 y1 n
    have al : altS y0 y1 n ∈ [y0, y1] := hmem _ (by rw [ew]; simp)
    generalize altS y0 y1 n = zl at ew sp al
    generalize altW y0 y1 n = W0 at ew
    have lat : atI ((altW y0 y1 (n + 1)).map V.str) (-1) = some (V.str zl) := by
      rw [ew, List.map_append]
      exact atI_last _ _
    generalize altW y0 y1 (n + 1) = W at hL aw hmem jn sp lat ⊢
    have lon : (onesR W).length = n + 1 := by unfold onesR; rw [List.length_map, aw]
    -- made
    refine ⟨_, rfl, _, rfl, a, L, .str "found", true, [y0, y1], W.map V.str, okW W, rfl, g1.seq hS, lts, beg_in (.inr rfl), fun _ => ⟨"found", rfl, .inr rfl⟩, .inl (SqL.of hL), WdsV.of hmem, by rw [okW_len]; omega, fun q => Bool.noConfusion q, fun i _ hf => ?_, fun _ _ hl => ?_, fun _ _ hl H3 x b s3 eb hx => ?_⟩
    · rw [okW_bad] at hf
      cases hf
    · rw [okW_oks, jn] at hl
      omega
    cases eb
    rw [okW_oks, jn] at hx
    replace g1 := g1.same s3
    replace hL := s3 _ _ hL
    clear s3 hl
    -- a letter
    refine ⟨_, rfl, _, rfl, p, c, ns, .ref a, _, rfl, g1.pen, by omega, .inl ⟨a, _, rfl, g1.seq hS, by show 0 < 2; decide, by show 2 ≤ 1000; decide, fun H4 v g4 hv => ?_⟩⟩
    obtain ⟨l, rfl, hl⟩ : ∃ l : Str, v = .str l ∧ l ∈ [y0, y1] := by
      simp only [List.mem_cons, List.not_mem_nil, or_false] at hv
      rcases hv with rfl | rfl
      · exact ⟨_, rfl, by simp⟩
      · exact ⟨_, rfl, by simp⟩
    replace hL := g4.lst hL
    replace hx := hx.go g4
    replace g1 := g1.step g4
    clear g4 hv
    refine ⟨_, _, rfl, ?_⟩
    -- due
    refine ⟨_, rfl, _, rfl, _, rfl, _, rfl, L, _, _, _, rfl, rfl, SqL.of hL, lat, rfl, .inr ⟨_, rfl, _, _, rfl, rfl, ?_⟩⟩
    obtain ⟨D, hD, hD2⟩ : ∃ D : Nat, (399 + r + (if (!decide (V.str l = V.str zl)) = true then (1 : Int) else 0)) = (D : Int) ∧ D = n + 1 + (if l = zl then 0 else 1) := by
      by_cases q : l = zl
      · subst q
        exact ⟨n + 1, by rw [decide_eq_true rfl]; show 399 + r + 0 = _; omega, by rw [if_pos rfl]⟩
      · refine ⟨n + 2, ?_, by rw [if_neg q]⟩
        rw [decide_eq_false (fun z => q (V.str.inj z))]
        show 399 + r + 1 = _
        omega
    have s5 := sp l 5
    have s1 := sp l 1
    rw [← hD2] at s5 s1
    -- told
    refine ⟨_, rfl, _, rfl, by show 2 ≤ sizeLine; decide, fun t1 ht1 => ?_⟩
    have st := Ask.Same.made1 (o := .tup [.str l, .int 5]) (Same.refl H4) ht1
    have f1 : upd H4 t1 (.tup [.str l, .int 5]) t1 = some (.tup [.str l, .int 5]) := upd_same
    generalize upd H4 t1 (.tup [.str l, .int 5]) = H5 at st f1 ⊢
    refine ⟨by show 1 ≤ sizeLine; decide, fun t2 ht2 => ?_⟩
    replace st := Ask.Same.made1 (o := .lst [.ref t1]) st ht2
    have f2 : upd H5 t2 (.lst [.ref t1]) t2 = some (.lst [.ref t1]) := upd_same
    replace f1 : upd H5 t2 (.lst [.ref t1]) t1 = some (.tup [.str l, .int 5]) := by rw [upd_ne (ne_of_none f1 ht2)]; exact f1
    generalize upd H5 t2 (.lst [.ref t1]) = H6 at st f1 f2 ⊢
    have hx6 := hx.same st
    have hL6 := st _ _ hL
    have g6 := g1.same st
    clear st ht1 ht2
    have sv : StsV K H6 [y0, y1] [.ref t1] [.ok (l, 5)] := by
      refine ⟨rfl, fun i v t h1 h2 => ?_⟩
      cases i with
      | zero => cases h1; cases h2; exact ⟨⟨t1, rfl, .inr (SqT.of f1)⟩, hl, by show (1 : Int) ≤ 5; decide, by show (5 : Int) ≤ 1000000000000000000000000000000; decide⟩
      | succ i => cases h1
    -- the second word, from any heap
    have again : ∀ (H7 : Hp) (R : VK), Same H6 H7 → ((400 < D → ∀ (H' : Hp) (q : Addr), Same H7 H' → H' q = some (.tup [.str "many", .str "runs", .int (D : Nat), .int 400]) → R (.ref q) H') ∧ (¬ 400 < D → ∀ (H' : Hp) (y : Addr), Same H7 H' → HistAt K CL CH H' y [y0, y1] "found" (spliceR (onesR W) [(l, 1)]) → R (.ref y) H')) →
        ∀ (u1 u2 : Addr) , H7 u1 = none → (upd H7 u1 (.lst [.str l])) u2 = none → spLSpelled K CL CH ([.ref a, .str "found", .ref u2] ++ []) (upd (upd H7 u1 (.lst [.str l])) u2 (.lst (W.map V.str ++ [.str l]))) R E0 := by
      intro H7 R s67 hR u1 u2 hu1 hu2
      have sa := Ask.Same.made1 (o := .lst (W.map V.str ++ [.str l])) (Ask.Same.made1 (o := .lst [.str l]) (Same.refl H7) hu1) hu2
      have fu : upd (upd H7 u1 (.lst [.str l])) u2 (.lst (W.map V.str ++ [.str l])) u2 = some (.lst ((W ++ [l]).map V.str)) := by rw [upd_same, List.map_append]; rfl
      generalize upd (upd H7 u1 (.lst [.str l])) u2 (.lst (W.map V.str ++ [.str l])) = H8 at sa fu ⊢
      have hm2 : ∀ z ∈ W ++ [l], z ∈ [y0, y1] := fun z hz => by
        rcases List.mem_append.mp hz with hz | hz
        · exact hmem z hz
        · rw [List.mem_singleton] at hz; subst hz; exact hl
      have ej : joinR (oks (okW (W ++ [l]))) = spliceR (onesR W) [(l, 1)] := by rw [okW_oks, ones_more, join_more, jn]
      refine ⟨a, u2, .str "found", true, [y0, y1], (W ++ [l]).map V.str, okW (W ++ [l]), rfl, (g6.same (s67.trans sa)).seq hS, lts, beg_in (.inr rfl), fun _ => ⟨"found", rfl, .inr rfl⟩, .inl (SqL.of fu), WdsV.of hm2, by rw [okW_len, List.length_append, aw]; show n + 1 + 1 ≤ 1000; omega, fun q => Bool.noConfusion q, fun i _ hf => ?_, fun _ _ hl' H' q s' e' => ?_, fun _ _ hl' H' y b s' eb hy => ?_⟩
      · rw [okW_bad] at hf
        cases hf
      · rw [ej, s1] at hl' e'
        exact hR.1 hl' H' q (sa.trans s') e'
      · rw [ej] at hl' hy
        cases eb
        exact hR.2 (by omega) H' y (sa.trans s') hy
    refine ⟨x, t2, [y0, y1], "found", onesR W, [.ref t1], [.ok (l, 5)], rfl, hx6, .inr rfl, by omega, .inl (SqL.of f2), sv, by show 1 ≤ 1000; decide, (fun i k' hf => by cases hf), fun _ hl' H7 q1 s7 e1 => ?_, fun _ hl' H7 x1 s7 hx1 => ?_⟩
    · have hd : 400 < D := by rw [← s5]; exact hl'
      have e1 : H7 q1 = some (.tup [.str "many", .str "runs", .int ((spliceR (onesR W) [(l, 5)]).length : Nat), .int 400]) := e1
      rw [s5] at e1
      refine ⟨_, rfl, _, rfl, _, rfl, by show 1 ≤ sizeLine; decide, fun u1 hu1 => ⟨L, u1, _, _, rfl, rfl, by rw [upd_ne (ne_of_none (s7 _ _ hL6) hu1)]; exact s7 _ _ hL6, upd_same, by rw [List.length_map]; show _ + 1 ≤ _; omega, fun u2 hu2 => ?_⟩⟩
      dsimp only [tNil]
      refine again H7 _ s7 ⟨fun _ H8 q2 s8 e2 => ?_, fun q => absurd hd q⟩ u1 u2 hu1 hu2
      refine ⟨_, _, rfl, ?_⟩
      replace e1 := s8 _ _ e1
      refine ⟨_, rfl, _, _, rfl, rfl, _, rfl, ite2 (fun _ => ?_) (fun q => absurd (decide_eq_true (by rw [hD]; omega)) q)⟩
      refine ⟨_, rfl, _, rfl, by show 4 ≤ sizeLine; decide, fun t5 ht5 => ?_⟩
      have sx := Ask.Same.made1 (o := .tup [.str "many", .str "runs", .int (399 + r + (if (!decide (V.str l = V.str zl)) = true then (1 : Int) else 0)), .int 400]) (Same.refl H8) ht5
      have f5 : upd H8 t5 (.tup [.str "many", .str "runs", .int (399 + r + (if (!decide (V.str l = V.str zl)) = true then (1 : Int) else 0)), .int 400]) t5 = some (.tup [.str "many", .str "runs", .int (D : Nat), .int 400]) := by rw [upd_same, hD]
      generalize upd H8 t5 _ = H9 at sx f5 ⊢
      have dpq : ∀ {q : Addr}, H9 q = some (.tup [.str "many", .str "runs", .int (D : Nat), .int 400]) → Dp K H9 (.ref q) (.tuple [.str "many", .str "runs", .int (D : Nat), .int 400]) := fun e => .tup (SqT.of e) (.cons (.str _) (.cons (.str _) (.cons (.int _) (.cons (.int _) .nil))))
      have er : PyData.eqv (.tuple [.str "many", .str "runs", .int (D : Nat), .int 400]) (.tuple [.str "many", .str "runs", .int (D : Nat), .int 400]) = true := PySem.SeqAt.eqv_refl _ (lay_many D)
      refine ⟨_, _, dpq (sx _ _ e1), dpq f5, sh_many _, sh_many _, ?_⟩
      rw [er]
      refine ⟨_, rfl, ite2 (fun _ => ?_) (fun q => absurd rfl q)⟩
      refine ⟨_, rfl, _, rfl, _, _, dpq (sx _ _ e2), dpq (sx _ _ e1), sh_many _, sh_many _, ?_⟩
      rw [er]
      exact k H9
    · have hd : ¬ 400 < D := by rw [← s5]; exact Nat.not_lt.mpr hl'
      refine ⟨_, rfl, _, rfl, _, rfl, by show 1 ≤ sizeLine; decide, fun u1 hu1 => ⟨L, u1, _, _, rfl, rfl, by rw [upd_ne (ne_of_none (s7 _ _ hL6) hu1)]; exact s7 _ _ hL6, upd_same, by rw [List.length_map]; show _ + 1 ≤ _; omega, fun u2 hu2 => ?_⟩⟩
      dsimp only [tNil]
      refine again H7 _ s7 ⟨fun q => absurd q hd, fun _ H8 x2 s8 hx2 => ?_⟩ u1 u2 hu1 hu2
      refine ⟨_, _, rfl, ?_⟩
      replace hx1 : HistAt K CL CH H8 x1 [y0, y1] "found" (spliceR (onesR W) [(l, 5)]) := hx1.same s8
      refine ⟨_, rfl, _, _, rfl, rfl, _, rfl, ite2 (fun q => ?_) (fun _ => ?_)⟩
      · have q := of_decide_eq_true q
        rw [hD] at q
        omega
      try dsimp only [tNext]
      obtain ⟨d1, m1, t1', c1, k1, p1, _, hc1, hk1⟩ := id hx1
      obtain ⟨d2, m2, t2', c2, k2, p2, _⟩ := id hx2
      have z5 := alt_size W l (m := 5) (by decide)
      have z1' := alt_size W l (m := 1) (by decide)
      rw [aw] at z5 z1'
      refine ⟨_, rfl, x1, CH, d1, _, _, rfl, p1, hC.c, hC.a4, rfl, _, rfl, _, _, rfl, rfl, rfl, ?_⟩
      rw [decide_eq_true (show V.int (sizeR (spliceR (onesR W) [(l, 5)])) = V.int (399 + r + 5) by rw [z5, hn])]
      refine ⟨_, rfl, ite2 (fun _ => ?_) (fun q => absurd rfl q)⟩
      refine ⟨_, rfl, x1, CH, d1, _, _, rfl, p1, hC.c, hC.a3, rfl, c1, _, rfl, .inr hc1, _, rfl, rfl, ?_⟩
      rw [decide_eq_true (show V.int (k1.length : Nat) = V.int (399 + r + (if (!decide (V.str l = V.str zl)) = true then (1 : Int) else 0)) by rw [hD, hk1.1, s5])]
      refine ⟨_, rfl, ite2 (fun _ => ?_) (fun q => absurd rfl q)⟩
      refine ⟨_, rfl, x2, CH, d2, _, _, rfl, p2, hC.c, hC.a4, rfl, _, rfl, _, _, rfl, rfl, rfl, ?_⟩
      rw [decide_eq_true (show V.int (sizeR (spliceR (onesR W) [(l, 1)])) = V.int (399 + r + 1) by rw [z1', hn])]
      exact k H8
end
end Ask

namespace Ask
open PySem L2
theorem cps_app (x y : Str) : (x ++ y).cps.toList = x.cps.toList ++ y.cps.toList := by
  show (x.cps ++ y.cps).toList = _
  rw [Array.toList_append]
theorem bad_word (y : Str) : isLs (("~" : Str) ++ y ++ ("_" : Str)) = false := by
  unfold isLs wordS goodW
  rw [Bool.and_eq_false_iff]
  refine .inl ?_
  show shortL (wordOf ((("~" : Str) ++ y ++ ("_" : Str)).cps.toList)) = false
  rw [cps_app, cps_app]
  have e1 : ("~" : Str).cps.toList = [126] := by decide
  have e2 : ("_" : Str).cps.toList = [95] := by decide
  rw [e1, e2]
  have e3 : wordOf ([126] ++ y.cps.toList ++ [95]) = y.cps.toList ++ [95] := rfl
  rw [e3]
  unfold shortL
  rw [Bool.and_eq_false_iff]
  refine .inr ?_
  rw [List.all_append, Bool.and_eq_false_iff]
  refine .inr ?_
  decide +kernel
theorem bad_empty : isLs ("" : Str) = false := by decide +kernel
theorem not_in {ys : List Str} (lts : Lts ys) {z : Str} (h : isLs z = false) : z ∉ ys := fun hz => by
  rw [(lts.ok z hz).1] at h
  cases h
theorem inW_no {H : Hp} {ys : List Str} {z : Str} (h : z ∉ ys) : InW H (.str z) ys false := by
  refine .inl ⟨rfl, ?_⟩
  have : ∀ ys : List Str, z ∉ ys → inV (.str z) (ys.map V.str) = false := by
    intro ys
    induction ys with
    | nil => intro _; rfl
    | cons y ys ih =>
      intro h
      have h1 : y ≠ z := fun e => h (by rw [e]; exact List.mem_cons_self ..)
      have h2 := ih fun q => h (List.mem_cons_of_mem _ q)
      unfold inV at h2 ⊢
      rw [List.map_cons, List.any_cons, h2, Bool.or_false]
      show eqV (.str y) (.str z) = false
      simp [eqV, h1]
  exact (this ys h).symm
/-- the kinds of what is wrong -/
def kd : Nat → Wr
  | 0 => .letter
  | 1 => .count
  | 2 => .runs
  | 3 => .count
  | 4 => .letter
  | _ => .runs
/-- the wrong runs -/
def BadV (H : Hp) (y : Str) (bs : List V) : Prop := ∃ b0 b1 b2 b3 b4 : Addr, bs = [.ref b0, .ref b1, .ref b2, .ref b3, .ref b4, .non] ∧ H b0 = some (.tup [.str "", .int 1]) ∧ H b1 = some (.tup [.str y, .int 0]) ∧ H b2 = some (.tup [.str y]) ∧ H b3 = some (.tup [.str y, .int 1000000000000000000000000000001]) ∧ H b4 = some (.tup [.str (("~" : Str) ++ y ++ ("_" : Str)), .int 1])
theorem BadV.same {H H' : Hp} {y : Str} {bs : List V} (h : BadV H y bs) (s : Same H H') : BadV H' y bs := by
  obtain ⟨b0, b1, b2, b3, b4, e, h0, h1, h2, h3, h4⟩ := h
  exact ⟨b0, b1, b2, b3, b4, e, s _ _ h0, s _ _ h1, s _ _ h2, s _ _ h3, s _ _ h4⟩
theorem BadV.go {p c : Addr} {ns : List Int} {H H' : Hp} {B : Nat} {y : Str} {bs : List V} (h : BadV H y bs) (g : Go p c ns H H' B) : BadV H' y bs := by
  obtain ⟨b0, b1, b2, b3, b4, e, h0, h1, h2, h3, h4⟩ := h
  exact ⟨b0, b1, b2, b3, b4, e, g.tup h0, g.tup h1, g.tup h2, g.tup h3, g.tup h4⟩
section
variable {K : PySem.W.Frag}
theorem st_let {H : Hp} {ys : List Str} {b : Addr} {z : Str} (lts : Lts ys) (hb : H b = some (.tup [.str z, .int 1])) (hz : isLs z = false) : StV K H ys (.ref b) (.no .letter) := by
  have q := inW_no (H := H) (not_in lts hz)
  obtain ⟨ty, p, t1, t2, t3⟩ := inW_letter (K := K) q
  exact ⟨b, .str z, .int 1, ty, p, rfl, .inr (SqT.of hb), q, t1, t2, t3⟩
theorem st_cnt {H : Hp} {ys : List Str} {b : Addr} {z : Str} {i : Int} (hz : z ∈ ys) (hb : H b = some (.tup [.str z, .int i])) (hi : ¬ (1 ≤ i ∧ i ≤ 1000000000000000000000000000000)) : StV K H ys (.ref b) (.no .count) :=
  ⟨b, z, .int i, .type "int", true, false, rfl, .inr (SqT.of hb), hz, .base (.int _), kit_ty (by decide +kernel), kit_ty (by decide +kernel), .inr ⟨rfl, i, rfl, hi⟩⟩
theorem BadV.at {H : Hp} {y : Str} {bs : List V} {ys : List Str} (h : BadV H y bs) (lts : Lts ys) (hy : y ∈ ys) {j : Nat} (hj : j < 6) : ∃ v, bs[j]? = some v ∧ StV K H ys v (.no (kd j)) := by
  obtain ⟨b0, b1, b2, b3, b4, rfl, h0, h1, h2, h3, h4⟩ := h
  match j, hj with
  | 0, _ => exact ⟨_, rfl, st_let lts h0 bad_empty⟩
  | 1, _ => exact ⟨_, rfl, st_cnt hy h1 (by omega)⟩
  | 2, _ => exact ⟨_, rfl, StV.tup h2 (by show 1 ≠ 2; decide)⟩
  | 3, _ => exact ⟨_, rfl, st_cnt hy h3 (by omega)⟩
  | 4, _ => exact ⟨_, rfl, st_let lts h4 (bad_word y)⟩
  | 5, _ => exact ⟨_, rfl, StV.flat (T := "NoneType") (.base .non) (by decide +kernel) (by decide +kernel)⟩
theorem StsV.of {H : Hp} {ys : List Str} {xs : List V} {rs : List Run} (h : PairsV H xs rs) (o : RunOk ys rs) : StsV K H ys xs (rs.map Stt.ok) := by
  refine ⟨by rw [List.length_map]; exact h.1, fun i v t h1 h2 => ?_⟩
  rw [List.getElem?_map] at h2
  cases e : rs[i]? with
  | none => rw [e] at h2; cases h2
  | some r =>
    rw [e] at h2
    cases h2
    obtain ⟨b, e1, e2⟩ := h.2 i v r h1 e
    obtain ⟨o1, o2, o3⟩ := o r (List.mem_of_getElem? e)
    exact ⟨⟨b, e1, .inr (SqT.of e2)⟩, o1, o2, o3⟩
theorem StsV.app {H : Hp} {ys : List Str} {xs zs : List V} {ss ts : List Stt} (h : StsV K H ys xs ss) (k : StsV K H ys zs ts) : StsV K H ys (xs ++ zs) (ss ++ ts) := by
  refine ⟨by rw [List.length_append, List.length_append, h.1, k.1], fun i v t h1 h2 => ?_⟩
  rcases Nat.lt_or_ge i xs.length with hi | hi
  · rw [List.getElem?_append_left hi] at h1
    rw [List.getElem?_append_left (by rw [← h.1]; exact hi)] at h2
    exact h.2 i v t h1 h2
  · rw [List.getElem?_append_right hi] at h1
    rw [List.getElem?_append_right (by rw [← h.1]; exact hi), ← h.1] at h2
    exact k.2 _ v t h1 h2
theorem StsV.one {H : Hp} {ys : List Str} {v : V} {t : Stt} (h : StV K H ys v t) : StsV K H ys [v] [t] := by
  refine ⟨rfl, fun i w u h1 h2 => ?_⟩
  cases i with
  | zero => cases h1; cases h2; exact h
  | succ i => cases h1
theorem oks_at (rs : List Run) (k : Wr) (ss : List Stt) : fbad (rs.map Stt.ok ++ .no k :: ss) = some (rs.length, k) := by
  induction rs with
  | nil => rfl
  | cons z ws ih =>
    show (fbad (ws.map Stt.ok ++ .no k :: ss)).map _ = _
    rw [ih]
    rfl
theorem oks_bad (rs : List Run) : fbad (rs.map Stt.ok) = none := by
  induction rs with
  | nil => rfl
  | cons z ws ih =>
    show (fbad (ws.map Stt.ok)).map _ = _
    rw [ih]
    rfl
theorem oks_map (rs : List Run) : oks (rs.map Stt.ok) = rs := by
  induction rs with
  | nil => rfl
  | cons z ws ih =>
    show z :: oks (ws.map Stt.ok) = _
    rw [ih]
end
/-- the words of the kinds, as the law lists them -/
theorem kd_word {j : Nat} (hj : j < 6) : ([V.str "letter", .str "count", .str "runs", .str "count", .str "letter", .str "runs"] : List V)[j]? = some (.str (kwS (kd j))) := by
  match j, hj with
  | 0, _ => rfl
  | 1, _ => rfl
  | 2, _ => rfl
  | 3, _ => rfl
  | 4, _ => rfl
  | 5, _ => rfl
end Ask

namespace Ask
open PySem L2
def nLaw : List Str := ["_law_script", "_law_pen_here", "_law_turn", "_law_letters_here", "_law_beginning_here", "_law_runs_here", "_law_whole", "_law_sum_here", "_law_piece", "_law_elder", "_law_rear", "_law_twice", "_law_bad", "_law_way", "_law_at", "_law_due", "_law_wrong"]
abbrev s_law : Stmt := top 58
theorem sc_law : FnScope nLaw ["_law_script"] (defScope s_law) := ⟨rfl, rfl, rfl, by decide +kernel, rfl, by decide +kernel, by decide +kernel⟩
section
variable {P : Program} {w : World} {K : PySem.W.Frag} {mg : Str → Option Value} {base : Heap}
theorem run_law {f a f0 f1 f2 f3 f4 f5 f6 f7 f8 f9 fa fL fH fE fA CL CH CB CM aD : Addr} {uD : Value} {fd fd0 fd1 fd2 fd3 fd4 fd5 fd6 fd7 fd8 fd9 fda fdL fdH fdE fdA : FuncData} {A : Around} {outer : List Env} {s : Shared} {H : Hp} {ns : List Int}
    (F : Fun K "law" "law" s_law f fd) (T : Blt mg) (hC : HsC K CH)
    (G0 : FnOk P w K mg base CX0 1 f0 fd0 ["_law_script"] (spPen K)) (A0 : At K mg "_law_pen" f0 fd0 ["_law_script"])
    (G1 : FnOk P w K mg base CX0 1 f1 fd1 ["_law_pen_here", "_law_many"] spDraw) (A1 : At K mg "_law_draw" f1 fd1 ["_law_pen_here", "_law_many"])
    (G2 : FnOk P w K mg base CX0 3 f2 fd2 ["_law_pen_here", "_law_many"] spLettersD) (A2 : At K mg "_law_letters" f2 fd2 ["_law_pen_here", "_law_many"])
    (G3 : FnOk P w K mg base CX0 2 f3 fd3 ["_law_pen_here"] spBeg) (A3 : At K mg "_law_beginning" f3 fd3 ["_law_pen_here"])
    (G4 : FnOk P w K mg base CX0 4 f4 fd4 ["_law_pen_here", "_law_letters_here", "_law_highest"] (spRuns K)) (A4 : At K mg "_law_runs" f4 fd4 ["_law_pen_here", "_law_letters_here", "_law_highest"])
    (G5 : FnOk P w K mg base CX0 1 f5 fd5 ["_law_runs_here"] (spLawJoined K)) (A5 : At K mg "_law_joined" f5 fd5 ["_law_runs_here"])
    (G6 : FnOk P w K mg base CX0 2 f6 fd6 ["_law_pen_here", "_law_runs_here"] (spPieces K)) (A6 : At K mg "_law_pieces" f6 fd6 ["_law_pen_here", "_law_runs_here"])
    (G7 : FnOk P w K mg base CX0 8 f7 fd7 ["_law_letters_here", "_law_beginning_here", "_law_runs_here"] (spLHist K CL CH)) (A7 : At K mg "_law_history" f7 fd7 ["_law_letters_here", "_law_beginning_here", "_law_runs_here"])
    (G8 : FnOk P w K mg base CX0 8 f8 fd8 ["_law_made", "_law_runs_here"] (spAdded K CL CH)) (A8 : At K mg "_law_added" f8 fd8 ["_law_made", "_law_runs_here"])
    (G9 : FnOk P w K mg base CX0 11 f9 fd9 ["_law_pen_here", "_law_letters_here", "_law_beginning_here"] (spSR K)) (A9 : At K mg "_law_spelled_right" f9 fd9 ["_law_pen_here", "_law_letters_here", "_law_beginning_here"])
    (Ga : FnOk P w K mg base CX0 11 fa fda ["_law_pen_here", "_law_letters_here"] (spJoins K)) (Aa : At K mg "_law_joins" fa fda ["_law_pen_here", "_law_letters_here"])
    (ML : Mk K CL fL) (mL : mg "Letters" = some (.ref CL)) (bL : Binds K fdL ["self", "words"] []) (GL : FnOk P w K mg base (L2.CX P w) 4 fL fdL ["self", "words"] (spLet K CL CB CM))
    (MH : Mk K CH fH) (mH : mg "History" = some (.ref CH)) (bH : Binds K fdH ["self", "letters", "beginning", "runs"] []) (bH0 : Binds K fdH ["self", "letters", "beginning", "runs"] [uD]) (ru : RelV (.ref aD) uD) (hD0 : ∀ H, SqT K H aD [])
    (GH : FnOk P w K mg base CX0 5 fH fdH ["self", "letters", "beginning", "runs"] (spHist K CL CH))
    (GE : FnOk P w K mg base CX0 2 fE fdE ["self", "other"] (spHEq K CL CH)) (bE : Binds K fdE ["self", "other"] []) (nE : OwnNe K CH fE)
    (GA : FnOk P w K mg base CX0 7 fA fdA ["self", "other"] (spAdd K CL CH)) (bA : Binds K fdA ["self", "other"] []) (hA : PySem.W.findIn K (.ref CH) "__add__" = some (some (.ref fA))) (iA : PySem.W.isFn K (.ref fA) = true) (sA : PySem.W.selfFirst K CH = true)
    (hr : Room 12 A) (e0 : Env0 P w K mg base A outer s H) (bind : BindsTo s fd ⟨[.ref a], []⟩ [("_law_script", .ref a)]) (hS : SqL K H a (ns.map V.int)) (hl : ns.length ≤ 63) :
    codeAny (model P w) A (.call (.ref f) ⟨[.ref a], []⟩) (CR CX0 outer P w H s (fun v _ => v = .bl true) E0) s := by
  refine fn_run (us := [.ref a]) (vs := [.ref a]) F sc_law hr e0 bind (.cons rfl .nil) rfl fun cdv h11 => ?_
  have h1 := h11.mono (j := 1) (by decide)
  have h2 := h11.mono (j := 2) (by decide)
  have h3 := h11.mono (j := 3) (by decide)
  have h4 := h11.mono (j := 4) (by decide)
  have h5 := h11.mono (j := 5) (by decide)
  have h6 := h11.mono (j := 6) (by decide)
  have h7 := h11.mono (j := 7) (by decide)
  have h8 := h11.mono (j := 8) (by decide)
  refine ⟨_, PSs.nox (pss_cons (ps_set (i := 1) sc_law.nd rfl (Or.inl rfl) (pe_call G0 (by exact h1) (by rfl) A0.m A0.k A0.b .nil pass0 (pa_cons (pv 0) pa_nil)))
      (pss_cons (ps_for PassesOwn.never rfl (pi_range1 rfl T.n_range (pa_cons pe_int pa_nil)) (pg_name (i := 2) sc_law.nd rfl (Or.inl rfl)) (pss_cons (ps_par (i := 3) (j := 4) rfl sc_law.nd rfl rfl (by decide) rfl rfl (pa_cons (pe_call G2 (by exact h3) (by rfl) A2.m A2.k A2.b .nil pass0 (pa_cons (pv 1) (pa_cons (pe_op op_add pe_int (pe_call G1 (by exact h1) (by rfl) A1.m A1.k A1.b .nil pass0 (pa_cons (pv 1) (pa_cons pe_int pa_nil)))) pa_nil))) (pa_cons (pe_call G3 (by exact h2) (by rfl) A3.m A3.k A3.b .nil pass0 (pa_cons (pv 1) pa_nil)) pa_nil)) (by rfl))
      (pss_cons (ps_set (i := 5) sc_law.nd rfl (Or.inl rfl) (pe_call G4 (by exact h4) (by rfl) A4.m A4.k A4.b .nil pass0 (pa_cons (pv 1) (pa_cons (pv 3) (pa_cons pe_int pa_nil)))))
      (pss_cons (ps_par (i := 6) (j := 7) rfl sc_law.nd rfl rfl (by decide) rfl rfl (pa_cons (pe_make MH GH (by exact h6) (by rfl) mH bH .nil pass0 (pa_cons (pe_make ML GL (by exact h5) (by rfl) mL bL .nil passE (pa_cons (pv 3) pa_nil)) (pa_cons (pv 4) (pa_cons (pv 5) pa_nil)))) (pa_cons (pe_make MH GH (by exact h6) (by rfl) mH bH0 (.cons ru .nil) pass0 (pa_cons (pe_make ML GL (by exact h5) (by rfl) mL bL .nil passE (pa_cons (pv 3) pa_nil)) (pa_cons (pv 4) pa_nil))) pa_nil)) (by rfl))
      (pss_cons (ps_for PassesOwn.never rfl (pi_list (pe_call G6 (by exact h2) (by rfl) A6.m A6.k A6.b .nil pass0 (pa_cons (pv 1) (pa_cons (pv 5) pa_nil)))) (pg_name (i := 8) sc_law.nd rfl (Or.inl rfl)) (pss_cons (ps_set (i := 9) sc_law.nd rfl (Or.inl rfl) (pe_fld (pv 7) rfl))
      (pss_cons (ps_set (i := 10) sc_law.nd rfl (Or.inl rfl) (pe_op (op_addI (C := CH) (E := E0) GA (by exact h7) bA pass0 hA iA sA) (pv 7) (pe_lst (pa_cons (pv 8) pa_nil))))
      (pss_cons (ps_if (pt_cmpR (op_neD h11.units) (pe_fld (pv 7) rfl) (pv 9) (nomark _)) (pss_one (ps_ret pe_bl)) pss_nil)
      (pss_one (ps_set (i := 7) sc_law.nd rfl (Or.inl rfl) (pv 10)))))))
      (pss_cons (ps_if (PW.pt (pw_or (pt_cmpR (op_neI (C := CH) (E := E0) GE (by exact h3) bE pass0 nE) (pv 7) (pv 6) (nomark _)) (pw_or (pt_cmpR (op_neI (C := CH) (E := E0) GE (by exact h3) bE pass0 nE) (pe_op (op_addI (C := CH) (E := E0) GA (by exact h7) bA pass0 hA iA sA) (pv 6) (pe_lst pa_nil)) (pv 6) (nomark _)) (pw_or1 (pt_cmpR (op_neI (C := CH) (E := E0) GE (by exact h3) bE pass0 nE) (pe_call G8 (by exact h8) (by rfl) A8.m A8.k A8.b .nil pass0 (pa_cons (pv 6) (pa_cons (pe_tup pa_nil) pa_nil))) (pv 6) (nomark _)))))) (pss_one (ps_ret pe_bl)) pss_nil)
      (pss_cons (ps_set (i := 11) sc_law.nd rfl (Or.inl rfl) (pe_call G7 (by exact h8) (by rfl) A7.m A7.k A7.b .nil pass0 (pa_cons (pv 3) (pa_cons (pv 4) (pa_cons (pe_call G5 (by exact h1) (by rfl) A5.m A5.k A5.b .nil pass0 (pa_cons (pe_op op_cat (pv 5) (pv 5)) pa_nil)) pa_nil)))))
      (pss_cons (ps_if (PW.pt (pw_and (pt_cmpR (op_neD h11.units) (pv 5) (pe_lst pa_nil) (nomark _)) (pw_and1 (PW.pt (pw_or (pt_cmpR (op_neI (C := CH) (E := E0) GE (by exact h3) bE pass0 nE) (pe_op (op_addI (C := CH) (E := E0) GA (by exact h7) bA pass0 hA iA sA) (pv 6) (pv 5)) (pv 11) (nomark _)) (pw_or1 (pt_cmpR op_ne (pe_fld (pv 11) rfl) (pe_op op_mul pe_int (pe_fld (pv 6) rfl)) (nomark _)))))))) (pss_one (ps_ret pe_bl)) pss_nil)
      (pss_cons (ps_set (i := 12) sc_law.nd rfl (Or.inl rfl) (pe_lst (pa_cons (pe_tup (pa_cons pe_str (pa_cons pe_int pa_nil))) (pa_cons (pe_tup (pa_cons (pe_ix ix_list (pv 3) pe_int (fun _ _ => rfl)) (pa_cons pe_int pa_nil))) (pa_cons (pe_tup (pa_cons (pe_ix ix_list (pv 3) pe_int (fun _ _ => rfl)) pa_nil)) (pa_cons (pe_tup (pa_cons (pe_ix ix_list (pv 3) pe_int (fun _ _ => rfl)) (pa_cons (pe_op op_add (pe_op op_pow pe_int pe_int) pe_int) pa_nil))) (pa_cons (pe_tup (pa_cons (pe_op op_add_str (pe_op op_add_str pe_str (pe_ix ix_list (pv 3) pe_int (fun _ _ => rfl))) pe_str) (pa_cons pe_int pa_nil))) (pa_cons pe_non pa_nil))))))))
      (pss_cons (ps_par (i := 13) (j := 14) rfl sc_law.nd rfl rfl (by decide) rfl rfl (pa_cons (pe_call G1 (by exact h1) (by rfl) A1.m A1.k A1.b .nil pass0 (pa_cons (pv 1) (pa_cons pe_int pa_nil))) (pa_cons (pe_call G1 (by exact h1) (by rfl) A1.m A1.k A1.b .nil pass0 (pa_cons (pv 1) (pa_cons (pe_op op_add (pe_callB call_len_seq (by rfl) T.n_len (by decide +kernel) (pa_cons (pv 5) pa_nil)) pe_int) pa_nil))) pa_nil)) (by rfl))
      (pss_cons (ps_set (i := 15) sc_law.nd rfl (Or.inl rfl) (pe_tup (pa_cons (pe_ix ix_list (pe_lst (pa_cons pe_str (pa_cons pe_str (pa_cons pe_str (pa_cons pe_str (pa_cons pe_str (pa_cons pe_str pa_nil))))))) (pv 13) (fun _ _ => rfl)) (pa_cons (pv 14) pa_nil))))
      (pss_cons (ps_set (i := 16) sc_law.nd rfl (Or.inl rfl) (pe_op op_cat (pe_op op_cat (pe_slice sl_list (pv 5) po_none (po_some (pv 14))) (pe_lst (pa_cons (pe_ix ix_list (pv 12) (pv 13) (fun _ _ => rfl)) pa_nil))) (pe_slice sl_list (pv 5) (po_some (pv 14)) po_none)))
      (pss_cons (ps_if (pt_cmpR (op_neD h11.units) (pe_call G8 (by exact h8) (by rfl) A8.m A8.k A8.b .nil pass0 (pa_cons (pv 6) (pa_cons (pe_op op_cat (pv 16) (pe_lst (pa_cons (pe_ix ix_list (pv 12) (pe_call G1 (by exact h1) (by rfl) A1.m A1.k A1.b .nil pass0 (pa_cons (pv 1) (pa_cons pe_int pa_nil))) (fun _ _ => rfl)) pa_nil))) pa_nil))) (pv 15) (nomark _)) (pss_one (ps_ret pe_bl)) pss_nil)
      (pss_one (ps_if (pt_not (pt_val (pe_call G9 (by exact h11) (by rfl) A9.m A9.k A9.b .nil pass0 (pa_cons (pv 1) (pa_cons (pv 3) (pa_cons (pv 4) pa_nil)))))) (pss_one (ps_ret pe_bl)) pss_nil)))))))))))))))
      (pss_one (ps_ret (pe_call Ga (by exact h11) (by rfl) Aa.m Aa.k Aa.b .nil pass0 (pa_cons (pv 1) (pa_cons (pe_call G2 (by exact h3) (by rfl) A2.m A2.k A2.b .nil pass0 (pa_cons (pv 1) (pa_cons pe_int pa_nil))) pa_nil))))))), ?_⟩
  have z1 : (1000000 : Nat) ≤ sizeLine := by decide
  refine ⟨_, rfl, a, ns, rfl, hS, hl, fun H0 p c s0 hp0 hpen => ?_⟩
  refine ⟨4, rfl, by decide, by decide, for_range (lo := 0) (n := 4) (fun i σ' H' => ∃ o2 o3 o4 o5 o6 o7 o8 o9 o10 o11 o12 o13 o14 o15 o16 : Option V, σ' = [some (.ref a), some (.ref p), o2, o3, o4, o5, o6, o7, o8, o9, o10, o11, o12, o13, o14, o15, o16] ∧ Go p c ns H0 H' (10000 * i))
    ⟨none, none, none, none, none, none, none, none, none, none, none, none, none, none, none, rfl, Go.refl hpen⟩ ?_ ?_⟩
  rotate_left
  · rintro σ' H1 ⟨o2, o3, o4, o5, o6, o7, o8, o9, o10, o11, o12, o13, o14, o15, o16, rfl, g1⟩
    refine ⟨_, rfl, _, rfl, p, c, ns, 2, _, rfl, g1.pen, by omega, by decide, by decide, fun H2 q ys g2 hq hL hlen nd ok => ?_⟩
    have lts : Lts ys := ⟨nd, ok, by omega, by omega⟩
    obtain ⟨y0, y1, rfl⟩ : ∃ y0 y1, ys = [y0, y1] := by
      match ys, hlen with
      | [y0, y1], _ => exact ⟨y0, y1, rfl⟩
    exact ⟨p, c, q, ns, _, y0, y1, rfl, (g1.step g2).pen, by omega, SqL.of hL, lts, fun H' => rfl⟩
  rintro i σ' H1 hi ⟨o2, o3, o4, o5, o6, o7, o8, o9, o10, o11, o12, o13, o14, o15, o16, rfl, g1⟩
  -- letters, beginning
  refine ⟨_, rfl, _, rfl, p, c, ns, 2, 10000 * i, rfl, g1.pen, by omega, by decide, by decide, fun H2 r g2 r0 r1 => ?_⟩
  have g2 := g1.step g2
  refine ⟨_, _, rfl, rfl, p, c, ns, 2 + r, 10000 * i + 1, rfl, g2.pen, by omega, by omega, by omega, fun H3 q ys g3 hq hL hlen nd ok => ?_⟩
  have lts : Lts ys := ⟨nd, ok, by omega, by omega⟩
  have g3 := g2.step g3
  clear g1 g2 hq
  refine ⟨_, rfl, p, c, ns, _, rfl, g3.pen, by omega, fun H4 b g4 hb => ⟨_, _, rfl, ?_⟩⟩
  have hL4 := g4.lst hL
  have g4 := g3.step g4
  clear g3 hL
  -- runs
  refine ⟨_, rfl, _, rfl, p, c, q, ns, _, ys, 9, rfl, g4.pen, by omega, SqL.of hL4, by have := lts.l0; omega, by have := lts.l1; omega, by decide, by decide, fun H5 R xs rs g5 hR hR1 hxs lrs rok => ?_⟩
  have hL5 := g5.lst hL4
  have g5 := g4.step g5
  clear g4 hL4 hR
  have hpos := rok.pos
  have lrs : rs.length ≤ 9 := by omega
  have ofl : ∀ r ∈ rs, r.1 ∈ ys := fun r hr => (rok r hr).1
  have jl := joinR_len rs
  have jof := join_of ofl
  have jasc := jof.asc lts.plain
  -- whole, sum
  refine ⟨_, rfl, fun m md hm hmd hne => let_made lts (.inl (SqL.of hL5)) hm hmd hne fun H7 mt s7 hM => ⟨rfl, _, rfl, _, rfl, fun x xd hx hxd hnex => ?_⟩⟩
  refine hist_made (rs := rs) hM hb (.inl (SqL.of (s7 _ _ hR1))) (hxs.same s7).runs (by omega) rok (by omega) hx hxd hnex fun H8 s8 hW => ⟨rfl, ?_⟩
  have s58 := s7.trans s8
  have hL8 := s58 _ _ hL5
  have hR8 := s58 _ _ hR1
  have hx8 := hxs.same s58
  have g8 := g5.same s58
  clear s58 s7 s8 g5 hL5 hR1 hxs hM hm hmd hne hx hxd hnex
  refine ⟨_, rfl, fun m md hm hmd hne => let_made lts (.inl (SqL.of hL8)) hm hmd hne fun H7 mt s7 hM => ⟨rfl, _, rfl, fun y yd hy hyd hney => ?_⟩⟩
  refine hist_made (rs := []) hM hb (.inr (hD0 _)) PairsV.nil.runs (Nat.zero_le _) (fun r hr => by cases hr) (Nat.zero_le _) hy hyd hney fun H9 s9 hY => ⟨rfl, _, _, rfl, ?_⟩
  have s89 := s7.trans s9
  have hL9 := s89 _ _ hL8
  have hR9 := s89 _ _ hR8
  have hx9 := hx8.same s89
  have g9 := g8.same s89
  have hW9 := hW.same s89
  clear s89 s7 s9 g8 hL8 hR8 hx8 hW hM hm hmd hne hy hyd hney
  -- pieces
  refine ⟨_, rfl, _, rfl, p, c, R, ns, _, ys, xs, rs, rfl, g9.pen, by omega, SqL.of hR9, hx9, by omega, rok, fun Hb L ks ps gb hLk pk pl pok pp => ⟨L, rfl, ⟨_, SqL.of hLk⟩, for_it (walk_list (xs := ks)) (fun j σ' H' => ∃ (z : Addr) (o8 o9 o10 : Option V), σ' = [some (.ref a), some (.ref p), some (.int (0 + (i : Int))), some (.ref q), some (.str b), some (.ref R), some (.ref x), some (.ref z), o8, o9, o10, o11, o12, o13, o14, o15, o16] ∧ Same Hb H' ∧ HistAt K CL CH H' z ys b (joinR (ps.take j)))
    ⟨y, _, _, _, rfl, Same.refl Hb, hY.go gb⟩ (fun j σ' H' _ hh => by obtain ⟨_, _, _, _, _, s', _⟩ := hh; exact SqL.of (s' _ _ hLk)) ?_ ?_⟩⟩
  · rintro j v σ' Hc Hc2 hj ⟨z, o8, o9, o10, rfl, sc, hZ⟩ ⟨rfl, hv⟩
    obtain ⟨r', hr'⟩ : ∃ r', ps[j]? = some r' := ⟨_, List.getElem?_eq_getElem (by rw [← pk.1]; exact hj)⟩
    have hj2 : j < ps.length := by rw [← pk.1]; exact hj
    obtain ⟨t, rfl, ht⟩ := (pk.same sc).2 j v r' hv hr'
    obtain ⟨pr1, pr2, pr3⟩ := pok r' (List.mem_of_getElem? hr')
    have ofp : OfL ys (joinR (ps.take j)) := join_of fun r hr => (pok r (List.mem_of_mem_take hr)).1
    have pasc := ofp.asc lts.plain
    have lj := joinR_len (ps.take j)
    have lj2 := joinR_len (ps.take (j + 1))
    rw [List.length_take] at lj lj2
    have ej : spliceR (joinR (ps.take j)) (joinR [r']) = joinR (ps.take (j + 1)) := (join_take hr').symm
    obtain ⟨dx, mm, mt, c1, cs, hp1, hM1, hc1, hk1⟩ := id hZ
    refine ⟨_, rfl, z, CH, dx, _, _, rfl, hp1, hC.c, hC.a3, rfl, ?_⟩
    refine ⟨_, rfl, _, rfl, by show 1 ≤ sizeLine; decide, fun u hu => ?_⟩
    have su := Ask.Same.made1 (o := .lst [.ref t]) (Same.refl Hc2) hu
    have fu : upd Hc2 u (.lst [.ref t]) u = some (.lst [.ref t]) := upd_same
    generalize upd Hc2 u (.lst [.ref t]) = Hd at su fu ⊢
    refine ⟨z, u, dx, _, _, rfl, rfl, su _ _ hp1, .inl (SqL.of fu), z, u, ys, b, joinR (ps.take j), [r'], [.ref t], rfl, hZ.same su, hb, by omega, .inl (SqL.of fu), (PairsV.one (su _ _ ht)).runs, by show 1 ≤ 1000; decide, fun x hx => ?_, by rw [ej]; omega, fun He y2 se _ hY2 => ⟨⟨_, rfl⟩, ?_⟩⟩
    · rw [List.mem_singleton] at hx
      subst hx
      exact ⟨pr1, pr2, pr3⟩
    rw [ej] at hY2
    have s2e := su.trans se
    refine ⟨_, rfl, z, CH, dx, _, _, rfl, s2e _ _ hp1, hC.c, hC.a3, rfl, _, rfl, runsD _, runsD _, .tup (seqT_same s2e hc1) (dp_runs (hk1.same s2e)), .tup (seqT_same s2e hc1) (dp_runs (hk1.same s2e)), shaped_runs pasc, shaped_runs pasc, _, rfl, ?_⟩
    rw [eqv_runs, decide_eq_true rfl]
    refine iteF ?_
    exact ⟨_, rfl, y2, _, _, _, rfl, sc.trans s2e, hY2⟩
  rintro σ' Hc ⟨z, o8, o9, o10, rfl, sc, hZ⟩
  rw [pk.1, List.take_length] at hZ
  have ej : joinR ps = joinR rs := join_of_plain pok.pos hpos pp
  rw [ej] at hZ
  have gc := (g9.step gb).same sc
  have hLc := sc _ _ (gb.lst hL9)
  have hRc := sc _ _ (gb.lst hR9)
  have hxc := (hx9.go gb).same sc
  have hWc := (hW9.go gb).same sc
  clear g9 gb sc hL9 hR9 hx9 hW9 hLk pk pl pok pp hY ej
  -- the sum is the whole
  obtain ⟨dz, fz, pz⟩ := hZ.ins
  obtain ⟨dw, fw, pw⟩ := hWc.ins
  refine ⟨_, rfl, _, rfl, z, x, dz, dw, fz, fw, rfl, rfl, pz, pw, heq_same hZ hWc rfl lts jof ⟨_, rfl, _, rfl, iteF ?_⟩⟩
  clear hZ pz
  refine ⟨_, rfl, Nat.zero_le _, fun u hu => ?_⟩
  have su := Ask.Same.made1 (o := .lst []) (Same.refl Hc) hu
  have fu : upd Hc u (.lst []) u = some (.lst []) := upd_same
  generalize upd Hc u (.lst []) = Hd at su fu ⊢
  have jnil : spliceR (joinR rs) (joinR []) = joinR rs := splice_nilr _
  refine ⟨x, u, dw, _, _, rfl, rfl, su _ _ pw, .inl (SqL.of fu), x, u, ys, b, joinR rs, [], [], rfl, hWc.same su, hb, by omega, .inl (SqL.of fu), PairsV.nil.runs, Nat.zero_le _, (fun r hr => by cases hr), by rw [jnil]; omega, fun He y2 se _ hY2 => ⟨⟨_, rfl⟩, ?_⟩⟩
  rw [jnil] at hY2
  have s2e := su.trans se
  obtain ⟨dy, fy, py⟩ := hY2.ins
  refine ⟨_, rfl, y2, x, dy, dw, fy, fw, rfl, rfl, py, s2e _ _ pw, heq_same hY2 (hWc.same s2e) rfl lts jof ⟨_, rfl, _, rfl, iteF ?_⟩⟩
  replace gc := gc.same s2e
  replace hLc := s2e _ _ hLc
  replace hRc := s2e _ _ hRc
  replace hxc := hxc.same s2e
  replace hWc := hWc.same s2e
  clear su se s2e fu hu hY2 py pw
  refine ⟨_, rfl, Nat.zero_le _, fun u hu => ?_⟩
  have su := Ask.Same.made1 (o := .tup []) (Same.refl He) hu
  have fu : upd He u (.tup []) u = some (.tup []) := upd_same
  generalize upd He u (.tup []) = Hf at su fu ⊢
  refine ⟨x, u, ys, b, joinR rs, [], [], rfl, hWc.same su, hb, by omega, .inr (SqT.of fu), ⟨rfl, fun i v t h1 _ => by cases h1⟩, Nat.zero_le _, (fun i k hf => by cases hf), (fun _ hl => ?_), fun _ _ Hg y2 sg hY2 => ?_⟩
  · rw [show spliceR (joinR rs) (joinR (oks [])) = joinR rs from jnil] at hl
    omega
  rw [show spliceR (joinR rs) (joinR (oks [])) = joinR rs from jnil] at hY2
  have s2e := su.trans sg
  obtain ⟨dy, fy, py⟩ := hY2.ins
  obtain ⟨dw, fw, pw⟩ := (hWc.same s2e).ins
  refine ⟨_, rfl, y2, x, dy, dw, fy, fw, rfl, rfl, py, pw, heq_same hY2 (hWc.same s2e) rfl lts jof ⟨_, rfl, _, rfl, iteF ?_⟩⟩
  try dsimp only [tNext]
  replace gc := gc.same s2e
  replace hLc := s2e _ _ hLc
  replace hRc := s2e _ _ hRc
  replace hxc := hxc.same s2e
  replace hWc := hWc.same s2e
  clear su sg s2e fu hu hY2 py pw
  -- twice
  have rsl := hxc.1
  have z1 : (100000 : Nat) ≤ sizeLine := by decide
  refine ⟨_, rfl, _, rfl, _, rfl, _, rfl, R, R, _, _, rfl, rfl, hRc, hRc, by omega, fun u hu => ?_⟩
  have su := Ask.Same.made1 (o := .lst (xs ++ xs)) (Same.refl Hg) hu
  have fu : upd Hg u (.lst (xs ++ xs)) u = some (.lst (xs ++ xs)) := upd_same
  generalize upd Hg u (.lst (xs ++ xs)) = Hg2 at su fu ⊢
  have hpos2 : ∀ r ∈ rs ++ rs, 0 < r.2 := fun r hr => by
    rcases List.mem_append.mp hr with h | h <;> exact hpos r h
  have j2 : joinR (posR (rs ++ rs)) = joinR (rs ++ rs) := by rw [posR_all hpos2]
  have jl2 := joinR_len (rs ++ rs)
  rw [List.length_append] at jl2
  have ofl2 : ∀ r ∈ rs ++ rs, r.1 ∈ ys := fun r hr => by
    rcases List.mem_append.mp hr with h | h <;> exact ofl r h
  refine ⟨u, xs ++ xs, rs ++ rs, rfl, SqL.of fu, (hxc.same su).cat (hxc.same su), by rw [List.length_append]; omega, fun r hr => (lts.fit _ (ofl2 r hr)).2, fun Hh L ks sh _ hL hk => ?_⟩
  rw [j2] at hk
  refine ⟨q, L, b, ys, ks, joinR (rs ++ rs), rfl, (su.trans sh).seq (SqL.of hLc), lts, hb, SqL.of hL, hk, by omega, fun r hr => ?_, fun Hi z2 si hz2 => ?_⟩
  · obtain ⟨y, hy, e⟩ := mem_join hr
    refine ⟨e ▸ ofl2 y hy, ?_⟩
    have := join_pos hpos2 r hr
    omega
  rw [join_join hpos2] at hz2
  have s2i := (su.trans sh).trans si
  replace gc := gc.same s2i
  replace hLc := s2i _ _ hLc
  replace hRc := s2i _ _ hRc
  replace hxc := hxc.same s2i
  replace hWc := hWc.same s2i
  clear su sh si s2i fu hu hL hk
  -- whole + runs
  try dsimp only
  refine seqIf_mid (fun σ' H' => σ' = [some (.ref a), some (.ref p), some (.int (0 + (i : Int))), some (.ref q), some (.str b), some (.ref R), some (.ref x), some (.ref z), o8, o9, o10, some (.ref z2), o12, o13, o14, o15, o16] ∧ Same Hi H') (fun N hN => ?_) (fun σ' Hl hm => ?_)
  · refine ⟨_, rfl, Nat.zero_le _, fun u hu => ?_⟩
    have su := Ask.Same.made1 (o := .lst []) (Same.refl Hi) hu
    have fu : upd Hi u (.lst []) u = some (.lst []) := upd_same
    generalize upd Hi u (.lst []) = Hj at su fu ⊢
    replace hRc := su _ _ hRc
    replace hxc := hxc.same su
    replace hWc := hWc.same su
    replace hz2 := hz2.same su
    have ascr : ∀ r ∈ rs, Asc r.1 := fun r hr => (lts.fit _ (ofl r hr)).2
    refine ⟨.list (rs.map runD), .list [], .lst (SqL.of hRc) (dp_runs hxc), .lst (SqL.of fu) .nil, shaped_runsL ascr, by decide, _, rfl, ?_⟩
    rw [eqv_nilL]
    by_cases qe : rs = []
    · have e1 : (!(rs.map runD).isEmpty) = false := by rw [qe]; rfl
      rw [e1]
      refine iteF (iteF ?_)
      exact hN _ _ ⟨rfl, su⟩
    have e1 : (!(rs.map runD).isEmpty) = true := by cases rs with | nil => exact absurd rfl qe | cons _ _ => rfl
    rw [e1]
    refine iteT ?_
    obtain ⟨dw, mw, tw, cw, kw, pw, hMw, hcw, hkw⟩ := id hWc
    have ej2 : spliceR (joinR rs) (joinR rs) = joinR (rs ++ rs) := splice_join hpos hpos
    refine ⟨_, rfl, _, rfl, x, R, dw, _, xs, rfl, rfl, pw, .inl (SqL.of hRc), x, R, ys, b, joinR rs, rs, xs, rfl, hWc, hb, by omega, .inl (SqL.of hRc), hxc.runs, by omega, rok, by rw [ej2]; omega, fun He y2 se _ hY2 => ⟨⟨_, rfl⟩, ?_⟩⟩
    rw [ej2] at hY2
    obtain ⟨dy, fy, py⟩ := hY2.ins
    have hz3 := hz2.same se
    obtain ⟨d2, m2, t2, c2, k2, p2, hM2, hc2, hk2⟩ := id hz3
    refine ⟨_, rfl, y2, z2, dy, d2, fy, _, rfl, rfl, py, p2, heq_same hY2 hz3 rfl lts (join_of ofl2) ⟨_, rfl, _, rfl, iteF ?_⟩⟩
    have esz : sizeR (joinR (rs ++ rs)) = 2 * sizeR (joinR rs) := by
      rw [size_join hpos2, size_join hpos, plainR_app, List.length_append]
      omega
    refine ⟨_, rfl, z2, CH, d2, _, _, rfl, p2, hC.c, hC.a4, rfl, _, rfl, x, CH, dw, _, _, rfl, se _ _ pw, hC.c, hC.a4, rfl, _, _, rfl, rfl, .inl ⟨by decide, by decide⟩, rfl, _, rfl, ?_⟩
    rw [decide_eq_true (show V.int (sizeR (joinR (rs ++ rs))) = V.int (2 * sizeR (joinR rs)) by rw [esz])]
    exact iteF (hN _ _ ⟨rfl, su.trans se⟩)
  obtain ⟨rfl, sm⟩ := hm
  replace gc := gc.same sm
  replace hLc := sm _ _ hLc
  replace hRc := sm _ _ hRc
  replace hxc := hxc.same sm
  replace hWc := hWc.same sm
  clear sm hz2
  -- what is wrong
  obtain ⟨y0, hy0⟩ : ∃ y0, ys[0]? = some y0 := ⟨_, List.getElem?_eq_getElem (by have := lts.l0; omega)⟩
  have hy0m : y0 ∈ ys := List.mem_of_getElem? hy0
  have hv0 : atI (ys.map V.str) 0 = some (.str y0) := at_by (j := 0) rfl (by rw [List.getElem?_map, hy0]; rfl)
  have y0l := (lts.ok y0 hy0m).2.1
  refine ⟨by show 2 ≤ sizeLine; decide, fun b0 hb0 => ?_⟩
  have st := Ask.Same.made1 (o := .tup [.str "", .int 1]) (Same.refl Hl) hb0
  replace gc := gc.new (o := .tup [.str "", .int 1]) hb0
  replace hLc := st _ _ hLc
  replace hRc := st _ _ hRc
  replace hxc := hxc.same st
  replace hWc := hWc.same st
  have f0 : upd Hl b0 (.tup [.str "", .int 1]) b0 = some (.tup [.str "", .int 1]) := upd_same
  clear st hb0
  generalize upd Hl b0 (.tup [.str "", .int 1]) = J0 at gc hLc hRc hxc hWc f0 ⊢
  refine ⟨_, rfl, q, _, _, V.str y0, rfl, rfl, SqL.of hLc, hv0, by show 2 ≤ sizeLine; decide, fun b1 hb1 => ?_⟩
  have st := Ask.Same.made1 (o := .tup [.str y0, .int 0]) (Same.refl J0) hb1
  replace gc := gc.new (o := .tup [.str y0, .int 0]) hb1
  replace hLc := st _ _ hLc
  replace hRc := st _ _ hRc
  replace f0 := st _ _ f0
  replace hxc := hxc.same st
  replace hWc := hWc.same st
  have f1 : upd J0 b1 (.tup [.str y0, .int 0]) b1 = some (.tup [.str y0, .int 0]) := upd_same
  clear st hb1
  generalize upd J0 b1 (.tup [.str y0, .int 0]) = J1 at gc hLc hRc f0 hxc hWc f1 ⊢
  refine ⟨_, rfl, q, _, _, V.str y0, rfl, rfl, SqL.of hLc, hv0, by show 1 ≤ sizeLine; decide, fun b2 hb2 => ?_⟩
  have st := Ask.Same.made1 (o := .tup [.str y0]) (Same.refl J1) hb2
  replace gc := gc.new (o := .tup [.str y0]) hb2
  replace hLc := st _ _ hLc
  replace hRc := st _ _ hRc
  replace f0 := st _ _ f0
  replace f1 := st _ _ f1
  replace hxc := hxc.same st
  replace hWc := hWc.same st
  have f2 : upd J1 b2 (.tup [.str y0]) b2 = some (.tup [.str y0]) := upd_same
  clear st hb2
  generalize upd J1 b2 (.tup [.str y0]) = J2 at gc hLc hRc f0 f1 hxc hWc f2 ⊢
  refine ⟨_, rfl, q, _, _, V.str y0, rfl, rfl, SqL.of hLc, hv0, _, _, rfl, rfl, ⟨by decide, by decide, by decide⟩, _, _, rfl, rfl, by show 2 ≤ sizeLine; decide, fun b3 hb3 => ?_⟩
  have st := Ask.Same.made1 (o := .tup [.str y0, .int ((10 : Int) ^ Int.toNat 30 + 1)]) (Same.refl J2) hb3
  replace gc := gc.new (o := .tup [.str y0, .int ((10 : Int) ^ Int.toNat 30 + 1)]) hb3
  replace hLc := st _ _ hLc
  replace hRc := st _ _ hRc
  replace f0 := st _ _ f0
  replace f1 := st _ _ f1
  replace f2 := st _ _ f2
  replace hxc := hxc.same st
  replace hWc := hWc.same st
  have f3 : upd J2 b3 (.tup [.str y0, .int ((10 : Int) ^ Int.toNat 30 + 1)]) b3 = some (.tup [.str y0, .int ((10 : Int) ^ Int.toNat 30 + 1)]) := upd_same
  clear st hb3
  generalize upd J2 b3 (.tup [.str y0, .int ((10 : Int) ^ Int.toNat 30 + 1)]) = J3 at gc hLc hRc f0 f1 f2 hxc hWc f3 ⊢
  rw [show (10 : Int) ^ Int.toNat 30 + 1 = 1000000000000000000000000000001 from by decide] at f3
  refine ⟨_, rfl, q, _, _, V.str y0, rfl, rfl, SqL.of hLc, hv0, _, _, rfl, rfl, by show 1 + y0.length ≤ sizeLine; omega, _, _, rfl, rfl, ?_, by show 2 ≤ sizeLine; decide, fun b4 hb4 => ?_⟩
  · rw [Str.length_append]
    show 1 + y0.length + 1 ≤ sizeLine
    omega
  have st := Ask.Same.made1 (o := .tup [.str (("~" : Str) ++ y0 ++ ("_" : Str)), .int 1]) (Same.refl J3) hb4
  replace gc := gc.new (o := .tup [.str (("~" : Str) ++ y0 ++ ("_" : Str)), .int 1]) hb4
  replace hLc := st _ _ hLc
  replace hRc := st _ _ hRc
  replace f0 := st _ _ f0
  replace f1 := st _ _ f1
  replace f2 := st _ _ f2
  replace f3 := st _ _ f3
  replace hxc := hxc.same st
  replace hWc := hWc.same st
  have f4 : upd J3 b4 (.tup [.str (("~" : Str) ++ y0 ++ ("_" : Str)), .int 1]) b4 = some (.tup [.str (("~" : Str) ++ y0 ++ ("_" : Str)), .int 1]) := upd_same
  clear st hb4
  generalize upd J3 b4 (.tup [.str (("~" : Str) ++ y0 ++ ("_" : Str)), .int 1]) = J4 at gc hLc hRc f0 f1 f2 f3 hxc hWc f4 ⊢
  refine ⟨by show 6 ≤ sizeLine; decide, fun bt hbt => ?_⟩
  have st := Ask.Same.made1 (o := .lst [.ref b0, .ref b1, .ref b2, .ref b3, .ref b4, .non]) (Same.refl J4) hbt
  replace gc := gc.new (o := .lst [.ref b0, .ref b1, .ref b2, .ref b3, .ref b4, .non]) hbt
  replace hLc := st _ _ hLc
  replace hRc := st _ _ hRc
  replace f0 := st _ _ f0
  replace f1 := st _ _ f1
  replace f2 := st _ _ f2
  replace f3 := st _ _ f3
  replace f4 := st _ _ f4
  replace hxc := hxc.same st
  replace hWc := hWc.same st
  have ft : upd J4 bt (.lst [.ref b0, .ref b1, .ref b2, .ref b3, .ref b4, .non]) bt = some (.lst [.ref b0, .ref b1, .ref b2, .ref b3, .ref b4, .non]) := upd_same
  clear st hbt
  generalize upd J4 bt (.lst [.ref b0, .ref b1, .ref b2, .ref b3, .ref b4, .non]) = J5 at gc hLc hRc f0 f1 f2 f3 f4 hxc hWc ft ⊢
  have bad : BadV J5 y0 [.ref b0, .ref b1, .ref b2, .ref b3, .ref b4, .non] := ⟨b0, b1, b2, b3, b4, rfl, f0, f1, f2, f3, f4⟩
  clear f0 f1 f2 f3 f4
  have bl : ([.ref b0, .ref b1, .ref b2, .ref b3, .ref b4, .non] : List V).length = 6 := rfl
  generalize ([.ref b0, .ref b1, .ref b2, .ref b3, .ref b4, .non] : List V) = bs at ft bad bl ⊢
  -- way, at
  refine ⟨_, rfl, p, c, ns, 6, _, rfl, gc.pen, by omega, by decide, by decide, fun K1 wy g1 w0 w1 => ?_⟩
  replace gc := gc.step g1
  replace hLc := g1.at hLc (by intro _ z; cases z)
  replace hRc := g1.at hRc (by intro _ z; cases z)
  replace ft := g1.at ft (by intro _ z; cases z)
  replace hxc := hxc.go g1
  replace hWc := hWc.go g1
  replace bad := bad.go g1
  clear g1
  refine ⟨_, rfl, _, rfl, R, _, rfl, .inl (SqL.of hRc), _, _, rfl, rfl, p, c, ns, _, _, rfl, gc.pen, by omega, by omega, by omega, fun K2 n g1 n0 n1 => ⟨_, _, rfl, ?_⟩⟩
  replace gc := gc.step g1
  replace hLc := g1.at hLc (by intro _ z; cases z)
  replace hRc := g1.at hRc (by intro _ z; cases z)
  replace ft := g1.at ft (by intro _ z; cases z)
  replace hxc := hxc.go g1
  replace hWc := hWc.go g1
  replace bad := bad.go g1
  clear g1
  obtain ⟨wy, rfl⟩ : ∃ k : Nat, wy = (k : Int) := ⟨wy.toNat, by omega⟩
  obtain ⟨n, rfl⟩ : ∃ k : Nat, n = (k : Int) := ⟨n.toNat, by omega⟩
  have wy6 : wy < 6 := by omega
  have nle : n ≤ rs.length := by omega
  -- due
  refine ⟨by show 6 ≤ sizeLine; decide, fun u1 hu1 => ?_⟩
  have st := Ask.Same.made1 (o := .lst [.str "letter", .str "count", .str "runs", .str "count", .str "letter", .str "runs"]) (Same.refl K2) hu1
  replace gc := gc.new (o := .lst [.str "letter", .str "count", .str "runs", .str "count", .str "letter", .str "runs"]) hu1
  replace hLc := st _ _ hLc
  replace hRc := st _ _ hRc
  replace ft := st _ _ ft
  replace hxc := hxc.same st
  replace hWc := hWc.same st
  replace bad := bad.same st
  have fu : upd K2 u1 (.lst [.str "letter", .str "count", .str "runs", .str "count", .str "letter", .str "runs"]) u1 = some (.lst [.str "letter", .str "count", .str "runs", .str "count", .str "letter", .str "runs"]) := upd_same
  clear st hu1
  generalize upd K2 u1 (.lst [.str "letter", .str "count", .str "runs", .str "count", .str "letter", .str "runs"]) = J6 at gc hLc hRc ft hxc hWc bad fu ⊢
  refine ⟨_, rfl, u1, _, _, _, rfl, rfl, SqL.of fu, at_by rfl (kd_word wy6), _, rfl, by show 2 ≤ sizeLine; decide, fun ud hud => ?_⟩
  clear fu
  have st := Ask.Same.made1 (o := .tup [.str (kwS (kd wy)), .int (n : Int)]) (Same.refl J6) hud
  replace gc := gc.new (o := .tup [.str (kwS (kd wy)), .int (n : Int)]) hud
  replace hLc := st _ _ hLc
  replace hRc := st _ _ hRc
  replace ft := st _ _ ft
  replace hxc := hxc.same st
  replace hWc := hWc.same st
  replace bad := bad.same st
  have fdu : upd J6 ud (.tup [.str (kwS (kd wy)), .int (n : Int)]) ud = some (.tup [.str (kwS (kd wy)), .int (n : Int)]) := upd_same
  clear st hud
  generalize upd J6 ud (.tup [.str (kwS (kd wy)), .int (n : Int)]) = J7 at gc hLc hRc ft hxc hWc bad fdu ⊢
  -- the wrong ones
  obtain ⟨wv, hwv, _⟩ := bad.at (K := K) lts hy0m wy6
  refine ⟨_, rfl, _, rfl, _, rfl, R, xs, rfl, SqL.of hRc, fun t1 ht1 => ?_⟩
  rw [cutV_to]
  have st := Ask.Same.made1 (o := .lst (xs.take n)) (Same.refl J7) ht1
  replace gc := gc.new (o := .lst (xs.take n)) ht1
  replace hLc := st _ _ hLc
  replace hRc := st _ _ hRc
  replace ft := st _ _ ft
  replace fdu := st _ _ fdu
  replace hxc := hxc.same st
  replace hWc := hWc.same st
  replace bad := bad.same st
  have e1 : upd J7 t1 (.lst (xs.take n)) t1 = some (.lst (xs.take n)) := upd_same
  clear st ht1
  generalize upd J7 t1 (.lst (xs.take n)) = J8 at gc hLc hRc ft fdu hxc hWc bad e1 ⊢
  refine ⟨_, rfl, _, rfl, bt, _, _, wv, rfl, rfl, SqL.of ft, at_by rfl hwv, by show 1 ≤ sizeLine; decide, fun t2 ht2 => ?_⟩
  have st := Ask.Same.made1 (o := .lst [wv]) (Same.refl J8) ht2
  replace gc := gc.new (o := .lst [wv]) ht2
  replace hLc := st _ _ hLc
  replace hRc := st _ _ hRc
  replace ft := st _ _ ft
  replace fdu := st _ _ fdu
  replace e1 := st _ _ e1
  replace hxc := hxc.same st
  replace hWc := hWc.same st
  replace bad := bad.same st
  have e2 : upd J8 t2 (.lst [wv]) t2 = some (.lst [wv]) := upd_same
  clear st ht2
  generalize upd J8 t2 (.lst [wv]) = J9 at gc hLc hRc ft fdu e1 hxc hWc bad e2 ⊢
  refine ⟨t1, t2, _, _, rfl, rfl, e1, e2, by rw [List.length_take]; show _ + 1 ≤ _; omega, fun t3 ht3 => ?_⟩
  have st := Ask.Same.made1 (o := .lst (xs.take n ++ [wv])) (Same.refl J9) ht3
  replace gc := gc.new (o := .lst (xs.take n ++ [wv])) ht3
  replace hLc := st _ _ hLc
  replace hRc := st _ _ hRc
  replace ft := st _ _ ft
  replace fdu := st _ _ fdu
  replace e1 := st _ _ e1
  replace e2 := st _ _ e2
  replace hxc := hxc.same st
  replace hWc := hWc.same st
  replace bad := bad.same st
  have e3 : upd J9 t3 (.lst (xs.take n ++ [wv])) t3 = some (.lst (xs.take n ++ [wv])) := upd_same
  clear st ht3
  generalize upd J9 t3 (.lst (xs.take n ++ [wv])) = J10 at gc hLc hRc ft fdu e1 e2 hxc hWc bad e3 ⊢
  refine ⟨_, rfl, _, rfl, _, rfl, R, xs, rfl, SqL.of hRc, fun t4 ht4 => ?_⟩
  rw [cutV_from]
  have st := Ask.Same.made1 (o := .lst (xs.drop n)) (Same.refl J10) ht4
  replace gc := gc.new (o := .lst (xs.drop n)) ht4
  replace hLc := st _ _ hLc
  replace hRc := st _ _ hRc
  replace ft := st _ _ ft
  replace fdu := st _ _ fdu
  replace e1 := st _ _ e1
  replace e2 := st _ _ e2
  replace e3 := st _ _ e3
  replace hxc := hxc.same st
  replace hWc := hWc.same st
  replace bad := bad.same st
  have e4 : upd J10 t4 (.lst (xs.drop n)) t4 = some (.lst (xs.drop n)) := upd_same
  clear st ht4
  generalize upd J10 t4 (.lst (xs.drop n)) = J11 at gc hLc hRc ft fdu e1 e2 e3 hxc hWc bad e4 ⊢
  refine ⟨t3, t4, _, _, rfl, rfl, e3, e4, by rw [List.length_append, List.length_take, List.length_drop]; show _ + 1 + _ ≤ _; omega, fun t5 ht5 => ?_⟩
  have st := Ask.Same.made1 (o := .lst (xs.take n ++ [wv] ++ xs.drop n)) (Same.refl J11) ht5
  replace gc := gc.new (o := .lst (xs.take n ++ [wv] ++ xs.drop n)) ht5
  replace hLc := st _ _ hLc
  replace hRc := st _ _ hRc
  replace ft := st _ _ ft
  replace fdu := st _ _ fdu
  replace e1 := st _ _ e1
  replace e2 := st _ _ e2
  replace e3 := st _ _ e3
  replace e4 := st _ _ e4
  replace hxc := hxc.same st
  replace hWc := hWc.same st
  replace bad := bad.same st
  have e5 : upd J11 t5 (.lst (xs.take n ++ [wv] ++ xs.drop n)) t5 = some (.lst (xs.take n ++ [wv] ++ xs.drop n)) := upd_same
  clear st ht5
  generalize upd J11 t5 (.lst (xs.take n ++ [wv] ++ xs.drop n)) = J12 at gc hLc hRc ft fdu e1 e2 e3 e4 hxc hWc bad e5 ⊢
  clear e1 e2 e3 e4
  refine ⟨_, rfl, _, rfl, _, rfl, _, rfl, p, c, ns, 6, _, rfl, gc.pen, by omega, by decide, by decide, fun K3 wz g1 z0 z1' => ?_⟩
  obtain ⟨wz, rfl⟩ : ∃ k : Nat, wz = (k : Int) := ⟨wz.toNat, by omega⟩
  have wz6 : wz < 6 := by omega
  replace gc := gc.step g1
  replace hLc := g1.at hLc (by intro _ z; cases z)
  replace hRc := g1.at hRc (by intro _ z; cases z)
  replace ft := g1.at ft (by intro _ z; cases z)
  replace fdu := g1.at fdu (by intro _ z; cases z)
  replace e5 := g1.at e5 (by intro _ z; cases z)
  replace hxc := hxc.go g1
  replace hWc := hWc.go g1
  replace bad := bad.go g1
  clear g1
  obtain ⟨wu, hwu, _⟩ := bad.at (K := K) lts hy0m wz6
  refine ⟨bt, _, _, wu, rfl, rfl, SqL.of ft, at_by rfl hwu, by show 1 ≤ sizeLine; decide, fun t6 ht6 => ?_⟩
  have st := Ask.Same.made1 (o := .lst [wu]) (Same.refl K3) ht6
  replace gc := gc.new (o := .lst [wu]) ht6
  replace hLc := st _ _ hLc
  replace hRc := st _ _ hRc
  replace ft := st _ _ ft
  replace fdu := st _ _ fdu
  replace e5 := st _ _ e5
  replace hxc := hxc.same st
  replace hWc := hWc.same st
  replace bad := bad.same st
  have e6 : upd K3 t6 (.lst [wu]) t6 = some (.lst [wu]) := upd_same
  clear st ht6
  generalize upd K3 t6 (.lst [wu]) = J13 at gc hLc hRc ft fdu e5 hxc hWc bad e6 ⊢
  refine ⟨t5, t6, _, _, rfl, rfl, e5, e6, by rw [List.length_append, List.length_append, List.length_take, List.length_drop]; show _ + 1 + _ + 1 ≤ _; omega, fun t7 ht7 => ?_⟩
  have st := Ask.Same.made1 (o := .lst (xs.take n ++ [wv] ++ xs.drop n ++ [wu])) (Same.refl J13) ht7
  replace gc := gc.new (o := .lst (xs.take n ++ [wv] ++ xs.drop n ++ [wu])) ht7
  replace hLc := st _ _ hLc
  replace hRc := st _ _ hRc
  replace ft := st _ _ ft
  replace fdu := st _ _ fdu
  replace e5 := st _ _ e5
  replace e6 := st _ _ e6
  replace hxc := hxc.same st
  replace hWc := hWc.same st
  replace bad := bad.same st
  have e7 : upd J13 t7 (.lst (xs.take n ++ [wv] ++ xs.drop n ++ [wu])) t7 = some (.lst (xs.take n ++ [wv] ++ xs.drop n ++ [wu])) := upd_same
  clear st ht7
  generalize upd J13 t7 (.lst (xs.take n ++ [wv] ++ xs.drop n ++ [wu])) = J14 at gc hLc hRc ft fdu e5 e6 hxc hWc bad e7 ⊢
  obtain ⟨wv', hwv', hws⟩ := bad.at (K := K) lts hy0m wy6
  cases hwv.symm.trans hwv'
  obtain ⟨wu', hwu', hus⟩ := bad.at (K := K) lts hy0m wz6
  cases hwu.symm.trans hwu'
  have sws := StsV.one hws
  have sus := StsV.one hus
  have sts : StsV K J14 ys (xs.take n ++ [wv] ++ xs.drop n ++ [wu]) ((rs.take n).map Stt.ok ++ [Stt.no (kd wy)] ++ (rs.drop n).map Stt.ok ++ [Stt.no (kd wz)]) :=
    (((StsV.of (hxc.take n) fun r hr => rok r (List.mem_of_mem_take hr)).app sws).app (StsV.of (hxc.drop n) fun r hr => rok r (List.mem_of_mem_drop hr))).app sus
  have wl : ((rs.take n).map Stt.ok ++ [Stt.no (kd wy)] ++ (rs.drop n).map Stt.ok ++ [Stt.no (kd wz)]).length ≤ 1000 := by
    rw [List.length_append, List.length_append, List.length_append, List.length_map, List.length_map, List.length_take, List.length_drop]
    show _ + 1 + _ + 1 ≤ _
    omega
  have wb : fbad ((rs.take n).map Stt.ok ++ [Stt.no (kd wy)] ++ (rs.drop n).map Stt.ok ++ [Stt.no (kd wz)]) = some (n, kd wy) := by
    rw [List.append_assoc, List.append_assoc]
    have := oks_at (rs.take n) (kd wy) ((rs.drop n).map Stt.ok ++ [Stt.no (kd wz)])
    rw [List.length_take, Nat.min_eq_left nle] at this
    exact this
  refine ⟨x, t7, ys, b, joinR rs, _, _, rfl, hWc, hb, by omega, .inl (SqL.of e7), sts, wl, fun i2 k2 hf K4 q2 s4 e => ?_, fun hf => ?_, fun hf => ?_⟩
  rotate_left
  · rw [wb] at hf; cases hf
  · rw [wb] at hf; cases hf
  rw [wb] at hf
  cases hf
  replace gc := gc.same s4
  replace hLc := s4 _ _ hLc
  replace fdu := s4 _ _ fdu
  clear sts wl wb s4
  refine ⟨_, rfl, .tuple [.str (kwS (kd wy)), .int (n : Nat)], .tuple [.str (kwS (kd wy)), .int (n : Nat)], .tup (SqT.of e) (.cons (.str _) (.cons (.int _) .nil)), .tup (SqT.of fdu) (.cons (.str _) (.cons (.int _) .nil)), sh_kw _ _, sh_kw _ _, _, rfl, ?_⟩
  rw [show PyData.eqv (.tuple [.str (kwS (kd wy)), .int (n : Nat)]) (.tuple [.str (kwS (kd wy)), .int (n : Nat)]) = true from PySem.SeqAt.eqv_refl _ (lay_kw (kd wy) n)]
  refine iteF ?_
  try dsimp only [tNext]
  refine ⟨_, rfl, _, rfl, _, rfl, p, c, q, ns, _, ys, b, rfl, gc.pen, by omega, SqL.of hLc, lts, hb, fun K5 g5 => ?_⟩
  have gf := (gc.step g5).mono (B := 10000 * (i + 1)) (by omega)
  exact ⟨_, rfl, iteF ⟨_, _, _, _, _, _, _, _, _, _, _, _, _, _, _, rfl, gf⟩⟩
end
end Ask

namespace Ask
open PySem L2 PySem.Spec PyProof.Rows
theorem exm_of {K : PySem.W.Frag} {S T : Addr} {b : Bool} (h1 : PySem.W.subIn K (.ref T) (.type "BaseException") = some true) (h2 : PySem.W.isClsIn K T = true) (h3 : PySem.W.typeIn K (.ref T) = some (.type "type")) (h4 : PySem.W.subIn K (.ref S) (.ref T) = some b) :
    PySem.W.exmOne K (.ref S) (.ref T) = some b := by
  have e1 : (PySem.W.subIn K (.ref T) (.type "BaseException") == some true) = true := by rw [h1] <;> rfl
  have e2 : ((PySem.W.clsIn K T).isSome && PySem.W.typeIn K (.ref T) == some (.type "type")) = true := by
    have h2' : (PySem.W.clsIn K T).isSome = true := h2
    rw [h2', h3] <;> rfl
  show (if (PySem.W.subIn K (.ref T) (.type "BaseException") == some true) = true then (if ((PySem.W.clsIn K T).isSome && PySem.W.typeIn K (.ref T) == some (.type "type")) = true then PySem.W.subIn K (.ref S) (.ref T) else none) else none) = some b
  rw [if_pos e1, if_pos e2]
  exact h4
theorem strKeys_of {es : Array DictEntry} (h : (es.toList.all fun e => match e.key with | .str _ _ => true | _ => false) = true) : StrKeys es := fun e he => by
  have q := List.all_eq_true.mp h e (by simpa using he)
  cases k : e.key <;> rw [k] at q <;> first | exact ⟨_, _, rfl⟩ | cases q
theorem all_mk {P : Program} {w : World} {K : PySem.W.Frag} {h : Heap} {mg : Str → Option Value} {fa : Addr} (X : K.In h) (G : h.Ns mainGlobals mg) (hfa : mg "law" = some (.ref fa))
    {f0 : Addr} {od0 an0 : Option Addr} {sl0 : Array (Option Value)} {oc0 kV0 dc0 pm0 cd0 ct0 : Value}
    {f1 : Addr} {od1 an1 : Option Addr} {sl1 : Array (Option Value)} {oc1 kV1 dc1 pm1 cd1 ct1 : Value}
    {f2 : Addr} {od2 an2 : Option Addr} {sl2 : Array (Option Value)} {oc2 kV2 dc2 pm2 cd2 ct2 : Value}
    {f3 : Addr} {od3 an3 : Option Addr} {sl3 : Array (Option Value)} {oc3 kV3 dc3 pm3 cd3 ct3 : Value}
    {f4 : Addr} {od4 an4 : Option Addr} {sl4 : Array (Option Value)} {oc4 kV4 dc4 pm4 cd4 ct4 : Value}
    {f5 : Addr} {od5 an5 : Option Addr} {sl5 : Array (Option Value)} {oc5 kV5 dc5 pm5 cd5 ct5 : Value}
    {f6 : Addr} {od6 an6 : Option Addr} {sl6 : Array (Option Value)} {oc6 kV6 dc6 pm6 cd6 ct6 : Value}
    {fw : Addr} {odw anw : Option Addr} {slw : Array (Option Value)} {ocw kVw dcw pmw cdw ctw : Value}
    {fv : Addr} {odv anv : Option Addr} {slv : Array (Option Value)} {ocv kVv dcv pmv cdv ctv : Value}
    {fc : Addr} {odc anc : Option Addr} {slc : Array (Option Value)} {occ kVc dcc pmc cdc ctc : Value}
    {fd : Addr} {odd and : Option Addr} {sld : Array (Option Value)} {ocd kVd dcd pmd cdd ctd : Value}
    {ff : Addr} {odf anf : Option Addr} {slf : Array (Option Value)} {ocf kVf dcf pmf cdf ctf : Value}
    {fg : Addr} {odg ang : Option Addr} {slg : Array (Option Value)} {ocg kVg dcg pmg cdg ctg : Value}
    {fh : Addr} {odh anh : Option Addr} {slh : Array (Option Value)} {och kVh dch pmh cdh cth : Value}
    {fi : Addr} {odi ani : Option Addr} {sli : Array (Option Value)} {oci kVi dci pmi cdi cti : Value}
    {fk : Addr} {odk ank : Option Addr} {slk : Array (Option Value)} {ock kVk dck pmk cdk ctk : Value}
    {fj : Addr} {odj anj : Option Addr} {slj : Array (Option Value)} {ocj kVj dcj pmj cdj ctj : Value}
    {fm : Addr} {odm anm : Option Addr} {slm : Array (Option Value)} {ocm kVm dcm pmm cdm ctm : Value}
    {fn : Addr} {odn ann : Option Addr} {sln : Array (Option Value)} {ocn kVn dcn pmn cdn ctn : Value}
    {fo : Addr} {odo ano : Option Addr} {slo : Array (Option Value)} {oco kVo dco pmo cdo cto : Value}
    {fp : Addr} {odp anp : Option Addr} {slp : Array (Option Value)} {ocp kVp dcp pmp cdp ctp : Value}
    {fq : Addr} {odq anq : Option Addr} {slq : Array (Option Value)} {ocq kVq dcq pmq cdq ctq : Value}
    {fr : Addr} {odr anr : Option Addr} {slr : Array (Option Value)} {ocr kVr dcr pmr cdr ctr : Value}
    {fs : Addr} {ods ans : Option Addr} {sls : Array (Option Value)} {ocs kVs dcs pms cds cts : Value}
    {fu : Addr} {odu anu : Option Addr} {slu : Array (Option Value)} {ocu kVu dcu pmu cdu ctu : Value}
    {fx : Addr} {odx anx : Option Addr} {slx : Array (Option Value)} {ocx kVx dcx pmx cdx ctx : Value}
    {f7 : Addr} {od7 an7 : Option Addr} {sl7 : Array (Option Value)} {oc7 kV7 dc7 pm7 cd7 ct7 : Value}
    {fz : Addr} {odz anz : Option Addr} {slz : Array (Option Value)} {ocz kVz dcz pmz cdz ctz : Value}
    {f8 : Addr} {od8 an8 : Option Addr} {sl8 : Array (Option Value)} {oc8 kV8 dc8 pm8 cd8 ct8 : Value}
    {fe : Addr} {ode ane : Option Addr} {sle : Array (Option Value)} {oce kVe dce pme cde cte : Value}
    {f9 : Addr} {od9 an9 : Option Addr} {sl9 : Array (Option Value)} {oc9 kV9 dc9 pm9 cd9 ct9 : Value}
    {CB : Addr}
    {fB : Addr} {odB anB : Option Addr} {slB : Array (Option Value)} {ocB kVB dcB pmB cdB ctB : Value}
    {nmB qB : Str} {NB : Addr} {bsB bmB : List Value} {snB : List Str} {subB : List Value} {abB : Bool} {colB : Option Bool} {ddB : Option Addr} {m0B m1B m2B m3B m5B : Option Value}
    {CM : Addr}
    {fM : Addr} {odM anM : Option Addr} {slM : Array (Option Value)} {ocM kVM dcM pmM cdM ctM : Value}
    {nmM qM : Str} {NM : Addr} {bsM bmM : List Value} {snM : List Str} {subM : List Value} {abM : Bool} {colM : Option Bool} {ddM : Option Addr} {m0M m1M m2M m3M m5M : Option Value}
    {CU : Addr}
    {fU : Addr} {odU anU : Option Addr} {slU : Array (Option Value)} {ocU kVU dcU pmU cdU ctU : Value}
    {nmU qU : Str} {NU : Addr} {bsU bmU : List Value} {snU : List Str} {subU : List Value} {abU : Bool} {colU : Option Bool} {ddU : Option Addr} {m0U m1U m2U m3U m5U : Option Value}
    {CT : Addr}
    {fT : Addr} {odT anT : Option Addr} {slT : Array (Option Value)} {ocT kVT dcT pmT cdT ctT : Value}
    {nmT qT : Str} {NT : Addr} {bsT bmT : List Value} {snT : List Str} {subT : List Value} {abT : Bool} {colT : Option Bool} {ddT : Option Addr} {m0T m1T m2T m3T m5T : Option Value}
    {CC : Addr}
    {fC : Addr} {odC anC : Option Addr} {slC : Array (Option Value)} {ocC kVC dcC pmC cdC ctC : Value}
    {nmC qC : Str} {NC : Addr} {bsC bmC : List Value} {snC : List Str} {subC : List Value} {abC : Bool} {colC : Option Bool} {ddC : Option Addr} {m0C m1C m2C m3C m5C : Option Value}
    {CV : Addr}
    {fV : Addr} {odV anV : Option Addr} {slV : Array (Option Value)} {ocV kVV dcV pmV cdV ctV : Value}
    {nmV qV : Str} {NV : Addr} {bsV bmV : List Value} {snV : List Str} {subV : List Value} {abV : Bool} {colV : Option Bool} {ddV : Option Addr} {m0V m1V m2V m3V m5V : Option Value}
    {CZ : Addr}
    {CL : Addr}
    {fL : Addr} {odL anL : Option Addr} {slL : Array (Option Value)} {ocL kVL dcL pmL cdL ctL : Value}
    {fH : Addr} {odH anH : Option Addr} {slH : Array (Option Value)} {ocH kVH dcH pmH cdH ctH : Value}
    {fQ : Addr} {odQ anQ : Option Addr} {slQ : Array (Option Value)} {ocQ kVQ dcQ pmQ cdQ ctQ : Value}
    {CY : Addr}
    {fY : Addr} {odY anY : Option Addr} {slY : Array (Option Value)} {ocY kVY dcY pmY cdY ctY : Value}
    {TY aDY : Addr} {oTY oDY : Obj} {nTY nDY : Nat}
    {fW : Addr} {odW anW : Option Addr} {slW : Array (Option Value)} {ocW kVW dcW pmW cdW ctW : Value}
    {fA : Addr} {odA anA : Option Addr} {slA : Array (Option Value)} {ocA kVA dcA pmA cdA ctA : Value}
    {fE : Addr} {odE anE : Option Addr} {slE : Array (Option Value)} {ocE kVE dcE pmE cdE ctE : Value}
    {pP : Addr} {rsP : List Value}
    {fP : Addr} {odP anP : Option Addr} {slP : Array (Option Value)} {ocP kVP dcP pmP cdP ctP : Value}
    {CK : Addr}
    {fK : Addr} {odK anK : Option Addr} {slK : Array (Option Value)} {ocK kVK dcK pmK cdK ctK : Value}
    {gS : Tok}
    {gW : Tok}
    {gM : Tok}
    {gL : Tok}
    {T_gB : Addr} {o_gB : Obj} {j_gB : Array Value} {n_gB : Nat}
    {gC : Tok}
    {gR : Tok}
    {gP : Tok}
    {nmL qL : Str} {NL : Addr} {bsL bmL : List Value} {hdctL : Bool} {snL : List Str} {subL : List Value} {abL : Bool} {colL : Option Bool} {ddL : Option Addr} {m0L m1L m2L m3L m5L : Option Value} {newL : String} {oNL : Obj} {esNL : Array DictEntry} {epNL : Nat}
    {nmY qY : Str} {NY : Addr} {bsY bmY : List Value} {hdctY : Bool} {snY : List Str} {subY : List Value} {abY : Bool} {colY : Option Bool} {ddY : Option Addr} {m0Y m1Y m2Y m3Y m5Y : Option Value} {newY : String} {oNY : Obj} {esNY : Array DictEntry} {epNY : Nat}
    (hn : PySem.W.specialIn K (.builtin "object.__class__") "__get__" = some (some (.builtin "getset_descriptor.__get__")))
    (ht : PySem.W.takesIn K (.builtin "object.__class__") = some true)
    (a0 : PySem.W.nsIn K mainGlobals "is_short_word" = some (some (.ref f0)))
    (l0 : K.lookup f0 = some ⟨oc0, od0, .func (PySem.W.fnOf "is_short_word" "is_short_word" (defArgs s_is_short_word) (defBody s_is_short_word) (defScope s_is_short_word) .none kV0 dc0 pm0 an0 cd0 ct0), sl0⟩)
    (c0 : PySem.W.codeIn K cd0 "is_short_word" = true)
    (k0 : PySem.W.keepIn K (.ref f0) = true)
    (a1 : PySem.W.nsIn K mainGlobals "copied" = some (some (.ref f1)))
    (l1 : K.lookup f1 = some ⟨oc1, od1, .func (PySem.W.fnOf "copied" "copied" (defArgs s_copied) (defBody s_copied) (defScope s_copied) .none kV1 dc1 pm1 an1 cd1 ct1), sl1⟩)
    (c1 : PySem.W.codeIn K cd1 "copied" = true)
    (k1 : PySem.W.keepIn K (.ref f1) = true)
    (a2 : PySem.W.nsIn K mainGlobals "is_letter" = some (some (.ref f2)))
    (l2 : K.lookup f2 = some ⟨oc2, od2, .func (PySem.W.fnOf "is_letter" "is_letter" (defArgs s_is_letter) (defBody s_is_letter) (defScope s_is_letter) .none kV2 dc2 pm2 an2 cd2 ct2), sl2⟩)
    (c2 : PySem.W.codeIn K cd2 "is_letter" = true)
    (k2 : PySem.W.keepIn K (.ref f2) = true)
    (a3 : PySem.W.nsIn K mainGlobals "_law_pen" = some (some (.ref f3)))
    (l3 : K.lookup f3 = some ⟨oc3, od3, .func (PySem.W.fnOf "_law_pen" "_law_pen" (defArgs s__law_pen) (defBody s__law_pen) (defScope s__law_pen) .none kV3 dc3 pm3 an3 cd3 ct3), sl3⟩)
    (c3 : PySem.W.codeIn K cd3 "_law_pen" = true)
    (k3 : PySem.W.keepIn K (.ref f3) = true)
    (a4 : PySem.W.nsIn K mainGlobals "_law_draw" = some (some (.ref f4)))
    (l4 : K.lookup f4 = some ⟨oc4, od4, .func (PySem.W.fnOf "_law_draw" "_law_draw" (defArgs s__law_draw) (defBody s__law_draw) (defScope s__law_draw) .none kV4 dc4 pm4 an4 cd4 ct4), sl4⟩)
    (c4 : PySem.W.codeIn K cd4 "_law_draw" = true)
    (k4 : PySem.W.keepIn K (.ref f4) = true)
    (a5 : PySem.W.nsIn K mainGlobals "_law_pick" = some (some (.ref f5)))
    (l5 : K.lookup f5 = some ⟨oc5, od5, .func (PySem.W.fnOf "_law_pick" "_law_pick" (defArgs s__law_pick) (defBody s__law_pick) (defScope s__law_pick) .none kV5 dc5 pm5 an5 cd5 ct5), sl5⟩)
    (c5 : PySem.W.codeIn K cd5 "_law_pick" = true)
    (k5 : PySem.W.keepIn K (.ref f5) = true)
    (a6 : PySem.W.nsIn K mainGlobals "_law_letters" = some (some (.ref f6)))
    (l6 : K.lookup f6 = some ⟨oc6, od6, .func (PySem.W.fnOf "_law_letters" "_law_letters" (defArgs s__law_letters) (defBody s__law_letters) (defScope s__law_letters) .none kV6 dc6 pm6 an6 cd6 ct6), sl6⟩)
    (c6 : PySem.W.codeIn K cd6 "_law_letters" = true)
    (k6 : PySem.W.keepIn K (.ref f6) = true)
    (aw : PySem.W.nsIn K mainGlobals "is_whole" = some (some (.ref fw)))
    (lw : K.lookup fw = some ⟨ocw, odw, .func (PySem.W.fnOf "is_whole" "is_whole" (defArgs s_is_whole) (defBody s_is_whole) (defScope s_is_whole) .none kVw dcw pmw anw cdw ctw), slw⟩)
    (cw : PySem.W.codeIn K cdw "is_whole" = true)
    (kw : PySem.W.keepIn K (.ref fw) = true)
    (av : PySem.W.nsIn K mainGlobals "is_list_of" = some (some (.ref fv)))
    (lv : K.lookup fv = some ⟨ocv, odv, .func (PySem.W.fnOf "is_list_of" "is_list_of" (defArgs s_is_list_of) (defBody s_is_list_of) (defScope s_is_list_of) .none kVv dcv pmv anv cdv ctv), slv⟩)
    (cv : PySem.W.codeIn K cdv "is_list_of" = true)
    (kv : PySem.W.keepIn K (.ref fv) = true)
    (ac : PySem.W.nsIn K mainGlobals "joined" = some (some (.ref fc)))
    (lc : K.lookup fc = some ⟨occ, odc, .func (PySem.W.fnOf "joined" "joined" (defArgs s_joined) (defBody s_joined) (defScope s_joined) .none kVc dcc pmc anc cdc ctc), slc⟩)
    (cc : PySem.W.codeIn K cdc "joined" = true)
    (kc : PySem.W.keepIn K (.ref fc) = true)
    (ad : PySem.W.nsIn K mainGlobals "spliced" = some (some (.ref fd)))
    (ld : K.lookup fd = some ⟨ocd, odd, .func (PySem.W.fnOf "spliced" "spliced" (defArgs s_spliced) (defBody s_spliced) (defScope s_spliced) .none kVd dcd pmd and cdd ctd), sld⟩)
    (cd : PySem.W.codeIn K cdd "spliced" = true)
    (kd : PySem.W.keepIn K (.ref fd) = true)
    (af : PySem.W.nsIn K mainGlobals "size_of" = some (some (.ref ff)))
    (lf : K.lookup ff = some ⟨ocf, odf, .func (PySem.W.fnOf "size_of" "size_of" (defArgs s_size_of) (defBody s_size_of) (defScope s_size_of) .none kVf dcf pmf anf cdf ctf), slf⟩)
    (cf : PySem.W.codeIn K cdf "size_of" = true)
    (kf : PySem.W.keepIn K (.ref ff) = true)
    (ag : PySem.W.nsIn K mainGlobals "is_beginning" = some (some (.ref fg)))
    (lg : K.lookup fg = some ⟨ocg, odg, .func (PySem.W.fnOf "is_beginning" "is_beginning" (defArgs s_is_beginning) (defBody s_is_beginning) (defScope s_is_beginning) .none kVg dcg pmg ang cdg ctg), slg⟩)
    (cg : PySem.W.codeIn K cdg "is_beginning" = true)
    (kg : PySem.W.keepIn K (.ref fg) = true)
    (ah : PySem.W.nsIn K mainGlobals "require_runs" = some (some (.ref fh)))
    (lh : K.lookup fh = some ⟨och, odh, .func (PySem.W.fnOf "require_runs" "require_runs" (defArgs s_require_runs) (defBody s_require_runs) (defScope s_require_runs) .none kVh dch pmh anh cdh cth), slh⟩)
    (ch : PySem.W.codeIn K cdh "require_runs" = true)
    (kh : PySem.W.keepIn K (.ref fh) = true)
    (ai : PySem.W.nsIn K mainGlobals "require_beginning" = some (some (.ref fi)))
    (li : K.lookup fi = some ⟨oci, odi, .func (PySem.W.fnOf "require_beginning" "require_beginning" (defArgs s_require_beginning) (defBody s_require_beginning) (defScope s_require_beginning) .none kVi dci pmi ani cdi cti), sli⟩)
    (ci : PySem.W.codeIn K cdi "require_beginning" = true)
    (ki : PySem.W.keepIn K (.ref fi) = true)
    (ak : PySem.W.nsIn K mainGlobals "require_count" = some (some (.ref fk)))
    (lk : K.lookup fk = some ⟨ock, odk, .func (PySem.W.fnOf "require_count" "require_count" (defArgs s_require_count) (defBody s_require_count) (defScope s_require_count) .none kVk dck pmk ank cdk ctk), slk⟩)
    (ck : PySem.W.codeIn K cdk "require_count" = true)
    (kk : PySem.W.keepIn K (.ref fk) = true)
    (aj : PySem.W.nsIn K mainGlobals "extended" = some (some (.ref fj)))
    (lj : K.lookup fj = some ⟨ocj, odj, .func (PySem.W.fnOf "extended" "extended" (defArgs s_extended) (defBody s_extended) (defScope s_extended) .none kVj dcj pmj anj cdj ctj), slj⟩)
    (cj : PySem.W.codeIn K cdj "extended" = true)
    (kj : PySem.W.keepIn K (.ref fj) = true)
    (am : PySem.W.nsIn K mainGlobals "_law_joined" = some (some (.ref fm)))
    (lm : K.lookup fm = some ⟨ocm, odm, .func (PySem.W.fnOf "_law_joined" "_law_joined" (defArgs s__law_joined) (defBody s__law_joined) (defScope s__law_joined) .none kVm dcm pmm anm cdm ctm), slm⟩)
    (cm : PySem.W.codeIn K cdm "_law_joined" = true)
    (km : PySem.W.keepIn K (.ref fm) = true)
    (an : PySem.W.nsIn K mainGlobals "_law_great" = some (some (.ref fn)))
    (ln : K.lookup fn = some ⟨ocn, odn, .func (PySem.W.fnOf "_law_great" "_law_great" (defArgs s__law_great) (defBody s__law_great) (defScope s__law_great) .none kVn dcn pmn ann cdn ctn), sln⟩)
    (cn : PySem.W.codeIn K cdn "_law_great" = true)
    (kn : PySem.W.keepIn K (.ref fn) = true)
    (ao : PySem.W.nsIn K mainGlobals "_law_beginning" = some (some (.ref fo)))
    (lo : K.lookup fo = some ⟨oco, odo, .func (PySem.W.fnOf "_law_beginning" "_law_beginning" (defArgs s__law_beginning) (defBody s__law_beginning) (defScope s__law_beginning) .none kVo dco pmo ano cdo cto), slo⟩)
    (co : PySem.W.codeIn K cdo "_law_beginning" = true)
    (ko : PySem.W.keepIn K (.ref fo) = true)
    (ap : PySem.W.nsIn K mainGlobals "_law_count" = some (some (.ref fp)))
    (lp : K.lookup fp = some ⟨ocp, odp, .func (PySem.W.fnOf "_law_count" "_law_count" (defArgs s__law_count) (defBody s__law_count) (defScope s__law_count) .none kVp dcp pmp anp cdp ctp), slp⟩)
    (cp : PySem.W.codeIn K cdp "_law_count" = true)
    (kp : PySem.W.keepIn K (.ref fp) = true)
    (aq : PySem.W.nsIn K mainGlobals "_law_runs" = some (some (.ref fq)))
    (lq : K.lookup fq = some ⟨ocq, odq, .func (PySem.W.fnOf "_law_runs" "_law_runs" (defArgs s__law_runs) (defBody s__law_runs) (defScope s__law_runs) .none kVq dcq pmq anq cdq ctq), slq⟩)
    (cq : PySem.W.codeIn K cdq "_law_runs" = true)
    (kq : PySem.W.keepIn K (.ref fq) = true)
    (ar : PySem.W.nsIn K mainGlobals "_law_word" = some (some (.ref fr)))
    (lr : K.lookup fr = some ⟨ocr, odr, .func (PySem.W.fnOf "_law_word" "_law_word" (defArgs s__law_word) (defBody s__law_word) (defScope s__law_word) .none kVr dcr pmr anr cdr ctr), slr⟩)
    (cr : PySem.W.codeIn K cdr "_law_word" = true)
    (kr : PySem.W.keepIn K (.ref fr) = true)
    (as : PySem.W.nsIn K mainGlobals "_law_odd" = some (some (.ref fs)))
    (ls : K.lookup fs = some ⟨ocs, ods, .func (PySem.W.fnOf "_law_odd" "_law_odd" (defArgs s__law_odd) (defBody s__law_odd) (defScope s__law_odd) .none kVs dcs pms ans cds cts), sls⟩)
    (cs : PySem.W.codeIn K cds "_law_odd" = true)
    (ks : PySem.W.keepIn K (.ref fs) = true)
    (au : PySem.W.nsIn K mainGlobals "_law_history" = some (some (.ref fu)))
    (lu : K.lookup fu = some ⟨ocu, odu, .func (PySem.W.fnOf "_law_history" "_law_history" (defArgs s__law_history) (defBody s__law_history) (defScope s__law_history) .none kVu dcu pmu anu cdu ctu), slu⟩)
    (cu : PySem.W.codeIn K cdu "_law_history" = true)
    (ku : PySem.W.keepIn K (.ref fu) = true)
    (ax : PySem.W.nsIn K mainGlobals "_law_added" = some (some (.ref fx)))
    (lx : K.lookup fx = some ⟨ocx, odx, .func (PySem.W.fnOf "_law_added" "_law_added" (defArgs s__law_added) (defBody s__law_added) (defScope s__law_added) .none kVx dcx pmx anx cdx ctx), slx⟩)
    (cx : PySem.W.codeIn K cdx "_law_added" = true)
    (kx : PySem.W.keepIn K (.ref fx) = true)
    (a7 : PySem.W.nsIn K mainGlobals "_law_spelled" = some (some (.ref f7)))
    (l7 : K.lookup f7 = some ⟨oc7, od7, .func (PySem.W.fnOf "_law_spelled" "_law_spelled" (defArgs s__law_spelled) (defBody s__law_spelled) (defScope s__law_spelled) .none kV7 dc7 pm7 an7 cd7 ct7), sl7⟩)
    (c7 : PySem.W.codeIn K cd7 "_law_spelled" = true)
    (k7 : PySem.W.keepIn K (.ref f7) = true)
    (az : PySem.W.nsIn K mainGlobals "_law_pieces" = some (some (.ref fz)))
    (lz : K.lookup fz = some ⟨ocz, odz, .func (PySem.W.fnOf "_law_pieces" "_law_pieces" (defArgs s__law_pieces) (defBody s__law_pieces) (defScope s__law_pieces) .none kVz dcz pmz anz cdz ctz), slz⟩)
    (cz : PySem.W.codeIn K cdz "_law_pieces" = true)
    (kz : PySem.W.keepIn K (.ref fz) = true)
    (a8 : PySem.W.nsIn K mainGlobals "_law_joins" = some (some (.ref f8)))
    (l8 : K.lookup f8 = some ⟨oc8, od8, .func (PySem.W.fnOf "_law_joins" "_law_joins" (defArgs s__law_joins) (defBody s__law_joins) (defScope s__law_joins) .none kV8 dc8 pm8 an8 cd8 ct8), sl8⟩)
    (c8 : PySem.W.codeIn K cd8 "_law_joins" = true)
    (k8 : PySem.W.keepIn K (.ref f8) = true)
    (ae : PySem.W.nsIn K mainGlobals "_law_spelled_right" = some (some (.ref fe)))
    (le : K.lookup fe = some ⟨oce, ode, .func (PySem.W.fnOf "_law_spelled_right" "_law_spelled_right" (defArgs s__law_sr) (defBody s__law_sr) (defScope s__law_sr) .none kVe dce pme ane cde cte), sle⟩)
    (ce : PySem.W.codeIn K cde "_law_spelled_right" = true)
    (ke : PySem.W.keepIn K (.ref fe) = true)
    (a9 : PySem.W.nsIn K mainGlobals "law" = some (some (.ref f9)))
    (l9 : K.lookup f9 = some ⟨oc9, od9, .func (PySem.W.fnOf "law" "law" (defArgs s_law) (defBody s_law) (defScope s_law) .none kV9 dc9 pm9 an9 cd9 ct9), sl9⟩)
    (c9 : PySem.W.codeIn K cd9 "law" = true)
    (k9 : PySem.W.keepIn K (.ref f9) = true)
    (aB : PySem.W.nsIn K mainGlobals "BadLetters" = some (some (.ref CB)))
    (iB : PySem.W.findIn K (.ref CB) "__init__" = some (some (.ref fB)))
    (lB : K.lookup fB = some ⟨ocB, odB, .func (PySem.W.fnOf "__init__" "BadLetters.__init__" (defArgs s_BadLetters_init) (defBody s_BadLetters_init) (defScope s_BadLetters_init) .none kVB dcB pmB anB cdB ctB), slB⟩)
    (cB : PySem.W.codeIn K cdB "BadLetters.__init__" = true)
    (kB : PySem.W.keepIn K (.ref fB) = true)
    (kcB : PySem.W.keepIn K (.ref CB) = true)
    (saB : PySem.W.findIn K (.ref CB) "__setattr__" = some (some (.builtin "object.__setattr__")))
    (xB : K.lookup CB = some (excClassObj nmB qB CB NB bsB bmB true snB subB abB colB ddB m0B m1B m2B m3B m5B "ValueError.__new__"))
    (vB : PySem.HandSPX.refsVE bmB = true)
    (gaB : PySem.W.findIn K (.ref CB) "__getattribute__" = some (some (.builtin "BaseException.__getattribute__")))
    (ggB : PySem.W.findIn K (.ref CB) "__getattr__" = some none)
    (eCB : PySem.W.subIn K (.ref CB) (.type "BaseException") = some true)
    (tCB : PySem.W.typeIn K (.ref CB) = some (.type "type"))
    (tfB : PySem.W.typeIn K (.ref fB) = some (.type "function"))
    (hCB : PySem.W.hasDictIn K CB = true)
    (nB0 : PySem.W.findIn K (.ref CB) "index" = some none)
    (aM : PySem.W.nsIn K mainGlobals "TooMany" = some (some (.ref CM)))
    (iM : PySem.W.findIn K (.ref CM) "__init__" = some (some (.ref fM)))
    (lM : K.lookup fM = some ⟨ocM, odM, .func (PySem.W.fnOf "__init__" "TooMany.__init__" (defArgs s_TooMany_init) (defBody s_TooMany_init) (defScope s_TooMany_init) .none kVM dcM pmM anM cdM ctM), slM⟩)
    (cM : PySem.W.codeIn K cdM "TooMany.__init__" = true)
    (kM : PySem.W.keepIn K (.ref fM) = true)
    (kcM : PySem.W.keepIn K (.ref CM) = true)
    (saM : PySem.W.findIn K (.ref CM) "__setattr__" = some (some (.builtin "object.__setattr__")))
    (xM : K.lookup CM = some (excClassObj nmM qM CM NM bsM bmM true snM subM abM colM ddM m0M m1M m2M m3M m5M "ValueError.__new__"))
    (vM : PySem.HandSPX.refsVE bmM = true)
    (gaM : PySem.W.findIn K (.ref CM) "__getattribute__" = some (some (.builtin "BaseException.__getattribute__")))
    (ggM : PySem.W.findIn K (.ref CM) "__getattr__" = some none)
    (eCM : PySem.W.subIn K (.ref CM) (.type "BaseException") = some true)
    (tCM : PySem.W.typeIn K (.ref CM) = some (.type "type"))
    (tfM : PySem.W.typeIn K (.ref fM) = some (.type "function"))
    (hCM : PySem.W.hasDictIn K CM = true)
    (nM0 : PySem.W.findIn K (.ref CM) "what" = some none)
    (nM1 : PySem.W.findIn K (.ref CM) "many" = some none)
    (nM2 : PySem.W.findIn K (.ref CM) "most" = some none)
    (icM : PySem.W.isClsIn K CM = true)
    (esM : PySem.W.subIn K (.ref CM) (.ref CM) = some true)
    (haM : PySem.W.findIn K (.ref CM) "__class__" = some (some (.builtin "object.__class__")))
    (hmM : PySem.W.mroIn K CM (.type "object") = some true)
    (aU : PySem.W.nsIn K mainGlobals "BadRuns" = some (some (.ref CU)))
    (iU : PySem.W.findIn K (.ref CU) "__init__" = some (some (.ref fU)))
    (lU : K.lookup fU = some ⟨ocU, odU, .func (PySem.W.fnOf "__init__" "BadRuns.__init__" (defArgs s_BadRuns_init) (defBody s_BadRuns_init) (defScope s_BadRuns_init) .none kVU dcU pmU anU cdU ctU), slU⟩)
    (cU : PySem.W.codeIn K cdU "BadRuns.__init__" = true)
    (kU : PySem.W.keepIn K (.ref fU) = true)
    (kcU : PySem.W.keepIn K (.ref CU) = true)
    (saU : PySem.W.findIn K (.ref CU) "__setattr__" = some (some (.builtin "object.__setattr__")))
    (xU : K.lookup CU = some (excClassObj nmU qU CU NU bsU bmU true snU subU abU colU ddU m0U m1U m2U m3U m5U "ValueError.__new__"))
    (vU : PySem.HandSPX.refsVE bmU = true)
    (gaU : PySem.W.findIn K (.ref CU) "__getattribute__" = some (some (.builtin "BaseException.__getattribute__")))
    (ggU : PySem.W.findIn K (.ref CU) "__getattr__" = some none)
    (eCU : PySem.W.subIn K (.ref CU) (.type "BaseException") = some true)
    (tCU : PySem.W.typeIn K (.ref CU) = some (.type "type"))
    (tfU : PySem.W.typeIn K (.ref fU) = some (.type "function"))
    (hCU : PySem.W.hasDictIn K CU = true)
    (nU0 : PySem.W.findIn K (.ref CU) "index" = some none)
    (icU : PySem.W.isClsIn K CU = true)
    (esU : PySem.W.subIn K (.ref CU) (.ref CU) = some true)
    (haU : PySem.W.findIn K (.ref CU) "__class__" = some (some (.builtin "object.__class__")))
    (hmU : PySem.W.mroIn K CU (.type "object") = some true)
    (aT : PySem.W.nsIn K mainGlobals "BadLetter" = some (some (.ref CT)))
    (iT : PySem.W.findIn K (.ref CT) "__init__" = some (some (.ref fT)))
    (lT : K.lookup fT = some ⟨ocT, odT, .func (PySem.W.fnOf "__init__" "BadLetter.__init__" (defArgs s_BadLetter_init) (defBody s_BadLetter_init) (defScope s_BadLetter_init) .none kVT dcT pmT anT cdT ctT), slT⟩)
    (cT : PySem.W.codeIn K cdT "BadLetter.__init__" = true)
    (kT : PySem.W.keepIn K (.ref fT) = true)
    (kcT : PySem.W.keepIn K (.ref CT) = true)
    (saT : PySem.W.findIn K (.ref CT) "__setattr__" = some (some (.builtin "object.__setattr__")))
    (xT : K.lookup CT = some (excClassObj nmT qT CT NT bsT bmT true snT subT abT colT ddT m0T m1T m2T m3T m5T "ValueError.__new__"))
    (vT : PySem.HandSPX.refsVE bmT = true)
    (gaT : PySem.W.findIn K (.ref CT) "__getattribute__" = some (some (.builtin "BaseException.__getattribute__")))
    (ggT : PySem.W.findIn K (.ref CT) "__getattr__" = some none)
    (eCT : PySem.W.subIn K (.ref CT) (.type "BaseException") = some true)
    (tCT : PySem.W.typeIn K (.ref CT) = some (.type "type"))
    (tfT : PySem.W.typeIn K (.ref fT) = some (.type "function"))
    (hCT : PySem.W.hasDictIn K CT = true)
    (nT0 : PySem.W.findIn K (.ref CT) "index" = some none)
    (icT : PySem.W.isClsIn K CT = true)
    (esT : PySem.W.subIn K (.ref CT) (.ref CT) = some true)
    (haT : PySem.W.findIn K (.ref CT) "__class__" = some (some (.builtin "object.__class__")))
    (hmT : PySem.W.mroIn K CT (.type "object") = some true)
    (aC : PySem.W.nsIn K mainGlobals "BadCount" = some (some (.ref CC)))
    (iC : PySem.W.findIn K (.ref CC) "__init__" = some (some (.ref fC)))
    (lC : K.lookup fC = some ⟨ocC, odC, .func (PySem.W.fnOf "__init__" "BadCount.__init__" (defArgs s_BadCount_init) (defBody s_BadCount_init) (defScope s_BadCount_init) .none kVC dcC pmC anC cdC ctC), slC⟩)
    (cC : PySem.W.codeIn K cdC "BadCount.__init__" = true)
    (kC : PySem.W.keepIn K (.ref fC) = true)
    (kcC : PySem.W.keepIn K (.ref CC) = true)
    (saC : PySem.W.findIn K (.ref CC) "__setattr__" = some (some (.builtin "object.__setattr__")))
    (xC : K.lookup CC = some (excClassObj nmC qC CC NC bsC bmC true snC subC abC colC ddC m0C m1C m2C m3C m5C "ValueError.__new__"))
    (vC : PySem.HandSPX.refsVE bmC = true)
    (gaC : PySem.W.findIn K (.ref CC) "__getattribute__" = some (some (.builtin "BaseException.__getattribute__")))
    (ggC : PySem.W.findIn K (.ref CC) "__getattr__" = some none)
    (eCC : PySem.W.subIn K (.ref CC) (.type "BaseException") = some true)
    (tCC : PySem.W.typeIn K (.ref CC) = some (.type "type"))
    (tfC : PySem.W.typeIn K (.ref fC) = some (.type "function"))
    (hCC : PySem.W.hasDictIn K CC = true)
    (nC0 : PySem.W.findIn K (.ref CC) "index" = some none)
    (icC : PySem.W.isClsIn K CC = true)
    (esC : PySem.W.subIn K (.ref CC) (.ref CC) = some true)
    (haC : PySem.W.findIn K (.ref CC) "__class__" = some (some (.builtin "object.__class__")))
    (hmC : PySem.W.mroIn K CC (.type "object") = some true)
    (aV : PySem.W.nsIn K mainGlobals "TooLong" = some (some (.ref CV)))
    (iV : PySem.W.findIn K (.ref CV) "__init__" = some (some (.ref fV)))
    (lV : K.lookup fV = some ⟨ocV, odV, .func (PySem.W.fnOf "__init__" "TooLong.__init__" (defArgs s_TooLong_init) (defBody s_TooLong_init) (defScope s_TooLong_init) .none kVV dcV pmV anV cdV ctV), slV⟩)
    (cV : PySem.W.codeIn K cdV "TooLong.__init__" = true)
    (kV : PySem.W.keepIn K (.ref fV) = true)
    (kcV : PySem.W.keepIn K (.ref CV) = true)
    (saV : PySem.W.findIn K (.ref CV) "__setattr__" = some (some (.builtin "object.__setattr__")))
    (xV : K.lookup CV = some (excClassObj nmV qV CV NV bsV bmV true snV subV abV colV ddV m0V m1V m2V m3V m5V "ValueError.__new__"))
    (vV : PySem.HandSPX.refsVE bmV = true)
    (gaV : PySem.W.findIn K (.ref CV) "__getattribute__" = some (some (.builtin "BaseException.__getattribute__")))
    (ggV : PySem.W.findIn K (.ref CV) "__getattr__" = some none)
    (eCV : PySem.W.subIn K (.ref CV) (.type "BaseException") = some true)
    (tCV : PySem.W.typeIn K (.ref CV) = some (.type "type"))
    (tfV : PySem.W.typeIn K (.ref fV) = some (.type "function"))
    (hCV : PySem.W.hasDictIn K CV = true)
    (nV0 : PySem.W.findIn K (.ref CV) "size" = some none)
    (aZ : PySem.W.nsIn K mainGlobals "BadBeginning" = some (some (.ref CZ)))
    (exZ : PySem.W.excIn K CZ [Value.type "ValueError", Value.type "Exception", Value.type "BaseException", Value.type "object"] "ValueError.__new__" = true)
    (kcZ : PySem.W.keepIn K (.ref CZ) = true)
    (eCZ : PySem.W.subIn K (.ref CZ) (.type "BaseException") = some true)
    (tCZ : PySem.W.typeIn K (.ref CZ) = some (.type "type"))
    (icZ : PySem.W.isClsIn K CZ = true)
    (esZ : PySem.W.subIn K (.ref CZ) (.ref CZ) = some true)
    (uUZ : PySem.W.subIn K (.ref CU) (.ref CZ) = some false)
    (uTZ : PySem.W.subIn K (.ref CT) (.ref CZ) = some false)
    (uTU : PySem.W.subIn K (.ref CT) (.ref CU) = some false)
    (uCZ : PySem.W.subIn K (.ref CC) (.ref CZ) = some false)
    (uCU : PySem.W.subIn K (.ref CC) (.ref CU) = some false)
    (uCT : PySem.W.subIn K (.ref CC) (.ref CT) = some false)
    (uMZ : PySem.W.subIn K (.ref CM) (.ref CZ) = some false)
    (uMU : PySem.W.subIn K (.ref CM) (.ref CU) = some false)
    (uMT : PySem.W.subIn K (.ref CM) (.ref CT) = some false)
    (uMC : PySem.W.subIn K (.ref CM) (.ref CC) = some false)
    (aL : PySem.W.nsIn K mainGlobals "Letters" = some (some (.ref CL)))
    (kcL : PySem.W.keepIn K (.ref CL) = true)
    (saL : PySem.W.findIn K (.ref CL) "__setattr__" = some (some (.builtin "object.__setattr__")))
    (pgL : PySem.W.plainGet K CL Str.empty = true)
    (hdL : PySem.W.hasDictIn K CL = true)
    (poL : PySem.W.plainOver K CL = true)
    (mkL : PySem.W.makesIn K CL = true)
    (nL0 : PySem.W.findIn K (.ref CL) "words" = some none)
    (icL : PySem.W.isClsIn K CL = true)
    (haL : PySem.W.findIn K (.ref CL) "__class__" = some (some (.builtin "object.__class__")))
    (hmL : PySem.W.mroIn K CL (.type "object") = some true)
    (iL : PySem.W.findIn K (.ref CL) "__init__" = some (some (.ref fL)))
    (lL : K.lookup fL = some ⟨ocL, odL, .func (PySem.W.fnOf "__init__" "Letters.__init__" (defArgs s_Letters_init) (defBody s_Letters_init) (defScope s_Letters_init) .none kVL dcL pmL anL cdL ctL), slL⟩)
    (cL : PySem.W.codeIn K cdL "Letters.__init__" = true)
    (kL : PySem.W.keepIn K (.ref fL) = true)
    (isL : PySem.W.isFn K (.ref fL) = true)
    (iH : PySem.W.findIn K (.ref CL) "__contains__" = some (some (.ref fH)))
    (lH : K.lookup fH = some ⟨ocH, odH, .func (PySem.W.fnOf "__contains__" "Letters.__contains__" (defArgs s_Has) (defBody s_Has) (defScope s_Has) .none kVH dcH pmH anH cdH ctH), slH⟩)
    (cH : PySem.W.codeIn K cdH "Letters.__contains__" = true)
    (kH : PySem.W.keepIn K (.ref fH) = true)
    (isH : PySem.W.isFn K (.ref fH) = true)
    (iQ : PySem.W.findIn K (.ref CL) "__eq__" = some (some (.ref fQ)))
    (lQ : K.lookup fQ = some ⟨ocQ, odQ, .func (PySem.W.fnOf "__eq__" "Letters.__eq__" (defArgs s_Eq) (defBody s_Eq) (defScope s_Eq) .none kVQ dcQ pmQ anQ cdQ ctQ), slQ⟩)
    (cQ : PySem.W.codeIn K cdQ "Letters.__eq__" = true)
    (kQ : PySem.W.keepIn K (.ref fQ) = true)
    (isQ : PySem.W.isFn K (.ref fQ) = true)
    (aY : PySem.W.nsIn K mainGlobals "History" = some (some (.ref CY)))
    (kcY : PySem.W.keepIn K (.ref CY) = true)
    (saY : PySem.W.findIn K (.ref CY) "__setattr__" = some (some (.builtin "object.__setattr__")))
    (pgY : PySem.W.plainGet K CY Str.empty = true)
    (hdY : PySem.W.hasDictIn K CY = true)
    (poY : PySem.W.plainOver K CY = true)
    (mkY : PySem.W.makesIn K CY = true)
    (nY0 : PySem.W.findIn K (.ref CY) "letters" = some none)
    (nY1 : PySem.W.findIn K (.ref CY) "beginning" = some none)
    (nY2 : PySem.W.findIn K (.ref CY) "runs" = some none)
    (nY3 : PySem.W.findIn K (.ref CY) "size" = some none)
    (nY4 : PySem.W.findIn K (.ref CY) "last" = some none)
    (icY : PySem.W.isClsIn K CY = true)
    (haY : PySem.W.findIn K (.ref CY) "__class__" = some (some (.builtin "object.__class__")))
    (hmY : PySem.W.mroIn K CY (.type "object") = some true)
    (iY : PySem.W.findIn K (.ref CY) "__init__" = some (some (.ref fY)))
    (lY : K.lookup fY = some ⟨ocY, odY, .func (PySem.W.fnOf "__init__" "History.__init__" (defArgs s_Hist_init) (defBody s_Hist_init) (defScope s_Hist_init) (.ref TY) kVY dcY pmY anY cdY ctY), slY⟩)
    (cY : PySem.W.codeIn K cdY "History.__init__" = true)
    (kY : PySem.W.keepIn K (.ref fY) = true)
    (dTY : K.lookup TY = some oTY)
    (dUY : oTY.data = .seq [Value.ref aDY].toArray nTY)
    (dDY : K.lookup aDY = some oDY)
    (dEY : oDY.cls = .type "tuple")
    (dGY : oDY.data = .seq #[] nDY)
    (isY : PySem.W.isFn K (.ref fY) = true)
    (iW : PySem.W.findIn K (.ref CY) "word" = some (some (.ref fW)))
    (lW : K.lookup fW = some ⟨ocW, odW, .func (PySem.W.fnOf "word" "History.word" (defArgs s_Word) (defBody s_Word) (defScope s_Word) .none kVW dcW pmW anW cdW ctW), slW⟩)
    (cW : PySem.W.codeIn K cdW "History.word" = true)
    (kW : PySem.W.keepIn K (.ref fW) = true)
    (isW : PySem.W.isFn K (.ref fW) = true)
    (iA : PySem.W.findIn K (.ref CY) "__add__" = some (some (.ref fA)))
    (lA : K.lookup fA = some ⟨ocA, odA, .func (PySem.W.fnOf "__add__" "History.__add__" (defArgs s_Add) (defBody s_Add) (defScope s_Add) .none kVA dcA pmA anA cdA ctA), slA⟩)
    (cA : PySem.W.codeIn K cdA "History.__add__" = true)
    (kA : PySem.W.keepIn K (.ref fA) = true)
    (isA : PySem.W.isFn K (.ref fA) = true)
    (sfY : PySem.W.selfFirst K CY = true)
    (iE : PySem.W.findIn K (.ref CY) "__eq__" = some (some (.ref fE)))
    (lE : K.lookup fE = some ⟨ocE, odE, .func (PySem.W.fnOf "__eq__" "History.__eq__" (defArgs s_HEq) (defBody s_HEq) (defScope s_HEq) .none kVE dcE pmE anE cdE ctE), slE⟩)
    (cE : PySem.W.codeIn K cdE "History.__eq__" = true)
    (kE : PySem.W.keepIn K (.ref fE) = true)
    (isE : PySem.W.isFn K (.ref fE) = true)
    (rdY : PySem.W.readsIn K CY (.type "type") = true)
    (cgY : PySem.W.specialIn K (.ref CY) "__getattribute__" = some (some (.builtin "type.__getattribute__")))
    (caP : PySem.W.findCls K (.ref CY) (.type "type") "spelled" = some (.get (.builtin "classmethod.__get__") (.ref pP) .none (.ref CY)))
    (crP : PySem.W.recIn K pP "classmethod" = some (.ref fP :: rsP))
    (cfP : PySem.W.fnIn K fP = true)
    (lP : K.lookup fP = some ⟨ocP, odP, .func (PySem.W.fnOf "spelled" "History.spelled" (defArgs s_Spelled) (defBody s_Spelled) (defScope s_Spelled) .none kVP dcP pmP anP cdP ctP), slP⟩)
    (cP : PySem.W.codeIn K cdP "History.spelled" = true)
    (kP : PySem.W.keepIn K (.ref fP) = true)
    (aK : PySem.W.nsIn K mainGlobals "CheckedRuns" = some (some (.ref CK)))
    (kcK : PySem.W.keepIn K (.ref CK) = true)
    (saK : PySem.W.findIn K (.ref CK) "__setattr__" = some (some (.builtin "object.__setattr__")))
    (pgK : PySem.W.plainGet K CK Str.empty = true)
    (hdK : PySem.W.hasDictIn K CK = true)
    (poK : PySem.W.plainOver K CK = true)
    (mkK : PySem.W.makesIn K CK = true)
    (nK0 : PySem.W.findIn K (.ref CK) "runs" = some none)
    (icK : PySem.W.isClsIn K CK = true)
    (haK : PySem.W.findIn K (.ref CK) "__class__" = some (some (.builtin "object.__class__")))
    (hmK : PySem.W.mroIn K CK (.type "object") = some true)
    (tcK : PySem.W.typeIn K (.ref CK) = some (.type "type"))
    (iK : PySem.W.findIn K (.ref CK) "__init__" = some (some (.ref fK)))
    (lK : K.lookup fK = some ⟨ocK, odK, .func (PySem.W.fnOf "__init__" "CheckedRuns.__init__" (defArgs s_Chk_init) (defBody s_Chk_init) (defScope s_Chk_init) .none kVK dcK pmK anK cdK ctK), slK⟩)
    (cK : PySem.W.codeIn K cdK "CheckedRuns.__init__" = true)
    (kK : PySem.W.keepIn K (.ref fK) = true)
    (isK : PySem.W.isFn K (.ref fK) = true)
    (g_gS : PySem.W.nsIn K mainGlobals "SMALL_LETTERS" = some (some (.str "abcdefghijklmnopqrstuvwxyz" gS)))
    (g_gW : PySem.W.nsIn K mainGlobals "WORD_SIGNS" = some (some (.str "abcdefghijklmnopqrstuvwxyz0123456789" gW)))
    (g_gM : PySem.W.nsIn K mainGlobals "MOST_SIGNS" = some (some (.int 12 gM)))
    (g_gL : PySem.W.nsIn K mainGlobals "MOST_LETTERS" = some (some (.int 12 gL)))
    (g_gB : PySem.W.nsIn K mainGlobals "BEGINNINGS" = some (some (.ref T_gB)))
    (gl_gB : K.lookup T_gB = some o_gB)
    (gc_gB : o_gB.cls = .type "tuple")
    (gd_gB : o_gB.data = .seq j_gB n_gB)
    (gs_gB : j_gB.size ≤ sizeLine)
    (gv_gB : Vals [.str newW, .str foundW] j_gB.toList)
    (g_gC : PySem.W.nsIn K mainGlobals "MOST_COUNT" = some (some (.int 1000000000000000000000000000000 gC)))
    (g_gR : PySem.W.nsIn K mainGlobals "MOST_RUNS" = some (some (.int 400 gR)))
    (g_gP : PySem.W.nsIn K mainGlobals "MOST_SPELLED" = some (some (.int 2000 gP)))
    (z0 : PySem.W.nsIn K mainGlobals "int" = some none)
    (z1 : PySem.W.nsIn K mainGlobals "len" = some none)
    (z2 : PySem.W.nsIn K mainGlobals "abs" = some none)
    (z3 : PySem.W.nsIn K mainGlobals "list" = some none)
    (z4 : PySem.W.nsIn K mainGlobals "range" = some none)
    (z5 : PySem.W.nsIn K mainGlobals "min" = some none)
    (z6 : PySem.W.nsIn K mainGlobals "str" = some none)
    (z7 : PySem.W.nsIn K mainGlobals "isinstance" = some none)
    (z8 : PySem.W.nsIn K mainGlobals "all" = some none)
    (z9 : PySem.W.nsIn K mainGlobals "enumerate" = some none)
    (z10 : PySem.W.nsIn K mainGlobals "tuple" = some none)
    (z11 : PySem.W.nsIn K mainGlobals "repr" = some none)
    (z12 : PySem.W.nsIn K mainGlobals "dict" = some none)
    (z13 : PySem.W.nsIn K mainGlobals "bool" = some none)
    (z14 : PySem.W.nsIn K mainGlobals "sum" = some none)
    (xL : K.lookup CL = some (excClassObj nmL qL CL NL bsL bmL hdctL snL subL abL colL ddL m0L m1L m2L m3L m5L newL))
    (vL : bmL = [.type "object"])
    (xNL : K.lookup NL = some oNL)
    (xAL : oNL.data = .dict esNL epNL)
    (xBL : StrKeys esNL)
    (xCL : nsFind esNL "__eq__" = some (.ref fQ))
    (xDL : nsFind esNL "__ne__" = none)
    (xY : K.lookup CY = some (excClassObj nmY qY CY NY bsY bmY hdctY snY subY abY colY ddY m0Y m1Y m2Y m3Y m5Y newY))
    (vY : bmY = [.type "object"])
    (xNY : K.lookup NY = some oNY)
    (xAY : oNY.data = .dict esNY epNY)
    (xBY : StrKeys esNY)
    (xCY : nsFind esNY "__eq__" = some (.ref fE))
    (xDY : nsFind esNY "__ne__" = none)
    (base : Heap) (kb : K.In base) (gb : base.Ns mainGlobals mg) (s₁ : Shared) (H : Hp) (a : Addr) (ns : List Int) (e0 : Env0 P w K mg base callerA [] s₁ H) (hS : SqL K H a (ns.map V.int)) (hl : ns.length ≤ 63) :
    codeAny (model P w) callerA (.call (.ref fa) ⟨[.ref a], []⟩) (CR CX0 [] P w H s₁ (fun v _ => v = .bl true) E0) s₁ := by
  have e := hfa.symm.trans (PySem.W.mg_of X G a9)
  cases e
  have T : Blt mg := ⟨PySem.W.mg_none_of X G z0, PySem.W.mg_none_of X G z1, PySem.W.mg_none_of X G z2, PySem.W.mg_none_of X G z3, PySem.W.mg_none_of X G z4, PySem.W.mg_none_of X G z5, PySem.W.mg_none_of X G z6, PySem.W.mg_none_of X G z7, PySem.W.mg_none_of X G z8, PySem.W.mg_none_of X G z9, PySem.W.mg_none_of X G z10, PySem.W.mg_none_of X G z11⟩
  have F0 := fun_mk (st := s_is_short_word) l0 c0 k0
  have b0 := F0.binds (ps := ["value"]) fun _ _ _ _ _ _ us hl => match us, hl with | [_], _ => rfl
  have A0 : At K mg "is_short_word" f0 _ ["value"] := ⟨PySem.W.mg_of X G a0, k0, b0⟩
  have F1 := fun_mk (st := s_copied) l1 c1 k1
  have b1 := F1.binds (ps := ["value"]) fun _ _ _ _ _ _ us hl => match us, hl with | [_], _ => rfl
  have A1 : At K mg "copied" f1 _ ["value"] := ⟨PySem.W.mg_of X G a1, k1, b1⟩
  have F2 := fun_mk (st := s_is_letter) l2 c2 k2
  have b2 := F2.binds (ps := ["value"]) fun _ _ _ _ _ _ us hl => match us, hl with | [_], _ => rfl
  have A2 : At K mg "is_letter" f2 _ ["value"] := ⟨PySem.W.mg_of X G a2, k2, b2⟩
  have F3 := fun_mk (st := s__law_pen) l3 c3 k3
  have b3 := F3.binds (ps := ["_law_script"]) fun _ _ _ _ _ _ us hl => match us, hl with | [_], _ => rfl
  have A3 : At K mg "_law_pen" f3 _ ["_law_script"] := ⟨PySem.W.mg_of X G a3, k3, b3⟩
  have F4 := fun_mk (st := s__law_draw) l4 c4 k4
  have b4 := F4.binds (ps := ["_law_pen_here", "_law_many"]) fun _ _ _ _ _ _ us hl => match us, hl with | [_, _], _ => rfl
  have A4 : At K mg "_law_draw" f4 _ ["_law_pen_here", "_law_many"] := ⟨PySem.W.mg_of X G a4, k4, b4⟩
  have F5 := fun_mk (st := s__law_pick) l5 c5 k5
  have b5 := F5.binds (ps := ["_law_pen_here", "_law_options"]) fun _ _ _ _ _ _ us hl => match us, hl with | [_, _], _ => rfl
  have A5 : At K mg "_law_pick" f5 _ ["_law_pen_here", "_law_options"] := ⟨PySem.W.mg_of X G a5, k5, b5⟩
  have F6 := fun_mk (st := s__law_letters) l6 c6 k6
  have b6 := F6.binds (ps := ["_law_pen_here", "_law_many"]) fun _ _ _ _ _ _ us hl => match us, hl with | [_, _], _ => rfl
  have A6 : At K mg "_law_letters" f6 _ ["_law_pen_here", "_law_many"] := ⟨PySem.W.mg_of X G a6, k6, b6⟩
  have Fw := fun_mk (st := s_is_whole) lw cw kw
  have bw := Fw.binds (ps := ["value"]) fun _ _ _ _ _ _ us hl => match us, hl with | [_], _ => rfl
  have Aw : At K mg "is_whole" fw _ ["value"] := ⟨PySem.W.mg_of X G aw, kw, bw⟩
  have Fv := fun_mk (st := s_is_list_of) lv cv kv
  have bv := Fv.binds (ps := ["value", "many"]) fun _ _ _ _ _ _ us hl => match us, hl with | [_, _], _ => rfl
  have Av : At K mg "is_list_of" fv _ ["value", "many"] := ⟨PySem.W.mg_of X G av, kv, bv⟩
  have Fc := fun_mk (st := s_joined) lc cc kc
  have bc := Fc.binds (ps := ["runs"]) fun _ _ _ _ _ _ us hl => match us, hl with | [_], _ => rfl
  have Ac : At K mg "joined" fc _ ["runs"] := ⟨PySem.W.mg_of X G ac, kc, bc⟩
  have Fd := fun_mk (st := s_spliced) ld cd kd
  have bd := Fd.binds (ps := ["head", "tail"]) fun _ _ _ _ _ _ us hl => match us, hl with | [_, _], _ => rfl
  have Ad : At K mg "spliced" fd _ ["head", "tail"] := ⟨PySem.W.mg_of X G ad, kd, bd⟩
  have Ff := fun_mk (st := s_size_of) lf cf kf
  have bf := Ff.binds (ps := ["runs"]) fun _ _ _ _ _ _ us hl => match us, hl with | [_], _ => rfl
  have Af : At K mg "size_of" ff _ ["runs"] := ⟨PySem.W.mg_of X G af, kf, bf⟩
  have Fg := fun_mk (st := s_is_beginning) lg cg kg
  have bg := Fg.binds (ps := ["value"]) fun _ _ _ _ _ _ us hl => match us, hl with | [_], _ => rfl
  have Ag : At K mg "is_beginning" fg _ ["value"] := ⟨PySem.W.mg_of X G ag, kg, bg⟩
  have Fh := fun_mk (st := s_require_runs) lh ch kh
  have bh := Fh.binds (ps := ["letters", "runs"]) fun _ _ _ _ _ _ us hl => match us, hl with | [_, _], _ => rfl
  have Ah : At K mg "require_runs" fh _ ["letters", "runs"] := ⟨PySem.W.mg_of X G ah, kh, bh⟩
  have Fi := fun_mk (st := s_require_beginning) li ci ki
  have bi := Fi.binds (ps := ["value"]) fun _ _ _ _ _ _ us hl => match us, hl with | [_], _ => rfl
  have Ai : At K mg "require_beginning" fi _ ["value"] := ⟨PySem.W.mg_of X G ai, ki, bi⟩
  have Fk := fun_mk (st := s_require_count) lk ck kk
  have bk := Fk.binds (ps := ["index", "value"]) fun _ _ _ _ _ _ us hl => match us, hl with | [_, _], _ => rfl
  have Ak : At K mg "require_count" fk _ ["index", "value"] := ⟨PySem.W.mg_of X G ak, kk, bk⟩
  have Fj := fun_mk (st := s_extended) lj cj kj
  have bj := Fj.binds (ps := ["letters", "kept", "runs"]) fun _ _ _ _ _ _ us hl => match us, hl with | [_, _, _], _ => rfl
  have Aj : At K mg "extended" fj _ ["letters", "kept", "runs"] := ⟨PySem.W.mg_of X G aj, kj, bj⟩
  have Fm := fun_mk (st := s__law_joined) lm cm km
  have bm := Fm.binds (ps := ["_law_runs_here"]) fun _ _ _ _ _ _ us hl => match us, hl with | [_], _ => rfl
  have Am : At K mg "_law_joined" fm _ ["_law_runs_here"] := ⟨PySem.W.mg_of X G am, km, bm⟩
  have Fn := fun_mk (st := s__law_great) ln cn kn
  have bn := Fn.binds (ps := ["_law_pen_here"]) fun _ _ _ _ _ _ us hl => match us, hl with | [_], _ => rfl
  have An : At K mg "_law_great" fn _ ["_law_pen_here"] := ⟨PySem.W.mg_of X G an, kn, bn⟩
  have Fo := fun_mk (st := s__law_beginning) lo co ko
  have bo := Fo.binds (ps := ["_law_pen_here"]) fun _ _ _ _ _ _ us hl => match us, hl with | [_], _ => rfl
  have Ao : At K mg "_law_beginning" fo _ ["_law_pen_here"] := ⟨PySem.W.mg_of X G ao, ko, bo⟩
  have Fp := fun_mk (st := s__law_count) lp cp kp
  have bp := Fp.binds (ps := ["_law_pen_here"]) fun _ _ _ _ _ _ us hl => match us, hl with | [_], _ => rfl
  have Ap : At K mg "_law_count" fp _ ["_law_pen_here"] := ⟨PySem.W.mg_of X G ap, kp, bp⟩
  have Fq := fun_mk (st := s__law_runs) lq cq kq
  have bq := Fq.binds (ps := ["_law_pen_here", "_law_letters_here", "_law_highest"]) fun _ _ _ _ _ _ us hl => match us, hl with | [_, _, _], _ => rfl
  have Aq : At K mg "_law_runs" fq _ ["_law_pen_here", "_law_letters_here", "_law_highest"] := ⟨PySem.W.mg_of X G aq, kq, bq⟩
  have Fr := fun_mk (st := s__law_word) lr cr kr
  have br := Fr.binds (ps := ["_law_pen_here", "_law_letters_here", "_law_highest"]) fun _ _ _ _ _ _ us hl => match us, hl with | [_, _, _], _ => rfl
  have Ar : At K mg "_law_word" fr _ ["_law_pen_here", "_law_letters_here", "_law_highest"] := ⟨PySem.W.mg_of X G ar, kr, br⟩
  have Fs := fun_mk (st := s__law_odd) ls cs ks
  have bs := Fs.binds (ps := ["_law_pen_here", "_law_letters_here"]) fun _ _ _ _ _ _ us hl => match us, hl with | [_, _], _ => rfl
  have As : At K mg "_law_odd" fs _ ["_law_pen_here", "_law_letters_here"] := ⟨PySem.W.mg_of X G as, ks, bs⟩
  have Fu := fun_mk (st := s__law_history) lu cu ku
  have bu := Fu.binds (ps := ["_law_letters_here", "_law_beginning_here", "_law_runs_here"]) fun _ _ _ _ _ _ us hl => match us, hl with | [_, _, _], _ => rfl
  have Au : At K mg "_law_history" fu _ ["_law_letters_here", "_law_beginning_here", "_law_runs_here"] := ⟨PySem.W.mg_of X G au, ku, bu⟩
  have Fx := fun_mk (st := s__law_added) lx cx kx
  have bx := Fx.binds (ps := ["_law_made", "_law_runs_here"]) fun _ _ _ _ _ _ us hl => match us, hl with | [_, _], _ => rfl
  have Ax : At K mg "_law_added" fx _ ["_law_made", "_law_runs_here"] := ⟨PySem.W.mg_of X G ax, kx, bx⟩
  have F7 := fun_mk (st := s__law_spelled) l7 c7 k7
  have b7 := F7.binds (ps := ["_law_letters_here", "_law_beginning_here", "_law_word_here"]) fun _ _ _ _ _ _ us hl => match us, hl with | [_, _, _], _ => rfl
  have A7 : At K mg "_law_spelled" f7 _ ["_law_letters_here", "_law_beginning_here", "_law_word_here"] := ⟨PySem.W.mg_of X G a7, k7, b7⟩
  have Fz := fun_mk (st := s__law_pieces) lz cz kz
  have bz := Fz.binds (ps := ["_law_pen_here", "_law_runs_here"]) fun _ _ _ _ _ _ us hl => match us, hl with | [_, _], _ => rfl
  have Az : At K mg "_law_pieces" fz _ ["_law_pen_here", "_law_runs_here"] := ⟨PySem.W.mg_of X G az, kz, bz⟩
  have F8 := fun_mk (st := s__law_joins) l8 c8 k8
  have b8 := F8.binds (ps := ["_law_pen_here", "_law_letters_here"]) fun _ _ _ _ _ _ us hl => match us, hl with | [_, _], _ => rfl
  have A8 : At K mg "_law_joins" f8 _ ["_law_pen_here", "_law_letters_here"] := ⟨PySem.W.mg_of X G a8, k8, b8⟩
  have Fe := fun_mk (st := s__law_sr) le ce ke
  have be := Fe.binds (ps := ["_law_pen_here", "_law_letters_here", "_law_beginning_here"]) fun _ _ _ _ _ _ us hl => match us, hl with | [_, _, _], _ => rfl
  have Ae : At K mg "_law_spelled_right" fe _ ["_law_pen_here", "_law_letters_here", "_law_beginning_here"] := ⟨PySem.W.mg_of X G ae, ke, be⟩
  have F9 := fun_mk (st := s_law) l9 c9 k9
  have FB := fun_mk (st := s_BadLetters_init) lB cB kB
  have bB := FB.binds (ps := ["self", "index"]) fun _ _ _ _ _ _ us hl => match us, hl with | [_, _], _ => rfl
  have OB : OexC K CB := ⟨⟨_, _, _, _, _, _, _, _, _, _, _, _, _, _, _, xB, vB⟩, saB, eCB, tCB, kcB⟩
  have EB : ErrAt K mg "BadLetters" CB fB _ _ := ⟨PySem.W.mg_of X G aB, OB, iB, tfB, bB, ⟨gaB, ggB, eCB, hCB⟩⟩
  have FM := fun_mk (st := s_TooMany_init) lM cM kM
  have bM := FM.binds (ps := ["self", "what", "many", "most"]) fun _ _ _ _ _ _ us hl => match us, hl with | [_, _, _, _], _ => rfl
  have OM : OexC K CM := ⟨⟨_, _, _, _, _, _, _, _, _, _, _, _, _, _, _, xM, vM⟩, saM, eCM, tCM, kcM⟩
  have EM : ErrAt K mg "TooMany" CM fM _ _ := ⟨PySem.W.mg_of X G aM, OM, iM, tfM, bM, ⟨gaM, ggM, eCM, hCM⟩⟩
  have YM : XkC K CM := ⟨icM, haM, hn, ht, hmM⟩
  have eeM := exm_of eCM icM tCM esM
  have FU := fun_mk (st := s_BadRuns_init) lU cU kU
  have bU := FU.binds (ps := ["self", "index"]) fun _ _ _ _ _ _ us hl => match us, hl with | [_, _], _ => rfl
  have OU : OexC K CU := ⟨⟨_, _, _, _, _, _, _, _, _, _, _, _, _, _, _, xU, vU⟩, saU, eCU, tCU, kcU⟩
  have EU : ErrAt K mg "BadRuns" CU fU _ _ := ⟨PySem.W.mg_of X G aU, OU, iU, tfU, bU, ⟨gaU, ggU, eCU, hCU⟩⟩
  have YU : XkC K CU := ⟨icU, haU, hn, ht, hmU⟩
  have eeU := exm_of eCU icU tCU esU
  have FT := fun_mk (st := s_BadLetter_init) lT cT kT
  have bT := FT.binds (ps := ["self", "index"]) fun _ _ _ _ _ _ us hl => match us, hl with | [_, _], _ => rfl
  have OT : OexC K CT := ⟨⟨_, _, _, _, _, _, _, _, _, _, _, _, _, _, _, xT, vT⟩, saT, eCT, tCT, kcT⟩
  have ET : ErrAt K mg "BadLetter" CT fT _ _ := ⟨PySem.W.mg_of X G aT, OT, iT, tfT, bT, ⟨gaT, ggT, eCT, hCT⟩⟩
  have YT : XkC K CT := ⟨icT, haT, hn, ht, hmT⟩
  have eeT := exm_of eCT icT tCT esT
  have FC := fun_mk (st := s_BadCount_init) lC cC kC
  have bC := FC.binds (ps := ["self", "index"]) fun _ _ _ _ _ _ us hl => match us, hl with | [_, _], _ => rfl
  have OC : OexC K CC := ⟨⟨_, _, _, _, _, _, _, _, _, _, _, _, _, _, _, xC, vC⟩, saC, eCC, tCC, kcC⟩
  have EC : ErrAt K mg "BadCount" CC fC _ _ := ⟨PySem.W.mg_of X G aC, OC, iC, tfC, bC, ⟨gaC, ggC, eCC, hCC⟩⟩
  have YC : XkC K CC := ⟨icC, haC, hn, ht, hmC⟩
  have eeC := exm_of eCC icC tCC esC
  have FV := fun_mk (st := s_TooLong_init) lV cV kV
  have bV := FV.binds (ps := ["self", "size"]) fun _ _ _ _ _ _ us hl => match us, hl with | [_, _], _ => rfl
  have OV : OexC K CV := ⟨⟨_, _, _, _, _, _, _, _, _, _, _, _, _, _, _, xV, vV⟩, saV, eCV, tCV, kcV⟩
  have EV : ErrAt K mg "TooLong" CV fV _ _ := ⟨PySem.W.mg_of X G aV, OV, iV, tfV, bV, ⟨gaV, ggV, eCV, hCV⟩⟩
  have hCL : Cls K CL := ⟨pgL, hdL, poL, saL⟩
  have YL : XkC K CL := ⟨icL, haL, hn, ht, hmL⟩
  have FL := fun_mk (st := s_Letters_init) lL cL kL
  have bL := FL.binds (ps := ["self", "words"]) fun _ _ _ _ _ _ us hl => match us, hl with | [_, _], _ => rfl
  have FH := fun_mk (st := s_Has) lH cH kH
  have bH := FH.binds (ps := ["self", "x"]) fun _ _ _ _ _ _ us hl => match us, hl with | [_, _], _ => rfl
  have FQ := fun_mk (st := s_Eq) lQ cQ kQ
  have bQ := FQ.binds (ps := ["self", "other"]) fun _ _ _ _ _ _ us hl => match us, hl with | [_, _], _ => rfl
  have hCY : Cls K CY := ⟨pgY, hdY, poY, saY⟩
  have YY : XkC K CY := ⟨icY, haY, hn, ht, hmY⟩
  have FY : FunD K "__init__" "History.__init__" (defArgs s_Hist_init) (defBody s_Hist_init) (defScope s_Hist_init) [V.ref aDY] [] fY _ := ⟨⟨_, _, _, _, _, _, _, _, _, _, rfl, lY, cY, .inr ⟨by simp, TY, oTY, [.ref aDY], nTY, rfl, dTY, dUY, .cons rfl .nil⟩, .inl rfl⟩, kY⟩
  have hDY : ∀ H, SqT K H aDY [] := fun H => .inr ⟨oDY, #[], nDY, dDY, dEY, dGY, Nat.zero_le _, .nil⟩
  have FW := fun_mk (st := s_Word) lW cW kW
  have bW := FW.binds (ps := ["self"]) fun _ _ _ _ _ _ us hl => match us, hl with | [_], _ => rfl
  have FA := fun_mk (st := s_Add) lA cA kA
  have bA := FA.binds (ps := ["self", "other"]) fun _ _ _ _ _ _ us hl => match us, hl with | [_, _], _ => rfl
  have FE := fun_mk (st := s_HEq) lE cE kE
  have bE := FE.binds (ps := ["self", "other"]) fun _ _ _ _ _ _ us hl => match us, hl with | [_, _], _ => rfl
  have FP := fun_mk (st := s_Spelled) lP cP kP
  have bP := FP.binds (ps := ["cls", "letters", "beginning", "word"]) fun _ _ _ _ _ _ us hl => match us, hl with | [_, _, _, _], _ => rfl
  have hCK : Cls K CK := ⟨pgK, hdK, poK, saK⟩
  have YK : XkC K CK := ⟨icK, haK, hn, ht, hmK⟩
  have FK := fun_mk (st := s_Chk_init) lK cK kK
  have bK := FK.binds (ps := ["self", "runs"]) fun _ _ _ _ _ _ us hl => match us, hl with | [_, _], _ => rfl
  subst vL
  have hqL : ocQ = .type "function" := by
    have h : (K.lookup fQ).map (·.cls) = some (.type "function") := beq_iff_eq.mp isQ
    rw [lQ] at h
    exact Option.some.inj h
  have nEL : OwnNe K CL fQ := ⟨_, _, NL, _, _, _, _, _, _, _, _, _, _, _, _, _, oNL, esNL, epNL, _, xL, xNL, xAL, xBL, xCL, xDL, lQ, hqL⟩
  subst vY
  have hqY : ocE = .type "function" := by
    have h : (K.lookup fE).map (·.cls) = some (.type "function") := beq_iff_eq.mp isE
    rw [lE] at h
    exact Option.some.inj h
  have nEY : OwnNe K CY fE := ⟨_, _, NY, _, _, _, _, _, _, _, _, _, _, _, _, _, oNY, esNY, epNY, _, xY, xNY, xAY, xBY, xCY, xDY, lE, hqY⟩
  have nD := PySem.W.mg_none_of X G z12
  have nB := PySem.W.mg_none_of X G z13
  have nSum := PySem.W.mg_none_of X G z14
  have C : Gv K mg := ⟨⟨_, PySem.W.mg_of X G g_gS, _, rfl⟩, ⟨_, PySem.W.mg_of X G g_gW, _, rfl⟩, ⟨_, PySem.W.mg_of X G g_gM, _, rfl⟩, ⟨T_gB, _, PySem.W.mg_of X G g_gB, rfl, fun H => .inr ⟨o_gB, j_gB, n_gB, gl_gB, gc_gB, gd_gB, gs_gB, gv_gB⟩⟩, ⟨_, PySem.W.mg_of X G g_gL, _, rfl⟩⟩
  have hC : HsC K CY := ⟨hCY, nY0, nY1, nY2, nY3, nY4⟩
  have mL := PySem.W.mg_of X G aL
  have mY := PySem.W.mg_of X G aY
  have EZ : Err0 K mg "BadBeginning" CZ := ⟨PySem.W.mg_of X G aZ, exZ, kcZ, eCZ, tCZ⟩
  have X6 : Ex6 K CZ CU CT CC CM := ⟨exm_of eCZ icZ tCZ esZ, exm_of eCZ icZ tCZ uTZ, exm_of eCZ icZ tCZ uMZ, eeU, exm_of eCU icU tCU uTU, eeT, exm_of eCU icU tCU uCU, exm_of eCT icT tCT uCT, eeC, exm_of eCU icU tCU uMU, exm_of eCT icT tCT uMT, exm_of eCC icC tCC uMC, eeM, nU0, nT0, nC0, nM0, nM1, nM2⟩
  have G0 := ok_short (P := P) (w := w) (base := base) F0 T C
  have G1 := ok_copied (P := P) (w := w) (base := base) F1 T nD
  have G1f := ok_copiedF (P := P) (w := w) (base := base) F1 T nD
  have G2 := ok_is_letter (P := P) (w := w) (base := base) F2 T C G0 A0
  have G3 := ok_pen (P := P) (w := w) (base := base) F3 T
  have G4 := ok_draw (P := P) (w := w) (base := base) F4 T
  have G5 := ok_pick (P := P) (w := w) (base := base) F5 T G4 A4
  have G6 := ok_lettersD (P := P) (w := w) (base := base) F6 T G4 A4 G5 A5
  have GB := ok_badInit (P := P) (w := w) (base := base) FB OB nB0 G1 A1
  have GM := ok_manyInit (P := P) (w := w) (base := base) FM OM nM0 nM1 nM2 G1 A1
  have GMR := ok_manyInitR (P := P) (w := w) (base := base) FM OM nM0 nM1 nM2 G1 A1
  have GU := ok_initBadRuns (P := P) (w := w) (base := base) FU OU nU0 G1 A1
  have GT := ok_initBadLetter (P := P) (w := w) (base := base) FT OT nT0 G1 A1
  have GC := ok_initBadCount (P := P) (w := w) (base := base) FC OC nC0 G1 A1
  have GV := ok_tlInit (P := P) (w := w) (base := base) FV OV nV0 G1f A1
  have GL := ok_letInit (P := P) (w := w) (base := base) FL T C hCL nL0 G2 A2 GB EB GM EM
  have GH := ok_has (P := P) (w := w) (base := base) (mg := mg) FH hCL nL0
  have GQ := ok_eq (P := P) (w := w) (base := base) FQ T hCL nL0 YL mL
  have Gw := ok_whole (P := P) (w := w) (base := base) Fw T nB
  have Gv := ok_listOf (P := P) (w := w) (base := base) Fv T
  have Gc := ok_joined (P := P) (w := w) (base := base) Fc T
  have Gd := ok_spliced (P := P) (w := w) (base := base) (mg := mg) Fd
  have Gf := ok_size (P := P) (w := w) (base := base) Ff nSum
  have Gg := ok_isBeg (P := P) (w := w) (base := base) Fg C
  have Gk' := ok_reqCnt (P := P) (w := w) (base := base) Fk ⟨_, PySem.W.mg_of X G g_gC, _, rfl⟩ Gw Aw
  have Gi' := ok_reqBeg (P := P) (w := w) (base := base) (mg := mg) Fi Gg Ag
  have Gh := ok_reqOk (P := P) (w := w) (base := base) Fh T Gv Av Gk' Ak GH bH iH isH
  have Gj := ok_extOk (P := P) (w := w) (base := base) Fj T ⟨_, PySem.W.mg_of X G g_gR, _, rfl⟩ Gh Ah Gd Ad Gc Ac
  have mK := PySem.W.mg_of X G aK
  have GY := ok_histInit (P := P) (w := w) (base := base) FY T hC ⟨mK, icK, tcK⟩ Gi' Ai Gj Aj Gf Af
  have MK : Mk K CK fK := ⟨mkK, iK, isK, kcK⟩
  have MY : Mk K CY fY := ⟨mkY, iY, isY, kcY⟩
  have ML : Mk K CL fL := ⟨mkL, iL, isL, kcL⟩
  obtain ⟨⟨uD, ru, bY0⟩, bY⟩ := hist_binds FY
  have GK := ok_chk (P := P) (w := w) (base := base) (mg := mg) FK hCK nK0
  have GYC := ok_histInitC (P := P) (w := w) (base := base) (CL := CL) FY T hC ⟨mK, icK, tcK⟩ hCK nK0 YK Gi' Ai Gj Aj Gf Af
  have GA := ok_add (P := P) (w := w) (base := base) FA hC Gj Aj MY mY bY GYC MK mK bK GK
  have GW := ok_word (P := P) (w := w) (base := base) (CL := CL) FW T hC ⟨_, PySem.W.mg_of X G g_gP, _, rfl⟩ GV EV
  have GE := ok_heq (P := P) (w := w) (base := base) FE T hC YY mY GQ bQ iQ isQ
  have Ggw := ok_isBegW (P := P) (w := w) (base := base) Fg C
  have Gke := ok_reqCntE (P := P) (w := w) (base := base) Fk ⟨_, PySem.W.mg_of X G g_gC, _, rfl⟩ Gw Aw GC EC
  have Ghe := ok_req (P := P) (w := w) (base := base) Fh T Gv Av Gke Ak GH bH iH isH GU EU GT ET
  have Gje := ok_ext (P := P) (w := w) (base := base) Fj T ⟨_, PySem.W.mg_of X G g_gR, _, rfl⟩ Ghe Ah Gd Ad Gc Ac GMR EM
  have Gie := ok_reqBegE (P := P) (w := w) (base := base) Fi Ggw Ag EZ
  have GYW := ok_histInitW (P := P) (w := w) (base := base) FY T hC ⟨mK, icK, tcK⟩ Gie Ai Gje Aj Gf Af
  have GPE := ok_spelledE (P := P) (w := w) (base := base) (mg := mg) FP MY bY GYW
  have GAE := ok_addE (P := P) (w := w) (base := base) FA hC Gje Aj MY mY bY GYC MK mK bK GK
  have rP : ClX.CRead K CY (.type "type") := ⟨rdY, cgY⟩
  have cP' : ClX.CMet K CY (.type "type") "spelled" pP fP := ⟨caP, ⟨rsP, crP⟩, cfP⟩
  have Gm := ok_lawJoined (P := P) (w := w) (base := base) (mg := mg) Fm
  have Gn := ok_great (P := P) (w := w) (base := base) Fn T G4 A4
  have Go' := ok_beg (P := P) (w := w) (base := base) Fo G4 A4
  have Gp := ok_count (P := P) (w := w) (base := base) Fp G4 A4 Gn An
  have Gq := ok_runs (P := P) (w := w) (base := base) Fq T G4 A4 G5 A5 Gp Ap
  have Gr := ok_lawWord (P := P) (w := w) (base := base) Fr T G4 A4 G5 A5
  have Gs := ok_odd (P := P) (w := w) (base := base) Fs T G5 A5
  have Gu := ok_lawHist (P := P) (w := w) (base := base) Fu T ML mL bL GL MY mY bY0 ru hDY GY GA bA iA isA sfY
  have Gx := ok_added (P := P) (w := w) (base := base) Fx GAE bA iA isA sfY EU ET EC EM X6
  have G7 := ok_lawSpelled (P := P) (w := w) (base := base) F7 ML mL bL GL GPE bP rP cP' mY EZ ET EM X6
  have Gz := ok_pieces (P := P) (w := w) (base := base) Fz T G4 A4
  have G8 := ok_joins (P := P) (w := w) (base := base) F8 T hC G4 A4 G5 A5 G7 A7 Gx Ax
  have Ge := ok_sr (P := P) (w := w) (base := base) Fe T hC G4 A4 G5 A5 Gr Ar Gs As G7 A7 ML mL bL GL MY mY bY GY GE bE nEY GW bW ⟨iW, isW, kW⟩
  exact run_law F9 T hC G3 A3 G4 A4 G6 A6 Go' Ao Gq Aq Gm Am Gz Az Gu Au Gx Ax Ge Ae G8 A8 ML mL bL GL MY mY bY bY0 ru hDY GY GE bE nEY GA bA iA isA sfY ⟨rfl, by decide, by decide⟩ e0 (.of_eq rfl) hS hl
theorem walk {l : PySem.W.OpenLaw} {q : Program} {loose : List Str} {XP : (Str → Option Value) → Heap → Prop} {YP : World → Heap → Prop} {d : DefRec} {K : Params → PySem.W.Frag} (hn : l.most = some 63) (hdf : d.params.defaults = [])
    (hY : ∀ (w : World) (h : Heap), YP w h → (K w.params).In h)
    (F : ∀ (w : World) (mg : Str → Option Value) (fa : Addr) (h : Heap), (K w.params).In h → h.Ns mainGlobals mg → mg d.name = some (.ref fa) → ∀ (base : Heap), (K w.params).In base → base.Ns mainGlobals mg →
      ∀ (s₁ : Shared) (H : Hp) (a : Addr) (ns : List Int), Env0 l.prog w (K w.params) mg base callerA [] s₁ H → SqL (K w.params) H a (ns.map V.int) → ns.length ≤ 63 →
        codeAny (model l.prog w) callerA (.call (.ref fa) ⟨[.ref a], []⟩) (CR CX0 [] l.prog w H s₁ (fun v _ => v = .bl true) E0) s₁) :
    PySem.W.WalkO q loose XP YP l.row.toRowW d [] (fun f vs => PySem.call f vs) := by
  refine Att.attach_call hn hdf fun w s₀ s₁ mg mb fa o pm cd doc a vs ns G Y ho hd hcd hmg hobj hints hlen hg => ?_
  have KX := hY w _ Y
  exact law_at KX G.T.g G.T.b G.T.builtins G.T.nolimit hg hobj hints (Nat.le_trans hlen (by decide)) fun base H kb gb e0 hS => F w mg fa _ KX G.T.g hmg base kb gb s₁ H a ns e0 hS hlen
end Ask

open PySem PySem.W PyProof.Rows
set_option maxRecDepth 100000
set_option maxHeartbeats 0
open_top headK06 for PySem.Challenge.rw_asksmore_k06_sums_and_spelled
set_option maxRecDepth 100000 in
set_option maxHeartbeats 0 in
theorem PySem.Challenge.cw_asksmore_k06_sums_and_spelled_holds : PySem.Challenge.rw_asksmore_k06_sums_and_spelled.Holds := by
  refine headK06 ?_
  k_fill
  refine Ask.walk (l := PySem.Challenge.rw_asksmore_k06_sums_and_spelled) rfl rfl (fun w h Y => PySem.W.kIn_of Y) ?F
  case F =>
    intro w mg fa h KX G hmg
    refine' Ask.all_mk KX G hmg ?hn ?ht ?a0 ?l0 ?c0 ?k0 ?a1 ?l1 ?c1 ?k1 ?a2 ?l2 ?c2 ?k2 ?a3 ?l3 ?c3 ?k3 ?a4 ?l4 ?c4 ?k4 ?a5 ?l5 ?c5 ?k5 ?a6 ?l6 ?c6 ?k6 ?aw ?lw ?cw ?kw ?av ?lv ?cv ?kv ?ac ?lc ?cc ?kc ?ad ?ld ?cd ?kd ?af ?lf ?cf ?kf ?ag ?lg ?cg ?kg ?ah ?lh ?ch ?kh ?ai ?li ?ci ?ki ?ak ?lk ?ck ?kk ?aj ?lj ?cj ?kj ?am ?lm ?cm ?km ?an ?ln ?cn ?kn ?ao ?lo ?co ?ko ?ap ?lp ?cp ?kp ?aq ?lq ?cq ?kq ?ar ?lr ?cr ?kr ?as ?ls ?cs ?ks ?au ?lu ?cu ?ku ?ax ?lx ?cx ?kx ?a7 ?l7 ?c7 ?k7 ?az ?lz ?cz ?kz ?a8 ?l8 ?c8 ?k8 ?ae ?le ?ce ?ke ?a9 ?l9 ?c9 ?k9 ?aB ?iB ?lB ?cB ?kB ?kcB ?saB ?xB ?vB ?gaB ?ggB ?eCB ?tCB ?tfB ?hCB ?nB0 ?aM ?iM ?lM ?cM ?kM ?kcM ?saM ?xM ?vM ?gaM ?ggM ?eCM ?tCM ?tfM ?hCM ?nM0 ?nM1 ?nM2 ?icM ?esM ?haM ?hmM ?aU ?iU ?lU ?cU ?kU ?kcU ?saU ?xU ?vU ?gaU ?ggU ?eCU ?tCU ?tfU ?hCU ?nU0 ?icU ?esU ?haU ?hmU ?aT ?iT ?lT ?cT ?kT ?kcT ?saT ?xT ?vT ?gaT ?ggT ?eCT ?tCT ?tfT ?hCT ?nT0 ?icT ?esT ?haT ?hmT ?aC ?iC ?lC ?cC ?kC ?kcC ?saC ?xC ?vC ?gaC ?ggC ?eCC ?tCC ?tfC ?hCC ?nC0 ?icC ?esC ?haC ?hmC ?aV ?iV ?lV ?cV ?kV ?kcV ?saV ?xV ?vV ?gaV ?ggV ?eCV ?tCV ?tfV ?hCV ?nV0 ?aZ ?exZ ?kcZ ?eCZ ?tCZ ?icZ ?esZ ?uUZ ?uTZ ?uTU ?uCZ ?uCU ?uCT ?uMZ ?uMU ?uMT ?uMC ?aL ?kcL ?saL ?pgL ?hdL ?poL ?mkL ?nL0 ?icL ?haL ?hmL ?iL ?lL ?cL ?kL ?isL ?iH ?lH ?cH ?kH ?isH ?iQ ?lQ ?cQ ?kQ ?isQ ?aY ?kcY ?saY ?pgY ?hdY ?poY ?mkY ?nY0 ?nY1 ?nY2 ?nY3 ?nY4 ?icY ?haY ?hmY ?iY ?lY ?cY ?kY ?dTY ?dUY ?dDY ?dEY ?dGY ?isY ?iW ?lW ?cW ?kW ?isW ?iA ?lA ?cA ?kA ?isA ?sfY ?iE ?lE ?cE ?kE ?isE ?rdY ?cgY ?caP ?crP ?cfP ?lP ?cP ?kP ?aK ?kcK ?saK ?pgK ?hdK ?poK ?mkK ?nK0 ?icK ?haK ?hmK ?tcK ?iK ?lK ?cK ?kK ?isK ?g_gS ?g_gW ?g_gM ?g_gL ?g_gB ?gl_gB ?gc_gB ?gd_gB ?gs_gB ?gv_gB ?g_gC ?g_gR ?g_gP ?z0 ?z1 ?z2 ?z3 ?z4 ?z5 ?z6 ?z7 ?z8 ?z9 ?z10 ?z11 ?z12 ?z13 ?z14 ?xL ?vL ?xNL ?xAL ?xBL ?xCL ?xDL ?xY ?vY ?xNY ?xAY ?xBY ?xCY ?xDY
    (case hn => k_is)
    (case ht => k_is)
    (case a0 => k_is)
    (case l0 => k_is)
    (case c0 => k_is)
    (case k0 => k_is)
    (case a1 => k_is)
    (case l1 => k_is)
    (case c1 => k_is)
    (case k1 => k_is)
    (case a2 => k_is)
    (case l2 => k_is)
    (case c2 => k_is)
    (case k2 => k_is)
    (case a3 => k_is)
    (case l3 => k_is)
    (case c3 => k_is)
    (case k3 => k_is)
    (case a4 => k_is)
    (case l4 => k_is)
    (case c4 => k_is)
    (case k4 => k_is)
    (case a5 => k_is)
    (case l5 => k_is)
    (case c5 => k_is)
    (case k5 => k_is)
    (case a6 => k_is)
    (case l6 => k_is)
    (case c6 => k_is)
    (case k6 => k_is)
    (case aw => k_is)
    (case lw => k_is)
    (case cw => k_is)
    (case kw => k_is)
    (case av => k_is)
    (case lv => k_is)
    (case cv => k_is)
    (case kv => k_is)
    (case ac => k_is)
    (case lc => k_is)
    (case cc => k_is)
    (case kc => k_is)
    (case ad => k_is)
    (case ld => k_is)
    (case cd => k_is)
    (case kd => k_is)
    (case af => k_is)
    (case lf => k_is)
    (case cf => k_is)
    (case kf => k_is)
    (case ag => k_is)
    (case lg => k_is)
    (case cg => k_is)
    (case kg => k_is)
    (case ah => k_is)
    (case lh => k_is)
    (case ch => k_is)
    (case kh => k_is)
    (case ai => k_is)
    (case li => k_is)
    (case ci => k_is)
    (case ki => k_is)
    (case ak => k_is)
    (case lk => k_is)
    (case ck => k_is)
    (case kk => k_is)
    (case aj => k_is)
    (case lj => k_is)
    (case cj => k_is)
    (case kj => k_is)
    (case am => k_is)
    (case lm => k_is)
    (case cm => k_is)
    (case km => k_is)
    (case an => k_is)
    (case ln => k_is)
    (case cn => k_is)
    (case kn => k_is)
    (case ao => k_is)
    (case lo => k_is)
    (case co => k_is)
    (case ko => k_is)
    (case ap => k_is)
    (case lp => k_is)
    (case cp => k_is)
    (case kp => k_is)
    (case aq => k_is)
    (case lq => k_is)
    (case cq => k_is)
    (case kq => k_is)
    (case ar => k_is)
    (case lr => k_is)
    (case cr => k_is)
    (case kr => k_is)
    (case as => k_is)
    (case ls => k_is)
    (case cs => k_is)
    (case ks => k_is)
    (case au => k_is)
    (case lu => k_is)
    (case cu => k_is)
    (case ku => k_is)
    (case ax => k_is)
    (case lx => k_is)
    (case cx => k_is)
    (case kx => k_is)
    (case a7 => k_is)
    (case l7 => k_is)
    (case c7 => k_is)
    (case k7 => k_is)
    (case az => k_is)
    (case lz => k_is)
    (case cz => k_is)
    (case kz => k_is)
    (case a8 => k_is)
    (case l8 => k_is)
    (case c8 => k_is)
    (case k8 => k_is)
    (case ae => k_is)
    (case le => k_is)
    (case ce => k_is)
    (case ke => k_is)
    (case a9 => k_is)
    (case l9 => k_is)
    (case c9 => k_is)
    (case k9 => k_is)
    (case aB => k_is)
    (case iB => k_is)
    (case lB => k_is)
    (case cB => k_is)
    (case kB => k_is)
    (case kcB => k_is)
    (case saB => k_is)
    (case xB => k_is)
    (case vB => rfl)
    (case gaB => k_is)
    (case ggB => k_is)
    (case eCB => k_is)
    (case tCB => k_is)
    (case tfB => k_is)
    (case hCB => k_is)
    (case nB0 => k_is)
    (case aM => k_is)
    (case iM => k_is)
    (case lM => k_is)
    (case cM => k_is)
    (case kM => k_is)
    (case kcM => k_is)
    (case saM => k_is)
    (case xM => k_is)
    (case vM => rfl)
    (case gaM => k_is)
    (case ggM => k_is)
    (case eCM => k_is)
    (case tCM => k_is)
    (case tfM => k_is)
    (case hCM => k_is)
    (case nM0 => k_is)
    (case nM1 => k_is)
    (case nM2 => k_is)
    (case icM => k_is)
    (case esM => k_is)
    (case haM => k_is)
    (case hmM => k_is)
    (case aU => k_is)
    (case iU => k_is)
    (case lU => k_is)
    (case cU => k_is)
    (case kU => k_is)
    (case kcU => k_is)
    (case saU => k_is)
    (case xU => k_is)
    (case vU => rfl)
    (case gaU => k_is)
    (case ggU => k_is)
    (case eCU => k_is)
    (case tCU => k_is)
    (case tfU => k_is)
    (case hCU => k_is)
    (case nU0 => k_is)
    (case icU => k_is)
    (case esU => k_is)
    (case haU => k_is)
    (case hmU => k_is)
    (case aT => k_is)
    (case iT => k_is)
    (case lT => k_is)
    (case cT => k_is)
    (case kT => k_is)
    (case kcT => k_is)
    (case saT => k_is)
    (case xT => k_is)
    (case vT => rfl)
    (case gaT => k_is)
    (case ggT => k_is)
    (case eCT => k_is)
    (case tCT => k_is)
    (case tfT => k_is)
    (case hCT => k_is)
    (case nT0 => k_is)
    (case icT => k_is)
    (case esT => k_is)
    (case haT => k_is)
    (case hmT => k_is)
    (case aC => k_is)
    (case iC => k_is)
    (case lC => k_is)
    (case cC => k_is)
    (case kC => k_is)
    (case kcC => k_is)
    (case saC => k_is)
    (case xC => k_is)
    (case vC => rfl)
    (case gaC => k_is)
    (case ggC => k_is)
    (case eCC => k_is)
    (case tCC => k_is)
    (case tfC => k_is)
    (case hCC => k_is)
    (case nC0 => k_is)
    (case icC => k_is)
    (case esC => k_is)
    (case haC => k_is)
    (case hmC => k_is)
    (case aV => k_is)
    (case iV => k_is)
    (case lV => k_is)
    (case cV => k_is)
    (case kV => k_is)
    (case kcV => k_is)
    (case saV => k_is)
    (case xV => k_is)
    (case vV => rfl)
    (case gaV => k_is)
    (case ggV => k_is)
    (case eCV => k_is)
    (case tCV => k_is)
    (case tfV => k_is)
    (case hCV => k_is)
    (case nV0 => k_is)
    (case aZ => k_is)
    (case exZ => k_exc)
    (case kcZ => k_is)
    (case eCZ => k_is)
    (case tCZ => k_is)
    (case icZ => k_is)
    (case esZ => k_is)
    (case uUZ => k_is)
    (case uTZ => k_is)
    (case uTU => k_is)
    (case uCZ => k_is)
    (case uCU => k_is)
    (case uCT => k_is)
    (case uMZ => k_is)
    (case uMU => k_is)
    (case uMT => k_is)
    (case uMC => k_is)
    (case aL => k_is)
    (case kcL => k_is)
    (case saL => k_is)
    (case pgL => k_is)
    (case hdL => k_is)
    (case poL => k_is)
    (case mkL => k_is)
    (case nL0 => k_is)
    (case icL => k_is)
    (case haL => k_is)
    (case hmL => k_is)
    (case iL => k_is)
    (case lL => k_is)
    (case cL => k_is)
    (case kL => k_is)
    (case isL => k_is)
    (case iH => k_is)
    (case lH => k_is)
    (case cH => k_is)
    (case kH => k_is)
    (case isH => k_is)
    (case iQ => k_is)
    (case lQ => k_is)
    (case cQ => k_is)
    (case kQ => k_is)
    (case isQ => k_is)
    (case aY => k_is)
    (case kcY => k_is)
    (case saY => k_is)
    (case pgY => k_is)
    (case hdY => k_is)
    (case poY => k_is)
    (case mkY => k_is)
    (case nY0 => k_is)
    (case nY1 => k_is)
    (case nY2 => k_is)
    (case nY3 => k_is)
    (case nY4 => k_is)
    (case icY => k_is)
    (case haY => k_is)
    (case hmY => k_is)
    (case iY => k_is)
    (case lY => k_is)
    (case cY => k_is)
    (case kY => k_is)
    (case dTY => k_is)
    (case dUY => rfl)
    (case dDY => k_is)
    (case dEY => rfl)
    (case dGY => rfl)
    (case isY => k_is)
    (case iW => k_is)
    (case lW => k_is)
    (case cW => k_is)
    (case kW => k_is)
    (case isW => k_is)
    (case iA => k_is)
    (case lA => k_is)
    (case cA => k_is)
    (case kA => k_is)
    (case isA => k_is)
    (case sfY => k_is)
    (case iE => k_is)
    (case lE => k_is)
    (case cE => k_is)
    (case kE => k_is)
    (case isE => k_is)
    (case rdY => k_is)
    (case cgY => k_is)
    (case caP => k_is)
    (case crP => k_is)
    (case cfP => k_is)
    (case lP => k_is)
    (case cP => k_is)
    (case kP => k_is)
    (case aK => k_is)
    (case kcK => k_is)
    (case saK => k_is)
    (case pgK => k_is)
    (case hdK => k_is)
    (case poK => k_is)
    (case mkK => k_is)
    (case nK0 => k_is)
    (case icK => k_is)
    (case haK => k_is)
    (case hmK => k_is)
    (case tcK => k_is)
    (case iK => k_is)
    (case lK => k_is)
    (case cK => k_is)
    (case kK => k_is)
    (case isK => k_is)
    (case g_gS => k_is)
    (case g_gW => k_is)
    (case g_gM => k_is)
    (case g_gL => k_is)
    (case g_gB => k_is)
    (case gl_gB => k_is)
    (case gc_gB => rfl)
    (case gd_gB => rfl)
    (case gs_gB => decide)
    (case gv_gB => exact .cons ⟨_, rfl⟩ (.cons ⟨_, rfl⟩ (.nil)))
    (case g_gC => k_is)
    (case g_gR => k_is)
    (case g_gP => k_is)
    (case z0 => k_is)
    (case z1 => k_is)
    (case z2 => k_is)
    (case z3 => k_is)
    (case z4 => k_is)
    (case z5 => k_is)
    (case z6 => k_is)
    (case z7 => k_is)
    (case z8 => k_is)
    (case z9 => k_is)
    (case z10 => k_is)
    (case z11 => k_is)
    (case z12 => k_is)
    (case z13 => k_is)
    (case z14 => k_is)
    (case xL => k_is)
    (case vL => rfl)
    (case xNL => k_is)
    (case xAL => rfl)
    (case xBL => exact Ask.strKeys_of rfl)
    (case xCL => rfl)
    (case xDL => rfl)
    (case xY => k_is)
    (case vY => rfl)
    (case xNY => k_is)
    (case xAY => rfl)
    (case xBY => exact Ask.strKeys_of rfl)
    (case xCY => rfl)
    (case xDY => rfl)
