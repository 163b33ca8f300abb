import PyProof.Rows.All
import Wide.All
import OpenK.AllK
import Wide.FinOn
import HandS.ForMost
import HandS.Exc
import HandS.TryOnly
import HandS.ExcInit
import HandS.IsInst
import HandS.Style
import HandS.Wide
import HandS.Deep
import HandS.Walk
import HandS.ExcField
import HandS.WordsExc
import HandS.Flow
import KE.GoesEnum
import PyProof.ReprRoads
import HandS.ExcOwn
import HandS.List
import HandS.OwnEq
import PyProof.InstNe
import PyProof.EqKinds
import KE.KExcIs
import HandS.Strs
import HandS.TupLe
import HandS.TupAny
import HandS.Defaults
import HandS.CallSlots
import PyProof.Slots
import KE.KxPercent
import PyProof.ReprLen
import PyProof.Rows.StrJoinMade
import HandS.Base
import HandS.Call
import PyProof.MeetsIn
import PyProof.Rows.Range3
import PyProof.CallStr
import HandS.CallLocal
import HandS.ClsMeth
import HandS.Property
import PySem.Challenge.RW_asksmore_k23_chains_looked_at
set_option Elab.async false
set_option linter.all false
set_option maxRecDepth 100000
set_option maxHeartbeats 4000000
namespace Ask
open PySem L2
def top (i : Nat) : Stmt := PySem.Challenge.pw_asksmore_k23_chains_looked_at.main.body.getD i (.Pass ⟨0, 0, 0, 0⟩)
/-- the built-in names that the text calls -/
structure Blt (mg : Str → Option Value) : Prop where
  n_int : mg "int" = none
  n_len : mg "len" = none
  n_abs : mg "abs" = none
  n_list : mg "list" = none
  n_range : mg "range" = none
  n_min : mg "min" = none
  n_str : mg "str" = none
  n_isinstance : mg "isinstance" = none
  n_all : mg "all" = none
  n_enumerate : mg "enumerate" = none
  n_tuple : mg "tuple" = none
  n_repr : mg "repr" = none
/-- all but what stands at p is as it was -/
def Kp (p : Addr) (H H' : Hp) : Prop := ∀ b o, b ≠ p → H b = some o → H' b = some o
theorem Kp.refl (p : Addr) (H : Hp) : Kp p H H := fun _ _ _ h => h
theorem Kp.trans {p : Addr} {H H1 H2 : Hp} (a : Kp p H H1) (b : Kp p H1 H2) : Kp p H H2 := fun c o n h => b c o n (a c o n h)
theorem Kp.upd (p : Addr) (H : Hp) (o : HO) : Kp p H (upd H p o) := fun b u n h => by rw [upd_ne n]; exact h
theorem Kp.of {p : Addr} {H H' : Hp} (s : Same H H') : Kp p H H' := fun b o _ h => s b o h
theorem Kp.new {p q : Addr} {H H' : Hp} {o : HO} (k : Kp p H H') (h : H' q = none) : Kp p H (L2.upd H' q o) := fun b u n e => by
  rw [upd_ne (ne_of_none (k b u n e) h)]
  exact k b u n e
theorem kLC : ¬ ((Sum.inr ("left" : Str) : Key) = Sum.inr ("cells" : Str)) := by decide +kernel
theorem kLB : ¬ ((Sum.inr ("left" : Str) : Key) = Sum.inr ("begun" : Str)) := by decide +kernel
theorem kBC : ¬ ((Sum.inr ("begun" : Str) : Key) = Sum.inr ("cells" : Str)) := by decide +kernel
/-- what a pen holds -/
def pk (c : Addr) (b l : Int) : List (Key × V) := [(Sum.inr ("cells" : Str), .ref c), (Sum.inr ("begun" : Str), .int b), (Sum.inr ("left" : Str), .int l)]
theorem pk_cells (c : Addr) (b l : Int) : valV (pk c b l) (Sum.inr ("cells" : Str)) = some (.ref c) := valV_pos rfl
theorem pk_begun (c : Addr) (b l : Int) : valV (pk c b l) (Sum.inr ("begun" : Str)) = some (.int b) :=
  (valV_neg (fun z => kBC z.symm)).trans (valV_pos rfl)
theorem pk_left (c : Addr) (b l : Int) : valV (pk c b l) (Sum.inr ("left" : Str)) = some (.int l) :=
  (valV_neg (fun z => kLC z.symm)).trans ((valV_neg (fun z => kLB z.symm)).trans (valV_pos rfl))
theorem pk_putL (c : Addr) (b l m : Int) : putK (pk c b l) (Sum.inr ("left" : Str)) (.int m) = pk c b m := by
  unfold putK pk
  have e : (([(Sum.inr ("cells" : Str), .ref c), (Sum.inr ("begun" : Str), .int b), (Sum.inr ("left" : Str), .int l)] : List (Key × V)).any fun kv => decide (kv.1 = Sum.inr ("left" : Str))) = true := by simp
  rw [if_pos e]
  simp only [List.map_cons, List.map_nil]
  rw [if_neg (fun z => kLC z.symm), if_neg (fun z => kLB z.symm)]
  rfl
theorem pk_putB (c : Addr) (b l m : Int) : putK (pk c b l) (Sum.inr ("begun" : Str)) (.int m) = pk c m l := by
  unfold putK pk
  have e : (([(Sum.inr ("cells" : Str), .ref c), (Sum.inr ("begun" : Str), .int b), (Sum.inr ("left" : Str), .int l)] : List (Key × V)).any fun kv => decide (kv.1 = Sum.inr ("begun" : Str))) = true := by simp
  rw [if_pos e]
  simp only [List.map_cons, List.map_nil]
  rw [if_neg (fun z => kBC z.symm), if_neg kLB]
  rfl
/-- at p a pen over the cells ns at c, of which at most B were begun -/
def Pen (c : Addr) (ns : List Int) (H : Hp) (p : Addr) (B : Nat) : Prop := ∃ (b l : Int), H p = some (.dK (pk c b l)) ∧ H c = some (.lst (ns.map V.int)) ∧ ns.length ≤ 63 ∧ 0 ≤ b ∧ b ≤ (B : Int)
/-- from H0 to H all but the pen stands as it stood, and the pen is a pen -/
structure Go (p c : Addr) (ns : List Int) (H0 H : Hp) (B : Nat) : Prop where
  kp : Kp p H0 H
  pen : Pen c ns H p B
  base : ∃ A, Pen c ns H0 p A
section
variable {p c q a : Addr} {ns : List Int} {H0 H H' : Hp} {A B : Nat} {o : HO} {xs : List V} {K : PySem.W.Frag}
theorem Pen.mono (h : Pen c ns H p A) (le : A ≤ B) : Pen c ns H p B := by
  obtain ⟨b, l, h1, h2, h3, h4, h5⟩ := h
  exact ⟨b, l, h1, h2, h3, h4, by omega⟩
theorem Pen.at (h : Pen c ns H p A) : ∃ o, H p = some o := by
  obtain ⟨b, l, h1, _⟩ := h
  exact ⟨_, h1⟩
theorem Pen.upd (h : Pen c ns H p A) (h1 : q ≠ p) (h2 : q ≠ c) : Pen c ns (L2.upd H q o) p A := by
  obtain ⟨b, l, e1, e2, e3⟩ := h
  exact ⟨b, l, by rw [upd_ne h1.symm]; exact e1, by rw [upd_ne h2.symm]; exact e2, e3⟩
theorem Go.refl (h : Pen c ns H p B) : Go p c ns H H B := ⟨Kp.refl p H, h, B, h⟩
theorem Go.step (g : Go p c ns H0 H A) (g' : Go p c ns H H' B) : Go p c ns H0 H' B := ⟨g.kp.trans g'.kp, g'.pen, g.base⟩
theorem Go.mono (g : Go p c ns H0 H A) (le : A ≤ B) : Go p c ns H0 H B := ⟨g.kp, g.pen.mono le, g.base⟩
/-- fresh later is fresh before -/
theorem Go.free (g : Go p c ns H0 H B) (n : H q = none) : H0 q = none := by
  by_cases e : q = p
  · subst e
    obtain ⟨o, z⟩ := g.pen.at
    rw [z] at n
    cases n
  · cases z : H0 q with
    | none => rfl
    | some o =>
      rw [g.kp q o e z] at n
      cases n
theorem Go.ne (g : Go p c ns H0 H B) (n : H0 q = none) : q ≠ p ∧ q ≠ c := by
  obtain ⟨A, b, l, h1, h2, _⟩ := g.base
  refine ⟨fun e => ?_, fun e => ?_⟩
  · rw [e, h1] at n
    cases n
  · rw [e, h2] at n
    cases n
/-- what H0 did not know may change -/
theorem Go.mut (g : Go p c ns H0 H B) (n : H0 q = none) : Go p c ns H0 (upd H q o) B :=
  ⟨fun b u e z => by
    rw [upd_ne (ne_of_none z n)]
    exact g.kp b u e z, g.pen.upd (g.ne n).1 (g.ne n).2, g.base⟩
theorem Go.new (g : Go p c ns H0 H B) (n : H q = none) : Go p c ns H0 (upd H q o) B := g.mut (g.free n)
theorem Go.same (g : Go p c ns H0 H B) (s : Same H H') : Go p c ns H0 H' B := by
  obtain ⟨b, l, h1, h2, h3⟩ := g.pen
  exact ⟨g.kp.trans (Kp.of s), ⟨b, l, s _ _ h1, s _ _ h2, h3⟩, g.base⟩
theorem Go.at (g : Go p c ns H0 H B) (e : H0 a = some o) (d : ∀ kvs, o ≠ .dK kvs) : H a = some o := by
  obtain ⟨A, b, l, h1, _⟩ := g.base
  exact g.kp _ _ (ne_of e h1 (d _)) e
theorem Go.lst (g : Go p c ns H0 H B) (e : H0 a = some (.lst xs)) : H a = some (.lst xs) := g.at e (by intro _ z; cases z)
theorem Go.tup (g : Go p c ns H0 H B) (e : H0 a = some (.tup xs)) : H a = some (.tup xs) := g.at e (by intro _ z; cases z)
theorem Go.seq (g : Go p c ns H0 H B) (q : SqL K H0 a xs) : SqL K H a xs := by
  rcases q with (q | ⟨o, q⟩) | q
  · exact .inl (.inl (g.lst q))
  · exact .inl (.inr ⟨o, g.at q (by intro _ z; cases z)⟩)
  · exact .inr q
end

/-- x = a if c else b, its two ways met -/
theorem seqIf_cut {t : TT} {ta tb : TE} {g : TG} {u : TS} {D : Ends} {σ : L2.St} {H : Hp} (Pv : V → Hp → Prop) (h : ∀ Q' : VK, (∀ v H', Pv v H' → Q' v H') → tIf t ta tb σ H Q') (hq : ∀ v H', Pv v H' → g v σ H' (u D)) :
    tSeq (tAsg (tIf t ta tb) g) u D σ H := h _ hq
/-- if c: body, the ways past it met -/
theorem seqIfS_cut {c : TT} {t v u : TS} {D : Ends} {σ : L2.St} {H : Hp} (hn : u D σ H) (h : ∀ N : L2.St → Hp → Prop, N σ H → tIfS c t v { D with nx := N } σ H) : tSeq (tIfS c t v) u D σ H := h (u D) hn

/-! ### the draw -/
def spDraw : Sp := fun vs H Q _ => ∃ (p c : Addr) (ns : List Int) (m : Int) (B : Nat), vs = [.ref p, .int m] ∧ Pen c ns H p B ∧ B ≤ 1000000000 ∧ 0 < m ∧ m < 1073741824 ∧
  ∀ (H' : Hp) (r : Int), Go p c ns H H' (B + 1) → 0 ≤ r → r < m → Q (.int r) H'
section
variable {P : Program} {w : World} {K : PySem.W.Frag} {mg : Str → Option Value} {base : Heap}
abbrev s__law_draw : Stmt := top 60
theorem sc__law_draw : FnScope ["_law_pen_here", "_law_many", "_law_digit", "_law_place", "_law_size_here", "_law_told_here", "_law_blend"] ["_law_pen_here", "_law_many"] (defScope s__law_draw) := ⟨rfl, rfl, rfl, by decide +kernel, rfl, by decide +kernel, by decide +kernel⟩
theorem div_ok {i j : Int} (h : 0 < j) (h2 : j < 1073741824) : CDivW i j := wide_div (b := 30) h (by omega) (by decide) (by decide)
theorem mul_small {i j : Int} (h : -(2 ^ 64) < i ∧ i < 2 ^ 64) : CMul i j := .inl h
theorem ok_draw {f : Addr} {fd : FuncData} (F : Fun K "_law_draw" "_law_draw" s__law_draw f fd) (T : Blt mg) : FnOk P w K mg base CX0 1 f fd ["_law_pen_here", "_law_many"] spDraw := by
  refine F.ok sc__law_draw (fun vs H Q E h => ?_) (fun cdv A outer s H vs Q E hr h => ?_)
  · obtain ⟨p, c, ns, m, B, rfl, _⟩ := h
    rfl
  · obtain ⟨p, c, ns, m, B, rfl, hpen, hB, hm0, hm1, k⟩ := h
    obtain ⟨b, l, hp, hc, hl, hb0, hbB⟩ := id hpen
    have hu := hu_of hr
    refine ⟨_, (pss_cons (ps_if (pt_cmpR op_gt (pe_dget hu (pv 0) pe_str (fun _ _ => rfl)) pe_int (nomark _)) (pss_cons (ps_set (i := 2) sc__law_draw.nd rfl (Or.inl rfl) (pe_op op_mod (pe_callTy call_int1 (by rfl) T.n_int (by decide +kernel) (pa_cons (pe_dget hu (pv 0) pe_str (fun _ _ => rfl)) pa_nil)) (pv 1)))
      (pss_cons (ps_dput hu (pv 0) pe_str (pe_op op_fdivW (pe_dget hu (pv 0) pe_str (fun _ _ => rfl)) (pv 1)) rfl)
      (pss_one (ps_ret (pv 2))))) pss_nil)
      (pss_cons (ps_par (i := 3) (j := 4) rfl sc__law_draw.nd rfl rfl (by decide) rfl rfl (pa_cons (pe_dget hu (pv 0) pe_str (fun _ _ => rfl)) (pa_cons (pe_callB call_len_seq (by rfl) T.n_len (by decide +kernel) (pa_cons (pe_dget hu (pv 0) pe_str (fun _ _ => rfl)) pa_nil)) pa_nil)) (by rfl))
      (pss_cons (ps_dput hu (pv 0) pe_str (pe_op op_add (pv 3) pe_int) rfl)
      (pss_cons (ps_set (i := 5) sc__law_draw.nd rfl (Or.inl rfl) (pe_ifExp (pt_cmpR op_gt (pv 4) pe_int (nomark _)) (pe_ix ix_list (pe_dget hu (pv 0) pe_str (fun _ _ => rfl)) (pe_op op_mod (pe_callTy call_int1 (by rfl) T.n_int (by decide +kernel) (pa_cons (pv 3) pa_nil)) (pv 4)) (fun _ _ => rfl)) (pe_op op_add (pe_op op_mul pe_int (pv 3)) pe_int)))
      (pss_cons (ps_if (PW.pt (pw_and (pt_cmpR op_lt (pv 3) (pv 4) (nomark _)) (pw_and1 (pt_cmpR op_ge (pe_callB call_abs (by rfl) T.n_abs (by decide +kernel) (pa_cons (pv 5) pa_nil)) (pe_op op_pow pe_int pe_int) (nomark _))))) (pss_cons (ps_dput hu (pv 0) pe_str (pe_op op_fdivW (pe_op op_sub (pe_callB call_abs (by rfl) T.n_abs (by decide +kernel) (pa_cons (pv 5) pa_nil)) (pe_op op_pow pe_int pe_int)) (pv 1)) rfl)
      (pss_one (ps_ret (pe_op op_mod (pe_callTy call_int1 (by rfl) T.n_int (by decide +kernel) (pa_cons (pe_op op_sub (pe_callB call_abs (by rfl) T.n_abs (by decide +kernel) (pa_cons (pv 5) pa_nil)) (pe_op op_pow pe_int pe_int)) pa_nil)) (pv 1))))) pss_nil)
      (pss_cons (ps_set (i := 6) sc__law_draw.nd rfl (Or.inl rfl) (pe_op op_mod (pe_callTy call_int1 (by rfl) T.n_int (by decide +kernel) (pa_cons (pe_op op_add (pe_op op_add (pe_op op_mul (pe_op op_mod (pe_callTy call_int1 (by rfl) T.n_int (by decide +kernel) (pa_cons (pv 5) pa_nil)) pe_int) pe_int) (pe_op op_mul (pe_op op_mul pe_int (pv 3)) (pv 3))) pe_int) pa_nil)) pe_int))
      (pss_cons (ps_set (i := 6) sc__law_draw.nd rfl (Or.inl rfl) (pe_op op_mod (pe_callTy call_int1 (by rfl) T.n_int (by decide +kernel) (pa_cons (pe_op op_add (pe_op op_add (pe_op op_add (pe_op op_mul (pv 6) (pv 6)) (pe_op op_mul pe_int (pv 6))) (pe_op op_mul pe_int (pv 3))) pe_int) pa_nil)) pe_int))
      (pss_one (ps_ret (pe_op op_mod (pe_callTy call_int1 (by rfl) T.n_int (by decide +kernel) (pa_cons (pe_op op_fdivW (pe_op op_mod (pe_callTy call_int1 (by rfl) T.n_int (by decide +kernel) (pa_cons (pe_op op_mul (pv 6) (pe_op op_add (pv 6) pe_int)) pa_nil)) pe_int) pe_int) pa_nil)) (pv 1))))))))))), ?_⟩
    have gL : ∀ {H : Hp} {b l : Int}, H p = some (.dK (pk c b l)) → DGet H p (.str "left") (some (.int l)) := fun e => by
      have z := DGet.k (k := Sum.inr ("left" : Str)) e
      rw [pk_left] at z
      exact z
    have gB : ∀ {H : Hp} {b l : Int}, H p = some (.dK (pk c b l)) → DGet H p (.str "begun") (some (.int b)) := fun e => by
      have z := DGet.k (k := Sum.inr ("begun" : Str)) e
      rw [pk_begun] at z
      exact z
    have gC : ∀ {H : Hp} {b l : Int}, H p = some (.dK (pk c b l)) → DGet H p (.str "cells") (some (.ref c)) := fun e => by
      have z := DGet.k (k := Sum.inr ("cells" : Str)) e
      rw [pk_cells] at z
      exact z
    have three : ∀ b l : Int, (pk c b l).length < sizeLine := fun b l => by show 3 < sizeLine; decide
    have pL : ∀ {H : Hp} {b l : Int} (m : Int), H p = some (.dK (pk c b l)) → DPut H p (.str "left") (.int m) (upd H p (.dK (pk c b m))) := fun m e => by
      have z := DPut.k (k := Sum.inr ("left" : Str)) (v := .int m) e (three _ _)
      rw [pk_putL] at z
      exact z
    have pB : ∀ {H : Hp} {b l : Int} (m : Int), H p = some (.dK (pk c b l)) → DPut H p (.str "begun") (.int m) (upd H p (.dK (pk c m l))) := fun m e => by
      have z := DPut.k (k := Sum.inr ("begun" : Str)) (v := .int m) e (three _ _)
      rw [pk_putB] at z
      exact z
    have ncp : c ≠ p := ne_of hc hp (by intro z; cases z)
    -- if pen['left'] > 0
    refine ⟨_, rfl, p, _, rfl, gL hp, _, _, rfl, rfl, _, rfl, ?_⟩
    refine ite2 (fun h0 => ?_) (fun h0 => ?_)
    · -- digit = int(left) % many; left = left // many; return digit
      refine ⟨_, rfl, p, _, rfl, gL hp, .inl ⟨_, rfl, _, rfl, _, _, rfl, rfl, hm0, ?_⟩⟩
      refine ⟨_, rfl, p, _, rfl, gL hp, _, rfl, _, _, rfl, rfl, div_ok hm0 hm1, _, rfl, p, _, rfl, pL _ hp, ?_⟩
      refine ⟨_, rfl, ?_⟩
      refine k _ _ ⟨Kp.upd _ _ _, ⟨b, _, upd_same, by rw [upd_ne ncp]; exact hc, hl, hb0, by omega⟩, B, hpen⟩ (Int.emod_nonneg _ (by omega)) (Int.emod_lt_of_pos _ hm0)
    · -- place, size = begun, len(cells); begun = place + 1
      refine ⟨_, rfl, p, _, rfl, gB hp, _, rfl, p, _, rfl, gC hp, c, _, rfl, .inl (SqL.of hc), _, _, rfl, ?_⟩
      refine ⟨_, rfl, _, _, rfl, rfl, _, rfl, p, _, rfl, pB _ hp, ?_⟩
      have hp1 : upd H p (.dK (pk c (b + 1) l)) p = some (.dK (pk c (b + 1) l)) := upd_same
      have hc1 : upd H p (.dK (pk c (b + 1) l)) c = some (.lst (ns.map V.int)) := by rw [upd_ne ncp]; exact hc
      have k1 : Kp p H (upd H p (.dK (pk c (b + 1) l))) := Kp.upd _ _ _
      have pen1 : Pen c ns (upd H p (.dK (pk c (b + 1) l))) p (B + 1) := ⟨b + 1, l, hp1, hc1, hl, by omega, by omega⟩
      generalize upd H p (.dK (pk c (b + 1) l)) = H1 at hp1 hc1 k1 pen1 ⊢
      -- told: some int
      try dsimp only
      refine seqIf_cut (fun v H' => H' = H1 ∧ ∃ z, v = .int z) (fun Q' q' => ?_) (fun v H' hv => ?_)
      · refine ⟨_, rfl, _, _, rfl, rfl, _, rfl, ?_⟩
        refine ite2 (fun h1 => ?_) (fun h1 => ?_)
        · have h1 : (0 : Int) < ((ns.map V.int).length : Nat) := of_decide_eq_true h1
          rw [List.length_map] at h1
          have e0 : 0 ≤ b % (ns.length : Int) := Int.emod_nonneg _ (by omega)
          have e1 : b % (ns.length : Int) < (ns.length : Int) := Int.emod_lt_of_pos _ h1
          have e2 : (b % (ns.length : Int)).toNat < ns.length := by omega
          refine ⟨_, rfl, p, _, rfl, gC hp1, ?_⟩
          refine ⟨_, rfl, .inl ⟨_, rfl, _, rfl, _, _, rfl, rfl, (by rw [List.length_map]; exact h1), c, ns.map V.int, _, V.int ns[(b % (ns.length : Int)).toNat], rfl, rfl, SqL.of hc1, ?_, q' _ _ ⟨rfl, _, rfl⟩⟩⟩
          rw [List.length_map]
          refine at_of (j := (b % (ns.length : Int)).toNat) (by omega) ?_
          rw [List.getElem?_map, List.getElem?_eq_getElem e2]
          rfl
        · refine ⟨_, rfl, _, _, rfl, rfl, mul_small (by omega), _, _, rfl, rfl, q' _ _ ⟨rfl, _, rfl⟩⟩
      obtain ⟨rfl, z, rfl⟩ := hv
      refine seqIfS_cut ?_ (fun N q => ?_)
      · -- the blend
        have m0 := Int.emod_nonneg z (show (4294967279 : Int) ≠ 0 by decide)
        have m1 := Int.emod_lt_of_pos z (show (0 : Int) < 4294967279 by decide)
        refine ⟨_, rfl, .inl ⟨_, rfl, _, _, rfl, rfl, (by show (0 : Int) < _; decide), _, _, rfl, rfl, mul_small (by omega), ?_⟩⟩
        refine ⟨_, rfl, _, _, rfl, rfl, mul_small (by omega), _, rfl, _, _, rfl, rfl, mul_small (by omega), _, _, rfl, rfl, _, _, rfl, rfl, .inl ⟨_, rfl, _, _, rfl, rfl, (by show (0 : Int) < _; decide), ?_⟩⟩
        generalize hx : (z % 4294967279 * 44621 + 28657 * b * b + 1543) % 4294967291 = x
        have x0 : 0 ≤ x := by rw [← hx]; exact Int.emod_nonneg _ (by decide)
        have x1 : x < 4294967291 := by rw [← hx]; exact Int.emod_lt_of_pos _ (by decide)
        clear hx
        refine ⟨_, rfl, _, rfl, _, _, rfl, rfl, mul_small (by omega), _, rfl, _, _, rfl, rfl, mul_small (by omega), _, _, rfl, rfl, _, rfl, _, _, rfl, rfl, mul_small (by omega), _, _, rfl, rfl, _, _, rfl, rfl, .inl ⟨_, rfl, _, _, rfl, rfl, (by show (0 : Int) < _; decide), ?_⟩⟩
        generalize hy : (x * x + 66047 * x + 37 * b + 11) % 4294967231 = y
        have y0 : 0 ≤ y := by rw [← hy]; exact Int.emod_nonneg _ (by decide)
        have y1 : y < 4294967231 := by rw [← hy]; exact Int.emod_lt_of_pos _ (by decide)
        clear hy
        refine ⟨_, rfl, _, rfl, _, _, rfl, rfl, _, _, rfl, rfl, mul_small (by omega), .inl ⟨_, rfl, _, _, rfl, rfl, (by show (0 : Int) < _; decide), _, _, rfl, rfl, div_ok (by decide) (by decide), .inl ⟨_, rfl, _, rfl, _, _, rfl, rfl, hm0, ?_⟩⟩⟩
        exact k _ _ ⟨k1, pen1, B, hpen⟩ (Int.emod_nonneg _ (by omega)) (Int.emod_lt_of_pos _ hm0)
      · refine ⟨_, rfl, _, rfl, _, _, rfl, rfl, _, rfl, ?_⟩
        refine ite2 (fun h1 => ?_) (fun h1 => ?_)
        · refine ⟨_, rfl, _, rfl, _, _, rfl, rfl, (by refine ⟨by decide, by decide, by decide⟩), _, _, rfl, rfl, _, rfl, ?_⟩
          refine ite2 (fun h2 => ?_) (fun h2 => q)
          refine ⟨_, rfl, _, rfl, _, _, rfl, rfl, (by refine ⟨by decide, by decide, by decide⟩), _, _, rfl, rfl, _, rfl, _, _, rfl, rfl, div_ok hm0 hm1, _, rfl, p, _, rfl, pL _ hp1, ?_⟩
          refine ⟨_, rfl, _, rfl, _, _, rfl, rfl, (by refine ⟨by decide, by decide, by decide⟩), _, _, rfl, rfl, .inl ⟨_, rfl, _, rfl, _, _, rfl, rfl, hm0, ?_⟩⟩
          refine k _ _ ⟨k1.trans (Kp.upd _ _ _), ⟨b + 1, _, upd_same, by rw [upd_ne ncp]; exact hc1, hl, by omega, by omega⟩, B, hpen⟩ (Int.emod_nonneg _ (by omega)) (Int.emod_lt_of_pos _ hm0)
        · exact iteF q
end
end Ask

namespace Ask
open PySem L2
section
variable {P : Program} {w : World} {K : PySem.W.Frag} {mg : Str → Option Value} {base : Heap}
/-! ### the pen -/
def spPen (K : PySem.W.Frag) : Sp := fun vs H Q _ => ∃ (a : Addr) (ns : List Int), vs = [.ref a] ∧ SqL K H a (ns.map V.int) ∧ ns.length ≤ 63 ∧
  ∀ (H' : Hp) (p c : Addr), Same H H' → H p = none → Pen c ns H' p 0 → Q (.ref p) H'
abbrev s__law_pen : Stmt := top 59
theorem sc__law_pen : FnScope ["_law_script"] ["_law_script"] (defScope s__law_pen) := ⟨rfl, rfl, rfl, by decide +kernel, rfl, by decide +kernel, by decide +kernel⟩
theorem pk_made (c : Addr) (b l : Int) : mergeK [] [(Sum.inr ("cells" : Str), .ref c), (Sum.inr ("begun" : Str), .int b), (Sum.inr ("left" : Str), .int l)] = pk c b l := by
  have e1 : putK ([] : List (Key × V)) (Sum.inr ("cells" : Str)) (.ref c) = [(Sum.inr ("cells" : Str), .ref c)] := putK_new _ rfl
  have e2 : putK [((Sum.inr ("cells" : Str) : Key), V.ref c)] (Sum.inr ("begun" : Str)) (.int b) = [(Sum.inr ("cells" : Str), .ref c), (Sum.inr ("begun" : Str), .int b)] :=
    putK_new _ ((valV_neg (fun z => kBC z.symm)).trans rfl)
  have e3 : putK [((Sum.inr ("cells" : Str) : Key), V.ref c), (Sum.inr ("begun" : Str), .int b)] (Sum.inr ("left" : Str)) (.int l) = pk c b l :=
    putK_new _ ((valV_neg (fun z => kLC z.symm)).trans ((valV_neg (fun z => kLB z.symm)).trans rfl))
  unfold mergeK
  simp only [List.foldl_cons, List.foldl_nil]
  rw [e1, e2, e3]
theorem at_by {α : Type} {xs : List α} {z : Int} {j : Nat} {v : α} (e : z = (j : Int)) (h : xs[j]? = some v) : atI xs z = some v := by
  subst e
  exact atI_nat h
theorem cutV_whole (xs : List V) (n : Nat) (h : xs.length ≤ n) : cutV xs none (some (n : Int)) = xs := by
  unfold cutV
  rw [HT.sIx_none, HT.sIx_nat, List.drop_zero, Nat.sub_zero, Nat.min_eq_right h, List.take_length]
theorem ok_pen {f : Addr} {fd : FuncData} (F : Fun K "_law_pen" "_law_pen" s__law_pen f fd) (T : Blt mg) : FnOk P w K mg base CX0 1 f fd ["_law_script"] (spPen K) := by
  refine F.ok sc__law_pen (fun vs H Q E h => ?_) (fun cdv A outer s H vs Q E hr h => ?_)
  · obtain ⟨a, ns, rfl, _⟩ := h
    rfl
  · obtain ⟨a, ns, rfl, hS, hl, k⟩ := h
    refine ⟨_, (pss_one (ps_ret (pe_disp (pps_cons pe_str (pe_callTy call_list_of (by rfl) T.n_list (by decide +kernel) (pa_cons (pe_slice sl_list (pv 0) po_none (po_some pe_int)) pa_nil)) (pps_cons pe_str pe_int (pps_cons pe_str pe_int pps_nil))) (by rfl) (by rfl) (fun z => by cases z) (by decide)))), ?_⟩
    intro p hp
    have s0 : Same H (upd H p (.dK [])) := fun b o e => by rw [upd_ne (ne_of_none e hp)]; exact e
    refine ⟨_, rfl, _, rfl, a, _, rfl, s0.seq hS, fun q hq => ?_⟩
    rw [show cutV (ns.map V.int) none (some 63) = ns.map V.int from cutV_whole _ 63 (by rw [List.length_map]; exact hl)]
    refine ⟨q, _, rfl, .inl (SqL.of upd_same), fun c hc => ?_⟩
    have npq : p ≠ q := ne_of_none upd_same hq
    have hq0 : H q = none := by
      rw [upd_ne npq.symm] at hq
      exact hq
    have ncq : c ≠ q := fun e => by
      rw [e, upd_same] at hc
      cases hc
    have hc1 : upd H p (.dK []) c = none := by
      rw [upd_ne ncq] at hc
      exact hc
    have npc : p ≠ c := ne_of_none upd_same hc1
    have hc0 : H c = none := by
      rw [upd_ne npc.symm] at hc1
      exact hc1
    refine ⟨by rw [upd_ne npc, upd_ne npq, upd_same], [(Sum.inr ("cells" : Str), .ref c), (Sum.inr ("begun" : Str), .int 0), (Sum.inr ("left" : Str), .int 0)], rfl, (by show 3 ≤ 15; decide), ?_⟩
    rw [pk_made]
    refine k _ p c (fun b o e => ?_) hp ⟨0, 0, upd_same, by rw [upd_ne npc.symm, upd_same], hl, Int.le_refl _, Int.le_refl _⟩
    rw [upd_ne (ne_of_none e hp), upd_ne (ne_of_none e hc0), upd_ne (ne_of_none e hq0), upd_ne (ne_of_none e hp)]
    exact e

/-! ### the pick -/
def spPick (K : PySem.W.Frag) : Sp := fun vs H Q _ => ∃ (p c : Addr) (ns : List Int) (x : V) (B : Nat), vs = [.ref p, x] ∧ Pen c ns H p B ∧ B ≤ 1000000000 ∧
  ((∃ a xs, x = .ref a ∧ SqL K H a xs ∧ 0 < xs.length ∧ xs.length ≤ 1000 ∧ ∀ (H' : Hp) (v : V), Go p c ns H H' (B + 1) → v ∈ xs → Q v H') ∨
    (∃ z : Str, x = .str z ∧ 0 < z.length ∧ z.length ≤ 1000 ∧ ∀ (H' : Hp) (i : Nat), Go p c ns H H' (B + 1) → i ∈ z.cps.toList → Q (.str ⟨#[i]⟩) H'))
abbrev s__law_pick : Stmt := top 61
theorem sc__law_pick : FnScope ["_law_pen_here", "_law_options"] ["_law_pen_here", "_law_options"] (defScope s__law_pick) := ⟨rfl, rfl, rfl, by decide +kernel, rfl, by decide +kernel, by decide +kernel⟩
/-- a def of the text called by its name: where it stands, that it stays, how its arguments bind -/
structure At (K : PySem.W.Frag) (mg : Str → Option Value) (x : Str) (f : Addr) (fd : FuncData) (ps : List Str) : Prop where
  m : mg x = some (.ref f)
  k : PySem.W.keepIn K (.ref f) = true
  b : Binds K fd ps []
theorem ok_pick {f fD : Addr} {fd fdD : FuncData} (F : Fun K "_law_pick" "_law_pick" s__law_pick f fd) (T : Blt mg) (GD : FnOk P w K mg base CX0 1 fD fdD ["_law_pen_here", "_law_many"] spDraw) (D : At K mg "_law_draw" fD fdD ["_law_pen_here", "_law_many"]) :
    FnOk P w K mg base CX0 2 f fd ["_law_pen_here", "_law_options"] (spPick K) := by
  refine F.ok sc__law_pick (fun vs H Q E h => ?_) (fun cdv A outer s H vs Q E hr h => ?_)
  · obtain ⟨p, c, ns, x, B, rfl, _⟩ := h
    rfl
  · obtain ⟨p, c, ns, x, B, rfl, hpen, hB, h⟩ := h
    refine ⟨_, (pss_one (ps_ret (pe_ix ix_seq (pv 1) (pe_call GD hr (by rfl) D.m D.k D.b .nil pass0 (pa_cons (pv 0) (pa_cons (pe_callB call_len (by rfl) T.n_len (by decide +kernel) (pa_cons (pv 1) pa_nil)) pa_nil))) (fun _ _ => rfl)))), ?_⟩
    have sl : (1000 : Nat) ≤ sizeLine := by decide
    rcases h with ⟨a, xs, rfl, hS, h0, h1, k⟩ | ⟨z, rfl, h0, h1, k⟩
    · refine ⟨_, rfl, _, rfl, _, rfl, _, xs.length, rfl, .inl ⟨xs, hS, rfl⟩, p, c, ns, _, B, rfl, hpen, hB, by omega, by omega, fun H' r g r0 r1 => ?_⟩
      have hi : r.toNat < xs.length := by omega
      exact .inl ⟨a, xs, r, xs[r.toNat], rfl, rfl, g.seq hS, at_of (j := r.toNat) (by omega) (List.getElem?_eq_getElem hi), k H' _ g (List.getElem_mem hi)⟩
    · refine ⟨_, rfl, _, rfl, _, rfl, _, z.length, rfl, ⟨by omega, rfl⟩, p, c, ns, _, B, rfl, hpen, hB, by omega, by omega, fun H' r g r0 r1 => ?_⟩
      have hi : r.toNat < z.cps.toList.length := by
        have e : z.cps.toList.length = z.length := by simp [Str.length]
        omega
      exact .inr (.inr ⟨z, r, z.cps.toList[r.toNat], rfl, rfl, by omega, at_by (j := r.toNat) (by omega) (List.getElem?_eq_getElem hi), k H' _ g (List.getElem_mem hi)⟩)
end
end Ask

namespace Ask
open PySem L2
/-- if c: body else: other, its ways met in Mid -/
theorem seqIf_mid {c : TT} {t v u : TS} {D : Ends} {σ : L2.St} {H : Hp} (Mid : L2.St → Hp → Prop) (h : ∀ N : L2.St → Hp → Prop, (∀ σ' H', Mid σ' H' → N σ' H') → tIfS c t v { D with nx := N } σ H) (hq : ∀ σ' H', Mid σ' H' → u D σ' H') :
    tSeq (tIfS c t v) u D σ H := h (u D) hq
theorem len_sum1 : ∀ ys : List Str, (∀ y ∈ ys, y.length = 1) → (ys.map (·.length)).sum = ys.length
  | [], _ => rfl
  | y :: r, h => by
    rw [List.map_cons, List.sum_cons, List.length_cons, len_sum1 r (fun z hz => h z (List.mem_cons_of_mem _ hz)), h y (List.mem_cons_self ..)]
    omega
theorem join_len1 (ys : List Str) (h : ∀ y ∈ ys, y.length = 1) : (Txt.join (Str.ofString "") ys).length = ys.length := by
  rw [TL.join_eq]
  cases ys with
  | nil => rfl
  | cons a r =>
    rw [PyProof.Rows.len_join_cons, len_sum1 _ h]
    show _ + r.length * 0 = _
    omega
/-- all signs below 128 -/
def Asc (z : Str) : Prop := ∀ c ∈ z.cps.toList, c < 128
theorem Asc.app {a b : Str} (h : Asc a) (k : Asc b) : Asc (a ++ b) := fun c hc => by
  have e : (a ++ b).cps.toList = a.cps.toList ++ b.cps.toList := by
    rw [Str.cps_append, Array.toList_append]
  rw [e] at hc
  rcases List.mem_append.mp hc with z | z
  · exact h c z
  · exact k c z
theorem Asc.cut {a : Str} (h : Asc a) (lo hi : Option Int) : Asc (cutS a lo hi) := fun c hc => h c (List.mem_of_mem_drop (List.mem_of_mem_take hc))
theorem Asc.one {c : Nat} (h : c < 128) : Asc ⟨#[c]⟩ := fun d hd => by
  have e : d = c := by simpa using hd
  rw [e]
  exact h
theorem Asc.lit {s : String} (h : ((Str.ofString s).cps.toList.all fun c => decide (c < 128)) = true) : Asc (Str.ofString s) := fun c hc => of_decide_eq_true (List.all_eq_true.mp h c hc)
theorem Asc.joined : ∀ ys : List Str, (∀ y ∈ ys, Asc y) → Asc (Str.join (Str.ofString "") ys)
  | [], _ => fun c hc => by cases hc
  | [y], h => h y (List.mem_cons_self ..)
  | y :: z :: r, h => ((h y (List.mem_cons_self ..)).app (.lit rfl)).app (Asc.joined (z :: r) fun x hx => h x (List.mem_cons_of_mem _ hx))
theorem Asc.join (ys : List Str) (h : ∀ y ∈ ys, Asc y) : Asc (Txt.join (Str.ofString "") ys) := by
  rw [TL.join_eq]
  exact Asc.joined ys h
def small : Str := "abcdefghijklmnopqrstuvwxyz"
def signs : Str := "abcdefghijklmnopqrstuvwxyz0123456789"
theorem small_len : small.length = 26 := by decide +kernel
theorem signs_len : signs.length = 36 := by decide +kernel
theorem small_asc : Asc small := .lit (by decide +kernel)
theorem signs_asc : Asc signs := .lit (by decide +kernel)
section
variable {P : Program} {w : World} {K : PySem.W.Frag} {mg : Str → Option Value} {base : Heap}
abbrev s__law_letters : Stmt := top 62
theorem sc__law_letters : FnScope ["_law_pen_here", "_law_many", "_law_small", "_law_signs", "_law_stem", "_law_at", "_law_front", "_law_choice", "_law_step", "_law_tail", "_law_found", "_law_k", "_law_sign", "_law_word_here"] ["_law_pen_here", "_law_many"] (defScope s__law_letters) := ⟨rfl, rfl, rfl, by decide +kernel, rfl, by decide +kernel, by decide +kernel⟩
def nLet : List Str := ["_law_pen_here", "_law_many", "_law_small", "_law_signs", "_law_stem", "_law_at", "_law_front", "_law_choice", "_law_step", "_law_tail", "_law_found", "_law_k", "_law_sign", "_law_word_here"]
end
end Ask

/-! enumerate(t), t a tuple (or a list): the layer has it for lists alone -/
namespace PySem
open Sem (wp)
theorem ask_enum_new {v : Value} {o : Obj} {Hh : Heap → Prop} (B : Begins v o Hh) :
    Meets (Builtin.«enumerate.__new__» ⟨[.type "enumerate", v], []⟩) (fun _ R s => Hh s.heap ∧
      R (.ok (.ret (.ref (s.heap.push o).objs.size)))
        { s with heap := (s.heap.push o).push { cls := .type "enumerate", data := .fields #[.none, .bool false, .ref s.heap.objs.size, rawInt 0, .none, .none] } }) :=
  .of_wp fun prog w A R s z => by
    obtain ⟨h0, g0, d0, t0, os0⟩ := s
    obtain ⟨z1, z⟩ := z
    have subE := sub_enumerate
    have begins : ∀ {A' : Around} {E' : Value → Shared → Prop} {Q' : Value → Shared → Prop}, Q' (.ref h0.objs.size) ⟨h0.push o, g0, d0, t0, os0⟩ → wpAny (model prog w) A' (pyIter v) Q' E' ⟨h0, g0, d0, t0, os0⟩ :=
      fun q => B.iter prog w _ _ ⟨h0, g0, d0, t0, os0⟩ _ z1 q
    wp_walk using begins
    refine wpAny_stack_any fun _ => wpAny_pure ?_
    split
    · rename_i cl _ _ _ _ _
      cases (cl == Value.type "enumerate") <;> (wp_walk using begins; exact ⟨_, rfl, z⟩)
    · wp_walk using begins; exact ⟨_, rfl, z⟩
end PySem
namespace Ask
open PySem L2 PySem.Spec PyProof.Rows
/-- enumerate(v): its two new cells -/
theorem enum_made {prog : Program} {w : World} {A : Around} {E : Value → Shared → Prop} {s : Shared} {v : Value} {o : Obj} {Hh : Heap → Prop} {Q : Value → Shared → Prop} (B : Begins v o Hh) (h1 : Hh s.heap)
    (h : ∀ h', IsEnum h' (s.heap.objs.size + 1) s.heap.objs.size 0 .none → h'.get? s.heap.objs.size = some o → (∀ b u, s.heap.get? b = some u → h'.get? b = some u) → Q (.ref (s.heap.objs.size + 1)) { s with heap := h' }) :
    wpAny (model prog w) A (call (.type "enumerate") [v]) Q E s := by
  refine callType_new F.called_enumerate (by decide) (F.typeCall_enumerate_1 _) (F.newCall_enumerate_1 _) (fun obj => F.args_object_init_2 obj _) F.entry_enumerate_new (ask_enum_new B) ⟨h1, ?_⟩
  have z : (s.heap.push o).objs.size = s.heap.objs.size + 1 := Heap.size_push ..
  show _ ∧ _
  rw [z]
  have e : IsEnum ((s.heap.push o).push { cls := .type "enumerate", data := .fields #[.none, .bool false, .ref s.heap.objs.size, rawInt 0, .none, .none] }) (s.heap.objs.size + 1) s.heap.objs.size 0 .none := by
    have q := Heap.get?_push_size (s.heap.push o) (o := { cls := .type "enumerate", data := .fields #[.none, .bool false, .ref s.heap.objs.size, rawInt 0, .none, .none] }) rfl
    rw [z] at q
    exact q
  exact ⟨⟨_, e, rfl⟩, h _ e (Heap.get?_push_of_some _ (Heap.get?_push_size _ B.free)) fun b u q => Heap.get?_push_of_some _ (Heap.get?_push_of_some _ q)⟩
/-- the tuple at a, each item in a new pair with its place -/
def IteT (K : PySem.W.Frag) (a : Addr) : It :=
  ⟨fun i H => ∃ xs, SqT K H a xs ∧ i < xs.length, fun i H v H' => ∃ T x, v = .ref T ∧ H T = none ∧ H' = upd H T (.tup [.int (i : Nat), x]) ∧ ∀ xs, SqT K H a xs → xs[i]? = some x, fun i H => ∃ xs, SqT K H a xs ∧ xs.length = i⟩
theorem turn_enumT {P : Program} {w : World} {K : PySem.W.Frag} {elts : List Expr} {kk : Nat} {tpos : Pos} (a e it : Addr) (hne : e ≠ it) (hat : a ≠ it) :
    Turn P w K (.Tuple elts kk tpos) (IteT K a) [e, it] e (fun i h => (∃ old, IsEnum h e it ((i : Nat) : Int) old) ∧ h.IsTupleIter it a i) where
  mem := by simp
  obj := fun i h st b hb => by
    obtain ⟨⟨old, he⟩, o, ho, _, hd⟩ := st
    rcases (by simpa using hb : b = e ∨ b = it) with z | z
    · rw [z]; exact ⟨_, he, fun v q => nomatch q⟩
    · rw [z]; exact ⟨o, ho, fun v q => by rw [hd] at q; cases q⟩
  keep := fun i h h' st k => ⟨⟨_, k e (by simp) _ st.1.choose_spec⟩, st.2.at fun o q => k it (by simp) o q⟩
  item := by
    intro X hP hw hK hc i pins s σ H E I hf st hg
    subst hP hw hK
    obtain ⟨⟨old, he⟩, hit⟩ := st
    obtain ⟨xs, hq, hi⟩ := hg
    obtain ⟨its, rv, p, hz⟩ := I.tuple hq
    have hl := rv.length
    have hel : e < s.heap.objs.size := Heap.lt_size he
    have hil : it < s.heap.objs.size := by obtain ⟨_, q, _⟩ := hit; exact Heap.lt_size q
    have aE : a ≠ e := fun z => by
      obtain ⟨o, ho, ct, _⟩ := p
      have he2 : s.heap.get? e = some _ := he
      rw [z, he2] at ho
      have z2 := Option.some.inj ho
      rw [← z2] at ct
      injection ct with ct
      exact absurd ct (by decide)
    have Dr := Draws.tuple (prog := X.prog) (w := X.w) (A := X.A.in1) (show X.A.in1.handled = none from I.ok.hd hc) it a hat its.toArray
    refine wpAny_pyNext_enum_itemD Dr he ⟨hit, p⟩ (by simp; omega) hne (by intro z; rcases (by simpa using z : e = it ∨ e = a) with q | q; exact hne q; exact aE q.symm) fun x h' tk hx ho hs' hT hsz hk => ?_
    refine ⟨_, rfl, wpAny_letOwnedTupleGo_enum (s := { s with heap := h', toks := tk + 1 }) ho fun h'' he' sb => ?_⟩
    have hT2 : h''.get? s.heap.objs.size = some { cls := .type "tuple", data := .seq #[.int i tk, x] } := (sb.2 _ (Nat.ne_of_gt hel)).trans hT
    have hit2 : h''.IsTupleIter it a (i + 1) := hs'.1.at fun o q => (sb.2 it (Ne.symm hne)).trans q
    obtain ⟨y, hy, ry⟩ : ∃ y, xs[i]? = some y ∧ RelV y x := by
      obtain ⟨u, hu, ru⟩ := rv.get (List.getElem?_eq_getElem hi)
      have hx' : its[i]? = some x := by simpa using hx
      rw [hu] at hx'
      cases hx'
      exact ⟨_, List.getElem?_eq_getElem hi, ru⟩
    have new : ObjOk X.prog X.w (upd H s.heap.objs.size (.tup [.int (i : Nat), y])) h'' s.heap.objs.size (.tup [.int (i : Nat), y]) :=
      ⟨by show 2 ≤ sizeLine; decide, [.int i tk, x], .cons ⟨_, rfl⟩ (.cons ry .nil), ⟨_, hT2, rfl, _, rfl⟩⟩
    have I1 : Inv X pins σ (upd H s.heap.objs.size (.tup [.int (i : Nat), y])) { s with heap := h'', toks := tk + 1 } :=
      I.turnedNew (ch := [e, it]) (fun b ob hb q => (sb.2 b (fun z => hb (by simp [z]))).trans (hk b ob (fun z => hb (by simp [z])) (fun z => hb (by simp [z])) q)) hf (Nat.le_refl _) new
    refine ⟨.ref s.heap.objs.size, _, I1, rfl, ⟨_, y, rfl, I.hok.fresh (Nat.le_refl _), rfl, fun ys h2 => by rw [I.tuple_inj h2 hq]; exact hy⟩, ⟨⟨x, ?_⟩, hit2⟩, fun b hb => ?_⟩
    · have e1 : ((i + 1 : Nat) : Int) = (i : Int) + 1 := by omega
      rw [e1]
      exact he'
    · have hb' : b < s.heap.objs.size := by
        rcases (by simpa using hb : b = e ∨ b = it) with z | z
        · rw [z]; exact hel
        · rw [z]; exact hil
      rw [upd_ne (Nat.ne_of_lt hb')]
      exact (hf b hb).1
  done := by
    intro X hP hw hK hc i pins s σ H E I hf st hg
    subst hP hw hK
    obtain ⟨⟨old, he⟩, hit⟩ := st
    obtain ⟨xs, hq, hx⟩ := hg
    obtain ⟨its, rv, p, hz⟩ := I.tuple hq
    obtain ⟨f0, f1, f2, f3, f4, f5⟩ := hf it (by simp)
    have hl := rv.length
    have ei : i = its.toArray.size := by simp; omega
    subst ei
    have Dr := Draws.tuple (prog := X.prog) (w := X.w) (A := X.A.in1) (show X.A.in1.handled = none from I.ok.hd hc) it a hat its.toArray
    exact wpAny_pyNext_enum_endD Dr he ⟨hit, p⟩ fun h' eb => ⟨rfl, I.turned (t' := s.toks) (fun b o hb q => eb b o hb q) f0 f1 f3 f4 f5⟩
  self := fun A i s Q E st h => let ⟨⟨_, he⟩, _⟩ := st; wpAny_pyIter_enum he h
/-- enumerate(e), e a list or a tuple -/
def iEnumA (K : PySem.W.Frag) (ta : TA) : TI := fun σ H R => ta σ H fun vs H1 => ∃ a xs, vs = [.ref a] ∧ ((SqL K H1 a xs ∧ R (Ite K a) H1) ∨ (SqT K H1 a xs ∧ R (IteT K a) H1))
theorem pi_enumA {X : Cx} {e : Expr} {ta : TA} {p pos tpos : Pos} {elts : List Expr} {kk : Nat} (hg : Gl X "enumerate") (hm : X.mg "enumerate" = none) (ha : PA X [e] ta) (hs : starEach [e] X.env = [(false, eval e X.env)] := by rfl) :
    PI X (.Tuple elts kk tpos) (.Call (.Name "enumerate" p) [e] [] pos) (iEnumA X.K ta) := by
  refine ⟨fun pins s σ H R I h => ?_⟩
  refine Call_ (ld_blt I hg hm boot_enumerate (PyProof.Rows.callWith_type1 (thn (ha.run pos pins s σ H _ I h) fun us s1 ⟨vs, H1, I1, r1, a, xs, ex, q1⟩ => ?_) hs rfl))
  subst ex
  cases r1 with
  | cons r rr =>
    cases rr
    cases r
    have low : ∀ b : Addr, b ∈ [s1.heap.objs.size + 1, s1.heap.objs.size] → s1.heap.objs.size ≤ b := fun b hb => by
      rcases (by simpa using hb : b = s1.heap.objs.size + 1 ∨ b = s1.heap.objs.size) with z | z
      · rw [z]; exact Nat.le_add_right _ _
      · rw [z]; exact Nat.le_refl _
    rcases q1 with ⟨hq, q⟩ | ⟨hq, q⟩
    · obtain ⟨its, rv, p', hz⟩ := I1.list hq
      refine enum_made (begins_list a its.toArray) p'.isList fun h' he hit hk => wpAny_pyIter_enum he ?_
      exact ⟨s1.heap.objs.size + 1, [s1.heap.objs.size + 1, s1.heap.objs.size], _, _, H1, rfl, I1.kept (t' := s1.toks) hk, turn_enum a (s1.heap.objs.size + 1) s1.heap.objs.size, ⟨⟨.none, he⟩, ⟨_, hit, rfl, rfl⟩, Nat.succ_ne_self _⟩, fun b hb => I1.fpOk (low b hb) (I1.hok.fresh (low b hb)), q⟩
    · obtain ⟨its, rv, p', hz⟩ := I1.tuple hq
      have hal : a < s1.heap.objs.size := by obtain ⟨_, z, _⟩ := p'; exact Heap.lt_size z
      refine enum_made (begins_tuple a its.toArray) p' fun h' he hit hk => wpAny_pyIter_enum he ?_
      exact ⟨s1.heap.objs.size + 1, [s1.heap.objs.size + 1, s1.heap.objs.size], _, _, H1, rfl, I1.kept (t' := s1.toks) hk, turn_enumT a (s1.heap.objs.size + 1) s1.heap.objs.size (Nat.succ_ne_self _) (Nat.ne_of_lt hal), ⟨⟨.none, he⟩, ⟨_, hit, rfl, rfl⟩⟩, fun b hb => I1.fpOk (low b hb) (I1.hok.fresh (low b hb)), q⟩
theorem walk_enumT {K : PySem.W.Frag} {a : Addr} {xs : List V} : Walk (IteT K a) xs.length (fun H => SqT K H a xs) (YPair (fun i => some (.int (i : Nat))) (fun i => xs[i]?)) := by
  refine ⟨fun i H hi q => ⟨xs, q, hi⟩, fun H q => ⟨xs, q, rfl⟩, fun i H v H' _ q y => ?_⟩
  obtain ⟨T, x, h1, h2, h3, h4⟩ := y
  exact ⟨T, .int (i : Nat), x, h1, h2, h3, rfl, h4 xs q⟩
end Ask

/-! several clauses «except X as n» behind one try -/
namespace Ask
open PySem L2 PySem.Spec PyProof.Rows
/-- an error a that the frame of X has caught, with all that stood -/
structure Down (X : Cx) (pins : List (Addr × Obj)) (σ : L2.St) (H : Hp) (sI : Shared) (B : Heap) (a : Addr) (cls : Value) (d : Option Addr) (s : Shared) : Prop where
  fl : HandSPX.FlyingZ B (X.env :: X.outer) a (Zc cls d) s.heap
  inv : Inv X pins σ H sI
  nb : ∀ b o, sI.heap.get? b = some o → b ∉ frs X.stack → B.get? b = some o
  up : sI.heap.UpToSlots s.heap
  os : s.os = sI.os
  ag : AllBare s.gens
  na : H a = none
section
variable {X : Cx} {pins : List (Addr × Obj)} {σ : L2.St} {H : Hp} {sI s : Shared} {B : Heap} {a : Addr} {cls : Value} {d : Option Addr}
theorem Down.now (w : Down X pins σ H sI B a cls d s) : Inv X pins σ H s := w.inv.landed w.nb w.fl.1 w.up w.os w.ag
theorem Down.apart (w : Down X pins σ H sI B a cls d s) (hf : X.env.frame = some X.env.locals) : ∃ oe vs, s.heap.get? a = some oe ∧ Zc cls d oe ∧ oe.data = .fields vs ∧ a ≠ X.env.locals ∧ a ∉ X.fs := by
  obtain ⟨oe, vs, e, z, dd⟩ := w.fl.there
  have out : a ∉ frs (X.env :: X.outer) := fun hm => by
    obtain ⟨_, o2, e2, no⟩ := w.fl.2.2.1.mem hm
    rw [e] at e2
    cases e2
    exact no _ dd
  refine ⟨oe, vs, e, z, dd, fun q => out (List.mem_filterMap.mpr ⟨X.env, List.mem_cons_self, by rw [hf, q]⟩), fun hm => ?_⟩
  obtain ⟨v, hv, q⟩ := List.mem_filterMap.mp hm
  exact out (List.mem_filterMap.mpr ⟨v, List.mem_cons_of_mem _ hv, q⟩)
end
/-- what the clauses hds make of it, if W is wished for -/
def Hands (X : Cx) (D : Ends) (hds : List ExceptHandler) (W : WX) : Prop := ∀ (pins : List (Addr × Obj)) (σ : L2.St) (H : Hp) (sI s : Shared) (B : Heap) (a : Addr) (cls : Value) (d : Option Addr),
  Down X pins σ H sI B a cls d s → W cls d σ H → wpAny (model X.prog X.w) X.A (handleBy (.ref a) X.env hds) (SP X pins D) X.xe s
section
variable {X : Cx} {D : Ends} {hds : List ExceptHandler} {W : WX}
theorem hands_nil (hs : X.stack = X.env :: X.outer) (hf : X.env.frame = some X.env.locals) (tk : Takes X W) : Hands X D [] W := by
  intro pins σ H sI s B a cls d w q
  refine wpAny_handleBy_nil ?_
  obtain ⟨_, _, _, _, _, T, _, _, e, _, dd, e1, _⟩ := id w.fl
  unfold PySem.passOn
  refine wpAny_bind (wpAny_field e dd e1 ?_)
  rw [if_neg (show ¬ ((Value.ref T == Value.none) = true) from by simp)]
  have on : wpAny (model X.prog X.w) X.A (setFlight (.ref a) X.env.frame) (fun _ s4 => wpAny (model X.prog X.w) X.A (throw (.ref a) : Sem Flow) (SP X pins D) X.xe s4) X.xe s := by
    rw [hf]
    exact HandSPX.setFlight_upZ w.fl fun h4 held up4 => wpAny_throw (tk _ _ ⟨a, B, sI, pins, σ, H, cls, d, rfl, w.inv, w.nb, w.up.trans up4, .inr (.inr (by rw [hs]; exact held)), w.na, w.os, w.ag, q⟩)
  first
    | exact wpAny_bind (wpAny_pure (wpAny_bind on))
    | exact wpAny_bind on
theorem hands_as {x n : Str} {c : Value} {i : Nat} {suite : List Stmt} {b₀ : Stmt} {np pos' : Pos} {ts : Addr → Value → Option Addr → TS}
    (hf : X.env.frame = some X.env.locals) (hN : X.N.Nodup) (hi : X.N[i]? = some n) (hl : X.env.kindOf n = some .local) (hc : Names X x c)
    (su : ∀ (a : Addr) (oe : Obj) (cls : Value) (d : Option Addr) (pn : List (Addr × Obj)), Zc cls d oe → (∃ vs, oe.data = .fields vs) → PSs (X.suite a ((a, oe) :: pn)) (b₀ :: suite) (ts a cls d))
    (rest : Hands X D hds W) : Hands X D (.ExceptHandler (some (.Name x np)) (some n) (b₀ :: suite) pos' :: hds) (wAs X.K c i ts W D) := by
  intro pins σ H sI s B a cls d w q
  obtain ⟨b, hb, yes, no⟩ := q
  have J := w.now
  have ok := J.ok
  obtain ⟨oe, vs, he, hz, hd, nL, nF⟩ := w.apart hf
  have S := J.suite he hd w.na nL nF
  refine wpAny_handleBy_cons (codeAny_handlers_test ?_) (by intro z; cases z)
  have ty : PySem.W.Looks (model X.prog X.w) s.heap (typeOf (.ref a)) cls := fun A Q E s' k z => wpAny_typeOf_ref (k _ _ he) (by rw [hz.1]; exact z)
  have isIt := PySem.W.exm_one (M := model X.prog X.w) J.kIn ty hb
  have named : ∀ {Q : Value → Shared → Prop} {E : Value → Shared → Prop}, Q c s → wpAny (model X.prog X.w) (X.A.mark (some (.ref a))) (eval (.Name x np) X.env) Q E s := fun {Q E} z => by
    obtain ⟨g, dbg, m | ⟨m, bt, nn⟩⟩ := hc
    · exact ld_glob (X := X.suite a ((a, oe) :: (X.pn ++ pins))) S g m z dbg
    · exact ld_blt (X := X.suite a ((a, oe) :: (X.pn ++ pins))) S g m bt z nn dbg
  refine named (isIt.here ?_)
  cases b with
  | false => exact rest pins σ H sI s B a cls d w (no rfl)
  | true =>
    refine codeAny_handlers_suite_as (HandSPX.lands_againZ w.fl fun h4 fl4 up4 => ?_)
    have w4 : Down X pins σ H sI B a cls d { s with heap := h4 } := ⟨fl4, w.inv, w.nb, w.up.trans up4, w.os, w.ag, w.na⟩
    obtain ⟨oe4, vs4, he4, hz4, hd4, nL4, nF4⟩ := w4.apart hf
    have S4 := w4.now.suite he4 hd4 w.na nL4 nF4
    refine store_ok (X := X.suite a ((a, oe4) :: (X.pn ++ pins))) (v := .ref a) S4 hN hi (.inl hl) rfl (fun s5 S5 => ?_) (.inr hl)
    refine wpAny_mono ((su a oe4 cls d (X.pn ++ pins) hz4 ⟨_, hd4⟩).run [] s5 _ H _ S5 (yes rfl a w.na)) (fun f s6 got => ?_) (fun _ _ z => False.elim z)
    have away : ∀ {σ6 : L2.St} {H6 : Hp} {Q : Shared → Prop}, Inv (X.suite a ((a, oe4) :: (X.pn ++ pins))) [] σ6 H6 s6 → (∀ s7, Inv X pins (σ6.set i none) H6 s7 → Q s7) →
        wpAny (model X.prog X.w) X.A (do bindName X.env n .none; unbindBehindTheSuite X.env n pos') (fun _ s7 => Q s7) X.xe s6 := fun {σ6 H6 Q} S6 z => gone_ok (S6.unsuite ok) hN hi hl z
    cases f with
    | ret u => obtain ⟨v, σ6, H6, S6, r, z⟩ := got; exact away S6 fun s7 J7 => ⟨_, _, _, J7, r, z⟩
    | next => obtain ⟨σ6, H6, S6, z⟩ := got; exact away S6 fun s7 J7 => ⟨_, _, J7, z⟩
    | brk => obtain ⟨σ6, H6, S6, z⟩ := got; exact away S6 fun s7 J7 => ⟨_, _, J7, z⟩
    | cont => obtain ⟨σ6, H6, S6, z⟩ := got; exact away S6 fun s7 J7 => ⟨_, _, J7, z⟩
/-- try: body / the clauses -/
theorem ps_try_hands {body : List Stmt} {h₀ : ExceptHandler} {pos : Pos} {tb : WX → TS} {Wf : Ends → WX} (hs : X.stack = X.env :: X.outer) (hf : X.env.frame = some X.env.locals)
    (hb : ∀ (W : WX) (pn : List (Addr × Obj)) (xe : Value → Shared → Prop), Takes (X.tr pn xe) W → PassesOwn (model X.prog X.w) X.A X.env xe → PSs (X.tr pn xe) body (tb W))
    (hh : ∀ D, Hands X D (h₀ :: hds) (Wf D)) : PS X (.Try body (h₀ :: hds) [] [] pos) (fun D σ H => tb (Wf D) D σ H) := by
  refine ⟨fun pins s σ H D I h => ?_⟩
  have ok := I.ok
  have fr : X.A.frames = some (X.env :: X.outer) := by rw [ok.frames, hs]
  let after : Value → Shared → Prop := fun e s1 => wpAny (model X.prog X.w) X.A (noteFrame e X.env) (fun _ s2 => wpAny (model X.prog X.w) X.A (setFlight e none) (fun _ s3 => wpAny (model X.prog X.w) X.A (handleBy e X.env (h₀ :: hds)) (SP X pins D) X.xe s3) X.xe s2) X.xe s1
  have taken : Takes (X.tr (X.pn ++ pins) after) (Wf D) := fun u s1 xx => by
    obtain ⟨a, B, sI, pins1, σ1, H1, cls, d, rfl, J, nb, up, sky, na, os, ag, q⟩ := xx
    have sky1 : Sky B (X.env :: X.outer) a (Zc cls d) X.env.locals s1.heap := by rw [← hs]; exact sky
    exact Sky.land Zc.steady fr hf sky1 fun h3 fl3 up3 => hh D pins σ1 H1 sI { s1 with heap := h3 } B a cls d ⟨fl3, J.ofTry ok, nb, up.trans up3, os, ag, na⟩ q
  refine wpAny_Try_except (wpAny_mono ((hb (Wf D) (X.pn ++ pins) after taken PassesOwn.looking).run [] s σ H D (I.toTry _) h) (fun f s1 got => ?_) fun _ _ z => z)
  cases f with
  | ret u => obtain ⟨v, σ1, H1, J, r, z⟩ := got; exact ⟨v, σ1, H1, J.ofTry ok, r, z⟩
  | next => obtain ⟨σ1, H1, J, z⟩ := got; exact wpAny_execs_nil ⟨σ1, H1, J.ofTry ok, z⟩
  | brk => obtain ⟨σ1, H1, J, z⟩ := got; exact ⟨σ1, H1, J.ofTry ok, z⟩
  | cont => obtain ⟨σ1, H1, J, z⟩ := got; exact ⟨σ1, H1, J.ofTry ok, z⟩
end
end Ask

namespace Ask
open PySem L2 PySem.Spec PyProof.Rows
/-! ### repr of a list or tuple of data; a text times a number -/
def rRepr (K : PySem.W.Frag) : List V → Hp → VK → Prop := fun xs H Q => ∃ (a : Addr) (d : PyData), xs = [.ref a] ∧ Dp K H (.ref a) d ∧ d.showable = true ∧ d.hasDict = false ∧ d.depth ≤ 30 ∧ d.shown.length ≤ sizeLine ∧ Q (.str d.shown) H
theorem call_reprD {X : Cx} (hg : X.A.guards = some []) (hu : X.A.units + 64 < cLine) : CallR X (.builtin "repr") (rRepr X.K) := by
  intro pins s σ H xs us Q I r h
  obtain ⟨a, d, rfl, hd, sh, nd, dp, sz, q⟩ := h
  obtain ⟨u, rfl, ra⟩ := vals1 r
  obtain rfl : u = Value.ref a := ra
  obtain ⟨as, rd⟩ := Dp.reads I d _ _ hd rfl
  refine repr_of_reads' rd sh (fun z => by rw [nd] at z; cases z) hg (by omega) (fun _ _ e => e) (fun h' t tk k => ?_) sz
  exact ⟨.str d.shown, H, I.kept (t' := tk) k, ⟨t, rfl⟩, q⟩
def repS (x : Str) (n : Nat) : Str := ⟨(List.replicate n x.cps).foldl (· ++ ·) #[]⟩
theorem rep_size (x : Array Nat) : ∀ (n : Nat) (acc : Array Nat), ((List.replicate n x).foldl (· ++ ·) acc).size = acc.size + n * x.size
  | 0, acc => by simp
  | n + 1, acc => by
    rw [List.replicate_succ, List.foldl_cons, rep_size x n, Array.size_append, Nat.succ_mul]
    omega
theorem repS_len (x : Str) (n : Nat) : (repS x n).length = n * x.length := by
  show ((List.replicate n x.cps).foldl (· ++ ·) #[]).size = _
  rw [rep_size]
  show 0 + n * x.length = _
  omega
theorem op_mul_str {X : Cx} : OpR X (binaryOp .Mult) (fun x y H Q => ∃ (z : Str) (n : Int), x = .str z ∧ y = .int n ∧ 2 ≤ n ∧ n ≤ 1000 ∧ 1 ≤ z.length ∧ z.length ≤ 1000 ∧ Q (.str (repS z n.toNat)) H) := by
  intro pins s σ H x y v u Q I rx ry h
  obtain ⟨z, n, rfl, rfl, n0, n1, z0, z1, q⟩ := h
  obtain ⟨t, rfl⟩ := rx
  obtain ⟨t2, rfl⟩ := ry
  have zl : (z.length == 0) = false := by
    have : z.length ≠ 0 := by omega
    simpa using this
  have nl : (n == 1) = false := by
    have : n ≠ 1 := by omega
    simpa using this
  refine P.mul_str (by rw [decide_eq_false (by omega), decide_eq_false (by omega)]; rfl) (fun _ _ z => ?_) (fun _ _ => ?_) ?_
  · have e : (2 ^ 63 - 1) / (1000 : Int) ≤ (2 ^ 63 - 1) / n := by
      refine Int.le_ediv_of_mul_le (by omega) ?_
      have h1 : (2 ^ 63 - 1) / (1000 : Int) * n ≤ (2 ^ 63 - 1) / (1000 : Int) * 1000 := Int.mul_le_mul_of_nonneg_left n1 (by decide)
      have h2 : (2 ^ 63 - 1) / (1000 : Int) * 1000 ≤ 2 ^ 63 - 1 := by decide
      omega
    have e2 : (1000 : Int) ≤ (2 ^ 63 - 1) / (1000 : Int) := by decide
    omega
  · have e : z.length * n.toNat ≤ 1000 * 1000 := Nat.mul_le_mul z1 (by omega)
    have e2 : 1000 * 1000 ≤ sizeLine := by decide
    show decide (z.length * n.toNat > sizeLine) = false
    exact decide_eq_false (by omega)
  · rw [if_neg (by omega), if_neg (by rw [nl, zl]; exact Bool.false_ne_true)]
    refine ⟨?_, ?_⟩
    · show (repS z n.toNat).length ≤ sizeLine
      rw [repS_len]
      have e : z.length * n.toNat ≤ 1000 * 1000 := Nat.mul_le_mul z1 (by omega)
      have e2 : 1000 * 1000 ≤ sizeLine := by decide
      rw [Nat.mul_comm]
      omega
    · exact ⟨.str (repS z n.toNat), H, I.tok _, ⟨_, rfl⟩, q⟩
end Ask

namespace Ask
open PySem L2 PySem.Spec PyProof.Rows
/-! ### a def's body at one surrounding, the law's call from the outside (where it is known that no repr is under way) -/
theorem fn_run {CX : CXT} {P : Program} {w : World} {K : PySem.W.Frag} {mg : Str → Option Value} {base : Heap} {k : Nat} {f : Addr} {x qual : Str} {st : Stmt} {fd : FuncData} {N ps : List Str} {A : Around} {outer : List Env} {s : Shared} {H : Hp} {args : Args} {us : List Value} {vs : List V} {Q : VK} {E : XK}
    (F : Fun K x qual st f fd) (S : FnScope N ps (defScope st)) (hr : Room (k + 1) A) (e0 : Env0 P w K mg base A outer s H) (bind : BindsTo s fd args (ps.zip us)) (r : Vals vs us) (hl : vs.length = ps.length)
    (body : ∀ cdv : Value, Room k (A.deeper (envOfC qual (defScope st) s.heap.objs.size f cdv)) → ∃ t, PSs (cxOf CX P w K mg base N qual (defScope st) f cdv A outer s H E) (defBody st) t ∧ t { nx := fun _ H' => Q .non H', rt := Q } (start N vs) H) :
    codeAny (model P w) A (.call (.ref f) args) (CR CX outer P w H s Q E) s := by
  obtain ⟨oc, od, kV, doc, pm, an, cdv, ct, osl, rfl, lk, hcd⟩ := F.ex
  have here : ∀ b o, base.get? b = some o → s.heap.get? b = some o := fun b o e => (e0.bs b o e).1
  have inK : K.In s.heap := e0.mod.kin.keeps here
  refine codeAny_call_function hr.depth (inK _ _ lk) rfl S.co S.gen rfl (PySem.W.codeRec_of inK hcd) (bind _ _ _ _ ?_)
  refine wpAny_newFunctionEnv_cells S.kind (fun ⟨n, v⟩ hy => ?_) fun env he s1 x1 => ?_
  · rcases S.par n (List.of_mem_zip hy).1 with q | q
    · exact .inl q
    · exact .inr ⟨q, PySem.W.cellsFrom_some _ _ _ (.inl q)⟩
  subst he
  refine ⟨(e0.mod.nolimit.keeps here).keeps x1.toInCall.keep, codeAny_func ?_⟩
  obtain ⟨t, ht, hq⟩ := body cdv (hr.deeper _)
  refine wpAny_mono (ht.run [] s1 (start N vs) H _ (inv_start S hr.hd e0 hl r x1) hq) (fun fl s' got => ?_) fun _ _ z => z
  cases fl with
  | ret u => obtain ⟨v, _, H', J, rv, z⟩ := got; exact ⟨v, H', J.os, J.bare, J.base, J.hok, rv, z⟩
  | next => obtain ⟨_, H', J, z⟩ := got; exact ⟨V.non, H', J.os, J.bare, J.base, J.hok, rfl, z⟩
  | brk => obtain ⟨_, _, _, z⟩ := got; exact False.elim z
  | cont => obtain ⟨_, _, _, z⟩ := got; exact False.elim z
/-- the script's own cell, locked; nothing else is tracked -/
def lone (a : Addr) (vs : List Value) (ns : List Int) : Hp := fun b => if b = a then some (.frz { cls := .type "list", data := .seq vs.toArray } (.lst (ns.map V.int))) else none
theorem law_at {P : Program} {w : World} {K : PySem.W.Frag} {mg mb : Str → Option Value} {fa a : Addr} {s₁ : Shared} {vs : List Value} {ns : List Int}
    (inK : K.In s₁.heap) (gl : s₁.heap.Ns mainGlobals mg) (bl : s₁.heap.Ns builtinsNs mb) (bt : ∀ x : Str, x ≠ "__name__" → mb x = bootBuiltins x) (lim : s₁.heap.NoLimit) (gs : s₁.gens = #[])
    (ha : s₁.heap.get? a = some { cls := .type "list", data := .seq vs.toArray }) (hi : IntsAre vs ns) (hl : ns.length ≤ sizeLine)
    (run : ∀ (base : Heap) (H : Hp), K.In base → base.Ns mainGlobals mg → Env0 P w K mg base callerA [] s₁ H → SqL K H a (ns.map V.int) →
      codeAny (model P w) callerA (.call (.ref fa) ⟨[.ref a], []⟩) (CR CX0 [] P w H s₁ (fun v _ => v = .bl true) E0) s₁) :
    codeAny (model P w) callerA (.call (.ref fa) ⟨[.ref a], []⟩) (fun r s' => r = .ok (.ret (.bool true)) ∧ OldK s₁.heap s'.heap ∧ s'.os = s₁.os ∧ AllBare s'.gens) s₁ := by
  have nums : Vals (ns.map V.int) vs := vals_ints hi
  have from_ : ∀ H : Hp, (∀ b, H b = none ∨ ∃ o xs, H b = some (.frz o (.lst xs))) → (∀ b u, H b = some u → b = a ∧ K.lookup a = none) → SqL K H a (ns.map V.int) → HOk P w H s₁.heap →
      codeAny (model P w) callerA (.call (.ref fa) ⟨[.ref a], []⟩) (fun r s' => r = .ok (.ret (.bool true)) ∧ OldK s₁.heap s'.heap ∧ s'.os = s₁.os ∧ AllBare s'.gens) s₁ := by
    intro H frz atA sq ok
    have free : ∀ {b : Addr}, b ≠ a → H b = none := fun {b} ne => by
      cases q : H b with
      | none => rfl
      | some u => exact absurd (atA b u q).1 ne
    have nsB : ∀ {b : Addr} {m : Str → Option Value}, s₁.heap.Ns b m → (hidT s₁.heap H).Ns b m := fun {b m} ⟨o, es, ep, e, dd, z⟩ => ⟨o, es, ep, hidT_get e (free fun q => by
      rw [q, ha] at e
      cases e
      have dd' : Data.seq vs.toArray _ = Data.dict es ep := dd
      cases dd'), dd, z⟩
    have kB : K.In (hidT s₁.heap H) := fun b o e => hidT_get (inK b o e) (by
      cases q : H b with
      | none => rfl
      | some u =>
        obtain ⟨rfl, no⟩ := atA b u q
        rw [no] at e
        cases e)
    obtain ⟨mc, l1, l2⟩ := lim
    have e0 : Env0 P w K mg (hidT s₁.heap H) callerA [] s₁ H :=
      ⟨rfl, ⟨kB, nsB gl, ⟨mb, nsB bl, bt⟩, ⟨mc, nsB l1, l2⟩⟩, fun b o e => of_hidT e, Nat.le_of_eq (hidT_size _ _), trivial, (fun b hb => absurd (show b ∈ ([] : List Addr) from hb) (by simp)), ok, .of_eq gs⟩
    refine codeAny_mono (run _ H kB (nsB gl) e0 sq) fun r s' z => ?_
    match r, z with
    | .error e, z => exact False.elim z
    | .ok .next, z => exact False.elim z
    | .ok .brk, z => exact False.elim z
    | .ok .cont, z => exact False.elim z
    | .ok (.ret u), z =>
      obtain ⟨v, H', os, bare, un, ok', rv, q⟩ := z
      have q : v = .bl true := q
      subst q
      obtain rfl : u = Value.bool true := rv
      refine ⟨rfl, OldK.of_keep fun b o e => ?_, os, bare⟩
      rcases frz b with n | ⟨ob, xs, y⟩
      · exact un.keep b o e n (by intro z; exact absurd (show b ∈ ([] : List Addr) from z) (by simp)) (by simp)
      · obtain ⟨e1, _⟩ := ok b _ y
        obtain ⟨e2, _⟩ := ok' b _ (un.frzs b ob _ y)
        rw [e] at e1
        cases e1
        exact e2
  cases hk : K.lookup a with
  | none =>
    have at_ : lone a vs ns a = some (.frz { cls := .type "list", data := .seq vs.toArray } (.lst (ns.map V.int))) := if_pos rfl
    have off : ∀ {b : Addr}, b ≠ a → lone a vs ns b = none := fun {b} ne => if_neg ne
    refine from_ (lone a vs ns) (fun b => ?_) (fun b u z => ?_) (.inl (.inr ⟨_, at_⟩)) (fun b u z => ?_)
    · by_cases h : b = a
      · exact .inr ⟨_, _, by rw [h]; exact at_⟩
      · exact .inl (off h)
    · by_cases h : b = a
      · exact ⟨h, hk⟩
      · rw [off h] at z
        cases z
    · by_cases h : b = a
      · subst h
        rw [at_] at z
        cases z
        exact ⟨ha, by rw [List.length_map]; exact hl, vs, _, nums, ha⟩
      · rw [off h] at z
        cases z
  | some o =>
    have e := inK a o hk
    rw [ha] at e
    cases e
    refine from_ (fun _ => none) (fun _ => .inl rfl) (fun b u z => by cases z) (.inr ⟨_, vs.toArray, _, hk, rfl, rfl, rfl, ?_, by simpa using nums⟩) (fun b u z => by cases z)
    rw [List.size_toArray, hi.length]
    exact hl
end Ask

namespace Ask
open PySem L2
theorem pe_gv {X : Cx} {x : Str} {v : V} {pos : Pos} (hg : Gl X x) (h : ∃ u, X.mg x = some u ∧ RelV v u) (hd : (x == ("__debug__" : Str)) = false := by decide) : PE X (.Name x pos) (tC v) := by
  obtain ⟨u, hm, r⟩ := h
  exact pe_glob hg hm r hd
theorem Same.upd_new {H H' : Hp} {p : Addr} {o : HO} (s : Same H H') (h : H p = none) : Same H (upd H' p o) := fun b u e => by
  rw [upd_ne (ne_of_none e h)]
  exact s b u e
theorem Same.made1 {H H' : Hp} {p : Addr} {o : HO} (s : Same H H') (h : H' p = none) : Same H (upd H' p o) := Ask.Same.upd_new s (s.free h)

/-! ### letters, by their signs -/
def smallL : List Nat := small.cps.toList
def signsL : List Nat := signs.cps.toList
def shortL (l : List Nat) : Bool := decide (1 ≤ l.length ∧ l.length ≤ 12) && (match l.head? with | some c => decide (c ∈ smallL) | none => false) && l.all (fun c => decide (c ∈ signsL))
def wordOf (l : List Nat) : List Nat := if l.head? = some 126 then l.drop 1 else l
def newW : Str := "new"
def foundW : Str := "found"
def goodW (z : Str) : Bool := shortL z.cps.toList && !(decide (newW = z) || decide (foundW = z))
def wordS (z : Str) : Str := ⟨(wordOf z.cps.toList).toArray⟩
def isLs (z : Str) : Bool := goodW (wordS z)
def isL : PyData → Bool
  | .str z => isLs z
  | _ => false
/-- the values that the lists of the law hold -/
def Itm (d : PyData) : Prop := d = .none ∨ d = .bool true ∨ d = .int 7 ∨ ∃ z : Str, z.length ≤ 500 ∧ Asc z ∧ (d = .str z ∨ d = .list [.str z] ∨ d = .tuple [.str z])
def isStrD : PyData → Bool
  | .str _ => true
  | _ => false
section
variable {K : PySem.W.Frag} {H : Hp} {v : V} {d : PyData}
theorem ty_list {a : Addr} {xs : List V} (h : SqL K H a xs) : TyX K H (.ref a) (.type "list") := by
  rcases h with (h | ⟨o, h⟩) | ⟨o, _, _, h, c, _⟩
  · exact .base (.lst h)
  · exact .base (.frz h)
  · exact .kList h c
theorem ty_tup {a : Addr} {xs : List V} (h : SqT K H a xs) : TyX K H (.ref a) (.type "tuple") := by
  rcases h with (h | ⟨o, h⟩) | ⟨o, _, _, h, c, _⟩
  · exact .base (.tup h)
  · exact .fTuple h
  · exact .kTuple h c
/-- isinstance(value, str) -/
theorem isi_str (h : Dp K H v d) (hi : Itm d) : ∃ t : Value, TyX K H v t ∧ PySem.W.kitOne K t (.type "str") = some (isStrD d) := by
  rcases hi with rfl | rfl | rfl | ⟨z, _, _, rfl | rfl | rfl⟩
  · cases h
    exact ⟨_, .base .non, kit_ty (by decide +kernel)⟩
  · cases h
    exact ⟨_, .base (.bl _), kit_ty (by decide +kernel)⟩
  · cases h
    exact ⟨_, .base (.int _), kit_ty (by decide +kernel)⟩
  · cases h
    exact ⟨_, .base (.str _), kit_ty (by show kitB "str" "str" = some true; decide +kernel)⟩
  · cases h with
    | lst hs _ => exact ⟨_, ty_list hs, kit_ty (by show kitB "list" "str" = some false; decide +kernel)⟩
  · cases h with
    | tup hs _ => exact ⟨_, ty_tup hs, kit_ty (by show kitB "tuple" "str" = some false; decide +kernel)⟩
end
theorem tl_len (z : Str) : z.cps.toList.length = z.length := by simp [Str.length]
/-- the constants of the package's text -/
structure Gv (K : PySem.W.Frag) (mg : Str → Option Value) : Prop where
  small : ∃ u, mg "SMALL_LETTERS" = some u ∧ RelV (.str small) u
  signs : ∃ u, mg "WORD_SIGNS" = some u ∧ RelV (.str signs) u
  most : ∃ u, mg "MOST_SIGNS" = some u ∧ RelV (.int 12) u
  begins : ∃ (t : Addr) (u : Value), mg "BEGINNINGS" = some u ∧ RelV (.ref t) u ∧ ∀ H, SqT K H t [.str newW, .str foundW]
  mostL : ∃ u, mg "MOST_LETTERS" = some u ∧ RelV (.int 12) u
section
variable {P : Program} {w : World} {K : PySem.W.Frag} {mg : Str → Option Value} {base : Heap}
/-! ### is_short_word -/
def spShort : Sp := fun vs H Q _ => ∃ z : Str, vs = [.str z] ∧ z.length ≤ 500 ∧ ∀ H', Same H H' → Q (.bl (shortL z.cps.toList)) H'
abbrev s_is_short_word : Stmt := top 7
theorem sc_is_short_word : FnScope ["value", "sign"] ["value"] (defScope s_is_short_word) := ⟨rfl, rfl, rfl, by decide +kernel, rfl, by decide +kernel, by decide +kernel⟩
theorem ok_short {f : Addr} {fd : FuncData} (F : Fun K "is_short_word" "is_short_word" s_is_short_word f fd) (T : Blt mg) (C : Gv K mg) : FnOk P w K mg base CX0 1 f fd ["value"] spShort := by
  refine F.ok sc_is_short_word (fun vs H Q E h => ?_) (fun cdv A outer s H vs Q E hr h => ?_)
  · obtain ⟨z, rfl, _⟩ := h
    rfl
  · obtain ⟨z, rfl, hz, k⟩ := h
    refine ⟨_, (pss_cons (ps_if (PW.pt (pw_or (pt_not (pt_val (pe_callB call_isi (by rfl) T.n_isinstance (by decide +kernel) (pa_cons (pv 0) (pa_cons (pe_bltn (v := .ty "str") (u := .type "str") rfl T.n_str (by decide +kernel) rfl) pa_nil))))) (pw_or1 (pt_not (pt_chain op_le op_le pe_int (pe_callB call_len_str (by rfl) T.n_len (by decide +kernel) (pa_cons (pv 0) pa_nil)) (pe_gv rfl C.most)))))) (pss_one (ps_ret pe_bl)) pss_nil)
      (pss_one (ps_ret (pe_and (pe_cmpR op_in_sign (pe_ix ix_str (pv 0) pe_int (fun _ _ => rfl)) (pe_gv rfl C.small) rfl) (pe_one (pe_callB (cr_all rfl) (by rfl) T.n_all (by decide +kernel) (pa_cons (pe_lc (own := [("sign", 1)]) rfl sc_is_short_word.nd (pi_str (pv 0)) (blkOk_by (N := ["value", "sign"]) (sc := defScope s_is_short_word) (by decide +kernel)) (fun _ _ _ _ _ => (pg_name (i := 1) sc_is_short_word.nd rfl (Or.inl rfl))) (fun _ _ _ _ _ => pts_nil) (fun _ _ _ _ _ => (pe_cmpR op_in_sign (pv 1) (pe_gv rfl C.signs) rfl))) pa_nil))))))), ?_⟩
    have z1 : (1000 : Nat) ≤ sizeLine := by decide
    have hl := tl_len z
    refine ⟨_, rfl, _, _, _, _, true, rfl, .ty _, .base (.str _), kit_ty (by decide +kernel), _, rfl, ?_⟩
    refine iteF ⟨_, rfl, z, rfl, by omega, _, _, rfl, rfl, _, rfl, ite2 (fun h1 => ?_) (fun h1 => ?_)⟩
    · have h1 : (1 : Int) ≤ (z.length : Nat) := of_decide_eq_true h1
      refine ⟨_, _, rfl, rfl, _, rfl, ite2 (fun h2 => ?_) (fun h2 => ?_)⟩
      · have h2 : ¬ ((z.length : Nat) : Int) ≤ 12 := fun q => by
          rw [decide_eq_true q] at h2
          cases h2
        have e : shortL z.cps.toList = false := by
          unfold shortL
          rw [decide_eq_false (by omega)]
          rfl
        have := k H (Same.refl H)
        rw [e] at this
        exact this
      · have h2 : ((z.length : Nat) : Int) ≤ 12 := Decidable.byContradiction fun q => h2 (by rw [decide_eq_false q]; rfl)
        obtain ⟨c, r, ec⟩ : ∃ c r, z.cps.toList = c :: r := by
          cases e : z.cps.toList with
          | nil =>
            rw [e] at hl
            have : (0 : Nat) = z.length := hl
            omega
          | cons c r => exact ⟨c, r, rfl⟩
        refine ⟨_, rfl, z, 0, c, rfl, rfl, by omega, by rw [ec]; exact at_by (j := 0) rfl rfl, c, small, rfl, rfl, _, rfl, ite2 (fun h3 => ?_) (fun h3 => ?_)⟩
        · refine ⟨_, rfl, z, rfl, fun L hL => ?_⟩
          refine lc_it walk_str (fun i H' => Same H H' ∧ H' L = some (.lst (((z.cps.toList.take i).map fun c => decide (c ∈ signsL)).map V.bl))) ⟨Ask.Same.upd_new (Same.refl H) hL, upd_same⟩ (fun _ _ _ _ => trivial) (fun i x H1 H2 hi h1 y => ?_) (fun H1 h1 => ?_)
          · obtain ⟨rfl, c', hc', rfl⟩ := y
            obtain ⟨sm, hLL⟩ := h1
            refine ⟨rfl, _, rfl, c', signs, rfl, rfl, _, hLL, ?_, Ask.Same.upd_new sm hL, ?_⟩
            · rw [List.length_map, List.length_map, List.length_take]
              omega
            · rw [upd_same]
              have hc2 : z.cps.toList[i]? = some c' := by rw [Array.getElem?_toList]; exact hc'
              rw [List.take_add_one, hc2]
              simp only [Option.toList_some, List.map_append, List.map_cons, List.map_nil]
              rfl
          · obtain ⟨sm, hLL⟩ := h1
            refine ⟨L, _, rfl, SqL.of hLL, ?_⟩
            have e0 : z.cps.toList.take z.cps.size = z.cps.toList := List.take_of_length_le (by simp)
            rw [e0]
            have e : shortL z.cps.toList = (z.cps.toList.map fun c => decide (c ∈ signsL)).all id := by
              unfold shortL
              rw [decide_eq_true (by omega), ec]
              simp only [List.head?_cons, Bool.true_and]
              rw [show decide (c ∈ smallL) = true from h3, Bool.true_and, List.all_map]
              rfl
            have := k H1 sm
            rw [e] at this
            exact this
        · have e : shortL z.cps.toList = false := by
            unfold shortL
            rw [ec]
            simp only [List.head?_cons]
            rw [show decide (c ∈ smallL) = false from (Bool.not_eq_true _).mp h3, Bool.and_false, Bool.false_and]
          have := k H (Same.refl H)
          rw [e] at this
          exact this
    · have h1 : ¬ (1 : Int) ≤ (z.length : Nat) := fun q => h1 (decide_eq_true q)
      have e : shortL z.cps.toList = false := by
        unfold shortL
        rw [decide_eq_false (by omega)]
        rfl
      refine ⟨_, rfl, ite2 (fun _ => ?_) (fun q => absurd rfl q)⟩
      have := k H (Same.refl H)
      rw [e] at this
      exact this
end
end Ask

namespace Ask
open PySem L2
theorem str_ext {a b : Str} (h : a.cps.toList = b.cps.toList) : a = b := by
  obtain ⟨a⟩ := a
  obtain ⟨b⟩ := b
  have h : a.toList = b.toList := h
  rw [Array.toList_inj.mp h]
theorem starts_tilde (z : Str) : Txt.startswith z (Str.ofString "~") = decide (z.cps.toList.head? = some 126) := by
  obtain ⟨⟨l⟩⟩ := z
  unfold Txt.startswith Builtin.Str.subAt
  have e1 : (Str.ofString "~").cps = #[126] := by decide +kernel
  have e2 : (Str.ofString "~").length = 1 := by decide +kernel
  rw [e1, e2]
  cases l with
  | nil => rfl
  | cons c r =>
    have e3 : (⟨(c :: r)⟩ : Array Nat).extract 0 (0 + 1) = #[c] := by simp
    show (decide (0 + 1 ≤ (c :: r).length) && ((⟨(c :: r)⟩ : Array Nat).extract 0 (0 + 1) == #[126])) = decide (some c = some 126)
    rw [e3, decide_eq_true (by simp), Bool.true_and]
    by_cases h : c = 126
    · subst h
      rfl
    · rw [decide_eq_false (by intro q; exact h (Option.some.inj q))]
      simpa using h
theorem cut_rest (z : Str) : cutS z (some 1) none = ⟨(z.cps.toList.drop 1).toArray⟩ := by
  unfold cutS
  rw [show (some (1 : Int)) = some ((1 : Nat) : Int) from rfl, HT.sIx_nat, HT.sIx_none]
  have hl := tl_len z
  by_cases h : z.length = 0
  · have e : z.cps.toList = [] := List.length_eq_zero_iff.mp (by omega)
    rw [e]
    simp
  · have e : min 1 z.length = 1 := by omega
    rw [e, List.take_of_length_le (by rw [List.length_drop]; omega)]
theorem cut_head (z : Str) : cutS z none (some 1) = ⟨(z.cps.toList.take 1).toArray⟩ := by
  unfold cutS
  rw [show (some (1 : Int)) = some ((1 : Nat) : Int) from rfl, HT.sIx_nat, HT.sIx_none]
  have hl := tl_len z
  by_cases h : z.length = 0
  · have e : z.cps.toList = [] := List.length_eq_zero_iff.mp (by omega)
    rw [e]
    simp
  · have e : min 1 z.length = 1 := by omega
    rw [e, List.drop_zero]
theorem head_tilde (z : Str) : decide (V.str (cutS z none (some 1)) = V.str (Str.ofString "~")) = decide (z.cps.toList.head? = some 126) := by
  rw [cut_head]
  have e1 : (Str.ofString "~").cps.toList = [126] := by decide +kernel
  refine decide_eq_decide.mpr ⟨fun h => ?_, fun h => ?_⟩
  · have h2 : (⟨(z.cps.toList.take 1).toArray⟩ : Str) = Str.ofString "~" := V.str.inj h
    have h3 : z.cps.toList.take 1 = [126] := by
      have := congrArg (fun s : Str => s.cps.toList) h2
      rw [e1] at this
      simpa using this
    cases e : z.cps.toList with
    | nil =>
      rw [e] at h3
      cases h3
    | cons c r =>
      rw [e] at h3
      simp at h3
      rw [h3]
      rfl
  · congr 1
    refine str_ext ?_
    rw [e1]
    cases e : z.cps.toList with
    | nil =>
      rw [e] at h
      cases h
    | cons c r =>
      rw [e] at h
      cases h
      simp
theorem word_tilde {z : Str} (h : decide (z.cps.toList.head? = some 126) = true) : cutS z (some 1) none = wordS z := by
  rw [cut_rest]
  unfold wordS wordOf
  rw [if_pos (of_decide_eq_true h)]
theorem word_plain {z : Str} (h : ¬ decide (z.cps.toList.head? = some 126) = true) : z = wordS z := by
  unfold wordS wordOf
  rw [if_neg fun q => h (decide_eq_true q)]
theorem word_len (z : Str) : (wordS z).length ≤ z.length := by
  unfold wordS wordOf
  have hl := tl_len z
  split
  · show (z.cps.toList.drop 1).toArray.size ≤ _
    rw [List.size_toArray, List.length_drop]
    omega
  · show z.cps.toList.toArray.size ≤ _
    rw [List.size_toArray]
    omega
theorem eq_V (a b : Str) : eqV (.str a) (.str b) = decide (a = b) := by
  show (a == b) = _
  by_cases h : a = b
  · subst h; simp
  · rw [decide_eq_false h]
    simpa using h
section
variable {P : Program} {w : World} {K : PySem.W.Frag} {mg : Str → Option Value} {base : Heap}
def spIsL (K : PySem.W.Frag) : Sp := fun vs H Q _ => ∃ (v : V) (d : PyData), vs = [v] ∧ Dp K H v d ∧ Itm d ∧ ∀ H', Same H H' → Q (.bl (isL d)) H'
theorem itm_str {d : PyData} (hi : Itm d) (h : isStrD d = true) : ∃ z : Str, d = .str z ∧ z.length ≤ 500 ∧ Asc z := by
  rcases hi with rfl | rfl | rfl | ⟨z, h1, h2, rfl | rfl | rfl⟩
  · cases h
  · cases h
  · cases h
  · exact ⟨z, rfl, h1, h2⟩
  · cases h
  · cases h
theorem not_str {d : PyData} (h : ¬ isStrD d = true) : isL d = false := by
  cases d <;> first | rfl | exact absurd rfl h
/-! ### is_letter, the package's -/
abbrev s_is_letter : Stmt := top 24
theorem sc_is_letter : FnScope ["value", "word"] ["value"] (defScope s_is_letter) := ⟨rfl, rfl, rfl, by decide +kernel, rfl, by decide +kernel, by decide +kernel⟩
theorem ok_is_letter {f fS : Addr} {fd fdS : FuncData} (F : Fun K "is_letter" "is_letter" s_is_letter f fd) (T : Blt mg) (C : Gv K mg) (GS : FnOk P w K mg base CX0 1 fS fdS ["value"] spShort) (S : At K mg "is_short_word" fS fdS ["value"]) :
    FnOk P w K mg base CX0 2 f fd ["value"] (spIsL K) := by
  refine F.ok sc_is_letter (fun vs H Q E h => ?_) (fun cdv A outer s H vs Q E hr h => ?_)
  · obtain ⟨v, d, rfl, _⟩ := h
    rfl
  · obtain ⟨v, d, rfl, hd, hi, k⟩ := h
    obtain ⟨tB, uB, mB, rB, qB⟩ := C.begins
    refine ⟨_, (pss_cons (ps_if (pt_not (pt_val (pe_callB call_isi (by rfl) T.n_isinstance (by decide +kernel) (pa_cons (pv 0) (pa_cons (pe_bltn (v := .ty "str") (u := .type "str") rfl T.n_str (by decide +kernel) rfl) pa_nil))))) (pss_one (ps_ret pe_bl)) pss_nil)
      (pss_cons (ps_set (i := 1) sc_is_letter.nd rfl (Or.inl rfl) (pe_ifExp (pt_val (pe_m1 PySem.F.slot_str_startswith PySem.F.type_str_startswith mt_startswith (pv 0) pe_str)) (pe_slice sl_str (pv 0) (po_some pe_int) po_none) (pv 0)))
      (pss_one (ps_ret (pe_and (pe_call GS hr (by rfl) S.m S.k S.b .nil pass0 (pa_cons (pv 1) pa_nil)) (pe_one (pe_cmpR op_notIn_seq (pv 1) (pe_glob rfl mB rB) rfl))))))), ?_⟩
    obtain ⟨ty, hty, hkt⟩ := isi_str hd hi
    refine ⟨_, rfl, v, _, ty, _, isStrD d, rfl, .ty _, hty, hkt, _, rfl, ite2 (fun h1 => ?_) (fun h1 => ?_)⟩
    · have h1 : ¬ isStrD d = true := by intro q; rw [q] at h1; cases h1
      have := k H (Same.refl H)
      rw [not_str h1] at this
      exact this
    · have h1 : isStrD d = true := by
        cases q : isStrD d with
        | true => rfl
        | false => rw [q] at h1; exact absurd rfl h1
      obtain ⟨z, rfl, hz, az⟩ := itm_str hi h1
      cases hd
      have z1 : (1000 : Nat) ≤ sizeLine := by decide
      try dsimp only [tNext]
      refine seqIf_cut (fun v H' => v = .str (wordS z) ∧ H' = H) (fun Q' q' => ?_) (fun v H' hv => ?_)
      · refine ⟨_, rfl, ⟨_, rfl⟩, z, _, rfl, rfl, _, rfl, ?_⟩
        rw [starts_tilde]
        refine ite2 (fun h => ?_) (fun h => ?_)
        · exact ⟨_, rfl, _, rfl, z, rfl, by omega, q' _ _ ⟨by rw [word_tilde h], rfl⟩⟩
        · exact ⟨_, rfl, q' _ _ ⟨by rw [← word_plain h], rfl⟩⟩
      · obtain ⟨rfl, rfl⟩ := hv
        have hw := word_len z
        refine ⟨_, rfl, wordS z, rfl, by omega, fun H1 s1 => ⟨_, rfl, ite2 (fun h => ?_) (fun h => ?_)⟩⟩
        · refine ⟨_, rfl, tB, _, rfl, .inr (qB H1), rfl, rfl, ?_⟩
          have e : isL (.str z) = !inV (.str (wordS z)) [.str newW, .str foundW] := by
            show goodW (wordS z) = _
            unfold goodW
            rw [h, Bool.true_and]
            unfold inV
            simp only [List.any_cons, List.any_nil, Bool.or_false, eq_V]
          have := k H1 s1
          rw [e] at this
          exact this
        · have e : isL (.str z) = false := by
            show goodW (wordS z) = _
            unfold goodW
            rw [(Bool.not_eq_true _).mp h, Bool.false_and]
          have := k H1 s1
          rw [e] at this
          exact this
end
end Ask

namespace Ask
open PySem L2
/-! ### what the library asks of data -/
theorem asc_ok {z : Str} (h : Asc z) : PyData.strOk z = true := by
  unfold PyData.strOk
  rw [← Array.all_toList, List.all_eq_true]
  intro c hc
  have := h c hc
  exact decide_eq_true (by omega)
structure Fit (d : PyData) : Prop where
  lay : d.canLay0 = true
  dep : d.depth ≤ 1
  sho : d.showable = true
  nod : d.hasDict = false
  len : d.shown.length ≤ 6000
theorem fit_str {z : Str} (h1 : z.length ≤ 500) (h2 : Asc z) : Fit (.str z) ∧ (PyData.shown (.str z)).length ≤ 5100 := by
  have l := StrLaws.reprText_len z (fun c hc => by have := h2 c hc; omega)
  have l2 : (PyData.shown (.str z)).length ≤ 5100 := by
    show (reprText z).length ≤ 5100
    omega
  exact ⟨⟨asc_ok h2, Nat.zero_le _, rfl, rfl, by omega⟩, l2⟩
theorem itm_fit {d : PyData} (h : Itm d) : Fit d := by
  rcases h with rfl | rfl | rfl | ⟨z, h1, h2, rfl | rfl | rfl⟩
  · exact ⟨rfl, by decide, rfl, rfl, by decide⟩
  · exact ⟨rfl, by decide, rfl, rfl, by decide⟩
  · exact ⟨rfl, by decide, by decide, rfl, by decide⟩
  · exact (fit_str h1 h2).1
  · obtain ⟨f, l⟩ := fit_str h1 h2
    refine ⟨?_, by show max 0 0 + 1 ≤ 1; decide, rfl, rfl, ?_⟩
    · show (PyData.canLay0 (.str z) && true) = true
      rw [f.lay] <;> rfl
    · have := listText_len_le [PyData.shown (.str z)]
      show (listText [PyData.shown (.str z)]).length ≤ 6000
      simp only [List.map_cons, List.map_nil, List.sum_cons, List.sum_nil, List.length_cons, List.length_nil] at this
      omega
  · obtain ⟨f, l⟩ := fit_str h1 h2
    refine ⟨?_, by show max 0 0 + 1 ≤ 1; decide, rfl, rfl, ?_⟩
    · show (PyData.canLay0 (.str z) && true) = true
      rw [f.lay] <;> rfl
    · have := tupleText_len_le [PyData.shown (.str z)]
      show (tupleText [PyData.shown (.str z)]).length ≤ 6000
      simp only [List.map_cons, List.map_nil, List.sum_cons, List.sum_nil, List.length_cons, List.length_nil] at this
      omega
structure FitAll (ds : List PyData) : Prop where
  lay : PyData.canLayAll0 ds = true
  dep : PyData.depthAll ds ≤ 1
  sho : PyData.showableAll ds = true
  nod : PyData.hasDictAll ds = false
  len : ((PyData.shownAll ds).map (·.length)).sum ≤ 6000 * ds.length
  cnt : (PyData.shownAll ds).length = ds.length
theorem fit_all : ∀ {ds : List PyData}, (∀ d ∈ ds, Fit d) → FitAll ds
  | [], _ => ⟨rfl, Nat.zero_le _, rfl, rfl, Nat.le_refl _, rfl⟩
  | d :: r, h => by
    have f := h d (List.mem_cons_self ..)
    have g := fit_all (ds := r) fun x hx => h x (List.mem_cons_of_mem _ hx)
    refine ⟨?_, ?_, ?_, ?_, ?_, ?_⟩
    · show (PyData.canLay0 d && PyData.canLayAll0 r) = true
      rw [f.lay, g.lay] <;> rfl
    · show max (PyData.depth d) (PyData.depthAll r) ≤ 1
      exact Nat.max_le.mpr ⟨f.dep, g.dep⟩
    · show (PyData.showable d && PyData.showableAll r) = true
      rw [f.sho, g.sho] <;> rfl
    · show (PyData.hasDict d || PyData.hasDictAll r) = false
      rw [f.nod, g.nod] <;> rfl
    · show ((PyData.shown d :: PyData.shownAll r).map (·.length)).sum ≤ 6000 * (r.length + 1)
      rw [List.map_cons, List.sum_cons]
      have := f.len
      have := g.len
      omega
    · show (PyData.shown d :: PyData.shownAll r).length = r.length + 1
      rw [List.length_cons, g.cnt]
theorem shaped_of {d : PyData} (h : d.canLay0 = true) (k : d.depth ≤ 64) : SeqAt.shaped d = true := by
  unfold SeqAt.shaped
  rw [h, decide_eq_true k] <;> rfl
theorem FitAll.shapedL {ds : List PyData} (f : FitAll ds) : SeqAt.shaped (.list ds) = true :=
  shaped_of f.lay (by show PyData.depthAll ds + 1 ≤ 64; have := f.dep; omega)
theorem FitAll.shapedT {ds : List PyData} (f : FitAll ds) : SeqAt.shaped (.tuple ds) = true :=
  shaped_of f.lay (by show PyData.depthAll ds + 1 ≤ 64; have := f.dep; omega)
theorem Fit.shaped {d : PyData} (f : Fit d) : SeqAt.shaped d = true := shaped_of f.lay (by have := f.dep; omega)
theorem dp_strs {K : PySem.W.Frag} {H : Hp} : ∀ ys : List Str, DpAll K H (ys.map V.str) (ys.map PyData.str)
  | [] => .nil
  | y :: r => .cons (.str y) (dp_strs r)
theorem fit_strs {ys : List Str} (h : ∀ y ∈ ys, y.length ≤ 500 ∧ Asc y) : FitAll (ys.map PyData.str) := fit_all fun d hd => by
  obtain ⟨y, hy, rfl⟩ := List.mem_map.mp hd
  exact (fit_str (h y hy).1 (h y hy).2).1
theorem eqv_nil : ∀ ds : List PyData, PyData.eqv (.list ds) (.list []) = ds.isEmpty
  | [] => by simp [PyData.eqv, PyData.eqvAll]
  | _ :: _ => by simp [PyData.eqv, PyData.eqvAll]
theorem asc_word {z : Str} (h : Asc z) : Asc (wordS z) := fun c hc => by
  have hc : c ∈ wordOf z.cps.toList := by simpa [wordS] using hc
  unfold wordOf at hc
  split at hc
  · exact h c (List.mem_of_mem_drop hc)
  · exact h c hc
end Ask

namespace Ask
open PySem L2
/-! ### the letters that the laws make are letters, and different ones -/
def fixS (z : Str) : Str := if z = newW ∨ z = foundW then z ++ ("0" : Str) else z
def tildeS : Str := "~"
structure Wds (wd : Nat → Str) (M : Nat) : Prop where
  good : ∀ k, k < M → goodW (wd k) = true
  inj : ∀ j k, j < M → k < M → wd j = wd k → j = k
theorem app_list (a b : Str) : (a ++ b).cps.toList = a.cps.toList ++ b.cps.toList := by rw [Str.cps_append, Array.toList_append]
theorem good_short {z : Str} (h : goodW z = true) : shortL z.cps.toList = true := by
  unfold goodW at h
  exact (Bool.and_eq_true_iff.mp h).1
theorem short_len {l : List Nat} (h : shortL l = true) : 1 ≤ l.length ∧ l.length ≤ 12 := by
  unfold shortL at h
  exact of_decide_eq_true (Bool.and_eq_true_iff.mp (Bool.and_eq_true_iff.mp h).1).1
theorem short_signs {l : List Nat} (h : shortL l = true) : ∀ c ∈ l, c ∈ signsL := by
  unfold shortL at h
  exact fun c hc => of_decide_eq_true (List.all_eq_true.mp (Bool.and_eq_true_iff.mp h).2 c hc)
theorem short_head {l : List Nat} (h : shortL l = true) : ∃ c r, l = c :: r ∧ c ∈ smallL := by
  unfold shortL at h
  have h2 := (Bool.and_eq_true_iff.mp (Bool.and_eq_true_iff.mp h).1).2
  cases l with
  | nil => cases h2
  | cons c r => exact ⟨c, r, rfl, of_decide_eq_true h2⟩
theorem short_mk {c : Nat} {r : List Nat} (h1 : (c :: r).length ≤ 12) (h2 : c ∈ smallL) (h3 : ∀ d ∈ c :: r, d ∈ signsL) : shortL (c :: r) = true := by
  unfold shortL
  rw [decide_eq_true ⟨by simp, h1⟩]
  simp only [List.head?_cons, decide_eq_true h2, Bool.true_and]
  exact List.all_eq_true.mpr fun d hd => decide_eq_true (h3 d hd)
theorem signs_asc' : ∀ c ∈ signsL, c < 128 := signs_asc
theorem small_no : ¬ 126 ∈ smallL := by decide +kernel
theorem small_signs : ∀ c ∈ smallL, c ∈ signsL := by
  have h : smallL.all (fun c => decide (c ∈ signsL)) = true := by decide +kernel
  exact fun c hc => of_decide_eq_true (List.all_eq_true.mp h c hc)
theorem good_asc {z : Str} (h : goodW z = true) : Asc z := fun c hc => signs_asc' c (short_signs (good_short h) c hc)
theorem good_len {z : Str} (h : goodW z = true) : z.length ≤ 12 := by
  have := short_len (good_short h)
  rw [tl_len] at this
  exact this.2
theorem good_no {z : Str} (h : goodW z = true) : z.cps.toList.head? ≠ some 126 := by
  obtain ⟨c, r, e, hc⟩ := short_head (good_short h)
  rw [e]
  intro q
  cases q
  exact small_no hc
theorem word_same {z : Str} (h : z.cps.toList.head? ≠ some 126) : wordS z = z := by
  refine str_ext ?_
  show (wordOf z.cps.toList).toArray.toList = _
  unfold wordOf
  rw [if_neg h]
theorem good_is {z : Str} (h : goodW z = true) : isLs z = true := by
  unfold isLs
  rw [word_same (good_no h)]
  exact h
theorem tilde_is {z : Str} (h : goodW z = true) : isLs (tildeS ++ z) = true := by
  unfold isLs
  have e : wordS (tildeS ++ z) = z := by
    refine str_ext ?_
    show (wordOf (tildeS ++ z).cps.toList).toArray.toList = _
    have e2 : (tildeS ++ z).cps.toList = 126 :: z.cps.toList := by
      rw [app_list]
      have : tildeS.cps.toList = [126] := by decide +kernel
      rw [this]
      rfl
    rw [e2]
    rfl
  rw [e]
  exact h
theorem fix_good {z : Str} (h : shortL z.cps.toList = true) : goodW (fixS z) = true := by
  unfold fixS
  split
  · rename_i q
    rcases q with rfl | rfl <;> decide +kernel
  · rename_i q
    unfold goodW
    rw [h, decide_eq_false (fun e => q (.inl e.symm)), decide_eq_false (fun e => q (.inr e.symm))]
    rfl
theorem fix_at {z : Str} {a : Nat} (h : a < z.cps.toList.length) : (fixS z).cps.toList[a]? = z.cps.toList[a]? := by
  unfold fixS
  split
  · rw [app_list, List.getElem?_append_left h]
  · rfl
theorem wds_mk {wd : Nat → Str} {M : Nat} {S : List Nat} {a : Nat} {sg : Nat → Nat} {T : Nat → List Nat} (ha : a ≤ S.length) (hl : S.length ≤ 11) (hs : ∀ c ∈ S, c ∈ signsL) (hh : ∀ c, S.head? = some c → c ∈ smallL)
    (h1 : ∀ k, k < M → sg k ∈ signsL) (h0 : a = 0 → ∀ k, k < M → sg k ∈ smallL) (inj : ∀ j k, j < M → k < M → sg j = sg k → j = k) (hT : ∀ k, (∀ c ∈ T k, c ∈ signsL) ∧ (T k).length ≤ S.length - a)
    (e : ∀ k, k < M → ∃ z, wd k = fixS z ∧ z.cps.toList = S.take a ++ sg k :: T k) : Wds wd M := by
  refine ⟨fun k hk => ?_, fun j k hj hk q => ?_⟩
  · obtain ⟨z, e1, e2⟩ := e k hk
    rw [e1]
    refine fix_good ?_
    rw [e2]
    have len : (S.take a ++ sg k :: T k).length ≤ 12 := by
      rw [List.length_append, List.length_cons, List.length_take]
      have := (hT k).2
      omega
    have mem : ∀ c ∈ S.take a ++ sg k :: T k, c ∈ signsL := fun c hc => by
      rcases List.mem_append.mp hc with q | q
      · exact hs c (List.mem_of_mem_take q)
      · rcases List.mem_cons.mp q with rfl | q
        · exact h1 k hk
        · exact (hT k).1 c q
    cases a with
    | zero =>
      rw [List.take_zero, List.nil_append] at len mem ⊢
      exact short_mk len (h0 rfl k hk) mem
    | succ a =>
      cases S with
      | nil => simp at ha
      | cons c r =>
        rw [List.take_succ_cons, List.cons_append] at len mem ⊢
        exact short_mk len (hh c rfl) mem
  · obtain ⟨y, e1, e2⟩ := e j hj
    obtain ⟨z, e3, e4⟩ := e k hk
    have l1 : (S.take a).length = a := by rw [List.length_take]; omega
    have p1 : y.cps.toList[a]? = some (sg j) := by
      rw [e2, List.getElem?_append_right (by omega), l1, Nat.sub_self]
      rfl
    have p2 : z.cps.toList[a]? = some (sg k) := by
      rw [e4, List.getElem?_append_right (by omega), l1, Nat.sub_self]
      rfl
    have a1 : a < y.cps.toList.length := by rw [e2, List.length_append, List.length_cons]; omega
    have a2 : a < z.cps.toList.length := by rw [e4, List.length_append, List.length_cons]; omega
    have q2 : (fixS y).cps.toList[a]? = (fixS z).cps.toList[a]? := by rw [← e1, ← e3, q]
    rw [fix_at a1, fix_at a2, p1, p2] at q2
    exact inj j k hj hk (Option.some.inj q2)
/-- the signs of a row of different places -/
theorem step_inj {n f s j k : Nat} (hn : n = 26 ∨ n = 36) (hs : s ∈ [1, 5, 7, 11, 17, 19, 23, 25]) (hj : j < 26) (hk : k < 26) (h : (f + s * j) % n = (f + s * k) % n) : j = k := by
  simp only [List.mem_cons, List.not_mem_nil, or_false] at hs
  rcases hn with rfl | rfl <;> rcases hs with rfl | rfl | rfl | rfl | rfl | rfl | rfl | rfl <;> omega
theorem nodup_at {l : List Nat} (h : l.Nodup) {i j : Nat} {c : Nat} (h1 : l[i]? = some c) (h2 : l[j]? = some c) : i = j := by
  exact (List.getElem?_inj (List.getElem?_eq_some_iff.mp h1).1 h).mp (h1.trans h2.symm)
theorem small_nodup : smallL.Nodup := by decide +kernel
theorem signs_nodup : signsL.Nodup := by decide +kernel
/-! ### what stands behind i turns -/
structure Iv (wd : Nat → Str) (ys : List Str) (i : Nat) : Prop where
  len : ys.length = i
  from_ : ∀ y ∈ ys, ∃ j, j < i ∧ (y = wd j ∨ y = tildeS ++ wd j)
  nd : ys.Nodup
  last : ∀ l, ys.getLast? = some l → l.cps.toList.head? ≠ some 126 → ¬ (tildeS ++ l) ∈ ys
section
variable {wd : Nat → Str} {M i : Nat} {ys : List Str}
theorem tilde_inj {a b : Str} (h : tildeS ++ a = tildeS ++ b) : a = b := by
  have h2 := congrArg (fun z : Str => z.cps.toList) h
  simp only [app_list] at h2
  exact str_ext (List.append_cancel_left h2)
theorem tilde_head (a : Str) : (tildeS ++ a).cps.toList.head? = some 126 := by
  rw [app_list]
  have : tildeS.cps.toList = [126] := by decide +kernel
  rw [this]
  rfl
theorem Iv.nil : Iv wd [] 0 := ⟨rfl, fun _ h => by simp at h, List.nodup_nil, fun _ h => by simp at h⟩
theorem Iv.fresh (v : Iv wd ys i) (w : Wds wd M) (hi : i < M) : ¬ wd i ∈ ys ∧ ¬ (tildeS ++ wd i) ∈ ys := by
  refine ⟨fun h => ?_, fun h => ?_⟩
  · obtain ⟨j, hj, e | e⟩ := v.from_ _ h
    · have := w.inj i j hi (by omega) e
      omega
    · exact good_no (w.good i hi) (by rw [e]; exact tilde_head _)
  · obtain ⟨j, hj, e | e⟩ := v.from_ _ h
    · exact good_no (w.good j (by omega)) (by rw [← e]; exact tilde_head _)
    · have := w.inj i j hi (by omega) (tilde_inj e)
      omega
theorem nodup_app {ys : List Str} {y : Str} (h : ys.Nodup) (n : ¬ y ∈ ys) : (ys ++ [y]).Nodup := by
  rw [List.nodup_append]
  refine ⟨h, by simp, fun a ha b hb q => ?_⟩
  rw [List.mem_singleton.mp hb] at q
  rw [q] at ha
  exact n ha
theorem Iv.plain (v : Iv wd ys i) (w : Wds wd M) (hi : i < M) : Iv wd (ys ++ [wd i]) (i + 1) := by
  obtain ⟨f1, f2⟩ := v.fresh w hi
  refine ⟨by rw [List.length_append, v.len]; rfl, fun y hy => ?_, nodup_app v.nd f1, fun l hl hn => ?_⟩
  · rcases List.mem_append.mp hy with q | q
    · obtain ⟨j, hj, e⟩ := v.from_ y q
      exact ⟨j, by omega, e⟩
    · exact ⟨i, by omega, .inl (List.mem_singleton.mp q)⟩
  · rw [List.getLast?_concat] at hl
    cases hl
    intro q
    rcases List.mem_append.mp q with q | q
    · exact f2 q
    · exact good_no (w.good i hi) (by rw [← List.mem_singleton.mp q]; exact tilde_head _)
theorem Iv.tilde (v : Iv wd ys i) (w : Wds wd M) (hi : i < M) : Iv wd (ys ++ [tildeS ++ wd i]) (i + 1) := by
  obtain ⟨f1, f2⟩ := v.fresh w hi
  refine ⟨by rw [List.length_append, v.len]; rfl, fun y hy => ?_, nodup_app v.nd f2, fun l hl hn => ?_⟩
  · rcases List.mem_append.mp hy with q | q
    · obtain ⟨j, hj, e⟩ := v.from_ y q
      exact ⟨j, by omega, e⟩
    · exact ⟨i, by omega, .inr (List.mem_singleton.mp q)⟩
  · rw [List.getLast?_concat] at hl
    cases hl
    exact absurd (tilde_head _) hn
theorem Iv.again (v : Iv wd ys i) {l : Str} (hl : ys.getLast? = some l) (hn : l.cps.toList.head? ≠ some 126) : Iv wd (ys ++ [tildeS ++ l]) (i + 1) := by
  have ml : l ∈ ys := List.mem_of_getLast? hl
  refine ⟨by rw [List.length_append, v.len]; rfl, fun y hy => ?_, nodup_app v.nd (v.last l hl hn), fun k hk hn' => ?_⟩
  · rcases List.mem_append.mp hy with q | q
    · obtain ⟨j, hj, e⟩ := v.from_ y q
      exact ⟨j, by omega, e⟩
    · obtain ⟨j, hj, e | e⟩ := v.from_ l ml
      · exact ⟨j, by omega, .inr (by rw [List.mem_singleton.mp q, e])⟩
      · exact absurd (by rw [e]; exact tilde_head _) hn
  · rw [List.getLast?_concat] at hk
    cases hk
    exact absurd (tilde_head _) hn'
/-- at the end: letters, different ones -/
theorem Iv.ends (v : Iv wd ys i) (w : Wds wd M) (hi : i ≤ M) : ys.length = i ∧ ys.Nodup ∧ ∀ y ∈ ys, isLs y = true ∧ y.length ≤ 13 ∧ Asc y := by
  refine ⟨v.len, v.nd, fun y hy => ?_⟩
  obtain ⟨j, hj, e⟩ := v.from_ y hy
  have g := w.good j (by omega)
  rcases e with rfl | rfl
  · exact ⟨good_is g, by have := good_len g; omega, good_asc g⟩
  · refine ⟨tilde_is g, ?_, Asc.app (.lit (by decide +kernel)) (good_asc g)⟩
    rw [Str.length_append]
    have := good_len g
    show 1 + _ ≤ 13
    omega
end
end Ask

namespace Ask
open PySem L2
theorem join_ones : ∀ cs : List Nat, (Str.join (Str.ofString "") (cs.map fun c => (⟨#[c]⟩ : Str))).cps.toList = cs
  | [] => rfl
  | [c] => rfl
  | c :: d :: r => by
    show (((⟨#[c]⟩ : Str) ++ Str.ofString "") ++ Str.join (Str.ofString "") ((d :: r).map fun c => (⟨#[c]⟩ : Str))).cps.toList = _
    rw [app_list, app_list, join_ones (d :: r)]
    rfl
theorem joinT_ones (cs : List Nat) : (Txt.join (Str.ofString "") (cs.map fun c => (⟨#[c]⟩ : Str))).cps.toList = cs := by
  rw [TL.join_eq]
  exact join_ones cs
theorem cut_pre (z : Str) (n : Nat) : (cutS z none (some (n : Int))).cps.toList = z.cps.toList.take n := by
  unfold cutS
  rw [HT.sIx_none, HT.sIx_nat, List.drop_zero, Nat.sub_zero]
  have hl := tl_len z
  by_cases h : n ≤ z.length
  · rw [Nat.min_eq_left h]
  · rw [Nat.min_eq_right (by omega), List.take_of_length_le (by omega), List.take_of_length_le (by omega)]
theorem cut_suf (z : Str) (n : Nat) : (cutS z (some (n : Int)) none).cps.toList = z.cps.toList.drop n := by
  unfold cutS
  rw [HT.sIx_none, HT.sIx_nat]
  have hl := tl_len z
  by_cases h : n ≤ z.length
  · rw [Nat.min_eq_left h, List.take_of_length_le (by rw [List.length_drop]; omega)]
  · rw [Nat.min_eq_right (by omega), List.drop_of_length_le (by omega), List.drop_of_length_le (by omega)]
    simp
theorem cut_mem {z : Str} {lo hi : Option Int} {c : Nat} (h : c ∈ (cutS z lo hi).cps.toList) : c ∈ z.cps.toList := List.mem_of_mem_drop (List.mem_of_mem_take h)
/-- the sign of turn k -/
def sgN (zc : Str) (fr s k : Nat) : Nat := (zc.cps.toList[(fr + s * k) % zc.length]?).getD 0
theorem sgN_at (zc : Str) (fr s k : Nat) (h : 0 < zc.length) : zc.cps.toList[(fr + s * k) % zc.length]? = some (sgN zc fr s k) := by
  have hl := tl_len zc
  have lt : (fr + s * k) % zc.length < zc.cps.toList.length := by
    rw [hl]
    exact Nat.mod_lt _ h
  unfold sgN
  rw [List.getElem?_eq_getElem lt]
  rfl
theorem sgN_mem (zc : Str) (fr s k : Nat) (h : 0 < zc.length) : sgN zc fr s k ∈ zc.cps.toList := List.mem_of_getElem? (sgN_at zc fr s k h)
/-- the word of turn k -/
def wdN (stem zc : Str) (at_ fr s : Nat) (k : Nat) : Str :=
  fixS ((cutS stem none (some (at_ : Int)) ++ (⟨#[sgN zc fr s k]⟩ : Str)) ++ cutS (cutS stem (some (at_ : Int)) none) none (some (((cutS stem (some (at_ : Int)) none).length : Int) - (0 + (k : Int)) * (if decide (0 + (k : Int) < 2) = true then 1 else 0))))
theorem wdN_ok {stem zc : Str} {at_ fr s : Nat} (ha : at_ ≤ stem.length) (hl : stem.length ≤ 11) (hs : ∀ c ∈ stem.cps.toList, c ∈ signsL) (hh : ∀ c, stem.cps.toList.head? = some c → c ∈ smallL)
    (hz : zc = if 0 < at_ then signs else small) (hst : s ∈ [1, 5, 7, 11, 17, 19, 23, 25]) : Wds (wdN stem zc at_ fr s) 26 := by
  have hL := tl_len stem
  have hn : zc.length = 26 ∨ zc.length = 36 := by
    rw [hz]
    split
    · exact .inr signs_len
    · exact .inl small_len
  have pos : 0 < zc.length := by omega
  have nd : zc.cps.toList.Nodup := by
    rw [hz]
    split
    · exact signs_nodup
    · exact small_nodup
  refine wds_mk (S := stem.cps.toList) (a := at_) (sg := sgN zc fr s) (T := fun k => (cutS (cutS stem (some (at_ : Int)) none) none (some (((cutS stem (some (at_ : Int)) none).length : Int) - (0 + (k : Int)) * (if decide (0 + (k : Int) < 2) = true then 1 else 0)))).cps.toList)
    (by omega) (by omega) hs hh (fun k hk => ?_) (fun e k hk => ?_) (fun j k hj hk q => ?_) (fun k => ⟨fun c hc => hs c (cut_mem (cut_mem hc)), ?_⟩) (fun k hk => ⟨_, rfl, ?_⟩)
  · have := sgN_mem zc fr s k pos
    generalize sgN zc fr s k = x at this ⊢
    rw [hz] at this
    split at this
    · exact this
    · exact small_signs _ this
  · have := sgN_mem zc fr s k pos
    generalize sgN zc fr s k = x at this ⊢
    rw [hz, e] at this
    exact this
  · have e1 := sgN_at zc fr s j pos
    have e2 := sgN_at zc fr s k pos
    rw [q] at e1
    exact step_inj hn hst hj hk (nodup_at nd e1 e2)
  · rw [tl_len]
    refine Nat.le_trans (cutS_length _ _ _) ?_
    have := tl_len (cutS stem (some (at_ : Int)) none)
    rw [cut_suf, List.length_drop] at this
    omega
  · rw [app_list, app_list, cut_pre]
    show (_ ++ [sgN zc fr s k]) ++ _ = _
    rw [List.append_assoc]
    rfl
/-- what the block of the n signs leaves -/
def SgL (L : List Nat) (p c : Addr) (ns : List Int) (H0 : Hp) (D : Addr) (B i : Nat) (H : Hp) : Prop := ∃ cs : List Nat, Go p c ns H0 H (B + i) ∧ H D = some (.lst ((cs.map fun c => (⟨#[c]⟩ : Str)).map V.str)) ∧ cs.length = i ∧ ∀ c ∈ cs, c ∈ L
theorem SgL.next {L : List Nat} {p c D : Addr} {ns : List Int} {H0 H H' : Hp} {B i j : Nat} (h : SgL L p c ns H0 D B i H) (h0 : H0 D = none) (g : Go p c ns H H' (B + i + 1)) (hi : i ≤ 1000) (hj : j ∈ L) :
    ∃ acc, H' D = some (.lst acc) ∧ acc.length < sizeLine ∧ SgL L p c ns H0 D B (i + 1) (upd H' D (.lst (acc ++ [.str ⟨#[j]⟩]))) := by
  obtain ⟨cs, g0, hD, hl, h1⟩ := h
  refine ⟨_, g.lst hD, ?_, cs ++ [j], ((g0.step g).mut h0).mono (by omega), ?_, ?_, ?_⟩
  · rw [List.length_map, List.length_map]
    exact small1000 (by omega)
  · rw [upd_same, List.map_append, List.map_append]
    rfl
  · rw [List.length_append, hl]
    rfl
  · intro y hy
    rcases List.mem_append.mp hy with z | z
    · exact h1 y z
    · rw [List.mem_singleton.mp z]
      exact hj
theorem in_mem {x : Str} {ys : List Str} (h : x ∈ ys) : inV (.str x) (ys.map V.str) = true := by
  unfold inV
  rw [List.any_eq_true]
  refine ⟨.str x, List.mem_map.mpr ⟨x, h, rfl⟩, ?_⟩
  exact decide_eq_true rfl
section
variable {P : Program} {w : World} {K : PySem.W.Frag} {mg : Str → Option Value} {base : Heap}
/-- different letters in a new list -/
def spLettersD : Sp := fun vs H Q _ => ∃ (p c : Addr) (ns : List Int) (m : Int) (B : Nat), vs = [.ref p, .int m] ∧ Pen c ns H p B ∧ B ≤ 500000000 ∧ 0 ≤ m ∧ m ≤ 26 ∧
  ∀ (H' : Hp) (q : Addr) (ys : List Str), Go p c ns H H' (B + 150) → H q = none → H' q = some (.lst (ys.map V.str)) → (ys.length : Int) = m → ys.Nodup → (∀ y ∈ ys, isLs y = true ∧ y.length ≤ 13 ∧ Asc y) → Q (.ref q) H'
theorem ok_lettersD {f fD fP : Addr} {fd fdD fdP : FuncData} (F : Fun K "_law_letters" "_law_letters" s__law_letters f fd) (T : Blt mg)
    (GD : FnOk P w K mg base CX0 1 fD fdD ["_law_pen_here", "_law_many"] spDraw) (D : At K mg "_law_draw" fD fdD ["_law_pen_here", "_law_many"])
    (GP : FnOk P w K mg base CX0 2 fP fdP ["_law_pen_here", "_law_options"] (spPick K)) (C : At K mg "_law_pick" fP fdP ["_law_pen_here", "_law_options"]) :
    FnOk P w K mg base CX0 3 f fd ["_law_pen_here", "_law_many"] spLettersD := by
  refine F.ok sc__law_letters (fun vs H Q E h => ?_) (fun cdv A outer s H vs Q E hr h => ?_)
  · obtain ⟨p, c, ns, m, B, rfl, _⟩ := h
    rfl
  · obtain ⟨p, c, ns, m, B, rfl, hpen, hB, hm0, hm1, k⟩ := h
    have hr1 : Room 1 _ := hr.mono (by decide)
    refine ⟨_, (pss_cons (ps_asg (pe_tup (pa_cons pe_str (pa_cons pe_str pa_nil))) (pg_tup rfl (pgs_cons (pg_name (i := 2) sc__law_letters.nd rfl (Or.inr rfl)) (pgs_cons (pg_name (i := 3) sc__law_letters.nd rfl (Or.inr rfl)) pgs_nil))))
      (pss_cons (ps_set (i := 4) sc__law_letters.nd rfl (Or.inl rfl) (pe_join pe_str (pe_lc (own := [("_law_k", 11)]) rfl sc__law_letters.nd (pi_range1 rfl T.n_range (pa_cons (pe_callB (call_min2 rfl) (by rfl) T.n_min (by decide +kernel) (pa_cons pe_int (pa_cons (pe_call GD hr1 (by rfl) D.m D.k D.b .nil pass0 (pa_cons (pv 0) (pa_cons pe_int pa_nil))) pa_nil))) pa_nil)) (blkOk_by (N := nLet) (sc := defScope s__law_letters) (by decide +kernel)) (fun _ _ _ _ _ => (pg_name (i := 11) sc__law_letters.nd rfl (Or.inl rfl))) (fun _ _ _ _ _ => pts_nil) (fun _ _ _ _ _ => (pe_call GP (by exact hr) (by rfl) C.m C.k C.b .nil pass0 (pa_cons (pv 0) (pa_cons (pv 2) pa_nil)))))))
      (pss_cons (ps_set (i := 4) sc__law_letters.nd rfl (Or.inl rfl) (pe_op op_add_str (pv 4) (pe_join pe_str (pe_lc (own := [("_law_k", 11)]) rfl sc__law_letters.nd (pi_range1 rfl T.n_range (pa_cons (pe_op op_mul (pe_call GD hr1 (by rfl) D.m D.k D.b .nil pass0 (pa_cons (pv 0) (pa_cons pe_int pa_nil))) (pe_callB call_len_str (by rfl) T.n_len (by decide +kernel) (pa_cons (pv 4) pa_nil))) pa_nil)) (blkOk_by (N := nLet) (sc := defScope s__law_letters) (by decide +kernel)) (fun _ _ _ _ _ => (pg_name (i := 11) sc__law_letters.nd rfl (Or.inl rfl))) (fun _ _ _ _ _ => pts_nil) (fun _ _ _ _ _ => (pe_call GP (by exact hr) (by rfl) C.m C.k C.b .nil pass0 (pa_cons (pv 0) (pa_cons (pv 3) pa_nil))))))))
      (pss_cons (ps_par (i := 5) (j := 6) rfl sc__law_letters.nd rfl rfl (by decide) rfl rfl (pa_cons (pe_call GD hr1 (by rfl) D.m D.k D.b .nil pass0 (pa_cons (pv 0) (pa_cons (pe_op op_add (pe_callB call_len_str (by rfl) T.n_len (by decide +kernel) (pa_cons (pv 4) pa_nil)) pe_int) pa_nil))) (pa_cons (pe_call GD hr1 (by rfl) D.m D.k D.b .nil pass0 (pa_cons (pv 0) (pa_cons pe_int pa_nil))) pa_nil)) (by rfl))
      (pss_cons (ps_set (i := 7) sc__law_letters.nd rfl (Or.inl rfl) (pe_ifExp (pt_cmpR op_gt (pv 5) pe_int (nomark _)) (pv 3) (pv 2)))
      (pss_cons (ps_par3 (i := 8) (j := 9) (l := 10) rfl sc__law_letters.nd rfl rfl rfl (by decide) (by decide) (by decide) rfl rfl rfl (pa_cons (pe_call GP hr (by rfl) C.m C.k C.b .nil pass0 (pa_cons (pv 0) (pa_cons (pe_lst (pa_cons pe_int (pa_cons pe_int (pa_cons pe_int (pa_cons pe_int (pa_cons pe_int (pa_cons pe_int (pa_cons pe_int (pa_cons pe_int pa_nil))))))))) pa_nil))) (pa_cons (pe_slice sl_str (pv 4) (po_some (pv 5)) po_none) (pa_cons (pe_lst pa_nil) pa_nil))) (by rfl))
      (pss_cons (ps_for PassesOwn.never rfl (pi_range1 rfl T.n_range (pa_cons (pv 1) pa_nil)) (pg_name (i := 11) sc__law_letters.nd rfl (Or.inl rfl)) (pss_cons (ps_set (i := 12) sc__law_letters.nd rfl (Or.inl rfl) (pe_ix ix_str (pv 7) (pe_op op_mod (pe_callTy call_int1 (by rfl) T.n_int (by decide +kernel) (pa_cons (pe_op op_add (pv 6) (pe_op op_mul (pv 8) (pv 11))) pa_nil)) (pe_callB call_len_str (by rfl) T.n_len (by decide +kernel) (pa_cons (pv 7) pa_nil))) (fun _ _ => rfl)))
      (pss_cons (ps_set (i := 13) sc__law_letters.nd rfl (Or.inl rfl) (pe_op op_add_str (pe_op op_add_str (pe_slice sl_str (pv 4) po_none (po_some (pv 5))) (pv 12)) (pe_slice sl_str (pv 9) po_none (po_some (pe_op op_sub (pe_callB call_len_str (by rfl) T.n_len (by decide +kernel) (pa_cons (pv 9) pa_nil)) (pe_op op_mul (pv 11) (pe_callTy call_int1 (by rfl) T.n_int (by decide +kernel) (pa_cons (pe_cmpR op_lt (pv 11) pe_int (nomark _)) pa_nil))))))))
      (pss_cons (ps_if (pt_cmpR op_in_seq (pv 13) (pe_tup (pa_cons pe_str (pa_cons pe_str pa_nil))) rfl) (pss_one (ps_set (i := 13) sc__law_letters.nd rfl (Or.inl rfl) (pe_op op_add_str (pv 13) pe_str))) pss_nil)
      (pss_cons (ps_if (PW.pt (pw_and (pt_cmpR op_gt (pv 11) pe_int (nomark _)) (pw_and (pt_cmpR op_ne (pe_slice sl_str (pe_ix ix_list (pv 10) (pe_un un_neg pe_int) (fun _ _ => rfl)) po_none (po_some pe_int)) pe_str (nomark _)) (pw_and1 (pt_cmpR op_eq (pe_call GD hr1 (by rfl) D.m D.k D.b .nil pass0 (pa_cons (pv 0) (pa_cons pe_int pa_nil))) pe_int (nomark _)))))) (pss_one (ps_set (i := 13) sc__law_letters.nd rfl (Or.inl rfl) (pe_ix ix_list (pv 10) (pe_un un_neg pe_int) (fun _ _ => rfl)))) pss_nil)
      (pss_one (ps_expr (pe_bm PySem.F.plainAttrs_list PySem.F.slot_list_append PySem.F.type_list_append mt_append (pv 10) (pa_cons (pe_ifExp (PW.pt (pw_and (pt_cmpR op_notIn_seq (pv 13) (pv 10) rfl) (pw_and1 (pt_cmpR op_gt (pe_call GD hr1 (by rfl) D.m D.k D.b .nil pass0 (pa_cons (pv 0) (pa_cons pe_int pa_nil))) pe_int (nomark _))))) (pv 13) (pe_op op_add_str pe_str (pv 13))) pa_nil)))))))))
      (pss_one (ps_ret (pv 10)))))))))), ?_⟩
    have g0 := Go.refl hpen
    have z1 : (1000 : Nat) ≤ sizeLine := by decide
    -- small, signs
    refine ⟨by show 2 ≤ sizeLine; decide, fun t1 ht1 => ⟨t1, _, rfl, SqT.of upd_same, rfl, _, _, rfl, _, _, rfl, rfl, ?_⟩⟩
    have g1 := g0.new (o := .tup [.str small, .str signs]) ht1
    change Go p c ns H (upd H t1 (.tup [.str "abcdefghijklmnopqrstuvwxyz", .str "abcdefghijklmnopqrstuvwxyz0123456789"])) B at g1
    generalize upd H t1 _ = H1 at g1 ⊢
    -- stem, its first sign or none
    refine ⟨⟨_, rfl⟩, _, rfl, p, c, ns, 4, B, rfl, g1.pen, by omega, by decide, by decide, fun H2 r g2 r0 r1 => ⟨1, r, rfl, _, rfl, by split <;> omega, by split <;> omega, fun L hL => ?_⟩⟩
    have g2 := g1.step g2
    obtain ⟨n, en, hn⟩ : ∃ n : Nat, (if r < 1 then r else 1).toNat = n ∧ n ≤ 1 := ⟨_, rfl, by split <;> omega⟩
    rw [en]
    have hL0 := g2.free hL
    refine lc_range (lo := 0) (n := n) (SgL smallL p c ns H L (B + 1)) ⟨[], g2.new hL, upd_same, rfl, by simp⟩ (fun i H3 hi hs => ?_) (fun H3 hs => ?_)
    · obtain ⟨cs, g3, _⟩ := id hs
      refine ⟨rfl, ?_⟩
      exact ⟨_, rfl, _, rfl, p, c, ns, _, B + 1 + i, rfl, g3.pen, by omega, .inr ⟨small, rfl, by rw [small_len]; decide, by rw [small_len]; decide, fun H4 j g4 hj => hs.next hL0 g4 (by omega) hj⟩⟩
    obtain ⟨cs, g3, hL3, hl3, h13⟩ := hs
    have one1 : ∀ (cs : List Nat) (y : Str), y ∈ (cs.map fun c => (⟨#[c]⟩ : Str)) → y.length = 1 := fun cs y hy => by
      obtain ⟨c', _, rfl⟩ := List.mem_map.mp hy
      rfl
    refine ⟨_, L, cs.map fun c => (⟨#[c]⟩ : Str), rfl, rfl, .inl (SqL.of hL3), (by rw [len_sum1 _ (one1 cs), List.length_map]; show cs.length + cs.length * 0 ≤ _; omega), ?_⟩
    have hst := joinT_ones cs
    generalize Txt.join (Str.ofString "") (cs.map fun c => (⟨#[c]⟩ : Str)) = stem at hst ⊢
    have hstem : stem.length = n := by rw [← tl_len, hst, hl3]
    clear hL3
    -- stem, further signs
    refine ⟨_, rfl, ⟨_, rfl⟩, _, rfl, p, c, ns, 11, B + 1 + n, rfl, g3.pen, by omega, by decide, by decide, fun H4 r' g4 r0' r1' => ?_⟩
    have g4 := g3.step g4
    refine ⟨_, rfl, stem, rfl, Nat.le_trans (show stem.length ≤ 1000 by omega) (by decide), _, _, rfl, rfl, mul_small (by omega), ?_⟩
    obtain ⟨n', en', hn', ei', hn0⟩ : ∃ n' : Nat, (r' * (stem.length : Int)).toNat = n' ∧ n' ≤ 10 ∧ r' * (stem.length : Int) = (n' : Int) ∧ (n = 0 → n' = 0) := by
      rw [hstem]
      have h01 : n = 0 ∨ n = 1 := by omega
      rcases h01 with e | e
      · rw [e]
        exact ⟨0, by simp, by decide, by simp, fun _ => rfl⟩
      · rw [e]
        exact ⟨r'.toNat, by simp, by omega, by simp; omega, fun z => absurd z (by decide)⟩
    refine ⟨_, rfl, by omega, by omega, fun L' hL' => ?_⟩
    rw [en']
    have hL0' := g4.free hL'
    refine lc_range (lo := 0) (n := n') (SgL signsL p c ns H L' (B + 3)) ⟨[], (g4.new hL').mono (by omega), upd_same, rfl, by simp⟩ (fun i H5 hi hs => ?_) (fun H5 hs => ?_)
    · obtain ⟨cs, g5, _⟩ := id hs
      refine ⟨rfl, ?_⟩
      exact ⟨_, rfl, _, rfl, p, c, ns, _, B + 3 + i, rfl, g5.pen, by omega, .inr ⟨signs, rfl, by rw [signs_len]; decide, by rw [signs_len]; decide, fun H4 j g4 hj => hs.next hL0' g4 (by omega) hj⟩⟩
    obtain ⟨cs2, g5, hL5, hl5, h15⟩ := hs
    refine ⟨_, L', cs2.map fun c => (⟨#[c]⟩ : Str), rfl, rfl, .inl (SqL.of hL5), (by rw [len_sum1 _ (one1 cs2), List.length_map]; show cs2.length + cs2.length * 0 ≤ _; omega), ?_⟩
    have hst2 := joinT_ones cs2
    generalize Txt.join (Str.ofString "") (cs2.map fun c => (⟨#[c]⟩ : Str)) = more at hst2 ⊢
    have hmore : more.length = n' := by rw [← tl_len, hst2, hl5]
    refine ⟨_, _, rfl, rfl, Nat.le_trans (show stem.length + more.length ≤ 1000 by omega) (by decide), ?_⟩
    have hlen : (stem ++ more).length ≤ 11 := by
      rw [Str.length_append]
      omega
    have hls : ∀ d ∈ (stem ++ more).cps.toList, d ∈ signsL := by
      rw [app_list, hst, hst2]
      intro d hd
      rcases List.mem_append.mp hd with z | z
      · exact small_signs d (h13 d z)
      · exact h15 d z
    have hlh : ∀ d, (stem ++ more).cps.toList.head? = some d → d ∈ smallL := by
      rw [app_list, hst, hst2]
      intro d hd
      cases cs with
      | nil =>
        have e0 : n = 0 := hl3.symm
        have e1 := hn0 e0
        rw [e1] at hl5
        rw [List.eq_nil_of_length_eq_zero hl5] at hd
        cases hd
      | cons a b =>
        cases hd
        exact h13 _ (List.mem_cons_self ..)
    generalize stem ++ more = stem' at hlen hls hlh ⊢
    replace g5 : Go p c ns H H5 (B + 20) := g5.mono (by omega)
    clear ei' en' hstem hmore g4 g3 g2 g1 hL5 h15 hl5 h13 hl3 hst hst2 hn0
    -- at, front
    refine ⟨_, rfl, _, rfl, stem', rfl, by omega, _, _, rfl, rfl, p, c, ns, _, B + 20, rfl, g5.pen, by omega, by omega, by omega, fun H6 at_ g6 a0 a1 => ?_⟩
    refine ⟨_, rfl, p, c, ns, 36, B + 20 + 1, rfl, g6.pen, by omega, by decide, by decide, fun H7 fr g7 f0 f1 => ⟨_, _, rfl, ?_⟩⟩
    replace g7 : Go p c ns H H7 (B + 25) := ((g5.step g6).step g7).mono (by omega)
    clear g5 g6
    obtain ⟨atN, rfl⟩ : ∃ n : Nat, at_ = (n : Int) := ⟨at_.toNat, by omega⟩
    obtain ⟨frN, rfl⟩ : ∃ n : Nat, fr = (n : Int) := ⟨fr.toNat, by omega⟩
    obtain ⟨zc, hz⟩ : ∃ zc : Str, zc = if 0 < atN then signs else small := ⟨_, rfl⟩
    -- choice
    try dsimp only
    refine seqIf_cut (fun v H' => H' = H7 ∧ v = .str zc) (fun Q' q' => ?_) (fun v H' hv => ?_)
    · refine ⟨_, rfl, _, _, rfl, rfl, _, rfl, ?_⟩
      refine ite2 (fun h => ?_) (fun h => ?_)
      · have h : (0 : Int) < (atN : Int) := of_decide_eq_true h
        exact ⟨_, rfl, q' _ _ ⟨rfl, by rw [hz, if_pos (by omega)]; rfl⟩⟩
      · have h : ¬ (0 : Int) < (atN : Int) := fun q => h (decide_eq_true q)
        exact ⟨_, rfl, q' _ _ ⟨rfl, by rw [hz, if_neg (by omega)]; rfl⟩⟩
    obtain ⟨rfl, rfl⟩ := hv
    -- step, tail, found
    refine ⟨_, rfl, by show 8 ≤ sizeLine; decide, fun o ho => ⟨p, c, ns, _, B + 25, rfl, (g7.new ho).pen, by omega, .inl ⟨o, _, rfl, SqL.of upd_same, by show 0 < 8; decide, by show 8 ≤ 1000; decide, fun H9 v g9 hv => ?_⟩⟩⟩
    have g9 := (g7.new ho).step g9
    obtain ⟨st, rfl, hst⟩ : ∃ s : Nat, v = .int (s : Int) ∧ s ∈ [1, 5, 7, 11, 17, 19, 23, 25] := by
      simp only [List.mem_cons, List.not_mem_nil, or_false] at hv
      rcases hv with rfl | rfl | rfl | rfl | rfl | rfl | rfl | rfl
      · exact ⟨1, rfl, by decide⟩
      · exact ⟨5, rfl, by decide⟩
      · exact ⟨7, rfl, by decide⟩
      · exact ⟨11, rfl, by decide⟩
      · exact ⟨17, rfl, by decide⟩
      · exact ⟨19, rfl, by decide⟩
      · exact ⟨23, rfl, by decide⟩
      · exact ⟨25, rfl, by decide⟩
    have st1 : st ≤ 25 := by
      simp only [List.mem_cons, List.not_mem_nil, or_false] at hst
      omega
    have W : Wds (wdN stem' zc atN frN st) 26 := wdN_ok (by omega) hlen hls hlh hz hst
    have zl : 0 < zc.length ∧ zc.length ≤ 36 := by
      rw [hz]
      split
      · rw [signs_len]
        decide
      · rw [small_len]
        decide
    refine ⟨_, rfl, _, rfl, _, rfl, _, rfl, by omega, Nat.zero_le _, fun q hq => ⟨_, _, _, rfl, ?_⟩⟩
    obtain ⟨tail, etail⟩ : ∃ tail, tail = cutS stem' (some (atN : Int)) none := ⟨_, rfl⟩
    have htl : tail.length ≤ 11 := by rw [etail]; exact Nat.le_trans (cutS_length _ _ _) hlen
    rw [← etail]
    have hq0 := g9.free hq
    have g10 : Go p c ns H (upd H9 q (.lst [])) (B + 60) := (g9.new hq).mono (by omega)
    have hq1 : upd H9 q (.lst []) q = some (.lst (([] : List Str).map V.str)) := upd_same
    generalize upd H9 q (.lst []) = H10 at g10 hq1 ⊢
    clear g9 g7 hv hq ho
    -- the loop
    refine ⟨_, rfl, m, rfl, by omega, by omega, for_range (lo := 0) (n := m.toNat) (fun i σ' H' => ∃ (ys : List Str) (o1 o2 o3 : Option V),
      σ' = [some (.ref p), some (.int m), some (.str small), some (.str signs), some (.str stem'), some (.int (atN : Int)), some (.int (frN : Int)), some (.str zc), some (.int (st : Int)), some (.str tail), some (.ref q), o1, o2, o3] ∧
      Go p c ns H H' (B + 60 + 2 * i) ∧ H' q = some (.lst (ys.map V.str)) ∧ Iv (wdN stem' zc atN frN st) ys i)
      ⟨[], none, none, none, rfl, g10, hq1, .nil⟩ ?_ ?_⟩
    · rintro i σ' H11 hi ⟨ys, o1, o2, o3, rfl, g, hL, iv⟩
      have hi' : i < 26 := by omega
      obtain ⟨hl, _, hb⟩ := iv.ends W (by omega)
      have idx : ((frN : Int) + (st : Int) * (0 + (i : Int))) % ((zc.length : Nat) : Int) = (((frN + st * i) % zc.length : Nat) : Int) := by
        rw [Int.zero_add, Int.natCast_emod, Int.natCast_add, Int.natCast_mul]
      -- sign
      refine ⟨_, rfl, _, rfl, _, rfl, _, rfl, _, _, rfl, rfl, mul_small (by omega), _, _, rfl, rfl, .inl ⟨_, rfl, _, rfl, zc, rfl, by omega, _, _, rfl, rfl, (by omega), zc, _, sgN zc frN st i, rfl, rfl, by omega, at_by idx (sgN_at zc frN st i zl.1), ?_⟩⟩
      -- word
      refine ⟨_, rfl, _, rfl, _, rfl, stem', rfl, by omega, _, rfl, _, _, rfl, rfl, ?_, ?_⟩
      · have := cutS_length stem' none (some (atN : Int))
        show (cutS stem' none (some (atN : Int))).length + 1 ≤ sizeLine
        omega
      have hw1 : (cutS stem' none (some (atN : Int)) ++ (⟨#[sgN zc frN st i]⟩ : Str)).length ≤ 12 := by
        rw [Str.length_append]
        have := cutS_length stem' none (some (atN : Int))
        show (cutS stem' none (some (atN : Int))).length + 1 ≤ 12
        omega
      refine ⟨_, rfl, _, rfl, tail, rfl, by omega, _, rfl, _, rfl, _, _, rfl, rfl, .inr ⟨_, rfl, _, _, rfl, rfl, mul_small (by omega), _, _, rfl, rfl, _, rfl, tail, rfl, by omega, _, _, rfl, rfl, ?_, ?_⟩⟩
      · have := cutS_length tail none (some ((tail.length : Int) - (0 + (i : Int)) * (if decide (0 + (i : Int) < 2) = true then 1 else 0)))
        omega
      have ew : wdN stem' zc atN frN st i = fixS ((cutS stem' none (some (atN : Int)) ++ (⟨#[sgN zc frN st i]⟩ : Str)) ++ cutS tail none (some ((tail.length : Int) - (0 + (i : Int)) * (if decide (0 + (i : Int) < 2) = true then 1 else 0)))) := by
        rw [etail]
        rfl
      have hw2 : ((cutS stem' none (some (atN : Int)) ++ (⟨#[sgN zc frN st i]⟩ : Str)) ++ cutS tail none (some ((tail.length : Int) - (0 + (i : Int)) * (if decide (0 + (i : Int) < 2) = true then 1 else 0)))).length ≤ 23 := by
        rw [Str.length_append]
        have := cutS_length tail none (some ((tail.length : Int) - (0 + (i : Int)) * (if decide (0 + (i : Int) < 2) = true then 1 else 0)))
        omega
      generalize (cutS stem' none (some (atN : Int)) ++ (⟨#[sgN zc frN st i]⟩ : Str)) ++ cutS tail none (some ((tail.length : Int) - (0 + (i : Int)) * (if decide (0 + (i : Int) < 2) = true then 1 else 0))) = w2 at hw2 ew ⊢
      have gi := W.good i hi'
      have gl := good_len gi
      obtain ⟨wi, ewi⟩ : ∃ wi, wi = wdN stem' zc atN frN st i := ⟨_, rfl⟩
      rw [← ewi] at ew gi gl
      -- new, found
      try dsimp only
      refine seqIf_mid (fun σ' H' => σ' = [some (.ref p), some (.int m), some (.str small), some (.str signs), some (.str stem'), some (.int (atN : Int)), some (.int (frN : Int)), some (.str zc), some (.int (st : Int)), some (.str tail), some (.ref q), some (.int (0 + (i : Int))), some (.str ⟨#[sgN zc frN st i]⟩), some (.str wi)] ∧
        Go p c ns H H' (B + 60 + 2 * i) ∧ H' q = some (.lst (ys.map V.str))) (fun N hN => ?_) (fun σ' H' hm => ?_)
      · refine ⟨_, rfl, by show 2 ≤ sizeLine; decide, fun t ht => ⟨t, _, rfl, .inr (SqT.of upd_same), rfl, rfl, _, rfl, ?_⟩⟩
        have gt := g.new (o := .tup [.str "new", .str "found"]) ht
        have hLt : upd H11 t (.tup [.str "new", .str "found"]) q = some (.lst (ys.map V.str)) := by rw [upd_ne (ne_of_none hL ht)]; exact hL
        have e3 : inV (.str w2) [.str "new", .str "found"] = decide (w2 = newW ∨ w2 = foundW) := by
          unfold inV
          simp only [List.any_cons, List.any_nil, Bool.or_false, eq_V]
          by_cases c1 : w2 = newW
          · rw [decide_eq_true (show (Str.ofString "new") = w2 from c1.symm), decide_eq_true (show w2 = newW ∨ w2 = foundW from .inl c1)]
            rfl
          · by_cases c2 : w2 = foundW
            · rw [decide_eq_true (show (Str.ofString "found") = w2 from c2.symm), decide_eq_true (show w2 = newW ∨ w2 = foundW from .inr c2), Bool.or_true]
            · rw [decide_eq_false (show ¬ (Str.ofString "new") = w2 from fun z => c1 z.symm), decide_eq_false (show ¬ (Str.ofString "found") = w2 from fun z => c2 z.symm), decide_eq_false (show ¬ (w2 = newW ∨ w2 = foundW) from fun z => z.elim c1 c2)]
              rfl
        refine ite2 (fun h => ?_) (fun h => ?_)
        · have h : inV (.str w2) [.str "new", .str "found"] = true := h
          rw [e3] at h
          have e4 : wi = w2 ++ ("0" : Str) := by rw [ew]; exact if_pos (of_decide_eq_true h)
          refine ⟨_, rfl, _, _, rfl, rfl, (by show w2.length + 1 ≤ sizeLine; omega), hN _ _ ⟨?_, gt, hLt⟩⟩
          rw [e4]
          rfl
        · have h : ¬ inV (.str w2) [.str "new", .str "found"] = true := h
          rw [e3] at h
          have e4 : wi = w2 := by rw [ew]; exact if_neg (fun q => h (decide_eq_true q))
          refine hN _ _ ⟨?_, gt, hLt⟩
          rw [e4]
          rfl
      obtain ⟨rfl, g, hL⟩ := hm
      -- the last one again
      try dsimp only
      refine seqIf_mid (fun σ' H' => ∃ x : Str, σ' = [some (.ref p), some (.int m), some (.str small), some (.str signs), some (.str stem'), some (.int (atN : Int)), some (.int (frN : Int)), some (.str zc), some (.int (st : Int)), some (.str tail), some (.ref q), some (.int (0 + (i : Int))), some (.str ⟨#[sgN zc frN st i]⟩), some (.str x)] ∧
        Go p c ns H H' (B + 60 + 2 * i + 1) ∧ H' q = some (.lst (ys.map V.str)) ∧ x.length ≤ 13 ∧ (x = wi ∨ (ys.getLast? = some x ∧ x.cps.toList.head? ≠ some 126))) (fun N hN => ?_) (fun σ' H' hm => ?_)
      · have stay : ∀ H', Go p c ns H H' (B + 60 + 2 * i + 1) → H' q = some (.lst (ys.map V.str)) → N ([some (.ref p), some (.int m), some (.str small), some (.str signs), some (.str stem'), some (.int (atN : Int)), some (.int (frN : Int)), some (.str zc), some (.int (st : Int)), some (.str tail), some (.ref q), some (.int (0 + (i : Int))), some (.str ⟨#[sgN zc frN st i]⟩), some (.str wi)]) H' :=
          fun H' g' h' => hN _ _ ⟨wi, rfl, g', h', by omega, .inl rfl⟩
        refine ⟨_, rfl, _, _, rfl, rfl, _, rfl, ite2 (fun h1 => ?_) (fun h1 => iteF (stay _ (g.mono (by omega)) hL))⟩
        have h1 : (0 : Int) < 0 + (i : Int) := of_decide_eq_true h1
        obtain ⟨ys', last, rfl⟩ : ∃ ys' last, ys = ys' ++ [last] := by
          rcases List.eq_nil_or_concat ys with e | ⟨a, b, e⟩
          · rw [e] at hl
            have : (0 : Nat) = i := hl
            omega
          · exact ⟨a, b, by rw [e]; simp⟩
        have hlast := hb last (by simp)
        have hat : atI ((ys' ++ [last]).map V.str) (-1) = some (.str last) := by
          rw [List.map_append]
          exact atI_last _ _
        refine ⟨_, rfl, _, rfl, q, _, _, _, rfl, rfl, SqL.of hL, hat, _, rfl, last, rfl, (by have := hlast.2.1; omega), rfl, _, rfl, ite2 (fun h2 => ?_) (fun _ => iteF (stay _ (g.mono (by omega)) hL))⟩
        have hh : last.cps.toList.head? ≠ some 126 := fun e => by
          have h2 : (!decide (V.str (cutS last none (some 1)) = V.str (Str.ofString "~"))) = true := h2
          rw [head_tilde, decide_eq_true e] at h2
          cases h2
        refine ⟨_, rfl, p, c, ns, 5, B + 60 + 2 * i, rfl, g.pen, by omega, by decide, by decide, fun H12 r g12 _ _ => ⟨rfl, _, rfl, ?_⟩⟩
        have hL2 := g12.lst hL
        have g13 := g.step g12
        refine ite2 (fun _ => ?_) (fun _ => stay _ g13 hL2)
        exact ⟨_, rfl, _, rfl, q, _, _, _, rfl, rfl, SqL.of hL2, hat, hN _ _ ⟨last, rfl, g13, hL2, hlast.2.1, .inr ⟨List.getLast?_concat, hh⟩⟩⟩
      obtain ⟨x, rfl, g, hL, hx, hxw⟩ := hm
      -- found.append(..)
      have fin : ∀ (H' : Hp) (wv : Str), Go p c ns H H' (B + 60 + 2 * i + 2) → H' q = some (.lst (ys.map V.str)) → Iv (wdN stem' zc atN frN st) (ys ++ [wv]) (i + 1) →
          ∃ (ys2 : List Str) (o1 o2 o3 : Option V), [some (.ref p), some (.int m), some (.str small), some (.str signs), some (.str stem'), some (.int (atN : Int)), some (.int (frN : Int)), some (.str zc), some (.int (st : Int)), some (.str tail), some (.ref q), some (.int (0 + (i : Int))), some (.str ⟨#[sgN zc frN st i]⟩), some (.str x)] =
            [some (.ref p), some (.int m), some (.str small), some (.str signs), some (.str stem'), some (.int (atN : Int)), some (.int (frN : Int)), some (.str zc), some (.int (st : Int)), some (.str tail), some (.ref q), o1, o2, o3] ∧
          Go p c ns H (upd H' q (.lst (ys.map V.str ++ [.str wv]))) (B + 60 + 2 * (i + 1)) ∧ upd H' q (.lst (ys.map V.str ++ [.str wv])) q = some (.lst (ys2.map V.str)) ∧ Iv (wdN stem' zc atN frN st) ys2 (i + 1) := by
        intro H' wv g' h' hv
        refine ⟨ys ++ [wv], _, _, _, rfl, (g'.mut hq0).mono (by omega), ?_, hv⟩
        rw [upd_same, List.map_append]
        rfl
      have hflat : (ys.map V.str).all flatV = true := by
        rw [List.all_eq_true]
        intro x hx
        obtain ⟨y, _, rfl⟩ := List.mem_map.mp hx
        rfl
      have hsz : (ys.map V.str).length < sizeLine := by
        rw [List.length_map]
        omega
      have tld : Iv (wdN stem' zc atN frN st) (ys ++ [tildeS ++ x]) (i + 1) := by
        rcases hxw with rfl | ⟨e1, e2⟩
        · rw [ewi]
          exact iv.tilde W hi'
        · exact iv.again e1 e2
      refine ⟨_, rfl, .inl ⟨rfl, _, SqL.of hL⟩, ?_⟩
      refine ⟨_, rfl, _, rfl, q, _, rfl, .inl (SqL.of hL), rfl, hflat, _, rfl, ite2 (fun hn => ?_) (fun _ => iteF ?_)⟩
      · have pl : Iv (wdN stem' zc atN frN st) (ys ++ [x]) (i + 1) := by
          rcases hxw with rfl | ⟨e1, e2⟩
          · rw [ewi]
            exact iv.plain W hi'
          · have hn : (!inV (.str x) (ys.map V.str)) = true := hn
            rw [in_mem (List.mem_of_getLast? e1)] at hn
            cases hn
        refine ⟨_, rfl, p, c, ns, 5, B + 60 + 2 * i + 1, rfl, g.pen, by omega, by decide, by decide, fun H12 r g12 _ _ => ⟨_, _, rfl, rfl, _, rfl, ?_⟩⟩
        have hL2 := g12.lst hL
        have g13 := g.step g12
        refine ite2 (fun _ => ?_) (fun _ => ?_)
        · exact ⟨_, rfl, q, _, _, rfl, rfl, hL2, hsz, fin _ x g13 hL2 pl⟩
        · exact ⟨_, rfl, _, _, rfl, rfl, (by show 1 + x.length ≤ sizeLine; omega), q, _, _, rfl, rfl, hL2, hsz, fin _ _ g13 hL2 tld⟩
      · exact ⟨_, rfl, _, _, rfl, rfl, (by show 1 + x.length ≤ sizeLine; omega), q, _, _, rfl, rfl, hL, hsz, fin _ _ (g.mono (by omega)) hL tld⟩
    · rintro σ' H11 ⟨ys, o1, o2, o3, rfl, g, hL, iv⟩
      obtain ⟨hl, nd, hb⟩ := iv.ends W (by omega)
      exact ⟨_, rfl, k H11 q ys (g.mono (by omega)) hq0 hL (by omega) nd hb⟩
end
end Ask

namespace Ask
open PySem L2
/-- an item of the law's lists, its list or tuple at a place of N -/
def ItV (N : Addr → Prop) (H : Hp) (v : V) (d : PyData) : Prop :=
  (v = .non ∧ d = .none) ∨ (v = .bl true ∧ d = .bool true) ∨ (v = .int 7 ∧ d = .int 7) ∨ ∃ z : Str, (z.length ≤ 500 ∧ Asc z) ∧
    ((v = .str z ∧ d = .str z) ∨ ∃ a, v = .ref a ∧ N a ∧ ((H a = some (.lst [.str z]) ∧ d = .list [.str z]) ∨ (H a = some (.tup [.str z]) ∧ d = .tuple [.str z])))
section
variable {K : PySem.W.Frag} {N N' : Addr → Prop} {H H' H0 : Hp} {v : V} {d : PyData} {p c q : Addr} {ns : List Int} {B : Nat} {o : HO}
theorem ItV.itm (h : ItV N H v d) : Itm d := by
  rcases h with ⟨_, e⟩ | ⟨_, e⟩ | ⟨_, e⟩ | ⟨z, ⟨h1, h2⟩, ⟨_, e⟩ | ⟨a, _, _, ⟨_, e⟩ | ⟨_, e⟩⟩⟩
  · exact .inl e
  · exact .inr (.inl e)
  · exact .inr (.inr (.inl e))
  · exact .inr (.inr (.inr ⟨z, h1, h2, .inl e⟩))
  · exact .inr (.inr (.inr ⟨z, h1, h2, .inr (.inl e)⟩))
  · exact .inr (.inr (.inr ⟨z, h1, h2, .inr (.inr e)⟩))
theorem ItV.dp (h : ItV N H v d) : Dp K H v d := by
  rcases h with ⟨e, e'⟩ | ⟨e, e'⟩ | ⟨e, e'⟩ | ⟨z, _, ⟨e, e'⟩ | ⟨a, e, _, ⟨ea, e'⟩ | ⟨ea, e'⟩⟩⟩ <;> rw [e, e']
  · exact .non
  · exact .bl _
  · exact .int _
  · exact .str _
  · exact .lst (SqL.of ea) (.cons (.str _) .nil)
  · exact .tup (SqT.of ea) (.cons (.str _) .nil)
theorem ItV.mp (h : ItV N H v d) (k : ∀ a o, N a → H a = some o → (∀ kvs, o ≠ .dK kvs) → N' a ∧ H' a = some o) : ItV N' H' v d := by
  rcases h with h | h | h | ⟨z, hz, h | ⟨a, e, n, ⟨ea, e'⟩ | ⟨ea, e'⟩⟩⟩
  · exact .inl h
  · exact .inr (.inl h)
  · exact .inr (.inr (.inl h))
  · exact .inr (.inr (.inr ⟨z, hz, .inl h⟩))
  · obtain ⟨n', ea'⟩ := k a _ n ea (by intro _ z; cases z)
    exact .inr (.inr (.inr ⟨z, hz, .inr ⟨a, e, n', .inl ⟨ea', e'⟩⟩⟩))
  · obtain ⟨n', ea'⟩ := k a _ n ea (by intro _ z; cases z)
    exact .inr (.inr (.inr ⟨z, hz, .inr ⟨a, e, n', .inr ⟨ea', e'⟩⟩⟩))
theorem ItV.go (h : ItV N H v d) (g : Go p c ns H H' B) : ItV N H' v d := h.mp fun a o n e k => ⟨n, g.at e k⟩
theorem ItV.same (h : ItV N H v d) (s : Same H H') : ItV N H' v d := h.mp fun a o n e _ => ⟨n, s a o e⟩
theorem ItV.mut (h : ItV N H v d) (n : ∀ a, N a → a ≠ q) : ItV N (upd H q o) v d := h.mp fun a u m e _ => ⟨m, by rw [upd_ne (n a m)]; exact e⟩
theorem ItV.wk (h : ItV N H v d) (n : ∀ a, N a → N' a) : ItV N' H v d := h.mp fun a u m e _ => ⟨n a m, e⟩
def ItS (N : Addr → Prop) (H : Hp) (xs : List V) : Prop := ∀ v ∈ xs, ∃ d, ItV N H v d
theorem ItS.nil : ItS N H [] := fun _ h => by cases h
theorem ItS.cons {xs : List V} (h : ∃ d, ItV N H v d) (r : ItS N H xs) : ItS N H (v :: xs) := fun x hx => by
  rcases List.mem_cons.mp hx with rfl | hx
  · exact h
  · exact r x hx
theorem ItS.app {xs ys : List V} (h : ItS N H xs) (r : ItS N H ys) : ItS N H (xs ++ ys) := fun x hx => by
  rcases List.mem_append.mp hx with hx | hx
  · exact h x hx
  · exact r x hx
theorem itStr {z : Str} (h : z.length ≤ 500 ∧ Asc z) : ∃ d, ItV N H (.str z) d := ⟨_, .inr (.inr (.inr ⟨z, h, .inl ⟨rfl, rfl⟩⟩))⟩
end
theorem asc_upper {z : Str} (h : Asc z) : Asc (Txt.upper z) ∧ (Txt.upper z).length = z.length := by
  rw [PyProof.Rows.upper_ascii h]
  refine ⟨fun c hc => ?_, by simp [Str.length]⟩
  have hc : c ∈ (z.cps.map PyProof.Rows.up1).toList := hc
  rw [Array.toList_map] at hc
  obtain ⟨b, hb, rfl⟩ := List.mem_map.mp hc
  have := h b hb
  unfold PyProof.Rows.up1
  split <;> omega
theorem asc_rep {z : Str} (h : Asc z) (n : Nat) : Asc (repS z n) := by
  have : ∀ (n : Nat) (acc : Array Nat), (∀ c ∈ acc.toList, c < 128) → ∀ c ∈ ((List.replicate n z.cps).foldl (· ++ ·) acc).toList, c < 128 := by
    intro n
    induction n with
    | zero => intro acc ha; simpa using ha
    | succ n ih =>
      intro acc ha
      rw [List.replicate_succ, List.foldl_cons]
      refine ih _ fun c hc => ?_
      rw [Array.toList_append] at hc
      rcases List.mem_append.mp hc with q | q
      · exact ha c q
      · exact h c q
  exact this n #[] (fun c hc => by cases hc)
end Ask

namespace Ask
open PySem L2
/-! ### the answers, by the mirror -/
def badAt (ds : List PyData) (k : Nat) : Bool := match ds[k]? with
  | some d => !isL d || (ds.take k).any fun z => PyData.eqv z d
  | none => false
def bads (ds : List PyData) : List Nat := (List.range ds.length).filter (badAt ds)
def res (ds : List PyData) : PyData :=
  if 12 < ds.length then .tuple [.str "many", .str "letters", .int (ds.length : Nat), .int 12]
  else match bads ds with
    | k :: _ => .tuple [.str "letters", .int (k : Nat)]
    | [] => if ds.length = 0 then .tuple [.str "letters", .int 0] else .none
theorem res_many {ds : List PyData} (h : 12 < ds.length) : res ds = .tuple [.str "many", .str "letters", .int (ds.length : Nat), .int 12] := if_pos h
theorem res_none {ds : List PyData} (h : ds.length = 0) : res ds = .tuple [.str "letters", .int 0] := by
  have e : ds = [] := List.eq_nil_of_length_eq_zero h
  subst e
  rfl
theorem bads_at {ds : List PyData} {k : Nat} (h1 : k < ds.length) (h2 : badAt ds k = true) (h3 : ∀ j < k, badAt ds j = false) : ∃ r, bads ds = k :: r := by
  unfold bads
  have e : ds.length = k + (1 + (ds.length - k - 1)) := by omega
  rw [e, List.range_add, List.filter_append]
  have e1 : (List.range k).filter (badAt ds) = [] := List.filter_eq_nil_iff.mpr fun x hx => by
    rw [h3 x (List.mem_range.mp hx)]
    exact Bool.false_ne_true
  rw [e1, List.nil_append, Nat.add_comm 1, List.range_succ_eq_map, List.map_cons, List.filter_cons, if_pos (by simpa using h2)]
  exact ⟨_, rfl⟩
theorem res_at {ds : List PyData} {k : Nat} (h0 : ¬ 12 < ds.length) (h1 : k < ds.length) (h2 : badAt ds k = true) (h3 : ∀ j < k, badAt ds j = false) : res ds = .tuple [.str "letters", .int (k : Nat)] := by
  obtain ⟨r, e⟩ := bads_at h1 h2 h3
  unfold res
  rw [if_neg h0, e]
theorem res_good {ds : List PyData} (h0 : ¬ 12 < ds.length) (h1 : 0 < ds.length) (h3 : ∀ j < ds.length, badAt ds j = false) : res ds = .none := by
  have e : bads ds = [] := List.filter_eq_nil_iff.mpr fun x hx => by
    rw [h3 x (List.mem_range.mp hx)]
    exact Bool.false_ne_true
  unfold res
  rw [if_neg h0, e]
  exact if_neg (by omega)
/-- an answer of the law's -/
def Rs (H : Hp) (v : V) (d : PyData) : Prop := (v = .non ∧ d = .none) ∨ ∃ a xs ds, v = .ref a ∧ d = .tuple ds ∧ H a = some (.tup xs) ∧ ∀ (K : PySem.W.Frag) (H' : Hp), DpAll K H' xs ds
/-- the items of a list -/
def ItL (N : Addr → Prop) (H : Hp) : List V → List PyData → Prop
  | [], [] => True
  | v :: xs, d :: ds => ItV N H v d ∧ ItL N H xs ds
  | _, _ => False
section
variable {K : PySem.W.Frag} {N N' : Addr → Prop} {H H' H0 : Hp} {v : V} {d : PyData} {p c q : Addr} {ns : List Int} {B : Nat} {o : HO}
theorem Rs.dp (h : Rs H v d) : Dp K H v d := by
  rcases h with ⟨rfl, rfl⟩ | ⟨a, xs, ds, rfl, rfl, e, k⟩
  · exact .non
  · exact .tup (SqT.of e) (k K H)
theorem Rs.same (h : Rs H v d) (s : Same H H') : Rs H' v d := by
  rcases h with h | ⟨a, xs, ds, h1, h2, e, k⟩
  · exact .inl h
  · exact .inr ⟨a, xs, ds, h1, h2, s _ _ e, k⟩
theorem ItL.len : ∀ {xs : List V} {ds : List PyData}, ItL N H xs ds → xs.length = ds.length
  | [], [], _ => rfl
  | _ :: _, _ :: _, h => by rw [List.length_cons, List.length_cons, ItL.len h.2]
  | [], _ :: _, h => h.elim
  | _ :: _, [], h => h.elim
theorem ItL.mp : ∀ {xs : List V} {ds : List PyData}, ItL N H xs ds → (∀ v d, ItV N H v d → ItV N' H' v d) → ItL N' H' xs ds
  | [], [], _, _ => trivial
  | _ :: _, _ :: _, h, k => ⟨k _ _ h.1, ItL.mp h.2 k⟩
  | [], _ :: _, h, _ => h.elim
  | _ :: _, [], h, _ => h.elim
theorem ItL.dp : ∀ {xs : List V} {ds : List PyData}, ItL N H xs ds → DpAll K H xs ds
  | [], [], _ => .nil
  | _ :: _, _ :: _, h => .cons h.1.dp (ItL.dp h.2)
  | [], _ :: _, h => h.elim
  | _ :: _, [], h => h.elim
theorem ItL.itm : ∀ {xs : List V} {ds : List PyData}, ItL N H xs ds → ∀ d ∈ ds, Itm d
  | [], [], _, _, h => by cases h
  | _ :: _, _ :: _, h, d, hd => by
    rcases List.mem_cons.mp hd with rfl | hd
    · exact h.1.itm
    · exact ItL.itm h.2 d hd
  | [], _ :: _, h, _, _ => h.elim
  | _ :: _, [], h, _, _ => h.elim
theorem ItL.fit {xs : List V} {ds : List PyData} (h : ItL N H xs ds) : FitAll ds := fit_all fun d hd => itm_fit (h.itm d hd)
theorem ItL.get : ∀ {xs : List V} {ds : List PyData} (k : Nat), ItL N H xs ds → k < xs.length → ∃ v d, xs[k]? = some v ∧ ds[k]? = some d ∧ ItV N H v d
  | [], _, _, _, h => absurd h (Nat.not_lt_zero _)
  | _ :: _, [], _, h, _ => h.elim
  | v :: _, d :: _, 0, h, _ => ⟨v, d, rfl, rfl, h.1⟩
  | _ :: _, _ :: _, k + 1, h, hk => by
    obtain ⟨v, d, h1, h2, h3⟩ := ItL.get k h.2 (Nat.lt_of_succ_lt_succ hk)
    exact ⟨v, d, by simpa using h1, by simpa using h2, h3⟩
theorem ItL.take : ∀ {xs : List V} {ds : List PyData} (k : Nat), ItL N H xs ds → ItL N H (xs.take k) (ds.take k)
  | [], [], _, _ => by rw [List.take_nil, List.take_nil]; trivial
  | _ :: _, _ :: _, 0, _ => trivial
  | _ :: _, _ :: _, k + 1, h => ⟨h.1, ItL.take k h.2⟩
  | [], _ :: _, _, h => h.elim
  | _ :: _, [], _, h => h.elim
theorem ItL.set : ∀ {xs : List V} {ds : List PyData} (k : Nat), ItL N H xs ds → ItV N H v d → ItL N H (xs.set k v) (ds.set k d)
  | [], [], _, _, _ => trivial
  | _ :: _, _ :: _, 0, h, hv => ⟨hv, h.2⟩
  | _ :: _, _ :: _, k + 1, h, hv => ⟨h.1, ItL.set k h.2 hv⟩
  | [], _ :: _, _, h, _ => h.elim
  | _ :: _, [], _, h, _ => h.elim
theorem ItL.app1 : ∀ {xs : List V} {ds : List PyData}, ItL N H xs ds → ItV N H v d → ItL N H (xs ++ [v]) (ds ++ [d])
  | [], [], _, hv => ⟨hv, trivial⟩
  | _ :: _, _ :: _, h, hv => ⟨h.1, ItL.app1 h.2 hv⟩
  | [], _ :: _, h, _ => h.elim
  | _ :: _, [], h, _ => h.elim
theorem itl_strs : ∀ {ys : List Str}, (∀ y ∈ ys, y.length ≤ 500 ∧ Asc y) → ItL N H (ys.map V.str) (ys.map PyData.str)
  | [], _ => trivial
  | y :: r, h => ⟨.inr (.inr (.inr ⟨y, h y (List.mem_cons_self ..), .inl ⟨rfl, rfl⟩⟩)), itl_strs fun z hz => h z (List.mem_cons_of_mem _ hz)⟩
end
theorem ints_lay : ∀ ks : List Nat, (∀ k ∈ ks, k ≤ 1000) → PyData.canLayAll0 (ks.map fun k : Nat => PyData.int k) = true ∧ PyData.depthAll (ks.map fun k : Nat => PyData.int k) = 0
  | [], _ => ⟨rfl, rfl⟩
  | k :: r, h => by
    obtain ⟨h1, h2⟩ := ints_lay r fun z hz => h z (List.mem_cons_of_mem _ hz)
    have hk := h k (List.mem_cons_self ..)
    refine ⟨?_, ?_⟩
    · show (PyData.canLay0 (.int (k : Nat)) && PyData.canLayAll0 (r.map fun k : Nat => PyData.int k)) = true
      rw [h1, Bool.and_true]
      rfl
    · show max 0 (PyData.depthAll (r.map fun k : Nat => PyData.int k)) = 0
      rw [h2]
      rfl
theorem ints_shaped {ks : List Nat} (h : ∀ k ∈ ks, k ≤ 1000) : SeqAt.shaped (.list (ks.map fun k : Nat => PyData.int k)) = true := by
  obtain ⟨h1, h2⟩ := ints_lay ks h
  exact shaped_of h1 (by show PyData.depthAll _ + 1 ≤ 64; omega)
theorem dp_ints {K : PySem.W.Frag} {H : Hp} : ∀ ks : List Nat, DpAll K H (ks.map fun k : Nat => V.int k) (ks.map fun k : Nat => PyData.int k)
  | [] => .nil
  | k :: r => .cons (.int _) (dp_ints r)
theorem cutV_take (xs : List V) (k : Nat) (h : k ≤ xs.length) : cutV xs none (some (k : Int)) = xs.take k := by
  unfold cutV
  rw [HT.sIx_none, HT.sIx_nat, List.drop_zero, Nat.sub_zero, Nat.min_eq_left h]
end Ask

/-! C(e, ..), what its __init__ raises wished for at the caller's slots -/
namespace Ask
open PySem L2 PySem.Spec PyProof.Rows
def tMakeS (C : Addr) (sp : Sp) (E : L2.St → XK) (t : TA) : TE := fun σ H Q => t σ H fun vs H1 => ∀ x dx, H1 x = none → H1 dx = none → dx ≠ x →
  sp (.ref x :: vs) (upd (upd H1 dx (.own x)) x (.ins C dx [])) (fun v H2 => v = .non ∧ Q (.ref x) H2) (E σ)
theorem pe_makeS {X : Cx} {CX : CXT} {k : Nat} {f C : Addr} {fd : FuncData} {ps : List Str} {sp : Sp} {E : L2.St → XK} {x : Str} {p pos : Pos} {e : Expr} {es : List Expr} {t : TA}
    (M : Mk X.K C f) (F : FnOk X.prog X.w X.K X.mg X.base CX k f fd ps sp) (hr : Room (k + 1) X.A) (hg : Gl X x) (hm : X.mg x = some (.ref C)) (hb : Binds X.K fd ps []) (hx : ∀ σ, PassesAt CX X σ (E σ)) (ha : PA X (e :: es) t)
    (hdb : (x == ("__debug__" : Str)) = false := by decide) (he : starEach (e :: es) X.env = (false, eval e X.env) :: starEach es X.env := by rfl) (hpl : (backTo pos (starEach es X.env)).any (·.1) = false := by rfl) :
    PE X (.Call (.Name x p) (e :: es) [] pos) (tMakeS C sp E t) := by
  refine ⟨fun pins s σ H Q I h => wpAny_Call_Name_kw (ld_glob I hg hm ?_ hdb)⟩
  refine PySem.W.callWith_K (h₀ := X.base) I.ok.mod.kin M.kp (thn (ha.run pos pins s σ H _ I h) fun us s1 ⟨vs, H1, I1, r, q⟩ => ⟨I1.kIn, ?_⟩) he hpl
  have w := q (s1.heap.objs.size + 1) s1.heap.objs.size (I1.hok.fresh (Nat.le_succ _)) (I1.hok.fresh (Nat.le_refl _)) (Nat.ne_of_lt (Nat.lt_succ_self _))
  have I2 := Inv.made (C := C) I1
  have r2 : Vals (V.ref (s1.heap.objs.size + 1) :: vs) (Value.ref (s1.heap.objs.size + 1) :: us) := .cons rfl r
  have len : (Value.ref (s1.heap.objs.size + 1) :: us).length = ps.length := by
    rw [← r2.length]
    exact F.len _ _ _ _ w
  have len2 : (Value.ref (s1.heap.objs.size + 1) :: us ++ []).length = ps.length := by
    rw [List.append_nil]
    exact len
  have bound := hb _ (Value.ref (s1.heap.objs.size + 1) :: us) I2.kIn len2
  rw [List.append_nil] at bound
  refine wpAny_call (make_map (f := f) I1.kIn M.makes M.init (beq_iff_eq.mp M.fn) (codeAny_mono (F.run _ X.stack _ _ ⟨Value.ref (s1.heap.objs.size + 1) :: us, []⟩ _ _ _ (E σ) (hr.make C us []) (I2.env0.make C us []) bound r2 w) fun r s' got => ?_))
  match r, got with
  | .error e, got => exact hx σ pins _ _ e s' I2 got
  | .ok .next, got => exact False.elim got
  | .ok .brk, got => exact False.elim got
  | .ok .cont, got => exact False.elim got
  | .ok (.ret u), got =>
    obtain ⟨v, H', I3, rv, ev, z⟩ := I2.after got
    subst ev
    exact ⟨rv, ⟨V.ref (s1.heap.objs.size + 1), H', I3, rfl, z⟩⟩
end Ask

namespace Ask
open PySem L2
section
variable {P : Program} {w : World} {K : PySem.W.Frag} {mg : Str → Option Value} {base : Heap}
/-! ### copied, of a number or a text -/
def spCopy : Sp := fun vs H Q _ => ∃ x : V, vs = [x] ∧ ((∃ i, x = .int i) ∨ ∃ z, x = .str z) ∧ Q x H
abbrev s_copied : Stmt := top 8
theorem sc_copied : FnScope ["value"] ["value"] (defScope s_copied) := ⟨rfl, rfl, rfl, by decide +kernel, rfl, by decide +kernel, by decide +kernel⟩
theorem ok_copied {f : Addr} {fd : FuncData} (F : Fun K "copied" "copied" s_copied f fd) (T : Blt mg) (nD : mg "dict" = none) : FnOk P w K mg base CX0 1 f fd ["value"] spCopy := by
  refine F.ok sc_copied (fun vs H Q E h => ?_) (fun cdv A outer s H vs Q E hr h => ?_)
  · obtain ⟨x, rfl, _⟩ := h
    rfl
  · obtain ⟨x, rfl, hx, k⟩ := h
    refine ⟨_, (pss_cons (ps_if (pt_val (pe_callB call_isi (by rfl) T.n_isinstance (by decide +kernel) (pa_cons (pv 0) (pa_cons (pe_bltn (v := .ty "list") (u := .type "list") rfl T.n_list (by decide +kernel) rfl) pa_nil)))) pss_never pss_nil)
      (pss_cons (ps_if (pt_val (pe_callB call_isi (by rfl) T.n_isinstance (by decide +kernel) (pa_cons (pv 0) (pa_cons (pe_bltn (v := .ty "tuple") (u := .type "tuple") rfl T.n_tuple (by decide +kernel) rfl) pa_nil)))) pss_never pss_nil)
      (pss_cons (ps_if (pt_val (pe_callB call_isi (by rfl) T.n_isinstance (by decide +kernel) (pa_cons (pv 0) (pa_cons (pe_bltn (v := .ty "dict") (u := .type "dict") rfl nD (by decide +kernel) rfl) pa_nil)))) pss_never pss_nil)
      (pss_one (ps_ret (pv 0)))))), ?_⟩
    rcases hx with ⟨i, rfl⟩ | ⟨z, rfl⟩
    · refine ⟨_, rfl, _, _, _, _, false, rfl, .ty _, .base (.int _), kit_ty (by decide +kernel), _, rfl, iteF ?_⟩
      refine ⟨_, rfl, _, _, _, _, false, rfl, .ty _, .base (.int _), kit_ty (by decide +kernel), _, rfl, iteF ?_⟩
      refine ⟨_, rfl, _, _, _, _, false, rfl, .ty _, .base (.int _), kit_ty (by decide +kernel), _, rfl, iteF ?_⟩
      exact ⟨_, rfl, k⟩
    · refine ⟨_, rfl, _, _, _, _, false, rfl, .ty _, .base (.str _), kit_ty (by decide +kernel), _, rfl, iteF ?_⟩
      refine ⟨_, rfl, _, _, _, _, false, rfl, .ty _, .base (.str _), kit_ty (by decide +kernel), _, rfl, iteF ?_⟩
      refine ⟨_, rfl, _, _, _, _, false, rfl, .ty _, .base (.str _), kit_ty (by decide +kernel), _, rfl, iteF ?_⟩
      exact ⟨_, rfl, k⟩
/-! ### the errors -/
def spErr (C : Addr) (ok : List V → Prop) (fs : List V → List (Str × V)) : Sp := fun vs H Q _ => ∃ (a : Addr) (ws : List V), vs = .ref a :: ws ∧ ok ws ∧ H a = some (exo a C none) ∧
  ∀ (H' : Hp) (dx : Addr), H dx = none → dx ≠ a → H' a = some (exo a C (some dx)) → H' dx = some (exd dx (fs ws)) → (∀ b o, b ≠ a → H b = some o → H' b = some o) → Q .non H'
def okBad : List V → Prop := fun ws => ∃ i : Int, ws = [.int i]
def fsBad : List V → List (Str × V) := fun ws => match ws with
  | [v] => [("index", v)]
  | _ => []
def okMany : List V → Prop := fun ws => ∃ n : Int, ws = [.str "letters", .int n, .int 12]
def fsMany : List V → List (Str × V) := fun ws => match ws with
  | [v, n, m] => [("most", m), ("many", n), ("what", v)]
  | _ => []
abbrev s_BadLetters_init : Stmt := inClass (top 11) 0
theorem sc_BadLetters_init : FnScope ["self", "index"] ["self", "index"] (defScope s_BadLetters_init) := ⟨rfl, rfl, rfl, by decide +kernel, rfl, by decide +kernel, by decide +kernel⟩
abbrev s_TooMany_init : Stmt := inClass (top 20) 0
theorem sc_TooMany_init : FnScope ["self", "what", "many", "most"] ["self", "what", "many", "most"] (defScope s_TooMany_init) := ⟨rfl, rfl, rfl, by decide +kernel, rfl, by decide +kernel, by decide +kernel⟩
theorem ok_badInit {f fC C : Addr} {fd fdC : FuncData} (F : Fun K "__init__" "BadLetters.__init__" s_BadLetters_init f fd) (T : OexC K C) (h1 : PySem.W.findIn K (.ref C) "index" = some none)
    (GC : FnOk P w K mg base CX0 1 fC fdC ["value"] spCopy) (CP : At K mg "copied" fC fdC ["value"]) : FnOk P w K mg base CX0 2 f fd ["self", "index"] (spErr C okBad fsBad) := by
  refine F.ok sc_BadLetters_init (fun vs H Q E h => ?_) (fun cdv A outer s H vs Q E hr h => ?_)
  · obtain ⟨a, ws, rfl, ⟨i, rfl⟩, _⟩ := h
    rfl
  · obtain ⟨a, ws, rfl, ⟨i, rfl⟩, ha, k⟩ := h
    refine ⟨_, pss_one (ps_ost (pv 0) (pe_call GC hr (by rfl) CP.m CP.k CP.b .nil pass0 (pa_cons (pv 1) pa_nil))), ?_⟩
    refine ⟨_, rfl, _, rfl, .inl ⟨i, rfl⟩, _, rfl, a, C, rfl, T, h1, .inl ⟨ha, fun dx hdx hne => ?_⟩⟩
    refine k _ dx hdx hne upd_same (by rw [upd_ne hne]; exact upd_same) fun b o hb e => ?_
    rw [upd_ne hb, upd_ne (ne_of_none e hdx)]
    exact e
theorem ok_manyInit {f fC C : Addr} {fd fdC : FuncData} (F : Fun K "__init__" "TooMany.__init__" s_TooMany_init f fd) (T : OexC K C) (h1 : PySem.W.findIn K (.ref C) "what" = some none) (h2 : PySem.W.findIn K (.ref C) "many" = some none) (h3 : PySem.W.findIn K (.ref C) "most" = some none)
    (GC : FnOk P w K mg base CX0 1 fC fdC ["value"] spCopy) (CP : At K mg "copied" fC fdC ["value"]) : FnOk P w K mg base CX0 2 f fd ["self", "what", "many", "most"] (spErr C okMany fsMany) := by
  refine F.ok sc_TooMany_init (fun vs H Q E h => ?_) (fun cdv A outer s H vs Q E hr h => ?_)
  · obtain ⟨a, ws, rfl, ⟨i, rfl⟩, _⟩ := h
    rfl
  · obtain ⟨a, ws, rfl, ⟨i, rfl⟩, ha, k⟩ := h
    refine ⟨_, pss_cons (ps_ost (pv 0) (pe_call GC hr (by rfl) CP.m CP.k CP.b .nil pass0 (pa_cons (pv 1) pa_nil))) (pss_cons (ps_ost (pv 0) (pe_call GC hr (by rfl) CP.m CP.k CP.b .nil pass0 (pa_cons (pv 2) pa_nil))) (pss_one (ps_ost (pv 0) (pe_call GC hr (by rfl) CP.m CP.k CP.b .nil pass0 (pa_cons (pv 3) pa_nil))))), ?_⟩
    refine ⟨_, rfl, _, rfl, .inr ⟨_, rfl⟩, _, rfl, a, C, rfl, T, h1, .inl ⟨ha, fun dx hdx hne => ?_⟩⟩
    have e1 : upd (upd H dx (exd dx [("what", .str "letters")])) a (exo a C (some dx)) a = some (exo a C (some dx)) := upd_same
    have e2 : upd (upd H dx (exd dx [("what", .str "letters")])) a (exo a C (some dx)) dx = some (exd dx [("what", .str "letters")]) := by rw [upd_ne hne]; exact upd_same
    have k1 : ∀ b o, b ≠ a → H b = some o → upd (upd H dx (exd dx [("what", .str "letters")])) a (exo a C (some dx)) b = some o := fun b o hb e => by
      rw [upd_ne hb, upd_ne (ne_of_none e hdx)]
      exact e
    generalize upd (upd H dx (exd dx [("what", .str "letters")])) a (exo a C (some dx)) = H1 at e1 e2 k1 ⊢
    refine ⟨_, rfl, _, rfl, .inl ⟨_, rfl⟩, _, rfl, a, C, rfl, T, h2, .inr ⟨dx, _, e1, e2, by show 1 ≤ 900; decide, ?_⟩⟩
    refine ⟨_, rfl, _, rfl, .inl ⟨_, rfl⟩, _, rfl, a, C, rfl, T, h3, .inr ⟨dx, _, (by rw [upd_ne hne.symm]; exact e1), upd_same, by show 2 ≤ 900; decide, ?_⟩⟩
    refine k _ dx hdx hne (by rw [upd_ne hne.symm, upd_ne hne.symm]; exact e1) upd_same fun b o hb e => ?_
    have nb := ne_of_none e hdx
    rw [upd_ne nb, upd_ne nb]
    exact k1 b o hb e
end
end Ask

/-! tuple(list), frozen: its object has no dict, so that its methods can be called -/
namespace Ask
open PySem L2 PySem.Spec PyProof.Rows
section
variable {X : Cx}
theorem call_tuple_frz : CallR X (.type "tuple") (fun xs H Q => ∃ p ys, xs = [.ref p] ∧ SqL X.K H p ys ∧ ∀ (l : Addr) (o : Obj), H l = none → o.dict = none → Q (.ref l) (upd H l (.frz o (.tup ys)))) := by
  intro pins s σ H xs us Q I r h
  obtain ⟨p, ys, rfl, hq, q⟩ := h
  obtain ⟨u, rfl, rx⟩ := vals1 r
  cases rx
  obtain ⟨its, r', pl, hz⟩ := I.list hq
  have hlen := r'.length
  refine call_tuple_list pl.isList (fun h' kp => ?_) (by simp only [List.size_toArray] <;> omega)
  have I1 : Inv X pins σ H { s with heap := h' } := I.kept (t' := s.toks) kp
  have I2 : Inv X pins σ (upd H h'.objs.size (.frz { cls := .type "tuple", data := .seq its.toArray } (.tup ys))) { s with heap := h'.push { cls := .type "tuple", data := .seq its.toArray } } :=
    I1.laid (t' := s.toks) (fun b o e => Heap.get?_push_of_some _ e) (Nat.le_refl _) (show ObjOk X.prog X.w _ _ _ (.frz _ (.tup ys)) from ⟨Heap.get?_push_size _ rfl, hz, its, r', IsTup.new _ _⟩)
  exact ⟨.ref h'.objs.size, _, I2, rfl, q _ _ (I1.hok.fresh (Nat.le_refl _)) rfl⟩
def tBMT (r : V → List V → Hp → VK → Prop) (to : TE) (t : TA) : TE := fun σ H Q => to σ H fun x H1 => (∃ (p : Addr) (o : Obj) (xs : List V), x = .ref p ∧ H1 p = some (.frz o (.tup xs)) ∧ o.dict = none) ∧ t σ H1 fun xs H2 => r x xs H2 Q
variable {o e : Expr} {es : List Expr} {to : TE} {t : TA} {name : Str} {apos cpos : Pos} {id : String} {r : V → List V → Hp → VK → Prop}
theorem pe_bmT (slot : Slot "tuple" name id) (hty : typeOf (.builtin id) = pure (.type "method_descriptor")) (hm : MtR X id r) (ho : PE X o to) (ha : PA X (e :: es) t)
    (hbase : attributeBase o name X.env (eval o X.env) = eval o X.env := by rfl)
    (hfew : ((backTo cpos (starEach (e :: es) X.env)).all (fun x => !x.1) && (backToKw cpos (keywordEach [] X.env)).all (fun x => x.1.isSome)
      && decide ((e :: es).length + ([] : List Keyword).length + (if ([] : List Keyword).isEmpty then 0 else 1) < 30)) = true := by rfl)
    (hline : (apos.endLine == cpos.line) = true := by rfl) (hs : starEach (e :: es) X.env = (false, eval e X.env) :: starEach es X.env := by rfl) (hplain : (backTo cpos (starEach es X.env)).any (·.1) = false := by rfl) :
    PE X (.Call (.Attribute o name apos) (e :: es) [] cpos) (tBMT r to t) := by
  refine ⟨fun pins s σ H Q I h => ?_⟩
  refine wpAny_Call_method_late hbase hfew hline rfl (thn (ho.run pins s σ H _ I h) fun v s1 ⟨x, H1, I1, r1, ⟨p, ob, xs, ex, hp, hd⟩, q1⟩ => ?_)
  subst ex
  obtain rfl : v = Value.ref p := r1
  obtain ⟨its, rv, pl, _⟩ := I1.tuple (.inl (.inr ⟨ob, hp⟩))
  have ho := (show ObjOk X.prog X.w H1 s1.heap p (.frz ob (.tup xs)) from I1.hok p _ hp).1
  refine ⟨"tuple", id, PySem.F.plainAttrs_tuple, slot, hty, ?_, fun a ea => ?_, ?_⟩
  · obtain ⟨o1, h1, h2, _⟩ := pl
    exact ⟨o1, h1, h2⟩
  · cases ea
    exact ⟨ob, ho, hd⟩
  · have hA := ha.run cpos pins s1 σ H1 _ I1 q1
    rw [hs] at hA ⊢
    refine Calls.callWith_builtin (by show (false || (backTo cpos (starEach es X.env)).any (·.1)) = false; rw [hplain] <;> rfl) (Calls.evalArgs_plain ?_)
    exact thn hA fun us s2 ⟨vs, H2, I2, r2, q2⟩ => hm pins s2 σ H2 (.ref p) vs _ us Q I2 rfl r2 q2
end
end Ask

namespace Ask
open PySem L2
/-- an own error class of the text, its __init__ at f -/
structure ErrAt (K : PySem.W.Frag) (mg : Str → Option Value) (x : Str) (C f : Addr) (fd : FuncData) (ps : List Str) : Prop where
  m : mg x = some (.ref C)
  o : OexC K C
  i : PySem.W.findIn K (.ref C) "__init__" = some (some (.ref f))
  t : PySem.W.typeIn K (.ref f) = some (.type "function")
  b : Binds K fd ps []
  xf : XfC K C
theorem err_made {C : Addr} {ok : List V → Prop} {fs : List V → List (Str × V)} {H0 H1 : Hp} {ws : List V} {Qx : XK} (s : Same H0 H1) (hok : ok ws) (hl : ws.length ≤ 1000)
    (k : ∀ (H' : Hp) (d : Addr), Same H0 H' → H' d = some (.xd (fs ws)) → Qx (.ref C) (some d) H') :
    ws.length ≤ 1000 ∧ ∀ a, H1 a = none → spErr C ok fs (.ref a :: (ws ++ [])) (upd H1 a (exo a C none))
      (fun v H2 => v = .non ∧ ∃ (d : Addr) (fs' : List (Str × V)), H2 a = some (exo a C (some d)) ∧ H2 d = some (exd d fs') ∧ H1 d = none ∧ Qx (.ref C) (some d) (upd (del H2 a) d (.xd fs'))) (fun _ _ _ => False) := by
  refine ⟨hl, fun a ha => ⟨a, ws, by rw [List.append_nil], hok, upd_same, fun H' dx hdx hne e1 e2 kk => ?_⟩⟩
  have h1 : H1 dx = none := by
    rw [upd_ne hne] at hdx
    exact hdx
  refine ⟨rfl, dx, _, e1, e2, h1, k _ dx (fun b o e => ?_) upd_same⟩
  have e' := s b o e
  have nb : b ≠ a := ne_of_none e' ha
  rw [upd_ne (ne_of_none e' h1), del_ne nb]
  exact kk b o nb (by rw [upd_ne nb]; exact e')
theorem for_enum {K : PySem.W.Frag} {ta : TA} {g : TG} {tb u : TS} {D : Ends} {σ : L2.St} {H : Hp} {J : It} {n : Nat} {G : Hp → Prop} {Y : Nat → Hp → V → Hp → Prop} (f : ∀ R : It → Hp → Prop, R J H → iEnumA K ta σ H R)
    (wk : Walk J n G Y) (Pv : Nat → L2.St → Hp → Prop) (h0 : Pv 0 σ H) (hG : ∀ i σ H, i ≤ n → Pv i σ H → G H)
    (hs : ∀ i x σ H H', i < n → Pv i σ H → Y i H x H' → g x σ H' fun σ2 H2 => tb { D with nx := Pv (i + 1), ct := Pv (i + 1), bk := u D } σ2 H2) (hd : ∀ σ H, Pv n σ H → u D σ H) :
    tSeq (tFor (iEnumA K ta) g tb) u D σ H := by
  delta tSeq tFor
  exact f _ (for_it (D := { D with nx := u D }) wk Pv h0 hG hs hd)
theorem seqT_same {K : PySem.W.Frag} {H H' : Hp} {a : Addr} {xs : List V} (e : Same H H') (h : SqT K H a xs) : SqT K H' a xs := by
  rcases h with (h | ⟨o, h⟩) | h
  · exact .inl (.inl (e _ _ h))
  · exact .inl (.inr ⟨o, e _ _ h⟩)
  · exact .inr h
section
variable {P : Program} {w : World} {K : PySem.W.Frag} {mg : Str → Option Value} {base : Heap}
/-! ### Letters(words) -/
def spLet (K : PySem.W.Frag) (CL CB CM : Addr) : Sp := fun vs H Q E => ∃ (p dx a : Addr) (xs : List V) (ds : List PyData) (N : Addr → Prop), vs = [.ref p, .ref a] ∧ H p = some (.ins CL dx []) ∧ (SqL K H a xs ∨ SqT K H a xs) ∧ ItL N H xs ds ∧ xs.length ≤ 100 ∧
  (∀ (H' : Hp) (d : Addr) (i : Int), res ds = .tuple [.str "letters", .int i] → Same H H' → H' d = some (.xd (fsBad [.int i])) → E (.ref CB) (some d) H') ∧
  (∀ (H' : Hp) (d : Addr), 12 < ds.length → Same H H' → H' d = some (.xd (fsMany [.str "letters", .int (ds.length : Nat), .int 12])) → E (.ref CM) (some d) H') ∧
  (∀ (H' : Hp) (t : Addr) (o : Obj), res ds = .none → o.dict = none → H' p = some (.ins CL dx [("words", .ref t)]) → H' t = some (.frz o (.tup xs)) → (∀ b o, b ≠ p → H b = some o → H' b = some o) → Q .non H')
abbrev s_Letters_init : Stmt := inClass (top 25) 0
theorem sc_Letters_init : FnScope ["self", "words", "many", "kept", "index", "word"] ["self", "words"] (defScope s_Letters_init) := ⟨rfl, rfl, rfl, by decide +kernel, rfl, by decide +kernel, by decide +kernel⟩
theorem ok_letInit {f fI fB fM CL CB CM : Addr} {fd fdI fdB fdM : FuncData} (F : Fun K "__init__" "Letters.__init__" s_Letters_init f fd) (T : Blt mg) (C : Gv K mg) (hC : Cls K CL) (hA : NoAttr K CL "words")
    (GI : FnOk P w K mg base CX0 2 fI fdI ["value"] (spIsL K)) (I : At K mg "is_letter" fI fdI ["value"])
    (FB : FnOk P w K mg base CX0 2 fB fdB ["self", "index"] (spErr CB okBad fsBad)) (EB : ErrAt K mg "BadLetters" CB fB fdB ["self", "index"])
    (FM : FnOk P w K mg base CX0 2 fM fdM ["self", "what", "many", "most"] (spErr CM okMany fsMany)) (EM : ErrAt K mg "TooMany" CM fM fdM ["self", "what", "many", "most"]) :
    FnOk P w K mg base (L2.CX P w) 4 f fd ["self", "words"] (spLet K CL CB CM) := by
  refine F.okX sc_Letters_init (fun vs H Q E h => ?_) (fun cdv A outer s H vs Q E hr h => ?_)
  · obtain ⟨p, dx, a, xs, ds, N, rfl, _⟩ := h
    rfl
  · obtain ⟨p, dx, a, xs, ds, N, rfl, hp, hS, hI, hn, kB, kM, kQ⟩ := h
    have hu65 : A.units + 3 + 65 < cLine := by have := hr.un; have e : (A.deeper (PyProof.Rows.envOfC (Str.ofString "Letters.__init__") (defScope s_Letters_init) s.heap.objs.size f cdv)).units = A.units + 3 := rfl; omega
    have hr2 := hr.mono (j := 2) (by decide)
    refine ⟨_, (pss_cons (ps_set (i := 2) sc_Letters_init.nd rfl (Or.inl rfl) (pe_callB call_len_seq (by rfl) T.n_len (by decide +kernel) (pa_cons (pv 1) pa_nil)))
      (pss_cons (ps_if (pt_cmpR op_gt (pv 2) (pe_gv rfl C.mostL) (nomark _)) (pss_one (ps_raise rfl (takes_of rfl rfl rfl rfl) (pmk_oex EM.o EM.i EM.t FM hr EM.b .nil pass0 (by rfl) EM.m (pa_cons pe_str (pa_cons (pv 2) (pa_cons (pe_gv rfl C.mostL) pa_nil)))))) pss_nil)
      (pss_cons (ps_if (pt_cmpR op_eq (pv 2) pe_int (nomark _)) (pss_one (ps_raise rfl (takes_of rfl rfl rfl rfl) (pmk_oex EB.o EB.i EB.t FB hr EB.b .nil pass0 (by rfl) EB.m (pa_cons pe_int pa_nil)))) pss_nil)
      (pss_cons (ps_set (i := 3) sc_Letters_init.nd rfl (Or.inl rfl) (pe_lst pa_nil))
      (pss_cons (ps_for (passes_of rfl) rfl (pi_enumA (by rfl) T.n_enumerate (pa_cons (pv 1) pa_nil)) (pg_tup rfl (pgs_cons (pg_name (i := 4) sc_Letters_init.nd rfl (Or.inl rfl)) (pgs_cons (pg_name (i := 5) sc_Letters_init.nd rfl (Or.inl rfl)) pgs_nil))) (pss_cons (ps_if (PW.pt (pw_or (pt_not (pt_val (pe_call GI hr2 (by rfl) I.m I.k I.b .nil pass0 (pa_cons (pv 5) pa_nil)))) (pw_or1 (pt_cmpR (op_inD hu65) (pv 5) (pv 3) rfl)))) (pss_one (ps_raise rfl (takes_of rfl rfl rfl rfl) (pmk_oex EB.o EB.i EB.t FB hr EB.b .nil pass0 (by rfl) EB.m (pa_cons (pv 4) pa_nil)))) pss_nil)
      (pss_one (ps_expr (pe_bm PySem.F.plainAttrs_list PySem.F.slot_list_append PySem.F.type_list_append mt_append (pv 3) (pa_cons (pv 5) pa_nil))))))
      (pss_one (ps_fld (pv 0) (pe_callTy call_tuple_frz (by rfl) T.n_tuple (by decide +kernel) (pa_cons (pv 3) pa_nil)) rfl))))))), ?_⟩
    have hlen := hI.len
    have z1 : (1000 : Nat) ≤ sizeLine := by decide
    have fit := hI.fit
    refine ⟨_, rfl, a, xs, rfl, hS, _, rfl, _, _, rfl, rfl, _, rfl, ite2 (fun h1 => ?_) (fun h1 => ?_)⟩
    · have h1 : (12 : Int) < (xs.length : Nat) := of_decide_eq_true h1
      refine ⟨_, rfl, err_made (Same.refl H) ⟨_, rfl⟩ (by show 3 ≤ 1000; decide) (fun H' d s' e => kM H' d (by omega) s' ?_)⟩
      rw [← hlen]
      exact e
    have h1 : ¬ 12 < ds.length := fun q => h1 (decide_eq_true (by omega))
    refine ⟨_, rfl, rfl, _, rfl, ite2 (fun h2 => ?_) (fun h2 => ?_)⟩
    · have h2 : V.int ((xs.length : Nat) : Int) = V.int 0 := of_decide_eq_true h2
      injection h2 with h2
      exact err_made (Same.refl H) ⟨_, rfl⟩ (by show 1 ≤ 1000; decide) (fun H' d s' e => kB H' d 0 (res_none (by omega)) s' e)
    have h2 : 0 < ds.length := by
      have : ¬ ((xs.length : Nat) : Int) = 0 := fun q => h2 (decide_eq_true (congrArg V.int q))
      omega
    refine ⟨Nat.zero_le _, fun L hL => ?_⟩
    have s1 := Ask.Same.made1 (o := .lst []) (Same.refl H) hL
    have hL1 : upd H L (.lst []) L = some (.lst (xs.take 0)) := upd_same
    generalize upd H L (.lst []) = H1 at s1 hL1 ⊢
    obtain ⟨J, G, wk, hG, fits⟩ : ∃ (J : It) (G : Hp → Prop), Walk J xs.length G (YPair (fun i => some (.int (i : Nat))) (fun i => xs[i]?)) ∧ (∀ H', Same H H' → G H') ∧
        ∀ (R : It → Hp → Prop), R J H1 → iEnumA K (tCons (tVar 1) tNil) [some (.ref p), some (.ref a), some (.int (xs.length : Nat)), some (.ref L), none, none] H1 R := by
      rcases hS with hS | hS
      · exact ⟨Ite K a, _, walk_enum, fun H' s' => s'.seq hS, fun R r => ⟨_, rfl, a, xs, rfl, .inl ⟨s1.seq hS, r⟩⟩⟩
      · exact ⟨IteT K a, _, walk_enumT, fun H' s' => seqT_same s' hS, fun R r => ⟨_, rfl, a, xs, rfl, .inr ⟨seqT_same s1 hS, r⟩⟩⟩
    refine for_enum fits wk (fun i σ' H' => ∃ o4 o5 : Option V, σ' = [some (.ref p), some (.ref a), some (.int (xs.length : Nat)), some (.ref L), o4, o5] ∧ Same H H' ∧ H' L = some (.lst (xs.take i)) ∧ ∀ j < i, badAt ds j = false)
      ⟨none, none, rfl, s1, hL1, fun j hj => absurd hj (Nat.not_lt_zero _)⟩ (fun i σ' H' _ ⟨_, _, _, s', _⟩ => hG H' s') ?_ ?_
    · rintro i x σ' H2 H3 hi ⟨o4, o5, rfl, s2, hL2, hno⟩ ⟨t, x0, y0, rfl, ht, rfl, ex, ey⟩
      cases ex
      obtain ⟨v, d, hv, hd, hvd⟩ := hI.get i hi
      replace ey : xs[i]? = some y0 := ey
      obtain rfl : v = y0 := Option.some.inj (hv.symm.trans ey)
      clear ey
      have s3 := Ask.Same.made1 (o := .tup [.int (i : Nat), v]) s2 ht
      have hL3 : upd H2 t (.tup [.int (i : Nat), v]) L = some (.lst (xs.take i)) := by rw [upd_ne (ne_of_none hL2 ht)]; exact hL2
      have ht3 : upd H2 t (.tup [.int (i : Nat), v]) t = some (.tup [.int (i : Nat), v]) := upd_same
      generalize upd H2 t (.tup [.int (i : Nat), v]) = H4 at s3 hL3 ht3 ⊢
      have e0 : badAt ds i = (!isL d || (ds.take i).any fun z => PyData.eqv z d) := by
        unfold badAt
        rw [hd]
      have bad : ∀ H5, Same H H5 → badAt ds i = true → tMkO CB (spErr CB okBad fsBad) [] (tCons (tVar 4) tNil) [some (.ref p), some (.ref a), some (.int (xs.length : Nat)), some (.ref L), some (.int (i : Nat)), some v] H5 fun cls d H' => E cls d H' := fun H5 s5 q =>
        ⟨_, rfl, err_made s5 ⟨_, rfl⟩ (by show 1 ≤ 1000; decide) (fun H' d s' e => kB H' d i (res_at h1 (by omega) q hno) s' e)⟩
      refine ⟨t, _, rfl, SqT.of ht3, rfl, _, _, rfl, _, _, rfl, rfl, ?_⟩
      have hvd4 := hvd.same s3
      refine ⟨_, rfl, v, d, rfl, hvd4.dp, hvd4.itm, fun H5 s5 => ⟨_, rfl, ?_⟩⟩
      have s35 := s3.trans s5
      have hL5 := s5 _ _ hL3
      refine ite2 (fun q => ?_) (fun q => ?_)
      · exact iteT (bad H5 s35 (by rw [e0]; have q : (!isL d) = true := q; rw [q]; rfl))
      · have q : (!isL d) = false := (Bool.not_eq_true _).mp q
        have hT := (hI.mp fun v d h => h.same s35).take i
        refine ⟨_, rfl, _, rfl, d, ds.take i, (hvd.same s35).dp, .lst (SqL.of hL5) hT.dp, (itm_fit hvd.itm).shaped, hT.fit.shapedL, _, rfl, ?_⟩
        have e1 : badAt ds i = (ds.take i).any fun z => PyData.eqv z d := by rw [e0, q, Bool.false_or]
        refine ite2 (fun q => bad H5 s35 (by rw [e1]; exact q)) (fun q => ?_)
        have q : badAt ds i = false := by rw [e1]; exact (Bool.not_eq_true _).mp q
        refine ⟨_, rfl, .inl ⟨rfl, _, SqL.of hL5⟩, _, rfl, L, _, _, rfl, rfl, hL5, ?_, ?_⟩
        · rw [List.length_take]
          omega
        · refine ⟨_, _, rfl, Ask.Same.upd_new s35 hL, ?_, fun j hj => ?_⟩
          · rw [upd_same, List.take_add_one, hv]
            rfl
          · rcases Nat.lt_succ_iff_lt_or_eq.mp hj with hj | rfl
            · exact hno j hj
            · exact q
    · rintro σ' H2 ⟨o4, o5, rfl, s2, hL2, hno⟩
      rw [List.take_length] at hL2
      refine ⟨_, rfl, L, xs, rfl, SqL.of hL2, fun t ob ht hob => ?_⟩
      have npt : p ≠ t := ne_of_none (s2 _ _ hp) ht
      refine ⟨_, rfl, p, CL, dx, [], rfl, (by rw [upd_ne npt]; exact s2 _ _ hp), hC, hA, (by show 0 < 1000; decide), ?_⟩
      refine kQ _ t ob (res_good h1 h2 (by rw [← hlen]; exact hno)) hob upd_same (by rw [upd_ne npt.symm]; exact upd_same) fun b o hb e => ?_
      have e' := s2 _ _ e
      rw [upd_ne hb, upd_ne (ne_of_none e' ht)]
      exact e'
end
end Ask

/-! a loop over a list or a tuple, a pair that is a list or a tuple -/
namespace Ask
open PySem L2 PySem.Spec PyProof.Rows
theorem pg_or {X : Cx} {tg : Expr} {g1 g2 : TG} (h1 : PG X tg g1) (h2 : PG X tg g2) : PG X tg (fun v σ H Q => g1 v σ H Q ∨ g2 v σ H Q) :=
  ⟨fun pins s σ H v u Q I r h => h.elim (h1.run pins s σ H v u Q I r) (h2.run pins s σ H v u Q I r)⟩
theorem pi_or {X : Cx} {tg e : Expr} {w1 w2 : TI} (h1 : PI X tg e w1) (h2 : PI X tg e w2) : PI X tg e (fun σ H R => w1 σ H R ∨ w2 σ H R) :=
  ⟨fun pins s σ H R I h => h.elim (h1.run pins s σ H R I) (h2.run pins s σ H R I)⟩
end Ask

namespace Ask
open PySem L2
/-! ### runs, joined: the mirror -/
abbrev Run := Str × Int
def jstep (st : List Run × Option Run) (r : Run) : List Run × Option Run := match st.2 with
  | some l => if l.1 = r.1 then (st.1, some (l.1, l.2 + r.2)) else (st.1 ++ [l], some r)
  | none => (st.1, some r)
def jrun (rs : List Run) : List Run × Option Run := rs.foldl jstep ([], none)
def joinR (rs : List Run) : List Run := (jrun rs).1 ++ (jrun rs).2.toList
theorem jstep_eq {st1 : List Run} {l r : Run} (e : l.1 = r.1) : jstep (st1, some l) r = (st1, some (l.1, l.2 + r.2)) := if_pos e
theorem jstep_ne {st1 : List Run} {l r : Run} (e : ¬ l.1 = r.1) : jstep (st1, some l) r = (st1 ++ [l], some r) := if_neg e
theorem jrun_more {rs : List Run} {i : Nat} {r : Run} (h : rs[i]? = some r) : jrun (rs.take (i + 1)) = jstep (jrun (rs.take i)) r := by
  unfold jrun
  rw [List.take_add_one, h, List.foldl_append]
  rfl
theorem jrun_len (rs : List Run) : (jrun rs).1.length ≤ rs.length := by
  have : ∀ (rs : List Run) (st : List Run × Option Run), (rs.foldl jstep st).1.length ≤ st.1.length + rs.length := by
    intro rs
    induction rs with
    | nil => intro st; simp
    | cons r rs ih =>
      intro st
      rw [List.foldl_cons]
      refine Nat.le_trans (ih _) ?_
      have : (jstep st r).1.length ≤ st.1.length + 1 := by
        unfold jstep
        split
        · split
          · exact Nat.le_succ _
          · rw [List.length_append]; exact Nat.le_refl _
        · exact Nat.le_succ _
      rw [List.length_cons]
      omega
  have := this rs ([], none)
  simpa [jrun] using this
/-- a run as a value: a list or a tuple of a text and a number -/
def RunV (K : PySem.W.Frag) (H : Hp) (v : V) (r : Run) : Prop := ∃ b, v = .ref b ∧ (SqL K H b [.str r.1, .int r.2] ∨ SqT K H b [.str r.1, .int r.2])
def RunsV (K : PySem.W.Frag) (H : Hp) (xs : List V) (rs : List Run) : Prop := xs.length = rs.length ∧ ∀ (i : Nat) (v : V) (r : Run), xs[i]? = some v → rs[i]? = some r → RunV K H v r
/-- made pairs -/
def PairsV (H : Hp) (xs : List V) (rs : List Run) : Prop := xs.length = rs.length ∧ ∀ (i : Nat) (v : V) (r : Run), xs[i]? = some v → rs[i]? = some r → ∃ b, v = .ref b ∧ H b = some (.tup [.str r.1, .int r.2])
theorem RunV.same {K : PySem.W.Frag} {H H' : Hp} {v : V} {r : Run} (h : RunV K H v r) (s : Same H H') : RunV K H' v r := by
  obtain ⟨b, e, h | h⟩ := h
  · exact ⟨b, e, .inl (s.seq h)⟩
  · exact ⟨b, e, .inr (seqT_same s h)⟩
theorem PairsV.same {H H' : Hp} {xs : List V} {rs : List Run} (h : PairsV H xs rs) (s : Same H H') : PairsV H' xs rs :=
  ⟨h.1, fun i v r h1 h2 => let ⟨b, e, h3⟩ := h.2 i v r h1 h2; ⟨b, e, s _ _ h3⟩⟩
theorem PairsV.nil {H : Hp} : PairsV H [] [] := ⟨rfl, fun i v r h _ => by simp at h⟩
theorem PairsV.app {H : Hp} {xs : List V} {rs : List Run} {b : Addr} {r : Run} (h : PairsV H xs rs) (hb : H b = some (.tup [.str r.1, .int r.2])) : PairsV H (xs ++ [.ref b]) (rs ++ [r]) := by
  refine ⟨by rw [List.length_append, List.length_append, h.1]; rfl, fun i v r' h1 h2 => ?_⟩
  by_cases hi : i < xs.length
  · rw [List.getElem?_append_left hi] at h1
    rw [List.getElem?_append_left (by rw [← h.1]; exact hi)] at h2
    exact h.2 i v r' h1 h2
  · rw [List.getElem?_append_right (by omega)] at h1
    rw [List.getElem?_append_right (by rw [← h.1]; omega), ← h.1] at h2
    have e : i - xs.length = 0 := by
      have := (List.getElem?_eq_some_iff.mp h1).1
      have : i - xs.length < 1 := this
      omega
    rw [e] at h1 h2
    cases h1
    cases h2
    exact ⟨b, rfl, hb⟩
/-- PairsV stands where only what is no pair of it is written -/
theorem PairsV.mut {H : Hp} {xs ys : List V} {rs : List Run} {L : Addr} {o : HO} (h : PairsV H xs rs) (hL : H L = some (.lst ys)) : PairsV (upd H L o) xs rs :=
  ⟨h.1, fun i v r h1 h2 => let ⟨b, e, h3⟩ := h.2 i v r h1 h2; ⟨b, e, by rw [upd_ne (ne_of h3 hL (by intro z; cases z))]; exact h3⟩⟩
theorem for_any {wi : TI} {g : TG} {tb u : TS} {D : Ends} {σ : L2.St} {H : Hp} {J : It} {n : Nat} {G : Hp → Prop} {Y : Nat → Hp → V → Hp → Prop} (f : ∀ R : It → Hp → Prop, R J H → wi σ H R)
    (wk : Walk J n G Y) (Pv : Nat → L2.St → Hp → Prop) (h0 : Pv 0 σ H) (hG : ∀ i σ H, i ≤ n → Pv i σ H → G H)
    (hs : ∀ i x σ H H', i < n → Pv i σ H → Y i H x H' → g x σ H' fun σ2 H2 => tb { D with nx := Pv (i + 1), ct := Pv (i + 1), bk := u D } σ2 H2) (hd : ∀ σ H, Pv n σ H → u D σ H) :
    tSeq (tFor wi g tb) u D σ H := by
  delta tSeq tFor
  exact f _ (for_it (D := { D with nx := u D }) wk Pv h0 hG hs hd)
def lastV : Option Run → V
  | some r => .str r.1
  | none => .non
def totV : Option Run → V
  | some r => .int r.2
  | none => .int 0
section
variable {P : Program} {w : World} {K : PySem.W.Frag} {mg : Str → Option Value} {base : Heap}
def spJoined (K : PySem.W.Frag) : Sp := fun vs H Q _ => ∃ (a : Addr) (xs : List V) (rs : List Run), vs = [.ref a] ∧ (SqL K H a xs ∨ SqT K H a xs) ∧ RunsV K H xs rs ∧ rs.length ≤ 10000 ∧
  ∀ (H' : Hp) (t : Addr) (ks : List V), Same H H' → H' t = some (.tup ks) → PairsV H' ks (joinR rs) → Q (.ref t) H'
abbrev s_joined : Stmt := top 27
theorem sc_joined : FnScope ["runs", "kept", "last", "total", "letter", "count"] ["runs"] (defScope s_joined) := ⟨rfl, rfl, rfl, by decide +kernel, rfl, by decide +kernel, by decide +kernel⟩
theorem ok_joined {f : Addr} {fd : FuncData} (F : Fun K "joined" "joined" s_joined f fd) (T : Blt mg) : FnOk P w K mg base CX0 1 f fd ["runs"] (spJoined K) := by
  refine F.ok sc_joined (fun vs H Q E h => ?_) (fun cdv A outer s H vs Q E hr h => ?_)
  · obtain ⟨a, xs, rs, rfl, _⟩ := h
    rfl
  · obtain ⟨a, xs, rs, rfl, hS, hR, hn, k⟩ := h
    refine ⟨_, (pss_cons (ps_set (i := 1) sc_joined.nd rfl (Or.inl rfl) (pe_lst pa_nil))
      (pss_cons (ps_asg (pe_tup (pa_cons pe_non (pa_cons pe_int pa_nil))) (pg_tup rfl (pgs_cons (pg_name (i := 2) sc_joined.nd rfl (Or.inl rfl)) (pgs_cons (pg_name (i := 3) sc_joined.nd rfl (Or.inl rfl)) pgs_nil))))
      (pss_cons (ps_for PassesOwn.never rfl (pi_or (pi_list (pv 0)) (pi_tup (pv 0))) (pg_or (pg_tup rfl (pgs_cons (pg_name (i := 4) sc_joined.nd rfl (Or.inl rfl)) (pgs_cons (pg_name (i := 5) sc_joined.nd rfl (Or.inl rfl)) pgs_nil))) (pg_lst rfl (pgs_cons (pg_name (i := 4) sc_joined.nd rfl (Or.inl rfl)) (pgs_cons (pg_name (i := 5) sc_joined.nd rfl (Or.inl rfl)) pgs_nil)))) (pss_one (ps_if (pt_cmpR op_eq (pv 4) (pv 2) (nomark _)) (pss_one (ps_set (i := 3) sc_joined.nd rfl (Or.inl rfl) (pe_op op_add (pv 3) (pv 5)))) (pss_cons (ps_if (pt_cmpR op_notN (pv 2) pe_non (nomark _)) (pss_one (ps_expr (pe_bm PySem.F.plainAttrs_list PySem.F.slot_list_append PySem.F.type_list_append mt_append (pv 1) (pa_cons (pe_tup (pa_cons (pv 2) (pa_cons (pv 3) pa_nil))) pa_nil)))) pss_nil)
      (pss_one (ps_par (i := 2) (j := 3) rfl sc_joined.nd rfl rfl (by decide) rfl rfl (pa_cons (pv 4) (pa_cons (pv 5) pa_nil)) (by rfl)))))))
      (pss_cons (ps_if (pt_cmpR op_notN (pv 2) pe_non (nomark _)) (pss_one (ps_expr (pe_bm PySem.F.plainAttrs_list PySem.F.slot_list_append PySem.F.type_list_append mt_append (pv 1) (pa_cons (pe_tup (pa_cons (pv 2) (pa_cons (pv 3) pa_nil))) pa_nil)))) pss_nil)
      (pss_one (ps_ret (pe_callTy call_tuple_of (by rfl) T.n_tuple (by decide +kernel) (pa_cons (pv 1) pa_nil)))))))), ?_⟩
    have z1 : (100000 : Nat) ≤ sizeLine := by decide
    -- kept, last, total
    refine ⟨Nat.zero_le _, fun L hL => ?_⟩
    have s1 := Ask.Same.made1 (o := .lst []) (Same.refl H) hL
    have hL1 : upd H L (.lst []) L = some (.lst []) := upd_same
    generalize upd H L (.lst []) = H1 at s1 hL1 ⊢
    refine ⟨by show 2 ≤ sizeLine; decide, fun t ht => ⟨t, _, rfl, SqT.of upd_same, rfl, _, _, rfl, _, _, rfl, rfl, ?_⟩⟩
    have s2 := Ask.Same.made1 (o := .tup [.non, .int 0]) s1 ht
    have hL2 : upd H1 t (.tup [.non, .int 0]) L = some (.lst []) := by rw [upd_ne (ne_of_none hL1 ht)]; exact hL1
    generalize upd H1 t (.tup [.non, .int 0]) = H2 at s2 hL2 ⊢
    clear hL1 s1 ht
    -- the loop
    obtain ⟨J, G, wk, hG, fits⟩ : ∃ (J : It) (G : Hp → Prop), Walk J xs.length G (YAt xs) ∧ (∀ H', Same H H' → G H') ∧
        ∀ (R : It → Hp → Prop), R J H2 → (iList K (tVar 0) [some (.ref a), some (.ref L), some .non, some (.int 0), none, none] H2 R ∨ iTup K (tVar 0) [some (.ref a), some (.ref L), some .non, some (.int 0), none, none] H2 R) := by
      rcases hS with hS | hS
      · exact ⟨Itl K a, _, walk_list, fun H' s' => s'.seq hS, fun R r => .inl ⟨_, rfl, a, rfl, ⟨_, s2.seq hS⟩, r⟩⟩
      · exact ⟨Itt K a, _, walk_tup, fun H' s' => seqT_same s' hS, fun R r => .inr ⟨_, rfl, a, rfl, ⟨_, seqT_same s2 hS⟩, r⟩⟩
    try dsimp only
    refine for_any fits wk (fun i σ' H' => ∃ o4 o5 : Option V, σ' = [some (.ref a), some (.ref L), some (lastV (jrun (rs.take i)).2), some (totV (jrun (rs.take i)).2), o4, o5] ∧ Same H H' ∧ ∃ ks, H' L = some (.lst ks) ∧ PairsV H' ks (jrun (rs.take i)).1)
      ⟨none, none, rfl, s2, [], hL2, PairsV.nil⟩ (fun i σ' H' _ ⟨_, _, _, s', _⟩ => hG H' s') ?_ ?_
    · rintro i v σ' H3 H4 hi ⟨o4, o5, rfl, s3, ks, hL3, hk⟩ ⟨rfl, hv⟩
      obtain ⟨r, hri⟩ : ∃ r, rs[i]? = some r := ⟨_, List.getElem?_eq_getElem (by rw [← hR.1]; exact hi)⟩
      have step := jrun_more hri
      have hkl : ks.length ≤ 10000 := by
        have e1 := hk.1
        have e2 := jrun_len (rs.take i)
        rw [List.length_take] at e2
        omega
      obtain ⟨b, rfl, hb⟩ := (hR.2 i v _ hv hri).same s3
      generalize jrun (rs.take i) = st at step hk ⊢
      obtain ⟨st1, st2⟩ := st
      rcases hb with hb | hb
      all_goals
        first
          | refine .inr ⟨b, _, rfl, hb, rfl, _, _, rfl, _, _, rfl, rfl, ?_⟩
          | refine .inl ⟨b, _, rfl, hb, rfl, _, _, rfl, _, _, rfl, rfl, ?_⟩
        rcases st2 with _ | l
        · refine ⟨_, rfl, _, rfl, rfl, _, rfl, ?_⟩
          rw [decide_eq_false (show ¬ V.str r.1 = lastV none from fun z => by cases z)]
          refine iteF ?_
          refine ⟨_, rfl, rfl, _, rfl, ?_⟩
          rw [decide_eq_true (show lastV none = V.non from rfl)]
          refine iteF ?_
          refine ⟨_, rfl, _, rfl, _, _, rfl, some (.str r.1), some (.int r.2), ?_, s3, ks, hL3, ?_⟩
          · rw [step]
            rfl
          · rw [step]
            exact hk
        · refine ⟨_, rfl, _, rfl, rfl, _, rfl, ?_⟩
          by_cases e : l.1 = r.1
          · rw [decide_eq_true (show V.str r.1 = lastV (some l) from congrArg V.str e.symm)]
            refine iteT ?_
            refine ⟨_, rfl, _, rfl, _, _, rfl, rfl, some (.str r.1), some (.int r.2), ?_, s3, ks, hL3, ?_⟩
            · rw [step, jstep_eq e]
              rfl
            · rw [step, jstep_eq e]
              exact hk
          · rw [decide_eq_false (show ¬ V.str r.1 = lastV (some l) from fun z => e (V.str.inj z).symm)]
            refine iteF ?_
            refine ⟨_, rfl, rfl, _, rfl, ?_⟩
            rw [decide_eq_false (show ¬ lastV (some l) = V.non from fun z => by cases z)]
            refine iteT ?_
            refine ⟨_, rfl, .inl ⟨rfl, _, SqL.of hL3⟩, _, rfl, _, rfl, by show 2 ≤ sizeLine; decide, fun b2 hb2 => ?_⟩
            have hL4 : upd H4 b2 (.tup [.str l.1, .int l.2]) L = some (.lst ks) := by rw [upd_ne (ne_of_none hL3 hb2)]; exact hL3
            have s4 := Ask.Same.made1 (o := .tup [.str l.1, .int l.2]) s3 hb2
            have k4 := hk.same (Ask.Same.made1 (o := .tup [.str l.1, .int l.2]) (Same.refl H4) hb2)
            have hb4 : upd H4 b2 (.tup [.str l.1, .int l.2]) b2 = some (.tup [.str l.1, .int l.2]) := upd_same
            refine ⟨L, _, _, rfl, rfl, hL4, by omega, ?_⟩
            refine ⟨_, rfl, _, rfl, _, _, rfl, some (.str r.1), some (.int r.2), ?_, Ask.Same.upd_new s4 hL, _, upd_same, ?_⟩
            · rw [step, jstep_ne e]
              rfl
            · rw [step, jstep_ne e]
              exact (k4.app (b := b2) (r := l) hb4).mut hL4
    · rintro σ' H3 ⟨o4, o5, rfl, s3, ks, hL3, hk⟩
      rw [hR.1, List.take_length] at hk ⊢
      have hkl : ks.length ≤ 10000 := by
        have e1 := hk.1
        have e2 := jrun_len rs
        omega
      have ej : joinR rs = (jrun rs).1 ++ (jrun rs).2.toList := rfl
      generalize jrun rs = st at hk ej ⊢
      obtain ⟨st1, st2⟩ := st
      have fin : ∀ (H4 : Hp) (kt : List V), Same H H4 → H4 L = some (.lst kt) → PairsV H4 kt (joinR rs) → tRet (tCB (fun xs H Q => ∃ p ys, xs = [.ref p] ∧ ((SqL K H p ys ∧ ∀ l, H l = none → Q (.ref l) (upd H l (.tup ys))) ∨ (SqT K H p ys ∧ Q (.ref p) H))) (tCons (tVar 1) tNil)) { nx := fun _ H' => Q .non H', rt := Q } [some (.ref a), some (.ref L), some (lastV st2), some (totV st2), o4, o5] H4 :=
        fun H4 kt s4 h4 k4 => ⟨_, rfl, L, kt, rfl, .inl ⟨SqL.of h4, fun t2 ht2 => k _ t2 kt (Ask.Same.made1 s4 ht2) upd_same (k4.same (Ask.Same.made1 (Same.refl H4) ht2))⟩⟩
      rcases st2 with _ | l
      · refine ⟨_, rfl, rfl, _, rfl, ?_⟩
        rw [decide_eq_true (show lastV none = V.non from rfl)]
        refine iteF (fin H3 ks s3 hL3 ?_)
        rw [ej]
        simpa using hk
      · refine ⟨_, rfl, rfl, _, rfl, ?_⟩
        rw [decide_eq_false (show ¬ lastV (some l) = V.non from fun z => by cases z)]
        refine iteT ?_
        refine ⟨_, rfl, .inl ⟨rfl, _, SqL.of hL3⟩, _, rfl, _, rfl, by show 2 ≤ sizeLine; decide, fun b2 hb2 => ?_⟩
        have hL4 : upd H3 b2 (.tup [.str l.1, .int l.2]) L = some (.lst ks) := by rw [upd_ne (ne_of_none hL3 hb2)]; exact hL3
        have s4 := Ask.Same.made1 (o := .tup [.str l.1, .int l.2]) s3 hb2
        have k4 := hk.same (Ask.Same.made1 (o := .tup [.str l.1, .int l.2]) (Same.refl H3) hb2)
        have hb4 : upd H3 b2 (.tup [.str l.1, .int l.2]) b2 = some (.tup [.str l.1, .int l.2]) := upd_same
        refine ⟨L, _, _, rfl, rfl, hL4, by omega, ?_⟩
        refine fin _ _ (Ask.Same.upd_new s4 hL) upd_same ?_
        rw [ej]
        exact (k4.app (b := b2) (r := l) hb4).mut hL4
end
end Ask

namespace Ask
open PySem L2
theorem RunsV.same {K : PySem.W.Frag} {H H' : Hp} {xs : List V} {rs : List Run} (h : RunsV K H xs rs) (s : Same H H') : RunsV K H' xs rs := ⟨h.1, fun i v r h1 h2 => (h.2 i v r h1 h2).same s⟩
theorem PairsV.runs {K : PySem.W.Frag} {H : Hp} {xs : List V} {rs : List Run} (h : PairsV H xs rs) : RunsV K H xs rs := ⟨h.1, fun i v r h1 h2 => let ⟨b, e, h3⟩ := h.2 i v r h1 h2; ⟨b, e, .inr (SqT.of h3)⟩⟩
/-- how many letters runs tell -/
def sizeR (rs : List Run) : Int := (rs.map (·.2)).sum
theorem ret_cb {r : List V → Hp → VK → Prop} {t : TE} {D : Ends} {σ : L2.St} {H : Hp} (h : t σ H fun x H1 => r [x] H1 D.rt) : tRet (tCB r (tCons t tNil)) D σ H := h
theorem lc_any {wi : TI} {g : TG} {tt : TT} {te : TE} {vs : List Nat} {σ : L2.St} {H : Hp} {Q : VK} {J : It} {n : Nat} {G : Hp → Prop} {Y : Nat → Hp → V → Hp → Prop} (f : ∀ R : It → Hp → Prop, R J H → wi σ H R) (wk : Walk J n G Y)
    (h : ∀ D, H D = none → ∃ Pv : Nat → Hp → Prop, Pv 0 (upd H D (.lst [])) ∧ (∀ i H, i ≤ n → Pv i H → G H) ∧
      (∀ i x H H', i < n → Pv i H → Y i H x H' → g x (wipe σ vs) H' fun σ2 H2 => wipe σ2 vs = wipe σ vs ∧ tt σ2 H2 fun b H3 =>
        if b = true then te σ2 H3 fun y H4 => ∃ acc, H4 D = some (.lst acc) ∧ acc.length < sizeLine ∧ Pv (i + 1) (upd H4 D (.lst (acc ++ [y]))) else Pv (i + 1) H3) ∧ (∀ H, Pv n H → Q (.ref D) H)) :
    tLc wi g tt te vs σ H Q := by
  delta tLc
  exact f _ fun D hD => let ⟨Pv, h0, hG, hs, hd⟩ := h D hD; lc_it wk Pv h0 hG hs hd
section
variable {P : Program} {w : World} {K : PySem.W.Frag} {mg : Str → Option Value} {base : Heap}
def spSize (K : PySem.W.Frag) : Sp := fun vs H Q _ => ∃ (a : Addr) (xs : List V) (rs : List Run), vs = [.ref a] ∧ (SqL K H a xs ∨ SqT K H a xs) ∧ RunsV K H xs rs ∧ rs.length ≤ 10000 ∧ ∀ H', Same H H' → Q (.int (sizeR rs)) H'
abbrev s_size_of : Stmt := top 30
theorem sc_size_of : FnScope ["runs", "letter", "count"] ["runs"] (defScope s_size_of) := ⟨rfl, rfl, rfl, by decide +kernel, rfl, by decide +kernel, by decide +kernel⟩
theorem ok_size {f : Addr} {fd : FuncData} (F : Fun K "size_of" "size_of" s_size_of f fd) (nS : mg "sum" = none) : FnOk P w K mg base CX0 1 f fd ["runs"] (spSize K) := by
  refine F.ok sc_size_of (fun vs H Q E h => ?_) (fun cdv A outer s H vs Q E hr h => ?_)
  · obtain ⟨a, xs, rs, rfl, _⟩ := h
    rfl
  · obtain ⟨a, xs, rs, rfl, hS, hR, hn, k⟩ := h
    refine ⟨_, (pss_one (ps_ret (pe_callB (cr_sum rfl) (by rfl) nS (by decide +kernel) (pa_cons (pe_lc (own := [("letter", 1), ("count", 2)]) rfl sc_size_of.nd (pi_or (pi_list (pv 0)) (pi_tup (pv 0))) (blkOk_by (N := ["runs", "letter", "count"]) (sc := defScope s_size_of) (by decide +kernel)) (fun _ _ _ _ _ => (pg_or (show PG _ _ (gTup K 2 _) from pg_tup rfl (pgs_cons (pg_name (i := 1) sc_size_of.nd rfl (Or.inl rfl)) (pgs_cons (pg_name (i := 2) sc_size_of.nd rfl (Or.inl rfl)) pgs_nil))) (show PG _ _ (gLst K 2 _) from pg_lst rfl (pgs_cons (pg_name (i := 1) sc_size_of.nd rfl (Or.inl rfl)) (pgs_cons (pg_name (i := 2) sc_size_of.nd rfl (Or.inl rfl)) pgs_nil))))) (fun _ _ _ _ _ => pts_nil) (fun _ _ _ _ _ => (pv 2))) pa_nil)))), ?_⟩
    have z1 : (100000 : Nat) ≤ sizeLine := by decide
    obtain ⟨J, G, wk, hG, fits⟩ : ∃ (J : It) (G : Hp → Prop), Walk J xs.length G (YAt xs) ∧ (∀ H', Same H H' → G H') ∧
        ∀ (R : It → Hp → Prop), R J H → (iList K (tVar 0) [some (.ref a), none, none] H R ∨ iTup K (tVar 0) [some (.ref a), none, none] H R) := by
      rcases hS with hS | hS
      · exact ⟨Itl K a, _, walk_list, fun H' s' => s'.seq hS, fun R r => .inl ⟨_, rfl, a, rfl, ⟨_, hS⟩, r⟩⟩
      · exact ⟨Itt K a, _, walk_tup, fun H' s' => seqT_same s' hS, fun R r => .inr ⟨_, rfl, a, rfl, ⟨_, hS⟩, r⟩⟩
    refine ret_cb ?_
    refine lc_any (wi := fun σ H R => iList K (tVar 0) σ H R ∨ iTup K (tVar 0) σ H R) fits wk fun L hL => ⟨fun i H' => Same H H' ∧ H' L = some (.lst (((rs.take i).map (·.2)).map V.int)), ⟨Ask.Same.upd_new (Same.refl _) hL, upd_same⟩, fun i H' _ hh => hG H' hh.1, ?_, ?_⟩
    · rintro i v H3 H4 hi ⟨s3, hL3⟩ ⟨rfl, hv⟩
      obtain ⟨r, hri⟩ : ∃ r, rs[i]? = some r := ⟨_, List.getElem?_eq_getElem (by rw [← hR.1]; exact hi)⟩
      obtain ⟨b, rfl, hb⟩ := (hR.2 i v _ hv hri).same s3
      have go : ∀ (o : Option V), ∃ acc, H4 L = some (.lst acc) ∧ acc.length < sizeLine ∧ (Same H (upd H4 L (.lst (acc ++ [.int r.2]))) ∧ upd H4 L (.lst (acc ++ [.int r.2])) L = some (.lst (((rs.take (i + 1)).map (·.2)).map V.int))) := fun _ => by
        refine ⟨_, hL3, ?_, Ask.Same.upd_new s3 hL, ?_⟩
        · rw [List.length_map, List.length_map, List.length_take]
          omega
        · rw [upd_same, List.take_add_one, hri]
          simp only [Option.toList_some, List.map_append, List.map_cons, List.map_nil]
      rcases hb with hb | hb
      · exact .inr ⟨b, _, rfl, hb, rfl, _, _, rfl, _, _, rfl, rfl, rfl, _, rfl, go none⟩
      · exact .inl ⟨b, _, rfl, hb, rfl, _, _, rfl, _, _, rfl, rfl, rfl, _, rfl, go none⟩
    · rintro H3 ⟨s3, hL3⟩
      rw [hR.1, List.take_length] at hL3
      exact ⟨L, _, rfl, SqL.of hL3, k H3 s3⟩
end
end Ask

namespace Ask
open PySem L2
section
variable {P : Program} {w : World} {K : PySem.W.Frag} {mg : Str → Option Value} {base : Heap}
/-! ### is_whole, of any value whose kind is known -/
def spWhole (K : PySem.W.Frag) : Sp := fun vs H Q _ => ∃ (v : V) (t : Value) (b c : Bool), vs = [v] ∧ TyX K H v t ∧ PySem.W.kitOne K t (.type "int") = some b ∧ PySem.W.kitOne K t (.type "bool") = some c ∧ Q (.bl (b && !c)) H
abbrev s_is_whole : Stmt := top 5
theorem sc_is_whole : FnScope ["value"] ["value"] (defScope s_is_whole) := ⟨rfl, rfl, rfl, by decide +kernel, rfl, by decide +kernel, by decide +kernel⟩
theorem ok_whole {f : Addr} {fd : FuncData} (F : Fun K "is_whole" "is_whole" s_is_whole f fd) (T : Blt mg) (nB : mg "bool" = none) : FnOk P w K mg base CX0 1 f fd ["value"] (spWhole K) := by
  refine F.ok sc_is_whole (fun vs H Q E h => ?_) (fun cdv A outer s H vs Q E hr h => ?_)
  · obtain ⟨v, t, b, c, rfl, _⟩ := h
    rfl
  · obtain ⟨v, t, b, c, rfl, ty, h1, h2, k⟩ := h
    refine ⟨_, (pss_one (ps_ret (pe_and (pe_callB call_isi (by rfl) T.n_isinstance (by decide +kernel) (pa_cons (pv 0) (pa_cons (pe_bltn (v := .ty "int") (u := .type "int") rfl T.n_int (by decide +kernel) rfl) pa_nil))) (pe_one (pe_not (pe_callB call_isi (by rfl) T.n_isinstance (by decide +kernel) (pa_cons (pv 0) (pa_cons (pe_bltn (v := .ty "bool") (u := .type "bool") rfl nB (by decide +kernel) rfl) pa_nil)))))))), ?_⟩
    refine ⟨_, rfl, v, _, t, _, b, rfl, .ty _, ty, h1, _, rfl, ite2 (fun h => ?_) (fun h => ?_)⟩
    · have h : b = true := h
      subst h
      exact ⟨_, rfl, v, _, t, _, c, rfl, .ty _, ty, h2, _, rfl, k⟩
    · have h : b = false := (Bool.not_eq_true _).mp h
      subst h
      exact k
/-! ### is_list_of -/
def spListOf (K : PySem.W.Frag) : Sp := fun vs H Q _ => ∃ (v : V) (t : Value) (m : Int), vs = [v, .int m] ∧ TyX K H v t ∧
  ((PySem.W.kitAny K t [.type "list", .type "tuple"] = some false ∧ ∀ H', Same H H' → Q (.bl false) H') ∨
    (PySem.W.kitAny K t [.type "list", .type "tuple"] = some true ∧ ∃ (a : Addr) (xs : List V), v = .ref a ∧ (SqL K H a xs ∨ SqT K H a xs) ∧ ∀ H', Same H H' → Q (.bl (decide ((xs.length : Int) = m))) H'))
abbrev s_is_list_of : Stmt := top 6
theorem sc_is_list_of : FnScope ["value", "many"] ["value", "many"] (defScope s_is_list_of) := ⟨rfl, rfl, rfl, by decide +kernel, rfl, by decide +kernel, by decide +kernel⟩
theorem tyx_same {H H' : Hp} {v : V} {t : Value} (h : TyX K H v t) (s : Same H H') : TyX K H' v t := by
  cases h with
  | base b =>
    cases b with
    | non => exact .base .non
    | bl y => exact .base (.bl y)
    | int i => exact .base (.int i)
    | str y => exact .base (.str y)
    | flt y => exact .base (.flt y)
    | lst e => exact .base (.lst (s _ _ e))
    | frz e => exact .base (.frz (s _ _ e))
    | tup e => exact .base (.tup (s _ _ e))
    | dK e => exact .base (.dK (s _ _ e))
    | dT e => exact .base (.dT (s _ _ e))
    | ins e cl ha hn ht hm => exact .base (.ins (s _ _ e) cl ha hn ht hm)
  | byt b => exact .byt b
  | set e => exact .set (s _ _ e)
  | kList e c => exact .kList e c
  | kTuple e c => exact .kTuple e c
  | kDict e c => exact .kDict e c
  | fTuple e => exact .fTuple (s _ _ e)
  | fDict e => exact .fDict (s _ _ e)
theorem ok_listOf {f : Addr} {fd : FuncData} (F : Fun K "is_list_of" "is_list_of" s_is_list_of f fd) (T : Blt mg) : FnOk P w K mg base CX0 1 f fd ["value", "many"] (spListOf K) := by
  refine F.ok sc_is_list_of (fun vs H Q E h => ?_) (fun cdv A outer s H vs Q E hr h => ?_)
  · obtain ⟨v, t, m, rfl, _⟩ := h
    rfl
  · obtain ⟨v, t, m, rfl, ty, h⟩ := h
    refine ⟨_, (pss_one (ps_ret (pe_and (pe_callB call_isiT (by rfl) T.n_isinstance (by decide +kernel) (pa_cons (pv 0) (pa_cons (pe_tup (pa_cons (pe_bltn (v := .ty "list") (u := .type "list") rfl T.n_list (by decide +kernel) rfl) (pa_cons (pe_bltn (v := .ty "tuple") (u := .type "tuple") rfl T.n_tuple (by decide +kernel) rfl) pa_nil))) pa_nil))) (pe_one (pe_cmpR op_eq (pe_callB call_len_seq (by rfl) T.n_len (by decide +kernel) (pa_cons (pv 0) pa_nil)) (pv 1) (nomark _)))))), ?_⟩
    refine ⟨_, rfl, by show 2 ≤ sizeLine; decide, fun q hq => ?_⟩
    have s1 := Ask.Same.made1 (o := .tup [.ty "list", .ty "tuple"]) (Same.refl H) hq
    have hq1 : upd H q (.tup [.ty "list", .ty "tuple"]) q = some (.tup [.ty "list", .ty "tuple"]) := upd_same
    generalize upd H q (.tup [.ty "list", .ty "tuple"]) = H1 at s1 hq1 ⊢
    rcases h with ⟨ka, k⟩ | ⟨ka, a, xs, rfl, hS, k⟩
    · refine ⟨v, q, _, t, _, false, rfl, hq1, .cons (.ty _) (.cons (.ty _) .nil), tyx_same ty s1, ka, _, rfl, ite2 (fun h => absurd h Bool.false_ne_true) (fun _ => k H1 s1)⟩
    · refine ⟨_, q, _, t, _, true, rfl, hq1, .cons (.ty _) (.cons (.ty _) .nil), tyx_same ty s1, ka, _, rfl, ite2 (fun _ => ?_) (fun h => absurd rfl h)⟩
      have hS1 : SqL K H1 a xs ∨ SqT K H1 a xs := by
        rcases hS with hS | hS
        · exact .inl (s1.seq hS)
        · exact .inr (seqT_same s1 hS)
      refine ⟨_, rfl, a, xs, rfl, hS1, _, rfl, rfl, ?_⟩
      have e : decide (V.int (xs.length : Int) = V.int m) = decide ((xs.length : Int) = m) := by
        by_cases h : (xs.length : Int) = m
        · rw [decide_eq_true h, decide_eq_true (congrArg V.int h)]
        · rw [decide_eq_false h, decide_eq_false (fun z => h (V.int.inj z))]
      have := k H1 s1
      rw [← e] at this
      exact this
end
end Ask

/-! an instance's own __contains__, __len__, __eq__, each by what its def promises -/
namespace Ask
open PySem L2 PySem.Spec PyProof.Rows
section
variable {X : Cx} {CX : CXT} {k : Nat} {C f : Addr} {fd : FuncData} {ps : List Str} {sp : Sp} {E : XK}
theorem run_at {A : Around} {pins : List (Addr × Obj)} {σ : L2.St} {H : Hp} {s : Shared} {Q : VK} {us : List Value} {vs : List V} (F : FnOk X.prog X.w X.K X.mg X.base CX k f fd ps sp) (hr : Room k A) (hfr : A.frames = X.A.frames) (hb : Binds X.K fd ps []) (hx : Passes CX X E)
    (I : Inv X pins σ H s) (r : Vals vs us) (h : sp vs H Q E) : wpAny (model X.prog X.w) A (call (.ref f) us) (EP X pins σ Q) X.xe s := by
  have hl : us.length = ps.length := by rw [← r.length]; exact F.len _ _ _ _ h
  have b := hb s us I.kIn (by rw [List.append_nil]; exact hl)
  rw [List.append_nil] at b
  have e0 : Env0 X.prog X.w X.K X.mg X.base A X.stack s H := by
    have e := I.env0
    exact ⟨by rw [hfr]; exact e.frames, e.mod, e.bs, e.bsz, e.funs, e.frf, e.hok, e.bare⟩
  refine wpAny_call (codeAny_mono (F.run A X.stack s H ⟨us, []⟩ us vs Q E hr e0 b r h) fun r s' hq => ?_)
  cases r with
  | error e => exact hx pins σ H s e s' I hq
  | ok fl =>
    cases fl with
    | ret u => exact I.after hq
    | next => exact False.elim hq
    | brk => exact False.elim hq
    | cont => exact False.elim hq
/-- x in y, y an instance of C -/
def rInI (C : Addr) (sp : Sp) (E : XK) (neg : Bool) : R2 := fun x y H Q => ∃ (a dx : Addr) (fs : List (Str × V)), y = .ref a ∧ H a = some (.ins C dx fs) ∧ sp [.ref a, x] H (fun v H' => ∃ b : Bool, v = .bl b ∧ Q (.bl (if neg then !b else b)) H') E
theorem op_inI (F : FnOk X.prog X.w X.K X.mg X.base CX k f fd ps sp) (hr : Room k X.A) (hb : Binds X.K fd ps []) (hx : Passes CX X E) (hs : PySem.W.findIn X.K (.ref C) "__contains__" = some (some (.ref f))) (hf : PySem.W.isFn X.K (.ref f) = true) :
    OpR X (compareOp .In) (rInI C sp E false) := by
  intro pins s σ H x y v u Q I rx ry h
  obtain ⟨a, dx, fs, rfl, ha, q⟩ := h
  cases ry
  obtain ⟨mA, J, _⟩ := ins_get I.hok ha
  obtain ⟨od, J, _⟩ := J.look
  obtain ⟨m, hF⟩ := I.fr
  refine PySem.W.in_K hF I.ok.mod.kin J hs hf (thn (run_at (vs := [.ref a, x]) F hr rfl hb hx I (.cons rfl (.cons rx .nil)) q) fun r s' ⟨z, H', I', rz, b, ez, q'⟩ => ?_)
  subst ez
  cases rz
  exact wpAny_truthy_bool ⟨.bl b, H', I', rfl, q'⟩
theorem op_notInI (F : FnOk X.prog X.w X.K X.mg X.base CX k f fd ps sp) (hr : Room k X.A) (hb : Binds X.K fd ps []) (hx : Passes CX X E) (hs : PySem.W.findIn X.K (.ref C) "__contains__" = some (some (.ref f))) (hf : PySem.W.isFn X.K (.ref f) = true) :
    OpR X (compareOp .NotIn) (rInI C sp E true) := by
  intro pins s σ H x y v u Q I rx ry h
  obtain ⟨a, dx, fs, rfl, ha, q⟩ := h
  cases ry
  obtain ⟨mA, J, _⟩ := ins_get I.hok ha
  obtain ⟨od, J, _⟩ := J.look
  obtain ⟨m, hF⟩ := I.fr
  refine PySem.W.notIn_K hF I.ok.mod.kin J hs hf (thn (run_at (vs := [.ref a, x]) F hr rfl hb hx I (.cons rfl (.cons rx .nil)) q) fun r s' ⟨z, H', I', rz, b, ez, q'⟩ => ?_)
  subst ez
  cases rz
  exact wpAny_truthy_bool ⟨.bl (!b), H', I', rfl, q'⟩
/-- len(x), x an instance of C -/
theorem call_lenI (F : FnOk X.prog X.w X.K X.mg X.base CX k f fd ps sp) (hr : Room (k + 1) X.A) (hb : Binds X.K fd ps []) (hx : Passes CX X E) (hs : PySem.W.findIn X.K (.ref C) "__len__" = some (some (.ref f))) (hf : PySem.W.isFn X.K (.ref f) = true) :
    CallR X (.builtin "len") (fun xs H Q => ∃ (a dx : Addr) (fs : List (Str × V)), xs = [.ref a] ∧ H a = some (.ins C dx fs) ∧ sp [.ref a] H (fun v H' => ∃ n : Nat, v = .int n ∧ n ≤ 16777216 ∧ Q (.int n) H') E) := by
  intro pins s σ H xs us Q I r h
  obtain ⟨a, dx, fs, rfl, ha, q⟩ := h
  obtain ⟨u, rfl, ra⟩ := vals1 r
  obtain rfl : u = Value.ref a := ra
  obtain ⟨mA, J, _⟩ := ins_get I.hok ha
  obtain ⟨od, J, _⟩ := J.look
  obtain ⟨m, hF⟩ := I.fr
  refine PySem.W.len_K hF I.ok.mod.kin J hs hf (thn (run_at (vs := [.ref a]) F hr.in1 rfl hb hx I (.cons rfl .nil) q) fun r s' ⟨z, H', I', rz, n, ez, hn, q'⟩ => ?_)
  subst ez
  obtain ⟨t, rfl⟩ := rz
  exact ⟨⟨by omega, by omega⟩, ⟨.int n, H', I'.tok _, ⟨_, rfl⟩, q'⟩⟩
/-- x == y, both instances of C -/
theorem op_eqI (F : FnOk X.prog X.w X.K X.mg X.base CX k f fd ps sp) (hr : Room k X.A) (hb : Binds X.K fd ps []) (hx : Passes CX X E) (hs : PySem.W.findIn X.K (.ref C) "__eq__" = some (some (.ref f))) (hf : PySem.W.isFn X.K (.ref f) = true) :
    OpR X (compareOp .Eq) (fun x y H Q => ∃ (a b dx dy : Addr) (fs gs : List (Str × V)), x = .ref a ∧ y = .ref b ∧ H a = some (.ins C dx fs) ∧ H b = some (.ins C dy gs) ∧ sp [.ref a, .ref b] H (fun v H' => ∃ c : Bool, v = .bl c ∧ Q (.bl c) H') E) := by
  intro pins s σ H x y v u Q I rx ry h
  obtain ⟨a, b, dx, dy, fs, gs, rfl, rfl, ha, hb', q⟩ := h
  cases rx
  cases ry
  obtain ⟨mA, J, _⟩ := ins_get I.hok ha
  obtain ⟨mB, J', _⟩ := ins_get I.hok hb'
  obtain ⟨od, J, _⟩ := J.look
  obtain ⟨od', J', _⟩ := J'.look
  obtain ⟨m, hF⟩ := I.fr
  show wpAny (model X.prog X.w) X.A (richCompare .Eq (.ref a) (.ref b)) (EP X pins σ Q) X.xe s
  refine PySem.W.cmp_K (op := .Eq) (tb := .ref C) hr.units0 hF I.ok.mod.kin J J'.type (by simp [PySem.W.notFirst]) hs hf (thn (run_at (vs := [.ref a, .ref b]) F hr rfl hb hx I (.cons rfl (.cons rfl .nil)) q) fun r s' ⟨z, H', I', rz, c, ez, q'⟩ => ?_)
  subst ez
  cases rz
  exact ⟨.bl c, H', I', rfl, q'⟩
/-- a class over object with its own __eq__ at f and no __ne__ -/
def OwnNe (K : PySem.W.Frag) (C f : Addr) : Prop :=
  ∃ (nm q : Str) (N : Addr) (bs : List Value) (hdct : Bool) (sn : List Str) (sub : List Value) (ab : Bool) (col : Option Bool) (dd : Option Addr) (k0 k1 k2 k3 k5 : Option Value) (newId : String) (oN : Obj) (es : Array DictEntry) (ep : Nat) (of : Obj),
    K.lookup C = some (excClassObj nm q C N bs [.type "object"] hdct sn sub ab col dd k0 k1 k2 k3 k5 newId) ∧ K.lookup N = some oN ∧ oN.data = .dict es ep ∧ StrKeys es ∧ nsFind es "__eq__" = some (.ref f) ∧ nsFind es "__ne__" = none ∧
    K.lookup f = some of ∧ of.cls = .type "function"
/-- x != y, both instances of C -/
theorem op_neI (F : FnOk X.prog X.w X.K X.mg X.base CX k f fd ps sp) (hr : Room (k + 1) X.A) (hb : Binds X.K fd ps []) (hx : Passes CX X E) (cl : OwnNe X.K C f) :
    OpR X (compareOp .NotEq) (fun x y H Q => ∃ (a b dx dy : Addr) (fs gs : List (Str × V)), x = .ref a ∧ y = .ref b ∧ H a = some (.ins C dx fs) ∧ H b = some (.ins C dy gs) ∧ sp [.ref a, .ref b] H (fun v H' => ∃ c : Bool, v = .bl c ∧ Q (.bl (!c)) H') E) := by
  intro pins s σ H x y v u Q I rx ry h
  obtain ⟨a, b, dx, dy, fs, gs, rfl, rfl, ha, hb', q⟩ := h
  cases rx
  cases ry
  obtain ⟨mA, J, _⟩ := ins_get I.hok ha
  obtain ⟨mB, J', _⟩ := ins_get I.hok hb'
  obtain ⟨od, J, _⟩ := J.look
  obtain ⟨od', J', _⟩ := J'.look
  obtain ⟨nm, qn, N, bs, hdct, sn, sub, ab, col, dd, k0, k1, k2, k3, k5, newId, oN, es, ep, of, lC, lN, dN, sk, fe, fn, lf, cf⟩ := cl
  have kin := I.kIn
  obtain ⟨hp, g, d, t, os⟩ := s
  have own : hp.OwnEqNoNe a C f "object" [.type "object"] :=
    ⟨_, of, nm, qn, N, bs, hdct, sn, sub, ab, col, dd, k0, k1, k2, k3, k5, newId, nsFind es, _, J.1, J.cls, kin _ _ lC, ⟨oN, es, ep, kin _ _ lN, dN, sk, fun _ => rfl⟩, fe, kin _ _ lf, cf, PySem.F.cmp_object.mro, PySem.F.cmp_object.eq.lookup, fn⟩
  refine compareOp_ne_ownEq PySem.F.cmp_object own J'.1 J'.cls (by have := hr.un; omega) (thn (run_at (vs := [.ref a, .ref b]) F hr.in1 rfl hb hx I (.cons rfl (.cons rfl .nil)) q) fun r s' ⟨z, H', I', rz, c, ez, q'⟩ => ?_)
  subst ez
  cases rz
  exact ⟨c, rfl, ⟨.bl (!c), H', I', rfl, q'⟩⟩
end
end Ask

/-! a text against a dict; a dict in a tuple or list of texts -/
namespace Ask
open PySem L2 PySem.Spec PyProof.Rows PySem.SeqAt
theorem sub_sd : isSubtype (.type "str") (.type "dict") = pure false := by rw [isSubtype_type]; kernel_rfl
theorem sub_ds : isSubtype (.type "dict") (.type "str") = pure false := by rw [isSubtype_type]; kernel_rfl
theorem dict_declines (l : Addr) (o : Obj) (b : Str) (u : Tok) (hc : o.cls = .type "dict") :
    Meets (Builtin.«dict.__eq__» ⟨[.ref l, .str b u], []⟩) (fun _ R s => s.heap.get? l = some o ∧ R (.ok (.ret .notImplemented)) s) :=
  .of_wp fun prog w A R s h => by
    obtain ⟨hp, g, d, tk, os⟩ := s
    obtain ⟨cls, dd, data, sl⟩ := o
    obtain rfl : cls = .type "dict" := hc
    obtain ⟨hl, h⟩ := h
    have f1 := sub_sd
    wp_walk using wpAny_loadPart' hl
    exact ⟨_, rfl, h⟩
theorem str_declines (l : Addr) (o : Obj) (b : Str) (u : Tok) (hc : o.cls = .type "dict") {es : Array DictEntry} {ep : Nat} (hd : o.data = .dict es ep) :
    Meets (Builtin.«str.__eq__» ⟨[.str b u, .ref l], []⟩) (fun _ R s => s.heap.get? l = some o ∧ R (.ok (.ret .notImplemented)) s) :=
  .of_wp fun prog w A R s h => by
    obtain ⟨hp, g, d, tk, os⟩ := s
    obtain ⟨cls, dd, data, sl⟩ := o
    obtain rfl : cls = .type "dict" := hc
    obtain rfl : data = .dict es ep := hd
    obtain ⟨hl, h⟩ := h
    wp_walk using wpAny_loadPart' hl, wpAny_load hl
    exact ⟨_, rfl, h⟩
section
variable {A : Around} {s : Shared}
theorem rcAt_sd {l : Addr} {o : Obj} (b : Str) (u : Tok) (ho : s.heap.get? l = some o) (hc : o.cls = .type "dict") {es : Array DictEntry} {ep : Nat} (hd : o.data = .dict es ep) (hu : A.units < cLine) : RcAt A s (.str b u) (.ref l) false := fun prog w E Q h =>
  rc_eq_decline_or (k := false) (typeIs_str s b u) ⟨o, ho, hc⟩ (by decide) sub_ds PySem.F.slot_str_eq PySem.F.slot_dict_eq_refl
    (fun _ hq => call_meets PySem.F.slot_str_eq (typeIs_str s b u) PySem.F.entry_str_eq (PySem.F.args_str_eq_2 _ _) (str_declines l o b u hc hd) ⟨ho, hq⟩)
    (fun _ hq => call_meets PySem.F.slot_dict_eq_refl ⟨o, ho, hc⟩ PySem.F.entry_dict_eq (PySem.F.args_dict_eq_2 _ _) (dict_declines l o b u hc) ⟨ho, hq⟩)
    (fun _ hq => wpAny_of_eq (rfl : isSame (.str b u) (.ref l) = pure false) hq) (.inr hu) h
theorem eqAt_sd {l : Addr} {o : Obj} (b : Str) (u : Tok) (ho : s.heap.get? l = some o) (hc : o.cls = .type "dict") {es : Array DictEntry} {ep : Nat} (hd : o.data = .dict es ep) (hu : A.units < cLine) : EqAt A s (.str b u) (.ref l) false := fun prog w E Q h => by
  unfold eqBool
  refine wpAny_holding ?_
  refine wpAny_ite_split (fun hab => absurd (eq_of_beq hab) nofun) (fun _ => ?_)
  exact wpAny_bind (rcAt_sd b u ho hc hd hu prog w E _ (wpAny_truthy_bool h))
end
section
variable {X : Cx}
/-- a dict in a tuple of texts -/
def rInSD (K : PySem.W.Frag) (neg : Bool) : R2 := fun x y H Q => ∃ (d p : Addr) (kvs : List (Key × V)) (ys : List Str), x = .ref d ∧ y = .ref p ∧ H d = some (.dK kvs) ∧ SqT K H p (ys.map V.str) ∧ Q (.bl neg) H
theorem strs_eqAt {A : Around} {s : Shared} {l : Addr} {o : Obj} (ho : s.heap.get? l = some o) (hc : o.cls = .type "dict") {es : Array DictEntry} {ep : Nat} (hd : o.data = .dict es ep) (hu : A.units < cLine) : ∀ (ys : List Str) (us : List Value), Vals (ys.map V.str) us → ∀ w ∈ us, EqAt A s w (.ref l) false
  | [], us, r => by
    cases r
    exact fun w hw => by cases hw
  | y :: ys, us, r => by
    cases r with
    | cons r t =>
      intro w hw
      rcases List.mem_cons.mp hw with rfl | hw
      · obtain ⟨tk, rfl⟩ := r
        exact eqAt_sd y tk ho hc hd hu
      · exact strs_eqAt ho hc hd hu ys _ t w hw
theorem op_inSD (hu : X.A.units + 1 < cLine) : OpR X (compareOp .In) (rInSD X.K false) := by
  intro pins s σ H x y v u Q I rx ry h
  obtain ⟨d, p, kvs, ys, rfl, rfl, hd, hq, q⟩ := h
  cases rx
  cases ry
  obtain ⟨_, _, vs, _, o, es, ep, ho, hx, hdd, _⟩ := I.hok d _ hd
  obtain ⟨its, r, pl, hz⟩ := I.tuple hq
  refine in_tupleAt (fun _ => false) pl (fun w hw => strs_eqAt (A := X.A.in1) ho hx.1 hdd hu ys _ r w (by simpa using hw)) ⟨.bl false, H, I, ?_, q⟩
  show Value.bool _ = Value.bool false
  simp
theorem op_notInSD (hu : X.A.units + 1 < cLine) : OpR X (compareOp .NotIn) (rInSD X.K true) := by
  intro pins s σ H x y v u Q I rx ry h
  obtain ⟨d, p, kvs, ys, rfl, rfl, hd, hq, q⟩ := h
  cases rx
  cases ry
  obtain ⟨_, _, vs, _, o, es, ep, ho, hx, hdd, _⟩ := I.hok d _ hd
  obtain ⟨its, r, pl, hz⟩ := I.tuple hq
  refine notIn_tupleAt (fun _ => false) pl (fun w hw => strs_eqAt (A := X.A.in1) ho hx.1 hdd hu ys _ r w (by simpa using hw)) ⟨.bl true, H, I, ?_, q⟩
  show Value.bool _ = Value.bool true
  simp
end
end Ask

/-! isinstance(e, c) in a suite, e an own error with fields -/
namespace Ask
open PySem L2 PySem.Spec PyProof.Rows
/-- what the class says of __class__ -/
structure XkC (K : PySem.W.Frag) (C : Addr) : Prop where
  ic : PySem.W.isClsIn K C = true
  ha : PySem.W.findIn K (.ref C) "__class__" = some (some (.builtin "object.__class__"))
  hn : PySem.W.specialIn K (.builtin "object.__class__") "__get__" = some (some (.builtin "getset_descriptor.__get__"))
  ht : PySem.W.takesIn K (.builtin "object.__class__") = some true
  hm : PySem.W.mroIn K C (.type "object") = some true
def rIsX (K : PySem.W.Frag) (C a : Addr) (cls : Value) (d : Option Addr) : List V → Hp → VK → Prop := fun xs H Q => ∃ (c : V) (cv : Value) (b : Bool) (dd : Addr) (fs : List (Str × V)), xs = [.ref a, c] ∧ cls = .ref C ∧ d = some dd ∧ H dd = some (.xd fs) ∧ ClsV c cv ∧ PySem.W.kitOne K (.ref C) cv = some b ∧ Q (.bl b) H
theorem call_isX {X : Cx} {a C : Addr} {oe : Obj} {cls : Value} {d : Option Addr} {pn : List (Addr × Obj)} (T : XfC X.K C) (Y : XkC X.K C) (hz : Zc cls d oe) (hf : ∃ vs, oe.data = .fields vs) :
    CallR (X.suite a ((a, oe) :: pn)) (.builtin "isinstance") (rIsX X.K C a cls d) := by
  intro pins s σ H xs us Q I r h
  obtain ⟨c, cv, b, dd, fs, rfl, rfl, rfl, ed, hcv, e, q⟩ := h
  obtain ⟨u1, u2, rfl, r1, r2⟩ := vals2 r
  obtain rfl : u1 = Value.ref a := r1
  have ec := hcv.eq r2
  subst ec
  obtain ⟨ha, _⟩ := I.pin (a, oe) (List.mem_append_left _ List.mem_cons_self)
  obtain ⟨vs, hd⟩ := hf
  obtain ⟨mA, hns, hr⟩ := (show ObjOk X.prog X.w H s.heap dd (.xd fs) from I.hok dd _ ed)
  obtain ⟨od, ho, hl⟩ := lookIn_ns hns
  have J : PySem.W.InstAt s.heap a oe C (some od) := ⟨ha, hz.1, by unfold PySem.W.notCls; rw [hd] <;> rfl, by rw [hz.2]; exact ho⟩
  exact PySem.W.kia_one (PySem.W.kitx_exc Y.ic T.ga T.gg T.exC Y.ha Y.hn Y.ht Y.hm) I.kIn J e (fun z => nomatch z) fun tk => ⟨.bl b, H, I.kept (t' := tk) fun _ _ z => z, rfl, q⟩
end Ask

namespace Ask
open PySem L2
open PySem.SeqAt (in_tupleAt EqAt)
/-- whether x is in the texts: by value, or a list, tuple or dict that is none -/
def InW (H : Hp) (x : V) (ys : List Str) (b : Bool) : Prop := (flatV x = true ∧ b = inV x (ys.map V.str)) ∨
  (b = false ∧ ∃ d, x = .ref d ∧ ((∃ kvs, H d = some (.dK kvs)) ∨ (∃ xs, H d = some (.lst xs)) ∨ (∃ xs, H d = some (.tup xs))))
theorem strs_eqAtR {A : Around} {s : Shared} {l : Addr} (h : ∀ (y : Str) (t : Tok), EqAt A s (.str y t) (.ref l) false) : ∀ (ys : List Str) (us : List Value), Vals (ys.map V.str) us → ∀ w ∈ us, EqAt A s w (.ref l) false
  | [], us, r => by
    cases r
    exact fun w hw => by cases hw
  | y :: ys, us, r => by
    cases r with
    | cons r t =>
      intro w hw
      rcases List.mem_cons.mp hw with rfl | hw
      · obtain ⟨tk, rfl⟩ := r
        exact h y tk
      · exact strs_eqAtR h ys _ t w hw
section
variable {X : Cx}
theorem op_inW (hu : X.A.units + 1 < cLine) : OpR X (compareOp .In) (fun x y H Q => ∃ (p : Addr) (ys : List Str) (b : Bool), y = .ref p ∧ SqT X.K H p (ys.map V.str) ∧ InW H x ys b ∧ Q (.bl b) H) := by
  intro pins s σ H x y v u Q I rx ry h
  obtain ⟨p, ys, b, rfl, hq, hw, q⟩ := h
  rcases hw with ⟨fx, rfl⟩ | ⟨rfl, d, rfl, hd⟩
  · refine op_in_seq pins s σ H x (.ref p) v u Q I rx ry ⟨p, _, rfl, .inr hq, fx, ?_, q⟩
    rw [List.all_eq_true]
    intro y hy
    obtain ⟨z, _, rfl⟩ := List.mem_map.mp hy
    rfl
  · cases rx
    cases ry
    obtain ⟨its, r, pl, hz⟩ := I.tuple hq
    have at_ : ∀ (y : Str) (t : Tok), EqAt X.A.in1 s (.str y t) (.ref d) false := fun y t => by
      rcases hd with ⟨kvs, hd⟩ | ⟨xs, hd⟩ | ⟨xs, hd⟩
      · obtain ⟨_, _, vs, _, o, es, ep, ho, hx, hdd, _⟩ := I.hok d _ hd
        exact eqAt_sd y t ho hx.1 hdd hu
      · obtain ⟨its2, r2, pl2, _⟩ := I.list (.inl (.inl hd))
        exact PySem.SeqAt.EqAt.str_list y t pl2.isList hu
      · obtain ⟨its2, r2, pl2, _⟩ := I.tuple (.inl (.inl hd))
        exact PySem.SeqAt.EqAt.str_tuple y t pl2 hu
    refine in_tupleAt (fun _ => false) pl (fun w hw => strs_eqAtR at_ ys _ r w (by simpa using hw)) ⟨.bl false, H, I, ?_, q⟩
    show Value.bool _ = Value.bool false
    simp
end
/-- letters ys at p, their tuple at t -/
def Mde (CL : Addr) (H : Hp) (p t : Addr) (ys : List Str) : Prop := ∃ (dx : Addr) (o : Obj), H p = some (.ins CL dx [("words", .ref t)]) ∧ H t = some (.frz o (.tup (ys.map V.str))) ∧ o.dict = none
def spHas (CL : Addr) : Sp := fun vs H Q _ => ∃ (p t : Addr) (ys : List Str) (x : V) (b : Bool), vs = [.ref p, x] ∧ Mde CL H p t ys ∧ InW H x ys b ∧ Q (.bl b) H
def spLen (CL : Addr) : Sp := fun vs H Q _ => ∃ (p t : Addr) (ys : List Str), vs = [.ref p] ∧ Mde CL H p t ys ∧ ys.length ≤ 1000 ∧ Q (.int (ys.length : Nat)) H
def spEq2 (CL : Addr) : Sp := fun vs H Q _ => ∃ (p t p' t' : Addr) (ys zs : List Str), vs = [.ref p, .ref p'] ∧ Mde CL H p t ys ∧ Mde CL H p' t' zs ∧ (∀ y ∈ ys, y.length ≤ 500 ∧ Asc y) ∧ (∀ y ∈ zs, y.length ≤ 500 ∧ Asc y) ∧
  Q (.bl (PyData.eqv (.tuple (ys.map PyData.str)) (.tuple (zs.map PyData.str)))) H
def spRank (CL CE : Addr) : Sp := fun vs H Q E => ∃ (p t : Addr) (ys : List Str) (x : V), vs = [.ref p, x] ∧ Mde CL H p t ys ∧ ys.Nodup ∧
  ((∃ (i : Nat) (z : Str), x = .str z ∧ ys[i]? = some z ∧ ∀ H', Same H H' → Q (.int (i : Nat)) H') ∨ (InW H x ys false ∧ ∀ (H' : Hp) (d : Addr), Same H H' → H' d = some (.xd (fsBad [.int 0])) → E (.ref CE) (some d) H'))
abbrev s_Has : Stmt := inClass (top 25) 2
theorem sc_Has : FnScope ["self", "x"] ["self", "x"] (defScope s_Has) := ⟨rfl, rfl, rfl, by decide +kernel, rfl, by decide +kernel, by decide +kernel⟩
abbrev s_Len : Stmt := inClass (top 25) 3
theorem sc_Len : FnScope ["self"] ["self"] (defScope s_Len) := ⟨rfl, rfl, rfl, by decide +kernel, rfl, by decide +kernel, by decide +kernel⟩
abbrev s_Eq : Stmt := inClass (top 25) 4
theorem sc_Eq : FnScope ["self", "other"] ["self", "other"] (defScope s_Eq) := ⟨rfl, rfl, rfl, by decide +kernel, rfl, by decide +kernel, by decide +kernel⟩
abbrev s_Rank : Stmt := inClass (top 25) 1
theorem sc_Rank : FnScope ["self", "x", "place", "word"] ["self", "x"] (defScope s_Rank) := ⟨rfl, rfl, rfl, by decide +kernel, rfl, by decide +kernel, by decide +kernel⟩
theorem passE {X : Cx} : Passes (L2.CX X.prog X.w) X E0 := fun _ _ _ _ _ _ _ h => by
  obtain ⟨_, _, _, _, _, _, _, _, _, _, _, _, e⟩ := h
  exact e.elim
section
variable {P : Program} {w : World} {K : PySem.W.Frag} {mg : Str → Option Value} {base : Heap}
theorem ok_has {f CL : Addr} {fd : FuncData} (F : Fun K "__contains__" "Letters.__contains__" s_Has f fd) (hC : Cls K CL) (hA : NoAttr K CL "words") : FnOk P w K mg base CX0 1 f fd ["self", "x"] (spHas CL) := by
  refine F.ok sc_Has (fun vs H Q E h => ?_) (fun cdv A outer s H vs Q E hr h => ?_)
  · obtain ⟨p, t, ys, x, b, rfl, _⟩ := h
    rfl
  · obtain ⟨p, t, ys, x, b, rfl, ⟨dx, ob, hp, ht, hob⟩, hw, k⟩ := h
    exact ⟨_, pss_one (ps_ret (pe_cmpR (op_inW (hu_of hr)) (pv 1) (pe_fld (pv 0) rfl) rfl)), _, rfl, _, rfl, p, CL, dx, _, _, rfl, hp, hC, hA, rfl, t, ys, b, rfl, (.inl (.inr ⟨ob, ht⟩)), hw, k⟩
theorem ok_len {f CL : Addr} {fd : FuncData} (F : Fun K "__len__" "Letters.__len__" s_Len f fd) (T : Blt mg) (hC : Cls K CL) (hA : NoAttr K CL "words") : FnOk P w K mg base CX0 1 f fd ["self"] (spLen CL) := by
  refine F.ok sc_Len (fun vs H Q E h => ?_) (fun cdv A outer s H vs Q E hr h => ?_)
  · obtain ⟨p, t, ys, rfl, _⟩ := h
    rfl
  · obtain ⟨p, t, ys, rfl, ⟨dx, ob, hp, ht, hob⟩, hl, k⟩ := h
    refine ⟨_, pss_one (ps_ret (pe_callB call_len_seq (by rfl) T.n_len (by decide +kernel) (pa_cons (pe_fld (pv 0) rfl) pa_nil))), _, rfl, p, CL, dx, _, _, rfl, hp, hC, hA, rfl, t, _, rfl, .inr ((.inl (.inr ⟨ob, ht⟩))), ?_⟩
    rw [List.length_map]
    exact k
theorem ok_eq {f CL : Addr} {fd : FuncData} (F : Fun K "__eq__" "Letters.__eq__" s_Eq f fd) (T : Blt mg) (hC : Cls K CL) (hA : NoAttr K CL "words") (Y : XkC K CL) (mL : mg "Letters" = some (.ref CL)) : FnOk P w K mg base CX0 1 f fd ["self", "other"] (spEq2 CL) := by
  refine F.ok sc_Eq (fun vs H Q E h => ?_) (fun cdv A outer s H vs Q E hr h => ?_)
  · obtain ⟨p, t, p', t', ys, zs, rfl, _⟩ := h
    rfl
  · obtain ⟨p, t, p', t', ys, zs, rfl, ⟨dx, ob, hp, ht, hob⟩, ⟨dx', ob', hp', ht', hob'⟩, hy, hz, k⟩ := h
    refine ⟨_, (pss_one (ps_ret (pe_and (pe_callB call_isi (by rfl) T.n_isinstance (by decide +kernel) (pa_cons (pv 1) (pa_cons (pe_gv (v := .ref CL) rfl ⟨_, mL, rfl⟩) pa_nil))) (pe_one (pe_cmpR (op_eqD hr.units) (pe_fld (pv 0) rfl) (pe_fld (pv 1) rfl) (nomark _)))))), ?_⟩
    have kk : PySem.W.kitOne K (.ref CL) (.ref CL) = some true := by
      unfold PySem.W.kitOne
      rw [if_pos (by simp)]
    refine ⟨_, rfl, _, _, _, _, true, rfl, .own CL, .base (.ins hp' hC Y.ha Y.hn Y.ht Y.hm), kk, _, rfl, ite2 (fun _ => ?_) (fun q => absurd rfl q)⟩
    exact ⟨_, rfl, p, CL, dx, _, _, rfl, hp, hC, hA, rfl, _, rfl, p', CL, dx', _, _, rfl, hp', hC, hA, rfl, _, _, .tup ((.inl (.inr ⟨ob, ht⟩))) (dp_strs _), .tup ((.inl (.inr ⟨ob', ht'⟩))) (dp_strs _), (fit_strs hy).shapedT, (fit_strs hz).shapedT, k⟩
end
end Ask

namespace Ask
open PySem L2
theorem kitAny_l {K : PySem.W.Frag} : PySem.W.kitAny K (.type "list") [.type "list", .type "tuple"] = some true := kitAny_cons (b := true) (kit_ty (by show kitB "list" "list" = some true; decide +kernel)) (fun z => by cases z) (fun _ => rfl)
theorem kitAny_t {K : PySem.W.Frag} : PySem.W.kitAny K (.type "tuple") [.type "list", .type "tuple"] = some true := kitAny_cons (kit_ty (by show kitB "tuple" "list" = some false; decide +kernel)) (fun _ => kitAny_cons (kit_ty (by show kitB "tuple" "tuple" = some true; decide +kernel)) (fun z => by cases z) (fun _ => rfl)) (fun z => by cases z)
theorem Mde.same {CL m t : Addr} {H H' : Hp} {ys : List Str} (h : Mde CL H m t ys) (s : Same H H') : Mde CL H' m t ys := by
  obtain ⟨dx, ob, h1, h2, h3⟩ := h
  exact ⟨dx, ob, s _ _ h1, s _ _ h2, h3⟩
theorem for_any1 {wi : TI} {g : TG} {tb : TS} {D : Ends} {σ : L2.St} {H : Hp} {J : It} {n : Nat} {G : Hp → Prop} {Y : Nat → Hp → V → Hp → Prop} (f : ∀ R : It → Hp → Prop, R J H → wi σ H R)
    (wk : Walk J n G Y) (Pv : Nat → L2.St → Hp → Prop) (h0 : Pv 0 σ H) (hG : ∀ i σ H, i ≤ n → Pv i σ H → G H)
    (hs : ∀ i x σ H H', i < n → Pv i σ H → Y i H x H' → g x σ H' fun σ2 H2 => tb { D with nx := Pv (i + 1), ct := Pv (i + 1), bk := D.nx } σ2 H2) (hd : ∀ σ H, Pv n σ H → D.nx σ H) :
    tFor wi g tb D σ H := by
  delta tFor
  exact f _ (for_it (D := D) wk Pv h0 hG hs hd)
section
variable {P : Program} {w : World} {K : PySem.W.Frag} {mg : Str → Option Value} {base : Heap}
/-! ### require_runs, where nothing is wrong -/
def spReqOk (K : PySem.W.Frag) (CL : Addr) : Sp := fun vs H Q _ => ∃ (m t : Addr) (ys : List Str) (a : Addr) (xs : List V) (rs : List Run), vs = [.ref m, .ref a] ∧ Mde CL H m t ys ∧ (SqL K H a xs ∨ SqT K H a xs) ∧ RunsV K H xs rs ∧ rs.length ≤ 10000 ∧
  (∀ r ∈ rs, r.1 ∈ ys ∧ 1 ≤ r.2 ∧ r.2 ≤ 1000000000000000000000000000000) ∧ ∀ H', Same H H' → Q .non H'
/-! ### require_count, where nothing is wrong -/
def spReqCnt : Sp := fun vs H Q _ => ∃ (x : V) (n : Int), vs = [x, .int n] ∧ 1 ≤ n ∧ n ≤ 1000000000000000000000000000000 ∧ Q .non H
abbrev s_require_count : Stmt := top 37
theorem sc_require_count : FnScope ["index", "value"] ["index", "value"] (defScope s_require_count) := ⟨rfl, rfl, rfl, by decide +kernel, rfl, by decide +kernel, by decide +kernel⟩
theorem ok_reqCnt {f fW : Addr} {fd fdW : FuncData} (F : Fun K "require_count" "require_count" s_require_count f fd) (mM : ∃ u, mg "MOST_COUNT" = some u ∧ RelV (.int 1000000000000000000000000000000) u)
    (GW : FnOk P w K mg base CX0 1 fW fdW ["value"] (spWhole K)) (AW : At K mg "is_whole" fW fdW ["value"]) :
    FnOk P w K mg base CX0 2 f fd ["index", "value"] spReqCnt := by
  refine F.ok sc_require_count (fun vs H Q E h => ?_) (fun cdv A outer s H vs Q E hr h => ?_)
  · obtain ⟨x, n, rfl, _⟩ := h
    rfl
  · obtain ⟨x, n, rfl, h1, h2, k⟩ := h
    refine ⟨_, (pss_one (ps_if (PW.pt (pw_or (pt_not (pt_val (pe_call GW hr (by rfl) AW.m AW.k AW.b .nil pass0 (pa_cons (pv 1) pa_nil)))) (pw_or1 (pt_not (pt_chain op_le op_le pe_int (pv 1) (pe_gv rfl mM)))))) pss_never pss_nil)), ?_⟩
    refine ⟨_, rfl, _, .type "int", true, false, rfl, .base (.int _), kit_ty (by decide +kernel), kit_ty (by decide +kernel), _, rfl, ?_⟩
    refine iteF ?_
    refine ⟨_, rfl, _, _, rfl, rfl, _, rfl, ?_⟩
    refine ite2 (fun _ => ?_) (fun q => absurd (decide_eq_true h1) q)
    refine ⟨_, _, rfl, rfl, _, rfl, ?_⟩
    rw [decide_eq_true h2]
    exact iteF k
abbrev s_require_runs : Stmt := top 38
theorem sc_require_runs : FnScope ["letters", "runs", "index", "run"] ["letters", "runs"] (defScope s_require_runs) := ⟨rfl, rfl, rfl, by decide +kernel, rfl, by decide +kernel, by decide +kernel⟩
theorem ok_reqOk {f fO fN fH CL : Addr} {fd fdO fdN fdH : FuncData} (F : Fun K "require_runs" "require_runs" s_require_runs f fd) (T : Blt mg)
    (GO : FnOk P w K mg base CX0 1 fO fdO ["value", "many"] (spListOf K)) (AO : At K mg "is_list_of" fO fdO ["value", "many"])
    (GN : FnOk P w K mg base CX0 2 fN fdN ["index", "value"] spReqCnt) (AN : At K mg "require_count" fN fdN ["index", "value"])
    (GH : FnOk P w K mg base CX0 1 fH fdH ["self", "x"] (spHas CL)) (bH : Binds K fdH ["self", "x"] []) (hH : PySem.W.findIn K (.ref CL) "__contains__" = some (some (.ref fH))) (iH : PySem.W.isFn K (.ref fH) = true) :
    FnOk P w K mg base CX0 3 f fd ["letters", "runs"] (spReqOk K CL) := by
  refine F.ok sc_require_runs (fun vs H Q E h => ?_) (fun cdv A outer s H vs Q E hr h => ?_)
  · obtain ⟨m, t, ys, a, xs, rs, rfl, _⟩ := h
    rfl
  · obtain ⟨m, t, ys, a, xs, rs, rfl, hM, hS, hR, hn, hok, k⟩ := h
    refine ⟨_, (pss_one (ps_for PassesOwn.never rfl (pi_enumA (by rfl) T.n_enumerate (pa_cons (pv 1) pa_nil)) (pg_tup rfl (pgs_cons (pg_name (i := 2) sc_require_runs.nd rfl (Or.inl rfl)) (pgs_cons (pg_name (i := 3) sc_require_runs.nd rfl (Or.inl rfl)) pgs_nil))) (pss_cons (ps_if (pt_not (pt_val (pe_call GO (hr.mono (by decide)) (by rfl) AO.m AO.k AO.b .nil pass0 (pa_cons (pv 3) (pa_cons pe_int pa_nil))))) pss_never pss_nil)
      (pss_cons (ps_if (pt_cmpR (op_notInI (C := CL) (E := E0) GH (hr.mono (by decide)) bH pass0 hH iH) (pe_ix ix_seq (pv 3) pe_int (fun _ _ => rfl)) (pv 0) rfl) pss_never pss_nil)
      (pss_one (ps_expr (pe_call GN hr (by rfl) AN.m AN.k AN.b .nil pass0 (pa_cons (pv 2) (pa_cons (pe_ix ix_seq (pv 3) pe_int (fun _ _ => rfl)) pa_nil))))))))), ?_⟩
    obtain ⟨J, G, wk, hG, fits⟩ : ∃ (J : It) (G : Hp → Prop), Walk J xs.length G (YPair (fun i => some (.int (i : Nat))) (fun i => xs[i]?)) ∧ (∀ H', Same H H' → G H') ∧
        ∀ (R : It → Hp → Prop), R J H → iEnumA K (tCons (tVar 1) tNil) [some (.ref m), some (.ref a), none, none] H R := by
      rcases hS with hS | hS
      · exact ⟨Ite K a, _, walk_enum, fun H' s' => s'.seq hS, fun R r => ⟨_, rfl, a, xs, rfl, .inl ⟨hS, r⟩⟩⟩
      · exact ⟨IteT K a, _, walk_enumT, fun H' s' => seqT_same s' hS, fun R r => ⟨_, rfl, a, xs, rfl, .inr ⟨hS, r⟩⟩⟩
    refine for_any1 fits wk (fun i σ' H' => ∃ o2 o3 : Option V, σ' = [some (.ref m), some (.ref a), o2, o3] ∧ Same H H') ⟨none, none, rfl, Same.refl H⟩ (fun i σ' H' _ ⟨_, _, _, s'⟩ => hG H' s') ?_ (fun σ' H' ⟨_, _, _, s'⟩ => k H' s')
    rintro i x σ' H2 H3 hi ⟨o2, o3, rfl, s2⟩ ⟨t2, x0, y0, rfl, ht, rfl, ex, ey⟩
    cases ex
    replace ey : xs[i]? = some y0 := ey
    obtain ⟨r, hri⟩ : ∃ r, rs[i]? = some r := ⟨_, List.getElem?_eq_getElem (by rw [← hR.1]; exact hi)⟩
    obtain ⟨hr1, hr2, hr3⟩ := hok r (List.mem_of_getElem? hri)
    have s3 := Ask.Same.made1 (o := .tup [.int (i : Nat), y0]) s2 ht
    have ht3 : upd H2 t2 (.tup [.int (i : Nat), y0]) t2 = some (.tup [.int (i : Nat), y0]) := upd_same
    generalize upd H2 t2 (.tup [.int (i : Nat), y0]) = H4 at s3 ht3 ⊢
    obtain ⟨b, rfl, hb⟩ := hR.2 i y0 r ey hri
    have hin : ∀ H', InW H' (.str r.1) ys true := fun _ => .inl ⟨rfl, (in_mem hr1).symm⟩
    refine ⟨t2, _, rfl, SqT.of ht3, rfl, _, _, rfl, _, _, rfl, rfl, ?_⟩
    have hty : ∃ ty, TyX K H4 (.ref b) ty ∧ PySem.W.kitAny K ty [.type "list", .type "tuple"] = some true := by
      rcases hb with hb | hb
      · exact ⟨_, ty_list (s3.seq hb), kitAny_l⟩
      · exact ⟨_, ty_tup (seqT_same s3 hb), kitAny_t⟩
    obtain ⟨ty, hty, hka⟩ := hty
    have hb4 : SqL K H4 b [.str r.1, .int r.2] ∨ SqT K H4 b [.str r.1, .int r.2] := by
      rcases hb with hb | hb
      · exact .inl (s3.seq hb)
      · exact .inr (seqT_same s3 hb)
    refine ⟨_, rfl, .ref b, ty, 2, rfl, hty, .inr ⟨hka, b, _, rfl, hb4, fun H5 s5 => ⟨_, rfl, ?_⟩⟩⟩
    have s35 := s3.trans s5
    have md := hM.same s35
    obtain ⟨dx, ob, m1, _⟩ := id md
    rw [decide_eq_true (show (([V.str r.1, .int r.2] : List V).length : Int) = 2 from rfl)]
    refine iteF ?_
    rcases hb with hb | hb
    · have hb5 := s35.seq hb
      refine ⟨_, rfl, .inl ⟨b, _, 0, _, rfl, rfl, hb5, at_by (j := 0) rfl rfl, _, rfl, m, dx, _, rfl, m1, m, t, ys, _, true, rfl, md, hin _, _, rfl, _, rfl, ?_⟩⟩
      refine iteF ?_
      exact ⟨_, rfl, _, rfl, .inl ⟨b, _, 1, _, rfl, rfl, hb5, at_by (j := 1) rfl rfl, _, _, rfl, hr2, hr3, _, _, rfl, s35⟩⟩
    · have hb5 := seqT_same s35 hb
      refine ⟨_, rfl, .inr (.inl ⟨b, _, 0, _, rfl, rfl, hb5, at_by (j := 0) rfl rfl, _, rfl, m, dx, _, rfl, m1, m, t, ys, _, true, rfl, md, hin _, _, rfl, _, rfl, ?_⟩)⟩
      refine iteF ?_
      exact ⟨_, rfl, _, rfl, .inr (.inl ⟨b, _, 1, _, rfl, rfl, hb5, at_by (j := 1) rfl rfl, _, _, rfl, hr2, hr3, _, _, rfl, s35⟩)⟩
end
end Ask

namespace Ask
open PySem L2
theorem eqv_str1 (a b : Str) : PyData.eqv (.str a) (.str b) = decide (a = b) := by
  simp only [PyData.eqv]
  by_cases h : a = b
  · subst h; simp
  · rw [decide_eq_false h]; simpa using h
theorem eqvAll_strs : ∀ ys zs : List Str, PyData.eqvAll (ys.map PyData.str) (zs.map PyData.str) = decide (ys = zs)
  | [], [] => by simp [PyData.eqvAll]
  | [], _ :: _ => by simp [PyData.eqvAll]
  | _ :: _, [] => by simp [PyData.eqvAll]
  | y :: ys, z :: zs => by
    rw [List.map_cons, List.map_cons, PyData.eqvAll, eqv_str1, eqvAll_strs ys zs]
    by_cases h : y = z
    · subst h
      by_cases h2 : ys = zs
      · subst h2; simp
      · simp [h2]
    · simp [h]
theorem eqv_strs (ys zs : List Str) : PyData.eqv (.tuple (ys.map PyData.str)) (.tuple (zs.map PyData.str)) = decide (ys = zs) := by
  rw [PyData.eqv]
  exact eqvAll_strs ys zs
/-- letters that Letters takes -/
structure Lts (ys : List Str) : Prop where
  nd : ys.Nodup
  ok : ∀ y ∈ ys, isLs y = true ∧ y.length ≤ 13 ∧ Asc y
  l0 : 1 ≤ ys.length
  l1 : ys.length ≤ 12
theorem Lts.fit {ys : List Str} (h : Lts ys) : ∀ y ∈ ys, y.length ≤ 500 ∧ Asc y := fun y hy => ⟨by have := (h.ok y hy).2.1; omega, (h.ok y hy).2.2⟩
theorem Lts.res {ys : List Str} (h : Lts ys) : res (ys.map PyData.str) = .none := by
  have l0 := h.l0
  have l1 := h.l1
  refine res_good (by rw [List.length_map]; omega) (by rw [List.length_map]; omega) fun j hj => ?_
  rw [List.length_map] at hj
  unfold badAt
  rw [List.getElem?_map, List.getElem?_eq_getElem hj]
  show (!isLs ys[j] || ((ys.map PyData.str).take j).any fun z => PyData.eqv z (.str ys[j])) = false
  rw [(h.ok _ (List.getElem_mem hj)).1, Bool.not_true, Bool.false_or, List.any_eq_false]
  intro x hx
  rw [← List.map_take] at hx
  obtain ⟨y, hy, rfl⟩ := List.mem_map.mp hx
  rw [eqv_str1]
  intro e
  have e : y = ys[j] := of_decide_eq_true e
  obtain ⟨i, hi⟩ := List.mem_iff_getElem?.mp hy
  have hij : i < j := by
    have := (List.getElem?_eq_some_iff.mp hi).1
    rw [List.length_take] at this
    omega
  rw [List.getElem?_take_of_lt hij] at hi
  have : i = j := (List.getElem?_inj (List.getElem?_eq_some_iff.mp hi).1 h.nd).mp (hi.trans (by rw [e, List.getElem?_eq_getElem hj]))
  omega
theorem cutV_init (xs : List V) : cutV xs none (some (-1)) = xs.take (xs.length - 1) := by
  have e : HT.sIx xs.length xs.length (some (-1)) = xs.length - 1 := by
    show (if (-1 : Int) < 0 then ((-1 : Int) + (xs.length : Int)).toNat else min (-1 : Int).toNat xs.length) = _
    rw [if_pos (by decide)]
    omega
  unfold cutV
  rw [HT.sIx_none, List.drop_zero, Nat.sub_zero, e]
/-- a text none or one time -/
theorem op_mul_str01 {X : Cx} : OpR X (binaryOp .Mult) (fun x y H Q => ∃ (z : Str) (n : Int), x = .str z ∧ y = .int n ∧ (n = 0 ∨ n = 1) ∧ z.length ≤ 1000 ∧ ∀ z' : Str, z'.length ≤ z.length → Q (.str z') H) := by
  intro pins s σ H x y v u Q I rx ry h
  obtain ⟨z, n, rfl, rfl, hn, z1, q⟩ := h
  obtain ⟨t, rfl⟩ := rx
  obtain ⟨t2, rfl⟩ := ry
  rcases hn with rfl | rfl
  · exact P.mul_str_none (by decide) (by decide) ⟨.str Str.empty, H, I.tok _, ⟨_, rfl⟩, q _ (Nat.zero_le _)⟩
  · refine P.mul_str (by decide) (fun _ e => by simp at e) (fun _ e => by simp at e) ?_
    rw [if_neg (by decide), if_pos (by simp)]
    exact ⟨.str z, H, I, ⟨_, rfl⟩, q _ (Nat.le_refl _)⟩
theorem cutV_tail (xs : List V) : cutV xs (some 1) none = xs.drop 1 := by
  unfold cutV
  rw [HT.sIx_none, show (some (1 : Int)) = some ((1 : Nat) : Int) from rfl, HT.sIx_nat]
  by_cases h : 1 ≤ xs.length
  · rw [Nat.min_eq_left h, List.take_of_length_le (by rw [List.length_drop]; omega)]
  · have : xs = [] := List.eq_nil_of_length_eq_zero (by omega)
    subst this
    rfl
section
variable {p c CL q m t m' t' l : Addr} {ns : List Int} {H0 H H' : Hp} {ys zs : List Str} {B B' : Nat} {o : HO} {xs : List V}
theorem Mde.go (h : Mde CL H m t ys) (g : Go p c ns H H' B) : Mde CL H' m t ys := by
  obtain ⟨dx, ob, h1, h2, h3⟩ := h
  exact ⟨dx, ob, g.at h1 (by intro _ z; cases z), g.at h2 (by intro _ z; cases z), h3⟩
theorem Mde.mut (h : Mde CL H m t ys) (hl : H l = some (.lst xs)) : Mde CL (upd H l o) m t ys := by
  obtain ⟨dx, ob, h1, h2, h3⟩ := h
  exact ⟨dx, ob, by rw [upd_ne (ne_of h1 hl (by intro z; cases z))]; exact h1, by rw [upd_ne (ne_of h2 hl (by intro z; cases z))]; exact h2, h3⟩
theorem Mde.seq {K : PySem.W.Frag} (h : Mde CL H m t ys) : SqT K H t (ys.map V.str) := by
  obtain ⟨dx, ob, h1, h2, h3⟩ := h
  exact .inl (.inr ⟨ob, h2⟩)
end
end Ask

namespace Ask
open PySem L2
/-! ### spliced: the mirror -/
def spliceR (h t : List Run) : List Run := match h.getLast?, t with
  | some l, r :: t' => if l.1 = r.1 then h.dropLast ++ [(l.1, l.2 + r.2)] ++ t' else h ++ t
  | _, _ => h ++ t
theorem splice_nil (t : List Run) : spliceR [] t = t := rfl
theorem PairsV.get {H : Hp} {xs : List V} {rs : List Run} (h : PairsV H xs rs) {i : Nat} {r : Run} (e : rs[i]? = some r) : ∃ b, xs[i]? = some (.ref b) ∧ H b = some (.tup [.str r.1, .int r.2]) := by
  have hi : i < xs.length := by rw [h.1]; exact (List.getElem?_eq_some_iff.mp e).1
  obtain ⟨b, e2, e3⟩ := h.2 i _ r (List.getElem?_eq_getElem hi) e
  exact ⟨b, by rw [List.getElem?_eq_getElem hi, e2], e3⟩
theorem PairsV.cat {H : Hp} {xs ys : List V} {rs ss : List Run} (h : PairsV H xs rs) (k : PairsV H ys ss) : PairsV H (xs ++ ys) (rs ++ ss) := by
  refine ⟨by rw [List.length_append, List.length_append, h.1, k.1], fun i v r h1 h2 => ?_⟩
  by_cases hi : i < xs.length
  · rw [List.getElem?_append_left hi] at h1
    rw [List.getElem?_append_left (by rw [← h.1]; exact hi)] at h2
    exact h.2 i v r h1 h2
  · rw [List.getElem?_append_right (by omega)] at h1
    rw [List.getElem?_append_right (by rw [← h.1]; omega), ← h.1] at h2
    exact k.2 _ v r h1 h2
theorem PairsV.take {H : Hp} {xs : List V} {rs : List Run} (h : PairsV H xs rs) (n : Nat) : PairsV H (xs.take n) (rs.take n) := by
  refine ⟨by rw [List.length_take, List.length_take, h.1], fun i v r h1 h2 => ?_⟩
  have hi : i < n := by
    have := (List.getElem?_eq_some_iff.mp h1).1
    rw [List.length_take] at this
    omega
  rw [List.getElem?_take_of_lt hi] at h1 h2
  exact h.2 i v r h1 h2
theorem PairsV.drop {H : Hp} {xs : List V} {rs : List Run} (h : PairsV H xs rs) (n : Nat) : PairsV H (xs.drop n) (rs.drop n) := by
  refine ⟨by rw [List.length_drop, List.length_drop, h.1], fun i v r h1 h2 => ?_⟩
  rw [List.getElem?_drop] at h1 h2
  exact h.2 _ v r h1 h2
theorem PairsV.one {H : Hp} {b : Addr} {r : Run} (h : H b = some (.tup [.str r.1, .int r.2])) : PairsV H [.ref b] [r] := by
  refine ⟨rfl, fun i v r' h1 h2 => ?_⟩
  cases i with
  | zero =>
    cases h1
    cases h2
    exact ⟨b, rfl, h⟩
  | succ i => simp at h1
theorem sIx_init {n : Nat} : HT.sIx n n (some (-1)) = n - 1 := by
  show (if (-1 : Int) < 0 then ((-1 : Int) + (n : Int)).toNat else min (-1 : Int).toNat n) = _
  rw [if_pos (by decide)]
  omega
theorem sIx_one {n : Nat} (h : 1 ≤ n) : HT.sIx n 0 (some 1) = 1 := by
  show (if (1 : Int) < 0 then ((1 : Int) + (n : Int)).toNat else min (1 : Int).toNat n) = _
  rw [if_neg (by decide)]
  show min 1 n = 1
  omega
theorem atI_back {α : Type} {xs : List α} {v : α} (h : xs[xs.length - 1]? = some v) : atI xs (-1) = some v := by
  have ln := (List.getElem?_eq_some_iff.mp h).1
  have e : xs = xs.take (xs.length - 1) ++ [v] := by
    have h2 := List.take_append_getElem (l := xs) (i := xs.length - 1) ln
    rw [(List.getElem?_eq_some_iff.mp h).2] at h2
    rw [h2, List.take_of_length_le (by omega)]
  have k := atI_last (xs.take (xs.length - 1)) v
  rw [← e] at k
  exact k
section
variable {P : Program} {w : World} {K : PySem.W.Frag} {mg : Str → Option Value} {base : Heap}
def spSpliced (K : PySem.W.Frag) : Sp := fun vs H Q _ => ∃ (a b : Addr) (hs ts : List V) (h t : List Run), vs = [.ref a, .ref b] ∧ SqT K H a hs ∧ SqT K H b ts ∧ PairsV H hs h ∧ PairsV H ts t ∧ h.length ≤ 10000 ∧ t.length ≤ 10000 ∧
  ∀ (H' : Hp) (c : Addr) (ks : List V), Same H H' → SqT K H' c ks → PairsV H' ks (spliceR h t) → Q (.ref c) H'
abbrev s_spliced : Stmt := top 28
theorem sc_spliced : FnScope ["head", "tail"] ["head", "tail"] (defScope s_spliced) := ⟨rfl, rfl, rfl, by decide +kernel, rfl, by decide +kernel, by decide +kernel⟩
theorem ok_spliced {f : Addr} {fd : FuncData} (F : Fun K "spliced" "spliced" s_spliced f fd) : FnOk P w K mg base CX0 1 f fd ["head", "tail"] (spSpliced K) := by
  refine F.ok sc_spliced (fun vs H Q E h => ?_) (fun cdv A outer s H vs Q E hr h => ?_)
  · obtain ⟨a, b, hs, ts, h, t, rfl, _⟩ := h
    rfl
  · obtain ⟨a, b, hs, ts, h, t, rfl, ha, hb, hh, ht, lh, lt, k⟩ := h
    refine ⟨_, (pss_cons (ps_if (PW.pt (pw_and (pt_truth (pv 0) (by intro _; rfl)) (pw_and (pt_truth (pv 1) (by intro _; rfl)) (pw_and1 (pt_cmpR op_eq (pe_ix ix_tup (pe_ix ix_tup (pv 0) (pe_un un_neg pe_int) (fun _ _ => rfl)) pe_int (fun _ _ => rfl)) (pe_ix ix_tup (pe_ix ix_tup (pv 1) pe_int (fun _ _ => rfl)) pe_int (fun _ _ => rfl)) (nomark _)))))) (pss_one (ps_ret (pe_op op_catA (pe_op op_catA (pe_slice sl_tupA (pv 0) po_none (po_some (pe_un un_neg pe_int))) (pe_tup (pa_cons (pe_tup (pa_cons (pe_ix ix_tup (pe_ix ix_tup (pv 0) (pe_un un_neg pe_int) (fun _ _ => rfl)) pe_int (fun _ _ => rfl)) (pa_cons (pe_op op_add (pe_ix ix_tup (pe_ix ix_tup (pv 0) (pe_un un_neg pe_int) (fun _ _ => rfl)) pe_int (fun _ _ => rfl)) (pe_ix ix_tup (pe_ix ix_tup (pv 1) pe_int (fun _ _ => rfl)) pe_int (fun _ _ => rfl))) pa_nil))) pa_nil))) (pe_slice sl_tupA (pv 1) (po_some pe_int) po_none)))) pss_nil)
      (pss_one (ps_ret (pe_op op_catA (pv 0) (pv 1))))), ?_⟩
    have z1 : (100000 : Nat) ≤ sizeLine := by decide
    have e1 := hh.1
    have e2 := ht.1
    -- the plain sum
    have plain : spliceR h t = h ++ t → tRet (tOp (rCatA K) (tVar 0) (tVar 1)) { nx := fun _ H' => Q .non H', rt := Q } [some (.ref a), some (.ref b)] H := fun e => by
      have e3 : PairsV H (hs ++ ts) (spliceR h t) := by rw [e]; exact hh.cat ht
      refine ⟨_, rfl, _, rfl, a, b, hs, ts, rfl, rfl, ha, hb, by omega, fun z => ?_, fun _ z => ?_, fun _ _ p hp => ?_⟩
      · subst z
        exact k H b ts (Same.refl H) hb e3
      · subst z
        rw [List.append_nil] at e3
        exact k H a hs (Same.refl H) ha e3
      · have s1 := Ask.Same.made1 (o := .tup (hs ++ ts)) (Same.refl H) hp
        exact k _ p _ s1 (SqT.of upd_same) (e3.same s1)
    refine ⟨_, rfl, !hs.isEmpty, .inr (.inl ⟨hs, ha, rfl⟩), ite2 (fun q1 => ?_) (fun q1 => iteF (plain (by
      have q1 : (!hs.isEmpty) = false := (Bool.not_eq_true _).mp q1
      have : hs = [] := by cases hs with | nil => rfl | cons => cases q1
      subst this
      have : h = [] := List.eq_nil_of_length_eq_zero e1.symm
      subst this
      rfl)))⟩
    have q1 : hs ≠ [] := fun z => by subst z; cases q1
    refine ⟨_, rfl, !ts.isEmpty, .inr (.inl ⟨ts, hb, rfl⟩), ite2 (fun q2 => ?_) (fun q2 => iteF (plain (by
      have q2 : (!ts.isEmpty) = false := (Bool.not_eq_true _).mp q2
      have : ts = [] := by cases ts with | nil => rfl | cons => cases q2
      subst this
      have : t = [] := List.eq_nil_of_length_eq_zero e2.symm
      subst this
      unfold spliceR
      split
      · contradiction
      · rfl)))⟩
    have q2 : ts ≠ [] := fun z => by subst z; cases q2
    have l1 : 1 ≤ hs.length := List.length_pos_iff.mpr q1
    have l2 : 1 ≤ ts.length := List.length_pos_iff.mpr q2
    obtain ⟨l, hl⟩ : ∃ l, h[h.length - 1]? = some l := ⟨_, List.getElem?_eq_getElem (by omega)⟩
    obtain ⟨r, hr0⟩ : ∃ r, t[0]? = some r := ⟨_, List.getElem?_eq_getElem (by omega)⟩
    obtain ⟨x, hx, hx2⟩ := hh.get hl
    obtain ⟨y, hy, hy2⟩ := ht.get hr0
    rw [← e1] at hx
    have at1 : atI hs (-1) = some (.ref x) := atI_back hx
    have at2 : atI ts 0 = some (.ref y) := at_by (j := 0) rfl hy
    have bx0 : atI [V.str l.1, .int l.2] 0 = some (.str l.1) := at_by (j := 0) rfl rfl
    have bx1 : atI [V.str l.1, .int l.2] 1 = some (.int l.2) := at_by (j := 1) rfl rfl
    have by0 : atI [V.str r.1, .int r.2] 0 = some (.str r.1) := at_by (j := 0) rfl rfl
    have by1 : atI [V.str r.1, .int r.2] 1 = some (.int r.2) := at_by (j := 1) rfl rfl
    have sp : spliceR h t = if l.1 = r.1 then h.dropLast ++ [(l.1, l.2 + r.2)] ++ t.drop 1 else h ++ t := by
      have e3 : h.getLast? = some l := by rw [List.getLast?_eq_getElem?]; exact hl
      obtain ⟨t', rfl⟩ : ∃ t', t = r :: t' := by
        cases t with
        | nil => simp at hr0
        | cons a t => cases hr0; exact ⟨t, rfl⟩
      unfold spliceR
      rw [e3]
      rfl
    refine ⟨_, rfl, _, rfl, a, _, _, _, rfl, rfl, ha, at1, x, _, _, _, rfl, rfl, SqT.of hx2, bx0, _, rfl, b, _, _, _, rfl, rfl, hb, at2, y, _, _, _, rfl, rfl, SqT.of hy2, by0, rfl, _, rfl, ite2 (fun q3 => ?_) (fun q3 => plain (by
      have q3 : ¬ l.1 = r.1 := fun z => q3 (decide_eq_true (congrArg V.str z))
      rw [sp, if_neg q3]))⟩
    have q3 : l.1 = r.1 := V.str.inj (of_decide_eq_true q3)
    rw [if_pos q3] at sp
    refine ⟨_, rfl, _, rfl, _, rfl, a, hs, rfl, ha, fun z => ?_, fun _ p hp => ?_⟩
    · have z := z.2
      rw [sIx_init] at z
      omega
    have s1 := Ask.Same.made1 (o := .tup (cutV hs none (some (-1)))) (Same.refl H) hp
    have p1 : upd H p (.tup (cutV hs none (some (-1)))) p = some (.tup (cutV hs none (some (-1)))) := upd_same
    generalize upd H p (.tup (cutV hs none (some (-1)))) = H1 at s1 p1 ⊢
    have ha1 := seqT_same s1 ha
    have hb1 := seqT_same s1 hb
    refine ⟨_, rfl, _, rfl, a, _, _, _, rfl, rfl, ha1, at1, x, _, _, _, rfl, rfl, SqT.of (s1 _ _ hx2), bx0, ?_⟩
    refine ⟨_, rfl, _, rfl, a, _, _, _, rfl, rfl, ha1, at1, x, _, _, _, rfl, rfl, SqT.of (s1 _ _ hx2), bx1, ?_⟩
    refine ⟨_, rfl, b, _, _, _, rfl, rfl, hb1, at2, y, _, _, _, rfl, rfl, SqT.of (s1 _ _ hy2), by1, _, _, rfl, rfl, by show 2 ≤ sizeLine; decide, fun u hu => ?_⟩
    have s2 := Ask.Same.made1 (o := .tup [.str l.1, .int (l.2 + r.2)]) s1 hu
    have p2 : upd H1 u (.tup [.str l.1, .int (l.2 + r.2)]) p = some (.tup (cutV hs none (some (-1)))) := by rw [upd_ne (ne_of_none p1 hu)]; exact p1
    have u2 : upd H1 u (.tup [.str l.1, .int (l.2 + r.2)]) u = some (.tup [.str l.1, .int (l.2 + r.2)]) := upd_same
    generalize upd H1 u (.tup [.str l.1, .int (l.2 + r.2)]) = H2 at s2 p2 u2 ⊢
    refine ⟨by show 1 ≤ sizeLine; decide, fun g hg => ?_⟩
    have s3 := Ask.Same.made1 (o := .tup [.ref u]) s2 hg
    have st3 := Ask.Same.made1 (o := .tup [.ref u]) (Same.refl H2) hg
    have g3 : upd H2 g (.tup [.ref u]) g = some (.tup [.ref u]) := upd_same
    generalize upd H2 g (.tup [.ref u]) = H3 at s3 st3 g3 ⊢
    have hc : PairsV H3 (cutV hs none (some (-1))) h.dropLast := by
      rw [cutV_init, List.dropLast_eq_take, e1]
      exact (hh.take _).same s3
    have hc1 : PairsV H3 (cutV hs none (some (-1)) ++ [.ref u]) (h.dropLast ++ [(l.1, l.2 + r.2)]) := hc.cat (.one (st3 _ _ u2))
    have lc : (cutV hs none (some (-1))).length ≤ hs.length := cutV_length _ _ _
    -- the first sum
    have go : ∀ (H4 : Hp) (g4 : Addr), Same H3 H4 → SqT K H4 g4 (cutV hs none (some (-1)) ++ [.ref u]) →
        tSl (rSlA K) (tVar 1) (tPart (tC (.int 1))) tNoPart [some (.ref a), some (.ref b)] H4 fun y H2 => rCatA K (.ref g4) y H2 Q := fun H4 g4 s34 hg4 => by
      have s4 := s3.trans s34
      refine ⟨_, rfl, _, rfl, b, ts, rfl, seqT_same s4 hb, fun z => ?_, fun _ v hv => ?_⟩
      · have z := z.1
        rw [sIx_one l2] at z
        cases z
      have s45 := Ask.Same.made1 (o := .tup (cutV ts (some 1) none)) (Same.refl H4) hv
      have s5 := s4.trans s45
      have v5 : upd H4 v (.tup (cutV ts (some 1) none)) v = some (.tup (cutV ts (some 1) none)) := upd_same
      generalize upd H4 v (.tup (cutV ts (some 1) none)) = H5 at s45 s5 v5 ⊢
      rw [cutV_tail] at v5
      have ld : (ts.drop 1).length ≤ ts.length := by rw [List.length_drop]; omega
      have fin : PairsV H5 ((cutV hs none (some (-1)) ++ [.ref u]) ++ ts.drop 1) (spliceR h t) := by
        rw [sp]
        exact (hc1.same (s34.trans s45)).cat ((ht.drop 1).same s5)
      refine ⟨g4, v, _, _, rfl, rfl, seqT_same s45 hg4, SqT.of v5, by rw [List.length_append, List.length_singleton]; omega, fun z => ?_, fun _ z => ?_, fun _ _ d hd => ?_⟩
      · simp at z
      · rw [z, List.append_nil] at fin
        exact k H5 g4 _ s5 (seqT_same s45 hg4) fin
      · have s6 := Ask.Same.made1 (o := .tup ((cutV hs none (some (-1)) ++ [.ref u]) ++ ts.drop 1)) (Same.refl H5) hd
        exact k _ d _ (s5.trans s6) (SqT.of upd_same) (fin.same s6)
    refine ⟨p, g, _, _, rfl, rfl, SqT.of (st3 _ _ p2), SqT.of g3, (by rw [List.length_singleton]; omega), fun z => ?_, fun _ z => (by cases z), fun _ _ d hd => ?_⟩
    · exact go H3 g (Same.refl H3) (by rw [z]; exact SqT.of g3)
    · exact go _ d (Ask.Same.made1 (Same.refl H3) hd) (SqT.of upd_same)
end
end Ask

namespace Ask
open PySem L2
theorem seqA_same {K : PySem.W.Frag} {H H' : Hp} {a : Addr} {xs : List V} (h : SqL K H a xs ∨ SqT K H a xs) (s : Same H H') : SqL K H' a xs ∨ SqT K H' a xs := by
  rcases h with h | h
  · exact .inl (s.seq h)
  · exact .inr (seqT_same s h)
theorem joinR_len (rs : List Run) : (joinR rs).length ≤ rs.length + 1 := by
  unfold joinR
  rw [List.length_append]
  have := jrun_len rs
  have : (jrun rs).2.toList.length ≤ 1 := by cases (jrun rs).2 <;> simp
  omega
/-- what comes last: a letter or the beginning -/
def lastR (b : Str) (rs : List Run) : Str := ((rs.getLast?.map (·.1)).getD b)
/-- the attributes of a history -/
def hf (m c : Addr) (b : Str) (rs : List Run) : List (Str × V) := [("letters", .ref m), ("beginning", .str b), ("runs", .ref c), ("size", .int (sizeR rs)), ("last", .str (lastR b rs))]
/-- a history of the runs rs at p -/
def HistAt (K : PySem.W.Frag) (CL CH : Addr) (H : Hp) (p : Addr) (ys : List Str) (b : Str) (rs : List Run) : Prop := ∃ (dx m t c : Addr) (ks : List V), H p = some (.ins CH dx (hf m c b rs)) ∧ Mde CL H m t ys ∧ SqT K H c ks ∧ PairsV H ks rs
theorem HistAt.same {K : PySem.W.Frag} {CL CH p : Addr} {H H' : Hp} {ys : List Str} {b : Str} {rs : List Run} (h : HistAt K CL CH H p ys b rs) (s : Same H H') : HistAt K CL CH H' p ys b rs := by
  obtain ⟨dx, m, t, c, ks, h1, h2, h3, h4⟩ := h
  exact ⟨dx, m, t, c, ks, s _ _ h1, h2.same s, seqT_same s h3, h4.same s⟩
section
variable {P : Program} {w : World} {K : PySem.W.Frag} {mg : Str → Option Value} {base : Heap}
/-! ### is_beginning, of a text -/
def spIsBeg (K : PySem.W.Frag) : Sp := fun vs H Q _ => ∃ b : Str, vs = [.str b] ∧ (b = "new" ∨ b = "found") ∧ Q (.bl true) H
abbrev s_is_beginning : Stmt := top 35
theorem sc_is_beginning : FnScope ["value"] ["value"] (defScope s_is_beginning) := ⟨rfl, rfl, rfl, by decide +kernel, rfl, by decide +kernel, by decide +kernel⟩
theorem ok_isBeg {f : Addr} {fd : FuncData} (F : Fun K "is_beginning" "is_beginning" s_is_beginning f fd) (C : Gv K mg) : FnOk P w K mg base CX0 1 f fd ["value"] (spIsBeg K) := by
  refine F.ok sc_is_beginning (fun vs H Q E h => ?_) (fun cdv A outer s H vs Q E hr h => ?_)
  · obtain ⟨b, rfl, _⟩ := h
    rfl
  · obtain ⟨b, rfl, hb, k⟩ := h
    obtain ⟨tB, u, mB, uB, hB⟩ := C.begins
    refine ⟨_, (pss_one (ps_ret (pe_cmpR op_in_seq (pv 0) (pe_gv (v := .ref tB) rfl ⟨u, mB, uB⟩) rfl))), ?_⟩
    refine ⟨_, rfl, tB, _, rfl, .inr (hB H), rfl, rfl, ?_⟩
    rcases hb with rfl | rfl
    · exact k
    · exact k
/-! ### extended, where nothing is wrong -/
def spExtOk (K : PySem.W.Frag) (CL : Addr) : Sp := fun vs H Q _ => ∃ (m t e : Addr) (ys : List Str) (a : Addr) (hs xs : List V) (h rs : List Run), vs = [.ref m, .ref e, .ref a] ∧ Mde CL H m t ys ∧ SqT K H e hs ∧ PairsV H hs h ∧ h.length ≤ 1000 ∧ (SqL K H a xs ∨ SqT K H a xs) ∧ RunsV K H xs rs ∧ rs.length ≤ 1000 ∧
  (∀ r ∈ rs, r.1 ∈ ys ∧ 1 ≤ r.2 ∧ r.2 ≤ 1000000000000000000000000000000) ∧ (spliceR h (joinR rs)).length ≤ 400 ∧ ∀ (H' : Hp) (c : Addr) (ks : List V), Same H H' → SqT K H' c ks → PairsV H' ks (spliceR h (joinR rs)) → Q (.ref c) H'
abbrev s_extended : Stmt := top 39
theorem sc_extended : FnScope ["letters", "kept", "runs", "together"] ["letters", "kept", "runs"] (defScope s_extended) := ⟨rfl, rfl, rfl, by decide +kernel, rfl, by decide +kernel, by decide +kernel⟩
theorem ok_extOk {f fR fS fJ CL : Addr} {fd fdR fdS fdJ : FuncData} (F : Fun K "extended" "extended" s_extended f fd) (T : Blt mg) (mM : ∃ u, mg "MOST_RUNS" = some u ∧ RelV (.int 400) u)
    (GR : FnOk P w K mg base CX0 3 fR fdR ["letters", "runs"] (spReqOk K CL)) (AR : At K mg "require_runs" fR fdR ["letters", "runs"])
    (GS : FnOk P w K mg base CX0 1 fS fdS ["head", "tail"] (spSpliced K)) (AS : At K mg "spliced" fS fdS ["head", "tail"])
    (GJ : FnOk P w K mg base CX0 1 fJ fdJ ["runs"] (spJoined K)) (AJ : At K mg "joined" fJ fdJ ["runs"]) :
    FnOk P w K mg base CX0 4 f fd ["letters", "kept", "runs"] (spExtOk K CL) := by
  refine F.ok sc_extended (fun vs H Q E h => ?_) (fun cdv A outer s H vs Q E hr h => ?_)
  · obtain ⟨m, t, e, ys, a, hs, xs, h, rs, rfl, _⟩ := h
    rfl
  · obtain ⟨m, t, e, ys, a, hs, xs, h, rs, rfl, hM, he, hh, lh, ha, hR, ln, hok, lm, k⟩ := h
    have hr1 := hr.mono (j := 1) (by decide)
    refine ⟨_, (pss_cons (ps_expr (pe_call GR hr (by rfl) AR.m AR.k AR.b .nil pass0 (pa_cons (pv 0) (pa_cons (pv 2) pa_nil))))
      (pss_cons (ps_set (i := 3) sc_extended.nd rfl (Or.inl rfl) (pe_call GS hr1 (by rfl) AS.m AS.k AS.b .nil pass0 (pa_cons (pv 1) (pa_cons (pe_call GJ hr1 (by rfl) AJ.m AJ.k AJ.b .nil pass0 (pa_cons (pv 2) pa_nil)) pa_nil))))
      (pss_cons (ps_if (pt_cmpR op_gt (pe_callB call_len_seq (by rfl) T.n_len (by decide +kernel) (pa_cons (pv 3) pa_nil)) (pe_gv rfl mM) (nomark _)) pss_never pss_nil)
      (pss_one (ps_ret (pv 3)))))), ?_⟩
    refine ⟨_, rfl, _, rfl, m, t, ys, a, xs, rs, rfl, hM, ha, hR, by omega, hok, fun H1 s1 => ?_⟩
    refine ⟨_, rfl, _, rfl, a, xs, rs, rfl, seqA_same ha s1, hR.same s1, by omega, fun H2 j js s2 hj hjs => ?_⟩
    have s02 := s1.trans s2
    refine ⟨e, j, hs, js, h, joinR rs, rfl, seqT_same s02 he, SqT.of hj, hh.same s02, hjs, by omega, (by have := joinR_len rs; omega), fun H3 c ks s3 hc hks => ?_⟩
    have s03 := s02.trans s3
    refine ⟨_, rfl, c, ks, rfl, .inr hc, _, _, rfl, rfl, _, rfl, ?_⟩
    have e1 := hks.1
    rw [decide_eq_false (by omega)]
    exact iteF ⟨_, rfl, k H3 c ks s03 hc hks⟩
end
end Ask

namespace Ask
open PySem L2
theorem kit_other {K : PySem.W.Frag} {T : String} {C : Addr} (h1 : PySem.W.isClsIn K C = true) (h2 : PySem.W.typeIn K (.ref C) = some (.type "type")) (h3 : PySem.W.subIn K (.type T) (.ref C) = some false) : PySem.W.kitOne K (.type T) (.ref C) = some false := by
  unfold PySem.W.kitOne
  rw [if_neg (by simp)]
  have e2 : ((PySem.W.clsIn K C).isSome && PySem.W.typeIn K (.ref C) == some (.type "type")) = true := by
    have h2' : (PySem.W.clsIn K C).isSome = true := h1
    rw [h2', h2] <;> rfl
  show (if ((PySem.W.clsIn K C).isSome && PySem.W.typeIn K (.ref C) == some (.type "type")) = true then PySem.W.subIn K (.type T) (.ref C) else none) = some false
  rw [if_pos e2]
  exact h3
theorem sub_list {K : PySem.W.Frag} {C : Addr} : PySem.W.subIn K (.type "list") (.ref C) = some false := by
  show (fastBuiltinMro "list").map (·.contains (.ref C)) = some false
  have e : fastBuiltinMro "list" = some [.type "list", .type "object"] := by decide +kernel
  rw [e]
  rfl
theorem sub_tuple {K : PySem.W.Frag} {C : Addr} : PySem.W.subIn K (.type "tuple") (.ref C) = some false := by
  show (fastBuiltinMro "tuple").map (·.contains (.ref C)) = some false
  have e : fastBuiltinMro "tuple" = some [.type "tuple", .type "object"] := by decide +kernel
  rw [e]
  rfl
/-- a class that is another one than list and tuple -/
structure OnC (K : PySem.W.Frag) (mg : Str → Option Value) (x : Str) (C : Addr) : Prop where
  m : mg x = some (.ref C)
  i : PySem.W.isClsIn K C = true
  t : PySem.W.typeIn K (.ref C) = some (.type "type")
theorem ty_seqA {K : PySem.W.Frag} {mg : Str → Option Value} {x : Str} {C a : Addr} {H : Hp} {xs : List V} (h : SqL K H a xs ∨ SqT K H a xs) (o : OnC K mg x C) : ∃ ty, TyX K H (.ref a) ty ∧ PySem.W.kitOne K ty (.ref C) = some false := by
  rcases h with h | h
  · exact ⟨_, ty_list h, kit_other o.i o.t sub_list⟩
  · exact ⟨_, ty_tup h, kit_other o.i o.t sub_tuple⟩
/-- the attributes that a history is given -/
structure HsC (K : PySem.W.Frag) (C : Addr) : Prop where
  c : Cls K C
  a1 : NoAttr K C "letters"
  a2 : NoAttr K C "beginning"
  a3 : NoAttr K C "runs"
  a4 : NoAttr K C "size"
  a5 : NoAttr K C "last"
section
variable {K : PySem.W.Frag} {H H' : Hp} {p a m t CL C dx : Addr} {ys : List Str} {fs : List (Str × V)} {xs : List V} {rs : List Run}
theorem Mde.but (h : Mde CL H m t ys) (k : ∀ b o, b ≠ p → H b = some o → H' b = some o) (hp : H p = some (.ins C dx fs)) (n : fs ≠ ([("words", V.ref t)] : List (Str × V)) := by intro z; cases z) : Mde CL H' m t ys := by
  obtain ⟨dx', ob, h1, h2, h3⟩ := h
  refine ⟨dx', ob, k _ _ ?_ h1, k _ _ ?_ h2, h3⟩
  · refine ne_of h1 hp ?_
    intro z
    injection z with z1 z2 z3
    exact n z3.symm
  · exact ne_of h2 hp (by intro z; cases z)
theorem seqL_but (h : SqL K H a xs) (k : ∀ b o, b ≠ p → H b = some o → H' b = some o) (hp : H p = some (.ins C dx fs)) : SqL K H' a xs := by
  rcases h with (h | ⟨o, h⟩) | h
  · exact .inl (.inl (k _ _ (ne_of h hp (by intro z; cases z)) h))
  · exact .inl (.inr ⟨o, k _ _ (ne_of h hp (by intro z; cases z)) h⟩)
  · exact .inr h
theorem seqT_but (h : SqT K H a xs) (k : ∀ b o, b ≠ p → H b = some o → H' b = some o) (hp : H p = some (.ins C dx fs)) : SqT K H' a xs := by
  rcases h with (h | ⟨o, h⟩) | h
  · exact .inl (.inl (k _ _ (ne_of h hp (by intro z; cases z)) h))
  · exact .inl (.inr ⟨o, k _ _ (ne_of h hp (by intro z; cases z)) h⟩)
  · exact .inr h
theorem seqA_but (h : SqL K H a xs ∨ SqT K H a xs) (k : ∀ b o, b ≠ p → H b = some o → H' b = some o) (hp : H p = some (.ins C dx fs)) : SqL K H' a xs ∨ SqT K H' a xs := by
  rcases h with h | h
  · exact .inl (seqL_but h k hp)
  · exact .inr (seqT_but h k hp)
theorem RunsV.but (h : RunsV K H xs rs) (k : ∀ b o, b ≠ p → H b = some o → H' b = some o) (hp : H p = some (.ins C dx fs)) : RunsV K H' xs rs := by
  refine ⟨h.1, fun i v r h1 h2 => ?_⟩
  obtain ⟨b, e, h3⟩ := h.2 i v r h1 h2
  exact ⟨b, e, seqA_but h3 k hp⟩
theorem PairsV.but (h : PairsV H xs rs) (k : ∀ b o, b ≠ p → H b = some o → H' b = some o) (hp : H p = some (.ins C dx fs)) : PairsV H' xs rs :=
  ⟨h.1, fun i v r h1 h2 => let ⟨b, e, h3⟩ := h.2 i v r h1 h2; ⟨b, e, k _ _ (ne_of h3 hp (by intro z; cases z)) h3⟩⟩
end
section
variable {P : Program} {w : World} {K : PySem.W.Frag} {mg : Str → Option Value} {base : Heap}
/-! ### require_beginning, where nothing is wrong -/
def spReqBeg : Sp := fun vs H Q _ => ∃ (b : Str), vs = [.str b] ∧ (b = "new" ∨ b = "found") ∧ Q .non H
abbrev s_require_beginning : Stmt := top 36
theorem sc_require_beginning : FnScope ["value"] ["value"] (defScope s_require_beginning) := ⟨rfl, rfl, rfl, by decide +kernel, rfl, by decide +kernel, by decide +kernel⟩
theorem ok_reqBeg {f fB : Addr} {fd fdB : FuncData} (F : Fun K "require_beginning" "require_beginning" s_require_beginning f fd)
    (GB : FnOk P w K mg base CX0 1 fB fdB ["value"] (spIsBeg K)) (AB : At K mg "is_beginning" fB fdB ["value"]) :
    FnOk P w K mg base CX0 2 f fd ["value"] spReqBeg := by
  refine F.ok sc_require_beginning (fun vs H Q E h => ?_) (fun cdv A outer s H vs Q E hr h => ?_)
  · obtain ⟨b, rfl, _⟩ := h
    rfl
  · obtain ⟨b, rfl, hb, k⟩ := h
    refine ⟨_, (pss_one (ps_if (pt_not (pt_val (pe_call GB hr (by rfl) AB.m AB.k AB.b .nil pass0 (pa_cons (pv 0) pa_nil)))) pss_never pss_nil)), ?_⟩
    exact ⟨_, rfl, b, rfl, hb, _, rfl, iteF k⟩
def spHist (K : PySem.W.Frag) (CL CH : Addr) : Sp := fun vs H Q _ => ∃ (p dx m t a : Addr) (b : Str) (ys : List Str) (xs : List V) (rs : List Run), vs = [.ref p, .ref m, .str b, .ref a] ∧ H p = some (.ins CH dx []) ∧ Mde CL H m t ys ∧ (b = "new" ∨ b = "found") ∧
  (SqL K H a xs ∨ SqT K H a xs) ∧ RunsV K H xs rs ∧ rs.length ≤ 1000 ∧ (∀ r ∈ rs, r.1 ∈ ys ∧ 1 ≤ r.2 ∧ r.2 ≤ 1000000000000000000000000000000) ∧ (joinR rs).length ≤ 400 ∧
  ∀ (H' : Hp) (c : Addr) (ks : List V), H' p = some (.ins CH dx (hf m c b (joinR rs))) → Mde CL H' m t ys → SqT K H' c ks → PairsV H' ks (joinR rs) → (∀ b o, b ≠ p → H b = some o → H' b = some o) → Q .non H'
abbrev s_Hist_init : Stmt := inClass (top 41) 0
theorem sc_Hist_init : FnScope ["self", "letters", "beginning", "runs"] ["self", "letters", "beginning", "runs"] (defScope s_Hist_init) := ⟨rfl, rfl, rfl, by decide +kernel, rfl, by decide +kernel, by decide +kernel⟩
theorem hist_binds {K : PySem.W.Frag} {d : V} {f : Addr} {fd : FuncData} (F : FunD K "__init__" "History.__init__" (defArgs s_Hist_init) (defBody s_Hist_init) (defScope s_Hist_init) [d] [] f fd) : (∃ u, RelV d u ∧ Binds K fd ["self", "letters", "beginning", "runs"] [u]) ∧ Binds K fd ["self", "letters", "beginning", "runs"] [] := by
  constructor
  · obtain ⟨ds, r, b⟩ := F.binds1 (ps := ["self", "letters", "beginning", "runs"]) 3 0 (by simp) rfl fun T kV doc pm an cdv ct us its hu hi => match us, hu, its, hi with | [_, _, _], _, [_], _ => ⟨_, rfl, rfl⟩
    obtain ⟨u, rfl, ru⟩ := vals1 r
    exact ⟨u, ru, b⟩
  · obtain ⟨ds, r, b⟩ := F.binds1 (ps := ["self", "letters", "beginning", "runs"]) 4 1 (by simp) rfl fun T kV doc pm an cdv ct us its hu hi => match us, hu, its, hi with | [_, _, _, _], _, [_], _ => ⟨_, rfl, rfl⟩
    cases r
    exact b
theorem ok_histInit {dvs : List V} {f fB fX fZ CL CH CK : Addr} {fd fdB fdX fdZ : FuncData} (F : FunD K "__init__" "History.__init__" (defArgs s_Hist_init) (defBody s_Hist_init) (defScope s_Hist_init) dvs [] f fd) (T : Blt mg) (hC : HsC K CH) (O : OnC K mg "CheckedRuns" CK)
    (GB : FnOk P w K mg base CX0 2 fB fdB ["value"] spReqBeg) (AB : At K mg "require_beginning" fB fdB ["value"])
    (GX : FnOk P w K mg base CX0 4 fX fdX ["letters", "kept", "runs"] (spExtOk K CL)) (AX : At K mg "extended" fX fdX ["letters", "kept", "runs"])
    (GZ : FnOk P w K mg base CX0 1 fZ fdZ ["runs"] (spSize K)) (AZ : At K mg "size_of" fZ fdZ ["runs"]) :
    FnOk P w K mg base CX0 5 f fd ["self", "letters", "beginning", "runs"] (spHist K CL CH) := by
  refine F.ok sc_Hist_init (fun vs H Q E h => ?_) (fun cdv A outer s H vs Q E hr h => ?_)
  · obtain ⟨p, dx, m, t, a, b, ys, xs, rs, rfl, _⟩ := h
    rfl
  · obtain ⟨p, dx, m, t, a, b, ys, xs, rs, rfl, hp, hM, hb, ha, hR, ln, hok, lm, k⟩ := h
    have hr1 := hr.mono (j := 1) (by decide)
    refine ⟨_, PSs.nox (pss_cons (ps_expr (pe_call GB (hr.mono (by decide)) (by rfl) AB.m AB.k AB.b .nil pass0 (pa_cons (pv 2) pa_nil)))
      (pss_cons (ps_fld (pv 0) (pv 1) rfl)
      (pss_cons (ps_fld (pv 0) (pv 2) rfl)
      (pss_cons (ps_fld (pv 0) (pe_ifExp (pt_val (pe_callB call_isi (by rfl) T.n_isinstance (by decide +kernel) (pa_cons (pv 3) (pa_cons (pe_gv (v := .ref CK) rfl ⟨_, O.m, rfl⟩) pa_nil)))) (pe_fld (pv 3) rfl) (pe_call GX hr (by rfl) AX.m AX.k AX.b .nil pass0 (pa_cons (pv 1) (pa_cons (pe_tup pa_nil) (pa_cons (pv 3) pa_nil))))) rfl)
      (pss_cons (ps_fld (pv 0) (pe_call GZ hr1 (by rfl) AZ.m AZ.k AZ.b .nil pass0 (pa_cons (pe_fld (pv 0) rfl) pa_nil)) rfl)
      (pss_one (ps_fld (pv 0) (pe_ifExp (pt_truth (pe_fld (pv 0) rfl) (by intro _; rfl)) (pe_ix ix_tup (pe_ix ix_tup (pe_fld (pv 0) rfl) (pe_un un_neg pe_int) (fun _ _ => rfl)) pe_int (fun _ _ => rfl)) (pv 2)) rfl))))))), ?_⟩
    refine ⟨_, rfl, b, rfl, hb, ?_⟩
    -- letters, beginning
    refine ⟨_, rfl, _, rfl, p, CH, dx, [], rfl, hp, hC.c, hC.a1, (by show 0 < 1000; decide), ?_⟩
    have p1 : upd H p (.ins CH dx [("letters", .ref m)]) p = some (.ins CH dx [("letters", .ref m)]) := upd_same
    refine ⟨_, rfl, _, rfl, p, CH, dx, _, rfl, p1, hC.c, hC.a2, (by show 1 < 1000; decide), ?_⟩
    have p2 : upd (upd H p (.ins CH dx (putF "letters" (.ref m) []))) p (.ins CH dx (putF "beginning" (.str b) [("letters", .ref m)])) p = some (.ins CH dx [("letters", .ref m), ("beginning", .str b)]) := upd_same
    have k2 : ∀ b' o, b' ≠ p → H b' = some o → upd (upd H p (.ins CH dx (putF "letters" (.ref m) []))) p (.ins CH dx (putF "beginning" (.str b) [("letters", .ref m)])) b' = some o := fun b' o hb e => by rw [upd_ne hb, upd_ne hb]; exact e
    generalize upd (upd H p (.ins CH dx (putF "letters" (.ref m) []))) p (.ins CH dx (putF "beginning" (.str b) [("letters", .ref m)])) = H2 at p2 k2 ⊢
    have hM2 := hM.but k2 hp
    have ha2 := seqA_but ha k2 hp
    have hR2 := hR.but k2 hp
    -- runs
    obtain ⟨ty, hty, hkt⟩ := ty_seqA ha2 O
    refine ⟨_, rfl, .ref a, .ref CK, ty, _, false, rfl, .own CK, hty, hkt, _, rfl, iteF ?_⟩
    refine ⟨_, rfl, by show 0 ≤ sizeLine; decide, fun e he => ?_⟩
    have s3 := Ask.Same.made1 (o := .tup []) (Same.refl H2) he
    have e3 : upd H2 e (.tup []) e = some (.tup []) := upd_same
    generalize upd H2 e (.tup []) = H3 at s3 e3 ⊢
    refine ⟨_, rfl, m, t, e, ys, a, [], xs, [], rs, rfl, hM2.same s3, SqT.of e3, PairsV.nil, by show 0 ≤ 1000; decide, seqA_same ha2 s3, hR2.same s3, ln, hok, by rw [splice_nil]; exact lm, fun H4 c ks s4 hc hks => ?_⟩
    rw [splice_nil] at hks
    have s24 := s3.trans s4
    refine ⟨_, rfl, p, CH, dx, _, rfl, s24 _ _ p2, hC.c, hC.a3, (by show 2 < 1000; decide), ?_⟩
    have p5 : upd H4 p (.ins CH dx (putF "runs" (.ref c) [("letters", .ref m), ("beginning", .str b)])) p = some (.ins CH dx [("letters", .ref m), ("beginning", .str b), ("runs", .ref c)]) := upd_same
    have k5 : ∀ b' o, b' ≠ p → H4 b' = some o → upd H4 p (.ins CH dx (putF "runs" (.ref c) [("letters", .ref m), ("beginning", .str b)])) b' = some o := fun b' o hb e => by rw [upd_ne hb]; exact e
    generalize upd H4 p (.ins CH dx (putF "runs" (.ref c) [("letters", .ref m), ("beginning", .str b)])) = H5 at p5 k5 ⊢
    have p4 := s24 _ _ p2
    have hM5 := (hM2.same s24).but k5 p4
    have hc5 := seqT_but hc k5 p4
    have hks5 := hks.but k5 p4
    have kk5 : ∀ b' o, b' ≠ p → H b' = some o → H5 b' = some o := fun b' o hb e => k5 _ _ hb (s24 _ _ (k2 _ _ hb e))
    -- size
    refine ⟨_, rfl, p, CH, dx, _, _, rfl, p5, hC.c, hC.a3, rfl, c, ks, joinR rs, rfl, .inr hc5, hks5.runs, by omega, fun H6 s6 => ?_⟩
    have p6 := s6 _ _ p5
    refine ⟨_, rfl, p, CH, dx, _, rfl, p6, hC.c, hC.a4, (by show 3 < 1000; decide), ?_⟩
    have p7 : upd H6 p (.ins CH dx (putF "size" (.int (sizeR (joinR rs))) [("letters", .ref m), ("beginning", .str b), ("runs", .ref c)])) p = some (.ins CH dx [("letters", .ref m), ("beginning", .str b), ("runs", .ref c), ("size", .int (sizeR (joinR rs)))]) := upd_same
    have k7 : ∀ b' o, b' ≠ p → H6 b' = some o → upd H6 p (.ins CH dx (putF "size" (.int (sizeR (joinR rs))) [("letters", .ref m), ("beginning", .str b), ("runs", .ref c)])) b' = some o := fun b' o hb e => by rw [upd_ne hb]; exact e
    generalize upd H6 p (.ins CH dx (putF "size" (.int (sizeR (joinR rs))) [("letters", .ref m), ("beginning", .str b), ("runs", .ref c)])) = H7 at p7 k7 ⊢
    have hM7 := (hM5.same s6).but k7 p6
    have hc7 := seqT_but (seqT_same s6 hc5) k7 p6
    have hks7 := (hks5.same s6).but k7 p6
    have kk7 : ∀ b' o, b' ≠ p → H b' = some o → H7 b' = some o := fun b' o hb e => k7 _ _ hb (s6 _ _ (kk5 _ _ hb e))
    -- last
    have fin : ∀ z : Str, z = lastR b (joinR rs) → Q .non (upd H7 p (.ins CH dx (putF "last" (.str z) [("letters", .ref m), ("beginning", .str b), ("runs", .ref c), ("size", .int (sizeR (joinR rs)))]))) := fun z hz => by
      have p8 : upd H7 p (.ins CH dx (putF "last" (.str z) [("letters", .ref m), ("beginning", .str b), ("runs", .ref c), ("size", .int (sizeR (joinR rs)))])) p = some (.ins CH dx (hf m c b (joinR rs))) := by
        rw [hz]
        exact upd_same
      have k8 : ∀ b' o, b' ≠ p → H7 b' = some o → upd H7 p (.ins CH dx (putF "last" (.str z) [("letters", .ref m), ("beginning", .str b), ("runs", .ref c), ("size", .int (sizeR (joinR rs)))])) b' = some o := fun b' o hb e => by rw [upd_ne hb]; exact e
      exact k _ c ks p8 (hM7.but k8 p7) (seqT_but hc7 k8 p7) (hks7.but k8 p7) fun b' o hb e => k8 _ _ hb (kk7 _ _ hb e)
    refine ⟨_, rfl, p, CH, dx, _, _, rfl, p7, hC.c, hC.a3, rfl, !ks.isEmpty, .inr (.inl ⟨ks, hc7, rfl⟩), ite2 (fun q => ?_) (fun q => ?_)⟩
    · have q0 : ks ≠ [] := fun z => by subst z; cases q
      have l1 : 1 ≤ ks.length := List.length_pos_iff.mpr q0
      have e1 := hks7.1
      obtain ⟨l, hl⟩ : ∃ l, (joinR rs)[(joinR rs).length - 1]? = some l := ⟨_, List.getElem?_eq_getElem (by omega)⟩
      obtain ⟨x, hx, hx2⟩ := hks7.get hl
      rw [← e1] at hx
      refine ⟨_, rfl, p, CH, dx, _, _, rfl, p7, hC.c, hC.a3, rfl, _, rfl, c, _, _, _, rfl, rfl, hc7, atI_back hx, x, _, _, _, rfl, rfl, SqT.of hx2, at_by (j := 0) rfl rfl, ?_⟩
      refine ⟨_, rfl, p, CH, dx, _, rfl, p7, hC.c, hC.a5, (by show 4 < 1000; decide), fin l.1 ?_⟩
      unfold lastR
      rw [List.getLast?_eq_getElem?, hl]
      rfl
    · have q : (!ks.isEmpty) = false := (Bool.not_eq_true _).mp q
      have q0 : ks = [] := by cases ks with | nil => rfl | cons => cases q
      have q1 : joinR rs = [] := List.eq_nil_of_length_eq_zero (by rw [← hks7.1, q0]; rfl)
      refine ⟨_, rfl, _, rfl, p, CH, dx, _, rfl, p7, hC.c, hC.a5, (by show 4 < 1000; decide), fin b ?_⟩
      rw [q1]
      rfl
end
end Ask

namespace Ask
open PySem L2
section
variable {K : PySem.W.Frag} {H H' : Hp} {a b : Addr} {xs ys : List V} {Q : VK} {lo hi : Option Int}
theorem sl_any (h : SqT K H a xs) (k : ∀ (H' : Hp) (q : Addr), Same H H' → SqT K H' q (cutV xs lo hi) → Q (.ref q) H') : rSlA K (.ref a) lo hi H Q := by
  refine ⟨a, xs, rfl, h, fun z => ?_, fun _ p hp => k _ p (Ask.Same.made1 (Same.refl H) hp) (SqT.of upd_same)⟩
  refine k H a (Same.refl H) ?_
  have e : cutV xs lo hi = xs := by
    unfold cutV
    rw [z.1, z.2, List.drop_zero, Nat.sub_zero, List.take_length]
  rw [e]
  exact h
theorem sl_from {σ : L2.St} (h : SqT K H a xs) (k : ∀ (H' : Hp) (q : Addr), Same H H' → SqT K H' q (cutV xs lo none) → Q (.ref q) H') : tNoPart σ H (fun u H1 => rSlA K (.ref a) lo u H1 Q) := by
  show rSlA K (.ref a) lo none H Q
  exact sl_any h k
theorem cat_any (h : SqT K H a xs) (h' : SqT K H b ys) (l : xs.length + ys.length ≤ 1000000) (k : ∀ (H' : Hp) (q : Addr), Same H H' → SqT K H' q (xs ++ ys) → Q (.ref q) H') : rCatA K (.ref a) (.ref b) H Q := by
  have z1 : (1000000 : Nat) ≤ sizeLine := by decide
  refine ⟨a, b, xs, ys, rfl, rfl, h, h', by omega, fun z => ?_, fun _ z => ?_, fun _ _ p hp => k _ p (Ask.Same.made1 (Same.refl H) hp) (SqT.of upd_same)⟩
  · subst z
    exact k H b (Same.refl H) h'
  · subst z
    exact k H a (Same.refl H) (by rw [List.append_nil]; exact h)
theorem cutV_to {n : Nat} : cutV xs none (some (n : Int)) = xs.take n := by
  unfold cutV
  rw [HT.sIx_none, HT.sIx_nat, List.drop_zero, Nat.sub_zero]
  by_cases h : n ≤ xs.length
  · rw [Nat.min_eq_left h]
  · rw [Nat.min_eq_right (by omega), List.take_length, List.take_of_length_le (by omega)]
theorem cutV_from {n : Nat} : cutV xs (some (n : Int)) none = xs.drop n := by
  unfold cutV
  rw [HT.sIx_none, HT.sIx_nat]
  by_cases h : n ≤ xs.length
  · rw [Nat.min_eq_left h, List.take_of_length_le (by rw [List.length_drop]; omega)]
  · rw [Nat.min_eq_right (by omega), Nat.sub_self, List.take_zero, List.drop_of_length_le (by omega)]
end
/-! ### parted: the mirror -/
def partR : List Run → Int → Option (List Run × List Run)
  | [], n => if n = 0 then some ([], []) else none
  | r :: rs, n => if n = 0 then some ([], r :: rs) else if n < r.2 then some ([(r.1, n)], (r.1, r.2 - n) :: rs) else (partR rs (n - r.2)).map fun p => (r :: p.1, p.2)
def partAt (rs : List Run) (i : Nat) (n : Int) : Option (List Run × List Run) := (partR (rs.drop i) n).map fun p => (rs.take i ++ p.1, p.2)
theorem partAt_zero (rs : List Run) (n : Int) : partAt rs 0 n = partR rs n := by
  unfold partAt
  rw [List.drop_zero, List.take_zero]
  cases partR rs n <;> rfl
theorem partAt_eq0 {rs : List Run} {i : Nat} {r : Run} (h : rs[i]? = some r) : partAt rs i 0 = some (rs.take i, rs.drop i) := by
  unfold partAt
  rw [List.drop_eq_getElem_cons (List.getElem?_eq_some_iff.mp h).1, partR, if_pos rfl, Option.map_some, List.append_nil]
theorem partAt_lt {rs : List Run} {i : Nat} {r : Run} {n : Int} (h : rs[i]? = some r) (h0 : n ≠ 0) (h1 : n < r.2) : partAt rs i n = some (rs.take i ++ [(r.1, n)], (r.1, r.2 - n) :: rs.drop (i + 1)) := by
  unfold partAt
  obtain ⟨hi, e⟩ := List.getElem?_eq_some_iff.mp h
  rw [List.drop_eq_getElem_cons hi, e, partR, if_neg h0, if_pos h1]
  rfl
theorem partAt_ge {rs : List Run} {i : Nat} {r : Run} {n : Int} (h : rs[i]? = some r) (h0 : n ≠ 0) (h1 : ¬ n < r.2) : partAt rs i n = partAt rs (i + 1) (n - r.2) := by
  unfold partAt
  obtain ⟨hi, e⟩ := List.getElem?_eq_some_iff.mp h
  rw [List.drop_eq_getElem_cons hi, e, partR, if_neg h0, if_neg h1, List.take_add_one, h]
  cases partR (rs.drop (i + 1)) (n - r.2) with
  | none => rfl
  | some p =>
    show some (rs.take i ++ r :: p.1, p.2) = some (rs.take i ++ [r] ++ p.1, p.2)
    rw [List.append_assoc]
    rfl
theorem partAt_end {rs : List Run} {n : Int} : partAt rs rs.length n = if n = 0 then some (rs, []) else none := by
  unfold partAt
  rw [List.drop_length, partR, List.take_length]
  by_cases h : n = 0
  · rw [if_pos h, if_pos h, Option.map_some, List.append_nil]
  · rw [if_neg h, if_neg h]
    rfl
section
variable {P : Program} {w : World} {K : PySem.W.Frag} {mg : Str → Option Value} {base : Heap}
def spParted (K : PySem.W.Frag) : Sp := fun vs H Q _ => ∃ (a : Addr) (n : Int) (ks : List V) (rs : List Run), vs = [.ref a, .int n] ∧ SqT K H a ks ∧ PairsV H ks rs ∧ rs.length ≤ 10000 ∧
  (∀ f b, partR rs n = some (f, b) → ∀ (H' : Hp) (t x y : Addr) (xs ys : List V), Same H H' → H' t = some (.tup [.ref x, .ref y]) → SqT K H' x xs → PairsV H' xs f → SqT K H' y ys → PairsV H' ys b → Q (.ref t) H') ∧
  (partR rs n = none → ∀ H', Same H H' → Q .non H')
abbrev s_parted : Stmt := top 29
theorem sc_parted : FnScope ["runs", "size", "left", "index", "letter", "count"] ["runs", "size"] (defScope s_parted) := ⟨rfl, rfl, rfl, by decide +kernel, rfl, by decide +kernel, by decide +kernel⟩
theorem ok_parted {f : Addr} {fd : FuncData} (F : Fun K "parted" "parted" s_parted f fd) (T : Blt mg) : FnOk P w K mg base CX0 1 f fd ["runs", "size"] (spParted K) := by
  refine F.ok sc_parted (fun vs H Q E h => ?_) (fun cdv A outer s H vs Q E hr h => ?_)
  · obtain ⟨a, n, ks, rs, rfl, _⟩ := h
    rfl
  · obtain ⟨a, n, ks, rs, rfl, ha, hR, ln, k, kN⟩ := h
    refine ⟨_, (pss_cons (ps_set (i := 2) sc_parted.nd rfl (Or.inl rfl) (pv 1))
      (pss_cons (ps_for PassesOwn.never rfl (pi_enumA (by rfl) T.n_enumerate (pa_cons (pv 0) pa_nil)) (pg_tup rfl (pgs_cons (pg_name (i := 3) sc_parted.nd rfl (Or.inl rfl)) (pgs_cons (pg_tup rfl (pgs_cons (pg_name (i := 4) sc_parted.nd rfl (Or.inl rfl)) (pgs_cons (pg_name (i := 5) sc_parted.nd rfl (Or.inl rfl)) pgs_nil))) pgs_nil))) (pss_cons (ps_if (pt_cmpR op_eq (pv 2) pe_int (nomark _)) (pss_one (ps_ret (pe_tup (pa_cons (pe_slice sl_tupA (pv 0) po_none (po_some (pv 3))) (pa_cons (pe_slice sl_tupA (pv 0) (po_some (pv 3)) po_none) pa_nil))))) pss_nil)
      (pss_cons (ps_if (pt_cmpR op_lt (pv 2) (pv 5) (nomark _)) (pss_one (ps_ret (pe_tup (pa_cons (pe_op op_catA (pe_slice sl_tupA (pv 0) po_none (po_some (pv 3))) (pe_tup (pa_cons (pe_tup (pa_cons (pv 4) (pa_cons (pv 2) pa_nil))) pa_nil))) (pa_cons (pe_op op_catA (pe_tup (pa_cons (pe_tup (pa_cons (pv 4) (pa_cons (pe_op op_sub (pv 5) (pv 2)) pa_nil))) pa_nil)) (pe_slice sl_tupA (pv 0) (po_some (pe_op op_add (pv 3) pe_int)) po_none)) pa_nil))))) pss_nil)
      (pss_one (ps_set (i := 2) sc_parted.nd rfl (Or.inl rfl) (pe_op op_sub (pv 2) (pv 5)))))))
      (pss_one (ps_ret (pe_ifExp (pt_cmpR op_eq (pv 2) pe_int (nomark _)) (pe_tup (pa_cons (pv 0) (pa_cons (pe_tup pa_nil) pa_nil))) pe_non))))), ?_⟩
    have z1 : (100000 : Nat) ≤ sizeLine := by decide
    have el := hR.1
    refine ⟨_, rfl, ?_⟩
    have fits : ∀ (R : It → Hp → Prop), R (IteT K a) H → iEnumA K (tCons (tVar 0) tNil) [some (.ref a), some (.int n), some (.int n), none, none, none] H R := fun R r => ⟨_, rfl, a, ks, rfl, .inr ⟨ha, r⟩⟩
    refine for_enum fits walk_enumT (fun i σ' H' => ∃ (l : Int) (o3 o4 o5 : Option V), σ' = [some (.ref a), some (.int n), some (.int l), o3, o4, o5] ∧ Same H H' ∧ partR rs n = partAt rs i l)
      ⟨n, none, none, none, rfl, Same.refl H, (partAt_zero rs n).symm⟩ (fun i σ' H' _ ⟨_, _, _, _, _, s', _⟩ => seqT_same s' ha) ?_ ?_
    · rintro i x σ' H2 H3 hi ⟨l, o3, o4, o5, rfl, s2, ep⟩ ⟨t2, x0, y0, rfl, ht, rfl, ex, ey⟩
      cases ex
      replace ey : ks[i]? = some y0 := ey
      obtain ⟨r, hri⟩ : ∃ r, rs[i]? = some r := ⟨_, List.getElem?_eq_getElem (by omega)⟩
      obtain ⟨b, rfl, hb⟩ := hR.2 i y0 r ey hri
      have s3 := Ask.Same.made1 (o := .tup [.int (i : Nat), .ref b]) s2 ht
      have ht3 : upd H2 t2 (.tup [.int (i : Nat), .ref b]) t2 = some (.tup [.int (i : Nat), .ref b]) := upd_same
      generalize upd H2 t2 (.tup [.int (i : Nat), .ref b]) = H4 at s3 ht3 ⊢
      have hb4 := s3 _ _ hb
      refine ⟨t2, _, rfl, SqT.of ht3, rfl, _, _, rfl, _, _, rfl, b, _, rfl, SqT.of hb4, rfl, _, _, rfl, _, _, rfl, rfl, rfl, ?_⟩
      have ha4 := seqT_same s3 ha
      refine ⟨_, rfl, rfl, _, rfl, ite2 (fun q => ?_) (fun q => ?_)⟩
      · have q : l = 0 := V.int.inj (of_decide_eq_true q)
        subst q
        rw [partAt_eq0 hri] at ep
        refine ⟨_, rfl, _, rfl, _, rfl, sl_any ha4 fun H5 u s5 hu => ?_⟩
        have ha5 := seqT_same s5 ha4
        refine ⟨_, rfl, _, rfl, _, rfl, sl_from ha5 fun H6 v s6 hv => ?_⟩
        refine ⟨by show 2 ≤ sizeLine; decide, fun t ht => ?_⟩
        have s7 := Ask.Same.made1 (o := .tup [.ref u, .ref v]) (Same.refl H6) ht
        have s67 := s6.trans s7
        have s47 := (s5.trans s67)
        rw [cutV_to] at hu
        rw [cutV_from] at hv
        exact k _ _ ep _ t u v _ _ (s3.trans s47) upd_same (seqT_same s67 hu) ((hR.take i).same (s3.trans s47)) (seqT_same s7 hv) ((hR.drop i).same (s3.trans s47))
      have q0 : ¬ l = 0 := fun z => q (decide_eq_true (congrArg V.int z))
      clear q
      refine ⟨_, rfl, _, rfl, _, _, rfl, rfl, _, rfl, ite2 (fun q => ?_) (fun q => ?_)⟩
      · have q : l < r.2 := of_decide_eq_true q
        rw [partAt_lt hri q0 q] at ep
        -- the first part
        refine ⟨_, rfl, _, rfl, _, rfl, sl_any ha4 fun H5 u s5 hu => ?_⟩
        rw [cutV_to] at hu
        refine ⟨_, rfl, _, rfl, by show 2 ≤ sizeLine; decide, fun v hv => ?_⟩
        have s6 := Ask.Same.made1 (o := .tup [.str r.1, .int l]) (Same.refl H5) hv
        have hv6 : upd H5 v (.tup [.str r.1, .int l]) v = some (.tup [.str r.1, .int l]) := upd_same
        generalize upd H5 v (.tup [.str r.1, .int l]) = H6 at s6 hv6 ⊢
        refine ⟨by show 1 ≤ sizeLine; decide, fun w hw => ?_⟩
        have s7 := Ask.Same.made1 (o := .tup [.ref v]) (Same.refl H6) hw
        have hw7 : upd H6 w (.tup [.ref v]) w = some (.tup [.ref v]) := upd_same
        generalize upd H6 w (.tup [.ref v]) = H7 at s7 hw7 ⊢
        have s57 := s6.trans s7
        have lk : (ks.take i).length ≤ ks.length := by rw [List.length_take]; omega
        refine cat_any (seqT_same s57 hu) (SqT.of hw7) (by rw [List.length_singleton]; omega) fun H8 g s8 hg => ?_
        have s48 := (s5.trans s57).trans s8
        have hf8 : PairsV H8 (ks.take i ++ [.ref v]) (rs.take i ++ [(r.1, l)]) := ((hR.take i).same (s3.trans s48)).cat (.one (s8 _ _ (s7 _ _ hv6)))
        have ha8 := seqT_same s48 ha4
        clear hw7 hv6 hw hv hu s57 s7 s6 s5
        -- the second part
        refine ⟨_, rfl, _, rfl, _, rfl, _, _, rfl, rfl, by show 2 ≤ sizeLine; decide, fun v hv => ?_⟩
        have s6 := Ask.Same.made1 (o := .tup [.str r.1, .int (r.2 - l)]) (Same.refl H8) hv
        have hv6 : upd H8 v (.tup [.str r.1, .int (r.2 - l)]) v = some (.tup [.str r.1, .int (r.2 - l)]) := upd_same
        generalize upd H8 v (.tup [.str r.1, .int (r.2 - l)]) = H9 at s6 hv6 ⊢
        refine ⟨by show 1 ≤ sizeLine; decide, fun w hw => ?_⟩
        have s7 := Ask.Same.made1 (o := .tup [.ref v]) (Same.refl H9) hw
        have hw7 : upd H9 w (.tup [.ref v]) w = some (.tup [.ref v]) := upd_same
        generalize upd H9 w (.tup [.ref v]) = Ha at s7 hw7 ⊢
        refine ⟨_, rfl, _, rfl, _, _, rfl, rfl, _, rfl, sl_from (seqT_same (s6.trans s7) ha8) fun Hb u2 s9 hu2 => ?_⟩
        rw [show ((i : Nat) : Int) + 1 = ((i + 1 : Nat) : Int) from rfl, cutV_from] at hu2
        have ld : (ks.drop (i + 1)).length ≤ ks.length := by rw [List.length_drop]; omega
        refine cat_any (seqT_same s9 (SqT.of hw7)) hu2 (by rw [List.length_singleton]; omega) fun Hc g2 s10 hg2 => ?_
        have s8c := ((s6.trans s7).trans s9).trans s10
        have s04 := s3.trans (s48.trans s8c)
        have hb8 : PairsV Hc ([.ref v] ++ ks.drop (i + 1)) ((r.1, r.2 - l) :: rs.drop (i + 1)) := (PairsV.one (r := (r.1, r.2 - l)) (s10 _ _ (s9 _ _ (s7 _ _ hv6)))).cat ((hR.drop (i + 1)).same s04)
        refine ⟨by show 2 ≤ sizeLine; decide, fun t ht => ?_⟩
        have s11 := Ask.Same.made1 (o := .tup [.ref g, .ref g2]) (Same.refl Hc) ht
        exact k _ _ ep _ t g g2 _ _ (s04.trans s11) upd_same (seqT_same (s8c.trans s11) hg) (hf8.same (s8c.trans s11)) (seqT_same s11 hg2) (hb8.same s11)
      · have q : ¬ l < r.2 := fun z => q (decide_eq_true z)
        rw [partAt_ge hri q0 q] at ep
        refine ⟨_, rfl, _, rfl, _, _, rfl, rfl, l - r.2, _, _, _, rfl, s3, ep⟩
    · rintro σ' H2 ⟨l, o3, o4, o5, rfl, s2, ep⟩
      rw [el, partAt_end] at ep
      refine ⟨_, rfl, rfl, _, rfl, ite2 (fun q => ?_) (fun q => ?_)⟩
      · have q : l = 0 := V.int.inj (of_decide_eq_true q)
        subst q
        rw [if_pos rfl] at ep
        refine ⟨_, rfl, by show 0 ≤ sizeLine; decide, fun e he => ?_⟩
        have s3 := Ask.Same.made1 (o := .tup []) s2 he
        have he3 : upd H2 e (.tup []) e = some (.tup []) := upd_same
        generalize upd H2 e (.tup []) = H3 at s3 he3 ⊢
        refine ⟨by show 2 ≤ sizeLine; decide, fun t ht => ?_⟩
        have s4 := Ask.Same.made1 (o := .tup [.ref a, .ref e]) (Same.refl H3) ht
        exact k _ _ ep _ t a e _ _ (s3.trans s4) upd_same (seqT_same (s3.trans s4) ha) (hR.same (s3.trans s4)) (seqT_same s4 (SqT.of he3)) PairsV.nil
      · have q0 : ¬ l = 0 := fun z => q (decide_eq_true (congrArg V.int z))
        rw [if_neg q0] at ep
        exact kN ep H2 s2
end
end Ask

/-! defs that are called where no repr is under way; repr of any data -/
namespace Ask
open PySem L2 PySem.Spec PyProof.Rows
structure FnG (P : Program) (w : World) (K : PySem.W.Frag) (mg : Str → Option Value) (base : Heap) (CX : CXT) (k : Nat) (f : Addr) (fd : FuncData) (ps : List Str) (sp : Sp) : Prop where
  long : ∀ xs J R Z, sp xs J R Z → xs.length = ps.length
  goes : ∀ (A : Around) (out : List Env) (s : Shared) (J : Hp) (args : Args) (us : List Value) (xs : List V) (R : VK) (Z : XK), A.guards = some [] → Room k A → Env0 P w K mg base A out s J → BindsTo s fd args (ps.zip us) → Vals xs us → sp xs J R Z →
    codeAny (model P w) A (.call (.ref f) args) (CR CX out P w J s R Z) s
theorem FnG.mk0 {P : Program} {w : World} {K : PySem.W.Frag} {mg : Str → Option Value} {base : Heap} {CX : CXT} {k : Nat} {f : Addr} {x qual : Str} {st : Stmt} {fd : FuncData} {N ps : List Str} {sp : Sp} (F : Fun K x qual st f fd) (S : FnScope N ps (defScope st)) (ln : ∀ xs J R Z, sp xs J R Z → xs.length = ps.length)
    (hb : ∀ (cdv : Value) (A : Around) (out : List Env) (s : Shared) (J : Hp) (xs : List V) (R : VK) (Z : XK), A.guards = some [] → Room k (A.deeper (envOfC qual (defScope st) s.heap.objs.size f cdv)) → sp xs J R Z →
      ∃ t, PSs (cxOf CX P w K mg base N qual (defScope st) f cdv A out s J Z) (defBody st) t ∧ t { nx := fun _ H' => R .non H', rt := R } (start N xs) J) : FnG P w K mg base CX (k + 1) f fd ps sp :=
  ⟨ln, fun A out s J args us xs R Z hg hr e0 bd r q => fn_run F S hr e0 bd r (ln _ _ _ _ q) fun cdv hr' => hb cdv A out s J xs R Z hg hr' q⟩
theorem run_fnG {X : Cx} {CX : CXT} {k : Nat} {f : Addr} {fd : FuncData} {ps : List Str} {sp : Sp} {Z : XK} {pins : List (Addr × Obj)} {σ : L2.St} {J : Hp} {s : Shared} {R : VK} {us : List Value} {xs : List V} (F : FnG X.prog X.w X.K X.mg X.base CX k f fd ps sp) (hg : X.A.guards = some []) (hr : Room k X.A)
    (hb : Binds X.K fd ps []) (hx : Passes CX X Z) (I : Inv X pins σ J s) (r : Vals xs us) (q : sp xs J R Z) : wpAny (model X.prog X.w) X.A (call (.ref f) us) (EP X pins σ R) X.xe s := by
  have ul : us.length = ps.length := r.length.symm.trans (F.long _ _ _ _ q)
  have bd := hb s us I.kIn ((List.append_nil us).symm ▸ ul)
  rw [List.append_nil] at bd
  refine wpAny_call (codeAny_mono (F.goes X.A X.stack s J ⟨us, []⟩ us xs R Z hg hr I.env0 bd r q) fun got s' z => ?_)
  rcases got with e | fl
  · exact hx pins σ J s e s' I z
  · cases fl <;> first | exact I.after z | exact False.elim z
theorem pe_callG {X : Cx} {CX : CXT} {k : Nat} {f : Addr} {fd : FuncData} {ps : List Str} {sp : Sp} {Z : XK} {x : Str} {p pos : Pos} {e : Expr} {es : List Expr} {t : TA} (F : FnG X.prog X.w X.K X.mg X.base CX k f fd ps sp) (hG : X.A.guards = some []) (hr : Room k X.A) (hg : Gl X x) (hm : X.mg x = some (.ref f))
    (hk : PySem.W.keepIn X.K (.ref f) = true) (hb : Binds X.K fd ps []) (hx : Passes CX X Z) (ha : PA X (e :: es) t) (hdb : (x == ("__debug__" : Str)) = false := by decide) (he : starEach (e :: es) X.env = (false, eval e X.env) :: starEach es X.env := by rfl) (hpl : (backTo pos (starEach es X.env)).any (·.1) = false := by rfl) :
    PE X (.Call (.Name x p) (e :: es) [] pos) (fun σ J R => t σ J fun xs J1 => sp xs J1 R Z) := by
  constructor
  intro pins s σ J R I q
  refine wpAny_Call_Name_kw (ld_glob I hg hm ?_ hdb)
  exact PySem.W.callWith_K (h₀ := X.base) I.ok.mod.kin hk (thn (ha.run pos pins s σ J _ I q) fun us s1 ⟨xs, J1, I1, r, z⟩ => ⟨I1.kIn, run_fnG F hG hr hb hx I1 r z⟩) he hpl
/-- repr of data of any kind -/
def rReprV (K : PySem.W.Frag) : List V → Hp → VK → Prop := fun xs J R => ∃ (x : V) (d : PyData), xs = [x] ∧ Dp K J x d ∧ d.showable = true ∧ d.hasDict = false ∧ d.depth ≤ 30 ∧ d.shown.length ≤ sizeLine ∧ R (.str d.shown) J
theorem call_reprV {X : Cx} (hg : X.A.guards = some []) (hu : X.A.units + 64 < cLine) : CallR X (.builtin "repr") (rReprV X.K) := by
  intro pins s σ J xs us R I r h
  obtain ⟨x, d, rfl, hd, sh, nd, dp, sz, q⟩ := h
  have lst : ∀ a, x = .ref a → wpAny (model X.prog X.w) X.A (call (.builtin "repr") us) (EP X pins σ R) X.xe s := fun a e => by
    subst e
    exact call_reprD hg hu pins s σ J _ us R I r ⟨a, d, rfl, hd, sh, nd, dp, sz, q⟩
  obtain ⟨u, rfl, ra⟩ := vals1 r
  cases hd with
  | non =>
    obtain rfl : u = Value.none := ra
    exact P.repr_of_none ⟨.str _, J, I.tok _, ⟨_, rfl⟩, by simpa only [PyData.shown] using q⟩
  | bl b =>
    obtain rfl : u = Value.bool b := ra
    exact P.repr_of_bool ⟨.str _, J, I.tok _, ⟨_, rfl⟩, by simpa only [PyData.shown] using q⟩
  | int i =>
    obtain ⟨t, rfl⟩ := ra
    exact P.repr_of_int (of_decide_eq_true (by simpa only [PyData.showable] using sh)) ⟨.str _, J, I.tok _, ⟨_, rfl⟩, by simpa only [PyData.shown] using q⟩
  | str z =>
    obtain ⟨t, rfl⟩ := ra
    exact P.repr_of_str ⟨.str _, J, I.tok _, ⟨_, rfl⟩, by simpa only [PyData.shown] using q⟩ (by simpa only [PyData.shown] using sz)
  | lst h1 h2 => exact lst _ rfl
  | tup h1 h2 => exact lst _ rfl
end Ask

namespace Ask
open PySem L2
/-- a value that is no object -/
def Fl (x : V) : Prop := x = .non ∨ (∃ b, x = .bl b) ∨ (∃ i, x = .int i) ∨ ∃ z, x = .str z
theorem Fl.kit {K : PySem.W.Frag} {H : Hp} {x : V} (h : Fl x) : ∃ T, TyX K H x (.type T) ∧ PySem.W.kitOne K (.type T) (.type "list") = some false ∧ PySem.W.kitOne K (.type T) (.type "tuple") = some false ∧ PySem.W.kitOne K (.type T) (.type "dict") = some false := by
  rcases h with rfl | ⟨b, rfl⟩ | ⟨i, rfl⟩ | ⟨z, rfl⟩
  · exact ⟨_, .base .non, kit_ty (by decide +kernel), kit_ty (by decide +kernel), kit_ty (by decide +kernel)⟩
  · exact ⟨_, .base (.bl b), kit_ty (by decide +kernel), kit_ty (by decide +kernel), kit_ty (by decide +kernel)⟩
  · exact ⟨_, .base (.int i), kit_ty (by decide +kernel), kit_ty (by decide +kernel), kit_ty (by decide +kernel)⟩
  · exact ⟨_, .base (.str z), kit_ty (by decide +kernel), kit_ty (by decide +kernel), kit_ty (by decide +kernel)⟩
/-- a value that is no object, as data -/
def flD : V → PyData
  | .bl b => .bool b
  | .int i => .int i
  | .str z => .str z
  | _ => .none
theorem Fl.dp {K : PySem.W.Frag} {H : Hp} {x : V} (h : Fl x) : Dp K H x (flD x) := by
  rcases h with rfl | ⟨b, rfl⟩ | ⟨i, rfl⟩ | ⟨z, rfl⟩
  · exact .non
  · exact .bl b
  · exact .int i
  · exact .str z
theorem Fl.dps {K : PySem.W.Frag} {H : Hp} : ∀ {zs : List V}, (∀ z ∈ zs, Fl z) → DpAll K H zs (zs.map flD)
  | [], _ => .nil
  | z :: zs, h => .cons (h z (List.mem_cons_self ..)).dp (Fl.dps fun x hx => h x (List.mem_cons_of_mem _ hx))
/-- what is copied, as x: itself, or a list or a tuple of such; D tells it -/
def CopyOk (K : PySem.W.Frag) (H : Hp) (x : V) (D : PyData) : Prop := (Fl x ∧ D = flD x) ∨ ∃ (a : Addr) (zs : List V), x = .ref a ∧ (∀ z ∈ zs, Fl z) ∧ zs.length ≤ 1000 ∧ ((SqL K H a zs ∧ D = .list (zs.map flD)) ∨ (SqT K H a zs ∧ D = .tuple (zs.map flD)))
/-- y is a copy of what D tells -/
def Cpy (D : PyData) (H' : Hp) (y : V) : Prop := (Fl y ∧ D = flD y) ∨ ∃ (b : Addr) (zs : List V), y = .ref b ∧ (∀ z ∈ zs, Fl z) ∧ ((D = .list (zs.map flD) ∧ H' b = some (.lst zs)) ∨ (D = .tuple (zs.map flD) ∧ H' b = some (.tup zs)))
theorem Cpy.dp {K : PySem.W.Frag} {D : PyData} {H : Hp} {y : V} (h : Cpy D H y) : Dp K H y D := by
  rcases h with ⟨h, rfl⟩ | ⟨b, zs, rfl, f, ⟨rfl, h⟩ | ⟨rfl, h⟩⟩
  · exact h.dp
  · exact .lst (SqL.of h) (Fl.dps f)
  · exact .tup (SqT.of h) (Fl.dps f)
theorem Cpy.same {D : PyData} {H1 H2 : Hp} {y : V} (h : Cpy D H1 y) (s : Same H1 H2) : Cpy D H2 y := by
  rcases h with h | ⟨b, zs, e2, f, h⟩
  · exact .inl h
  · refine .inr ⟨b, zs, e2, f, ?_⟩
    rcases h with ⟨h1, h2⟩ | ⟨h1, h2⟩
    · exact .inl ⟨h1, s _ _ h2⟩
    · exact .inr ⟨h1, s _ _ h2⟩
theorem CopyOk.same {K : PySem.W.Frag} {H H' : Hp} {x : V} {D : PyData} (h : CopyOk K H x D) (s : Same H H') : CopyOk K H' x D := by
  rcases h with h | ⟨a, zs, e1, f, l, h⟩
  · exact .inl h
  · refine .inr ⟨a, zs, e1, f, l, ?_⟩
    rcases h with ⟨h1, h2⟩ | ⟨h1, h2⟩
    · exact .inl ⟨s.seq h1, h2⟩
    · exact .inr ⟨seqT_same s h1, h2⟩
section
variable {P : Program} {w : World} {K : PySem.W.Frag} {mg : Str → Option Value} {base : Heap}
def spCopyF : Sp := fun vs H Q _ => ∃ x : V, vs = [x] ∧ Fl x ∧ Q x H
theorem sc_copiedN : FnScope ["value", "part", "key"] ["value"] (defScope s_copied) := ⟨rfl, rfl, rfl, by decide +kernel, rfl, by decide +kernel, by decide +kernel⟩
theorem ok_copiedF {f : Addr} {fd : FuncData} (F : Fun K "copied" "copied" s_copied f fd) (T : Blt mg) (nD : mg "dict" = none) : FnOk P w K mg base CX0 1 f fd ["value"] spCopyF := by
  refine F.ok sc_copiedN (fun vs H Q E h => ?_) (fun cdv A outer s H vs Q E hr h => ?_)
  · obtain ⟨x, rfl, _⟩ := h
    rfl
  · obtain ⟨x, rfl, hx, k⟩ := h
    refine ⟨_, (pss_cons (ps_if (pt_val (pe_callB call_isi (by rfl) T.n_isinstance (by decide +kernel) (pa_cons (pv 0) (pa_cons (pe_bltn (v := .ty "list") (u := .type "list") rfl T.n_list (by decide +kernel) rfl) pa_nil)))) pss_never pss_nil)
      (pss_cons (ps_if (pt_val (pe_callB call_isi (by rfl) T.n_isinstance (by decide +kernel) (pa_cons (pv 0) (pa_cons (pe_bltn (v := .ty "tuple") (u := .type "tuple") rfl T.n_tuple (by decide +kernel) rfl) pa_nil)))) pss_never pss_nil)
      (pss_cons (ps_if (pt_val (pe_callB call_isi (by rfl) T.n_isinstance (by decide +kernel) (pa_cons (pv 0) (pa_cons (pe_bltn (v := .ty "dict") (u := .type "dict") rfl nD (by decide +kernel) rfl) pa_nil)))) pss_never pss_nil)
      (pss_one (ps_ret (pv 0)))))), ?_⟩
    obtain ⟨t, ty, k1, k2, k3⟩ := hx.kit (K := K) (H := H)
    exact ⟨_, rfl, _, _, _, _, false, rfl, .ty _, ty, k1, _, rfl, iteF ⟨_, rfl, _, _, _, _, false, rfl, .ty _, ty, k2, _, rfl, iteF ⟨_, rfl, _, _, _, _, false, rfl, .ty _, ty, k3, _, rfl, iteF ⟨_, rfl, k⟩⟩⟩⟩
def spCopyD (K : PySem.W.Frag) : Sp := fun vs H Q _ => ∃ (x : V) (D : PyData), vs = [x] ∧ CopyOk K H x D ∧ ∀ (H' : Hp) (y : V), Same H H' → Cpy D H' y → Q y H'
theorem ok_copiedD {f : Addr} {fd : FuncData} (F : Fun K "copied" "copied" s_copied f fd) (T : Blt mg) (nD : mg "dict" = none) (G1 : FnOk P w K mg base CX0 1 f fd ["value"] spCopyF) (A1 : At K mg "copied" f fd ["value"]) : FnOk P w K mg base CX0 2 f fd ["value"] (spCopyD K) := by
  refine F.ok sc_copiedN (fun vs H Q E h => ?_) (fun cdv A outer s H vs Q E hr h => ?_)
  · obtain ⟨x, D0, rfl, _⟩ := h
    rfl
  · obtain ⟨x, D0, rfl, hx, k⟩ := h
    refine ⟨_, (pss_cons (ps_if (pt_val (pe_callB call_isi (by rfl) T.n_isinstance (by decide +kernel) (pa_cons (pv 0) (pa_cons (pe_bltn (v := .ty "list") (u := .type "list") rfl T.n_list (by decide +kernel) rfl) pa_nil)))) (pss_one (ps_ret (pe_lc (own := [("part", 1)]) rfl sc_copiedN.nd (pi_list (pv 0)) (blkOk_by (N := ["value", "part", "key"]) (sc := defScope s_copied) (by decide +kernel)) (fun _ _ _ _ _ => (pg_name (i := 1) sc_copiedN.nd rfl (Or.inl rfl))) (fun _ _ _ _ _ => pts_nil) (fun _ _ _ _ _ => (pe_call G1 (by exact hr) (by rfl) A1.m A1.k A1.b .nil pass0 (pa_cons (pv 1) pa_nil)))))) pss_nil)
      (pss_cons (ps_if (pt_val (pe_callB call_isi (by rfl) T.n_isinstance (by decide +kernel) (pa_cons (pv 0) (pa_cons (pe_bltn (v := .ty "tuple") (u := .type "tuple") rfl T.n_tuple (by decide +kernel) rfl) pa_nil)))) (pss_one (ps_ret (pe_callTy call_tuple_of (by rfl) T.n_tuple (by decide +kernel) (pa_cons (pe_lc (own := [("part", 1)]) rfl sc_copiedN.nd (pi_tup (pv 0)) (blkOk_by (N := ["value", "part", "key"]) (sc := defScope s_copied) (by decide +kernel)) (fun _ _ _ _ _ => (pg_name (i := 1) sc_copiedN.nd rfl (Or.inl rfl))) (fun _ _ _ _ _ => pts_nil) (fun _ _ _ _ _ => (pe_call G1 (by exact hr) (by rfl) A1.m A1.k A1.b .nil pass0 (pa_cons (pv 1) pa_nil)))) pa_nil)))) pss_nil)
      (pss_cons (ps_if (pt_val (pe_callB call_isi (by rfl) T.n_isinstance (by decide +kernel) (pa_cons (pv 0) (pa_cons (pe_bltn (v := .ty "dict") (u := .type "dict") rfl nD (by decide +kernel) rfl) pa_nil)))) pss_never pss_nil)
      (pss_one (ps_ret (pv 0)))))), ?_⟩
    have z1 : (1000 : Nat) < sizeLine := by decide
    rcases hx with ⟨hx, rfl⟩ | ⟨a, zs, rfl, hz, lz, h⟩
    · obtain ⟨t, ty, k1, k2, k3⟩ := hx.kit (K := K) (H := H)
      exact ⟨_, rfl, _, _, _, _, false, rfl, .ty _, ty, k1, _, rfl, iteF ⟨_, rfl, _, _, _, _, false, rfl, .ty _, ty, k2, _, rfl, iteF ⟨_, rfl, _, _, _, _, false, rfl, .ty _, ty, k3, _, rfl, iteF ⟨_, rfl, k H x (Same.refl H) (.inl ⟨hx, rfl⟩)⟩⟩⟩⟩
    rcases h with ⟨h, rfl⟩ | ⟨h, rfl⟩
    · refine ⟨_, rfl, _, _, _, _, true, rfl, .ty _, ty_list h, kit_ty (by show kitB "list" "list" = some true; decide +kernel), _, rfl, iteT ?_⟩
      refine ⟨_, rfl, a, rfl, ⟨_, h⟩, fun D hD => lc_list (K := K) (a := a) (xs := zs) (fun i H' => Same H H' ∧ H' D = some (.lst (zs.take i))) ⟨Ask.Same.upd_new (Same.refl _) hD, upd_same⟩ (fun i H' _ hh => hh.1.seq h) ?_ ?_⟩
      · rintro i v H' hi ⟨s', hD'⟩
        refine ⟨rfl, _, rfl, v, rfl, hz v (List.mem_of_getElem? hi), _, hD', by rw [List.length_take]; omega, Ask.Same.upd_new s' hD, ?_⟩
        rw [upd_same, List.take_add_one, hi]
        rfl
      · rintro H' ⟨s', hD'⟩
        rw [List.take_length] at hD'
        exact k H' _ s' (.inr ⟨D, zs, rfl, hz, .inl ⟨rfl, hD'⟩⟩)
    · refine ⟨_, rfl, _, _, _, _, false, rfl, .ty _, ty_tup h, kit_ty (by show kitB "tuple" "list" = some false; decide +kernel), _, rfl, iteF ?_⟩
      refine ⟨_, rfl, _, _, _, _, true, rfl, .ty _, ty_tup h, kit_ty (by show kitB "tuple" "tuple" = some true; decide +kernel), _, rfl, iteT ?_⟩
      refine ⟨_, rfl, a, rfl, ⟨_, h⟩, fun D hD => lc_tup (K := K) (a := a) (xs := zs) (fun i H' => Same H H' ∧ H' D = some (.lst (zs.take i))) ⟨Ask.Same.upd_new (Same.refl _) hD, upd_same⟩ (fun i H' _ hh => seqT_same hh.1 h) ?_ ?_⟩
      · rintro i v H' hi ⟨s', hD'⟩
        refine ⟨rfl, _, rfl, v, rfl, hz v (List.mem_of_getElem? hi), _, hD', by rw [List.length_take]; omega, Ask.Same.upd_new s' hD, ?_⟩
        rw [upd_same, List.take_add_one, hi]
        rfl
      · rintro H' ⟨s', hD'⟩
        rw [List.take_length] at hD'
        refine ⟨D, zs, rfl, .inl ⟨SqL.of hD', fun t ht => k _ _ (Ask.Same.made1 s' ht) (.inr ⟨t, zs, rfl, hz, .inr ⟨rfl, upd_same⟩⟩)⟩⟩
end
end Ask

namespace Ask
open PySem L2
theorem Cpy.but {D : PyData} {H1 H2 : Hp} {y : V} (h : Cpy D H1 y) (k : ∀ b o, (∃ zs, o = .lst zs ∨ o = .tup zs) → H1 b = some o → H2 b = some o) : Cpy D H2 y := by
  rcases h with h | ⟨b, zs, e2, f, h⟩
  · exact .inl h
  · refine .inr ⟨b, zs, e2, f, ?_⟩
    rcases h with ⟨h1, h2⟩ | ⟨h1, h2⟩
    · exact .inl ⟨h1, k _ _ ⟨zs, .inl rfl⟩ h2⟩
    · exact .inr ⟨h1, k _ _ ⟨zs, .inr rfl⟩ h2⟩
section
variable {P : Program} {w : World} {K : PySem.W.Frag} {mg : Str → Option Value} {base : Heap}
def spBP (K : PySem.W.Frag) (C : Addr) : Sp := fun vs H Q _ => ∃ (a : Addr) (x : V) (D : PyData), vs = [.ref a, x] ∧ CopyOk K H x D ∧ H a = some (exo a C none) ∧
  ∀ (H' : Hp) (dx : Addr) (y : V), H dx = none → dx ≠ a → H' a = some (exo a C (some dx)) → H' dx = some (exd dx [("place", y)]) → Cpy D H' y → (∀ b o, b ≠ a → H b = some o → H' b = some o) → Q .non H'
abbrev s_BadPlace_init : Stmt := inClass (top 16) 0
theorem sc_BadPlace_init : FnScope ["self", "place"] ["self", "place"] (defScope s_BadPlace_init) := ⟨rfl, rfl, rfl, by decide +kernel, rfl, by decide +kernel, by decide +kernel⟩
theorem ok_bpInit {f fC C : Addr} {fd fdC : FuncData} (F : Fun K "__init__" "BadPlace.__init__" s_BadPlace_init f fd) (T : OexC K C) (h1 : PySem.W.findIn K (.ref C) "place" = some none)
    (GC : FnOk P w K mg base CX0 2 fC fdC ["value"] (spCopyD K)) (CP : At K mg "copied" fC fdC ["value"]) : FnOk P w K mg base CX0 3 f fd ["self", "place"] (spBP K C) := by
  refine F.ok sc_BadPlace_init (fun vs H Q E h => ?_) (fun cdv A outer s H vs Q E hr h => ?_)
  · obtain ⟨a, x, D, rfl, _⟩ := h
    rfl
  · obtain ⟨a, x, D, rfl, hx, ha, k⟩ := h
    refine ⟨_, pss_one (ps_ost (pv 0) (pe_call GC hr (by rfl) CP.m CP.k CP.b .nil pass0 (pa_cons (pv 1) pa_nil))), ?_⟩
    refine ⟨_, rfl, x, D, rfl, hx, fun H1 y s1 hc => ?_⟩
    refine ⟨_, rfl, a, C, rfl, T, h1, .inl ⟨s1 _ _ ha, fun dx hdx hne => ?_⟩⟩
    have ke : ∀ b o, b ≠ a → H1 b = some o → upd (upd H1 dx (exd dx (putF "place" y []))) a (exo a C (some dx)) b = some o := fun b o hb e => by
      rw [upd_ne hb, upd_ne (ne_of_none e hdx)]
      exact e
    refine k _ dx y (s1.free hdx) hne upd_same (by rw [upd_ne hne]; exact upd_same) (hc.but fun b o ho e => ke b o ?_ e) fun b o hb e => ke b o hb (s1 _ _ e)
    intro z
    subst z
    rw [s1 _ _ ha] at e
    obtain ⟨zs, ho | ho⟩ := ho <;> subst ho <;> cases e
def okSize : List V → Prop := fun ws => ∃ i : Int, ws = [.int i]
def fsSize : List V → List (Str × V) := fun ws => match ws with
  | [v] => [("size", v)]
  | _ => []
abbrev s_TooLong_init : Stmt := inClass (top 19) 0
theorem sc_TooLong_init : FnScope ["self", "size"] ["self", "size"] (defScope s_TooLong_init) := ⟨rfl, rfl, rfl, by decide +kernel, rfl, by decide +kernel, by decide +kernel⟩
theorem ok_tlInit {f fC C : Addr} {fd fdC : FuncData} (F : Fun K "__init__" "TooLong.__init__" s_TooLong_init f fd) (T : OexC K C) (h1 : PySem.W.findIn K (.ref C) "size" = some none)
    (GC : FnOk P w K mg base CX0 1 fC fdC ["value"] spCopyF) (CP : At K mg "copied" fC fdC ["value"]) : FnOk P w K mg base CX0 2 f fd ["self", "size"] (spErr C okSize fsSize) := by
  refine F.ok sc_TooLong_init (fun vs H Q E h => ?_) (fun cdv A outer s H vs Q E hr h => ?_)
  · obtain ⟨a, ws, rfl, ⟨i, rfl⟩, _⟩ := h
    rfl
  · obtain ⟨a, ws, rfl, ⟨i, rfl⟩, ha, k⟩ := h
    refine ⟨_, pss_one (ps_ost (pv 0) (pe_call GC hr (by rfl) CP.m CP.k CP.b .nil pass0 (pa_cons (pv 1) pa_nil))), ?_⟩
    refine ⟨_, rfl, _, rfl, .inr (.inr (.inl ⟨i, rfl⟩)), _, rfl, a, C, rfl, T, h1, .inl ⟨ha, fun dx hdx hne => ?_⟩⟩
    refine k _ dx hdx hne upd_same (by rw [upd_ne hne]; exact upd_same) fun b o hb e => ?_
    rw [upd_ne hb, upd_ne (ne_of_none e hdx)]
    exact e
end
end Ask

namespace Ask
open PySem L2
section
variable {P : Program} {w : World} {K : PySem.W.Frag} {mg : Str → Option Value} {base : Heap}
def OddPl (n : Int) (x : V) (u v : Bool) : Prop := (u && !v) = false ∨ ((u && !v) = true ∧ ∃ i : Int, x = .int i ∧ ¬ (0 ≤ i ∧ i < n))
def spGet (K : PySem.W.Frag) (CL CH CE : Addr) : Sp := fun vs H Q E => ∃ (p : Addr) (ys : List Str) (b : Str) (rs : List Run) (x : V) (ty : Value) (u v : Bool) (D : PyData), vs = [.ref p, x] ∧ HistAt K CL CH H p ys b rs ∧ rs.length ≤ 10000 ∧
  TyX K H x ty ∧ PySem.W.kitOne K ty (.type "int") = some u ∧ PySem.W.kitOne K ty (.type "bool") = some v ∧
  (((u && !v) = true ∧ ∃ (n : Int) (f b : List Run) (r : Run), x = .int n ∧ 0 ≤ n ∧ n < sizeR rs ∧ partR rs n = some (f, r :: b) ∧ ∀ H', Same H H' → Q (.str r.1) H') ∨
   (OddPl (sizeR rs) x u v ∧ CopyOk K H x D ∧ ∀ (H' : Hp) (d : Addr) (y : V), Same H H' → H' d = some (.xd [("place", y)]) → Cpy D H' y → E (.ref CE) (some d) H'))
abbrev s_Get : Stmt := inClass (top 41) 4
theorem sc_Get : FnScope ["self", "at"] ["self", "at"] (defScope s_Get) := ⟨rfl, rfl, rfl, by decide +kernel, rfl, by decide +kernel, by decide +kernel⟩
theorem ok_get {f fW fP fE CL CH CE : Addr} {fd fdW fdP fdE : FuncData} (F : Fun K "__getitem__" "History.__getitem__" s_Get f fd) (hC : HsC K CH)
    (GW : FnOk P w K mg base CX0 1 fW fdW ["value"] (spWhole K)) (AW : At K mg "is_whole" fW fdW ["value"])
    (GP : FnOk P w K mg base CX0 1 fP fdP ["runs", "size"] (spParted K)) (AP : At K mg "parted" fP fdP ["runs", "size"])
    (GE : FnOk P w K mg base CX0 3 fE fdE ["self", "place"] (spBP K CE)) (EE : ErrAt K mg "BadPlace" CE fE fdE ["self", "place"]) :
    FnOk P w K mg base (L2.CX P w) 5 f fd ["self", "at"] (spGet K CL CH CE) := by
  refine F.okX sc_Get (fun vs H Q E h => ?_) (fun cdv A outer s H vs Q E hr h => ?_)
  · obtain ⟨p, ys, b, rs, x, ty, u, v, D, rfl, _⟩ := h
    rfl
  · obtain ⟨p, ys, b, rs, x, ty, u, v, D, rfl, ⟨dx, m, t, c, ks, hp, hM, hc, hks⟩, ln, hty, hu, hv, h⟩ := h
    have hr1 := hr.mono (j := 1) (by decide)
    refine ⟨_, (pss_cons (ps_if (PW.pt (pw_or (pt_not (pt_val (pe_call GW hr1 (by rfl) AW.m AW.k AW.b .nil pass0 (pa_cons (pv 1) pa_nil)))) (pw_or1 (pt_not (pt_chain op_le op_lt pe_int (pv 1) (pe_fld (pv 0) rfl)))))) (pss_one (ps_raise rfl (takes_of rfl rfl rfl rfl) (pmk_oex EE.o EE.i EE.t GE hr EE.b .nil pass0 (by rfl) EE.m (pa_cons (pv 1) pa_nil)))) pss_nil)
      (pss_one (ps_ret (pe_ix ix_tup (pe_ix ix_tup (pe_ix ix_tup (pe_call GP hr1 (by rfl) AP.m AP.k AP.b .nil pass0 (pa_cons (pe_fld (pv 0) rfl) (pa_cons (pv 1) pa_nil))) pe_int (fun _ _ => rfl)) pe_int (fun _ _ => rfl)) pe_int (fun _ _ => rfl))))), ?_⟩
    have e1 := hks.1
    refine ⟨_, rfl, x, ty, u, v, rfl, hty, hu, hv, _, rfl, ?_⟩
    rcases h with ⟨huv, n, ff, bb, r, rfl, n0, n1, hn, k⟩ | ⟨ho, hcp, k⟩
    · rw [huv]
      refine iteF ?_
      refine ⟨_, rfl, _, _, rfl, rfl, _, rfl, ?_⟩
      refine ite2 (fun _ => ?_) (fun q => absurd (decide_eq_true n0) q)
      refine ⟨_, rfl, p, CH, dx, _, _, rfl, hp, hC.c, hC.a4, rfl, _, _, rfl, rfl, _, rfl, ?_⟩
      rw [decide_eq_true n1]
      refine iteF ?_
      refine ⟨_, rfl, p, CH, dx, _, _, rfl, hp, hC.c, hC.a3, rfl, _, rfl, c, n, ks, rs, rfl, hc, hks, ln, fun f' b' e' => ?_, fun e' => ?_⟩
      · rw [hn] at e'
        cases e'
        intro H' t' x' y' xs' ys' s' ht' hx' hfx hy' hfy
        obtain ⟨q, hq1, hq2⟩ := hfy.get (i := 0) (r := r) rfl
        exact ⟨t', _, _, _, rfl, rfl, SqT.of ht', at_by (j := 1) rfl rfl, y', _, _, _, rfl, rfl, hy', at_by (j := 0) rfl hq1, q, _, _, _, rfl, rfl, SqT.of hq2, at_by (j := 0) rfl rfl, k H' s'⟩
      · rw [hn] at e'
        cases e'
    · have go : ∀ (σ : L2.St), σ = [some (.ref p), some x] → tMkO CE (spBP K CE) [] (tCons (tVar 1) tNil) σ H fun cls d H' => E cls d H' := fun σ hσ => by
        subst hσ
        refine ⟨_, rfl, by show 1 ≤ 1000; decide, fun a ha => ⟨a, x, D, rfl, hcp.same (Ask.Same.made1 (Same.refl H) ha), upd_same, fun H' dx' y hdx hne e1 e2 hc' kk => ?_⟩⟩
        have h1 : H dx' = none := by
          rw [upd_ne hne] at hdx
          exact hdx
        have na : ∀ b o, H b = some o → b ≠ a := fun b o e => ne_of_none e ha
        refine ⟨rfl, dx', _, e1, e2, h1, k _ dx' y (fun b o e => ?_) upd_same ?_⟩
        · rw [upd_ne (ne_of_none e h1), del_ne (na b o e)]
          exact kk b o (na b o e) (by rw [upd_ne (na b o e)]; exact e)
        · refine hc'.but fun b o ho e => ?_
          have nd : b ≠ dx' := fun z => by
            subst z
            rw [e2] at e
            obtain ⟨zs, ho | ho⟩ := ho <;> subst ho <;> cases e
          have nb : b ≠ a := fun z => by
            subst z
            rw [e1] at e
            obtain ⟨zs, ho | ho⟩ := ho <;> subst ho <;> cases e
          rw [upd_ne nd, del_ne nb]
          exact e
      rcases ho with ho | ⟨ho, i, rfl, hi⟩
      · rw [ho]
        exact iteT (go _ rfl)
      · rw [ho]
        refine iteF ?_
        refine ⟨_, rfl, _, _, rfl, rfl, _, rfl, ?_⟩
        refine ite2 (fun q => ?_) (fun q => ?_)
        · have q : 0 ≤ i := of_decide_eq_true q
          refine ⟨_, rfl, p, CH, dx, _, _, rfl, hp, hC.c, hC.a4, rfl, _, _, rfl, rfl, _, rfl, ?_⟩
          rw [decide_eq_false (fun z => hi ⟨q, z⟩)]
          exact iteT (go _ rfl)
        · exact ⟨_, rfl, iteT (go _ rfl)⟩
end
end Ask

/-! a comprehension with two for, by two walks -/
namespace Ask
open PySem L2 PySem.Spec PyProof.Rows
section
variable {J J1 : It} {n n1 : Nat} {G G1 : Hp → Prop} {Y Y1 : Nat → Hp → V → Hp → Prop} {wi wi1 : TI} {g g1 : TG} {tt tt1 : TT} {te : TE} {vs vs1 : List Nat} {σ : L2.St} {H : Hp} {Q : VK}
/-- the inner turns, behind which M holds -/
def In2 (J1 : It) (g1 : TG) (tt1 : TT) (te : TE) (vs1 : List Nat) (D : Addr) (σ2 : L2.St) (M : Hp → Prop) (H4 : Hp) : Prop := ∃ W1 : Nat → Nat → Hp → Prop, (∃ m, W1 0 m H4) ∧ ∀ j k H, W1 j k H → (J1.stop j H ∧ M H) ∨ (J1.go j H ∧ ∃ Nx1 : Hp → Prop, (∀ H', Nx1 H' → ∃ k', k' < k ∧ W1 (j + 1) k' H') ∧
  ∀ x H', J1.yld j H x H' → g1 x (wipe σ2 vs1) H' fun σ3 H5 => wipe σ3 vs1 = wipe σ2 vs1 ∧ tt1 σ3 H5 fun b H6 => if b = true then te σ3 H6 fun y H7 => ∃ acc, H7 D = some (.lst acc) ∧ acc.length < sizeLine ∧ Nx1 (upd H7 D (.lst (acc ++ [y]))) else Nx1 H6)
theorem in2_it (w1 : Walk J1 n1 G1 Y1) {D : Addr} {σ2 : L2.St} {M : Hp → Prop} {H4 : Hp} (Pw : Nat → Hp → Prop) (h0 : Pw 0 H4) (hG : ∀ j H, j ≤ n1 → Pw j H → G1 H)
    (hs : ∀ j x H H', j < n1 → Pw j H → Y1 j H x H' → g1 x (wipe σ2 vs1) H' fun σ3 H5 => wipe σ3 vs1 = wipe σ2 vs1 ∧ tt1 σ3 H5 fun b H6 => if b = true then te σ3 H6 fun y H7 => ∃ acc, H7 D = some (.lst acc) ∧ acc.length < sizeLine ∧ Pw (j + 1) (upd H7 D (.lst (acc ++ [y]))) else Pw (j + 1) H6)
    (hd : ∀ H, Pw n1 H → M H) : In2 J1 g1 tt1 te vs1 D σ2 M H4 := by
  refine ⟨fun j k H => k = n1 - j ∧ j ≤ n1 ∧ Pw j H, ⟨n1, by simp, Nat.zero_le _, h0⟩, ?_⟩
  rintro j k H ⟨rfl, hj, p⟩
  have q := hG j H hj p
  rcases Nat.lt_or_ge j n1 with lt | ge
  · exact .inr ⟨w1.goes j H lt q, Pw (j + 1), fun H' p' => ⟨n1 - (j + 1), by omega, rfl, lt, p'⟩, fun x H' y => hs j x H H' lt p (w1.yields j H x H' lt q y)⟩
  · obtain rfl : j = n1 := by omega
    exact .inl ⟨w1.stops H q, hd H p⟩
theorem lc2_it (f : ∀ R : It → Hp → Prop, R J H → wi σ H R) (wk : Walk J n G Y)
    (h : ∀ D, H D = none → ∃ Pv : Nat → Hp → Prop, Pv 0 (upd H D (.lst [])) ∧ (∀ i H, i ≤ n → Pv i H → G H) ∧
      (∀ i x H H', i < n → Pv i H → Y i H x H' → g x (wipe σ vs) H' fun σ2 H2 => wipe σ2 vs = wipe σ vs ∧ tt σ2 H2 fun b H3 => if b = true then wi1 σ2 H3 fun J1 H4 => In2 J1 g1 tt1 te vs1 D σ2 (Pv (i + 1)) H4 else Pv (i + 1) H3) ∧ (∀ H, Pv n H → Q (.ref D) H)) :
    tLc2 wi g tt wi1 g1 tt1 te vs vs1 σ H Q := by
  delta tLc2
  refine f _ fun D hD => ?_
  obtain ⟨Pv, h0, hG, hs, hd⟩ := h D hD
  refine ⟨fun i m H => m = n - i ∧ i ≤ n ∧ Pv i H, ⟨n, by simp, Nat.zero_le _, h0⟩, ?_⟩
  rintro i m H ⟨rfl, hi, p⟩
  have q := hG i H hi p
  rcases Nat.lt_or_ge i n with lt | ge
  · exact .inr ⟨wk.goes i H lt q, Pv (i + 1), fun H' p' => ⟨n - (i + 1), by omega, rfl, lt, p'⟩, fun x H' y => hs i x H H' lt p (wk.yields i H x H' lt q y)⟩
  · obtain rfl : i = n := by omega
    exact .inl ⟨wk.stops H q, hd H p⟩
end
end Ask

namespace Ask
open PySem L2
/-- the letters of runs, one by one -/
def plainR (rs : List Run) : List Str := rs.flatMap fun r => List.replicate r.2.toNat r.1
theorem plainR_app (rs ss : List Run) : plainR (rs ++ ss) = plainR rs ++ plainR ss := List.flatMap_append ..
theorem plainR_more {rs : List Run} {i : Nat} {r : Run} (h : rs[i]? = some r) : plainR (rs.take (i + 1)) = plainR (rs.take i) ++ List.replicate r.2.toNat r.1 := by
  rw [List.take_add_one, h, plainR_app]
  unfold plainR
  simp
theorem sizeR_cons (r : Run) (rs : List Run) : sizeR (r :: rs) = r.2 + sizeR rs := by
  unfold sizeR
  rw [List.map_cons, List.sum_cons]
theorem sizeR_app (rs ss : List Run) : sizeR (rs ++ ss) = sizeR rs + sizeR ss := by
  induction rs with
  | nil => simp [sizeR]
  | cons r rs ih => rw [List.cons_append, sizeR_cons, sizeR_cons, ih, Int.add_assoc]
theorem sizeR_nonneg {rs : List Run} (h : ∀ r ∈ rs, 0 ≤ r.2) : 0 ≤ sizeR rs := by
  induction rs with
  | nil => exact Int.le_refl 0
  | cons r rs ih =>
    rw [sizeR_cons]
    have := h r (List.mem_cons_self ..)
    have := ih fun x hx => h x (List.mem_cons_of_mem _ hx)
    omega
theorem plainR_len {rs : List Run} (h : ∀ r ∈ rs, 0 ≤ r.2) : ((plainR rs).length : Int) = sizeR rs := by
  induction rs with
  | nil => rfl
  | cons r rs ih =>
    have h1 := h r (List.mem_cons_self ..)
    have h2 := ih fun x hx => h x (List.mem_cons_of_mem _ hx)
    rw [sizeR_cons]
    unfold plainR at h2 ⊢
    rw [List.flatMap_cons, List.length_append, List.length_replicate]
    omega
theorem count_le {rs : List Run} (h : ∀ r ∈ rs, 0 ≤ r.2) {r : Run} (hr : r ∈ rs) : r.2 ≤ sizeR rs := by
  induction rs with
  | nil => cases hr
  | cons a rs ih =>
    rw [sizeR_cons]
    have h1 := h a (List.mem_cons_self ..)
    have h2 := sizeR_nonneg fun x hx => h x (List.mem_cons_of_mem _ hx)
    rcases List.mem_cons.mp hr with rfl | hr
    · omega
    · have := ih (fun x hx => h x (List.mem_cons_of_mem _ hx)) hr
      omega
theorem sizeR_take {rs : List Run} (h : ∀ r ∈ rs, 0 ≤ r.2) (i : Nat) : sizeR (rs.take i) ≤ sizeR rs := by
  have e : sizeR rs = sizeR (rs.take i) + sizeR (rs.drop i) := by rw [← sizeR_app, List.take_append_drop]
  have := sizeR_nonneg (rs := rs.drop i) fun x hx => h x (List.mem_of_mem_drop hx)
  omega
section
variable {P : Program} {w : World} {K : PySem.W.Frag} {mg : Str → Option Value} {base : Heap}
def spWord (K : PySem.W.Frag) (CL CH CT : Addr) : Sp := fun vs H Q E => ∃ (p : Addr) (ys : List Str) (b : Str) (rs : List Run), vs = [.ref p] ∧ HistAt K CL CH H p ys b rs ∧ (∀ r ∈ rs, 0 ≤ r.2) ∧
  (sizeR rs ≤ 2000 → ∀ (H' : Hp) (t : Addr), Same H H' → H' t = some (.tup ((plainR rs).map V.str)) → Q (.ref t) H') ∧
  (2000 < sizeR rs → ∀ (H' : Hp) (d : Addr), Same H H' → H' d = some (.xd (fsSize [.int (sizeR rs)])) → E (.ref CT) (some d) H')
abbrev s_Word : Stmt := inClass (top 41) 2
theorem sc_Word : FnScope ["self", "letter", "count", "_"] ["self"] (defScope s_Word) := ⟨rfl, rfl, rfl, by decide +kernel, rfl, by decide +kernel, by decide +kernel⟩
theorem ok_word {f fE CL CH CT : Addr} {fd fdE : FuncData} (F : Fun K "word" "History.word" s_Word f fd) (T : Blt mg) (hC : HsC K CH) (mM : ∃ u, mg "MOST_SPELLED" = some u ∧ RelV (.int 2000) u)
    (GE : FnOk P w K mg base CX0 2 fE fdE ["self", "size"] (spErr CT okSize fsSize)) (EE : ErrAt K mg "TooLong" CT fE fdE ["self", "size"]) :
    FnOk P w K mg base (L2.CX P w) 4 f fd ["self"] (spWord K CL CH CT) := by
  refine F.okX sc_Word (fun vs H Q E h => ?_) (fun cdv A outer s H vs Q E hr h => ?_)
  · obtain ⟨p, ys, b, rs, rfl, _⟩ := h
    rfl
  · obtain ⟨p, ys, b, rs, rfl, ⟨dx, m, t, c, ks, hp, hM, hc, hks⟩, hpos, k, kE⟩ := h
    refine ⟨_, (pss_cons (ps_if (pt_cmpR op_gt (pe_fld (pv 0) rfl) (pe_gv rfl mM) (nomark _)) (pss_one (ps_raise rfl (takes_of rfl rfl rfl rfl) (pmk_oex EE.o EE.i EE.t GE hr EE.b .nil pass0 (by rfl) EE.m (pa_cons (pe_fld (pv 0) rfl) pa_nil)))) pss_nil)
      (pss_one (ps_ret (pe_callTy call_tuple_of (by rfl) T.n_tuple (by decide +kernel) (pa_cons (pe_lc2 (own := [("letter", 1), ("count", 2), ("_", 3)]) (vs1 := [3]) rfl sc_Word.nd (pi_tup (pe_fld (pv 0) rfl)) (blkOk_by (N := ["self", "letter", "count", "_"]) (sc := defScope s_Word) (by decide +kernel)) (by decide) (fun _ _ _ _ _ => (show PG _ _ (gTup K 2 _) from pg_tup rfl (pgs_cons (pg_name (i := 1) sc_Word.nd rfl (Or.inl rfl)) (pgs_cons (pg_name (i := 2) sc_Word.nd rfl (Or.inl rfl)) pgs_nil)))) (fun _ _ _ _ _ => pts_nil)
        (fun _ _ _ _ _ => pi_range1 rfl T.n_range (pa_cons (pv 2) pa_nil)) (fun _ _ _ _ _ => pg_name (i := 3) sc_Word.nd rfl (Or.inl rfl)) (fun _ _ _ _ _ => pts_nil) (fun _ _ _ _ _ => (pv 1))) pa_nil))))), ?_⟩
    have z1 : (100000 : Nat) ≤ sizeLine := by decide
    have el := hks.1
    refine ⟨_, rfl, p, CH, dx, _, _, rfl, hp, hC.c, hC.a4, rfl, _, _, rfl, rfl, _, rfl, ite2 (fun q => ?_) (fun q => ?_)⟩
    · have q : 2000 < sizeR rs := of_decide_eq_true q
      exact ⟨_, rfl, p, CH, dx, _, _, rfl, hp, hC.c, hC.a4, rfl, err_made (Same.refl H) ⟨_, rfl⟩ (by show 1 ≤ 1000; decide) (fun H' d s' e => kE q H' d s' e)⟩
    · have q : sizeR rs ≤ 2000 := by
        have : ¬ 2000 < sizeR rs := fun z => q (decide_eq_true z)
        omega
      dsimp only [tNext]
      refine ret_cb ?_
      have fits : ∀ (R : It → Hp → Prop), R (Itt K c) H → iTup K (tFld K (tVar 0) "runs") [some (.ref p), none, none, none] H R := fun R r => ⟨_, rfl, p, CH, dx, _, _, rfl, hp, hC.c, hC.a3, rfl, c, rfl, ⟨_, hc⟩, r⟩
      refine lc2_it fits walk_tup fun D hD => ⟨fun i H' => Same H H' ∧ H' D = some (.lst ((plainR (rs.take i)).map V.str)), ⟨Ask.Same.upd_new (Same.refl _) hD, upd_same⟩, fun i H' _ hh => seqT_same hh.1 hc, ?_, ?_⟩
      · rintro i x H2 H3 hi ⟨s2, hD2⟩ ⟨rfl, hx⟩
        obtain ⟨r, hri⟩ : ∃ r, rs[i]? = some r := ⟨_, List.getElem?_eq_getElem (by omega)⟩
        obtain ⟨u, rfl, hu⟩ := hks.2 i x r hx hri
        have hr0 := hpos r (List.mem_of_getElem? hri)
        have hr1 := count_le hpos (List.mem_of_getElem? hri)
        have hl := plainR_len (rs := rs.take i) fun x hx => hpos x (List.mem_of_mem_take hx)
        have hl2 := sizeR_take hpos i
        refine ⟨u, _, rfl, SqT.of (s2 _ _ hu), rfl, _, _, rfl, _, _, rfl, rfl, rfl, _, rfl, r.2, rfl, by omega, by omega, ?_⟩
        refine in2_it walk_range (fun j H' => Same H H' ∧ H' D = some (.lst ((plainR (rs.take i) ++ List.replicate j r.1).map V.str))) ⟨s2, by rw [List.replicate_zero, List.append_nil]; exact hD2⟩ (fun _ _ _ _ => trivial) ?_ ?_
        · rintro j x H4 H5 hj ⟨s4, hD4⟩ ⟨rfl, rfl⟩
          refine ⟨rfl, _, rfl, _, hD4, ?_, Ask.Same.upd_new s4 hD, ?_⟩
          · rw [List.length_map, List.length_append, List.length_replicate]
            omega
          · rw [upd_same, List.replicate_succ', ← List.append_assoc, List.map_append (l₂ := [r.1])]
            rfl
        · rintro H4 ⟨s4, hD4⟩
          exact ⟨s4, by rw [plainR_more hri]; exact hD4⟩
      · rintro H2 ⟨s2, hD2⟩
        rw [el, List.take_length] at hD2
        exact ⟨D, _, rfl, .inl ⟨SqL.of hD2, fun t ht => k q _ t (Ask.Same.made1 s2 ht) upd_same⟩⟩
end
end Ask

namespace Ask
open PySem L2
/-! ### runs as data -/
def runD (r : Run) : PyData := .tuple [.str r.1, .int r.2]
def runsD (rs : List Run) : PyData := .tuple (rs.map runD)
theorem dp_runs {K : PySem.W.Frag} {H : Hp} : ∀ {xs : List V} {rs : List Run}, PairsV H xs rs → DpAll K H xs (rs.map runD)
  | [], [], _ => .nil
  | [], _ :: _, h => by have := h.1; simp at this
  | _ :: _, [], h => by have := h.1; simp at this
  | x :: xs, r :: rs, h => by
    obtain ⟨b, rfl, hb⟩ := h.2 0 x r rfl rfl
    refine .cons (.tup (SqT.of hb) (.cons (.str _) (.cons (.int _) .nil))) (dp_runs ⟨Nat.succ.inj h.1, fun i v r' h1 h2 => h.2 (i + 1) v r' h1 h2⟩)
theorem eqv_int1 (a b : Int) : PyData.eqv (.int a) (.int b) = decide (a = b) := by
  simp only [PyData.eqv]
  by_cases h : a = b
  · subst h; simp
  · rw [decide_eq_false h]; simpa using h
theorem eqv_run (r s : Run) : PyData.eqv (runD r) (runD s) = decide (r = s) := by
  unfold runD
  rw [PyData.eqv, PyData.eqvAll, PyData.eqvAll, PyData.eqvAll, eqv_str1, eqv_int1, Bool.and_true]
  by_cases h : r = s
  · subst h; simp
  · rw [decide_eq_false h]
    by_cases h1 : r.1 = s.1
    · have h2 : ¬ r.2 = s.2 := fun z => h (Prod.ext h1 z)
      rw [decide_eq_false h2, Bool.and_false]
    · rw [decide_eq_false h1, Bool.false_and]
theorem eqvAll_runs : ∀ rs ss : List Run, PyData.eqvAll (rs.map runD) (ss.map runD) = decide (rs = ss)
  | [], [] => by simp [PyData.eqvAll]
  | [], _ :: _ => by simp [PyData.eqvAll]
  | _ :: _, [] => by simp [PyData.eqvAll]
  | r :: rs, s :: ss => by
    rw [List.map_cons, List.map_cons, PyData.eqvAll, eqv_run, eqvAll_runs rs ss]
    by_cases h : r = s
    · subst h
      by_cases h2 : rs = ss
      · subst h2; simp
      · simp [h2]
    · simp [h]
theorem eqv_runs (rs ss : List Run) : PyData.eqv (runsD rs) (runsD ss) = decide (rs = ss) := by
  unfold runsD
  rw [PyData.eqv]
  exact eqvAll_runs rs ss
theorem lay_runs : ∀ {rs : List Run}, (∀ r ∈ rs, Asc r.1) → PyData.canLayAll0 (rs.map runD) = true ∧ PyData.depthAll (rs.map runD) ≤ 1 ∧ PyData.hasDictAll (rs.map runD) = false
  | [], _ => ⟨rfl, Nat.zero_le _, rfl⟩
  | r :: rs, h => by
    obtain ⟨h1, h2, h3⟩ := lay_runs (rs := rs) fun x hx => h x (List.mem_cons_of_mem _ hx)
    have a := asc_ok (h r (List.mem_cons_self ..))
    refine ⟨?_, ?_, ?_⟩
    · show (((PyData.canLay0 (.str r.1)) && (PyData.canLay0 (.int r.2) && true)) && PyData.canLayAll0 (rs.map runD)) = true
      rw [h1]
      show (((PyData.strOk r.1) && (true && true)) && true) = true
      rw [a] <;> rfl
    · show max (PyData.depth (runD r)) (PyData.depthAll (rs.map runD)) ≤ 1
      refine Nat.max_le.mpr ⟨?_, h2⟩
      show max 0 (max 0 0) + 1 ≤ 1
      decide
    · show ((false || (false || false)) || PyData.hasDictAll (rs.map runD)) = false
      rw [h3] <;> rfl
theorem shaped_runs {rs : List Run} (h : ∀ r ∈ rs, Asc r.1) : SeqAt.shaped (runsD rs) = true := by
  obtain ⟨h1, h2, _⟩ := lay_runs h
  exact shaped_of h1 (by show PyData.depthAll (rs.map runD) + 1 ≤ 64; omega)
/-- letters whose signs are plain ones -/
def Plain (ys : List Str) : Prop := ∀ y ∈ ys, y.length ≤ 500 ∧ Asc y
def OfL (ys : List Str) (rs : List Run) : Prop := ∀ r ∈ rs, r.1 ∈ ys
theorem OfL.asc {ys : List Str} {rs : List Run} (h : OfL ys rs) (p : Plain ys) : ∀ r ∈ rs, Asc r.1 := fun r hr => (p _ (h r hr)).2
section
variable {P : Program} {w : World} {K : PySem.W.Frag} {mg : Str → Option Value} {base : Heap}
/-! ### History.__eq__ -/
def spHEq (K : PySem.W.Frag) (CL CH : Addr) : Sp := fun vs H Q _ => ∃ (p q : Addr) (ys zs : List Str) (b c : Str) (rs ss : List Run), vs = [.ref p, .ref q] ∧ HistAt K CL CH H p ys b rs ∧ HistAt K CL CH H q zs c ss ∧ Plain ys ∧ Plain zs ∧ OfL ys rs ∧ OfL zs ss ∧
  Q (.bl (decide (ys = zs) && (decide (b = c) && decide (rs = ss)))) H
abbrev s_HEq : Stmt := inClass (top 41) 7
theorem sc_HEq : FnScope ["self", "other"] ["self", "other"] (defScope s_HEq) := ⟨rfl, rfl, rfl, by decide +kernel, rfl, by decide +kernel, by decide +kernel⟩
theorem ok_heq {f fQ CL CH : Addr} {fd fdQ : FuncData} (F : Fun K "__eq__" "History.__eq__" s_HEq f fd) (T : Blt mg) (hC : HsC K CH) (Y : XkC K CH) (mH : mg "History" = some (.ref CH))
    (GQ : FnOk P w K mg base CX0 1 fQ fdQ ["self", "other"] (spEq2 CL)) (bQ : Binds K fdQ ["self", "other"] []) (hQ : PySem.W.findIn K (.ref CL) "__eq__" = some (some (.ref fQ))) (iQ : PySem.W.isFn K (.ref fQ) = true) :
    FnOk P w K mg base CX0 2 f fd ["self", "other"] (spHEq K CL CH) := by
  refine F.ok sc_HEq (fun vs H Q E h => ?_) (fun cdv A outer s H vs Q E hr h => ?_)
  · obtain ⟨p, q, ys, zs, b, c, rs, ss, rfl, _⟩ := h
    rfl
  · obtain ⟨p, q, ys, zs, b, c, rs, ss, rfl, ⟨dx, m, t, c1, ks, hp, hM, hc1, hks⟩, ⟨dx', m', t', c2, ls, hq, hM', hc2, hls⟩, py, pz, oy, oz, k⟩ := h
    refine ⟨_, (pss_one (ps_ret (pe_and (pe_callB call_isi (by rfl) T.n_isinstance (by decide +kernel) (pa_cons (pv 1) (pa_cons (pe_gv (v := .ref CH) rfl ⟨_, mH, rfl⟩) pa_nil))) (pe_and (pe_cmpR (op_eqI (C := CL) (E := E0) GQ hr bQ pass0 hQ iQ) (pe_fld (pv 0) rfl) (pe_fld (pv 1) rfl) (nomark _)) (pe_and (pe_cmpR op_eq (pe_fld (pv 0) rfl) (pe_fld (pv 1) rfl) (nomark _)) (pe_one (pe_cmpR (op_eqD hr.units) (pe_fld (pv 0) rfl) (pe_fld (pv 1) rfl) (nomark _)))))))), ?_⟩
    have kk : PySem.W.kitOne K (.ref CH) (.ref CH) = some true := by
      unfold PySem.W.kitOne
      rw [if_pos (by simp)]
    refine ⟨_, rfl, _, _, _, _, true, rfl, .own CH, .base (.ins hq hC.c Y.ha Y.hn Y.ht Y.hm), kk, _, rfl, ite2 (fun _ => ?_) (fun q => absurd rfl q)⟩
    obtain ⟨d1, o1, e1, e2, e3⟩ := id hM
    obtain ⟨d2, o2, g1, g2, g3⟩ := id hM'
    refine ⟨_, rfl, p, CH, dx, _, _, rfl, hp, hC.c, hC.a1, rfl, _, rfl, q, CH, dx', _, _, rfl, hq, hC.c, hC.a1, rfl, m, m', d1, d2, _, _, rfl, rfl, e1, g1, m, t, m', t', ys, zs, rfl, hM, hM', py, pz, _, rfl, _, rfl, ?_⟩
    rw [eqv_strs]
    refine ite2 (fun h => ?_) (fun h => ?_)
    · rw [h, Bool.true_and] at k
      refine ⟨_, rfl, p, CH, dx, _, _, rfl, hp, hC.c, hC.a2, rfl, _, rfl, q, CH, dx', _, _, rfl, hq, hC.c, hC.a2, rfl, rfl, _, rfl, ?_⟩
      have e : decide (V.str b = V.str c) = decide (b = c) := by
        by_cases h : b = c
        · rw [decide_eq_true h, decide_eq_true (congrArg V.str h)]
        · rw [decide_eq_false h, decide_eq_false (fun z => h (V.str.inj z))]
      rw [e]
      refine ite2 (fun h => ?_) (fun h => ?_)
      · rw [h, Bool.true_and] at k
        refine ⟨_, rfl, p, CH, dx, _, _, rfl, hp, hC.c, hC.a3, rfl, _, rfl, q, CH, dx', _, _, rfl, hq, hC.c, hC.a3, rfl, runsD rs, runsD ss, .tup hc1 (dp_runs hks), .tup hc2 (dp_runs hls), shaped_runs (oy.asc py), shaped_runs (oz.asc pz), ?_⟩
        rw [eqv_runs]
        exact k
      · have h : decide (b = c) = false := (Bool.not_eq_true _).mp h
        rw [h, Bool.false_and] at k
        exact k
    · have h : decide (ys = zs) = false := (Bool.not_eq_true _).mp h
      rw [h, Bool.false_and] at k
      exact k
end
end Ask

namespace Ask
open PySem L2
/-! ### the law's own joined list -/
theorem jrun_none : ∀ {rs : List Run}, (jrun rs).2 = none → rs = [] := by
  intro rs h
  rcases List.eq_nil_or_concat rs with rfl | ⟨L, r, rfl⟩
  · rfl
  · exfalso
    rw [List.concat_eq_append] at h
    unfold jrun at h
    rw [List.foldl_append] at h
    generalize List.foldl jstep ([], none) L = st at h
    obtain ⟨a, b⟩ := st
    cases b with
    | none => cases h
    | some l =>
      by_cases e : l.1 = r.1
      · rw [List.foldl_cons, List.foldl_nil, jstep_eq e] at h
        cases h
      · rw [List.foldl_cons, List.foldl_nil, jstep_ne e] at h
        cases h
theorem join_nil : joinR [] = [] := rfl
/-- one run more -/
theorem join_more (rs : List Run) (r : Run) : joinR (rs ++ [r]) = spliceR (joinR rs) [r] := by
  have e : jrun (rs ++ [r]) = jstep (jrun rs) r := by
    unfold jrun
    rw [List.foldl_append]
    rfl
  have n : (jrun rs).2 = none → jrun rs = ([], none) := fun z => by
    have := jrun_none z
    subst this
    rfl
  unfold joinR
  rw [e]
  generalize jrun rs = st at n ⊢
  obtain ⟨a, b⟩ := st
  cases b with
  | none =>
    have := n rfl
    cases this
    rfl
  | some l =>
    have gl : (a ++ [l]).getLast? = some l := by simp
    by_cases e : l.1 = r.1
    · rw [jstep_eq e]
      show a ++ [(l.1, l.2 + r.2)] = spliceR (a ++ [l]) [r]
      unfold spliceR
      rw [gl]
      show _ = if l.1 = r.1 then _ else _
      rw [if_pos e, List.dropLast_concat, List.append_nil]
    · rw [jstep_ne e]
      show (a ++ [l]) ++ [r] = spliceR (a ++ [l]) [r]
      unfold spliceR
      rw [gl]
      show _ = if l.1 = r.1 then _ else _
      rw [if_neg e]
theorem join_take {rs : List Run} {i : Nat} {r : Run} (h : rs[i]? = some r) : joinR (rs.take (i + 1)) = spliceR (joinR (rs.take i)) [r] := by
  rw [List.take_add_one, h]
  exact join_more _ _
theorem set_last {α : Type} : ∀ (xs : List α) (v : α), xs ≠ [] → xs.set (xs.length - 1) v = xs.dropLast ++ [v]
  | [], _, h => absurd rfl h
  | [a], v, _ => rfl
  | a :: b :: xs, v, _ => by
    have := set_last (b :: xs) v (by simp)
    show (a :: b :: xs).set (xs.length + 1) v = a :: ((b :: xs).dropLast ++ [v])
    rw [List.set_cons_succ]
    exact congrArg _ this
theorem mem_splice {h t : List Run} {x : Run} (m : x ∈ spliceR h t) : (∃ y ∈ h, y.1 = x.1) ∨ ∃ y ∈ t, y.1 = x.1 := by
  unfold spliceR at m
  split at m
  · rename_i l r t' e1
    split at m
    · rename_i e
      rcases List.mem_append.mp m with m | m
      · rcases List.mem_append.mp m with m | m
        · exact .inl ⟨x, (List.dropLast_sublist h).subset m, rfl⟩
        · rw [List.mem_singleton] at m
          subst m
          exact .inl ⟨l, List.mem_of_getLast? e1, rfl⟩
      · exact .inr ⟨x, List.mem_cons_of_mem _ m, rfl⟩
    · rcases List.mem_append.mp m with m | m
      · exact .inl ⟨x, m, rfl⟩
      · exact .inr ⟨x, m, rfl⟩
  · rcases List.mem_append.mp m with m | m
    · exact .inl ⟨x, m, rfl⟩
    · exact .inr ⟨x, m, rfl⟩
/-- joining makes no other letters -/
theorem mem_join : ∀ {rs : List Run} {x : Run}, x ∈ joinR rs → ∃ y ∈ rs, y.1 = x.1 := by
  intro rs
  have : ∀ (n : Nat) (x : Run), x ∈ joinR (rs.take n) → ∃ y ∈ rs, y.1 = x.1 := by
    intro n
    induction n with
    | zero => intro x h; simp [join_nil] at h
    | succ n ih =>
      intro x h
      cases e : rs[n]? with
      | none =>
        rw [List.take_add_one, e] at h
        rw [show (none : Option Run).toList = [] from rfl, List.append_nil] at h
        exact ih x h
      | some r =>
        rw [join_take e] at h
        rcases mem_splice h with ⟨y, hy, e1⟩ | ⟨y, hy, e1⟩
        · obtain ⟨z, hz, e2⟩ := ih y hy
          exact ⟨z, hz, e2.trans e1⟩
        · rw [List.mem_singleton] at hy
          subst hy
          exact ⟨y, List.mem_of_getElem? e, e1⟩
  intro x h
  exact this rs.length x (by rw [List.take_length]; exact h)
theorem shaped_runsL {rs : List Run} (h : ∀ r ∈ rs, Asc r.1) : SeqAt.shaped (.list (rs.map runD)) = true := by
  obtain ⟨h1, h2, _⟩ := lay_runs h
  exact shaped_of h1 (by show PyData.depthAll (rs.map runD) + 1 ≤ 64; omega)
theorem eqv_nilL (ds : List PyData) : PyData.eqv (.list ds) (.list []) = ds.isEmpty := by
  cases ds with
  | nil => simp [PyData.eqv, PyData.eqvAll]
  | cons d ds => simp [PyData.eqv, PyData.eqvAll]
/-- the runs that have letters -/
def posR (rs : List Run) : List Run := rs.filter fun r => decide (0 < r.2)
theorem posR_more {rs : List Run} {i : Nat} {r : Run} (h : rs[i]? = some r) : posR (rs.take (i + 1)) = if 0 < r.2 then posR (rs.take i) ++ [r] else posR (rs.take i) := by
  unfold posR
  rw [List.take_add_one, h, List.filter_append, Option.toList_some, List.filter_cons, List.filter_nil]
  by_cases q : 0 < r.2
  · rw [if_pos q, if_pos (decide_eq_true q)]
  · rw [if_neg q, if_neg (fun z => q (of_decide_eq_true z)), List.append_nil]
theorem posR_all {rs : List Run} (h : ∀ r ∈ rs, 0 < r.2) : posR rs = rs := List.filter_eq_self.mpr fun r hr => decide_eq_true (h r hr)
theorem posR_pos (rs : List Run) : ∀ r ∈ posR rs, 0 < r.2 := fun r hr => of_decide_eq_true (List.mem_filter.mp hr).2
theorem posR_mem {rs : List Run} {r : Run} (h : r ∈ posR rs) : r ∈ rs := (List.mem_filter.mp h).1
theorem posR_len (rs : List Run) : (posR rs).length ≤ rs.length := List.length_filter_le _ _
section
variable {P : Program} {w : World} {K : PySem.W.Frag} {mg : Str → Option Value} {base : Heap}
def spLawJoined (K : PySem.W.Frag) : Sp := fun vs H Q _ => ∃ (a : Addr) (xs : List V) (rs : List Run), vs = [.ref a] ∧ SqL K H a xs ∧ PairsV H xs rs ∧ rs.length ≤ 10000 ∧ (∀ r ∈ rs, Asc r.1) ∧
  ∀ (H' : Hp) (L : Addr) (ks : List V), Same H H' → H L = none → H' L = some (.lst ks) → PairsV H' ks (joinR (posR rs)) → Q (.ref L) H'
abbrev s__law_joined : Stmt := top 64
theorem sc__law_joined : FnScope ["_law_runs", "_law_found", "_law_letter", "_law_count"] ["_law_runs"] (defScope s__law_joined) := ⟨rfl, rfl, rfl, by decide +kernel, rfl, by decide +kernel, by decide +kernel⟩
theorem ok_lawJoined {f : Addr} {fd : FuncData} (F : Fun K "_law_joined" "_law_joined" s__law_joined f fd) : FnOk P w K mg base CX0 1 f fd ["_law_runs"] (spLawJoined K) := by
  refine F.ok sc__law_joined (fun vs H Q E h => ?_) (fun cdv A outer s H vs Q E hr h => ?_)
  · obtain ⟨a, xs, rs, rfl, _⟩ := h
    rfl
  · obtain ⟨a, xs, rs, rfl, hS, hR, hn, hok, k⟩ := h
    refine ⟨_, (pss_cons (ps_set (i := 1) sc__law_joined.nd rfl (Or.inl rfl) (pe_lst pa_nil))
      (pss_cons (ps_for PassesOwn.never rfl (pi_list (pv 0)) (pg_tup rfl (pgs_cons (pg_name (i := 2) sc__law_joined.nd rfl (Or.inl rfl)) (pgs_cons (pg_name (i := 3) sc__law_joined.nd rfl (Or.inl rfl)) pgs_nil))) (pss_one (ps_if (PW.pt (pw_and (pt_cmpR op_gt (pv 3) pe_int (nomark _)) (pw_and (pt_cmpR (op_neD hr.units) (pv 1) (pe_lst pa_nil) (nomark _)) (pw_and1 (pt_cmpR op_eq (pe_ix ix_tup (pe_ix ix_list (pv 1) (pe_un un_neg pe_int) (fun _ _ => rfl)) pe_int (fun _ _ => rfl)) (pv 2) (nomark _)))))) (pss_one (ps_asg (pe_tup (pa_cons (pv 2) (pa_cons (pe_op op_add (pe_ix ix_tup (pe_ix ix_list (pv 1) (pe_un un_neg pe_int) (fun _ _ => rfl)) pe_int (fun _ _ => rfl)) (pv 3)) pa_nil))) (pg_sub (pv 1) (pe_un un_neg pe_int) set_list (by intro _; rfl)))) (pss_one (ps_if (pt_cmpR op_gt (pv 3) pe_int (nomark _)) (pss_one (ps_expr (pe_bm PySem.F.plainAttrs_list PySem.F.slot_list_append PySem.F.type_list_append mt_append (pv 1) (pa_cons (pe_tup (pa_cons (pv 2) (pa_cons (pv 3) pa_nil))) pa_nil)))) pss_nil)))))
      (pss_one (ps_ret (pv 1))))), ?_⟩
    have z1 : (100000 : Nat) ≤ sizeLine := by decide
    refine ⟨Nat.zero_le _, fun L hL => ?_⟩
    have s1 := Ask.Same.made1 (o := .lst []) (Same.refl H) hL
    have hL1 : upd H L (.lst []) L = some (.lst []) := upd_same
    generalize upd H L (.lst []) = H1 at s1 hL1 ⊢
    try dsimp only
    refine for_any (fun R r => ⟨_, rfl, a, rfl, ⟨_, s1.seq hS⟩, r⟩) (walk_list (xs := xs)) (fun i σ' H' => ∃ o2 o3 : Option V, σ' = [some (.ref a), some (.ref L), o2, o3] ∧ Same H H' ∧ ∃ ks, H' L = some (.lst ks) ∧ PairsV H' ks (joinR (posR (rs.take i))))
      ⟨none, none, rfl, s1, [], hL1, PairsV.nil⟩ (fun i σ' H' _ ⟨_, _, _, s', _⟩ => s'.seq hS) ?_ ?_
    · rintro i v σ' H3 H4 hi ⟨o2, o3, rfl, s3, ks, hL3, hk⟩ ⟨rfl, hv⟩
      obtain ⟨r, hri⟩ : ∃ r, rs[i]? = some r := ⟨_, List.getElem?_eq_getElem (by rw [← hR.1]; exact hi)⟩
      obtain ⟨b, rfl, hb⟩ := (hR.same s3).2 i v r hv hri
      have step0 := posR_more hri
      have hasc : ∀ x ∈ joinR (posR (rs.take i)), Asc x.1 := fun x hx => by
        obtain ⟨y, hy, e⟩ := mem_join hx
        rw [← e]
        exact hok y (List.mem_of_mem_take (posR_mem hy))
      have hjl := joinR_len (posR (rs.take i))
      have hpl := posR_len (rs.take i)
      rw [List.length_take] at hpl
      by_cases rpos : 0 < r.2
      case neg =>
        rw [if_neg rpos] at step0
        have gt0 : decide ((0 : Int) < r.2) = false := decide_eq_false rpos
        refine ⟨b, _, rfl, SqT.of hb, rfl, _, _, rfl, _, _, rfl, rfl, ?_⟩
        refine ⟨_, rfl, _, _, rfl, rfl, _, rfl, ?_⟩
        rw [gt0]
        refine iteF ?_
        dsimp only
        refine ⟨_, rfl, _, _, rfl, rfl, _, rfl, ?_⟩
        rw [gt0]
        exact iteF ⟨_, _, rfl, s3, ks, hL3, by rw [step0]; exact hk⟩
      rw [if_pos rpos] at step0
      have step : joinR (posR (rs.take (i + 1))) = spliceR (joinR (posR (rs.take i))) [r] := by rw [step0, join_more]
      generalize joinR (posR (rs.take i)) = js at step hk hasc hjl ⊢
      have ekl := hk.1
      refine ⟨b, _, rfl, SqT.of hb, rfl, _, _, rfl, _, _, rfl, rfl, ?_⟩
      have gt0 : decide ((0 : Int) < r.2) = true := decide_eq_true rpos
      refine ⟨_, rfl, _, _, rfl, rfl, _, rfl, ?_⟩
      rw [gt0]
      refine iteT ?_
      refine ⟨_, rfl, Nat.zero_le _, fun q hq => ?_⟩
      have s4 := Ask.Same.made1 (o := .lst []) s3 hq
      have hq4 : upd H4 q (.lst []) q = some (.lst []) := upd_same
      have hL4 : upd H4 q (.lst []) L = some (.lst ks) := by rw [upd_ne (ne_of_none hL3 hq)]; exact hL3
      have hk4 := hk.same (Ask.Same.made1 (o := .lst []) (Same.refl H4) hq)
      have hb4 : upd H4 q (.lst []) b = some (.tup [.str r.1, .int r.2]) := by rw [upd_ne (ne_of_none hb hq)]; exact hb
      generalize upd H4 q (.lst []) = H5 at s4 hq4 hL4 hk4 hb4 ⊢
      refine ⟨.list (js.map runD), .list [], .lst (SqL.of hL4) (dp_runs hk4), .lst (SqL.of hq4) .nil, shaped_runsL hasc, by decide, _, rfl, ?_⟩
      rw [eqv_nilL]
      -- what a new run leaves
      have fin : ∀ (t : Addr), H5 t = none → spliceR js [r] = js ++ [r] → ∃ o2 o3 : Option V, [some (V.ref a), some (.ref L), some (.str r.1), some (.int r.2)] = [some (.ref a), some (.ref L), o2, o3] ∧ Same H (upd (upd H5 t (.tup [.str r.1, .int r.2])) L (.lst (ks ++ [.ref t]))) ∧
          ∃ ks', upd (upd H5 t (.tup [.str r.1, .int r.2])) L (.lst (ks ++ [.ref t])) L = some (.lst ks') ∧ PairsV (upd (upd H5 t (.tup [.str r.1, .int r.2])) L (.lst (ks ++ [.ref t]))) ks' (joinR (posR (rs.take (i + 1)))) := fun t ht e => by
        have s5 := Ask.Same.made1 (o := .tup [.str r.1, .int r.2]) s4 ht
        have k5 := hk4.same (Ask.Same.made1 (o := .tup [.str r.1, .int r.2]) (Same.refl H5) ht)
        refine ⟨_, _, rfl, Ask.Same.upd_new s5 hL, _, upd_same, ?_⟩
        rw [step, e]
        exact (k5.app (b := t) (r := r) upd_same).mut (L := L) (ys := ks) (by rw [upd_ne (ne_of_none hL4 ht)]; exact hL4)
      have kl : ks.length ≤ 10001 := by omega
      have hLt : ∀ t, H5 t = none → upd H5 t (.tup [.str r.1, .int r.2]) L = some (.lst ks) := fun t ht => by rw [upd_ne (ne_of_none hL4 ht)]; exact hL4
      rcases List.eq_nil_or_concat js with e0 | ⟨j1, l, e0⟩
      · have e1 : (js.map runD).isEmpty = true := by subst e0; rfl
        rw [e1]
        refine iteF ?_
        dsimp only
        refine ⟨_, rfl, _, _, rfl, rfl, _, rfl, ?_⟩
        rw [gt0]
        refine iteT ⟨_, rfl, .inl ⟨rfl, _, SqL.of hL4⟩, _, rfl, _, rfl, by show 2 ≤ sizeLine; decide, fun t ht => ⟨L, _, _, rfl, rfl, hLt t ht, by omega, fin t ht (by subst e0; rfl)⟩⟩
      · rw [List.concat_eq_append] at e0
        have e1 : (js.map runD).isEmpty = false := by subst e0; simp
        rw [e1]
        refine iteT ?_
        have gl : js.getLast? = some l := by subst e0; simp
        have hjne : js ≠ [] := by subst e0; simp
        have hkne : ks ≠ [] := fun z => by subst z; exact hjne (List.eq_nil_of_length_eq_zero ekl.symm)
        have hl : js[js.length - 1]? = some l := by rw [← List.getLast?_eq_getElem?]; exact gl
        obtain ⟨x, hx, hx2⟩ := hk4.get hl
        rw [← ekl] at hx
        have at1 : atI ks (-1) = some (.ref x) := atI_back hx
        have bx0 : atI [V.str l.1, .int l.2] 0 = some (.str l.1) := at_by (j := 0) rfl rfl
        have bx1 : atI [V.str l.1, .int l.2] 1 = some (.int l.2) := at_by (j := 1) rfl rfl
        have sp : spliceR js [r] = if l.1 = r.1 then js.dropLast ++ [(l.1, l.2 + r.2)] ++ [] else js ++ [r] := by
          unfold spliceR
          rw [gl]
        refine ⟨_, rfl, _, rfl, L, _, _, _, rfl, rfl, SqL.of hL4, at1, x, _, _, _, rfl, rfl, SqT.of hx2, bx0, _, rfl, rfl, _, rfl, ?_⟩
        by_cases q3 : l.1 = r.1
        · rw [decide_eq_true (congrArg V.str q3)]
          rw [if_pos q3, List.append_nil] at sp
          refine iteT ?_
          dsimp only
          refine ⟨_, rfl, _, rfl, _, rfl, L, _, _, _, rfl, rfl, SqL.of hL4, at1, x, _, _, _, rfl, rfl, SqT.of hx2, bx1, _, rfl, _, _, rfl, rfl, by show 2 ≤ sizeLine; decide, fun t ht => ?_⟩
          have s5 := Ask.Same.made1 (o := .tup [.str r.1, .int (l.2 + r.2)]) s4 ht
          have k5 := hk4.same (Ask.Same.made1 (o := .tup [.str r.1, .int (l.2 + r.2)]) (Same.refl H5) ht)
          have hL5 : upd H5 t (.tup [.str r.1, .int (l.2 + r.2)]) L = some (.lst ks) := by rw [upd_ne (ne_of_none hL4 ht)]; exact hL4
          have ht5 : upd H5 t (.tup [.str r.1, .int (l.2 + r.2)]) t = some (.tup [.str r.1, .int (l.2 + r.2)]) := upd_same
          generalize upd H5 t (.tup [.str r.1, .int (l.2 + r.2)]) = H6 at s5 k5 hL5 ht5 ⊢
          have k1 : 1 ≤ ks.length := List.length_pos_iff.mpr hkne
          refine ⟨_, rfl, _, rfl, L, ks, _, ks.length - 1, rfl, rfl, hL5, ?_, _, _, rfl, Ask.Same.upd_new s5 hL, _, upd_same, ?_⟩
          · show ixN ks.length (-1) = some (ks.length - 1)
            unfold ixN
            rw [if_neg (by decide), if_pos (by omega)]
            congr 1
            omega
          · rw [step, sp, set_last _ _ hkne]
            have : PairsV H6 (ks.dropLast ++ [.ref t]) (js.dropLast ++ [(l.1, l.2 + r.2)]) := by
              refine PairsV.app ?_ (by rw [q3]; exact ht5)
              rw [List.dropLast_eq_take, List.dropLast_eq_take, ekl]
              exact k5.take _
            exact this.mut hL5
        · rw [decide_eq_false (fun z => q3 (V.str.inj z))]
          rw [if_neg q3] at sp
          refine iteF ?_
          dsimp only
          refine ⟨_, rfl, _, _, rfl, rfl, _, rfl, ?_⟩
          rw [gt0]
          refine iteT ⟨_, rfl, .inl ⟨rfl, _, SqL.of hL4⟩, _, rfl, _, rfl, by show 2 ≤ sizeLine; decide, fun t ht => ⟨L, _, _, rfl, rfl, hLt t ht, by omega, fin t ht sp⟩⟩
    · rintro σ' H3 ⟨o2, o3, rfl, s3, ks, hL3, hk⟩
      rw [hR.1, List.take_length] at hk
      exact ⟨_, rfl, k H3 L ks s3 hL hL3 hk⟩
end
end Ask

namespace Ask
open PySem L2
/-- one run for each letter -/
def onesR (ws : List Str) : List Run := ws.map fun z => (z, 1)
section
variable {P : Program} {w : World} {K : PySem.W.Frag} {mg : Str → Option Value} {base : Heap}
/-! ### a beginning -/
def spBeg : Sp := fun vs H Q _ => ∃ (p c : Addr) (ns : List Int) (B : Nat), vs = [.ref p] ∧ Pen c ns H p B ∧ B ≤ 1000000000 ∧ ∀ (H' : Hp) (b : Str), Go p c ns H H' (B + 1) → (b = "new" ∨ b = "found") → Q (.str b) H'
abbrev s__law_beginning : Stmt := top 80
theorem sc__law_beginning : FnScope ["_law_pen_here"] ["_law_pen_here"] (defScope s__law_beginning) := ⟨rfl, rfl, rfl, by decide +kernel, rfl, by decide +kernel, by decide +kernel⟩
theorem ok_beg {f fD : Addr} {fd fdD : FuncData} (F : Fun K "_law_beginning" "_law_beginning" s__law_beginning f fd)
    (GD : FnOk P w K mg base CX0 1 fD fdD ["_law_pen_here", "_law_many"] spDraw) (D : At K mg "_law_draw" fD fdD ["_law_pen_here", "_law_many"]) : FnOk P w K mg base CX0 2 f fd ["_law_pen_here"] spBeg := by
  refine F.ok sc__law_beginning (fun vs H Q E h => ?_) (fun cdv A outer s H vs Q E hr h => ?_)
  · obtain ⟨p, c, ns, B, rfl, _⟩ := h
    rfl
  · obtain ⟨p, c, ns, B, rfl, hp, hB, k⟩ := h
    refine ⟨_, (pss_one (ps_ret (pe_ix ix_list (pe_lst (pa_cons pe_str (pa_cons pe_str pa_nil))) (pe_call GD hr (by rfl) D.m D.k D.b .nil pass0 (pa_cons (pv 0) (pa_cons pe_int pa_nil))) (fun _ _ => rfl)))), ?_⟩
    refine ⟨by show 2 ≤ sizeLine; decide, fun q hq => ?_⟩
    have g1 := (Go.refl hp).new (o := .lst [.str "new", .str "found"]) hq
    have hq1 : upd H q (.lst [.str "new", .str "found"]) q = some (.lst [.str "new", .str "found"]) := upd_same
    generalize upd H q (.lst [.str "new", .str "found"]) = H1 at g1 hq1 ⊢
    refine ⟨_, rfl, p, c, ns, 2, B, rfl, g1.pen, hB, by decide, by decide, fun H2 r g2 r0 r1 => ?_⟩
    have hr : r = 0 ∨ r = 1 := by omega
    rcases hr with rfl | rfl
    · exact ⟨q, _, _, _, rfl, rfl, SqL.of (g2.lst hq1), at_by (j := 0) rfl rfl, k H2 "new" (g1.step g2) (.inl rfl)⟩
    · exact ⟨q, _, _, _, rfl, rfl, SqL.of (g2.lst hq1), at_by (j := 1) rfl rfl, k H2 "found" (g1.step g2) (.inr rfl)⟩
end
end Ask

namespace Ask
open PySem L2
/-! ### runs and their letters, one by one -/
theorem ones_app (a b : List Str) : onesR (a ++ b) = onesR a ++ onesR b := List.map_append
theorem splice_some {h : List Run} {l : Run} (e : h.getLast? = some l) (r : Run) : spliceR h [r] = if l.1 = r.1 then h.dropLast ++ [(l.1, l.2 + r.2)] else h ++ [r] := by
  unfold spliceR
  rw [e]
  show (if l.1 = r.1 then h.dropLast ++ [(l.1, l.2 + r.2)] ++ [] else h ++ [r]) = _
  rw [List.append_nil]
theorem splice_none {h : List Run} (e : h.getLast? = none) (r : Run) : spliceR h [r] = [r] := by
  have : h = [] := List.getLast?_eq_none_iff.mp e
  subst this
  rfl
theorem splice_two (h : List Run) (z : Str) (a b : Int) : spliceR (spliceR h [(z, a)]) [(z, b)] = spliceR h [(z, a + b)] := by
  cases e : h.getLast? with
  | none =>
    rw [splice_none e, splice_none e, splice_some (l := (z, a)) rfl]
    rw [if_pos rfl]
    rfl
  | some l =>
    rw [splice_some e, splice_some e]
    by_cases q : l.1 = z
    · rw [if_pos q, if_pos q, splice_some (l := (l.1, l.2 + a)) (by simp), if_pos q, List.dropLast_concat]
      show _ ++ [(l.1, l.2 + a + b)] = _ ++ [(l.1, l.2 + (a + b))]
      rw [Int.add_assoc]
    · rw [if_neg q, if_neg q, splice_some (l := (z, a)) (by simp), if_pos rfl, List.dropLast_concat]
theorem join_rep1 (as : List Run) (z : Str) : ∀ n : Nat, joinR (as ++ onesR (List.replicate (n + 1) z)) = spliceR (joinR as) [(z, (n : Int) + 1)]
  | 0 => join_more as (z, 1)
  | n + 1 => by
    rw [List.replicate_succ', ones_app, ← List.append_assoc]
    show joinR (as ++ onesR (List.replicate (n + 1) z) ++ [(z, 1)]) = _
    rw [join_more, join_rep1 as z n, splice_two]
    rfl
/-- runs are the runs of their letters -/
theorem join_plain {rs : List Run} (h : ∀ r ∈ rs, 0 < r.2) : joinR (onesR (plainR rs)) = joinR rs := by
  have : ∀ n, joinR (onesR (plainR (rs.take n))) = joinR (rs.take n) := by
    intro n
    induction n with
    | zero => rfl
    | succ n ih =>
      cases e : rs[n]? with
      | none =>
        rw [List.take_add_one, e, show (none : Option Run).toList = [] from rfl, List.append_nil]
        exact ih
      | some r =>
        have hr := h r (List.mem_of_getElem? e)
        rw [plainR_more e, join_take e, ones_app]
        obtain ⟨m, hm⟩ : ∃ m : Nat, r.2.toNat = m + 1 := ⟨r.2.toNat - 1, by omega⟩
        rw [hm, join_rep1, ih]
        have : (m : Int) + 1 = r.2 := by omega
        rw [this]
  have k := this rs.length
  rw [List.take_length] at k
  exact k
theorem plain_cons (r : Run) (rs : List Run) : plainR (r :: rs) = List.replicate r.2.toNat r.1 ++ plainR rs := List.flatMap_cons
theorem plain_one (r : Run) : plainR [r] = List.replicate r.2.toNat r.1 := by
  rw [plain_cons]
  exact List.append_nil _
/-- a spliced sum has the letters of both -/
theorem plain_splice {h : List Run} {r : Run} (p : ∀ x ∈ h, 0 < x.2) (q : 0 < r.2) : plainR (spliceR h [r]) = plainR h ++ plainR [r] := by
  cases e : h.getLast? with
  | none =>
    rw [splice_none e]
    have : h = [] := List.getLast?_eq_none_iff.mp e
    subst this
    rfl
  | some l =>
    rw [splice_some e]
    by_cases z : l.1 = r.1
    · rw [if_pos z]
      have hd : h = h.dropLast ++ [l] := by
        obtain ⟨ys, rfl⟩ := List.getLast?_eq_some_iff.mp e
        rw [List.dropLast_concat]
      have hl := p l (List.mem_of_getLast? e)
      conv => rhs; rw [hd]
      rw [plainR_app, plainR_app, plain_one, plain_one, plain_one, List.append_assoc]
      show _ ++ List.replicate (l.2 + r.2).toNat l.1 = _ ++ (List.replicate l.2.toNat l.1 ++ List.replicate r.2.toNat r.1)
      rw [← z, List.replicate_append_replicate]
      congr 2
      omega
    · rw [if_neg z, plainR_app]
theorem pos_splice {h : List Run} {r : Run} (p : ∀ x ∈ h, 0 < x.2) (q : 0 < r.2) : ∀ x ∈ spliceR h [r], 0 < x.2 := by
  intro x hx
  cases e : h.getLast? with
  | none =>
    rw [splice_none e, List.mem_singleton] at hx
    subst hx
    exact q
  | some l =>
    rw [splice_some e] at hx
    by_cases z : l.1 = r.1
    · rw [if_pos z] at hx
      rcases List.mem_append.mp hx with hx | hx
      · exact p x ((List.dropLast_sublist h).subset hx)
      · rw [List.mem_singleton] at hx
        subst hx
        have := p l (List.mem_of_getLast? e)
        show 0 < l.2 + r.2
        omega
    · rw [if_neg z] at hx
      rcases List.mem_append.mp hx with hx | hx
      · exact p x hx
      · rw [List.mem_singleton] at hx
        subst hx
        exact q
theorem join_keeps {rs : List Run} (h : ∀ r ∈ rs, 0 < r.2) : (∀ x ∈ joinR rs, 0 < x.2) ∧ plainR (joinR rs) = plainR rs := by
  have : ∀ n, (∀ x ∈ joinR (rs.take n), 0 < x.2) ∧ plainR (joinR (rs.take n)) = plainR (rs.take n) := by
    intro n
    induction n with
    | zero => exact ⟨fun x hx => by simp [join_nil] at hx, rfl⟩
    | succ n ih =>
      cases e : rs[n]? with
      | none =>
        rw [List.take_add_one, e, show (none : Option Run).toList = [] from rfl, List.append_nil]
        exact ih
      | some r =>
        have hr := h r (List.mem_of_getElem? e)
        rw [join_take e]
        refine ⟨pos_splice ih.1 hr, ?_⟩
        rw [plain_splice ih.1 hr, ih.2, plainR_more e, plain_one]
  have k := this rs.length
  rw [List.take_length] at k
  exact k
theorem join_pos {rs : List Run} (h : ∀ r ∈ rs, 0 < r.2) : ∀ x ∈ joinR rs, 0 < x.2 := (join_keeps h).1
theorem plain_join {rs : List Run} (h : ∀ r ∈ rs, 0 < r.2) : plainR (joinR rs) = plainR rs := (join_keeps h).2
theorem ones_pos (ws : List Str) : ∀ r ∈ onesR ws, 0 < r.2 := fun r hr => by
  obtain ⟨z, _, rfl⟩ := List.mem_map.mp hr
  exact Int.one_pos
theorem plain_ones : ∀ ws : List Str, plainR (onesR ws) = ws
  | [] => rfl
  | z :: ws => by
    show plainR ((z, 1) :: onesR ws) = _
    rw [plain_cons, plain_ones ws]
    rfl
theorem size_join {rs : List Run} (h : ∀ r ∈ rs, 0 < r.2) : sizeR (joinR rs) = ((plainR rs).length : Int) := by
  rw [← plain_join h, plainR_len fun r hr => Int.le_of_lt (join_pos h r hr)]
/-- joined runs joined again -/
theorem join_join {rs : List Run} (h : ∀ r ∈ rs, 0 < r.2) : joinR (joinR rs) = joinR rs := by
  rw [← join_plain (join_pos h), plain_join h, join_plain h]
theorem last_plain {rs : List Run} (h : ∀ r ∈ rs, 0 < r.2) (b : Str) : lastR b rs = ((plainR rs).getLast?).getD b := by
  rcases List.eq_nil_or_concat rs with rfl | ⟨L, r, rfl⟩
  · rfl
  · rw [List.concat_eq_append] at h ⊢
    have hr := h r (List.mem_append_right _ (List.mem_singleton.mpr rfl))
    unfold lastR
    rw [plainR_app, plain_one]
    obtain ⟨m, hm⟩ : ∃ m : Nat, r.2.toNat = m + 1 := ⟨r.2.toNat - 1, by omega⟩
    rw [hm, List.replicate_succ', ← List.append_assoc, List.getLast?_concat, List.getLast?_concat]
    rfl
/-- the letter at a place -/
theorem part_plain : ∀ {rs : List Run} {n : Nat} {z : Str}, (∀ r ∈ rs, 0 < r.2) → (plainR rs)[n]? = some z → ∃ (f b : List Run) (r : Run), partR rs (n : Int) = some (f, r :: b) ∧ r.1 = z
  | [], n, z, _, e => by simp [plainR] at e
  | r :: rs, n, z, h, e => by
    have hr := h r (List.mem_cons_self ..)
    unfold partR
    by_cases n0 : (n : Int) = 0
    · rw [if_pos n0]
      refine ⟨[], rs, r, rfl, ?_⟩
      have : n = 0 := by omega
      subst this
      rw [plain_cons] at e
      obtain ⟨m, hm⟩ : ∃ m : Nat, r.2.toNat = m + 1 := ⟨r.2.toNat - 1, by omega⟩
      rw [hm, List.replicate_succ] at e
      exact Option.some.inj e
    · rw [if_neg n0]
      rw [plain_cons] at e
      by_cases q : (n : Int) < r.2
      · rw [if_pos q]
        refine ⟨_, _, (r.1, r.2 - n), rfl, ?_⟩
        rw [List.getElem?_append_left (by rw [List.length_replicate]; omega), List.getElem?_replicate, if_pos (by omega)] at e
        exact Option.some.inj e
      · rw [if_neg q]
        rw [List.getElem?_append_right (by rw [List.length_replicate]; omega), List.length_replicate] at e
        obtain ⟨f, b, r', e1, e2⟩ := part_plain (fun x hx => h x (List.mem_cons_of_mem _ hx)) e
        have : ((n - r.2.toNat : Nat) : Int) = (n : Int) - r.2 := by omega
        rw [this] at e1
        exact ⟨r :: f, b, r', by rw [e1]; rfl, e2⟩
theorem plain_mem {rs : List Run} {z : Str} (h : z ∈ plainR rs) : ∃ r ∈ rs, r.1 = z := by
  obtain ⟨r, hr, hz⟩ := List.mem_flatMap.mp h
  exact ⟨r, hr, (List.eq_of_mem_replicate hz).symm⟩
end Ask

/-! o[e] by an instance's own __getitem__, what it raises wished for at the slots as they stand -/
namespace Ask
open PySem L2 PySem.Spec PyProof.Rows
def tItI (C : Addr) (sp : Sp) (E : L2.St → XK) (ta tb : TE) : TE := fun σ H Q => ta σ H fun x H1 => tb σ H1 fun y H2 => ∃ (a dx : Addr) (fs : List (Str × V)), x = .ref a ∧ H2 a = some (.ins C dx fs) ∧ sp [.ref a, y] H2 Q (E σ)
section
variable {X : Cx} {CX : CXT} {k : Nat} {C f : Addr} {fd : FuncData} {ps : List Str} {sp : Sp} {E : L2.St → XK}
theorem run_atS {A : Around} {pins : List (Addr × Obj)} {σ : L2.St} {H : Hp} {s : Shared} {Q : VK} {us : List Value} {vs : List V} (F : FnOk X.prog X.w X.K X.mg X.base CX k f fd ps sp) (hr : Room k A) (hfr : A.frames = X.A.frames) (hb : Binds X.K fd ps []) (hx : PassesAt CX X σ (E σ))
    (I : Inv X pins σ H s) (r : Vals vs us) (h : sp vs H Q (E σ)) : wpAny (model X.prog X.w) A (call (.ref f) us) (EP X pins σ Q) X.xe s := by
  have hl : us.length = ps.length := by rw [← r.length]; exact F.len _ _ _ _ h
  have b := hb s us I.kIn (by rw [List.append_nil]; exact hl)
  rw [List.append_nil] at b
  have e0 : Env0 X.prog X.w X.K X.mg X.base A X.stack s H := by
    have e := I.env0
    exact ⟨by rw [hfr]; exact e.frames, e.mod, e.bs, e.bsz, e.funs, e.frf, e.hok, e.bare⟩
  refine wpAny_call (codeAny_mono (F.run A X.stack s H ⟨us, []⟩ us vs Q (E σ) hr e0 b r h) fun r s' hq => ?_)
  cases r with
  | error e => exact hx pins H s e s' I hq
  | ok fl =>
    cases fl with
    | ret u => exact I.after hq
    | next => exact False.elim hq
    | brk => exact False.elim hq
    | cont => exact False.elim hq
theorem pe_itI {a b : Expr} {pos : Pos} {ta tb : TE} (ha : PE X a ta) (hb : PE X b tb) (F : FnOk X.prog X.w X.K X.mg X.base CX k f fd ps sp) (hr : Room (k + 1) X.A) (hbd : Binds X.K fd ps []) (hx : ∀ σ, PassesAt CX X σ (E σ))
    (hs : PySem.W.findIn X.K (.ref C) "__getitem__" = some (some (.ref f))) (hfn : PySem.W.fnIn X.K f = true) (hf : PySem.W.isFn X.K (.ref f) = true)
    (hsl : ∀ (x : Addr) (i : Value), subscripted b true (.ref x) i = runValue (.builtin "lifetime.subscript" ⟨[.ref x, i], []⟩) := by intro x i; with_unfolding_all rfl) : PE X (.Subscript a b pos) (tItI C sp E ta tb) := by
  refine ⟨fun pins s σ H Q I h => ?_⟩
  refine Subscript_ (binT ha hb I h fun v u s2 x y H2 I2 rx ry q => ?_)
  obtain ⟨p, dx, fs, rfl, hp, q⟩ := q
  obtain rfl : v = Value.ref p := rx
  obtain ⟨mA, J, _⟩ := ins_get I2.hok hp
  obtain ⟨od, J, _⟩ := J.look
  obtain ⟨m, hF⟩ := I2.fr
  exact PySem.W.sub_K hF I2.ok.mod.kin J hs hfn hf (run_atS (vs := [.ref p, y]) F hr.in1 rfl hbd (hx σ) I2 (.cons rfl (.cons ry .nil)) q) (hsl _ _)
end
end Ask

namespace Ask
open PySem PySem.Spec PyProof.Rows L2
/-- o.m(e, ..) within a try, what it raises wished for at the slots as they stand -/
def tMethE (C : Addr) (m : Str) (sp : Sp) (E : L2.St → XK) (ta : TE) (t : TA) : TE := fun σ H Q => ta σ H fun x H1 => ∃ (a dx : Addr) (fs : List (Str × V)), x = .ref a ∧ H1 a = some (.ins C dx fs) ∧ fs.lookup m = none ∧ t σ H1 fun vs H2 => sp (x :: vs) H2 Q (E σ)
theorem pe_methE {X : Cx} {CX : CXT} {k : Nat} {f C : Addr} {fd : FuncData} {ps : List Str} {sp : Sp} {E : L2.St → XK} {m : Str} {pos apos : Pos} {e o : Expr} {es : List Expr} {ta : TE} {t : TA} {pl : Sem Bool} (he : PE X o ta) (c : Cls X.K C) (hm : Meth X.K C m f)
    (F : FnOk X.prog X.w X.K X.mg X.base CX k f fd ps sp) (hr : Room k X.A) (hb : Binds X.K fd ps []) (hx : ∀ σ, PassesAt CX X σ (E σ)) (ha : PA X (e :: es) t)
    (hst : starEach (e :: es) X.env = (false, eval e X.env) :: starEach es X.env := by rfl) (hpl : (backTo pos (starEach es X.env)).any (·.1) = false := by rfl)
    (ht : eval (.Call (.Attribute o m apos) (e :: es) [] pos) X.env = (do
      let ov ← eval o X.env
      standAt apos.atName
      let (f, first) ← holding [ov] (getMethod ov m pl)
      callWith pos f first (backTo pos (starEach (e :: es) X.env)) (backToKw pos (keywordEach [] X.env))) := by rfl) :
    PE X (.Call (.Attribute o m apos) (e :: es) [] pos) (tMethE C m sp E ta t) := by
  refine ⟨fun pins s σ H Q I h => PySem.W.methodCall_KW (pl := pl) (thn (he.run pins s σ H _ I h) fun u s1 ⟨x, H1, I1, rx, a, dx, fs, ex, ea, l, q⟩ => ?_) ht⟩
  subst ex
  obtain rfl : u = Value.ref a := rx
  refine getmeth_ok I1 ea c hm l (PySem.W.callWith_K (first := [.ref a]) (h₀ := X.base) I.ok.mod.kin hm.kp (thn (ha.run pos pins s1 σ H1 _ I1 q) fun us s2 ⟨vs, H2, I2, r, q2⟩ => ⟨I2.kIn, ?_⟩) hst hpl)
  exact run_fnS (us := .ref a :: us) (vs := .ref a :: vs) F hr hb (hx σ) I2 (.cons rfl r) q2
/-- o.m() within a try -/
theorem pe_methE0 {X : Cx} {CX : CXT} {k : Nat} {f C : Addr} {fd : FuncData} {ps : List Str} {sp : Sp} {E : L2.St → XK} {m : Str} {pos apos : Pos} {o : Expr} {ta : TE} {pl : Sem Bool} (he : PE X o ta) (c : Cls X.K C) (hm : Meth X.K C m f)
    (F : FnOk X.prog X.w X.K X.mg X.base CX k f fd ps sp) (hr : Room k X.A) (hb : Binds X.K fd ps []) (hx : ∀ σ, PassesAt CX X σ (E σ))
    (ht : eval (.Call (.Attribute o m apos) [] [] pos) X.env = (do
      let ov ← eval o X.env
      standAt apos.atName
      let (f, first) ← holding [ov] (getMethod ov m pl)
      callWith pos f first (backTo pos (starEach [] X.env)) (backToKw pos (keywordEach [] X.env))) := by rfl) :
    PE X (.Call (.Attribute o m apos) [] [] pos) (tMethE C m sp E ta tNil) := by
  refine ⟨fun pins s σ H Q I h => PySem.W.methodCall_KW (pl := pl) (thn (he.run pins s σ H _ I h) fun u s1 ⟨x, H1, I1, rx, a, dx, fs, ex, ea, l, q⟩ => ?_) ht⟩
  subst ex
  obtain rfl : u = Value.ref a := rx
  exact getmeth_ok I1 ea c hm l (PySem.W.callWith_K0 (first := [.ref a]) I1.kIn hm.kp (run_fnS (us := [.ref a]) (vs := [.ref a]) F hr hb (hx σ) I1 (.cons rfl .nil) q))
end Ask

/-! o + l by an instance's own __add__, l a list or a tuple -/
namespace Ask
open PySem L2 PySem.Spec PyProof.Rows
theorem fills_list : fillsNumberSlot (.type "list") "add" = pure false := by
  have a : typeLookup (.type "list") (PySem.dunder "add") = pure (some (.builtin "list.__add__")) := by rw [typeLookup_type, builtinLookup_eq_fast]; kernel_rfl
  have b : typeLookup (.type "list") (PySem.dunderR "add") = pure none := by rw [typeLookup_type, builtinLookup_eq_fast]; kernel_rfl
  have c : isSeqSlot (some (.builtin "list.__add__")) = true := by decide +kernel
  unfold fillsNumberSlot
  simp [a, b, c]
theorem fills_tup : fillsNumberSlot (.type "tuple") "add" = pure false := by
  have a : typeLookup (.type "tuple") (PySem.dunder "add") = pure (some (.builtin "tuple.__add__")) := by rw [typeLookup_type, builtinLookup_eq_fast]; kernel_rfl
  have b : typeLookup (.type "tuple") (PySem.dunderR "add") = pure none := by rw [typeLookup_type, builtinLookup_eq_fast]; kernel_rfl
  have c : isSeqSlot (some (.builtin "tuple.__add__")) = true := by decide +kernel
  unfold fillsNumberSlot
  simp [a, b, c]
section
variable {prog : Program} {w : World} {A : Around} {E : Value → Shared → Prop} {s : Shared} {K : PySem.W.Frag} {x C L f : Addr} {h₀ : Heap} {m : Str → Option Value} {ox : Obj} {od : Option Obj}
open PySem.W in
theorem add_K {T : String} {b : Value} {Q : Value → Shared → Prop} (F : Fr h₀ L s.heap m) (X₀ : K.In h₀) (I : InstAt s.heap x ox C od) (hb : s.TypeIs b T) (hT : fillsNumberSlot (.type T) "add" = pure false) (hc : selfFirst K C = true)
    (hs : findIn K (.ref C) "__add__" = some (some (.ref f))) (hf : isFn K (.ref f) = true)
    (h : wpAny (model prog w) A (call (.ref f) [.ref x, b]) (PySem.W.CmpBack Q) E s) : wpAny (model prog w) A (binaryOp .Add (.ref x) b) Q E s := by
  have X := X₀.keeps F.keep
  have ed : ("__add__" : Str) = PySem.dunder "add" := by decide +kernel
  rw [ed] at hs
  obtain ⟨cd, hcd, hm⟩ := any_some hc
  obtain ⟨rest, hm⟩ : ∃ rest, cd.mro = .ref C :: rest := by
    cases q : cd.mro with
    | nil => rw [q] at hm; cases hm
    | cons a r => rw [q] at hm; exact ⟨r, by rw [List.head?_cons] at hm; cases (beq_iff_eq.mp hm); rfl⟩
  unfold binaryOp
  refine wpAny_holding (wpAny_bind ?_)
  unfold binaryOp1
  refine wpAny_bind (I.type.here (wpAny_bind (wpAny_typeOf hb (wpAny_bind ((fills_K X hcd hm hs).here ?_)))))
  rw [show ((Value.ref C == Value.type T) = false) from by simp]
  simp only [Bool.false_eq_true, if_false]
  show wpAny (model prog w) A (fillsNumberSlot (.type T) "add" >>= _) _ _ _
  rw [hT]
  refine wpAny_bind (wpAny_pure ?_)
  simp only [Bool.and_false, Bool.false_eq_true, if_false, Bool.false_and]
  refine wpAny_bind (wpAny_pure ?_)
  simp only [Bool.false_eq_true, if_false]
  refine wpAny_bind (m := tryMethod (.ref x) _ b) ?_
  unfold tryMethod
  refine wpAny_bind (special_fn X I hs (beq_iff_eq.mp hf) (wpAny_mono h (fun v s' hv => ?_) fun _ _ e => e))
  cases v <;> first | exact hv.elim | exact wpAny_pure (wpAny_pure (wpAny_pure hv))
end
section
variable {X : Cx} {CX : CXT} {k : Nat} {C f : Addr} {fd : FuncData} {ps : List Str} {sp : Sp} {E : XK}
theorem op_addI (F : FnOk X.prog X.w X.K X.mg X.base CX k f fd ps sp) (hr : Room k X.A) (hb : Binds X.K fd ps []) (hx : Passes CX X E) (hs : PySem.W.findIn X.K (.ref C) "__add__" = some (some (.ref f))) (hf : PySem.W.isFn X.K (.ref f) = true) (hc : PySem.W.selfFirst X.K C = true) :
    OpR X (binaryOp .Add) (fun x y H Q => ∃ (a b dx : Addr) (fs : List (Str × V)) (zs : List V), x = .ref a ∧ y = .ref b ∧ H a = some (.ins C dx fs) ∧ (SqL X.K H b zs ∨ SqT X.K H b zs) ∧ sp [.ref a, .ref b] H (fun v H' => (∃ r, v = .ref r) ∧ Q v H') E) := by
  intro pins s σ H x y v u Q I rx ry h
  obtain ⟨a, b, dx, fs, zs, rfl, rfl, ha, hz, q⟩ := h
  cases rx
  cases ry
  obtain ⟨mA, J, _⟩ := ins_get I.hok ha
  obtain ⟨od, J, _⟩ := J.look
  obtain ⟨m, hF⟩ := I.fr
  have body : wpAny (model X.prog X.w) X.A (call (.ref f) [.ref a, .ref b]) (PySem.W.CmpBack (EP X pins σ Q)) X.xe s := by
    refine thn (run_at (vs := [.ref a, .ref b]) F hr rfl hb hx I (.cons rfl (.cons rfl .nil)) q) fun r s' ⟨z, H', I', rz, ⟨p, ez⟩, q'⟩ => ?_
    subst ez
    obtain rfl : r = Value.ref p := rz
    exact ⟨.ref p, H', I', rfl, q'⟩
  rcases hz with hz | hz
  · obtain ⟨its, _, ⟨o, n, e, c, _, _⟩, _⟩ := I.list hz
    exact add_K hF I.ok.mod.kin J (T := "list") ⟨o, e, c⟩ fills_list hc hs hf body
  · obtain ⟨its, _, ⟨o, e, c, _⟩, _⟩ := I.tuple hz
    exact add_K hF I.ok.mod.kin J (T := "tuple") ⟨o, e, c⟩ fills_tup hc hs hf body
end
end Ask

namespace Ask
open PySem L2
section
variable {P : Program} {w : World} {K : PySem.W.Frag} {mg : Str → Option Value} {base : Heap}
/-! ### a great number -/
def spGreat : Sp := fun vs H Q _ => ∃ (p c : Addr) (ns : List Int) (B : Nat), vs = [.ref p] ∧ Pen c ns H p B ∧ B ≤ 500000000 ∧ ∀ (H' : Hp) (r : Int), Go p c ns H H' (B + 30) → 1 ≤ r → r ≤ 1000000000000000000000000000000 → Q (.int r) H'
/-! ### a count -/
def spCount : Sp := fun vs H Q _ => ∃ (p c : Addr) (ns : List Int) (B : Nat), vs = [.ref p] ∧ Pen c ns H p B ∧ B ≤ 400000000 ∧ ∀ (H' : Hp) (r : Int), Go p c ns H H' (B + 40) → 1 ≤ r → r ≤ 1000000000000000000000000000000 → Q (.int r) H'
end
end Ask

namespace Ask
open PySem L2
theorem PairsV.go {p c : Addr} {ns : List Int} {H H' : Hp} {B : Nat} {xs : List V} {rs : List Run} (h : PairsV H xs rs) (g : Go p c ns H H' B) : PairsV H' xs rs :=
  ⟨h.1, fun i v r h1 h2 => let ⟨b, e, h3⟩ := h.2 i v r h1 h2; ⟨b, e, g.tup h3⟩⟩
/-- drawn runs -/
def RunOk (ys : List Str) (rs : List Run) : Prop := ∀ r ∈ rs, r.1 ∈ ys ∧ 1 ≤ r.2 ∧ r.2 ≤ 1000000000000000000000000000000
theorem RunOk.pos {ys : List Str} {rs : List Run} (h : RunOk ys rs) : ∀ r ∈ rs, 0 < r.2 := fun r hr => by have := (h r hr).2.1; omega
/-! ### where runs end -/
def marksR (rs : List Run) : List Int := (List.range (rs.length + 1)).map fun i => sizeR (rs.take i)
theorem sizeR_more {rs : List Run} {i : Nat} {r : Run} (h : rs[i]? = some r) : sizeR (rs.take (i + 1)) = sizeR (rs.take i) + r.2 := by
  rw [List.take_add_one, h, sizeR_app]
  show _ + (r.2 + 0) = _
  rw [Int.add_zero]
/-! ### the letter at a place -/
def letR : List Run → Int → Option Str
  | [], _ => none
  | r :: rs, n => if 0 ≤ n ∧ n < r.2 then some r.1 else letR rs (n - r.2)
def optV : Option Str → V
  | some z => .str z
  | none => .non
theorem let_neg : ∀ {rs : List Run} {n : Int}, (∀ r ∈ rs, 0 < r.2) → n < 0 → letR rs n = none
  | [], _, _, _ => rfl
  | r :: rs, n, h, hn => by
    have hr := h r (List.mem_cons_self ..)
    unfold letR
    rw [if_neg (by omega)]
    exact let_neg (fun x hx => h x (List.mem_cons_of_mem _ hx)) (by omega)
theorem let_far : ∀ {rs : List Run} {n : Int}, (∀ r ∈ rs, 0 < r.2) → sizeR rs ≤ n → letR rs n = none
  | [], _, _, _ => rfl
  | r :: rs, n, h, hn => by
    have hr := h r (List.mem_cons_self ..)
    have hs := sizeR_nonneg (rs := rs) fun x hx => Int.le_of_lt (h x (List.mem_cons_of_mem _ hx))
    rw [sizeR_cons] at hn
    unfold letR
    rw [if_neg (by omega)]
    exact let_far (fun x hx => h x (List.mem_cons_of_mem _ hx)) (by omega)
theorem let_part : ∀ {rs : List Run} {n : Int}, (∀ r ∈ rs, 0 < r.2) → 0 ≤ n → n < sizeR rs → ∃ (f b : List Run) (r : Run), partR rs n = some (f, r :: b) ∧ letR rs n = some r.1
  | [], n, _, h0, h1 => by
    have h1 : n < 0 := h1
    omega
  | r :: rs, n, h, h0, h1 => by
    have hr := h r (List.mem_cons_self ..)
    rw [sizeR_cons] at h1
    unfold partR letR
    by_cases n0 : n = 0
    · rw [if_pos n0, if_pos (by omega)]
      exact ⟨[], rs, r, rfl, rfl⟩
    · rw [if_neg n0]
      by_cases q : n < r.2
      · rw [if_pos q, if_pos ⟨h0, q⟩]
        exact ⟨_, _, (r.1, r.2 - n), rfl, rfl⟩
      · rw [if_neg q, if_neg (by omega)]
        obtain ⟨f, b, r', e1, e2⟩ := let_part (fun x hx => h x (List.mem_cons_of_mem _ hx)) (by omega) (show n - r.2 < sizeR rs by omega)
        exact ⟨r :: f, b, r', by rw [e1]; rfl, e2⟩
theorem letR_drop {rs : List Run} {i : Nat} {r : Run} (h : rs[i]? = some r) (n : Int) : letR (rs.drop i) n = if 0 ≤ n ∧ n < r.2 then some r.1 else letR (rs.drop (i + 1)) (n - r.2) := by
  obtain ⟨hi, e⟩ := List.getElem?_eq_some_iff.mp h
  rw [List.drop_eq_getElem_cons hi, e]
  rfl
section
variable {P : Program} {w : World} {K : PySem.W.Frag} {mg : Str → Option Value} {base : Heap}
def spRuns (K : PySem.W.Frag) : Sp := fun vs H Q _ => ∃ (p c q : Addr) (ns : List Int) (B : Nat) (ys : List Str) (m : Int), vs = [.ref p, .ref q, .int m] ∧ Pen c ns H p B ∧ B ≤ 300000000 ∧ SqL K H q (ys.map V.str) ∧ 0 < ys.length ∧ ys.length ≤ 100 ∧ 0 ≤ m ∧ m ≤ 20 ∧
  ∀ (H' : Hp) (L : Addr) (xs : List V) (rs : List Run), Go p c ns H H' (B + 2000) → H L = none → H' L = some (.lst xs) → PairsV H' xs rs → (rs.length : Int) ≤ m → RunOk ys rs → Q (.ref L) H'
/-! ### how many letters -/
def spSum (K : PySem.W.Frag) : Sp := fun vs H Q _ => ∃ (a : Addr) (xs : List V) (rs : List Run), vs = [.ref a] ∧ SqL K H a xs ∧ PairsV H xs rs ∧ rs.length ≤ 10000 ∧ ∀ H', Same H H' → Q (.int (sizeR rs)) H'
abbrev s__law_size : Stmt := top 65
theorem sc__law_size : FnScope ["_law_runs", "_law_run"] ["_law_runs"] (defScope s__law_size) := ⟨rfl, rfl, rfl, by decide +kernel, rfl, by decide +kernel, by decide +kernel⟩
theorem ok_sum {f : Addr} {fd : FuncData} (F : Fun K "_law_size" "_law_size" s__law_size f fd) (nS : mg "sum" = none) : FnOk P w K mg base CX0 1 f fd ["_law_runs"] (spSum K) := by
  refine F.ok sc__law_size (fun vs H Q E h => ?_) (fun cdv A outer s H vs Q E hr h => ?_)
  · obtain ⟨a, xs, rs, rfl, _⟩ := h
    rfl
  · obtain ⟨a, xs, rs, rfl, hS, hR, hn, k⟩ := h
    refine ⟨_, (pss_one (ps_ret (pe_callB (cr_sum rfl) (by rfl) nS (by decide +kernel) (pa_cons (pe_lc (own := [("_law_run", 1)]) rfl sc__law_size.nd (pi_list (pv 0)) (blkOk_by (N := ["_law_runs", "_law_run"]) (sc := defScope s__law_size) (by decide +kernel)) (fun _ _ _ _ _ => (pg_name (i := 1) sc__law_size.nd rfl (Or.inl rfl))) (fun _ _ _ _ _ => pts_nil) (fun _ _ _ _ _ => (pe_ix (show IxR _ (rIxT K) from ix_tup) (pv 1) pe_int (fun _ _ => rfl)))) pa_nil)))), ?_⟩
    have z1 : (100000 : Nat) ≤ sizeLine := by decide
    refine ret_cb ?_
    refine ⟨_, rfl, a, rfl, ⟨_, hS⟩, fun L hL => ?_⟩
    refine lc_list (K := K) (a := a) (xs := xs) (fun i H' => Same H H' ∧ H' L = some (.lst (((rs.take i).map (·.2)).map V.int))) ⟨Ask.Same.upd_new (Same.refl _) hL, upd_same⟩ (fun i H' _ hh => hh.1.seq hS) ?_ ?_
    · rintro i v H3 hi ⟨s3, hL3⟩
      obtain ⟨r, hri⟩ : ∃ r, rs[i]? = some r := ⟨_, List.getElem?_eq_getElem (by rw [← hR.1]; exact (List.getElem?_eq_some_iff.mp hi).1)⟩
      obtain ⟨b, rfl, hb⟩ := (hR.same s3).2 i v _ hi hri
      refine ⟨rfl, _, rfl, b, _, _, _, rfl, rfl, SqT.of hb, at_by (j := 1) rfl rfl, _, hL3, ?_, Ask.Same.upd_new s3 hL, ?_⟩
      · rw [List.length_map, List.length_map, List.length_take]
        omega
      · rw [upd_same, List.take_add_one, hri]
        simp only [Option.toList_some, List.map_append, List.map_cons, List.map_nil]
    · rintro H3 ⟨s3, hL3⟩
      rw [hR.1, List.take_length] at hL3
      exact ⟨L, _, rfl, SqL.of hL3, k H3 s3⟩
/-! ### the marks -/
def spMarks (K : PySem.W.Frag) : Sp := fun vs H Q _ => ∃ (a : Addr) (xs : List V) (rs : List Run), vs = [.ref a] ∧ SqL K H a xs ∧ PairsV H xs rs ∧ rs.length ≤ 10000 ∧ ∀ (H' : Hp) (L : Addr), Same H H' → H L = none → H' L = some (.lst ((marksR rs).map V.int)) → Q (.ref L) H'
/-! ### the letter at a place -/
def spLetAt (K : PySem.W.Frag) : Sp := fun vs H Q _ => ∃ (a : Addr) (xs : List V) (rs : List Run) (n : Int), vs = [.ref a, .int n] ∧ SqL K H a xs ∧ PairsV H xs rs ∧ ∀ H', Same H H' → Q (optV (letR rs n)) H'
end
end Ask

/-! data that repr takes: how deep, how long -/
namespace Ask
open PySem L2 PySem.Spec PyProof.Rows StrLaws
structure Dk (d : PyData) (L : Nat) : Prop where
  lay : d.canLay0 = true
  dep : d.depth ≤ 5
  sho : d.showable = true
  len : d.shown.length ≤ L
structure DkAll (ds : List PyData) (L : Nat) : Prop where
  lay : PyData.canLayAll0 ds = true
  dep : PyData.depthAll ds ≤ 5
  sho : PyData.showableAll ds = true
  len : ((PyData.shownAll ds).map (·.length)).sum + 2 * ds.length ≤ L
theorem shownAll_len : ∀ ds : List PyData, (PyData.shownAll ds).length = ds.length
  | [] => rfl
  | d :: ds => by simp only [PyData.shownAll, List.length_cons, shownAll_len ds]
theorem Dk.mono {d : PyData} {L M : Nat} (h : Dk d L) (l : L ≤ M) : Dk d M := ⟨h.lay, h.dep, h.sho, Nat.le_trans h.len l⟩
theorem DkAll.nil : DkAll [] 0 := ⟨rfl, Nat.zero_le _, rfl, Nat.le_refl _⟩
theorem DkAll.cons {d : PyData} {ds : List PyData} {L M : Nat} (h : Dk d L) (k : DkAll ds M) : DkAll (d :: ds) (L + 2 + M) := by
  refine ⟨?_, Nat.max_le.mpr ⟨h.dep, k.dep⟩, ?_, ?_⟩
  · show (PyData.canLay0 d && PyData.canLayAll0 ds) = true
    rw [h.lay, k.lay] <;> rfl
  · show (PyData.showable d && PyData.showableAll ds) = true
    rw [h.sho, k.sho] <;> rfl
  · show ((PyData.shown d :: PyData.shownAll ds).map (·.length)).sum + 2 * (ds.length + 1) ≤ _
    rw [List.map_cons, List.sum_cons]
    have := h.len
    have := k.len
    omega
theorem DkAll.each {f : PyData → Prop} {L : Nat} : ∀ {ds : List PyData}, (∀ d ∈ ds, Dk d L) → DkAll ds ((L + 2) * ds.length)
  | [], _ => DkAll.nil
  | d :: ds, h => by
    have k := (h d (List.mem_cons_self ..))
    have r := DkAll.each (f := f) (ds := ds) fun x hx => h x (List.mem_cons_of_mem _ hx)
    have := DkAll.cons k r
    rw [List.length_cons, Nat.mul_succ, Nat.add_comm _ (L + 2)]
    exact this
theorem DkAll.tup {ds : List PyData} {L : Nat} (h : DkAll ds L) (d : PyData.depthAll ds ≤ 4) : Dk (.tuple ds) (L + 3) := by
  refine ⟨h.lay, Nat.succ_le_succ d, h.sho, ?_⟩
  have := tupleText_len_le (PyData.shownAll ds)
  have e := shownAll_len ds
  have := h.len
  show (tupleText (PyData.shownAll ds)).length ≤ _
  omega
theorem DkAll.lst {ds : List PyData} {L : Nat} (h : DkAll ds L) (d : PyData.depthAll ds ≤ 4) : Dk (.list ds) (L + 3) := by
  refine ⟨h.lay, Nat.succ_le_succ d, h.sho, ?_⟩
  have := listText_len_le (PyData.shownAll ds)
  have e := shownAll_len ds
  have := h.len
  show (listText (PyData.shownAll ds)).length ≤ _
  omega
theorem Dk.nod {d : PyData} {L : Nat} (h : Dk d L) : d.hasDict = false := PyData.hasDict_of_canLay d h.lay
theorem Dk.shaped {d : PyData} {L : Nat} (h : Dk d L) : SeqAt.shaped d = true := by
  unfold SeqAt.shaped
  rw [h.lay, decide_eq_true (Nat.le_trans h.dep (by decide))] <;> rfl
theorem dk_str {z : Str} (a : ∀ c ∈ z.cps.toList, c < 128) : Dk (.str z) (10 * z.length + 10) := by
  refine ⟨?_, Nat.zero_le _, rfl, ?_⟩
  · show PyData.strOk z = true
    unfold PyData.strOk
    rw [← Array.all_toList, List.all_eq_true]
    intro c hc
    have := a c hc
    exact decide_eq_true (by omega)
  · have l := StrLaws.reprText_len z (fun c hc => by have := a c hc; omega)
    show (reprText z).length ≤ _
    omega
theorem dk_int {i : Int} (h0 : 0 ≤ i) (h1 : i < 10 ^ 40) : Dk (.int i) 40 := by
  refine ⟨rfl, Nat.zero_le _, ?_, ?_⟩
  · show decide (i.natAbs.log2 < 1920) = true
    refine decide_eq_true ?_
    by_cases z : i.natAbs = 0
    · rw [z]
      decide
    · refine (Nat.log2_lt z).mpr ?_
      have : (10 : Int) ^ 40 < (2 : Int) ^ 1920 := by decide +kernel
      have : (i.natAbs : Int) < (2 : Int) ^ 1920 := by omega
      exact_mod_cast this
  · exact toString_length_le h0 (by decide) h1
theorem dk_non : Dk .none 4 := ⟨rfl, Nat.zero_le _, rfl, by decide⟩
theorem dk_bool (b : Bool) : Dk (.bool b) 5 := by cases b <;> exact ⟨rfl, Nat.zero_le _, rfl, by decide⟩
end Ask

namespace Ask
open PySem L2
/-- letters as they stand in runs -/
def Short (ys : List Str) : Prop := ∀ y ∈ ys, y.length ≤ 13 ∧ Asc y
theorem Lts.short {ys : List Str} (h : Lts ys) : Short ys := fun y hy => (h.ok y hy).2
theorem Lts.plain {ys : List Str} (h : Lts ys) : Plain ys := h.fit
theorem dk_run {r : Run} (h1 : r.1.length ≤ 13) (h2 : Asc r.1) (h3 : 0 ≤ r.2) (h4 : r.2 < 10 ^ 40) : Dk (runD r) 190 ∧ (runD r).depth ≤ 1 := by
  have k := DkAll.cons (dk_str (z := r.1) h2) (DkAll.cons (dk_int h3 h4) DkAll.nil)
  refine ⟨(DkAll.tup k (by show max 0 (max 0 0) ≤ 4; decide)).mono (by omega), by show max 0 (max 0 0) + 1 ≤ 1; decide⟩
theorem dk_runs {rs : List Run} (h : ∀ r ∈ rs, r.1.length ≤ 13 ∧ Asc r.1 ∧ 0 ≤ r.2 ∧ r.2 < 10 ^ 40) : Dk (runsD rs) (192 * rs.length + 3) ∧ (runsD rs).depth ≤ 2 := by
  have k := DkAll.each (f := fun _ => True) (L := 190) (ds := rs.map runD) fun d hd => by
    obtain ⟨r, hr, rfl⟩ := List.mem_map.mp hd
    obtain ⟨a, b, c, d⟩ := h r hr
    exact (dk_run a b c d).1
  rw [List.length_map] at k
  have dp := (lay_runs fun r hr => (h r hr).2.1).2.1
  exact ⟨DkAll.tup k (by omega), by show PyData.depthAll (rs.map runD) + 1 ≤ 2; omega⟩
theorem dk_strs {ws : List Str} (h : Short ws) : DkAll (ws.map PyData.str) (142 * ws.length) ∧ PyData.depthAll (ws.map PyData.str) = 0 := by
  have k := DkAll.each (f := fun _ => True) (L := 140) (ds := ws.map PyData.str) fun d hd => by
    obtain ⟨r, hr, rfl⟩ := List.mem_map.mp hd
    obtain ⟨a, b⟩ := h r hr
    exact (dk_str (z := r) b).mono (by omega)
  rw [List.length_map] at k
  refine ⟨k, ?_⟩
  clear k
  induction ws with
  | nil => rfl
  | cons w ws ih =>
    show max 0 (PyData.depthAll (ws.map PyData.str)) = 0
    rw [ih fun x hx => h x (List.mem_cons_of_mem _ hx)]
    rfl
section
variable {P : Program} {w : World} {K : PySem.W.Frag} {mg : Str → Option Value} {base : Heap} {CL CB CM CH : Addr} {H : Hp} {a m t : Addr} {ys : List Str} {b : Str} {xs : List V} {rs : List Run} {Q : VK} {E : XK}
/-- Letters(a) is made -/
theorem let_made (lts : Lts ys) (ha : SqL K H a (ys.map V.str) ∨ SqT K H a (ys.map V.str)) {x dx : Addr} (hx : H x = none) (hdx : H dx = none) (hne : dx ≠ x) (k : ∀ (H' : Hp) (t : Addr), Same H H' → Mde CL H' x t ys → Q .non H') :
    spLet K CL CB CM [.ref x, .ref a] (upd (upd H dx (.own x)) x (.ins CL dx [])) Q E := by
  have sm : Same H (upd (upd H dx (.own x)) x (.ins CL dx [])) := Ask.Same.made1 (Ask.Same.made1 (Same.refl H) hdx) (by rw [upd_ne hne.symm]; exact hx)
  refine ⟨x, dx, a, _, _, (fun _ => True), rfl, upd_same, seqA_same ha sm, itl_strs lts.fit, (by rw [List.length_map]; have := lts.l1; omega), fun _ _ _ e => ?_, fun _ _ e => ?_, fun H5 t o5 _ ho e1 e2 kk => ?_⟩
  · rw [lts.res] at e
    cases e
  · rw [List.length_map] at e
    have := lts.l1
    omega
  · exact k H5 t (Same.made hx hdx fun b o e hb => kk b o hb e) ⟨dx, o5, e1, e2, ho⟩
/-- History(m, b, a) is made -/
theorem hist_made (hM : Mde CL H m t ys) (hb : b = "new" ∨ b = "found") (ha : SqL K H a xs ∨ SqT K H a xs) (hR : RunsV K H xs rs) (ln : rs.length ≤ 1000) (hok : ∀ r ∈ rs, r.1 ∈ ys ∧ 1 ≤ r.2 ∧ r.2 ≤ 1000000000000000000000000000000) (lm : (joinR rs).length ≤ 400)
    {x dx : Addr} (hx : H x = none) (hdx : H dx = none) (hne : dx ≠ x) (k : ∀ H', Same H H' → HistAt K CL CH H' x ys b (joinR rs) → Q .non H') :
    spHist K CL CH [.ref x, .ref m, .str b, .ref a] (upd (upd H dx (.own x)) x (.ins CH dx [])) Q E := by
  have sm : Same H (upd (upd H dx (.own x)) x (.ins CH dx [])) := Ask.Same.made1 (Ask.Same.made1 (Same.refl H) hdx) (by rw [upd_ne hne.symm]; exact hx)
  refine ⟨x, dx, m, t, a, b, ys, xs, rs, rfl, upd_same, hM.same sm, hb, seqA_same ha sm, hR.same sm, ln, hok, lm, fun H' c ks e1 e2 e3 e4 kk => ?_⟩
  exact k H' (Same.made hx hdx fun b o e hb => kk b o hb e) ⟨dx, m, t, c, ks, e1, e2, e3, e4⟩
end
end Ask

namespace Ask
open PySem L2
/-! ### no two neighbours alike -/
def NoEq : List Run → Prop
  | [] => True
  | r :: rs => (∀ s, rs.head? = some s → r.1 ≠ s.1) ∧ NoEq rs
theorem noeq_snoc : ∀ {rs : List Run} {r : Run}, NoEq (rs ++ [r]) ↔ (NoEq rs ∧ ∀ l, rs.getLast? = some l → l.1 ≠ r.1)
  | [], r => by
    refine ⟨fun _ => ⟨trivial, (fun l h => by cases h)⟩, fun _ => ⟨(fun s h => by cases h), trivial⟩⟩
  | [a], r => by
    constructor
    · rintro ⟨h1, _⟩
      refine ⟨⟨(fun s h => by cases h), trivial⟩, fun l h => ?_⟩
      cases h
      exact h1 r rfl
    · rintro ⟨_, h2⟩
      refine ⟨fun s h => ?_, (fun s h => by cases h), trivial⟩
      cases h
      exact h2 a rfl
  | a :: b :: rs, r => by
    have ih := noeq_snoc (rs := b :: rs) (r := r)
    constructor
    · rintro ⟨h1, h2⟩
      obtain ⟨i1, i2⟩ := ih.mp h2
      exact ⟨⟨h1, i1⟩, fun l h => i2 l (by rw [List.getLast?_cons_cons] at h; exact h)⟩
    · rintro ⟨⟨h1, h2⟩, h3⟩
      exact ⟨h1, ih.mpr ⟨h2, fun l h => h3 l (by rw [List.getLast?_cons_cons]; exact h)⟩⟩
theorem noeq_splice {h : List Run} {r : Run} (n : NoEq h) : NoEq (spliceR h [r]) := by
  rcases List.eq_nil_or_concat h with rfl | ⟨g, l, rfl⟩
  · exact ⟨(fun s h => by cases h), trivial⟩
  · rw [List.concat_eq_append] at n ⊢
    have gl : (g ++ [l]).getLast? = some l := by simp
    rw [splice_some gl]
    by_cases q : l.1 = r.1
    · rw [if_pos q, List.dropLast_concat]
      obtain ⟨n1, n2⟩ := noeq_snoc.mp n
      exact noeq_snoc.mpr ⟨n1, n2⟩
    · rw [if_neg q]
      refine noeq_snoc.mpr ⟨n, fun l' h => ?_⟩
      rw [gl] at h
      cases h
      exact q
theorem noeq_join (rs : List Run) : NoEq (joinR rs) := by
  have : ∀ n, NoEq (joinR (rs.take n)) := by
    intro n
    induction n with
    | zero => exact trivial
    | succ n ih =>
      cases e : rs[n]? with
      | none =>
        rw [List.take_add_one, e, show (none : Option Run).toList = [] from rfl, List.append_nil]
        exact ih
      | some r =>
        rw [join_take e]
        exact noeq_splice ih
  have k := this rs.length
  rw [List.take_length] at k
  exact k
theorem join_noeq {rs : List Run} (h : NoEq rs) : joinR rs = rs := by
  have : ∀ n, n ≤ rs.length → NoEq (rs.take n) ∧ joinR (rs.take n) = rs.take n := by
    intro n
    induction n with
    | zero => intro _; exact ⟨trivial, rfl⟩
    | succ n ih =>
      intro hn
      obtain ⟨i1, i2⟩ := ih (by omega)
      have e : rs[n]? = some rs[n] := List.getElem?_eq_getElem (by omega)
      have nn : NoEq (rs.take (n + 1)) := by
        have : ∀ (m : Nat) (ss : List Run), NoEq ss → NoEq (ss.take m) := by
          intro m
          induction m with
          | zero => intro ss _; exact trivial
          | succ m im =>
            intro ss hs
            cases ss with
            | nil => exact trivial
            | cons a ss =>
              refine ⟨fun s h => hs.1 s ?_, im ss hs.2⟩
              cases m with
              | zero => cases h
              | succ m => cases ss with
                | nil => cases h
                | cons b ss => exact h
        exact this _ _ h
      refine ⟨nn, ?_⟩
      rw [join_take e, i2, List.take_add_one, e]
      rw [List.take_add_one, e] at nn
      have nn := (noeq_snoc.mp nn).2
      cases g : (rs.take n).getLast? with
      | none =>
        rw [splice_none g]
        have : rs.take n = [] := List.getLast?_eq_none_iff.mp g
        rw [this]
        rfl
      | some l =>
        rw [splice_some g, if_neg (nn l g)]
        rfl
  have k := (this rs.length (Nat.le_refl _)).2
  rw [List.take_length] at k
  exact k
/-! ### the two parts of a cut -/
theorem splice_cons {f b : List Run} (r : Run) (h : f ≠ []) : spliceR (r :: f) b = r :: spliceR f b := by
  obtain ⟨g, l, rfl⟩ : ∃ g l, f = g ++ [l] := by
    rcases List.eq_nil_or_concat f with e | ⟨g, l, e⟩
    · exact absurd e h
    · exact ⟨g, l, by rw [e, List.concat_eq_append]⟩
  have e1 : (g ++ [l]).getLast? = some l := by simp
  have e2 : (r :: (g ++ [l])).getLast? = some l := by rw [← List.cons_append, List.getLast?_concat]
  have e3 : (r :: (g ++ [l])).dropLast = r :: (g ++ [l]).dropLast := by rw [← List.cons_append, List.dropLast_concat, List.dropLast_concat]
  unfold spliceR
  rw [e1, e2]
  cases b with
  | nil => rfl
  | cons c b =>
    show (if l.1 = c.1 then _ else _) = r :: (if l.1 = c.1 then _ else _)
    by_cases q : l.1 = c.1
    · rw [if_pos q, if_pos q, e3]
      rfl
    · rw [if_neg q, if_neg q]
      rfl
structure Parts (rs : List Run) (n : Int) (f b : List Run) : Prop where
  sz : sizeR f = n
  spl : spliceR f b = rs
  nf : NoEq f
  nb : NoEq b
  pf : ∀ r ∈ f, 0 < r.2
  pb : ∀ r ∈ b, 0 < r.2
  lf : f.length ≤ rs.length
  lb : b.length ≤ rs.length
  mf : ∀ r ∈ f, ∃ y ∈ rs, y.1 = r.1
  mb : ∀ r ∈ b, ∃ y ∈ rs, y.1 = r.1
  hf : ∀ r, f.head? = some r → ∃ s, rs.head? = some s ∧ s.1 = r.1
  e0 : f = [] → b = rs
theorem part_parts : ∀ {rs : List Run} {n : Int} {f b : List Run}, NoEq rs → (∀ r ∈ rs, 0 < r.2) → 0 ≤ n → partR rs n = some (f, b) → Parts rs n f b
  | [], n, f, b, _, _, _, e => by
    unfold partR at e
    by_cases n0 : n = 0
    · rw [if_pos n0] at e
      cases e
      subst n0
      exact ⟨rfl, rfl, trivial, trivial, (fun r hr => by cases hr), (fun r hr => by cases hr), Nat.le_refl _, Nat.le_refl _, (fun r hr => by cases hr), (fun r hr => by cases hr), (fun r h => by cases h), fun _ => rfl⟩
    · rw [if_neg n0] at e
      cases e
  | r :: rs, n, f, b, ne, ps, h0, e => by
    have hr := ps r (List.mem_cons_self ..)
    unfold partR at e
    by_cases n0 : n = 0
    · rw [if_pos n0] at e
      cases e
      subst n0
      exact ⟨rfl, rfl, trivial, ne, (fun r hr => by cases hr), ps, Nat.zero_le _, Nat.le_refl _, (fun r hr => by cases hr), fun r hr => ⟨r, hr, rfl⟩, (fun r h => by cases h), fun _ => rfl⟩
    · rw [if_neg n0] at e
      by_cases q : n < r.2
      · rw [if_pos q] at e
        cases e
        refine ⟨?_, ?_, ⟨(fun s h => by cases h), trivial⟩, ⟨ne.1, ne.2⟩, fun x hx => ?_, fun x hx => ?_, by rw [List.length_cons]; exact Nat.succ_le_succ (Nat.zero_le _), Nat.le_refl _, fun x hx => ?_, fun x hx => ?_, fun x h => ?_, (fun h => by cases h)⟩
        · show n + 0 = n
          omega
        · unfold spliceR
          show (if r.1 = r.1 then _ else _) = _
          rw [if_pos rfl]
          show [(r.1, n + (r.2 - n))] ++ rs = r :: rs
          rw [show n + (r.2 - n) = r.2 by omega]
          rfl
        · rw [List.mem_singleton] at hx
          subst hx
          show 0 < n
          omega
        · rcases List.mem_cons.mp hx with rfl | hx
          · show 0 < r.2 - n
            omega
          · exact ps x (List.mem_cons_of_mem _ hx)
        · rw [List.mem_singleton] at hx
          subst hx
          exact ⟨r, List.mem_cons_self .., rfl⟩
        · rcases List.mem_cons.mp hx with rfl | hx
          · exact ⟨r, List.mem_cons_self .., rfl⟩
          · exact ⟨x, List.mem_cons_of_mem _ hx, rfl⟩
        · cases h
          exact ⟨r, rfl, rfl⟩
      · rw [if_neg q] at e
        cases e2 : partR rs (n - r.2) with
        | none => rw [e2] at e; cases e
        | some p =>
          obtain ⟨f', b'⟩ := p
          rw [e2] at e
          cases e
          have i := part_parts ne.2 (fun x hx => ps x (List.mem_cons_of_mem _ hx)) (by omega) e2
          refine ⟨?_, ?_, ⟨fun s h => ?_, i.nf⟩, i.nb, fun x hx => ?_, i.pb, Nat.succ_le_succ i.lf, Nat.le_succ_of_le i.lb, fun x hx => ?_, fun x hx => ?_, fun x h => ?_, (fun h => by cases h)⟩
          · rw [sizeR_cons, i.sz]
            omega
          · by_cases fe : f' = []
            · have := i.e0 fe
              subst fe
              rw [this]
              unfold spliceR
              cases rs with
              | nil => rfl
              | cons s rs =>
                show (if r.1 = s.1 then _ else _) = _
                rw [if_neg (ne.1 s rfl)]
                rfl
            · rw [splice_cons r fe, i.spl]
          · obtain ⟨s', h1, h2⟩ := i.hf s h
            rw [← h2]
            exact ne.1 s' h1
          · rcases List.mem_cons.mp hx with rfl | hx
            · exact hr
            · exact i.pf x hx
          · rcases List.mem_cons.mp hx with rfl | hx
            · exact ⟨x, List.mem_cons_self .., rfl⟩
            · obtain ⟨y, hy, e⟩ := i.mf x hx
              exact ⟨y, List.mem_cons_of_mem _ hy, e⟩
          · obtain ⟨y, hy, e⟩ := i.mb x hx
            exact ⟨y, List.mem_cons_of_mem _ hy, e⟩
          · cases h
            exact ⟨_, rfl, rfl⟩
theorem part_some : ∀ {rs : List Run} {n : Int}, (∀ r ∈ rs, 0 < r.2) → 0 ≤ n → n ≤ sizeR rs → ∃ f b, partR rs n = some (f, b)
  | [], n, _, h0, h1 => by
    have h1 : n ≤ 0 := h1
    unfold partR
    rw [if_pos (by omega)]
    exact ⟨_, _, rfl⟩
  | r :: rs, n, h, h0, h1 => by
    rw [sizeR_cons] at h1
    unfold partR
    by_cases n0 : n = 0
    · rw [if_pos n0]
      exact ⟨_, _, rfl⟩
    · rw [if_neg n0]
      by_cases q : n < r.2
      · rw [if_pos q]
        exact ⟨_, _, rfl⟩
      · rw [if_neg q]
        obtain ⟨f, b, e⟩ := part_some (rs := rs) (n := n - r.2) (fun x hx => h x (List.mem_cons_of_mem _ hx)) (by omega) (by omega)
        exact ⟨r :: f, b, by rw [e]; rfl⟩
/-! ### the law's own cut -/
def takeC (n c : Int) : Int := if n ≤ 0 then 0 else if n < c then n else c
def aheadR : List Run → Int → List Run
  | [], _ => []
  | r :: rs, n => (r.1, takeC n r.2) :: aheadR rs (n - takeC n r.2)
def rearR : List Run → Int → List Run
  | [], _ => []
  | r :: rs, n => (r.1, r.2 - takeC n r.2) :: rearR rs (n - takeC n r.2)
theorem cut_zero : ∀ {rs : List Run}, (∀ r ∈ rs, 0 < r.2) → posR (aheadR rs 0) = [] ∧ posR (rearR rs 0) = rs
  | [], _ => ⟨rfl, rfl⟩
  | r :: rs, h => by
    have hr := h r (List.mem_cons_self ..)
    obtain ⟨i1, i2⟩ := cut_zero (rs := rs) fun x hx => h x (List.mem_cons_of_mem _ hx)
    have t : takeC 0 r.2 = 0 := if_pos (Int.le_refl 0)
    constructor
    · unfold aheadR posR
      rw [t, List.filter_cons, if_neg (by simp)]
      exact i1
    · unfold rearR posR
      rw [t, List.filter_cons, if_pos (by simpa using hr)]
      show (r.1, r.2 - 0) :: posR (rearR rs (0 - 0)) = _
      rw [Int.sub_zero, Int.sub_zero, i2]
theorem cut_part : ∀ {rs : List Run} {n : Int} {f b : List Run}, (∀ r ∈ rs, 0 < r.2) → 0 ≤ n → partR rs n = some (f, b) → posR (aheadR rs n) = f ∧ posR (rearR rs n) = b
  | [], n, f, b, _, _, e => by
    unfold partR at e
    by_cases n0 : n = 0
    · rw [if_pos n0] at e
      cases e
      exact ⟨rfl, rfl⟩
    · rw [if_neg n0] at e
      cases e
  | r :: rs, n, f, b, h, h0, e => by
    have hr := h r (List.mem_cons_self ..)
    have hs : ∀ x ∈ rs, 0 < x.2 := fun x hx => h x (List.mem_cons_of_mem _ hx)
    by_cases n0 : n = 0
    · subst n0
      have := cut_zero h
      unfold partR at e
      rw [if_pos rfl] at e
      cases e
      exact this
    · unfold partR at e
      rw [if_neg n0] at e
      by_cases q : n < r.2
      · rw [if_pos q] at e
        cases e
        have t : takeC n r.2 = n := by unfold takeC; rw [if_neg (by omega), if_pos q]
        obtain ⟨i1, i2⟩ := cut_zero hs
        constructor
        · unfold aheadR posR
          rw [t, List.filter_cons, if_pos (by simp; omega)]
          show (r.1, n) :: posR (aheadR rs (n - n)) = _
          rw [Int.sub_self, i1]
        · unfold rearR posR
          rw [t, List.filter_cons, if_pos (by simp; omega)]
          show (r.1, r.2 - n) :: posR (rearR rs (n - n)) = _
          rw [Int.sub_self, i2]
      · rw [if_neg q] at e
        cases e2 : partR rs (n - r.2) with
        | none => rw [e2] at e; cases e
        | some p =>
          obtain ⟨f', b'⟩ := p
          rw [e2] at e
          cases e
          have t : takeC n r.2 = r.2 := by unfold takeC; rw [if_neg (by omega), if_neg q]
          obtain ⟨i1, i2⟩ := cut_part hs (by omega) e2
          constructor
          · unfold aheadR posR
            rw [t, List.filter_cons, if_pos (by simpa using hr)]
            show (r.1, r.2) :: posR (aheadR rs (n - r.2)) = _
            rw [i1]
          · unfold rearR posR
            rw [t, List.filter_cons, if_neg (by simp)]
            exact i2
end Ask

namespace Ask
open PySem L2
theorem takeC_is {n c : Int} (h : 0 < c) : (if (if c < n then c else n) > 0 then (if c < n then c else n) else 0) = takeC n c := by
  unfold takeC
  by_cases q : c < n
  · rw [if_pos q, if_pos h, if_neg (by omega), if_neg (by omega)]
  · rw [if_neg q]
    by_cases q2 : n ≤ 0
    · rw [if_pos q2, if_neg (by omega)]
    · rw [if_neg q2, if_pos (by omega)]
      by_cases q3 : n < c
      · rw [if_pos q3]
      · rw [if_neg q3]
        omega
theorem sub_takes : ∀ (rs : List Run) (n : Int) (i : Nat), aheadR rs n = aheadR (rs.take i) n ++ aheadR (rs.drop i) (n - sizeR (aheadR (rs.take i) n)) ∧ rearR rs n = rearR (rs.take i) n ++ rearR (rs.drop i) (n - sizeR (aheadR (rs.take i) n))
  | rs, n, 0 => by
    show aheadR rs n = [] ++ aheadR rs (n - 0) ∧ rearR rs n = [] ++ rearR rs (n - 0)
    rw [Int.sub_zero]
    exact ⟨rfl, rfl⟩
  | [], n, i + 1 => ⟨rfl, rfl⟩
  | r :: rs, n, i + 1 => by
    obtain ⟨h1, h2⟩ := sub_takes rs (n - takeC n r.2) i
    have e : n - sizeR (aheadR ((r :: rs).take (i + 1)) n) = n - takeC n r.2 - sizeR (aheadR (rs.take i) (n - takeC n r.2)) := by
      show n - sizeR ((r.1, takeC n r.2) :: aheadR (rs.take i) (n - takeC n r.2)) = _
      rw [sizeR_cons]
      show n - (takeC n r.2 + _) = _
      omega
    rw [e]
    constructor
    · show (r.1, takeC n r.2) :: aheadR rs (n - takeC n r.2) = (r.1, takeC n r.2) :: (aheadR (rs.take i) (n - takeC n r.2) ++ _)
      rw [h1]
      rfl
    · show (r.1, r.2 - takeC n r.2) :: rearR rs (n - takeC n r.2) = (r.1, r.2 - takeC n r.2) :: (rearR (rs.take i) (n - takeC n r.2) ++ _)
      rw [h2]
      rfl
theorem ahead_more {rs : List Run} {i : Nat} {r : Run} (h : rs[i]? = some r) (n : Int) : aheadR (rs.take (i + 1)) n = aheadR (rs.take i) n ++ [(r.1, takeC (n - sizeR (aheadR (rs.take i) n)) r.2)] ∧ rearR (rs.take (i + 1)) n = rearR (rs.take i) n ++ [(r.1, r.2 - takeC (n - sizeR (aheadR (rs.take i) n)) r.2)] := by
  obtain ⟨hi, e⟩ := List.getElem?_eq_some_iff.mp h
  have k := sub_takes (rs.take (i + 1)) n i
  have e1 : (rs.take (i + 1)).take i = rs.take i := by rw [List.take_take, Nat.min_eq_left (Nat.le_succ i)]
  have e2 : (rs.take (i + 1)).drop i = [r] := by
    rw [List.take_add_one, h, List.drop_append]
    rw [List.drop_of_length_le (by rw [List.length_take]; omega), List.length_take, Nat.min_eq_left (Nat.le_of_lt hi), Nat.sub_self]
    rfl
  rw [e1, e2] at k
  exact k
theorem ahead_len : ∀ (rs : List Run) (n : Int), (aheadR rs n).length = rs.length ∧ (rearR rs n).length = rs.length
  | [], _ => ⟨rfl, rfl⟩
  | r :: rs, n => by
    obtain ⟨h1, h2⟩ := ahead_len rs (n - takeC n r.2)
    exact ⟨congrArg Nat.succ h1, congrArg Nat.succ h2⟩
theorem ahead_mem : ∀ {rs : List Run} {n : Int} {x : Run}, (x ∈ aheadR rs n ∨ x ∈ rearR rs n) → ∃ y ∈ rs, y.1 = x.1
  | [], n, x, h => by rcases h with h | h <;> cases h
  | r :: rs, n, x, h => by
    have : (x.1 = r.1) ∨ (x ∈ aheadR rs (n - takeC n r.2) ∨ x ∈ rearR rs (n - takeC n r.2)) := by
      rcases h with h | h
      · rcases List.mem_cons.mp h with rfl | h
        · exact .inl rfl
        · exact .inr (.inl h)
      · rcases List.mem_cons.mp h with rfl | h
        · exact .inl rfl
        · exact .inr (.inr h)
    rcases this with e | h
    · exact ⟨r, List.mem_cons_self .., e.symm⟩
    · obtain ⟨y, hy, e⟩ := ahead_mem h
      exact ⟨y, List.mem_cons_of_mem _ hy, e⟩
section
variable {P : Program} {w : World} {K : PySem.W.Frag} {mg : Str → Option Value} {base : Heap}
def spCutL (K : PySem.W.Frag) : Sp := fun vs H Q _ => ∃ (a : Addr) (xs : List V) (rs : List Run) (n : Int), vs = [.ref a, .int n] ∧ SqL K H a xs ∧ PairsV H xs rs ∧ rs.length ≤ 1000 ∧ (∀ r ∈ rs, 0 < r.2 ∧ Asc r.1) ∧
  ∀ (H' : Hp) (t u v : Addr) (us vs' : List V), Same H H' → H' t = some (.tup [.ref u, .ref v]) → H' u = some (.lst us) → H' v = some (.lst vs') → PairsV H' us (joinR (posR (aheadR rs n))) → PairsV H' vs' (joinR (posR (rearR rs n))) → Q (.ref t) H'
abbrev s__law_cut : Stmt := top 66
theorem sc__law_cut : FnScope ["_law_runs", "_law_size_here", "_law_ahead", "_law_rear", "_law_left_here", "_law_letter", "_law_count", "_law_taken"] ["_law_runs", "_law_size_here"] (defScope s__law_cut) := ⟨rfl, rfl, rfl, by decide +kernel, rfl, by decide +kernel, by decide +kernel⟩
theorem ok_cutL {f fJ : Addr} {fd fdJ : FuncData} (F : Fun K "_law_cut" "_law_cut" s__law_cut f fd) (T : Blt mg) (nM : mg "max" = none)
    (GJ : FnOk P w K mg base CX0 1 fJ fdJ ["_law_runs"] (spLawJoined K)) (AJ : At K mg "_law_joined" fJ fdJ ["_law_runs"]) : FnOk P w K mg base CX0 2 f fd ["_law_runs", "_law_size_here"] (spCutL K) := by
  refine F.ok sc__law_cut (fun vs H Q E h => ?_) (fun cdv A outer s H vs Q E hr h => ?_)
  · obtain ⟨a, xs, rs, n, rfl, _⟩ := h
    rfl
  · obtain ⟨a, xs, rs, n, rfl, hS, hR, hn, hok, k⟩ := h
    refine ⟨_, (pss_cons (ps_par3 (i := 2) (j := 3) (l := 4) rfl sc__law_cut.nd rfl rfl rfl (by decide) (by decide) (by decide) rfl rfl rfl (pa_cons (pe_lst pa_nil) (pa_cons (pe_lst pa_nil) (pa_cons (pv 1) pa_nil))) (by rfl))
      (pss_cons (ps_for PassesOwn.never rfl (pi_list (pv 0)) (pg_tup rfl (pgs_cons (pg_name (i := 5) sc__law_cut.nd rfl (Or.inl rfl)) (pgs_cons (pg_name (i := 6) sc__law_cut.nd rfl (Or.inl rfl)) pgs_nil))) (pss_cons (ps_set (i := 7) sc__law_cut.nd rfl (Or.inl rfl) (pe_callB (call_max2 rfl) (by rfl) nM (by decide +kernel) (pa_cons pe_int (pa_cons (pe_callB (call_min2 rfl) (by rfl) T.n_min (by decide +kernel) (pa_cons (pv 4) (pa_cons (pv 6) pa_nil))) pa_nil))))
      (pss_cons (ps_expr (pe_bm PySem.F.plainAttrs_list PySem.F.slot_list_append PySem.F.type_list_append mt_append (pv 2) (pa_cons (pe_tup (pa_cons (pv 5) (pa_cons (pv 7) pa_nil))) pa_nil)))
      (pss_cons (ps_expr (pe_bm PySem.F.plainAttrs_list PySem.F.slot_list_append PySem.F.type_list_append mt_append (pv 3) (pa_cons (pe_tup (pa_cons (pv 5) (pa_cons (pe_op op_sub (pv 6) (pv 7)) pa_nil))) pa_nil)))
      (pss_one (ps_set (i := 4) sc__law_cut.nd rfl (Or.inl rfl) (pe_op op_sub (pv 4) (pv 7))))))))
      (pss_one (ps_ret (pe_tup (pa_cons (pe_call GJ hr (by rfl) AJ.m AJ.k AJ.b .nil pass0 (pa_cons (pv 2) pa_nil)) (pa_cons (pe_call GJ hr (by rfl) AJ.m AJ.k AJ.b .nil pass0 (pa_cons (pv 3) pa_nil)) pa_nil))))))), ?_⟩
    have z1 : (100000 : Nat) ≤ sizeLine := by decide
    refine ⟨Nat.zero_le _, fun u hu => ?_⟩
    have s1 := Ask.Same.made1 (o := .lst []) (Same.refl H) hu
    have hu1 : upd H u (.lst []) u = some (.lst []) := upd_same
    generalize upd H u (.lst []) = H1 at s1 hu1 ⊢
    refine ⟨Nat.zero_le _, fun v hv => ?_⟩
    have s2 := Ask.Same.made1 (o := .lst []) s1 hv
    have hv2 : upd H1 v (.lst []) v = some (.lst []) := upd_same
    have hu2 : upd H1 v (.lst []) u = some (.lst []) := by rw [upd_ne (ne_of_none hu1 hv)]; exact hu1
    have nuv : u ≠ v := ne_of_none hu1 hv
    have hv0 := s1.free hv
    generalize upd H1 v (.lst []) = H2 at s2 hv2 hu2 ⊢
    refine ⟨_, rfl, _, _, _, rfl, ?_⟩
    try dsimp only
    refine for_any (fun R r => ⟨_, rfl, a, rfl, ⟨_, s2.seq hS⟩, r⟩) (walk_list (xs := xs)) (fun i σ' H' => ∃ (o5 o6 o7 : Option V), σ' = [some (.ref a), some (.int n), some (.ref u), some (.ref v), some (.int (n - sizeR (aheadR (rs.take i) n))), o5, o6, o7] ∧ Same H H' ∧ ∃ us vs', H' u = some (.lst us) ∧ H' v = some (.lst vs') ∧ PairsV H' us (aheadR (rs.take i) n) ∧ PairsV H' vs' (rearR (rs.take i) n))
      ⟨none, none, none, by show _ = ([some (.ref a), some (.int n), some (.ref u), some (.ref v), some (.int (n - 0)), none, none, none] : L2.St); rw [Int.sub_zero]; rfl, s2, [], [], hu2, hv2, PairsV.nil, PairsV.nil⟩ (fun i σ' H' _ ⟨_, _, _, _, s', _⟩ => s'.seq hS) ?_ ?_
    · rintro i x σ' H3 H4 hi ⟨o5, o6, o7, rfl, s3, us, vs', hu3, hv3, pu, pv⟩ ⟨rfl, hx⟩
      obtain ⟨r, hri⟩ : ∃ r, rs[i]? = some r := ⟨_, List.getElem?_eq_getElem (by rw [← hR.1]; exact hi)⟩
      obtain ⟨b, rfl, hb⟩ := (hR.same s3).2 i x r hx hri
      obtain ⟨m1, m2⟩ := ahead_more hri n
      have lu := (ahead_len (rs.take i) n)
      rw [List.length_take] at lu
      have pu1 := pu.1
      have pv1 := pv.1
      have rpos := (hok r (List.mem_of_getElem? hri)).1
      generalize aheadR (rs.take i) n = as at m1 m2 pu lu pu1 ⊢
      generalize rearR (rs.take i) n = bs at m2 pv lu pv1 ⊢
      refine ⟨b, _, rfl, SqT.of hb, rfl, _, _, rfl, _, _, rfl, rfl, _, rfl, _, rfl, _, _, rfl, _, _, rfl, ?_⟩
      rw [takeC_is rpos]
      generalize takeC (n - sizeR as) r.2 = tk at m1 m2 ⊢
      refine ⟨_, rfl, .inl ⟨rfl, _, SqL.of hu3⟩, _, rfl, _, rfl, by show 2 ≤ sizeLine; decide, fun t ht => ?_⟩
      have s5 := Ask.Same.made1 (o := .tup [.str r.1, .int tk]) s3 ht
      have s45 := Ask.Same.made1 (o := .tup [.str r.1, .int tk]) (Same.refl H4) ht
      have t5 : upd H4 t (.tup [.str r.1, .int tk]) t = some (.tup [.str r.1, .int tk]) := upd_same
      generalize upd H4 t (.tup [.str r.1, .int tk]) = H5 at s5 s45 t5 ⊢
      have hu5 := s45 _ _ hu3
      have hv5 := s45 _ _ hv3
      refine ⟨u, _, _, rfl, rfl, hu5, by omega, ?_⟩
      have s6 : Same H (upd H5 u (.lst (us ++ [.ref t]))) := Ask.Same.upd_new s5 hu
      have pu6 : PairsV (upd H5 u (.lst (us ++ [.ref t]))) (us ++ [.ref t]) (as ++ [(r.1, tk)]) := ((pu.same s45).app (b := t) (r := (r.1, tk)) t5).mut hu5
      have pv6 : PairsV (upd H5 u (.lst (us ++ [.ref t]))) vs' bs := (pv.same s45).mut hu5
      have hu6 : upd H5 u (.lst (us ++ [.ref t])) u = some (.lst (us ++ [.ref t])) := upd_same
      have hv6 : upd H5 u (.lst (us ++ [.ref t])) v = some (.lst vs') := by rw [upd_ne nuv.symm]; exact hv5
      generalize upd H5 u (.lst (us ++ [.ref t])) = H6 at s6 pu6 pv6 hu6 hv6 ⊢
      refine ⟨_, rfl, .inl ⟨rfl, _, SqL.of hv6⟩, _, rfl, _, rfl, _, rfl, _, _, rfl, rfl, by show 2 ≤ sizeLine; decide, fun t2 ht2 => ?_⟩
      have s7 := Ask.Same.made1 (o := .tup [.str r.1, .int (r.2 - tk)]) s6 ht2
      have s67 := Ask.Same.made1 (o := .tup [.str r.1, .int (r.2 - tk)]) (Same.refl H6) ht2
      have t7 : upd H6 t2 (.tup [.str r.1, .int (r.2 - tk)]) t2 = some (.tup [.str r.1, .int (r.2 - tk)]) := upd_same
      generalize upd H6 t2 (.tup [.str r.1, .int (r.2 - tk)]) = H7 at s7 s67 t7 ⊢
      have hv7 := s67 _ _ hv6
      refine ⟨v, _, _, rfl, rfl, hv7, by omega, ?_⟩
      refine ⟨_, rfl, _, rfl, _, _, rfl, rfl, some (.str r.1), some (.int r.2), some (.int tk), ?_, Ask.Same.upd_new s7 hv0, _, _, by rw [upd_ne nuv]; exact s67 _ _ hu6, upd_same, ?_, ?_⟩
      · rw [m1, sizeR_app]
        show _ = ([some (.ref a), some (.int n), some (.ref u), some (.ref v), some (.int (n - (sizeR as + (tk + 0)))), some (.str r.1), some (.int r.2), some (.int tk)] : L2.St)
        rw [show n - (sizeR as + (tk + 0)) = n - sizeR as - tk by omega]
        rfl
      · rw [m1]
        exact (pu6.same s67).mut hv7
      · rw [m2]
        exact ((pv6.same s67).app (b := t2) (r := (r.1, r.2 - tk)) t7).mut hv7
    · rintro σ' H3 ⟨o5, o6, o7, rfl, s3, us, vs', hu3, hv3, pu, pv⟩
      rw [hR.1, List.take_length] at pu pv
      have lu := ahead_len rs n
      have asc : ∀ x, (x ∈ aheadR rs n ∨ x ∈ rearR rs n) → Asc x.1 := fun x hx => by
        obtain ⟨y, hy, e⟩ := ahead_mem hx
        rw [← e]
        exact (hok y hy).2
      refine ⟨_, rfl, u, us, _, rfl, SqL.of hu3, pu, by omega, fun x hx => asc x (.inl hx), fun H4 L1 k1 s4 n1 e1 p1 => ?_⟩
      refine ⟨_, rfl, v, vs', _, rfl, SqL.of (s4 _ _ hv3), pv.same s4, by omega, fun x hx => asc x (.inr hx), fun H5 L2 k2 s5 n2 e2 p2 => ?_⟩
      refine ⟨by show 2 ≤ sizeLine; decide, fun t ht => ?_⟩
      have s6 := Ask.Same.made1 (o := .tup [.ref L1, .ref L2]) (Same.refl H5) ht
      exact k _ t L1 L2 k1 k2 (s3.trans (s4.trans (s5.trans s6))) upd_same (s6 _ _ (s5 _ _ e1)) (s6 _ _ e2) (p1.same (s5.trans s6)) (p2.same s6)
end
end Ask

namespace Ask
open PySem L2
section
variable {P : Program} {w : World} {K : PySem.W.Frag} {mg : Str → Option Value} {base : Heap}
/-! ### a history of checked runs -/
def spChk (CK : Addr) : Sp := fun vs H Q _ => ∃ (p dx : Addr) (c : Addr), vs = [.ref p, .ref c] ∧ H p = some (.ins CK dx []) ∧ ∀ H', H' p = some (.ins CK dx [("runs", .ref c)]) → (∀ b o, b ≠ p → H b = some o → H' b = some o) → Q .non H'
abbrev s_Chk_init : Stmt := inClass (top 40) 0
theorem sc_Chk_init : FnScope ["self", "runs"] ["self", "runs"] (defScope s_Chk_init) := ⟨rfl, rfl, rfl, by decide +kernel, rfl, by decide +kernel, by decide +kernel⟩
theorem ok_chk {f CK : Addr} {fd : FuncData} (F : Fun K "__init__" "CheckedRuns.__init__" s_Chk_init f fd) (cK : Cls K CK) (nK : NoAttr K CK "runs") : FnOk P w K mg base CX0 1 f fd ["self", "runs"] (spChk CK) := by
  refine F.ok sc_Chk_init (fun vs H Q E h => ?_) (fun cdv A outer s H vs Q E hr h => ?_)
  · obtain ⟨p, dx, c, rfl, _⟩ := h
    rfl
  · obtain ⟨p, dx, c, rfl, hp, k⟩ := h
    refine ⟨_, pss_one (ps_fld (pv 0) (pv 1) rfl), ?_⟩
    refine ⟨_, rfl, _, rfl, p, CK, dx, [], rfl, hp, cK, nK, (by show 0 < 1000; decide), k _ upd_same fun b o hb e => by rw [upd_ne hb]; exact e⟩
def spHistC (K : PySem.W.Frag) (CL CH CK : Addr) : Sp := fun vs H Q _ => ∃ (p dx m t a dk c : Addr) (b : Str) (ys : List Str) (ks : List V) (rs : List Run), vs = [.ref p, .ref m, .str b, .ref a] ∧ H p = some (.ins CH dx []) ∧ Mde CL H m t ys ∧ (b = "new" ∨ b = "found") ∧
  H a = some (.ins CK dk [("runs", .ref c)]) ∧ SqT K H c ks ∧ PairsV H ks rs ∧ rs.length ≤ 1000 ∧
  ∀ H', H' p = some (.ins CH dx (hf m c b rs)) → Mde CL H' m t ys → SqT K H' c ks → PairsV H' ks rs → (∀ b o, b ≠ p → H b = some o → H' b = some o) → Q .non H'
theorem ok_histInitC {dvs : List V} {f fB fX fZ CL CH CK : Addr} {fd fdB fdX fdZ : FuncData} (F : FunD K "__init__" "History.__init__" (defArgs s_Hist_init) (defBody s_Hist_init) (defScope s_Hist_init) dvs [] f fd) (T : Blt mg) (hC : HsC K CH) (O : OnC K mg "CheckedRuns" CK) (cK : Cls K CK) (nK : NoAttr K CK "runs") (YK : XkC K CK)
    (GB : FnOk P w K mg base CX0 2 fB fdB ["value"] spReqBeg) (AB : At K mg "require_beginning" fB fdB ["value"])
    (GX : FnOk P w K mg base CX0 4 fX fdX ["letters", "kept", "runs"] (spExtOk K CL)) (AX : At K mg "extended" fX fdX ["letters", "kept", "runs"])
    (GZ : FnOk P w K mg base CX0 1 fZ fdZ ["runs"] (spSize K)) (AZ : At K mg "size_of" fZ fdZ ["runs"]) :
    FnOk P w K mg base CX0 5 f fd ["self", "letters", "beginning", "runs"] (spHistC K CL CH CK) := by
  refine F.ok sc_Hist_init (fun vs H Q E h => ?_) (fun cdv A outer s H vs Q E hr h => ?_)
  · obtain ⟨p, dx, m, t, a, dk, c, b, ys, ks, rs, rfl, _⟩ := h
    rfl
  · obtain ⟨p, dx, m, t, a, dk, c, b, ys, ks, rs, rfl, hp, hM, hb, ha, hc0, hR, ln, k⟩ := h
    have hr1 := hr.mono (j := 1) (by decide)
    refine ⟨_, PSs.nox (pss_cons (ps_expr (pe_call GB (hr.mono (by decide)) (by rfl) AB.m AB.k AB.b .nil pass0 (pa_cons (pv 2) pa_nil)))
      (pss_cons (ps_fld (pv 0) (pv 1) rfl)
      (pss_cons (ps_fld (pv 0) (pv 2) rfl)
      (pss_cons (ps_fld (pv 0) (pe_ifExp (pt_val (pe_callB call_isi (by rfl) T.n_isinstance (by decide +kernel) (pa_cons (pv 3) (pa_cons (pe_gv (v := .ref CK) rfl ⟨_, O.m, rfl⟩) pa_nil)))) (pe_fld (pv 3) rfl) (pe_call GX hr (by rfl) AX.m AX.k AX.b .nil pass0 (pa_cons (pv 1) (pa_cons (pe_tup pa_nil) (pa_cons (pv 3) pa_nil))))) rfl)
      (pss_cons (ps_fld (pv 0) (pe_call GZ hr1 (by rfl) AZ.m AZ.k AZ.b .nil pass0 (pa_cons (pe_fld (pv 0) rfl) pa_nil)) rfl)
      (pss_one (ps_fld (pv 0) (pe_ifExp (pt_truth (pe_fld (pv 0) rfl) (by intro _; rfl)) (pe_ix ix_tup (pe_ix ix_tup (pe_fld (pv 0) rfl) (pe_un un_neg pe_int) (fun _ _ => rfl)) pe_int (fun _ _ => rfl)) (pv 2)) rfl))))))), ?_⟩
    refine ⟨_, rfl, b, rfl, hb, ?_⟩
    -- letters, beginning
    refine ⟨_, rfl, _, rfl, p, CH, dx, [], rfl, hp, hC.c, hC.a1, (by show 0 < 1000; decide), ?_⟩
    have p1 : upd H p (.ins CH dx [("letters", .ref m)]) p = some (.ins CH dx [("letters", .ref m)]) := upd_same
    refine ⟨_, rfl, _, rfl, p, CH, dx, _, rfl, p1, hC.c, hC.a2, (by show 1 < 1000; decide), ?_⟩
    have p2 : upd (upd H p (.ins CH dx (putF "letters" (.ref m) []))) p (.ins CH dx (putF "beginning" (.str b) [("letters", .ref m)])) p = some (.ins CH dx [("letters", .ref m), ("beginning", .str b)]) := upd_same
    have k2 : ∀ b' o, b' ≠ p → H b' = some o → upd (upd H p (.ins CH dx (putF "letters" (.ref m) []))) p (.ins CH dx (putF "beginning" (.str b) [("letters", .ref m)])) b' = some o := fun b' o hb e => by rw [upd_ne hb, upd_ne hb]; exact e
    generalize upd (upd H p (.ins CH dx (putF "letters" (.ref m) []))) p (.ins CH dx (putF "beginning" (.str b) [("letters", .ref m)])) = H2 at p2 k2 ⊢
    have hM2 := hM.but k2 hp
    have nap : a ≠ p := ne_of ha hp (by intro z; injection z with z1 z2 z3; cases z3)
    have ha2 := k2 _ _ nap ha
    have hc := seqT_but hc0 k2 hp
    have hks := hR.but k2 hp
    -- runs
    have kk : PySem.W.kitOne K (.ref CK) (.ref CK) = some true := by
      unfold PySem.W.kitOne
      rw [if_pos (by simp)]
    refine ⟨_, rfl, .ref a, .ref CK, _, _, true, rfl, .own CK, .base (.ins ha2 cK YK.ha YK.hn YK.ht YK.hm), kk, _, rfl, iteT ?_⟩
    refine ⟨_, rfl, a, CK, dk, _, _, rfl, ha2, cK, nK, rfl, ?_⟩
    have s24 := Same.refl H2
    refine ⟨_, rfl, p, CH, dx, _, rfl, s24 _ _ p2, hC.c, hC.a3, (by show 2 < 1000; decide), ?_⟩
    have p5 : upd H2 p (.ins CH dx (putF "runs" (.ref c) [("letters", .ref m), ("beginning", .str b)])) p = some (.ins CH dx [("letters", .ref m), ("beginning", .str b), ("runs", .ref c)]) := upd_same
    have k5 : ∀ b' o, b' ≠ p → H2 b' = some o → upd H2 p (.ins CH dx (putF "runs" (.ref c) [("letters", .ref m), ("beginning", .str b)])) b' = some o := fun b' o hb e => by rw [upd_ne hb]; exact e
    generalize upd H2 p (.ins CH dx (putF "runs" (.ref c) [("letters", .ref m), ("beginning", .str b)])) = H5 at p5 k5 ⊢
    have p4 := s24 _ _ p2
    have hM5 := (hM2.same s24).but k5 p4
    have hc5 := seqT_but hc k5 p4
    have hks5 := hks.but k5 p4
    have kk5 : ∀ b' o, b' ≠ p → H b' = some o → H5 b' = some o := fun b' o hb e => k5 _ _ hb (s24 _ _ (k2 _ _ hb e))
    -- size
    refine ⟨_, rfl, p, CH, dx, _, _, rfl, p5, hC.c, hC.a3, rfl, c, ks, rs, rfl, .inr hc5, hks5.runs, by omega, fun H6 s6 => ?_⟩
    have p6 := s6 _ _ p5
    refine ⟨_, rfl, p, CH, dx, _, rfl, p6, hC.c, hC.a4, (by show 3 < 1000; decide), ?_⟩
    have p7 : upd H6 p (.ins CH dx (putF "size" (.int (sizeR rs)) [("letters", .ref m), ("beginning", .str b), ("runs", .ref c)])) p = some (.ins CH dx [("letters", .ref m), ("beginning", .str b), ("runs", .ref c), ("size", .int (sizeR rs))]) := upd_same
    have k7 : ∀ b' o, b' ≠ p → H6 b' = some o → upd H6 p (.ins CH dx (putF "size" (.int (sizeR rs)) [("letters", .ref m), ("beginning", .str b), ("runs", .ref c)])) b' = some o := fun b' o hb e => by rw [upd_ne hb]; exact e
    generalize upd H6 p (.ins CH dx (putF "size" (.int (sizeR rs)) [("letters", .ref m), ("beginning", .str b), ("runs", .ref c)])) = H7 at p7 k7 ⊢
    have hM7 := (hM5.same s6).but k7 p6
    have hc7 := seqT_but (seqT_same s6 hc5) k7 p6
    have hks7 := (hks5.same s6).but k7 p6
    have kk7 : ∀ b' o, b' ≠ p → H b' = some o → H7 b' = some o := fun b' o hb e => k7 _ _ hb (s6 _ _ (kk5 _ _ hb e))
    -- last
    have fin : ∀ z : Str, z = lastR b rs → Q .non (upd H7 p (.ins CH dx (putF "last" (.str z) [("letters", .ref m), ("beginning", .str b), ("runs", .ref c), ("size", .int (sizeR rs))]))) := fun z hz => by
      have p8 : upd H7 p (.ins CH dx (putF "last" (.str z) [("letters", .ref m), ("beginning", .str b), ("runs", .ref c), ("size", .int (sizeR rs))])) p = some (.ins CH dx (hf m c b rs)) := by
        rw [hz]
        exact upd_same
      have k8 : ∀ b' o, b' ≠ p → H7 b' = some o → upd H7 p (.ins CH dx (putF "last" (.str z) [("letters", .ref m), ("beginning", .str b), ("runs", .ref c), ("size", .int (sizeR rs))])) b' = some o := fun b' o hb e => by rw [upd_ne hb]; exact e
      exact k _ p8 (hM7.but k8 p7) (seqT_but hc7 k8 p7) (hks7.but k8 p7) fun b' o hb e => k8 _ _ hb (kk7 _ _ hb e)
    refine ⟨_, rfl, p, CH, dx, _, _, rfl, p7, hC.c, hC.a3, rfl, !ks.isEmpty, .inr (.inl ⟨ks, hc7, rfl⟩), ite2 (fun q => ?_) (fun q => ?_)⟩
    · have q0 : ks ≠ [] := fun z => by subst z; cases q
      have l1 : 1 ≤ ks.length := List.length_pos_iff.mpr q0
      have e1 := hks7.1
      obtain ⟨l, hl⟩ : ∃ l, rs[rs.length - 1]? = some l := ⟨_, List.getElem?_eq_getElem (by omega)⟩
      obtain ⟨x, hx, hx2⟩ := hks7.get hl
      rw [← e1] at hx
      refine ⟨_, rfl, p, CH, dx, _, _, rfl, p7, hC.c, hC.a3, rfl, _, rfl, c, _, _, _, rfl, rfl, hc7, atI_back hx, x, _, _, _, rfl, rfl, SqT.of hx2, at_by (j := 0) rfl rfl, ?_⟩
      refine ⟨_, rfl, p, CH, dx, _, rfl, p7, hC.c, hC.a5, (by show 4 < 1000; decide), fin l.1 ?_⟩
      unfold lastR
      rw [List.getLast?_eq_getElem?, hl]
      rfl
    · have q : (!ks.isEmpty) = false := (Bool.not_eq_true _).mp q
      have q0 : ks = [] := by cases ks with | nil => rfl | cons => cases q
      have q1 : rs = [] := List.eq_nil_of_length_eq_zero (by rw [← hks7.1, q0]; rfl)
      refine ⟨_, rfl, _, rfl, p, CH, dx, _, rfl, p7, hC.c, hC.a5, (by show 4 < 1000; decide), fin b ?_⟩
      rw [q1]
      rfl
end
end Ask

namespace Ask
open PySem L2
theorem part_len : ∀ {rs : List Run} {n : Int} {f b : List Run}, partR rs n = some (f, b) → f.length ≤ rs.length
  | [], n, f, b, e => by
    unfold partR at e
    by_cases n0 : n = 0
    · rw [if_pos n0] at e
      cases e
      exact Nat.le_refl _
    · rw [if_neg n0] at e
      cases e
  | r :: rs, n, f, b, e => by
    unfold partR at e
    by_cases n0 : n = 0
    · rw [if_pos n0] at e
      cases e
      exact Nat.zero_le _
    · rw [if_neg n0] at e
      by_cases q : n < r.2
      · rw [if_pos q] at e
        cases e
        exact Nat.succ_le_succ (Nat.zero_le _)
      · rw [if_neg q] at e
        cases e2 : partR rs (n - r.2) with
        | none => rw [e2] at e; cases e
        | some p =>
          obtain ⟨f', b'⟩ := p
          rw [e2] at e
          cases e
          exact Nat.succ_le_succ (part_len e2)
section
variable {P : Program} {w : World} {K : PySem.W.Frag} {mg : Str → Option Value} {base : Heap} {CL CH CK CE : Addr} {H : Hp} {a m t c dk : Addr} {ys : List Str} {b : Str} {ks : List V} {rs : List Run} {Q : VK} {E : XK}
theorem chk_made {x dx : Addr} (hx : H x = none) (hdx : H dx = none) (hne : dx ≠ x) (k : ∀ H', Same H H' → H' x = some (.ins CK dx [("runs", .ref c)]) → Q .non H') :
    spChk CK [.ref x, .ref c] (upd (upd H dx (.own x)) x (.ins CK dx [])) Q E :=
  ⟨x, dx, c, rfl, upd_same, fun H' e kk => k H' (Same.made hx hdx fun b o e hb => kk b o hb e) e⟩
theorem histC_made (hM : Mde CL H m t ys) (hb : b = "new" ∨ b = "found") (ha : H a = some (.ins CK dk [("runs", .ref c)])) (hc : SqT K H c ks) (hR : PairsV H ks rs) (ln : rs.length ≤ 1000) {x dx : Addr} (hx : H x = none) (hdx : H dx = none) (hne : dx ≠ x)
    (k : ∀ H', Same H H' → HistAt K CL CH H' x ys b rs → Q .non H') : spHistC K CL CH CK [.ref x, .ref m, .str b, .ref a] (upd (upd H dx (.own x)) x (.ins CH dx [])) Q E := by
  have sm : Same H (upd (upd H dx (.own x)) x (.ins CH dx [])) := Ask.Same.made1 (Ask.Same.made1 (Same.refl H) hdx) (by rw [upd_ne hne.symm]; exact hx)
  exact ⟨x, dx, m, t, a, dk, c, b, ys, ks, rs, rfl, upd_same, hM.same sm, hb, sm _ _ ha, seqT_same sm hc, hR.same sm, ln, fun H' e1 e2 e3 e4 kk => k H' (Same.made hx hdx fun b o e hb => kk b o hb e) ⟨dx, m, t, c, ks, e1, e2, e3, e4⟩⟩
/-! ### History.__add__ -/
def spAdd (K : PySem.W.Frag) (CL CH : Addr) : Sp := fun vs H Q _ => ∃ (p a : Addr) (ys : List Str) (b : Str) (hs rs : List Run) (xs : List V), vs = [.ref p, .ref a] ∧ HistAt K CL CH H p ys b hs ∧ (b = "new" ∨ b = "found") ∧ hs.length ≤ 1000 ∧ (SqL K H a xs ∨ SqT K H a xs) ∧ RunsV K H xs rs ∧ rs.length ≤ 1000 ∧
  (∀ r ∈ rs, r.1 ∈ ys ∧ 1 ≤ r.2 ∧ r.2 ≤ 1000000000000000000000000000000) ∧ (spliceR hs (joinR rs)).length ≤ 400 ∧ ∀ (H' : Hp) (r : Addr), Same H H' → H r = none → HistAt K CL CH H' r ys b (spliceR hs (joinR rs)) → Q (.ref r) H'
abbrev s_Add : Stmt := inClass (top 41) 6
theorem sc_Add : FnScope ["self", "other", "runs"] ["self", "other"] (defScope s_Add) := ⟨rfl, rfl, rfl, by decide +kernel, rfl, by decide +kernel, by decide +kernel⟩
theorem ok_add {f fX fH fK : Addr} {fd fdX fdH fdK : FuncData} (F : Fun K "__add__" "History.__add__" s_Add f fd) (hC : HsC K CH)
    (GX : FnOk P w K mg base CX0 4 fX fdX ["letters", "kept", "runs"] (spExtOk K CL)) (AX : At K mg "extended" fX fdX ["letters", "kept", "runs"])
    (MH : Mk K CH fH) (mH : mg "History" = some (.ref CH)) (bH : Binds K fdH ["self", "letters", "beginning", "runs"] []) (GH : FnOk P w K mg base CX0 5 fH fdH ["self", "letters", "beginning", "runs"] (spHistC K CL CH CK))
    (MK : Mk K CK fK) (mK : mg "CheckedRuns" = some (.ref CK)) (bK : Binds K fdK ["self", "runs"] []) (GK : FnOk P w K mg base CX0 1 fK fdK ["self", "runs"] (spChk CK)) :
    FnOk P w K mg base CX0 7 f fd ["self", "other"] (spAdd K CL CH) := by
  refine F.ok sc_Add (fun vs H Q E h => ?_) (fun cdv A outer s H vs Q E hr h => ?_)
  · obtain ⟨p, a, ys, b, hs, rs, xs, rfl, _⟩ := h
    rfl
  · obtain ⟨p, a, ys, b, hs, rs, xs, rfl, ⟨dx, m, t, c, ks, hp, hM, hc, hks⟩, hb, lh, ha, hR, ln, hok, lm, k⟩ := h
    have hr2 := hr.mono (j := 2) (by decide)
    have hr3 := hr.mono (j := 3) (by decide)
    refine ⟨_, (pss_cons (ps_set (i := 2) sc_Add.nd rfl (Or.inl rfl) (pe_call GX (hr.mono (j := 4) (by decide)) (by rfl) AX.m AX.k AX.b .nil pass0 (pa_cons (pe_fld (pv 0) rfl) (pa_cons (pe_fld (pv 0) rfl) (pa_cons (pv 1) pa_nil)))))
      (pss_one (ps_ret (pe_make MH GH hr (by rfl) mH bH .nil pass0 (pa_cons (pe_fld (pv 0) rfl) (pa_cons (pe_fld (pv 0) rfl) (pa_cons (pe_make MK GK hr2 (by rfl) mK bK .nil pass0 (pa_cons (pv 2) pa_nil)) pa_nil))))))), ?_⟩
    have e1 := hks.1
    refine ⟨_, rfl, p, CH, dx, _, _, rfl, hp, hC.c, hC.a1, rfl, _, rfl, p, CH, dx, _, _, rfl, hp, hC.c, hC.a3, rfl, _, rfl, m, t, c, ys, a, ks, xs, hs, rs, rfl, hM, hc, hks, lh, ha, hR, ln, hok, lm, fun H1 c1 k1 s1 hc1 hk1 => ?_⟩
    have hp1 := s1 _ _ hp
    refine ⟨_, rfl, p, CH, dx, _, _, rfl, hp1, hC.c, hC.a1, rfl, _, rfl, p, CH, dx, _, _, rfl, hp1, hC.c, hC.a2, rfl, _, rfl, fun x xd hx hxd hne => chk_made hx hxd hne fun H2 s2 hx2 => ⟨rfl, fun r rd hr hrd hner => ?_⟩⟩
    exact histC_made (hM.same (s1.trans s2)) hb hx2 (seqT_same s2 hc1) (hk1.same s2) (by omega) hr hrd hner fun H3 s3 hH => ⟨rfl, k H3 r (s1.trans (s2.trans s3)) ((s1.trans s2).free hr) hH⟩
end
end Ask

namespace Ask
open PySem L2
/-! ### runs in their one form, and the letters that they stand for -/
def Nm (rs : List Run) : Prop := NoEq rs ∧ ∀ r ∈ rs, 0 < r.2
def J (w : List Str) : List Run := joinR (onesR w)
theorem nm_J (w : List Str) : Nm (J w) := ⟨noeq_join _, join_pos (ones_pos w)⟩
theorem plain_J (w : List Str) : plainR (J w) = w := (plain_join (ones_pos w)).trans (plain_ones w)
theorem Nm.J {rs : List Run} (h : Nm rs) : Ask.J (plainR rs) = rs := (join_plain h.2).trans (join_noeq h.1)
theorem Nm.eq {rs ss : List Run} (h : Nm rs) (g : Nm ss) (e : plainR rs = plainR ss) : rs = ss := by rw [← h.J, ← g.J, e]
theorem join_J {rs : List Run} (h : ∀ r ∈ rs, 0 < r.2) : joinR rs = J (plainR rs) := (join_plain h).symm
theorem nm_join {rs : List Run} (h : ∀ r ∈ rs, 0 < r.2) : Nm (joinR rs) := ⟨noeq_join _, join_pos h⟩
theorem J_inj {v w : List Str} (h : J v = J w) : v = w := by rw [← plain_J v, ← plain_J w, h]
theorem size_plain {rs : List Run} (h : ∀ r ∈ rs, 0 < r.2) : sizeR rs = ((plainR rs).length : Int) := (plainR_len fun r hr => Int.le_of_lt (h r hr)).symm
theorem plain_app (a b : List Run) : plainR (a ++ b) = plainR a ++ plainR b := plainR_app a b
theorem nm_nil : Nm [] := ⟨trivial, fun r h => by cases h⟩
theorem rep_add (a b : Nat) (z : Str) : List.replicate a z ++ List.replicate b z = List.replicate (a + b) z := List.replicate_append_replicate
theorem plain_one2 (z : Str) {a b : Int} (ha : 0 < a) (hb : 0 < b) : plainR [(z, a + b)] = plainR [(z, a)] ++ plainR [(z, b)] := by
  rw [plain_one, plain_one, plain_one]
  show List.replicate (a + b).toNat z = List.replicate a.toNat z ++ List.replicate b.toNat z
  rw [rep_add, show (a + b).toNat = a.toNat + b.toNat by omega]
theorem splice_nm : ∀ {a b : List Run}, Nm a → Nm b → Nm (spliceR a b) ∧ plainR (spliceR a b) = plainR a ++ plainR b ∧ (a ≠ [] → (spliceR a b).head?.map (·.1) = a.head?.map (·.1))
  | [], b, _, hb => ⟨hb, rfl, fun h => absurd rfl h⟩
  | [l], [], ha, _ => by
    refine ⟨ha, ?_, fun _ => rfl⟩
    show plainR [l] = plainR [l] ++ []
    rw [List.append_nil]
  | [l], c :: b, ha, hb => by
    unfold spliceR
    show Nm (if l.1 = c.1 then _ else _) ∧ plainR (if l.1 = c.1 then _ else _) = _ ∧ _
    have pl := ha.2 l (List.mem_singleton.mpr rfl)
    have pc := hb.2 c (List.mem_cons_self ..)
    by_cases q : l.1 = c.1
    · rw [if_pos q]
      refine ⟨⟨⟨fun s hs => ?_, hb.1.2⟩, fun r hr => ?_⟩, ?_, fun _ => ?_⟩
      · show l.1 ≠ s.1
        rw [q]
        exact hb.1.1 s hs
      · rcases List.mem_cons.mp hr with rfl | hr
        · show 0 < l.2 + c.2
          omega
        · exact hb.2 r (List.mem_cons_of_mem _ hr)
      · show plainR ((l.1, l.2 + c.2) :: b) = plainR [l] ++ plainR (c :: b)
        have e1 : plainR ((l.1, l.2 + c.2) :: b) = plainR [(l.1, l.2 + c.2)] ++ plainR b := plainR_app [_] b
        have e2 : plainR (c :: b) = plainR [c] ++ plainR b := plainR_app [_] b
        rw [e1, e2, plain_one2 _ pl pc, ← List.append_assoc]
        have e3 : ((l.1, c.2) : Run) = c := by rw [q]
        rw [e3]
      · show (if l.1 = c.1 then _ else _ : List Run).head?.map _ = _
        rw [if_pos q]
        rfl
    · rw [if_neg q]
      refine ⟨⟨⟨fun s hs => by cases hs; exact q, hb.1⟩, fun r hr => ?_⟩, plainR_app [_] _, fun _ => ?_⟩
      · rcases List.mem_cons.mp hr with rfl | hr
        · exact pl
        · exact hb.2 r hr
      · show (if l.1 = c.1 then _ else _ : List Run).head?.map _ = _
        rw [if_neg q]
        rfl
  | r :: s :: a, b, ha, hb => by
    have ha' : Nm (s :: a) := ⟨ha.1.2, fun x hx => ha.2 x (List.mem_cons_of_mem _ hx)⟩
    obtain ⟨i1, i2, i3⟩ := splice_nm ha' hb
    have i3 := i3 (List.cons_ne_nil _ _)
    rw [splice_cons r (List.cons_ne_nil s a)]
    refine ⟨⟨⟨fun x hx => ?_, i1.1⟩, fun x hx => ?_⟩, ?_, fun _ => rfl⟩
    · rw [hx] at i3
      have : x.1 = s.1 := Option.some.inj i3
      rw [this]
      exact ha.1.1 s rfl
    · rcases List.mem_cons.mp hx with rfl | hx
      · exact ha.2 x (List.mem_cons_self ..)
      · exact i1.2 x hx
    · have e1 : plainR (r :: spliceR (s :: a) b) = plainR [r] ++ plainR (spliceR (s :: a) b) := plainR_app [_] _
      have e2 : plainR (r :: s :: a) = plainR [r] ++ plainR (s :: a) := plainR_app [_] _
      rw [e1, e2, i2, List.append_assoc]
theorem splice_J {a b : List Run} (ha : Nm a) (hb : Nm b) : spliceR a b = J (plainR a ++ plainR b) := by
  obtain ⟨h1, h2, _⟩ := splice_nm ha hb
  rw [← h2, h1.J]
/-- the two parts, by letters -/
theorem part_w {rs : List Run} (h : Nm rs) {n : Int} (h0 : 0 ≤ n) : (partR rs n = none ∧ sizeR rs < n) ∨ ∃ f b, partR rs n = some (f, b) ∧ Nm f ∧ Nm b ∧ plainR f = (plainR rs).take n.toNat ∧ plainR b = (plainR rs).drop n.toNat ∧ n ≤ sizeR rs := by
  have fwd : ∀ f b, partR rs n = some (f, b) → Nm f ∧ Nm b ∧ plainR f = (plainR rs).take n.toNat ∧ plainR b = (plainR rs).drop n.toNat ∧ n ≤ sizeR rs := by
    intro f b e
    have p := part_parts h.1 h.2 h0 e
    have nf : Nm f := ⟨p.nf, p.pf⟩
    have nb : Nm b := ⟨p.nb, p.pb⟩
    have e1 := (splice_nm nf nb).2.1
    rw [p.spl] at e1
    have e2 := size_plain p.pf
    rw [p.sz] at e2
    have e3 : n.toNat = (plainR f).length := by omega
    refine ⟨nf, nb, ?_, ?_, ?_⟩
    · rw [e1, e3, List.take_left]
    · rw [e1, e3, List.drop_left]
    · rw [size_plain h.2, e1, List.length_append]
      omega
  cases e : partR rs n with
  | some p => exact .inr ⟨p.1, p.2, rfl, fwd _ _ e⟩
  | none =>
    refine .inl ⟨rfl, ?_⟩
    rcases Int.lt_or_le (sizeR rs) n with q | q
    · exact q
    · obtain ⟨f, b, e2⟩ := part_some h.2 h0 q
      rw [e] at e2
      cases e2
/-! ### a stretch of letters exchanged -/
def exW (w : List Str) (n : Nat) (o p : List Str) : Option (List Str) := if n + o.length ≤ w.length ∧ (w.drop n).take o.length = o then some (w.take n ++ p ++ w.drop (n + o.length)) else none
theorem exW_some {w : List Str} {n : Nat} {o p v : List Str} : exW w n o p = some v ↔ ∃ a b, w = a ++ o ++ b ∧ a.length = n ∧ v = a ++ p ++ b := by
  unfold exW
  constructor
  · intro h
    split at h
    · rename_i q
      obtain ⟨q1, q2⟩ := q
      refine ⟨w.take n, w.drop (n + o.length), ?_, ?_, (Option.some.inj h).symm⟩
      · have e : w.drop n = o ++ w.drop (n + o.length) := by
          have e1 := (List.take_append_drop o.length (w.drop n)).symm
          rw [q2, List.drop_drop] at e1
          exact e1
        rw [List.append_assoc, ← e, List.take_append_drop]
      · rw [List.length_take]
        omega
    · cases h
  · rintro ⟨a, b, rfl, rfl, rfl⟩
    have e1 : (a ++ o ++ b).drop a.length = o ++ b := by rw [List.append_assoc, List.drop_left]
    have e2 : (a ++ o ++ b).take a.length = a := by rw [List.append_assoc, List.take_left]
    have e3 : (a ++ o ++ b).drop (a.length + o.length) = b := by rw [← List.length_append, List.drop_left]
    rw [e1, e2, e3, List.take_left, if_pos ⟨by simp, rfl⟩]
/-- the program's -/
def exR (rs : List Run) (n : Int) (o p : List Run) : Option (List Run) := (partR rs n).bind fun q => (partR q.2 (sizeR o)).bind fun r => if r.1 = joinR o then some (spliceR (spliceR q.1 (joinR p)) r.2) else none
theorem exR_W {rs o p : List Run} {n : Int} (h : Nm rs) (h0 : 0 ≤ n) (ho : ∀ r ∈ o, 0 < r.2) (hp : ∀ r ∈ p, 0 < r.2) : exR rs n o p = (exW (plainR rs) n.toNat (plainR o) (plainR p)).map J := by
  have so := size_plain ho
  have so0 : 0 ≤ sizeR o := by omega
  have sr := size_plain h.2
  unfold exR exW
  rcases part_w h h0 with ⟨e, l⟩ | ⟨f, b, e, nf, nb, ef, eb, l⟩
  · rw [e, if_neg (by omega)]
    rfl
  rw [e]
  show ((partR b (sizeR o)).bind fun r => if r.1 = joinR o then some (spliceR (spliceR f (joinR p)) r.2) else none) = _
  have sb := size_plain nb.2
  have lb : (plainR b).length = (plainR rs).length - n.toNat := by rw [eb, List.length_drop]
  rcases part_w nb so0 with ⟨e2, l2⟩ | ⟨x, t, e2, nx, nt, ex, et, l2⟩
  · rw [e2, if_neg (by omega)]
    rfl
  rw [e2]
  show (if x = joinR o then some (spliceR (spliceR f (joinR p)) t) else none) = _
  have eo : (sizeR o).toNat = (plainR o).length := by omega
  rw [eo, eb] at ex et
  by_cases q : x = joinR o
  · have q2 : ((plainR rs).drop n.toNat).take (plainR o).length = plainR o := by rw [← ex, q, plain_join ho]
    rw [if_pos q, if_pos ⟨by omega, q2⟩]
    have np := nm_join hp
    obtain ⟨g1, g2, _⟩ := splice_nm nf np
    obtain ⟨k1, k2, _⟩ := splice_nm g1 nt
    show some _ = some _
    rw [← k1.J, k2, g2, plain_join hp, ef, et, List.drop_drop]
  · rw [if_neg q, if_neg]
    · rfl
    · rintro ⟨_, z⟩
      refine q (nx.eq (nm_join ho) ?_)
      rw [ex, z, plain_join ho]
/-- the law's -/
def chR (rs : List Run) (n : Int) (o p : List Run) : Option (List Run) :=
  if n < 0 ∨ sizeR rs < n + sizeR o then none
  else if joinR (posR (aheadR (joinR (posR (rearR rs n))) (sizeR o))) = joinR o then some (joinR (joinR (posR (aheadR rs n)) ++ p ++ joinR (posR (rearR (joinR (posR (rearR rs n))) (sizeR o))))) else none
theorem cut_w {rs : List Run} (h : Nm rs) {n : Int} (h0 : 0 ≤ n) (h1 : n ≤ sizeR rs) : ∃ f b, joinR (posR (aheadR rs n)) = f ∧ joinR (posR (rearR rs n)) = b ∧ Nm f ∧ Nm b ∧ plainR f = (plainR rs).take n.toNat ∧ plainR b = (plainR rs).drop n.toNat := by
  rcases part_w h h0 with ⟨_, l⟩ | ⟨f, b, e, nf, nb, ef, eb, l⟩
  · omega
  · obtain ⟨c1, c2⟩ := cut_part h.2 h0 e
    exact ⟨f, b, by rw [c1, join_noeq nf.1], by rw [c2, join_noeq nb.1], nf, nb, ef, eb⟩
theorem chR_W {rs o p : List Run} {n : Int} (h : Nm rs) (ho : ∀ r ∈ o, 0 < r.2) (hp : ∀ r ∈ p, 0 < r.2) : chR rs n o p = if n < 0 then none else (exW (plainR rs) n.toNat (plainR o) (plainR p)).map J := by
  have so := size_plain ho
  have sr := size_plain h.2
  unfold chR exW
  by_cases q0 : n < 0
  · rw [if_pos (.inl q0), if_pos q0]
  rw [if_neg q0]
  by_cases q1 : sizeR rs < n + sizeR o
  · rw [if_pos (.inr q1), if_neg (by omega)]
    rfl
  rw [if_neg (by omega)]
  obtain ⟨f, b, e1, e2, nf, nb, ef, eb⟩ := cut_w h (n := n) (by omega) (by omega)
  rw [e1, e2]
  have sb := size_plain nb.2
  have lb : (plainR b).length = (plainR rs).length - n.toNat := by rw [eb, List.length_drop]
  obtain ⟨x, t, e3, e4, nx, nt, ex, et⟩ := cut_w nb (n := sizeR o) (by omega) (by omega)
  rw [e3, e4]
  have eo : (sizeR o).toNat = (plainR o).length := by omega
  rw [eo, eb] at ex et
  by_cases q : x = joinR o
  · have q2 : ((plainR rs).drop n.toNat).take (plainR o).length = plainR o := by rw [← ex, q, plain_join ho]
    rw [if_pos q, if_pos ⟨by omega, q2⟩]
    show some _ = some _
    rw [join_J (rs := f ++ p ++ t), plain_app, plain_app, ef, et, List.drop_drop]
    intro r hr
    rcases List.mem_append.mp hr with hr | hr
    · rcases List.mem_append.mp hr with hr | hr
      · exact nf.2 r hr
      · exact hp r hr
    · exact nt.2 r hr
  · rw [if_neg q, if_neg]
    · rfl
    · rintro ⟨_, z⟩
      refine q (nx.eq (nm_join ho) ?_)
      rw [ex, z, plain_join ho]
end Ask

/-! a text == a flat value, a list, a tuple or a dict -/
namespace Ask
open PySem L2 PySem.Spec PyProof.Rows PySem.SeqAt
def Any1 (H : Hp) (x : V) : Prop := flatV x = true ∨ ∃ d, x = .ref d ∧ ((∃ kvs, H d = some (.dK kvs)) ∨ (∃ xs, H d = some (.lst xs)) ∨ (∃ xs, H d = some (.tup xs)))
theorem Any1.same {H H' : Hp} {x : V} (h : Any1 H x) (s : Same H H') : Any1 H' x := by
  rcases h with h | ⟨d, e, h⟩
  · exact .inl h
  · refine .inr ⟨d, e, ?_⟩
    rcases h with ⟨k, h⟩ | ⟨k, h⟩ | ⟨k, h⟩
    · exact .inl ⟨k, s _ _ h⟩
    · exact .inr (.inl ⟨k, s _ _ h⟩)
    · exact .inr (.inr ⟨k, s _ _ h⟩)
section
variable {X : Cx}
theorem op_eqW (hu : X.A.units < cLine) : OpR X (compareOp .Eq) (fun x y H Q => ∃ z : Str, x = .str z ∧ Any1 H y ∧ Q (.bl (decide (V.str z = y))) H) := by
  intro pins s σ H x y v u Q I rx ry h
  obtain ⟨z, rfl, hy, q⟩ := h
  rcases hy with fy | ⟨d, rfl, hd⟩
  · cases y with
    | non => exact op_eq pins s σ H _ _ v u Q I rx ry ⟨rfl, q⟩
    | bl j => exact op_eq pins s σ H _ _ v u Q I rx ry ⟨rfl, q⟩
    | int j => exact op_eq pins s σ H _ _ v u Q I rx ry ⟨rfl, q⟩
    | str j => exact op_eq pins s σ H _ _ v u Q I rx ry ⟨rfl, q⟩
    | _ => cases fy
  · obtain ⟨t, rfl⟩ := id rx
    cases ry
    have fin : EP X pins σ Q (.bool false) s := fin_bl I q (decide_eq_false (fun z => by cases z))
    show wpAny (model X.prog X.w) X.A (richCompare .Eq (.str z t) (.ref d)) (EP X pins σ Q) X.xe s
    rcases hd with ⟨kvs, hd⟩ | ⟨xs, hd⟩ | ⟨xs, hd⟩
    · obtain ⟨_, _, vs, _, o, es, ep, ho, hx, hdd, _⟩ := I.hok d _ hd
      exact rcAt_sd z t ho hx.1 hdd hu _ _ _ _ fin
    · obtain ⟨its2, r2, pl2, _⟩ := I.list (.inl (.inl hd))
      exact RcAt.str_list z t pl2.isList hu _ _ _ _ fin
    · obtain ⟨its2, r2, pl2, _⟩ := I.tuple (.inl (.inl hd))
      exact RcAt.str_tuple z t pl2 hu _ _ _ _ fin
end
end Ask

/-! C(), C an own error without __init__ -/
namespace Ask
open PySem PySem.Spec PyProof.Rows L2
theorem pmk_own0 {X : Cx} {C : Addr} {bmB : List Value} {B newId initId : String} {x : Str} {p pos : Pos} (F : ExcBaseFacts B newId initId bmB) (q : PySem.W.excIn X.K C bmB newId = true) (gC : X.mg x = some (.ref C)) (kC : PySem.W.keepIn X.K (.ref C) = true) (r : Raises X (.ref C)) (hg : Gl X x)
    (hdb : (x == ("__debug__" : Str)) = false := by decide) : PMk X (.Call (.Name x p) [] [] pos) (fun _ H Q => Q (.ref C) none H) := by
  intro pins s σ H Q I h
  refine wpAny_Call_Name_kw (ld_glob I hg gC ?_ hdb)
  refine PySem.W.callWith_K0 (first := []) I.kIn kC ?_
  show wpAny _ _ (call (.ref C) []) _ _ _
  obtain ⟨bm, N, nm, qn, bs, hdct, sn, sub, ab, col, dd, k0, k1, k2, k3, k5, mN, hC, hN, hni, T⟩ := exc_obj I.kIn q
  refine wpAny_call_exc_subT F T hC hN hni (fun h' e hm => ?_) (Nat.zero_le _)
  exact mk_of I hm r h (I.hok.gone hm.new)
/-- an own error class without __init__ -/
structure Err0 (K : PySem.W.Frag) (mg : Str → Option Value) (x : Str) (C : Addr) : Prop where
  m : mg x = some (.ref C)
  e : PySem.W.excIn K C [Value.type "ValueError", Value.type "Exception", Value.type "BaseException", Value.type "object"] "ValueError.__new__" = true
  k : PySem.W.keepIn K (.ref C) = true
  b : PySem.W.subIn K (.ref C) (.type "BaseException") = some true
  t : PySem.W.typeIn K (.ref C) = some (.type "type")
end Ask

/-! a clause «except X» without a name, among several -/
namespace Ask
open PySem L2 PySem.Spec PyProof.Rows
def wNo (K : PySem.W.Frag) (c : Value) (ts : TS) (W : WX) (D : Ends) : WX := fun cls d σ H =>
  ∃ b, PySem.W.exmOne K cls c = some b ∧ (b = true → ts D σ H) ∧ (b = false → W cls d σ H)
theorem hands_no {X : Cx} {D : Ends} {hds : List ExceptHandler} {W : WX} {x : Str} {c : Value} {suite : List Stmt} {b₀ : Stmt} {np pos' : Pos} {ts : TS}
    (hf : X.env.frame = some X.env.locals) (hc : Names X x c)
    (su : ∀ (a : Addr) (oe : Obj) (pn : List (Addr × Obj)), PSs (X.suite a ((a, oe) :: pn)) (b₀ :: suite) ts)
    (rest : Hands X D hds W) : Hands X D (.ExceptHandler (some (.Name x np)) none (b₀ :: suite) pos' :: hds) (wNo X.K c ts W D) := by
  intro pins σ H sI s B a cls d w q
  obtain ⟨b, hb, yes, no⟩ := q
  have J := w.now
  have ok := J.ok
  obtain ⟨oe, vs, he, hz, hd, nL, nF⟩ := w.apart hf
  have S := J.suite he hd w.na nL nF
  refine wpAny_handleBy_cons (codeAny_handlers_test ?_) (by intro z; cases z)
  have ty : PySem.W.Looks (model X.prog X.w) s.heap (typeOf (.ref a)) cls := fun A Q E s' k z => wpAny_typeOf_ref (k _ _ he) (by rw [hz.1]; exact z)
  have isIt := PySem.W.exm_one (M := model X.prog X.w) J.kIn ty hb
  have named : ∀ {Q : Value → Shared → Prop} {E : Value → Shared → Prop}, Q c s → wpAny (model X.prog X.w) (X.A.mark (some (.ref a))) (eval (.Name x np) X.env) Q E s := fun {Q E} z => by
    obtain ⟨g, dbg, m | ⟨m, bt, nn⟩⟩ := hc
    · exact ld_glob (X := X.suite a ((a, oe) :: (X.pn ++ pins))) S g m z dbg
    · exact ld_blt (X := X.suite a ((a, oe) :: (X.pn ++ pins))) S g m bt z nn dbg
  refine named (isIt.here ?_)
  cases b with
  | false => exact rest pins σ H sI s B a cls d w (no rfl)
  | true =>
    refine codeAny_handlers_suite (HandSPX.lands_againZ w.fl fun h4 fl4 up4 => ?_)
    have w4 : Down X pins σ H sI B a cls d { s with heap := h4 } := ⟨fl4, w.inv, w.nb, w.up.trans up4, w.os, w.ag, w.na⟩
    obtain ⟨oe4, vs4, he4, hz4, hd4, nL4, nF4⟩ := w4.apart hf
    have S4 := w4.now.suite he4 hd4 w.na nL4 nF4
    refine wpAny_mono ((su a oe4 (X.pn ++ pins)).run [] _ σ H _ S4 (yes rfl)) (fun f s6 got => ?_) (fun _ _ z => False.elim z)
    cases f with
    | ret u => obtain ⟨v, σ6, H6, S6, r, z⟩ := got; exact ⟨v, σ6, H6, S6.unsuite ok, r, z⟩
    | next => obtain ⟨σ6, H6, S6, z⟩ := got; exact ⟨σ6, H6, S6.unsuite ok, z⟩
    | brk => obtain ⟨σ6, H6, S6, z⟩ := got; exact ⟨σ6, H6, S6.unsuite ok, z⟩
    | cont => obtain ⟨σ6, H6, S6, z⟩ := got; exact ⟨σ6, H6, S6.unsuite ok, z⟩
end Ask

/-! o.f as a target among several -/
namespace Ask
open PySem PySem.Spec PyProof.Rows L2
def gFld (K : PySem.W.Frag) (to : TE) (f : Str) : TG := fun y σ H Q => to σ H fun x H2 => ∃ a C dx fs, x = .ref a ∧ H2 a = some (.ins C dx fs) ∧ Cls K C ∧ NoAttr K C f ∧ fs.length < 1000 ∧ Q σ (upd H2 a (.ins C dx (putF f y fs)))
theorem pg_fld {X : Cx} {o : Expr} {f : Str} {pos : Pos} {to : TE} (ho : PE X o to) : PG X (.Attribute o f pos) (gFld X.K to f) := by
  refine ⟨fun pins s σ H v u Q I r h => ?_⟩
  rw [assign_Attribute]
  refine wpAny_bind (wpAny_holding (thn (ho.run pins s σ H _ I h) fun ov s1 ⟨x, H1, I1, r1, a, C, dx, fs, ex, ea, c, n, l, q⟩ => ?_))
  subst ex
  obtain rfl : ov = Value.ref a := r1
  refine wpAny_bind (wpAny_standAt (wpAny_bind (wpAny_holding ?_)))
  exact setattr_ok I1 ea c n l r fun s3 I3 => wpAny_release ⟨σ, _, I3, q⟩
end Ask

namespace Ask
open PySem L2
theorem inW_any {H : Hp} {x : V} {ys : List Str} {b : Bool} (h : InW H x ys b) : Any1 H x := by
  rcases h with ⟨h, _⟩ | ⟨_, h⟩
  · exact .inl h
  · exact .inr h
theorem inW_ne {H : Hp} {x : V} {ys : List Str} {y : Str} (h : InW H x ys false) (hy : y ∈ ys) : V.str y ≠ x := by
  rcases h with ⟨_, h⟩ | ⟨_, d, rfl, _⟩
  · rintro rfl
    have e := in_mem hy
    rw [e] at h
    cases h
  · intro z
    cases z
section
variable {P : Program} {w : World} {K : PySem.W.Frag} {mg : Str → Option Value} {base : Heap}
abbrev s_BadLetter_init : Stmt := inClass (top 12) 0
theorem sc_BadLetter_init : FnScope ["self", "index"] ["self", "index"] (defScope s_BadLetter_init) := ⟨rfl, rfl, rfl, by decide +kernel, rfl, by decide +kernel, by decide +kernel⟩
theorem ok_initBadLetter {f fC C : Addr} {fd fdC : FuncData} (F : Fun K "__init__" "BadLetter.__init__" s_BadLetter_init f fd) (T : OexC K C) (h1 : PySem.W.findIn K (.ref C) "index" = some none)
    (GC : FnOk P w K mg base CX0 1 fC fdC ["value"] spCopy) (CP : At K mg "copied" fC fdC ["value"]) : FnOk P w K mg base CX0 2 f fd ["self", "index"] (spErr C okBad fsBad) := by
  refine F.ok sc_BadLetter_init (fun vs H Q E h => ?_) (fun cdv A outer s H vs Q E hr h => ?_)
  · obtain ⟨a, ws, rfl, ⟨i, rfl⟩, _⟩ := h
    rfl
  · obtain ⟨a, ws, rfl, ⟨i, rfl⟩, ha, k⟩ := h
    refine ⟨_, pss_one (ps_ost (pv 0) (pe_call GC hr (by rfl) CP.m CP.k CP.b .nil pass0 (pa_cons (pv 1) pa_nil))), ?_⟩
    refine ⟨_, rfl, _, rfl, .inl ⟨i, rfl⟩, _, rfl, a, C, rfl, T, h1, .inl ⟨ha, fun dx hdx hne => ?_⟩⟩
    refine k _ dx hdx hne upd_same (by rw [upd_ne hne]; exact upd_same) fun b o hb e => ?_
    rw [upd_ne hb, upd_ne (ne_of_none e hdx)]
    exact e
theorem ok_rank {f fE CL CE : Addr} {fd fdE : FuncData} (F : Fun K "rank" "Letters.rank" s_Rank f fd) (T : Blt mg) (hC : Cls K CL) (hA : NoAttr K CL "words")
    (FE : FnOk P w K mg base CX0 2 fE fdE ["self", "index"] (spErr CE okBad fsBad)) (EE : ErrAt K mg "BadLetter" CE fE fdE ["self", "index"]) :
    FnOk P w K mg base (L2.CX P w) 4 f fd ["self", "x"] (spRank CL CE) := by
  refine F.okX sc_Rank (fun vs H Q E h => ?_) (fun cdv A outer s H vs Q E hr h => ?_)
  · obtain ⟨p, t, ys, x, rfl, _⟩ := h
    rfl
  · obtain ⟨p, t, ys, x, rfl, ⟨dx, ob, hp, ht, hob⟩, nd, h⟩ := h
    refine ⟨_, (pss_cons (ps_for (passes_of rfl) rfl (pi_enumA (by rfl) T.n_enumerate (pa_cons (pe_fld (pv 0) rfl) pa_nil)) (pg_tup rfl (pgs_cons (pg_name (i := 2) sc_Rank.nd rfl (Or.inl rfl)) (pgs_cons (pg_name (i := 3) sc_Rank.nd rfl (Or.inl rfl)) pgs_nil)))
        (pss_one (ps_if (pt_cmpR (op_eqW hr.units0) (pv 3) (pv 1) (nomark _)) (pss_one (ps_ret (pv 2))) pss_nil)))
      (pss_one (ps_raise rfl (takes_of rfl rfl rfl rfl) (pmk_oex EE.o EE.i EE.t FE hr EE.b .nil pass0 (by rfl) EE.m (pa_cons pe_int pa_nil))))), ?_⟩
    have hq : SqT K H t (ys.map V.str) := .inl (.inr ⟨ob, ht⟩)
    have hx : Any1 H x := by
      rcases h with ⟨i0, z, rfl, hi, k⟩ | ⟨hw, k⟩
      · exact .inl rfl
      · exact inW_any hw
    have hn : (ys.map V.str).length = ys.length := List.length_map ..
    refine for_enum (fun R r => ⟨_, rfl, p, CL, dx, _, _, rfl, hp, hC, hA, rfl, t, _, rfl, .inr ⟨hq, r⟩⟩) walk_enumT
      (fun i σ' H' => (∀ (j : Nat) (y : Str), j < i → ys[j]? = some y → V.str y ≠ x) ∧ ∃ o2 o3 : Option V, σ' = [some (.ref p), some x, o2, o3] ∧ Same H H')
      ⟨fun j y hj => absurd hj (Nat.not_lt_zero j), none, none, rfl, Same.refl H⟩ (fun i σ' H' _ ⟨_, _, _, _, s'⟩ => seqT_same s' hq) ?_ ?_
    · rintro i e σ' H2 H3 hi ⟨hne, o2, o3, rfl, s2⟩ ⟨t2, x0, y0, rfl, ht2, rfl, ex, ey⟩
      cases ex
      rw [hn] at hi
      obtain ⟨y, hy⟩ : ∃ y, ys[i]? = some y := ⟨_, List.getElem?_eq_getElem hi⟩
      replace ey : (ys.map V.str)[i]? = some y0 := ey
      rw [List.getElem?_map, hy] at ey
      injection ey with ey
      subst ey
      have s3 := Ask.Same.made1 (o := .tup [.int (i : Nat), .str y]) s2 ht2
      have ht3 : upd H2 t2 (.tup [.int (i : Nat), .str y]) t2 = some (.tup [.int (i : Nat), .str y]) := upd_same
      generalize upd H2 t2 (.tup [.int (i : Nat), .str y]) = H4 at s3 ht3 ⊢
      refine ⟨t2, _, rfl, SqT.of ht3, rfl, _, _, rfl, _, _, rfl, rfl, ?_⟩
      refine ⟨_, rfl, _, rfl, y, rfl, hx.same s3, _, rfl, ite2 (fun hd => ?_) (fun hd => ?_)⟩
      · have hd : V.str y = x := of_decide_eq_true hd
        subst hd
        rcases h with ⟨i0, z, hz, hi0, k⟩ | ⟨hw, k⟩
        · injection hz with hz
          subst hz
          obtain rfl : i = i0 := (List.getElem?_inj hi nd).mp (hy.trans hi0.symm)
          exact ⟨_, rfl, k _ s3⟩
        · exact absurd rfl (inW_ne hw (List.mem_of_getElem? hy))
      · have hd : V.str y ≠ x := fun q => hd (decide_eq_true q)
        refine ⟨fun j z hj hz => ?_, _, _, rfl, s3⟩
        rcases Nat.lt_succ_iff_lt_or_eq.mp hj with hj | rfl
        · exact hne j z hj hz
        · rw [hy] at hz
          injection hz with hz
          subst hz
          exact hd
    · rintro σ' H' ⟨hne, o2, o3, rfl, s'⟩
      rw [hn] at hne
      rcases h with ⟨i0, z, rfl, hi0, k⟩ | ⟨hw, k⟩
      · exact absurd rfl (hne i0 z (List.getElem?_eq_some_iff.mp hi0).1 hi0)
      · exact err_made s' ⟨_, rfl⟩ (by show 1 ≤ 1000; decide) (fun H' d s' e => k H' d s' e)
end
end Ask

namespace Ask
open PySem L2
open PySem.SeqAt (notIn_tupleAt EqAt)
section
variable {X : Cx}
theorem op_notInW (hu : X.A.units + 1 < cLine) : OpR X (compareOp .NotIn) (fun x y H Q => ∃ (p : Addr) (ys : List Str) (b : Bool), y = .ref p ∧ SqT X.K H p (ys.map V.str) ∧ InW H x ys b ∧ Q (.bl (!b)) H) := by
  intro pins s σ H x y v u Q I rx ry h
  obtain ⟨p, ys, b, rfl, hq, hw, q⟩ := h
  rcases hw with ⟨fx, rfl⟩ | ⟨rfl, d, rfl, hd⟩
  · refine op_notIn_seq pins s σ H x (.ref p) v u Q I rx ry ⟨p, _, rfl, .inr hq, fx, ?_, q⟩
    rw [List.all_eq_true]
    intro y hy
    obtain ⟨z, _, rfl⟩ := List.mem_map.mp hy
    rfl
  · cases rx
    cases ry
    obtain ⟨its, r, pl, hz⟩ := I.tuple hq
    have at_ : ∀ (y : Str) (t : Tok), EqAt X.A.in1 s (.str y t) (.ref d) false := fun y t => by
      rcases hd with ⟨kvs, hd⟩ | ⟨xs, hd⟩ | ⟨xs, hd⟩
      · obtain ⟨_, _, vs, _, o, es, ep, ho, hx, hdd, _⟩ := I.hok d _ hd
        exact eqAt_sd y t ho hx.1 hdd hu
      · obtain ⟨its2, r2, pl2, _⟩ := I.list (.inl (.inl hd))
        exact PySem.SeqAt.EqAt.str_list y t pl2.isList hu
      · obtain ⟨its2, r2, pl2, _⟩ := I.tuple (.inl (.inl hd))
        exact PySem.SeqAt.EqAt.str_tuple y t pl2 hu
    refine notIn_tupleAt (fun _ => false) pl (fun w hw => strs_eqAtR at_ ys _ r w (by simpa using hw)) ⟨.bl true, H, I, ?_, q⟩
    show Value.bool _ = Value.bool true
    simp
end
theorem inV_str (z : Str) (ys : List Str) : inV (.str z) (ys.map V.str) = decide (z ∈ ys) := by
  by_cases h : z ∈ ys
  · rw [in_mem h, decide_eq_true h]
  · rw [decide_eq_false h]
    unfold inV
    rw [List.any_eq_false]
    intro y hy
    obtain ⟨x, hx, rfl⟩ := List.mem_map.mp hy
    intro e
    have e : decide (x = z) = true := e
    exact h (of_decide_eq_true e ▸ hx)
theorem inV_other {x : V} (h : ∀ z, eqV (.str z) x = false) (ys : List Str) : inV x (ys.map V.str) = false := by
  unfold inV
  rw [List.any_eq_false]
  intro y hy
  obtain ⟨z, hz, rfl⟩ := List.mem_map.mp hy
  rw [h z]
  exact Bool.false_ne_true
/-- a value of the law's: flat, or a list, a tuple, a dict -/
def Val (p : Addr) (H : Hp) (v : V) : Prop := flatV v = true ∨ ∃ d, v = .ref d ∧ d ≠ p ∧ ((∃ kvs, H d = some (.dK kvs)) ∨ (∃ xs, H d = some (.lst xs)) ∨ (∃ xs, H d = some (.tup xs)))
def inB (ys : List Str) : V → Bool
  | .str z => decide (z ∈ ys)
  | _ => false
def isN : V → Bool
  | .non => true
  | _ => false
section
variable {p : Addr} {H H' : Hp} {v : V} {ys : List Str} {K : PySem.W.Frag}
theorem Val.kp (h : Val p H v) (k : Kp p H H') : Val p H' v := by
  rcases h with h | ⟨d, e, n, h⟩
  · exact .inl h
  · refine .inr ⟨d, e, n, ?_⟩
    rcases h with ⟨z, h⟩ | ⟨z, h⟩ | ⟨z, h⟩
    · exact .inl ⟨z, k _ _ n h⟩
    · exact .inr (.inl ⟨z, k _ _ n h⟩)
    · exact .inr (.inr ⟨z, k _ _ n h⟩)
theorem Val.same (h : Val p H v) (s : Same H H') : Val p H' v := h.kp (Kp.of s)
theorem Val.inw (h : Val p H v) (ys : List Str) : InW H v ys (inB ys v) := by
  rcases h with h | ⟨d, rfl, n, h⟩
  · cases v with
    | str z => exact .inl ⟨rfl, (inV_str z ys).symm⟩
    | non => exact .inl ⟨rfl, (inV_other (fun _ => rfl) ys).symm⟩
    | bl b => exact .inl ⟨rfl, (inV_other (fun _ => rfl) ys).symm⟩
    | int i => exact .inl ⟨rfl, (inV_other (fun _ => rfl) ys).symm⟩
    | _ => cases h
  · exact .inr ⟨rfl, d, rfl, h⟩
/-- what isinstance(v, str) tells -/
theorem Val.isi (h : Val p H v) : ∃ ty b, TyX K H v ty ∧ PySem.W.kitOne K ty (.type "str") = some b ∧ (b = true → ∃ z, v = .str z) ∧ (b = false → ∀ ys, inB ys v = false) := by
  rcases h with h | ⟨d, rfl, n, ⟨z, h⟩ | ⟨z, h⟩ | ⟨z, h⟩⟩
  · cases v with
    | str z => exact ⟨.type "str", true, .base (.str z), kit_ty (by decide +kernel), fun _ => ⟨z, rfl⟩, fun h => by cases h⟩
    | non => exact ⟨.type "NoneType", false, .base .non, kit_ty (by decide +kernel), fun h => (by cases h), fun _ _ => rfl⟩
    | bl b => exact ⟨.type "bool", false, .base (.bl b), kit_ty (by decide +kernel), fun h => (by cases h), fun _ _ => rfl⟩
    | int i => exact ⟨.type "int", false, .base (.int i), kit_ty (by decide +kernel), fun h => (by cases h), fun _ _ => rfl⟩
    | _ => cases h
  · exact ⟨.type "dict", false, .base (.dK h), kit_ty (by decide +kernel), fun h => (by cases h), fun _ _ => rfl⟩
  · exact ⟨.type "list", false, ty_list (SqL.of h), kit_ty (by decide +kernel), fun h => (by cases h), fun _ _ => rfl⟩
  · exact ⟨.type "tuple", false, ty_tup (SqT.of h), kit_ty (by decide +kernel), fun h => (by cases h), fun _ _ => rfl⟩
theorem inB_some (h : inB ys v = true) : ∃ z, v = .str z ∧ z ∈ ys := by
  cases v with
  | str z => exact ⟨z, rfl, of_decide_eq_true h⟩
  | _ => cases h
end
def KL : List Str := ["idle", "kept", "still", "over", "undone", "alike"]
def LK : List Str := ["idle", "still"]
/-- the constants of sentences -/
structure GvK (K : PySem.W.Frag) (mg : Str → Option Value) : Prop where
  kinds : ∃ (t : Addr) (u : Value), mg "KINDS" = some u ∧ RelV (.ref t) u ∧ ∀ H, SqT K H t (KL.map V.str)
  lone : ∃ (t : Addr) (u : Value), mg "LONE_KINDS" = some u ∧ RelV (.ref t) u ∧ ∀ H, SqT K H t (LK.map V.str)
section
variable {P : Program} {w : World} {K : PySem.W.Frag} {mg : Str → Option Value} {base : Heap}
/-! ### is_due -/
def spIsDue (CL : Addr) : Sp := fun vs H Q _ => ∃ (m t : Addr) (ys : List Str) (v : V) (h b : Bool), vs = [.ref m, v, .bl h] ∧ Mde CL H m t ys ∧ InW H v ys b ∧ Q (.bl (if h = true then b else decide (v = .non))) H
abbrev s_is_due : Stmt := top 45
theorem sc_is_due : FnScope ["letters", "value", "has_letter"] ["letters", "value", "has_letter"] (defScope s_is_due) := ⟨rfl, rfl, rfl, by decide +kernel, rfl, by decide +kernel, by decide +kernel⟩
theorem ok_isDue {f fH CL : Addr} {fd fdH : FuncData} (F : Fun K "is_due" "is_due" s_is_due f fd)
    (GH : FnOk P w K mg base CX0 1 fH fdH ["self", "x"] (spHas CL)) (bH : Binds K fdH ["self", "x"] []) (hH : PySem.W.findIn K (.ref CL) "__contains__" = some (some (.ref fH))) (iH : PySem.W.isFn K (.ref fH) = true) :
    FnOk P w K mg base CX0 2 f fd ["letters", "value", "has_letter"] (spIsDue CL) := by
  refine F.ok sc_is_due (fun vs H Q E h => ?_) (fun cdv A outer s H vs Q E hr h => ?_)
  · obtain ⟨m, t, ys, v, h, b, rfl, _⟩ := h
    rfl
  · obtain ⟨m, t, ys, v, h, b, rfl, hM, hw, k⟩ := h
    obtain ⟨dx, ob, m1, _⟩ := id hM
    refine ⟨_, (pss_one (ps_ret (pe_ifExp (pt_val (pv 2)) (pe_cmpR (op_inI (C := CL) (E := E0) GH hr bH pass0 hH iH) (pv 1) (pv 0) rfl) (pe_cmpR op_isN (pv 1) pe_non (nomark _))))), ?_⟩
    refine ⟨_, rfl, _, rfl, ?_⟩
    cases h with
    | true => exact iteT ⟨_, rfl, _, rfl, m, dx, _, rfl, m1, m, t, ys, v, b, rfl, hM, hw, b, rfl, k⟩
    | false => exact iteF ⟨_, rfl, rfl, k⟩
/-! ### sides -/
def yOf : V → Str
  | .str y => y
  | _ => ""
def sdL (k x : Str) (s : V) : List Run := if k ∈ LK then [(x, 1)] else if k = "alike" then [(x, 1)] else [(x, 1), (yOf s, 1)]
def sdR (k x : Str) (s : V) : List Run := if k ∈ LK then [] else if k = "alike" then [(yOf s, 1)] else if k = "kept" then [(x, 1)] else if k = "over" then [(yOf s, 1)] else []

def spSides (K : PySem.W.Frag) : Sp := fun vs H Q _ => ∃ (ys : List Str) (k x : Str) (s : V), vs = [.str k, .str x, s, .int 1] ∧ k ∈ KL ∧ x ∈ ys ∧ (k ∉ LK → ∃ y, s = .str y ∧ y ∈ ys) ∧
  ∀ (H' : Hp) (q l r : Addr) (ls rs : List V) (a b : List Run), Same H H' → H' q = some (.tup [.ref l, .ref r]) → SqT K H' l ls → PairsV H' ls a → SqT K H' r rs → PairsV H' rs b → a.length ≤ 2 → b.length ≤ 2 → (∀ z ∈ a, z.1 ∈ ys ∧ z.2 = 1) → (∀ z ∈ b, z.1 ∈ ys ∧ z.2 = 1) → a = sdL k x s → b = sdR k x s → Q (.ref q) H'
abbrev s_sides : Stmt := top 46
theorem sc_sides : FnScope ["kind", "first", "second", "times"] ["kind", "first", "second", "times"] (defScope s_sides) := ⟨rfl, rfl, rfl, by decide +kernel, rfl, by decide +kernel, by decide +kernel⟩
theorem ok_sides {f : Addr} {fd : FuncData} (F : Fun K "sides" "sides" s_sides f fd) (Gk : GvK K mg) : FnOk P w K mg base CX0 1 f fd ["kind", "first", "second", "times"] (spSides K) := by
  refine F.ok sc_sides (fun vs H Q E h => ?_) (fun cdv A outer s H vs Q E hr h => ?_)
  · obtain ⟨ys, k, x, s, rfl, _⟩ := h
    rfl
  · obtain ⟨ys, k, x, s', rfl, hk, hx, hs, Qk⟩ := h
    obtain ⟨tL, uL, mL, rL, sL⟩ := Gk.lone
    refine ⟨_, (pss_cons (ps_if (pt_cmpR op_in_seq (pv 0) (pe_gv (v := .ref tL) rfl ⟨uL, mL, rL⟩) rfl) (pss_one (ps_ret (pe_tup (pa_cons (pe_tup (pa_cons (pe_tup (pa_cons (pv 1) (pa_cons (pv 3) pa_nil))) pa_nil)) (pa_cons (pe_tup pa_nil) pa_nil))))) pss_nil)
      (pss_cons (ps_if (pt_cmpR op_eq (pv 0) pe_str (nomark _)) (pss_one (ps_ret (pe_tup (pa_cons (pe_tup (pa_cons (pe_tup (pa_cons (pv 1) (pa_cons (pv 3) pa_nil))) pa_nil)) (pa_cons (pe_tup (pa_cons (pe_tup (pa_cons (pv 2) (pa_cons (pv 3) pa_nil))) pa_nil)) pa_nil))))) pss_nil)
      (pss_cons (ps_if (pt_cmpR op_eq (pv 0) pe_str (nomark _)) (pss_one (ps_ret (pe_tup (pa_cons (pe_tup (pa_cons (pe_tup (pa_cons (pv 1) (pa_cons pe_int pa_nil))) (pa_cons (pe_tup (pa_cons (pv 2) (pa_cons (pv 3) pa_nil))) pa_nil))) (pa_cons (pe_tup (pa_cons (pe_tup (pa_cons (pv 1) (pa_cons pe_int pa_nil))) pa_nil)) pa_nil))))) pss_nil)
      (pss_cons (ps_if (pt_cmpR op_eq (pv 0) pe_str (nomark _)) (pss_one (ps_ret (pe_tup (pa_cons (pe_tup (pa_cons (pe_tup (pa_cons (pv 1) (pa_cons (pv 3) pa_nil))) (pa_cons (pe_tup (pa_cons (pv 2) (pa_cons pe_int pa_nil))) pa_nil))) (pa_cons (pe_tup (pa_cons (pe_tup (pa_cons (pv 2) (pa_cons pe_int pa_nil))) pa_nil)) pa_nil))))) pss_nil)
      (pss_one (ps_ret (pe_tup (pa_cons (pe_tup (pa_cons (pe_tup (pa_cons (pv 1) (pa_cons (pv 3) pa_nil))) (pa_cons (pe_tup (pa_cons (pv 2) (pa_cons (pv 3) pa_nil))) pa_nil))) (pa_cons (pe_tup pa_nil) pa_nil))))))))), ?_⟩
    have two : (2 : Nat) ≤ sizeLine := by decide
    have one : (1 : Nat) ≤ sizeLine := by decide
    have in1 : ∀ {x : Str}, x ∈ ys → ∀ z ∈ [((x, 1) : Run)], z.1 ∈ ys ∧ z.2 = 1 := fun hx z hz => by
      rw [List.mem_singleton] at hz
      subst hz
      exact ⟨hx, rfl⟩
    have in2 : ∀ {x y : Str}, x ∈ ys → y ∈ ys → ∀ z ∈ [((x, 1) : Run), (y, 1)], z.1 ∈ ys ∧ z.2 = 1 := fun hx hy z hz => by
      rcases List.mem_cons.mp hz with rfl | hz
      · exact ⟨hx, rfl⟩
      · exact in1 hy z hz
    have in0 : ∀ z ∈ ([] : List Run), z.1 ∈ ys ∧ z.2 = 1 := fun z hz => by cases hz
    have mk : ∀ {H1 : Hp} {a : Addr} {o : HO}, H1 a = none → Same H1 (upd H1 a o) := fun h => Ask.Same.made1 (Same.refl _) h
    refine ⟨_, rfl, tL, _, rfl, .inr (sL H), rfl, rfl, _, rfl, ?_⟩
    show (if inV (.str k) (LK.map V.str) = true then _ else _)
    rw [inV_str]
    by_cases lone : k ∈ LK
    · rw [decide_eq_true lone]
      refine iteT ⟨_, rfl, _, rfl, two, fun a1 h1 => ⟨one, fun l hl => ⟨Nat.zero_le _, fun r hr => ⟨two, fun q hq => ?_⟩⟩⟩⟩
      have s1 := (mk (o := HO.tup []) hr).trans (mk (o := HO.tup [.ref l, .ref r]) hq)
      exact Qk _ q l r _ _ _ _ ((mk h1).trans ((mk hl).trans s1)) upd_same (SqT.of (s1 _ _ upd_same)) ((PairsV.one (r := (x, 1)) upd_same).same ((mk hl).trans s1)) (SqT.of (mk hq _ _ upd_same)) PairsV.nil (by show 1 ≤ 2; decide) (by show 0 ≤ 2; decide) (in1 hx) in0 (by unfold sdL; rw [if_pos lone]) (by unfold sdR; rw [if_pos lone])
    rw [decide_eq_false lone]
    refine iteF ?_
    obtain ⟨y, rfl, hy⟩ := hs lone
    refine ⟨_, rfl, rfl, _, rfl, ite2 (fun qA => ?_) (fun nA => ?_)⟩
    · refine ⟨_, rfl, _, rfl, two, fun a1 h1 => ⟨one, fun l hl => ⟨_, rfl, _, rfl, two, fun a2 h2 => ⟨one, fun r hr => ⟨two, fun q hq => ?_⟩⟩⟩⟩⟩
      have s1 := (mk (o := HO.tup [.ref a2]) hr).trans (mk (o := HO.tup [.ref l, .ref r]) hq)
      have s2 := (mk (o := HO.tup [.str y, .int 1]) h2).trans s1
      exact Qk _ q l r _ _ _ _ ((mk h1).trans ((mk hl).trans s2)) upd_same (SqT.of (s2 _ _ upd_same)) ((PairsV.one (r := (x, 1)) upd_same).same ((mk hl).trans s2)) (SqT.of (mk hq _ _ upd_same)) ((PairsV.one (r := (y, 1)) upd_same).same s1) (by show 1 ≤ 2; decide) (by show 1 ≤ 2; decide) (in1 hx) (in1 hy) (by unfold sdL; rw [if_neg lone, if_pos (V.str.inj (of_decide_eq_true qA))]) (by unfold sdR; rw [if_neg lone, if_pos (V.str.inj (of_decide_eq_true qA))]; rfl)
    have nA : ¬ k = "alike" := fun z => nA (decide_eq_true (congrArg V.str z))
    refine ⟨_, rfl, rfl, _, rfl, ite2 (fun qB => ?_) (fun nB => ?_)⟩
    · refine ⟨_, rfl, two, fun a1 h1 => ⟨_, rfl, _, rfl, two, fun a2 h2 => ⟨two, fun l hl => ⟨_, rfl, two, fun a3 h3 => ⟨one, fun r hr => ⟨two, fun q hq => ?_⟩⟩⟩⟩⟩⟩
      have s1 := (mk (o := HO.tup [.ref a3]) hr).trans (mk (o := HO.tup [.ref l, .ref r]) hq)
      have s2 := (mk (o := HO.tup [.str x, .int 1]) h3).trans s1
      have s3 := (mk (o := HO.tup [.ref a1, .ref a2]) hl).trans s2
      have s4 := (mk (o := HO.tup [.str y, .int 1]) h2).trans s3
      exact Qk _ q l r _ _ _ _ ((mk h1).trans s4) upd_same (SqT.of (s2 _ _ upd_same)) (((PairsV.one (r := (x, 1)) upd_same).same s4).cat ((PairsV.one (r := (y, 1)) upd_same).same s3)) (SqT.of (mk hq _ _ upd_same)) ((PairsV.one (r := (x, 1)) upd_same).same s1) (by show 2 ≤ 2; decide) (by show 1 ≤ 2; decide) (in2 hx hy) (in1 hx) (by unfold sdL; rw [if_neg lone, if_neg nA]; rfl) (by unfold sdR; rw [if_neg lone, if_neg nA, if_pos (V.str.inj (of_decide_eq_true qB))])
    have nB : ¬ k = "kept" := fun z => nB (decide_eq_true (congrArg V.str z))
    refine ⟨_, rfl, rfl, _, rfl, ite2 (fun qC => ?_) (fun nC => ?_)⟩
    · refine ⟨_, rfl, _, rfl, two, fun a1 h1 => ⟨_, rfl, two, fun a2 h2 => ⟨two, fun l hl => ⟨_, rfl, two, fun a3 h3 => ⟨one, fun r hr => ⟨two, fun q hq => ?_⟩⟩⟩⟩⟩⟩
      have s1 := (mk (o := HO.tup [.ref a3]) hr).trans (mk (o := HO.tup [.ref l, .ref r]) hq)
      have s2 := (mk (o := HO.tup [.str y, .int 1]) h3).trans s1
      have s3 := (mk (o := HO.tup [.ref a1, .ref a2]) hl).trans s2
      have s4 := (mk (o := HO.tup [.str y, .int 1]) h2).trans s3
      exact Qk _ q l r _ _ _ _ ((mk h1).trans s4) upd_same (SqT.of (s2 _ _ upd_same)) (((PairsV.one (r := (x, 1)) upd_same).same s4).cat ((PairsV.one (r := (y, 1)) upd_same).same s3)) (SqT.of (mk hq _ _ upd_same)) ((PairsV.one (r := (y, 1)) upd_same).same s1) (by show 2 ≤ 2; decide) (by show 1 ≤ 2; decide) (in2 hx hy) (in1 hy) (by unfold sdL; rw [if_neg lone, if_neg nA]; rfl) (by unfold sdR; rw [if_neg lone, if_neg nA, if_neg nB, if_pos (V.str.inj (of_decide_eq_true qC))]; rfl)
    · refine ⟨_, rfl, _, rfl, two, fun a1 h1 => ⟨_, rfl, _, rfl, two, fun a2 h2 => ⟨two, fun l hl => ⟨Nat.zero_le _, fun r hr => ⟨two, fun q hq => ?_⟩⟩⟩⟩⟩
      have s1 := (mk (o := HO.tup []) hr).trans (mk (o := HO.tup [.ref l, .ref r]) hq)
      have s3 := (mk (o := HO.tup [.ref a1, .ref a2]) hl).trans s1
      have s4 := (mk (o := HO.tup [.str y, .int 1]) h2).trans s3
      exact Qk _ q l r _ _ _ _ ((mk h1).trans s4) upd_same (SqT.of (s1 _ _ upd_same)) (((PairsV.one (r := (x, 1)) upd_same).same s4).cat ((PairsV.one (r := (y, 1)) upd_same).same s3)) (SqT.of (mk hq _ _ upd_same)) PairsV.nil (by show 2 ≤ 2; decide) (by show 0 ≤ 2; decide) (in2 hx hy) in0 (by unfold sdL; rw [if_neg lone, if_neg nA]; rfl) (by unfold sdR; rw [if_neg lone, if_neg nA, if_neg nB, if_neg (fun z => nC (decide_eq_true (congrArg V.str z)))])
end
end Ask

namespace Ask
open PySem L2
def ixOf : List Str → Str → Nat
  | [], _ => 0
  | y :: ys, x => if y = x then 0 else ixOf ys x + 1
theorem ixOf_at : ∀ {ys : List Str} {x : Str}, x ∈ ys → ys[ixOf ys x]? = some x ∧ ∀ m < ixOf ys x, ys[m]? ≠ some x
  | [], _, h => by cases h
  | y :: ys, x, h => by
    unfold ixOf
    by_cases e : y = x
    · rw [if_pos e]
      exact ⟨congrArg some e, fun m hm => absurd hm (Nat.not_lt_zero _)⟩
    · rw [if_neg e]
      have h' : x ∈ ys := by
        rcases List.mem_cons.mp h with h | h
        · exact absurd h.symm e
        · exact h
      obtain ⟨h1, h2⟩ := ixOf_at h'
      refine ⟨h1, fun m hm => ?_⟩
      cases m with
      | zero => exact fun z => e (Option.some.inj z)
      | succ m => exact h2 m (Nat.lt_of_succ_lt_succ hm)
/-- whether x stands ahead of s -/
def ahead (ys : List Str) (x : Str) : V → Bool
  | .str y => decide (ixOf ys x < ixOf ys y)
  | _ => false
/-- the one form -/
def nfT (ys : List Str) (k x : Str) (s : V) : List V := if k = "over" ∧ V.str x = s then [.str "kept", .str x, s] else if k = "alike" ∧ ahead ys x s = true then [.str k, s, .str x] else [.str k, .str x, s]
section
variable {P : Program} {w : World} {K : PySem.W.Frag} {mg : Str → Option Value} {base : Heap}
/-! ### one_form -/
def spForm (CL : Addr) : Sp := fun vs H Q _ => ∃ (m t : Addr) (ys : List Str) (k x : Str) (s : V), vs = [.ref m, .str k, .str x, s] ∧ Mde CL H m t ys ∧ ys.Nodup ∧ x ∈ ys ∧ (k ∉ LK → ∃ y, s = .str y ∧ y ∈ ys) ∧ (k ∈ LK → s = .non) ∧
  ∀ (H' : Hp) (q : Addr), Same H H' → H' q = some (.tup (nfT ys k x s)) → Q (.ref q) H'
abbrev s_one_form : Stmt := top 47
theorem sc_one_form : FnScope ["letters", "kind", "first", "second"] ["letters", "kind", "first", "second"] (defScope s_one_form) := ⟨rfl, rfl, rfl, by decide +kernel, rfl, by decide +kernel, by decide +kernel⟩
theorem ok_form {f fR CL CE : Addr} {fd fdR : FuncData} (F : Fun K "one_form" "one_form" s_one_form f fd) (hC : Cls K CL) (mR : Meth K CL "rank" fR) (bR : Binds K fdR ["self", "x"] []) (GR : FnOk P w K mg base (L2.CX P w) 4 fR fdR ["self", "x"] (spRank CL CE)) :
    FnOk P w K mg base CX0 5 f fd ["letters", "kind", "first", "second"] (spForm CL) := by
  refine F.ok sc_one_form (fun vs H Q E h => ?_) (fun cdv A outer s H vs Q E hr h => ?_)
  · obtain ⟨m, t, ys, k, x, s, rfl, _⟩ := h
    rfl
  · obtain ⟨m, t, ys, k, x, s', rfl, hM, nd, hx, hs1, hs2, kq⟩ := h
    refine ⟨_, (pss_cons (ps_if (PW.pt (pw_and (pt_cmpR op_eq (pv 1) pe_str (nomark _)) (pw_and1 (pt_cmpR op_eq (pv 2) (pv 3) (nomark _))))) (pss_one (ps_ret (pe_tup (pa_cons pe_str (pa_cons (pv 2) (pa_cons (pv 3) pa_nil)))))) pss_nil)
      (pss_cons (ps_if (PW.pt (pw_and (pt_cmpR op_eq (pv 1) pe_str (nomark _)) (pw_and1 (pt_cmpR op_lt (pe_meth (pv 0) hC mR GR hr bR .nil passE (pa_cons (pv 2) pa_nil)) (pe_meth (pv 0) hC mR GR hr bR .nil passE (pa_cons (pv 3) pa_nil)) (nomark _))))) (pss_one (ps_ret (pe_tup (pa_cons (pv 1) (pa_cons (pv 3) (pa_cons (pv 2) pa_nil)))))) pss_nil)
      (pss_one (ps_ret (pe_tup (pa_cons (pv 1) (pa_cons (pv 2) (pa_cons (pv 3) pa_nil)))))))), ?_⟩
    obtain ⟨dx, ob, m1, _⟩ := id hM
    have sc : scal (.str x) s' = true := by
      by_cases l : k ∈ LK
      · rw [hs2 l]; rfl
      · obtain ⟨y, rfl, _⟩ := hs1 l; rfl
    have three : (3 : Nat) ≤ sizeLine := by decide
    -- behind the first look
    have rest : ¬ (k = "over" ∧ V.str x = s') → ∀ (tt : TS), True → True := fun _ _ _ => trivial
    refine ⟨_, rfl, rfl, _, rfl, ite2 (fun q1 => ?_) (fun q1 => ?_)⟩
    · have q1 : k = "over" := V.str.inj (of_decide_eq_true q1)
      refine ⟨_, rfl, _, rfl, sc, _, rfl, ite2 (fun q2 => ?_) (fun q2 => ?_)⟩
      · have q2 := of_decide_eq_true q2
        exact ⟨_, rfl, _, rfl, three, fun q hq => kq _ q (Ask.Same.made1 (Same.refl H) hq) (by unfold nfT; rw [if_pos ⟨q1, q2⟩]; exact upd_same)⟩
      · have q2 : ¬ V.str x = s' := fun z => q2 (decide_eq_true z)
        have n2 : ¬ k = "alike" := by rw [q1]; decide
        refine ⟨_, rfl, rfl, _, rfl, ?_⟩
        rw [decide_eq_false (fun z => n2 (V.str.inj z))]
        refine iteF ⟨_, rfl, _, rfl, _, rfl, three, fun q hq => kq _ q (Ask.Same.made1 (Same.refl H) hq) (by unfold nfT; rw [if_neg (fun z => q2 z.2), if_neg (fun z => n2 z.1)]; exact upd_same)⟩
    · have q1 : ¬ k = "over" := fun z => q1 (decide_eq_true (congrArg V.str z))
      refine ⟨_, rfl, rfl, _, rfl, ite2 (fun q2 => ?_) (fun q2 => ?_)⟩
      · have q2 : k = "alike" := V.str.inj (of_decide_eq_true q2)
        obtain ⟨y, rfl, hy⟩ := hs1 (by rw [q2]; decide)
        refine ⟨_, rfl, m, dx, _, rfl, m1, rfl, _, rfl, m, t, ys, _, rfl, hM, nd, .inl ⟨ixOf ys x, x, rfl, (ixOf_at hx).1, fun H2 s2 => ?_⟩⟩
        refine ⟨_, rfl, m, dx, _, rfl, s2 _ _ m1, rfl, _, rfl, m, t, ys, _, rfl, hM.same s2, nd, .inl ⟨ixOf ys y, y, rfl, (ixOf_at hy).1, fun H3 s3 => ?_⟩⟩
        refine ⟨_, _, rfl, rfl, _, rfl, ite2 (fun q3 => ?_) (fun q3 => ?_)⟩
        · have q3 : (ixOf ys x : Int) < (ixOf ys y : Int) := of_decide_eq_true q3
          exact ⟨_, rfl, _, rfl, _, rfl, three, fun q hq => kq _ q (Ask.Same.made1 (s2.trans s3) hq) (by unfold nfT; rw [if_neg (fun z => q1 z.1), if_pos ⟨q2, decide_eq_true (by omega)⟩]; exact upd_same)⟩
        · have q3 : ¬ (ixOf ys x : Int) < (ixOf ys y : Int) := fun z => q3 (decide_eq_true z)
          exact ⟨_, rfl, _, rfl, _, rfl, three, fun q hq => kq _ q (Ask.Same.made1 (s2.trans s3) hq) (by unfold nfT; rw [if_neg (fun z => q1 z.1), if_neg (fun z => by have := of_decide_eq_true z.2; omega)]; exact upd_same)⟩
      · have q2 : ¬ k = "alike" := fun z => q2 (decide_eq_true (congrArg V.str z))
        exact ⟨_, rfl, _, rfl, _, rfl, three, fun q hq => kq _ q (Ask.Same.made1 (Same.refl H) hq) (by unfold nfT; rw [if_neg (fun z => q1 z.1), if_neg (fun z => q2 z.1)]; exact upd_same)⟩
end
end Ask

namespace Ask
open PySem L2
/-- what stands but at p -/
def But (p : Addr) (H H' : Hp) : Prop := ∀ b o, b ≠ p → H b = some o → H' b = some o
theorem But.same {p : Addr} {H H1 H2 : Hp} (k : But p H H1) (s : Same H1 H2) : But p H H2 := fun b o n e => s _ _ (k b o n e)
theorem But.upd {p : Addr} {H H1 : Hp} {o : HO} (k : But p H H1) : But p H (upd H1 p o) := fun b u n e => by rw [upd_ne n]; exact k b u n e
/-- what comes of a sentence: 0 the kind, 1 and 2 the letters, 3 nothing said, 4 a sentence -/
def outS (ys : List Str) (kd f s : V) : Nat := if inB KL kd = false then 0 else if inB ys f = false then 1 else if (if inB LK kd = true then isN s else inB ys s) = false then 2 else if kd = .str "alike" ∧ f = s then 3 else 4
/-- where a sentence's sides begin -/
def bgR (k : Str) : Str := if k = "still" then "new" else "found"
theorem HistAt.but {K : PySem.W.Frag} {CL CH C p dx q : Addr} {H H' : Hp} {ys : List Str} {b : Str} {rs : List Run} {fs : List (Str × V)} (h : HistAt K CL CH H q ys b rs) (k : But p H H') (hp : H p = some (.ins C dx fs)) (n1 : ∀ m c b rs, fs ≠ hf m c b rs := by intro m c b rs z; cases z) (n2 : ∀ t, fs ≠ ([("words", V.ref t)] : List (Str × V)) := by intro t z; cases z) : HistAt K CL CH H' q ys b rs := by
  obtain ⟨dx', m, t, c, ks, h1, h2, h3, h4⟩ := h
  refine ⟨dx', m, t, c, ks, k _ _ (ne_of h1 hp ?_) h1, h2.but k hp (n2 t), seqT_but h3 k hp, h4.but k hp⟩
  intro z
  injection z with z1 z2 z3
  exact n1 m c b rs z3.symm
/-- the attributes that a sentence is given -/
structure SnC (K : PySem.W.Frag) (C : Addr) : Prop where
  c : Cls K C
  a1 : NoAttr K C "letters"
  a2 : NoAttr K C "kind"
  a3 : NoAttr K C "first"
  a4 : NoAttr K C "second"
section
variable {P : Program} {w : World} {K : PySem.W.Frag} {mg : Str → Option Value} {base : Heap} {CL CB CM CH : Addr} {H : Hp} {a m t : Addr} {ys : List Str} {b : Str} {xs : List V} {rs : List Run} {Q : VK} {E : XK}
end
section
variable {P : Program} {w : World} {K : PySem.W.Frag} {mg : Str → Option Value} {base : Heap}
def spSen (K : PySem.W.Frag) (CL CS CK CT CN : Addr) : Sp := fun vs H Q E => ∃ (p dx m t pp : Addr) (kd f s : V) (ys : List Str), vs = [.ref p, .ref m, kd, f, s] ∧ H p = some (.ins CS dx []) ∧ Mde CL H m t ys ∧ ys.Nodup ∧ Val pp H kd ∧ Val pp H f ∧ Val pp H s ∧
  (outS ys kd f s = 0 → E (.ref CK) none H) ∧
  (∀ i : Nat, outS ys kd f s = i + 1 → i ≤ 1 → ∀ (H' : Hp) (d : Addr), Same H H' → H' d = some (.xd (fsBad [.int (i : Nat)])) → E (.ref CT) (some d) H') ∧
  (outS ys kd f s = 3 → E (.ref CN) none H) ∧
  (outS ys kd f s = 4 → ∀ (k x : Str), kd = .str k → f = .str x → k ∈ KL → x ∈ ys → (k ∉ LK → ∃ y, s = .str y ∧ y ∈ ys) → (k ∈ LK → s = .non) → ∀ (H' : Hp) (k' x' : Str) (s' : V), H' p = some (.ins CS dx [("letters", .ref m), ("kind", .str k'), ("first", .str x'), ("second", s')]) → But p H H' → nfT ys k x s = [.str k', .str x', s'] → Q .non H')
abbrev s_Sen_init : Stmt := inClass (top 49) 0
theorem sc_Sen_init : FnScope ["self", "letters", "kind", "first", "second"] ["self", "letters", "kind", "first", "second"] (defScope s_Sen_init) := ⟨rfl, rfl, rfl, by decide +kernel, rfl, by decide +kernel, by decide +kernel⟩
theorem nfT_three (ys : List Str) (k x : Str) (s : V) : ∃ a b c, nfT ys k x s = [a, b, c] := by
  unfold nfT
  split
  · exact ⟨_, _, _, rfl⟩
  · split
    · exact ⟨_, _, _, rfl⟩
    · exact ⟨_, _, _, rfl⟩
/-- what the one form is, where the parts are right -/
theorem nfT_ok {ys : List Str} {k x : Str} {s : V} (hk : k ∈ KL) (hx : x ∈ ys) (h1 : k ∉ LK → ∃ y, s = .str y ∧ y ∈ ys) (h2 : k ∈ LK → s = .non) :
    ∃ (k' x' : Str) (s' : V), nfT ys k x s = [.str k', .str x', s'] ∧ k' ∈ KL ∧ x' ∈ ys ∧ (k' ∉ LK → ∃ y, s' = .str y ∧ y ∈ ys) ∧ (k' ∈ LK → s' = .non) := by
  unfold nfT
  split
  · rename_i h
    refine ⟨"kept", x, s, rfl, by decide, hx, fun _ => ⟨x, h.2.symm, hx⟩, fun z => absurd z (by decide)⟩
  · split
    · rename_i _ h
      obtain ⟨y, rfl, hy⟩ := h1 (by rw [h.1]; decide)
      exact ⟨k, y, .str x, rfl, hk, hy, fun _ => ⟨x, rfl, hx⟩, fun z => by rw [h.1] at z; exact absurd z (by decide)⟩
    · exact ⟨k, x, s, rfl, hk, hx, h1, h2⟩
theorem joinR_small {rs : List Run} (h : rs.length ≤ 2) : (joinR rs).length ≤ 400 := by
  have := joinR_len rs
  omega
theorem ok_senInit {dvs : List V} {f fD fO fT fH CL CS CK CT CN : Addr} {fd fdD fdO fdT fdH : FuncData} (F : FunD K "__init__" "Sentence.__init__" (defArgs s_Sen_init) (defBody s_Sen_init) (defScope s_Sen_init) dvs [] f fd) (hC : SnC K CS) (Gk : GvK K mg)
    (GH : FnOk P w K mg base CX0 1 fH fdH ["self", "x"] (spHas CL)) (bH : Binds K fdH ["self", "x"] []) (hH : PySem.W.findIn K (.ref CL) "__contains__" = some (some (.ref fH))) (iH : PySem.W.isFn K (.ref fH) = true)
    (GD : FnOk P w K mg base CX0 2 fD fdD ["letters", "value", "has_letter"] (spIsDue CL)) (AD : At K mg "is_due" fD fdD ["letters", "value", "has_letter"])
    (GO : FnOk P w K mg base CX0 5 fO fdO ["letters", "kind", "first", "second"] (spForm CL)) (AO : At K mg "one_form" fO fdO ["letters", "kind", "first", "second"])
    (EK : Err0 K mg "BadKind" CK) (EN : Err0 K mg "SaysNothing" CN)
    (GT : FnOk P w K mg base CX0 2 fT fdT ["self", "index"] (spErr CT okBad fsBad)) (ET : ErrAt K mg "BadLetter" CT fT fdT ["self", "index"])  :
    FnOk P w K mg base (L2.CX P w) 7 f fd ["self", "letters", "kind", "first", "second"] (spSen K CL CS CK CT CN) := by
  refine F.ok sc_Sen_init (fun vs H Q E h => ?_) (fun cdv A outer s H vs Q E hr h => ?_)
  · obtain ⟨p, dx, m, t, pp, kd, f, s, ys, rfl, _⟩ := h
    rfl
  · obtain ⟨p, dx, m, t, pp, kd, f, s', ys, rfl, hp, hM, nd, vk, vf, vs, k0, k12, k3, k4⟩ := h
    obtain ⟨tK, uK, mK, rK, sK⟩ := Gk.kinds
    obtain ⟨tL, uL, mL, rL, sL⟩ := Gk.lone
    have hr1 := hr.mono (j := 1) (by decide)
    have hr2 := hr.mono (j := 2) (by decide)
    have hr3 := hr.mono (j := 3) (by decide)
    refine ⟨_, (pss_cons (ps_if (pt_cmpR (op_notInW (hu_of hr)) (pv 2) (pe_gv (v := .ref tK) rfl ⟨uK, mK, rK⟩) rfl) (pss_one (ps_raise rfl (takes_of rfl rfl rfl rfl) (pmk_own0 PySem.F.excBase_ValueError EK.e EK.m EK.k (raises_own EK.b EK.t) (by rfl)))) pss_nil)
      (pss_cons (ps_if (pt_cmpR (op_notInI (C := CL) (E := E0) GH hr1 bH pass0 hH iH) (pv 3) (pv 1) rfl) (pss_one (ps_raise rfl (takes_of rfl rfl rfl rfl) (pmk_oex ET.o ET.i ET.t GT hr3 ET.b .nil pass0 (by rfl) ET.m (pa_cons pe_int pa_nil)))) pss_nil)
      (pss_cons (ps_if (pt_not (pt_val (pe_call GD hr2 (by rfl) AD.m AD.k AD.b .nil pass0 (pa_cons (pv 1) (pa_cons (pv 4) (pa_cons (pe_cmpR op_notIn_seq (pv 2) (pe_gv (v := .ref tL) rfl ⟨uL, mL, rL⟩) rfl) pa_nil)))))) (pss_one (ps_raise rfl (takes_of rfl rfl rfl rfl) (pmk_oex ET.o ET.i ET.t GT hr3 ET.b .nil pass0 (by rfl) ET.m (pa_cons pe_int pa_nil)))) pss_nil)
      (pss_cons (ps_if (PW.pt (pw_and (pt_cmpR op_eq (pv 2) pe_str (nomark _)) (pw_and1 (pt_cmpR op_eq (pv 3) (pv 4) (nomark _))))) (pss_one (ps_raise rfl (takes_of rfl rfl rfl rfl) (pmk_own0 PySem.F.excBase_ValueError EN.e EN.m EN.k (raises_own EN.b EN.t) (by rfl)))) pss_nil)
      (pss_cons (ps_fld (pv 0) (pv 1) rfl)
      (pss_one (ps_asg (pe_call GO (hr.mono (by decide)) (by rfl) AO.m AO.k AO.b .nil pass0 (pa_cons (pv 1) (pa_cons (pv 2) (pa_cons (pv 3) (pa_cons (pv 4) pa_nil))))) (pg_tup rfl (pgs_cons (pg_fld (pv 0)) (pgs_cons (pg_fld (pv 0)) (pgs_cons (pg_fld (pv 0)) pgs_nil))))))))))), ?_⟩
    refine ⟨_, rfl, tK, KL, _, rfl, sK H, vk.inw KL, _, rfl, ?_⟩
    cases bk : inB KL kd with
    | false => exact iteT (k0 (by unfold outS; rw [if_pos bk]))
    | true =>
    refine iteF ?_
    obtain ⟨k, rfl, hk⟩ := inB_some bk
    obtain ⟨dm, ob, m1, _⟩ := id hM
    refine ⟨_, rfl, _, rfl, m, dm, _, rfl, m1, m, t, ys, _, _, rfl, hM, vf.inw ys, _, rfl, _, rfl, ?_⟩
    cases bf : inB ys f with
    | false => exact iteT (err_made (Same.refl H) ⟨_, rfl⟩ (by show 1 ≤ 1000; decide) (fun H' d s' e => k12 0 (by unfold outS; rw [if_neg (by rw [bk]; decide), if_pos bf]) (by decide) H' d s' e))
    | true =>
    refine iteF ?_
    obtain ⟨x, rfl, hx⟩ := inB_some bf
    refine ⟨_, rfl, _, rfl, _, rfl, tL, _, rfl, .inr (sL H), rfl, rfl, m, t, ys, s', _, _, rfl, hM, vs.inw ys, _, rfl, ?_⟩
    have isn : isN s' = decide (s' = V.non) := by
      cases s' <;> first | rfl | exact (decide_eq_false (fun z => by cases z)).symm
    have ec : (if (if true = true then !inV (V.str k) (List.map V.str LK) else inV (V.str k) (List.map V.str LK)) = true then inB ys s' else decide (s' = V.non)) = (if inB LK (.str k) = true then isN s' else inB ys s') := by
      rw [inV_str, isn, if_pos rfl]
      show (if (!decide (k ∈ LK)) = true then _ else _) = (if decide (k ∈ LK) = true then _ else _)
      by_cases l : k ∈ LK
      · rw [decide_eq_true l]; rfl
      · rw [decide_eq_false l]; rfl
    rw [ec]
    cases b2 : (if inB LK (.str k) = true then isN s' else inB ys s') with
    | false => exact iteT (err_made (Same.refl H) ⟨_, rfl⟩ (by show 1 ≤ 1000; decide) (fun H' d s' e => k12 1 (by unfold outS; rw [if_neg (by rw [bk]; decide), if_neg (by rw [bf]; decide), if_pos b2]) (by decide) H' d s' e))
    | true =>
    refine iteF ?_
    have hs1 : k ∉ LK → ∃ y, s' = .str y ∧ y ∈ ys := fun l => by
      have e : inB LK (.str k) = false := decide_eq_false l
      rw [e, if_neg Bool.false_ne_true] at b2
      exact inB_some b2
    have hs2 : k ∈ LK → s' = .non := fun l => by
      have e : inB LK (.str k) = true := decide_eq_true l
      rw [e, if_pos rfl, isn] at b2
      exact of_decide_eq_true b2
    have sc : scal (.str x) s' = true := by
      by_cases l : k ∈ LK
      · rw [hs2 l]; rfl
      · obtain ⟨y, rfl, _⟩ := hs1 l; rfl
    have o34 : outS ys (.str k) (.str x) s' = if V.str k = .str "alike" ∧ V.str x = s' then 3 else 4 := by
      unfold outS
      rw [if_neg (by rw [bk]; decide), if_neg (by rw [bf]; decide), if_neg (by rw [b2]; decide)]
    refine ⟨_, rfl, rfl, _, rfl, ?_⟩
    by_cases qa : V.str k = .str "alike"
    · rw [decide_eq_true qa]
      refine iteT ⟨_, rfl, _, rfl, sc, _, rfl, ?_⟩
      by_cases qb : V.str x = s'
      · rw [decide_eq_true qb]
        exact iteT (k3 (by rw [o34, if_pos ⟨qa, qb⟩]))
      · rw [decide_eq_false qb]
        have o4 : outS ys (.str k) (.str x) s' = 4 := by rw [o34, if_neg (fun z => qb z.2)]
        refine iteF ?_
        refine ⟨_, rfl, _, rfl, p, CS, dx, [], rfl, hp, hC.c, hC.a1, (by show 0 < 1000; decide), ?_⟩
        have p1 : upd H p (.ins CS dx (putF "letters" (.ref m) [])) p = some (.ins CS dx [("letters", .ref m)]) := upd_same
        have b1 : But p H (upd H p (.ins CS dx (putF "letters" (.ref m) []))) := But.upd fun _ _ _ e => e
        generalize upd H p (.ins CS dx (putF "letters" (.ref m) [])) = H1 at p1 b1 ⊢
        have hM1 : Mde CL H1 m t ys := hM.but b1 hp
        refine ⟨_, rfl, _, rfl, _, rfl, _, rfl, m, t, ys, k, x, s', rfl, hM1, nd, hx, hs1, hs2, fun H2 q s2 hq => ?_⟩
        obtain ⟨k', x', s2', enf, hk', hx', hs1', hs2'⟩ := nfT_ok hk hx hs1 hs2
        rw [enf] at hq
        have p2 := s2 _ _ p1
        refine ⟨q, _, rfl, SqT.of hq, rfl, _, _, rfl, _, rfl, p, CS, dx, _, rfl, p2, hC.c, hC.a2, (by show 1 < 1000; decide), _, _, rfl, _, rfl, p, CS, dx, _, rfl, upd_same, hC.c, hC.a3, (by show 2 < 1000; decide), _, _, rfl, _, rfl, p, CS, dx, _, rfl, upd_same, hC.c, hC.a4, (by show 3 < 1000; decide), rfl, ?_⟩
        exact k4 o4 k x rfl rfl hk hx hs1 hs2 _ k' x' s2' upd_same (((b1.same s2).upd.upd).upd) enf
    · rw [decide_eq_false qa]
      have o4 : outS ys (.str k) (.str x) s' = 4 := by rw [o34, if_neg (fun z => qa z.1)]
      refine iteF ?_
      refine ⟨_, rfl, _, rfl, p, CS, dx, [], rfl, hp, hC.c, hC.a1, (by show 0 < 1000; decide), ?_⟩
      have p1 : upd H p (.ins CS dx (putF "letters" (.ref m) [])) p = some (.ins CS dx [("letters", .ref m)]) := upd_same
      have b1 : But p H (upd H p (.ins CS dx (putF "letters" (.ref m) []))) := But.upd fun _ _ _ e => e
      generalize upd H p (.ins CS dx (putF "letters" (.ref m) [])) = H1 at p1 b1 ⊢
      have hM1 : Mde CL H1 m t ys := hM.but b1 hp
      refine ⟨_, rfl, _, rfl, _, rfl, _, rfl, m, t, ys, k, x, s', rfl, hM1, nd, hx, hs1, hs2, fun H2 q s2 hq => ?_⟩
      obtain ⟨k', x', s2', enf, hk', hx', hs1', hs2'⟩ := nfT_ok hk hx hs1 hs2
      rw [enf] at hq
      have p2 := s2 _ _ p1
      refine ⟨q, _, rfl, SqT.of hq, rfl, _, _, rfl, _, rfl, p, CS, dx, _, rfl, p2, hC.c, hC.a2, (by show 1 < 1000; decide), _, _, rfl, _, rfl, p, CS, dx, _, rfl, upd_same, hC.c, hC.a3, (by show 2 < 1000; decide), _, _, rfl, _, rfl, p, CS, dx, _, rfl, upd_same, hC.c, hC.a4, (by show 3 < 1000; decide), rfl, ?_⟩
      exact k4 o4 k x rfl rfl hk hx hs1 hs2 _ k' x' s2' upd_same (((b1.same s2).upd.upd).upd) enf
end
end Ask

namespace Ask
open PySem L2
theorem flat_strs (ys : List Str) : (ys.map V.str).all flatV = true := by
  rw [List.all_eq_true]
  intro y hy
  obtain ⟨z, _, rfl⟩ := List.mem_map.mp hy
  rfl
section
variable {P : Program} {w : World} {K : PySem.W.Frag} {mg : Str → Option Value} {base : Heap}
/-! ### the one form, by the law -/
def spNormal (K : PySem.W.Frag) : Sp := fun vs H Q _ => ∃ (a tr : Addr) (ys : List Str) (k x : Str) (s : V), vs = [.ref a, .ref tr] ∧ SqL K H a (ys.map V.str) ∧ H tr = some (.tup [.str k, .str x, s]) ∧ x ∈ ys ∧ (k ∉ LK → ∃ y, s = .str y ∧ y ∈ ys) ∧ (k ∈ LK → s = .non) ∧
  ∀ (H' : Hp) (q : Addr), Same H H' → H' q = some (.tup (nfT ys k x s)) → Q (.ref q) H'
abbrev s__law_normal : Stmt := top 68
theorem sc__law_normal : FnScope ["_law_letters_here", "_law_triple", "_law_kind", "_law_first", "_law_second"] ["_law_letters_here", "_law_triple"] (defScope s__law_normal) := ⟨rfl, rfl, rfl, by decide +kernel, rfl, by decide +kernel, by decide +kernel⟩
theorem ok_normal {f : Addr} {fd : FuncData} (F : Fun K "_law_normal" "_law_normal" s__law_normal f fd) : FnOk P w K mg base CX0 1 f fd ["_law_letters_here", "_law_triple"] (spNormal K) := by
  refine F.ok sc__law_normal (fun vs H Q E h => ?_) (fun cdv A outer s H vs Q E hr h => ?_)
  · obtain ⟨a, tr, ys, k, x, s, rfl, _⟩ := h
    rfl
  · obtain ⟨a, tr, ys, k, x, s', rfl, hS, ht, hx, hs1, hs2, kq⟩ := h
    refine ⟨_, (pss_cons (ps_asg (pv 1) (pg_tup rfl (pgs_cons (pg_name (i := 2) sc__law_normal.nd rfl (Or.inl rfl)) (pgs_cons (pg_name (i := 3) sc__law_normal.nd rfl (Or.inl rfl)) (pgs_cons (pg_name (i := 4) sc__law_normal.nd rfl (Or.inl rfl)) pgs_nil)))))
      (pss_cons (ps_if (PW.pt (pw_and (pt_cmpR op_eq (pv 2) pe_str (nomark _)) (pw_and1 (pt_cmpR op_lt (pe_bm PySem.F.plainAttrs_list PySem.F.slot_list_index PySem.F.type_list_index mt_index (pv 0) (pa_cons (pv 3) pa_nil)) (pe_bm PySem.F.plainAttrs_list PySem.F.slot_list_index PySem.F.type_list_index mt_index (pv 0) (pa_cons (pv 4) pa_nil)) (nomark _))))) (pss_one (ps_ret (pe_tup (pa_cons (pv 2) (pa_cons (pv 4) (pa_cons (pv 3) pa_nil)))))) pss_nil)
      (pss_one (ps_ret (pe_ifExp (PW.pt (pw_and (pt_cmpR op_eq (pv 2) pe_str (nomark _)) (pw_and1 (pt_cmpR op_eq (pv 3) (pv 4) (nomark _))))) (pe_tup (pa_cons pe_str (pa_cons (pv 3) (pa_cons (pv 4) pa_nil)))) (pv 1)))))), ?_⟩
    have three : (3 : Nat) ≤ sizeLine := by decide
    have sc : scal (.str x) s' = true := by
      by_cases l : k ∈ LK
      · rw [hs2 l]; rfl
      · obtain ⟨y, rfl, _⟩ := hs1 l; rfl
    have first : ∀ {z : Str}, z ∈ ys → (ys.map V.str)[ixOf ys z]? = some (.str z) ∧ eqV (.str z) (.str z) = true ∧ ∀ (m : Nat) (z' : V), m < ixOf ys z → (ys.map V.str)[m]? = some z' → eqV z' (.str z) = false := fun {z} hz => by
      obtain ⟨h1, h2⟩ := ixOf_at hz
      refine ⟨by rw [List.getElem?_map, h1]; rfl, decide_eq_true rfl, fun m z' hm e => ?_⟩
      rw [List.getElem?_map] at e
      cases e1 : ys[m]? with
      | none => rw [e1] at e; cases e
      | some y =>
        rw [e1] at e
        cases e
        exact decide_eq_false (fun q => h2 m hm (by rw [e1, q]))
    refine ⟨_, rfl, tr, _, rfl, SqT.of ht, rfl, _, _, rfl, _, _, rfl, _, _, rfl, rfl, ?_⟩
    refine ⟨_, rfl, rfl, _, rfl, ite2 (fun q1 => ?_) (fun q1 => ?_)⟩
    · have q1 : k = "alike" := V.str.inj (of_decide_eq_true q1)
      have n1 : ¬ k = "over" := by rw [q1]; decide
      obtain ⟨y, rfl, hy⟩ := hs1 (by rw [q1]; decide)
      obtain ⟨i1, i2, i3⟩ := first hx
      obtain ⟨j1, j2, j3⟩ := first hy
      refine ⟨_, rfl, .inl ⟨rfl, _, hS⟩, _, rfl, a, _, _, _, _, rfl, rfl, hS, rfl, flat_strs _, i1, i2, i3, ?_⟩
      refine ⟨_, rfl, .inl ⟨rfl, _, hS⟩, _, rfl, a, _, _, _, _, rfl, rfl, hS, rfl, flat_strs _, j1, j2, j3, ?_⟩
      refine ⟨_, _, rfl, rfl, _, rfl, ite2 (fun q3 => ?_) (fun q3 => ?_)⟩
      · have q3 : (ixOf ys x : Int) < (ixOf ys y : Int) := of_decide_eq_true q3
        exact ⟨_, rfl, _, rfl, _, rfl, three, fun q hq => kq _ q (Ask.Same.made1 (Same.refl H) hq) (by unfold nfT; rw [if_neg (fun z => n1 z.1), if_pos ⟨q1, decide_eq_true (by omega)⟩]; exact upd_same)⟩
      · have q3 : ¬ (ixOf ys x : Int) < (ixOf ys y : Int) := fun z => q3 (decide_eq_true z)
        refine ⟨_, rfl, rfl, _, rfl, ?_⟩
        rw [decide_eq_false (fun z => n1 (V.str.inj z))]
        exact iteF ⟨_, rfl, kq _ tr (Same.refl H) (by unfold nfT; rw [if_neg (fun z => n1 z.1), if_neg (fun z => by have := of_decide_eq_true z.2; omega)]; exact ht)⟩
    · have q1 : ¬ k = "alike" := fun z => q1 (decide_eq_true (congrArg V.str z))
      refine ⟨_, rfl, rfl, _, rfl, ite2 (fun q2 => ?_) (fun q2 => ?_)⟩
      · have q2 : k = "over" := V.str.inj (of_decide_eq_true q2)
        refine ⟨_, rfl, _, rfl, sc, _, rfl, ite2 (fun q3 => ?_) (fun q3 => ?_)⟩
        · have q3 := of_decide_eq_true q3
          exact ⟨_, rfl, _, rfl, three, fun q hq => kq _ q (Ask.Same.made1 (Same.refl H) hq) (by unfold nfT; rw [if_pos ⟨q2, q3⟩]; exact upd_same)⟩
        · have q3 : ¬ V.str x = s' := fun z => q3 (decide_eq_true z)
          exact ⟨_, rfl, kq _ tr (Same.refl H) (by unfold nfT; rw [if_neg (fun z => q3 z.2), if_neg (fun z => q1 z.1)]; exact ht)⟩
      · have q2 : ¬ k = "over" := fun z => q2 (decide_eq_true (congrArg V.str z))
        exact ⟨_, rfl, kq _ tr (Same.refl H) (by unfold nfT; rw [if_neg (fun z => q2 z.1), if_neg (fun z => q1 z.1)]; exact ht)⟩
/-! ### a drawn sentence -/
/-- a letter or nothing, as the kind wants it -/
def SOk (ys : List Str) (k : Str) (s : V) : Prop := (k ∉ LK → ∃ y, s = .str y ∧ y ∈ ys) ∧ (k ∈ LK → s = .non)
/-- a triple that is a sentence -/
def DrOk (ys : List Str) (k x : Str) (s : V) : Prop := k ∈ KL ∧ x ∈ ys ∧ SOk ys k s ∧ ¬ (k = "alike" ∧ V.str x = s)
theorem DrOk.lone {ys : List Str} {k x : Str} (h : k ∈ LK) (hk : k ∈ KL) (hx : x ∈ ys) : DrOk ys k x .non := ⟨hk, hx, ⟨fun z => absurd h z, fun _ => rfl⟩, fun z => by cases z.2⟩
theorem DrOk.two {ys : List Str} {k x y : Str} (h : k ∉ LK) (hk : k ∈ KL) (hx : x ∈ ys) (hy : y ∈ ys) (n : ¬ (k = "alike" ∧ x = y)) : DrOk ys k x (.str y) := ⟨hk, hx, ⟨fun _ => ⟨y, rfl, hy⟩, fun z => absurd z h⟩, fun z => n ⟨z.1, V.str.inj z.2⟩⟩
def spDrawn (K : PySem.W.Frag) : Sp := fun vs H Q _ => ∃ (p c : Addr) (ns : List Int) (B : Nat) (a : Addr) (ys : List Str), vs = [.ref p, .ref a] ∧ Pen c ns H p B ∧ B ≤ 500000000 ∧ SqL K H a (ys.map V.str) ∧ 0 < ys.length ∧ ys.length ≤ 1000 ∧
  ∀ (H' : Hp) (q : Addr) (k x : Str) (s : V), Go p c ns H H' (B + 3) → H' q = some (.tup [.str k, .str x, s]) → DrOk ys k x s → Q (.ref q) H'
abbrev s__law_drawn : Stmt := top 70
theorem sc__law_drawn : FnScope ["_law_pen_here", "_law_letters_here", "_law_way", "_law_x", "_law_y"] ["_law_pen_here", "_law_letters_here"] (defScope s__law_drawn) := ⟨rfl, rfl, rfl, by decide +kernel, rfl, by decide +kernel, by decide +kernel⟩
theorem ok_drawn {f fD fP : Addr} {fd fdD fdP : FuncData} (F : Fun K "_law_drawn" "_law_drawn" s__law_drawn f fd) (T : Blt mg)
    (GD : FnOk P w K mg base CX0 1 fD fdD ["_law_pen_here", "_law_many"] spDraw) (AD : At K mg "_law_draw" fD fdD ["_law_pen_here", "_law_many"])
    (GP : FnOk P w K mg base CX0 2 fP fdP ["_law_pen_here", "_law_options"] (spPick K)) (AP : At K mg "_law_pick" fP fdP ["_law_pen_here", "_law_options"]) :
    FnOk P w K mg base CX0 3 f fd ["_law_pen_here", "_law_letters_here"] (spDrawn K) := by
  refine F.ok sc__law_drawn (fun vs H Q E h => ?_) (fun cdv A outer s H vs Q E hr h => ?_)
  · obtain ⟨p, c, ns, B, a, ys, rfl, _⟩ := h
    rfl
  · obtain ⟨p, c, ns, B, a, ys, rfl, hpen, hB, hS, h0, h1, k⟩ := h
    have hr1 := hr.mono (j := 1) (by decide)
    refine ⟨_, (pss_cons (ps_set (i := 2) sc__law_drawn.nd rfl (Or.inl rfl) (pe_call GD hr1 (by rfl) AD.m AD.k AD.b .nil pass0 (pa_cons (pv 0) (pa_cons pe_int pa_nil))))
      (pss_cons (ps_par (i := 3) (j := 4) rfl sc__law_drawn.nd rfl rfl (by decide) rfl rfl (pa_cons (pe_call GP hr (by rfl) AP.m AP.k AP.b .nil pass0 (pa_cons (pv 0) (pa_cons (pv 1) pa_nil))) (pa_cons (pe_call GP hr (by rfl) AP.m AP.k AP.b .nil pass0 (pa_cons (pv 0) (pa_cons (pv 1) pa_nil))) pa_nil)) (by rfl))
      (pss_cons (ps_if (PW.pt (pw_or (pt_cmpR op_eq (pv 2) pe_int (nomark _)) (pw_or1 (PW.pt (pw_and (pt_cmpR op_eq (pv 2) pe_int (nomark _)) (pw_and1 (pt_cmpR op_eq (pv 3) (pv 4) (nomark _)))))))) (pss_one (ps_ret (pe_tup (pa_cons pe_str (pa_cons (pv 3) (pa_cons pe_non pa_nil)))))) pss_nil)
      (pss_cons (ps_if (pt_cmpR op_eq (pv 2) pe_int (nomark _)) (pss_one (ps_ret (pe_tup (pa_cons pe_str (pa_cons (pv 3) (pa_cons (pv 4) pa_nil)))))) pss_nil)
      (pss_cons (ps_if (pt_cmpR op_lt (pv 2) pe_int (nomark _)) (pss_one (ps_ret (pe_tup (pa_cons pe_str (pa_cons (pv 4) (pa_cons pe_non pa_nil)))))) pss_nil)
      (pss_one (ps_ret (pe_tup (pa_cons (pe_ix ix_list (pe_lst (pa_cons pe_str (pa_cons pe_str (pa_cons pe_str pa_nil)))) (pe_op op_mod (pe_callTy call_int1 (by rfl) T.n_int (by decide +kernel) (pa_cons (pe_op op_sub (pv 2) pe_int) pa_nil)) pe_int) (fun _ _ => rfl)) (pa_cons (pv 3) (pa_cons (pv 4) pa_nil))))))))))), ?_⟩
    have three : (3 : Nat) ≤ sizeLine := by decide
    refine ⟨_, rfl, p, c, ns, 16, B, rfl, hpen, by omega, by decide, by decide, fun H1 r g1 r0 r1 => ?_⟩
    refine ⟨_, rfl, _, rfl, p, c, ns, _, _, rfl, g1.pen, by omega, .inl ⟨a, _, rfl, g1.seq hS, by rw [List.length_map]; exact h0, by rw [List.length_map]; exact h1, fun H2 v g2 hv => ?_⟩⟩
    obtain ⟨x, hx, rfl⟩ := List.mem_map.mp hv
    have g12 := g1.step g2
    refine ⟨_, rfl, _, rfl, p, c, ns, _, _, rfl, g12.pen, by omega, .inl ⟨a, _, rfl, g12.seq hS, by rw [List.length_map]; exact h0, by rw [List.length_map]; exact h1, fun H3 v g3 hv => ?_⟩⟩
    obtain ⟨y, hy, rfl⟩ := List.mem_map.mp hv
    have g := g12.step g3
    clear hv g1 g2 g12 g3
    -- behind the first question
    refine ⟨_, _, rfl, ?_⟩
    refine ⟨_, rfl, rfl, _, rfl, ite2 (fun _ => ⟨_, rfl, three, fun q hq => k _ q _ _ _ ((g.new hq).mono (by omega)) upd_same (.lone (by decide) (by decide) hx)⟩) (fun q => ?_)⟩
    refine ⟨_, rfl, rfl, _, rfl, ite2 (fun q1 => ⟨_, rfl, _, rfl, rfl, _, rfl, ite2 (fun q2 => ⟨_, rfl, three, fun q hq => k _ q _ _ _ ((g.new hq).mono (by omega)) upd_same (.lone (by decide) (by decide) hx)⟩) (fun q2 => ?_)⟩) (fun q1 => ?_)⟩
    · skip
      refine ⟨_, rfl, rfl, _, rfl, ite2 (fun qa => ⟨_, rfl, _, rfl, three, fun q hq => k _ q _ _ _ ((g.new hq).mono (by omega)) upd_same (.two (by decide) (by decide) hx hy (fun w => q2 (decide_eq_true (congrArg V.str w.2))))⟩) (fun _ => ?_)⟩
      refine ⟨_, rfl, _, _, rfl, rfl, _, rfl, ite2 (fun _ => ⟨_, rfl, three, fun q hq => k _ q _ _ _ ((g.new hq).mono (by omega)) upd_same (.lone (by decide) (by decide) hy)⟩) (fun q4 => ?_)⟩
      have q4 : ¬ r < 4 := fun z => q4 (decide_eq_true z)
      refine ⟨three, fun u hu => ?_⟩
      have fu : upd H3 u (.lst [.str "kept", .str "over", .str "undone"]) u = some (.lst [.str "kept", .str "over", .str "undone"]) := upd_same
      replace g := g.new (o := .lst [.str "kept", .str "over", .str "undone"]) hu
      generalize upd H3 u (.lst [.str "kept", .str "over", .str "undone"]) = H4 at fu g ⊢
      obtain ⟨n, hn1, hn⟩ : ∃ n : Nat, (r - 4) % 3 = (n : Int) ∧ n < 3 := ⟨((r - 4) % 3).toNat, by omega, by omega⟩
      obtain ⟨z, hz, hz1, hz2, hz3⟩ : ∃ z : Str, ([V.str "kept", .str "over", .str "undone"] : List V)[n]? = some (.str z) ∧ z ∉ LK ∧ z ∈ KL ∧ z ≠ "alike" := by
        match n, hn with
        | 0, _ => exact ⟨_, rfl, by decide, by decide, by decide⟩
        | 1, _ => exact ⟨_, rfl, by decide, by decide, by decide⟩
        | 2, _ => exact ⟨_, rfl, by decide, by decide, by decide⟩
      exact ⟨_, rfl, _, _, rfl, rfl, .inl ⟨_, rfl, _, _, rfl, rfl, (by show (0:Int) < _; decide), u, _, _, _, rfl, rfl, SqL.of fu, at_by (j := n) hn1 hz, _, rfl, _, rfl, three, fun q hq => k _ q _ _ _ ((g.new hq).mono (by omega)) upd_same (.two hz1 hz2 hx hy (fun w => hz3 w.1))⟩⟩
    · skip
      refine ⟨_, rfl, rfl, _, rfl, ite2 (fun qa => absurd qa q1) (fun _ => ?_)⟩
      refine ⟨_, rfl, _, _, rfl, rfl, _, rfl, ite2 (fun _ => ⟨_, rfl, three, fun q hq => k _ q _ _ _ ((g.new hq).mono (by omega)) upd_same (.lone (by decide) (by decide) hy)⟩) (fun q4 => ?_)⟩
      have q4 : ¬ r < 4 := fun z => q4 (decide_eq_true z)
      refine ⟨three, fun u hu => ?_⟩
      have fu : upd H3 u (.lst [.str "kept", .str "over", .str "undone"]) u = some (.lst [.str "kept", .str "over", .str "undone"]) := upd_same
      replace g := g.new (o := .lst [.str "kept", .str "over", .str "undone"]) hu
      generalize upd H3 u (.lst [.str "kept", .str "over", .str "undone"]) = H4 at fu g ⊢
      obtain ⟨n, hn1, hn⟩ : ∃ n : Nat, (r - 4) % 3 = (n : Int) ∧ n < 3 := ⟨((r - 4) % 3).toNat, by omega, by omega⟩
      obtain ⟨z, hz, hz1, hz2, hz3⟩ : ∃ z : Str, ([V.str "kept", .str "over", .str "undone"] : List V)[n]? = some (.str z) ∧ z ∉ LK ∧ z ∈ KL ∧ z ≠ "alike" := by
        match n, hn with
        | 0, _ => exact ⟨_, rfl, by decide, by decide, by decide⟩
        | 1, _ => exact ⟨_, rfl, by decide, by decide, by decide⟩
        | 2, _ => exact ⟨_, rfl, by decide, by decide, by decide⟩
      exact ⟨_, rfl, _, _, rfl, rfl, .inl ⟨_, rfl, _, _, rfl, rfl, (by show (0:Int) < _; decide), u, _, _, _, rfl, rfl, SqL.of fu, at_by (j := n) hn1 hz, _, rfl, _, rfl, three, fun q hq => k _ q _ _ _ ((g.new hq).mono (by omega)) upd_same (.two hz1 hz2 hx hy (fun w => hz3 w.1))⟩⟩
end
end Ask

namespace Ask
open PySem L2
theorem SOk.cases {ys : List Str} {k : Str} {s : V} (h : SOk ys k s) : s = .non ∨ ∃ y, s = .str y ∧ y ∈ ys := by
  by_cases l : k ∈ LK
  · exact .inl (h.2 l)
  · exact .inr (h.1 l)
/-- a sentence in its one form at p -/
def SenAt (K : PySem.W.Frag) (CL CS : Addr) (H : Hp) (p : Addr) (ys : List Str) (k x : Str) (s : V) : Prop := ∃ (dx m t : Addr), H p = some (.ins CS dx [("letters", .ref m), ("kind", .str k), ("first", .str x), ("second", s)]) ∧ Mde CL H m t ys
theorem SenAt.same {K : PySem.W.Frag} {CL CS p : Addr} {H H' : Hp} {ys : List Str} {k x : Str} {s : V} (h : SenAt K CL CS H p ys k x s) (e : Same H H') : SenAt K CL CS H' p ys k x s := by
  obtain ⟨dx, m, t, h1, h2⟩ := h
  exact ⟨dx, m, t, e _ _ h1, h2.same e⟩
end Ask

namespace Ask
open PySem L2
theorem DrOk.out {ys : List Str} {k x : Str} {s : V} (h : DrOk ys k x s) : outS ys (.str k) (.str x) s = 4 := by
  obtain ⟨hk, hx, so, n⟩ := h
  have b2 : (if inB LK (.str k) = true then isN s else inB ys s) = true := by
    by_cases l : k ∈ LK
    · rw [if_pos (show inB LK (.str k) = true from decide_eq_true l), so.2 l]
      rfl
    · rw [if_neg (show ¬ inB LK (.str k) = true from fun z => l (of_decide_eq_true z))]
      obtain ⟨y, rfl, hy⟩ := so.1 l
      exact decide_eq_true hy
  unfold outS
  rw [if_neg (by rw [show inB KL (.str k) = true from decide_eq_true hk]; decide), if_neg (by rw [show inB ys (.str x) = true from decide_eq_true hx]; decide), if_neg (by rw [b2]; decide), if_neg (fun z => n ⟨V.str.inj z.1, z.2⟩)]
theorem DrOk.flat {ys : List Str} {k x : Str} {s : V} (h : DrOk ys k x s) : flatV s = true := by
  rcases h.2.2.1.cases with rfl | ⟨y, rfl, _⟩ <;> rfl
theorem DrOk.mono {ys zs : List Str} {k x : Str} {s : V} (h : DrOk ys k x s) (m : ∀ y ∈ ys, y ∈ zs) : DrOk zs k x s :=
  ⟨h.1, m _ h.2.1, ⟨fun l => let ⟨y, e, hy⟩ := h.2.2.1.1 l; ⟨y, e, m _ hy⟩, h.2.2.1.2⟩, h.2.2.2⟩
/-- the one form is one, too -/
theorem DrOk.nf {ys : List Str} {k x : Str} {s : V} (h : DrOk ys k x s) : ∃ (k' x' : Str) (s' : V), nfT ys k x s = [.str k', .str x', s'] ∧ k' ∈ KL ∧ x' ∈ ys ∧ SOk ys k' s' := by
  obtain ⟨k', x', s', e, a, b, c, d⟩ := nfT_ok h.1 h.2.1 h.2.2.1.1 h.2.2.1.2
  exact ⟨k', x', s', e, a, b, c, d⟩
section
variable {P : Program} {w : World} {K : PySem.W.Frag} {mg : Str → Option Value} {base : Heap}
/-- Sentence(m, k, x, s) is made -/
theorem sen_made {CL CS CK CT CN : Addr} {H : Hp} {m t pp : Addr} {ys : List Str} {k x : Str} {s : V} {Q : VK} {E : XK} (hM : Mde CL H m t ys) (nd : ys.Nodup) (dr : DrOk ys k x s) {p dx : Addr} (hp : H p = none) (hdx : H dx = none) (hne : dx ≠ p)
    (kq : ∀ (H' : Hp) (k' x' : Str) (s' : V), Same H H' → nfT ys k x s = [.str k', .str x', s'] → SenAt K CL CS H' p ys k' x' s' → Q .non H') :
    spSen K CL CS CK CT CN [.ref p, .ref m, .str k, .str x, s] (upd (upd H dx (.own p)) p (.ins CS dx [])) Q E := by
  have sm : Same H (upd (upd H dx (.own p)) p (.ins CS dx [])) := Ask.Same.made1 (Ask.Same.made1 (Same.refl H) hdx) (by rw [upd_ne hne.symm]; exact hp)
  have o := dr.out
  refine ⟨p, dx, m, t, m, .str k, .str x, s, ys, rfl, upd_same, hM.same sm, nd, .inl rfl, .inl rfl, .inl dr.flat, fun z => absurd (o.symm.trans z) (by decide), fun j z hj H' d sd e => absurd (o.symm.trans z) (by omega), fun z => absurd (o.symm.trans z) (by decide), fun _ k0 x0 ek ex hk hx h1 h2 H' k' x' s' hp' kk enf => ?_⟩
  cases ek
  cases ex
  have s1 : Same H H' := Same.made hp hdx fun b o e hb => kk b o hb e
  exact kq H' k' x' s' s1 enf ⟨dx, m, t, hp', hM.same s1⟩
/-! ### the program's sentence of a triple -/
def spSent (K : PySem.W.Frag) (CL CS : Addr) : Sp := fun vs H Q _ => ∃ (a tr : Addr) (ys : List Str) (k x : Str) (s : V), vs = [.ref a, .ref tr] ∧ SqL K H a (ys.map V.str) ∧ Lts ys ∧ H tr = some (.tup [.str k, .str x, s]) ∧ DrOk ys k x s ∧
  ∀ (H' : Hp) (p : Addr) (k' x' : Str) (s' : V), Same H H' → nfT ys k x s = [.str k', .str x', s'] → SenAt K CL CS H' p ys k' x' s' → Q (.ref p) H'
abbrev s__law_sentence : Stmt := top 69
theorem sc__law_sentence : FnScope ["_law_letters_here", "_law_triple", "_law_kind", "_law_first", "_law_second"] ["_law_letters_here", "_law_triple"] (defScope s__law_sentence) := ⟨rfl, rfl, rfl, by decide +kernel, rfl, by decide +kernel, by decide +kernel⟩
theorem ok_sent {f fL fS CL CS CE CM CK CT CN : Addr} {fd fdL fdS : FuncData} {uD : Value} (F : Fun K "_law_sentence" "_law_sentence" s__law_sentence f fd)
    (ML : Mk K CL fL) (mL : mg "Letters" = some (.ref CL)) (bL : Binds K fdL ["self", "words"] []) (GL : FnOk P w K mg base (L2.CX P w) 4 fL fdL ["self", "words"] (spLet K CL CE CM))
    (MS : Mk K CS fS) (mS : mg "Sentence" = some (.ref CS)) (bS : Binds K fdS ["self", "letters", "kind", "first", "second"] []) (bS0 : Binds K fdS ["self", "letters", "kind", "first", "second"] [uD]) (ru : RelV .non uD) (GS : FnOk P w K mg base (L2.CX P w) 7 fS fdS ["self", "letters", "kind", "first", "second"] (spSen K CL CS CK CT CN)) :
    FnOk P w K mg base CX0 9 f fd ["_law_letters_here", "_law_triple"] (spSent K CL CS) := by
  refine F.ok sc__law_sentence (fun vs H Q E h => ?_) (fun cdv A outer s H vs Q E hr h => ?_)
  · obtain ⟨a, tr, ys, k, x, s, rfl, _⟩ := h
    rfl
  · obtain ⟨a, tr, ys, k, x, s', rfl, hS, lts, ht, dr, kq⟩ := h
    have hr5 := hr.mono (j := 5) (by decide)
    refine ⟨_, (pss_cons (ps_asg (pv 1) (pg_tup rfl (pgs_cons (pg_name (i := 2) sc__law_sentence.nd rfl (Or.inl rfl)) (pgs_cons (pg_name (i := 3) sc__law_sentence.nd rfl (Or.inl rfl)) (pgs_cons (pg_name (i := 4) sc__law_sentence.nd rfl (Or.inl rfl)) pgs_nil)))))
      (pss_cons (ps_if (pt_cmpR op_isN (pv 4) pe_non (nomark _)) (pss_one (ps_ret (pe_make MS GS hr (by rfl) mS bS0 (.cons ru .nil) passE (pa_cons (pe_make ML GL hr5 (by rfl) mL bL .nil passE (pa_cons (pv 0) pa_nil)) (pa_cons (pv 2) (pa_cons (pv 3) pa_nil)))))) pss_nil)
      (pss_one (ps_ret (pe_make MS GS hr (by rfl) mS bS .nil passE (pa_cons (pe_make ML GL hr5 (by rfl) mL bL .nil passE (pa_cons (pv 0) pa_nil)) (pa_cons (pv 2) (pa_cons (pv 3) (pa_cons (pv 4) pa_nil))))))))), ?_⟩
    refine ⟨_, rfl, tr, _, rfl, SqT.of ht, rfl, _, _, rfl, _, _, rfl, _, _, rfl, rfl, ?_⟩
    refine ⟨_, rfl, rfl, _, rfl, ite2 (fun q => ?_) (fun q => ?_)⟩
    · have q := of_decide_eq_true q
      subst q
      exact ⟨_, rfl, fun m md hm hmd hne => let_made lts (.inl hS) hm hmd hne fun H1 t s1 hM => ⟨rfl, _, rfl, _, rfl, fun p pd hp hpd hnp => sen_made (pp := m) hM lts.nd dr hp hpd hnp fun H2 k' x' s2 sm enf hs => ⟨rfl, kq H2 p k' x' s2 (s1.trans sm) enf hs⟩⟩⟩
    · exact ⟨_, rfl, fun m md hm hmd hne => let_made lts (.inl hS) hm hmd hne fun H1 t s1 hM => ⟨rfl, _, rfl, _, rfl, _, rfl, fun p pd hp hpd hnp => sen_made (pp := m) hM lts.nd dr hp hpd hnp fun H2 k' x' s2 sm enf hs => ⟨rfl, kq H2 p k' x' s2 (s1.trans sm) enf hs⟩⟩⟩
/-! ### the letters of the sides -/
def spSide (fw : Str → Str → V → List Run) : Sp := fun vs H Q _ => ∃ (tr : Addr) (ys : List Str) (k x : Str) (s : V), vs = [.ref tr] ∧ H tr = some (.tup [.str k, .str x, s]) ∧ k ∈ KL ∧ SOk ys k s ∧ ∀ (H' : Hp) (q : Addr), Same H H' → H' q = some (.lst (((fw k x s).map (·.1)).map V.str)) → Q (.ref q) H'
abbrev s__law_left : Stmt := top 72
theorem sc__law_left : FnScope ["_law_triple", "_law_kind", "_law_first", "_law_second"] ["_law_triple"] (defScope s__law_left) := ⟨rfl, rfl, rfl, by decide +kernel, rfl, by decide +kernel, by decide +kernel⟩
theorem ok_lawLeft {f : Addr} {fd : FuncData} (F : Fun K "_law_left" "_law_left" s__law_left f fd) : FnOk P w K mg base CX0 1 f fd ["_law_triple"] (spSide sdL) := by
  refine F.ok sc__law_left (fun vs H Q E h => ?_) (fun cdv A outer s H vs Q E hr h => ?_)
  · obtain ⟨tr, ys, k, x, s, rfl, _⟩ := h
    rfl
  · obtain ⟨tr, ys, k, x, s', rfl, ht, hk, so, kq⟩ := h
    refine ⟨_, (pss_cons (ps_asg (pv 0) (pg_tup rfl (pgs_cons (pg_name (i := 1) sc__law_left.nd rfl (Or.inl rfl)) (pgs_cons (pg_name (i := 2) sc__law_left.nd rfl (Or.inl rfl)) (pgs_cons (pg_name (i := 3) sc__law_left.nd rfl (Or.inl rfl)) pgs_nil)))))
      (pss_one (ps_ret (pe_ifExp (pt_cmpR op_in_seq (pv 1) (pe_tup (pa_cons pe_str (pa_cons pe_str (pa_cons pe_str pa_nil)))) rfl) (pe_lst (pa_cons (pv 2) (pa_cons (pv 3) pa_nil))) (pe_lst (pa_cons (pv 2) pa_nil)))))), ?_⟩
    refine ⟨_, rfl, tr, _, rfl, SqT.of ht, rfl, _, _, rfl, _, _, rfl, _, _, rfl, rfl, ?_⟩
    refine ⟨_, rfl, by show 3 ≤ sizeLine; decide, fun q hq => ⟨q, _, rfl, .inr (SqT.of upd_same), rfl, rfl, _, rfl, ?_⟩⟩
    have s1 := Ask.Same.made1 (o := .tup [.str "kept", .str "over", .str "undone"]) (Same.refl H) hq
    generalize upd H q (.tup [.str "kept", .str "over", .str "undone"]) = H1 at s1 ⊢
    show (if inV (.str k) [.str "kept", .str "over", .str "undone"] = true then _ else _)
    have e3 : inV (.str k) [.str "kept", .str "over", .str "undone"] = decide (k ∈ (["kept", "over", "undone"] : List Str)) := inV_str k ["kept", "over", "undone"]
    rw [e3]
    simp only [KL, List.mem_cons, List.not_mem_nil, or_false] at hk
    have lst1 : sdL k x s' = [(x, 1)] → ∀ q1, H1 q1 = none → Q (.ref q1) (upd H1 q1 (.lst [.str x])) := fun e q1 h1 => kq _ q1 (Ask.Same.made1 s1 h1) (by rw [e]; exact upd_same)
    have lst2 : ∀ y, s' = .str y → sdL k x s' = [(x, 1), (y, 1)] → ∀ q1, H1 q1 = none → Q (.ref q1) (upd H1 q1 (.lst [.str x, s'])) := fun y ey e q1 h1 => kq _ q1 (Ask.Same.made1 s1 h1) (by rw [e, ey]; exact upd_same)
    rcases hk with rfl | rfl | rfl | rfl | rfl | rfl
    · rw [decide_eq_false (by decide)]
      exact iteF ⟨_, rfl, by show 1 ≤ sizeLine; decide, fun q1 h1 => lst1 rfl q1 h1⟩
    · obtain ⟨y, e, _⟩ := so.1 (by decide)
      rw [decide_eq_true (by decide)]
      exact iteT ⟨_, rfl, _, rfl, by show 2 ≤ sizeLine; decide, fun q1 h1 => lst2 y e (by subst e; rfl) q1 h1⟩
    · rw [decide_eq_false (by decide)]
      exact iteF ⟨_, rfl, by show 1 ≤ sizeLine; decide, fun q1 h1 => lst1 rfl q1 h1⟩
    · obtain ⟨y, e, _⟩ := so.1 (by decide)
      rw [decide_eq_true (by decide)]
      exact iteT ⟨_, rfl, _, rfl, by show 2 ≤ sizeLine; decide, fun q1 h1 => lst2 y e (by subst e; rfl) q1 h1⟩
    · obtain ⟨y, e, _⟩ := so.1 (by decide)
      rw [decide_eq_true (by decide)]
      exact iteT ⟨_, rfl, _, rfl, by show 2 ≤ sizeLine; decide, fun q1 h1 => lst2 y e (by subst e; rfl) q1 h1⟩
    · rw [decide_eq_false (by decide)]
      exact iteF ⟨_, rfl, by show 1 ≤ sizeLine; decide, fun q1 h1 => lst1 rfl q1 h1⟩
abbrev s__law_right : Stmt := top 73
theorem sc__law_right : FnScope ["_law_triple", "_law_kind", "_law_first", "_law_second"] ["_law_triple"] (defScope s__law_right) := ⟨rfl, rfl, rfl, by decide +kernel, rfl, by decide +kernel, by decide +kernel⟩
theorem ok_lawRight {f : Addr} {fd : FuncData} (F : Fun K "_law_right" "_law_right" s__law_right f fd) : FnOk P w K mg base CX0 1 f fd ["_law_triple"] (spSide sdR) := by
  refine F.ok sc__law_right (fun vs H Q E h => ?_) (fun cdv A outer s H vs Q E hr h => ?_)
  · obtain ⟨tr, ys, k, x, s, rfl, _⟩ := h
    rfl
  · obtain ⟨tr, ys, k, x, s', rfl, ht, hk, so, kq⟩ := h
    refine ⟨_, (pss_cons (ps_asg (pv 0) (pg_tup rfl (pgs_cons (pg_name (i := 1) sc__law_right.nd rfl (Or.inl rfl)) (pgs_cons (pg_name (i := 2) sc__law_right.nd rfl (Or.inl rfl)) (pgs_cons (pg_name (i := 3) sc__law_right.nd rfl (Or.inl rfl)) pgs_nil)))))
      (pss_cons (ps_if (pt_cmpR op_eq (pv 1) pe_str (nomark _)) (pss_one (ps_ret (pe_lst (pa_cons (pv 2) pa_nil)))) pss_nil)
      (pss_one (ps_ret (pe_ifExp (pt_cmpR op_in_seq (pv 1) (pe_tup (pa_cons pe_str (pa_cons pe_str pa_nil))) rfl) (pe_lst (pa_cons (pv 3) pa_nil)) (pe_lst pa_nil)))))), ?_⟩
    refine ⟨_, rfl, tr, _, rfl, SqT.of ht, rfl, _, _, rfl, _, _, rfl, _, _, rfl, rfl, ?_⟩
    refine ⟨_, rfl, rfl, _, rfl, ite2 (fun q => ?_) (fun q => ?_)⟩
    · have q : k = "kept" := V.str.inj (of_decide_eq_true q)
      subst q
      exact ⟨_, rfl, by show 1 ≤ sizeLine; decide, fun q1 h1 => kq _ q1 (Ask.Same.made1 (Same.refl H) h1) upd_same⟩
    · have nk : ¬ k = "kept" := fun z => q (decide_eq_true (congrArg V.str z))
      refine ⟨_, rfl, by show 2 ≤ sizeLine; decide, fun q hq => ⟨q, _, rfl, .inr (SqT.of upd_same), rfl, rfl, _, rfl, ?_⟩⟩
      have s1 := Ask.Same.made1 (o := .tup [.str "over", .str "alike"]) (Same.refl H) hq
      generalize upd H q (.tup [.str "over", .str "alike"]) = H1 at s1 ⊢
      show (if inV (.str k) [.str "over", .str "alike"] = true then _ else _)
      have e3 : inV (.str k) [.str "over", .str "alike"] = decide (k ∈ (["over", "alike"] : List Str)) := inV_str k ["over", "alike"]
      rw [e3]
      simp only [KL, List.mem_cons, List.not_mem_nil, or_false] at hk
      have lst0 : sdR k x s' = [] → ∀ q1, H1 q1 = none → Q (.ref q1) (upd H1 q1 (.lst [])) := fun e q1 h1 => kq _ q1 (Ask.Same.made1 s1 h1) (by rw [e]; exact upd_same)
      have lst1 : ∀ y, s' = .str y → sdR k x s' = [(y, 1)] → ∀ q1, H1 q1 = none → Q (.ref q1) (upd H1 q1 (.lst [s'])) := fun y ey e q1 h1 => kq _ q1 (Ask.Same.made1 s1 h1) (by rw [e, ey]; exact upd_same)
      rcases hk with rfl | rfl | rfl | rfl | rfl | rfl
      · rw [decide_eq_false (by decide)]
        exact iteF ⟨Nat.zero_le _, fun q1 h1 => lst0 rfl q1 h1⟩
      · exact absurd rfl nk
      · rw [decide_eq_false (by decide)]
        exact iteF ⟨Nat.zero_le _, fun q1 h1 => lst0 rfl q1 h1⟩
      · obtain ⟨y, e, _⟩ := so.1 (by decide)
        rw [decide_eq_true (by decide)]
        exact iteT ⟨_, rfl, by show 1 ≤ sizeLine; decide, fun q1 h1 => lst1 y e (by subst e; rfl) q1 h1⟩
      · rw [decide_eq_false (by decide)]
        exact iteF ⟨Nat.zero_le _, fun q1 h1 => lst0 rfl q1 h1⟩
      · obtain ⟨y, e, _⟩ := so.1 (by decide)
        rw [decide_eq_true (by decide)]
        exact iteT ⟨_, rfl, by show 1 ≤ sizeLine; decide, fun q1 h1 => lst1 y e (by subst e; rfl) q1 h1⟩
end
end Ask

namespace Ask
open PySem L2
/-! ### what many changes take out and put in -/
def sideL (k x y : Str) (t : Int) : List Run := if k ∈ LK then [(x, t)] else if k = "alike" then [(x, t)] else if k = "kept" then [(x, 1), (y, t)] else if k = "over" then [(x, t), (y, 1)] else [(x, t), (y, t)]
def sideR (k x y : Str) (t : Int) : List Run := if k ∈ LK then [] else if k = "alike" then [(y, t)] else if k = "kept" then [(x, 1)] else if k = "over" then [(y, 1)] else []
def drf (k : Str) (way : Int) : Int := if k = "alike" then 1 else if k = "over" ∨ k = "undone" then -way else 0
def Blk (o p : List Str) (n : Int) (w v : List Str) : Prop := ∃ a b, w = a ++ o ++ b ∧ (a.length : Int) = n ∧ v = a ++ p ++ b
abbrev rp (n : Nat) (z : Str) : List Str := List.replicate n z
theorem rp_s (n : Nat) (z : Str) : rp (n + 1) z = rp n z ++ [z] := List.replicate_succ'
theorem rp_c (n : Nat) (z : Str) : rp (n + 1) z = z :: rp n z := rfl
theorem rp_sc (n : Nat) (z : Str) (l : List Str) : rp n z ++ z :: l = z :: (rp n z ++ l) := by
  rw [← List.cons_append, ← rp_c, rp_s, List.append_assoc]
  rfl
theorem snoc_of {a : List Str} {n : Nat} (h : a.length = n + 1) : ∃ a' c, a = a' ++ [c] ∧ a'.length = n := by
  rcases List.eq_nil_or_concat a with rfl | ⟨g, l, rfl⟩
  · cases h
  · rw [List.concat_eq_append] at h ⊢
    exact ⟨g, l, rfl, by simpa using h⟩
variable {x y : Str} {n : Nat} {pl : Int} {w v : List Str}
theorem c_idle : (∃ u, Blk (rp n x) [] pl w u ∧ Blk [x] [] pl u v) ↔ Blk (rp (n + 1) x) [] pl w v := by
  constructor
  · rintro ⟨u, ⟨a, b, rfl, h1, rfl⟩, a', b', h2, h3, rfl⟩
    simp only [List.append_nil, List.append_assoc] at h2
    obtain ⟨e1, e2⟩ := List.append_inj h2 (by omega)
    subst e1
    subst e2
    exact ⟨a, b', by rw [rp_s]; simp, h1, rfl⟩
  · rintro ⟨a, b, rfl, h1, rfl⟩
    exact ⟨a ++ [x] ++ b, ⟨a, x :: b, by rw [rp_s]; simp, h1, by simp⟩, a, b, rfl, h1, rfl⟩
theorem c_idleR : (∃ u, Blk [] (rp n x) pl w u ∧ Blk [] [x] pl u v) ↔ Blk [] (rp (n + 1) x) pl w v := by
  constructor
  · rintro ⟨u, ⟨a, b, rfl, h1, rfl⟩, a', b', h2, h3, rfl⟩
    simp only [List.append_nil, List.append_assoc] at h2
    obtain ⟨e1, e2⟩ := List.append_inj h2 (by omega)
    subst e1
    subst e2
    exact ⟨a, b, rfl, h1, by rw [rp_c]; simp⟩
  · rintro ⟨a, b, rfl, h1, rfl⟩
    exact ⟨a ++ rp n x ++ b, ⟨a, b, rfl, h1, rfl⟩, a, rp n x ++ b, by simp, h1, by rw [rp_c]; simp⟩
theorem c_kept : (∃ u, Blk (x :: rp n y) [x] pl w u ∧ Blk [x, y] [x] pl u v) ↔ Blk (x :: rp (n + 1) y) [x] pl w v := by
  constructor
  · rintro ⟨u, ⟨a, b, rfl, h1, rfl⟩, a', b', h2, h3, rfl⟩
    simp only [List.append_assoc] at h2
    obtain ⟨e1, e2⟩ := List.append_inj h2 (by omega)
    subst e1
    injection e2 with _ e2
    replace e2 : b = [y] ++ b' := e2
    subst e2
    exact ⟨a, b', by rw [rp_s]; simp, h1, rfl⟩
  · rintro ⟨a, b, rfl, h1, rfl⟩
    exact ⟨a ++ [x, y] ++ b, ⟨a, y :: b, by rw [rp_s]; simp, h1, by simp⟩, a, b, rfl, h1, rfl⟩
theorem c_keptR : (∃ u, Blk [x] (x :: rp n y) pl w u ∧ Blk [x] [x, y] pl u v) ↔ Blk [x] (x :: rp (n + 1) y) pl w v := by
  constructor
  · rintro ⟨u, ⟨a, b, rfl, h1, rfl⟩, a', b', h2, h3, rfl⟩
    simp only [List.append_assoc] at h2
    obtain ⟨e1, e2⟩ := List.append_inj h2 (by omega)
    subst e1
    injection e2 with _ e2
    replace e2 : rp n y ++ b = b' := e2
    subst e2
    exact ⟨a, b, rfl, h1, by rw [rp_c]; simp⟩
  · rintro ⟨a, b, rfl, h1, rfl⟩
    exact ⟨a ++ (x :: rp n y) ++ b, ⟨a, b, rfl, h1, rfl⟩, a, rp n y ++ b, by simp, h1, by rw [rp_c]; simp⟩
theorem c_over : (∃ u, Blk (rp n x ++ [y]) [y] (pl - ((n : Int) - 1)) w u ∧ Blk [x, y] [y] (pl - n) u v) ↔ Blk (rp (n + 1) x ++ [y]) [y] (pl - n) w v := by
  constructor
  · rintro ⟨u, ⟨a, b, rfl, h1, rfl⟩, a', b', h2, h3, rfl⟩
    obtain ⟨a2, c, rfl, h4⟩ := snoc_of (a := a) (n := a'.length) (by omega)
    simp only [List.append_assoc] at h2
    obtain ⟨e1, e2⟩ := List.append_inj h2 h4
    subst e1
    injection e2 with e3 e2
    subst e3
    injection e2 with _ e2
    replace e2 : b = b' := e2
    subst e2
    exact ⟨a2, b, by rw [rp_c]; simp, h3, rfl⟩
  · rintro ⟨a, b, rfl, h1, rfl⟩
    exact ⟨a ++ [x, y] ++ b, ⟨a ++ [x], b, by rw [rp_c]; simp, by rw [List.length_append]; simp; omega, by simp⟩, a, b, rfl, h1, rfl⟩
theorem c_overR : (∃ u, Blk [y] (rp n x ++ [y]) pl w u ∧ Blk [y] [x, y] (pl + n) u v) ↔ Blk [y] (rp (n + 1) x ++ [y]) pl w v := by
  constructor
  · rintro ⟨u, ⟨a, b, rfl, h1, rfl⟩, a', b', h2, h3, rfl⟩
    have h4 : (a ++ rp n x).length = a'.length := by rw [List.length_append, List.length_replicate]; omega
    have h5 : (a ++ rp n x) ++ ([y] ++ b) = a' ++ ([y] ++ b') := by simpa using h2
    obtain ⟨e1, e2⟩ := List.append_inj h5 h4
    subst e1
    injection e2 with _ e2
    replace e2 : b = b' := e2
    subst e2
    exact ⟨a, b, rfl, h1, by rw [rp_s]; simp⟩
  · rintro ⟨a, b, rfl, h1, rfl⟩
    exact ⟨a ++ (rp n x ++ [y]) ++ b, ⟨a, b, rfl, h1, rfl⟩, a ++ rp n x, b, by simp, by rw [List.length_append, List.length_replicate]; omega, by rw [rp_s]; simp⟩
theorem c_und : (∃ u, Blk (rp n x ++ rp n y) [] (pl - ((n : Int) - 1)) w u ∧ Blk [x, y] [] (pl - n) u v) ↔ Blk (rp (n + 1) x ++ rp (n + 1) y) [] (pl - n) w v := by
  constructor
  · rintro ⟨u, ⟨a, b, rfl, h1, rfl⟩, a', b', h2, h3, rfl⟩
    obtain ⟨a2, c, rfl, h4⟩ := snoc_of (a := a) (n := a'.length) (by omega)
    simp only [List.append_assoc, List.append_nil] at h2
    obtain ⟨e1, e2⟩ := List.append_inj h2 h4
    subst e1
    injection e2 with e3 e2
    subst e3
    replace e2 : b = [y] ++ b' := e2
    subst e2
    exact ⟨a2, b', by rw [rp_c n c, rp_s n y]; simp, h3, rfl⟩
  · rintro ⟨a, b, rfl, h1, rfl⟩
    exact ⟨a ++ [x, y] ++ b, ⟨a ++ [x], y :: b, by rw [rp_c n x, rp_s n y]; simp, by rw [List.length_append]; simp; omega, by simp⟩, a, b, rfl, h1, rfl⟩
theorem c_undR : (∃ u, Blk [] (rp n x ++ rp n y) pl w u ∧ Blk [] [x, y] (pl + n) u v) ↔ Blk [] (rp (n + 1) x ++ rp (n + 1) y) pl w v := by
  constructor
  · rintro ⟨u, ⟨a, b, rfl, h1, rfl⟩, a', b', h2, h3, rfl⟩
    have h4 : (a ++ rp n x).length = a'.length := by rw [List.length_append, List.length_replicate]; omega
    have h5 : (a ++ rp n x) ++ (rp n y ++ b) = a' ++ b' := by simpa using h2
    obtain ⟨e1, e2⟩ := List.append_inj h5 h4
    subst e1
    subst e2
    exact ⟨a, b, rfl, h1, by rw [rp_s n x, rp_c n y]; simp⟩
  · rintro ⟨a, b, rfl, h1, rfl⟩
    exact ⟨a ++ (rp n x ++ rp n y) ++ b, ⟨a, b, rfl, h1, rfl⟩, a ++ rp n x, rp n y ++ b, by simp, by rw [List.length_append, List.length_replicate]; omega, by rw [rp_s n x, rp_c n y]; simp⟩
theorem c_alike : (∃ u, Blk (rp n x) (rp n y) pl w u ∧ Blk [x] [y] (pl + n) u v) ↔ Blk (rp (n + 1) x) (rp (n + 1) y) pl w v := by
  constructor
  · rintro ⟨u, ⟨a, b, rfl, h1, rfl⟩, a', b', h2, h3, rfl⟩
    have h4 : (a ++ rp n y).length = a'.length := by rw [List.length_append, List.length_replicate]; omega
    have h5 : (a ++ rp n y) ++ b = a' ++ ([x] ++ b') := by simpa using h2
    obtain ⟨e1, e2⟩ := List.append_inj h5 h4
    subst e1
    subst e2
    exact ⟨a, b', by rw [rp_s n x]; simp, h1, by rw [rp_s n y]; simp⟩
  · rintro ⟨a, b, rfl, h1, rfl⟩
    exact ⟨a ++ rp n y ++ ([x] ++ b), ⟨a, x :: b, by rw [rp_s n x]; simp, h1, by simp⟩, a ++ rp n y, b, by simp, by rw [List.length_append, List.length_replicate]; omega, by rw [rp_s n y]; simp⟩
/-! ### a step, by letters -/
def outR (k x y : Str) (way t : Int) : List Run := if way = 1 then sideL k x y t else sideR k x y t
def putR (k x y : Str) (way t : Int) : List Run := if way = 1 then sideR k x y t else sideL k x y t
def Cn (b k : Str) (pl : Int) : Prop := 0 ≤ pl ∧ (k = "still" → b = "new" ∧ pl = 0)
def fst1 (k : Str) (pl way t : Int) : Int := pl + min (drf k way * (t - 1)) 0
instance (b k : Str) (pl : Int) : Decidable (Cn b k pl) := by unfold Cn; infer_instance
def chW (b k x y : Str) (w : List Str) (pl way t : Int) : Option (List Str) :=
  if Cn b k pl then (if fst1 k pl way t < 0 then none else exW w (fst1 k pl way t).toNat (plainR (outR k x y way t)) (plainR (putR k x y way t))) else none
theorem chW_some {b k x y : Str} {w v : List Str} {pl way t : Int} : chW b k x y w pl way t = some v ↔ Cn b k pl ∧ Blk (plainR (outR k x y way t)) (plainR (putR k x y way t)) (fst1 k pl way t) w v := by
  unfold chW
  by_cases h : Cn b k pl
  · rw [if_pos h]
    by_cases q : fst1 k pl way t < 0
    · rw [if_pos q]
      constructor
      · intro e
        cases e
      · rintro ⟨_, a, b, _, e, _⟩
        omega
    · rw [if_neg q, exW_some]
      constructor
      · rintro ⟨a, b, e1, e2, e3⟩
        exact ⟨h, a, b, e1, by omega, e3⟩
      · rintro ⟨_, a, b, e1, e2, e3⟩
        exact ⟨a, b, e1, by omega, e3⟩
  · rw [if_neg h]
    constructor
    · intro e
      cases e
    · intro e
      exact absurd e.1 h
/-- change by change -/
def itW (b k x y : Str) (w : List Str) (pl way : Int) : Nat → Option (List Str)
  | 0 => some w
  | n + 1 => (itW b k x y w pl way n).bind fun u => chW b k x y u (pl + n * drf k way) way 1
theorem kl_cases {k : Str} (hk : k ∈ KL) : k = "idle" ∨ k = "kept" ∨ k = "still" ∨ k = "over" ∨ k = "undone" ∨ k = "alike" := by
  simpa only [KL, List.mem_cons, List.not_mem_nil, or_false] using hk
theorem plain_nil : plainR [] = [] := rfl
theorem plain_r1 (z : Str) (n : Nat) : plainR [(z, (n : Int))] = rp n z := by rw [plain_one]; rfl
theorem plain_r2 (z z' : Str) (a b : Int) : plainR [(z, a), (z', b)] = plainR [(z, a)] ++ plainR [(z', b)] := plainR_app [_] [_]
theorem plain_u (z : Str) : plainR [(z, 1)] = [z] := by rw [plain_one]; rfl
theorem st_step {k : Str} (hk : k ∈ KL) (x y : Str) {way : Int} (hw : way = 1 ∨ way = -1) (pl : Int) {n : Nat} (hn : 1 ≤ n) (w v : List Str) :
    (∃ u, Blk (plainR (outR k x y way n)) (plainR (putR k x y way n)) (fst1 k pl way n) w u ∧ Blk (plainR (outR k x y way 1)) (plainR (putR k x y way 1)) (pl + n * drf k way) u v) ↔
      Blk (plainR (outR k x y way (n + 1 : Nat))) (plainR (putR k x y way (n + 1 : Nat))) (fst1 k pl way (n + 1 : Nat)) w v := by
  have i1 : ("idle" : Str) ∈ LK := by decide
  have i2 : ("still" : Str) ∈ LK := by decide
  have m1 : ∀ m : Nat, min ((0 : Int) * ((m : Int) - 1)) 0 = 0 := fun m => by rw [Int.zero_mul]; rfl
  have m2 : ∀ m : Nat, 1 ≤ m → min ((1 : Int) * ((m : Int) - 1)) 0 = 0 := fun m h => by omega
  have m3 : ∀ m : Nat, 1 ≤ m → min ((-1 : Int) * ((m : Int) - 1)) 0 = -((m : Int) - 1) := fun m h => by omega
  have d0 : ∀ wy, drf "idle" wy = 0 := fun wy => by unfold drf; rw [if_neg (by decide), if_neg (by decide)]
  have d1 : ∀ wy, drf "still" wy = 0 := fun wy => by unfold drf; rw [if_neg (by decide), if_neg (by decide)]
  have d2 : ∀ wy, drf "kept" wy = 0 := fun wy => by unfold drf; rw [if_neg (by decide), if_neg (by decide)]
  have d3 : ∀ wy, drf "over" wy = -wy := fun wy => by unfold drf; rw [if_neg (by decide), if_pos (.inl rfl)]
  have d4 : ∀ wy, drf "undone" wy = -wy := fun wy => by unfold drf; rw [if_neg (by decide), if_pos (.inr rfl)]
  have d5 : ∀ wy, drf "alike" wy = 1 := fun wy => by unfold drf; rw [if_pos rfl]
  have idle : ∀ {k : Str}, k ∈ LK → (∀ wy, drf k wy = 0) → ((∃ u, Blk (plainR (outR k x y way n)) (plainR (putR k x y way n)) (fst1 k pl way n) w u ∧ Blk (plainR (outR k x y way 1)) (plainR (putR k x y way 1)) (pl + n * drf k way) u v) ↔
      Blk (plainR (outR k x y way (n + 1 : Nat))) (plainR (putR k x y way (n + 1 : Nat))) (fst1 k pl way (n + 1 : Nat)) w v) := by
    intro k hk dk
    have l : ∀ t : Int, sideL k x y t = [(x, t)] := fun t => by unfold sideL; rw [if_pos hk]
    have r : ∀ t : Int, sideR k x y t = [] := fun t => by unfold sideR; rw [if_pos hk]
    unfold outR putR fst1
    rw [dk, m1, m1, Int.mul_zero, Int.add_zero]
    rcases hw with rfl | rfl
    · rw [if_pos rfl, if_pos rfl, if_pos rfl, if_pos rfl, if_pos rfl, if_pos rfl, l, l, l, r, r, r, plain_r1, plain_u, plain_r1]
      exact c_idle
    · rw [if_neg (by decide), if_neg (by decide), if_neg (by decide), if_neg (by decide), if_neg (by decide), if_neg (by decide), l, l, l, r, r, r, plain_r1, plain_u, plain_r1]
      exact c_idleR
  rcases kl_cases hk with rfl | rfl | rfl | rfl | rfl | rfl
  · exact idle i1 d0
  · have l : ∀ t : Int, sideL "kept" x y t = [(x, 1), (y, t)] := fun t => by unfold sideL; rw [if_neg (by decide), if_neg (by decide), if_pos rfl]
    have r : ∀ t : Int, sideR "kept" x y t = [(x, 1)] := fun t => by unfold sideR; rw [if_neg (by decide), if_neg (by decide), if_pos rfl]
    unfold outR putR fst1
    rw [d2, m1, m1, Int.mul_zero, Int.add_zero]
    rcases hw with rfl | rfl
    · rw [if_pos rfl, if_pos rfl, if_pos rfl, if_pos rfl, if_pos rfl, if_pos rfl, l, l, l, r, r, r, plain_r2, plain_r2, plain_r2, plain_r1, plain_u, plain_u, plain_r1]
      exact c_kept
    · rw [if_neg (by decide), if_neg (by decide), if_neg (by decide), if_neg (by decide), if_neg (by decide), if_neg (by decide), l, l, l, r, r, r, plain_r2, plain_r2, plain_r2, plain_r1, plain_u, plain_u, plain_r1]
      exact c_keptR
  · exact idle i2 d1
  · have l : ∀ t : Int, sideL "over" x y t = [(x, t), (y, 1)] := fun t => by unfold sideL; rw [if_neg (by decide), if_neg (by decide), if_neg (by decide), if_pos rfl]
    have r : ∀ t : Int, sideR "over" x y t = [(y, 1)] := fun t => by unfold sideR; rw [if_neg (by decide), if_neg (by decide), if_neg (by decide), if_pos rfl]
    unfold outR putR fst1
    rw [d3]
    rcases hw with rfl | rfl
    · rw [m3 n hn, m3 (n + 1) (by omega)]
      rw [if_pos rfl, if_pos rfl, if_pos rfl, if_pos rfl, if_pos rfl, if_pos rfl, l, l, l, r, r, r, plain_r2, plain_r2, plain_r2, plain_r1, plain_u, plain_u, plain_r1]
      rw [show pl + -((n : Int) - 1) = pl - ((n : Int) - 1) by omega, show pl + (n : Int) * -1 = pl - n by omega, show pl + -(((n + 1 : Nat) : Int) - 1) = pl - n by omega]
      exact c_over
    · rw [show -(-1 : Int) = 1 from rfl, m2 n hn, m2 (n + 1) (by omega)]
      rw [if_neg (by decide), if_neg (by decide), if_neg (by decide), if_neg (by decide), if_neg (by decide), if_neg (by decide), l, l, l, r, r, r, plain_r2, plain_r2, plain_r2, plain_r1, plain_u, plain_u, plain_r1]
      rw [Int.add_zero, Int.mul_one]
      exact c_overR
  · have l : ∀ t : Int, sideL "undone" x y t = [(x, t), (y, t)] := fun t => by unfold sideL; rw [if_neg (by decide), if_neg (by decide), if_neg (by decide), if_neg (by decide)]
    have r : ∀ t : Int, sideR "undone" x y t = [] := fun t => by unfold sideR; rw [if_neg (by decide), if_neg (by decide), if_neg (by decide), if_neg (by decide)]
    unfold outR putR fst1
    rw [d4]
    rcases hw with rfl | rfl
    · rw [m3 n hn, m3 (n + 1) (by omega)]
      rw [if_pos rfl, if_pos rfl, if_pos rfl, if_pos rfl, if_pos rfl, if_pos rfl, l, l, l, r, r, r, plain_r2, plain_r2, plain_r2, plain_r1, plain_r1, plain_u, plain_u, plain_r1, plain_r1]
      rw [show pl + -((n : Int) - 1) = pl - ((n : Int) - 1) by omega, show pl + (n : Int) * -1 = pl - n by omega, show pl + -(((n + 1 : Nat) : Int) - 1) = pl - n by omega]
      exact c_und
    · rw [show -(-1 : Int) = 1 from rfl, m2 n hn, m2 (n + 1) (by omega)]
      rw [if_neg (by decide), if_neg (by decide), if_neg (by decide), if_neg (by decide), if_neg (by decide), if_neg (by decide), l, l, l, r, r, r, plain_r2, plain_r2, plain_r2, plain_r1, plain_r1, plain_u, plain_u, plain_r1, plain_r1]
      rw [Int.add_zero, Int.mul_one]
      exact c_undR
  · have l : ∀ t : Int, sideL "alike" x y t = [(x, t)] := fun t => by unfold sideL; rw [if_neg (by decide), if_pos rfl]
    have r : ∀ t : Int, sideR "alike" x y t = [(y, t)] := fun t => by unfold sideR; rw [if_neg (by decide), if_pos rfl]
    unfold outR putR fst1
    rw [d5, m2 n hn, m2 (n + 1) (by omega)]
    rcases hw with rfl | rfl
    · rw [if_pos rfl, if_pos rfl, if_pos rfl, if_pos rfl, if_pos rfl, if_pos rfl, l, l, l, r, r, r, plain_r1, plain_r1, plain_u, plain_u, plain_r1, plain_r1]
      rw [Int.add_zero, Int.mul_one]
      exact c_alike
    · rw [if_neg (by decide), if_neg (by decide), if_neg (by decide), if_neg (by decide), if_neg (by decide), if_neg (by decide), l, l, l, r, r, r, plain_r1, plain_r1, plain_u, plain_u, plain_r1, plain_r1]
      rw [Int.add_zero, Int.mul_one]
      exact c_alike
theorem drf_still (way : Int) : drf "still" way = 0 := by unfold drf; rw [if_neg (by decide), if_neg (by decide)]
theorem fst_one (k : Str) (pl way : Int) : fst1 k pl way 1 = pl := by
  unfold fst1
  rw [Int.sub_self, Int.mul_zero]
  exact Int.add_zero pl
theorem itW_ch {b k : Str} (hk : k ∈ KL) (x y : Str) {way : Int} (hw : way = 1 ∨ way = -1) (w : List Str) (pl : Int) : ∀ n : Nat, 1 ≤ n → itW b k x y w pl way n = chW b k x y w pl way n
  | 1, _ => by
    show (some w).bind (fun u => chW b k x y u (pl + (0 : Nat) * drf k way) way 1) = _
    rw [show pl + ((0 : Nat) : Int) * drf k way = pl by rw [show ((0 : Nat) : Int) = 0 from rfl, Int.zero_mul, Int.add_zero]]
    rfl
  | n + 2, _ => by
    have ih := itW_ch (b := b) hk x y hw w pl (n + 1) (by omega)
    show (itW b k x y w pl way (n + 1)).bind (fun u => chW b k x y u (pl + (n + 1 : Nat) * drf k way) way 1) = _
    rw [ih]
    refine Option.ext fun v => ?_
    rw [Option.bind_eq_some_iff, chW_some, ← st_step hk x y hw pl (n := n + 1) (by omega)]
    constructor
    · rintro ⟨u, h1, h2⟩
      rw [chW_some] at h1 h2
      rw [fst_one] at h2
      exact ⟨h1.1, u, h1.2, h2.2⟩
    · rintro ⟨hc, u, h1, h2⟩
      refine ⟨u, chW_some.mpr ⟨hc, h1⟩, chW_some.mpr ⟨⟨?_, fun e => ?_⟩, by rw [fst_one]; exact h2⟩⟩
      · obtain ⟨a, b, _, e, _⟩ := h2
        omega
      · refine ⟨(hc.2 e).1, ?_⟩
        rw [e, drf_still, Int.mul_zero, (hc.2 e).2]
        rfl
/-! ### the step back -/
def backP (k : Str) (pl way t : Int) : Int := if k = "alike" then pl else pl + (t - 1) * drf k way
theorem Blk.back {o p : List Str} {n : Int} {w v : List Str} (h : Blk o p n w v) : Blk p o n v w := by
  obtain ⟨a, b, e1, e2, e3⟩ := h
  exact ⟨a, b, e3, e2, e1⟩
theorem chW_back {b k : Str} (hk : k ∈ KL) {x y : Str} {way : Int} (hw : way = 1 ∨ way = -1) {w v : List Str} {pl t : Int} (ht : 1 ≤ t) (h : chW b k x y w pl way t = some v) : 0 ≤ backP k pl way t ∧ chW b k x y v (backP k pl way t) (-way) t = some w := by
  rw [chW_some] at h
  obtain ⟨⟨c1, c2⟩, hb⟩ := h
  have f0 : 0 ≤ fst1 k pl way t := by
    obtain ⟨a, b, _, e, _⟩ := hb
    omega
  have eo : outR k x y (-way) t = putR k x y way t := by
    unfold outR putR
    rcases hw with rfl | rfl
    · rw [if_neg (by decide), if_pos rfl]
    · rw [if_pos (by decide), if_neg (by decide)]
  have ep : putR k x y (-way) t = outR k x y way t := by
    unfold outR putR
    rcases hw with rfl | rfl
    · rw [if_neg (by decide), if_pos rfl]
    · rw [if_pos (by decide), if_neg (by decide)]
  have key : 0 ≤ backP k pl way t ∧ fst1 k (backP k pl way t) (-way) t = fst1 k pl way t := by
    unfold backP fst1 at *
    by_cases q : k = "alike"
    · rw [if_pos q] at *
      subst q
      exact ⟨c1, rfl⟩
    · rw [if_neg q]
      by_cases q2 : k = "over" ∨ k = "undone"
      · have e : ∀ wy, drf k wy = -wy := fun wy => by unfold drf; rw [if_neg q, if_pos q2]
        rw [e] at f0 ⊢
        rw [e]
        rcases hw with rfl | rfl
        · omega
        · omega
      · have e : ∀ wy, drf k wy = 0 := fun wy => by unfold drf; rw [if_neg q, if_neg q2]
        rw [e, e]
        rw [Int.mul_zero, Int.add_zero]
        exact ⟨c1, rfl⟩
  refine ⟨key.1, chW_some.mpr ⟨⟨key.1, fun e => ⟨(c2 e).1, ?_⟩⟩, ?_⟩⟩
  · subst e
    unfold backP
    rw [if_neg (by decide), drf_still, Int.mul_zero, (c2 rfl).2]
    rfl
  · rw [eo, ep, key.2]
    exact hb.back
end Ask

namespace Ask
open PySem L2
/-! ### a step, as a value -/
abbrev Stp := Int × Int × Int × Int
def stOf : List V → Option Stp
  | [.int a, .int b, .int c, .int d] => some (a, b, c, d)
  | _ => none
def isI : V → Bool
  | .int _ => true
  | _ => false
def StV (K : PySem.W.Frag) (H : Hp) (v : V) (o : Option Stp) : Prop := (∃ (a : Addr) (xs : List V), v = .ref a ∧ (SqL K H a xs ∨ SqT K H a xs) ∧ (∀ x ∈ xs, Fl x) ∧ o = stOf xs) ∨
  (o = none ∧ ∃ t, TyX K H v t ∧ PySem.W.kitAny K t [.type "list", .type "tuple"] = some false)
def stB (o : Option Stp) (m : Int) : Bool := match o with
  | some (r, p, w, t) => decide (0 ≤ r) && (decide (r < m) && (decide (0 ≤ p) && (decide (w = 1 ∨ w = -1) && decide (1 ≤ t))))
  | none => false
theorem StV.same {K : PySem.W.Frag} {H H' : Hp} {v : V} {o : Option Stp} (h : StV K H v o) (s : Same H H') : StV K H' v o := by
  rcases h with ⟨a, xs, e, hS, r⟩ | ⟨e, t, ty, k⟩
  · exact .inl ⟨a, xs, e, seqA_same hS s, r⟩
  · exact .inr ⟨e, t, tyx_same ty s, k⟩
theorem StV.tup {K : PySem.W.Frag} {H : Hp} {q : Addr} {a b c d : Int} (h : H q = some (.tup [.int a, .int b, .int c, .int d])) : StV K H (.ref q) (some (a, b, c, d)) :=
  .inl ⟨q, _, rfl, .inr (SqT.of h), fun x hx => by
    simp only [List.mem_cons, List.not_mem_nil, or_false] at hx
    rcases hx with rfl | rfl | rfl | rfl <;> exact .inr (.inr (.inl ⟨_, rfl⟩)), rfl⟩
theorem stOf_len {xs : List V} {s : Stp} (h : stOf xs = some s) : xs.length = 4 ∧ xs.all isI = true := by
  unfold stOf at h
  split at h
  · exact ⟨rfl, rfl⟩
  · cases h
theorem stOf_all {xs : List V} (h1 : xs.length = 4) (h2 : xs.all isI = true) : ∃ a b c d, xs = [.int a, .int b, .int c, .int d] := by
  match xs, h1 with
  | [x, y, z, u], _ =>
    simp only [List.all_cons, List.all_nil, Bool.and_true, Bool.and_eq_true] at h2
    obtain ⟨p1, p2, p3, p4⟩ := h2
    cases x with
    | int a => cases y with
      | int b => cases z with
        | int c => cases u with
          | int d => exact ⟨a, b, c, d, rfl⟩
          | _ => cases p4
        | _ => cases p3
      | _ => cases p2
    | _ => cases p1
theorem Fl.wh {K : PySem.W.Frag} {H : Hp} {x : V} (h : Fl x) : ∃ t b c, TyX K H x t ∧ PySem.W.kitOne K t (.type "int") = some b ∧ PySem.W.kitOne K t (.type "bool") = some c ∧ (b && !c) = isI x := by
  rcases h with rfl | ⟨b, rfl⟩ | ⟨i, rfl⟩ | ⟨z, rfl⟩
  · exact ⟨_, _, _, .base .non, kit_ty (by show kitB _ _ = some false; decide +kernel), kit_ty (by show kitB _ _ = some false; decide +kernel), rfl⟩
  · exact ⟨_, _, _, .base (.bl b), kit_ty (by show kitB _ _ = some true; decide +kernel), kit_ty (by show kitB _ _ = some true; decide +kernel), rfl⟩
  · exact ⟨_, _, _, .base (.int i), kit_ty (by show kitB _ _ = some true; decide +kernel), kit_ty (by show kitB _ _ = some false; decide +kernel), rfl⟩
  · exact ⟨_, _, _, .base (.str z), kit_ty (by show kitB _ _ = some false; decide +kernel), kit_ty (by show kitB _ _ = some false; decide +kernel), rfl⟩
theorem map_take1 {α β : Type} {f : α → β} {xs : List α} {i : Nat} {x : α} (h : xs[i]? = some x) : (xs.take (i + 1)).map f = (xs.take i).map f ++ [f x] := by
  rw [List.take_add_one, h, List.map_append]
  rfl
section
variable {P : Program} {w : World} {K : PySem.W.Frag} {mg : Str → Option Value} {base : Heap}
def spIsStep (K : PySem.W.Frag) : Sp := fun vs H Q _ => ∃ (v : V) (o : Option Stp) (m : Int), vs = [v, .int m] ∧ StV K H v o ∧ ∀ H', Same H H' → Q (.bl (stB o m)) H'
abbrev s_is_step : Stmt := top 51
theorem sc_is_step : FnScope ["value", "many", "row", "place", "way", "times", "part"] ["value", "many"] (defScope s_is_step) := ⟨rfl, rfl, rfl, by decide +kernel, rfl, by decide +kernel, by decide +kernel⟩
theorem ok_isStep {f fL fW : Addr} {fd fdL fdW : FuncData} (F : Fun K "is_step" "is_step" s_is_step f fd) (T : Blt mg) (nA : mg "all" = none)
    (G_is_list_of : FnOk P w K mg base CX0 1 fL fdL ["value", "many"] (spListOf K)) (A_is_list_of : At K mg "is_list_of" fL fdL ["value", "many"])
    (G_is_whole : FnOk P w K mg base CX0 1 fW fdW ["value"] (spWhole K)) (A_is_whole : At K mg "is_whole" fW fdW ["value"]) :
    FnOk P w K mg base CX0 2 f fd ["value", "many"] (spIsStep K) := by
  refine F.ok sc_is_step (fun vs H Q E h => ?_) (fun cdv A outer s H vs Q E hr h => ?_)
  · obtain ⟨v, o, m, rfl, _⟩ := h
    rfl
  · obtain ⟨v, o, m, rfl, hv, kq⟩ := h
    have h_is_list_of := hr.mono (j := 1) (by decide)
    have h_is_whole := hr.mono (j := 1) (by decide)
    refine ⟨_, (pss_cons (ps_if (PW.pt (pw_or (pt_not (pt_val (pe_call G_is_list_of (by exact h_is_list_of) (by rfl) A_is_list_of.m A_is_list_of.k A_is_list_of.b .nil pass0 (pa_cons (pv 0) (pa_cons pe_int pa_nil))))) (pw_or1 (pt_not (pt_val (pe_callB (cr_all rfl) (by rfl) nA (by decide +kernel) (pa_cons (pe_lc (own := [("part", 6)]) rfl sc_is_step.nd (pi_or (pi_list (pv 0)) (pi_tup (pv 0))) (blkOk_by (N := ["value", "many", "row", "place", "way", "times", "part"]) (sc := defScope s_is_step) (by decide +kernel)) (fun _ _ _ _ _ => (pg_name (i := 6) sc_is_step.nd rfl (Or.inl rfl))) (fun _ _ _ _ _ => pts_nil) (fun _ _ _ _ _ => (pe_call G_is_whole (by exact h_is_whole) (by rfl) A_is_whole.m A_is_whole.k A_is_whole.b .nil pass0 (pa_cons (pv 6) pa_nil)))) pa_nil))))))) (pss_one (ps_ret pe_bl)) pss_nil)
      (pss_cons (ps_asg (pv 0) (pg_or (pg_tup rfl (pgs_cons (pg_name (i := 2) sc_is_step.nd rfl (Or.inl rfl)) (pgs_cons (pg_name (i := 3) sc_is_step.nd rfl (Or.inl rfl)) (pgs_cons (pg_name (i := 4) sc_is_step.nd rfl (Or.inl rfl)) (pgs_cons (pg_name (i := 5) sc_is_step.nd rfl (Or.inl rfl)) pgs_nil))))) (pg_lst rfl (pgs_cons (pg_name (i := 2) sc_is_step.nd rfl (Or.inl rfl)) (pgs_cons (pg_name (i := 3) sc_is_step.nd rfl (Or.inl rfl)) (pgs_cons (pg_name (i := 4) sc_is_step.nd rfl (Or.inl rfl)) (pgs_cons (pg_name (i := 5) sc_is_step.nd rfl (Or.inl rfl)) pgs_nil)))))))
      (pss_one (ps_ret (pe_and (pe_chain op_le op_lt pe_int (pv 2) (pv 1)) (pe_and (pe_cmpR op_ge (pv 3) pe_int (nomark _)) (pe_and (pe_cmpR op_in_seq (pv 4) (pe_tup (pa_cons pe_int (pa_cons (pe_un un_neg pe_int) pa_nil))) rfl) (pe_one (pe_cmpR op_ge (pv 5) pe_int (nomark _)))))))))), ?_⟩
    rcases hv with ⟨a, xs, rfl, hS, hF, rfl⟩ | ⟨rfl, t, hty, hk⟩
    rotate_left
    · exact ⟨_, rfl, v, t, 4, rfl, hty, .inl ⟨hk, fun H1 s1 => ⟨_, rfl, iteT (kq H1 s1)⟩⟩⟩
    have ht : ∃ t, TyX K H (.ref a) t ∧ PySem.W.kitAny K t [.type "list", .type "tuple"] = some true := by
      rcases hS with hS | hS
      · exact ⟨_, ty_list hS, kitAny_l⟩
      · exact ⟨_, ty_tup hS, kitAny_t⟩
    obtain ⟨t, hty, hk⟩ := ht
    refine ⟨_, rfl, .ref a, t, 4, rfl, hty, .inr ⟨hk, a, xs, rfl, hS, fun H1 s1 => ?_⟩⟩
    by_cases ln : xs.length = 4
    rotate_left
    · have e0 : stOf xs = none := by
        cases e : stOf xs with
        | none => rfl
        | some s => exact absurd (stOf_len e).1 ln
      rw [decide_eq_false (by omega)]
      rw [e0] at kq
      exact ⟨_, rfl, iteT (kq H1 s1)⟩
    rw [decide_eq_true (by omega)]
    refine ⟨_, rfl, iteF ?_⟩
    have hS1 : SqL K H1 a xs ∨ SqT K H1 a xs := seqA_same hS s1
    rcases hS1 with hS1 | hS1
    all_goals
      first
        | refine .inl ⟨_, rfl, a, rfl, ⟨_, hS1⟩, fun D hD => lc_it (walk_list (xs := xs)) (fun i H' => Same H1 H' ∧ H' D = some (.lst (((xs.take i).map isI).map V.bl))) ⟨Ask.Same.upd_new (Same.refl H1) hD, upd_same⟩ (fun i H' _ hh => hh.1.seq hS1) ?_ ?_⟩
        | refine .inr ⟨_, rfl, a, rfl, ⟨_, hS1⟩, fun D hD => lc_it (walk_tup (xs := xs)) (fun i H' => Same H1 H' ∧ H' D = some (.lst (((xs.take i).map isI).map V.bl))) ⟨Ask.Same.upd_new (Same.refl H1) hD, upd_same⟩ (fun i H' _ hh => seqT_same hh.1 hS1) ?_ ?_⟩
      · rintro i x H2 H3 hi ⟨s2, eD⟩ ⟨rfl, hx⟩
        obtain ⟨t, b, c, h1, h2, h3, h4⟩ := (hF x (List.mem_of_getElem? hx)).wh (K := K) (H := H3)
        refine ⟨rfl, _, rfl, x, t, b, c, rfl, h1, h2, h3, ?_⟩
        refine ⟨_, eD, by rw [List.length_map, List.length_map, List.length_take]; show _ < 16777216; omega, Ask.Same.upd_new s2 hD, ?_⟩
        rw [upd_same, map_take1 hx, List.map_append, h4]
        rfl
      · rintro H2 ⟨s2, eD⟩
        rw [List.take_length] at eD
        refine ⟨D, _, rfl, SqL.of eD, _, rfl, ?_⟩
        have ea : (xs.map isI).all id = xs.all isI := by rw [List.all_map]; rfl
        rw [ea]
        by_cases hall : xs.all isI = true
        rotate_left
        · have e0 : stOf xs = none := by
            cases e : stOf xs with
            | none => rfl
            | some s => exact absurd (stOf_len e).2 hall
          rw [e0] at kq
          rw [(Bool.not_eq_true _).mp hall]
          exact iteT (kq H2 (s1.trans s2))
        rw [hall]
        refine iteF ?_
        obtain ⟨r0, p0, w0, t0, rfl⟩ := stOf_all ln hall
        refine ⟨_, rfl, ?_⟩
        first
          | refine .inl ⟨a, _, rfl, seqT_same s2 hS1, rfl, _, _, rfl, _, _, rfl, _, _, rfl, _, _, rfl, rfl, ?_⟩
          | refine .inr ⟨a, _, rfl, s2.seq hS1, rfl, _, _, rfl, _, _, rfl, _, _, rfl, _, _, rfl, rfl, ?_⟩
        replace kq : ∀ H', Same H H' → Q (.bl (decide (0 ≤ r0) && (decide (r0 < m) && (decide (0 ≤ p0) && (decide (w0 = 1 ∨ w0 = -1) && decide (1 ≤ t0)))))) H' := kq
        refine ⟨_, rfl, _, _, rfl, rfl, _, rfl, ite2 (fun q1 => ?_) (fun q1 => ?_)⟩
        rotate_left
        · rw [decide_eq_false (fun z => q1 (decide_eq_true z)), Bool.false_and] at kq
          exact ⟨_, rfl, iteF (kq H2 (s1.trans s2))⟩
        rw [q1, Bool.true_and] at kq
        refine ⟨_, rfl, _, _, rfl, rfl, _, rfl, ite2 (fun q2 => ?_) (fun q2 => ?_)⟩
        rotate_left
        · rw [decide_eq_false (fun z => q2 (decide_eq_true z)), Bool.false_and] at kq
          exact kq H2 (s1.trans s2)
        rw [q2, Bool.true_and] at kq
        refine ⟨_, rfl, _, _, rfl, rfl, _, rfl, ite2 (fun q3 => ?_) (fun q3 => ?_)⟩
        rotate_left
        · rw [decide_eq_false (fun z => q3 (decide_eq_true z)), Bool.false_and] at kq
          exact kq H2 (s1.trans s2)
        rw [show decide (0 ≤ p0) = true from q3, Bool.true_and] at kq
        refine ⟨_, rfl, _, rfl, by show 2 ≤ sizeLine; decide, fun q hq => ⟨q, _, rfl, .inr (SqT.of upd_same), rfl, rfl, _, rfl, ?_⟩⟩
        have s3 := Ask.Same.made1 (o := .tup [.int 1, .int (-1)]) (s1.trans s2) hq
        have ei : inV (.int w0) [.int 1, .int (-1)] = decide (w0 = 1 ∨ w0 = -1) := by
          have e1 : ∀ i : Int, eqV (.int i) (.int w0) = decide (i = w0) := fun i => by
            show (i == w0) = _
            rfl
          unfold inV
          rw [List.any_cons, List.any_cons, List.any_nil, e1, e1]
          by_cases a1 : w0 = 1
          · subst a1; rfl
          · by_cases a2 : w0 = -1
            · subst a2; rfl
            · rw [decide_eq_false (fun z => a1 z.symm), decide_eq_false (fun z => a2 z.symm), decide_eq_false (fun z => z.elim a1 a2)]
              rfl
        refine ite2 (fun q4 => ?_) (fun q4 => ?_)
        rotate_left
        · replace q4 : decide (w0 = 1 ∨ w0 = -1) = false := by rw [← ei]; exact (Bool.not_eq_true _).mp q4
          rw [q4, Bool.false_and] at kq
          exact kq _ s3
        replace q4 : decide (w0 = 1 ∨ w0 = -1) = true := by rw [← ei]; exact q4
        rw [q4, Bool.true_and] at kq
        exact ⟨_, rfl, _, _, rfl, rfl, kq _ s3⟩
/-! ### drift, and the law's own -/
def spDrift : Sp := fun vs H Q _ => ∃ (k : Str) (wy : Int), vs = [.str k, .int wy] ∧ ∀ H', Same H H' → Q (.int (drf k wy)) H'
abbrev s_drift : Stmt := top 52
theorem sc_drift : FnScope ["kind", "way"] ["kind", "way"] (defScope s_drift) := ⟨rfl, rfl, rfl, by decide +kernel, rfl, by decide +kernel, by decide +kernel⟩
theorem ok_drift {f : Addr} {fd : FuncData} (F : Fun K "drift" "drift" s_drift f fd) : FnOk P w K mg base CX0 1 f fd ["kind", "way"] spDrift := by
  refine F.ok sc_drift (fun vs H Q E h => ?_) (fun cdv A outer s H vs Q E hr h => ?_)
  · obtain ⟨k, wy, rfl, _⟩ := h
    rfl
  · obtain ⟨k, wy, rfl, kq⟩ := h
    refine ⟨_, (pss_cons (ps_if (pt_cmpR op_eq (pv 0) pe_str (nomark _)) (pss_one (ps_ret pe_int)) pss_nil)
      (pss_one (ps_ret (pe_ifExp (pt_cmpR op_in_seq (pv 0) (pe_tup (pa_cons pe_str (pa_cons pe_str pa_nil))) rfl) (pe_un un_neg (pv 1)) pe_int)))), ?_⟩
    unfold drf at kq
    refine ⟨_, rfl, rfl, _, rfl, ite2 (fun q1 => ?_) (fun q1 => ?_)⟩
    · rw [if_pos (V.str.inj (of_decide_eq_true q1))] at kq
      exact kq H (Same.refl H)
    rw [if_neg (fun z => q1 (decide_eq_true (congrArg V.str z)))] at kq
    refine ⟨_, rfl, by show 2 ≤ sizeLine; decide, fun q hq => ⟨q, _, rfl, .inr (SqT.of upd_same), rfl, rfl, _, rfl, ?_⟩⟩
    have s1 := Ask.Same.made1 (o := .tup [.str "over", .str "undone"]) (Same.refl H) hq
    show (if inV (.str k) ((["over", "undone"] : List Str).map V.str) = true then _ else _)
    rw [inV_str]
    refine ite2 (fun q2 => ?_) (fun q2 => ?_)
    · rw [if_pos (by simpa using of_decide_eq_true q2)] at kq
      exact ⟨_, rfl, _, rfl, kq _ s1⟩
    · rw [if_neg (fun z => q2 (decide_eq_true (by simpa using z)))] at kq
      exact kq _ s1
abbrev s__law_move : Stmt := top 75
theorem sc__law_move : FnScope ["_law_kind", "_law_way"] ["_law_kind", "_law_way"] (defScope s__law_move) := ⟨rfl, rfl, rfl, by decide +kernel, rfl, by decide +kernel, by decide +kernel⟩
theorem ok_move {f : Addr} {fd : FuncData} (F : Fun K "_law_move" "_law_move" s__law_move f fd) : FnOk P w K mg base CX0 1 f fd ["_law_kind", "_law_way"] spDrift := by
  refine F.ok sc__law_move (fun vs H Q E h => ?_) (fun cdv A outer s H vs Q E hr h => ?_)
  · obtain ⟨k, wy, rfl, _⟩ := h
    rfl
  · obtain ⟨k, wy, rfl, kq⟩ := h
    refine ⟨_, (pss_cons (ps_if (pt_cmpR op_eq (pv 0) pe_str (nomark _)) (pss_one (ps_ret pe_int)) pss_nil)
      (pss_one (ps_ret (pe_ifExp (pt_cmpR op_in_seq (pv 0) (pe_tup (pa_cons pe_str (pa_cons pe_str pa_nil))) rfl) (pe_un un_neg (pv 1)) pe_int)))), ?_⟩
    unfold drf at kq
    refine ⟨_, rfl, rfl, _, rfl, ite2 (fun q1 => ?_) (fun q1 => ?_)⟩
    · rw [if_pos (V.str.inj (of_decide_eq_true q1))] at kq
      exact kq H (Same.refl H)
    rw [if_neg (fun z => q1 (decide_eq_true (congrArg V.str z)))] at kq
    refine ⟨_, rfl, by show 2 ≤ sizeLine; decide, fun q hq => ⟨q, _, rfl, .inr (SqT.of upd_same), rfl, rfl, _, rfl, ?_⟩⟩
    have s1 := Ask.Same.made1 (o := .tup [.str "over", .str "undone"]) (Same.refl H) hq
    show (if inV (.str k) ((["over", "undone"] : List Str).map V.str) = true then _ else _)
    rw [inV_str]
    refine ite2 (fun q2 => ?_) (fun q2 => ?_)
    · rw [if_pos (by simpa using of_decide_eq_true q2)] at kq
      exact ⟨_, rfl, _, rfl, kq _ s1⟩
    · rw [if_neg (fun z => q2 (decide_eq_true (by simpa using z)))] at kq
      exact kq _ s1
end
end Ask

namespace Ask
open PySem L2
section
variable {P : Program} {w : World} {K : PySem.W.Frag} {mg : Str → Option Value} {base : Heap}
/-! ### sides, of many changes -/
def spSidesT (K : PySem.W.Frag) : Sp := fun vs H Q _ => ∃ (ys : List Str) (k x : Str) (s : V) (t : Int), vs = [.str k, .str x, s, .int t] ∧ k ∈ KL ∧ SOk ys k s ∧
  ∀ (H' : Hp) (q l r : Addr) (ls rs : List V), Same H H' → H' q = some (.tup [.ref l, .ref r]) → SqT K H' l ls → PairsV H' ls (sideL k x (yOf s) t) → SqT K H' r rs → PairsV H' rs (sideR k x (yOf s) t) → Q (.ref q) H'
theorem ok_sidesT {f : Addr} {fd : FuncData} (F : Fun K "sides" "sides" s_sides f fd) (Gk : GvK K mg) : FnOk P w K mg base CX0 1 f fd ["kind", "first", "second", "times"] (spSidesT K) := by
  refine F.ok sc_sides (fun vs H Q E h => ?_) (fun cdv A outer s H vs Q E hr h => ?_)
  · obtain ⟨ys, k, x, s, t, rfl, _⟩ := h
    rfl
  · obtain ⟨ys, k, x, s', t, rfl, hk, so, Qk⟩ := h
    obtain ⟨tL, uL, mL, rL, sL⟩ := Gk.lone
    refine ⟨_, (pss_cons (ps_if (pt_cmpR op_in_seq (pv 0) (pe_gv (v := .ref tL) rfl ⟨uL, mL, rL⟩) rfl) (pss_one (ps_ret (pe_tup (pa_cons (pe_tup (pa_cons (pe_tup (pa_cons (pv 1) (pa_cons (pv 3) pa_nil))) pa_nil)) (pa_cons (pe_tup pa_nil) pa_nil))))) pss_nil)
      (pss_cons (ps_if (pt_cmpR op_eq (pv 0) pe_str (nomark _)) (pss_one (ps_ret (pe_tup (pa_cons (pe_tup (pa_cons (pe_tup (pa_cons (pv 1) (pa_cons (pv 3) pa_nil))) pa_nil)) (pa_cons (pe_tup (pa_cons (pe_tup (pa_cons (pv 2) (pa_cons (pv 3) pa_nil))) pa_nil)) pa_nil))))) pss_nil)
      (pss_cons (ps_if (pt_cmpR op_eq (pv 0) pe_str (nomark _)) (pss_one (ps_ret (pe_tup (pa_cons (pe_tup (pa_cons (pe_tup (pa_cons (pv 1) (pa_cons pe_int pa_nil))) (pa_cons (pe_tup (pa_cons (pv 2) (pa_cons (pv 3) pa_nil))) pa_nil))) (pa_cons (pe_tup (pa_cons (pe_tup (pa_cons (pv 1) (pa_cons pe_int pa_nil))) pa_nil)) pa_nil))))) pss_nil)
      (pss_cons (ps_if (pt_cmpR op_eq (pv 0) pe_str (nomark _)) (pss_one (ps_ret (pe_tup (pa_cons (pe_tup (pa_cons (pe_tup (pa_cons (pv 1) (pa_cons (pv 3) pa_nil))) (pa_cons (pe_tup (pa_cons (pv 2) (pa_cons pe_int pa_nil))) pa_nil))) (pa_cons (pe_tup (pa_cons (pe_tup (pa_cons (pv 2) (pa_cons pe_int pa_nil))) pa_nil)) pa_nil))))) pss_nil)
      (pss_one (ps_ret (pe_tup (pa_cons (pe_tup (pa_cons (pe_tup (pa_cons (pv 1) (pa_cons (pv 3) pa_nil))) (pa_cons (pe_tup (pa_cons (pv 2) (pa_cons (pv 3) pa_nil))) pa_nil))) (pa_cons (pe_tup pa_nil) pa_nil))))))))), ?_⟩
    have two : (2 : Nat) ≤ sizeLine := by decide
    have one : (1 : Nat) ≤ sizeLine := by decide
    have mk : ∀ {H1 : Hp} {a : Addr} {o : HO}, H1 a = none → Same H1 (upd H1 a o) := fun h => Ask.Same.made1 (Same.refl _) h
    refine ⟨_, rfl, tL, _, rfl, .inr (sL H), rfl, rfl, _, rfl, ?_⟩
    show (if inV (.str k) (LK.map V.str) = true then _ else _)
    rw [inV_str]
    by_cases lone : k ∈ LK
    · rw [decide_eq_true lone]
      refine iteT ⟨_, rfl, _, rfl, two, fun a1 h1 => ⟨one, fun l hl => ⟨Nat.zero_le _, fun r hr => ⟨two, fun q hq => ?_⟩⟩⟩⟩
      have s1 := (mk (o := HO.tup []) hr).trans (mk (o := HO.tup [.ref l, .ref r]) hq)
      exact Qk _ q l r _ _ ((mk h1).trans ((mk hl).trans s1)) upd_same (SqT.of (s1 _ _ upd_same)) (by unfold sideL; rw [if_pos lone]; exact (PairsV.one (r := (x, t)) upd_same).same ((mk hl).trans s1)) (SqT.of (mk hq _ _ upd_same)) (by unfold sideR; rw [if_pos lone]; exact PairsV.nil)
    rw [decide_eq_false lone]
    refine iteF ?_
    obtain ⟨y, rfl, hy⟩ := so.1 lone
    refine ⟨_, rfl, rfl, _, rfl, ite2 (fun qA => ?_) (fun nA => ?_)⟩
    · have qA := V.str.inj (of_decide_eq_true qA)
      refine ⟨_, rfl, _, rfl, two, fun a1 h1 => ⟨one, fun l hl => ⟨_, rfl, _, rfl, two, fun a2 h2 => ⟨one, fun r hr => ⟨two, fun q hq => ?_⟩⟩⟩⟩⟩
      have s1 := (mk (o := HO.tup [.ref a2]) hr).trans (mk (o := HO.tup [.ref l, .ref r]) hq)
      have s2 := (mk (o := HO.tup [.str y, .int t]) h2).trans s1
      exact Qk _ q l r _ _ ((mk h1).trans ((mk hl).trans s2)) upd_same (SqT.of (s2 _ _ upd_same)) (by unfold sideL; rw [if_neg lone, if_pos qA]; exact (PairsV.one (r := (x, t)) upd_same).same ((mk hl).trans s2)) (SqT.of (mk hq _ _ upd_same)) (by unfold sideR; rw [if_neg lone, if_pos qA]; exact (PairsV.one (r := (y, t)) upd_same).same s1)
    have nA : ¬ k = "alike" := fun z => nA (decide_eq_true (congrArg V.str z))
    refine ⟨_, rfl, rfl, _, rfl, ite2 (fun qB => ?_) (fun nB => ?_)⟩
    · have qB := V.str.inj (of_decide_eq_true qB)
      refine ⟨_, rfl, two, fun a1 h1 => ⟨_, rfl, _, rfl, two, fun a2 h2 => ⟨two, fun l hl => ⟨_, rfl, two, fun a3 h3 => ⟨one, fun r hr => ⟨two, fun q hq => ?_⟩⟩⟩⟩⟩⟩
      have s1 := (mk (o := HO.tup [.ref a3]) hr).trans (mk (o := HO.tup [.ref l, .ref r]) hq)
      have s2 := (mk (o := HO.tup [.str x, .int 1]) h3).trans s1
      have s3 := (mk (o := HO.tup [.ref a1, .ref a2]) hl).trans s2
      have s4 := (mk (o := HO.tup [.str y, .int t]) h2).trans s3
      exact Qk _ q l r _ _ ((mk h1).trans s4) upd_same (SqT.of (s2 _ _ upd_same)) (by unfold sideL; rw [if_neg lone, if_neg nA, if_pos qB]; exact ((PairsV.one (r := (x, 1)) upd_same).same s4).cat ((PairsV.one (r := (y, t)) upd_same).same s3)) (SqT.of (mk hq _ _ upd_same)) (by unfold sideR; rw [if_neg lone, if_neg nA, if_pos qB]; exact (PairsV.one (r := (x, 1)) upd_same).same s1)
    have nB : ¬ k = "kept" := fun z => nB (decide_eq_true (congrArg V.str z))
    refine ⟨_, rfl, rfl, _, rfl, ite2 (fun qC => ?_) (fun nC => ?_)⟩
    · have qC := V.str.inj (of_decide_eq_true qC)
      refine ⟨_, rfl, _, rfl, two, fun a1 h1 => ⟨_, rfl, two, fun a2 h2 => ⟨two, fun l hl => ⟨_, rfl, two, fun a3 h3 => ⟨one, fun r hr => ⟨two, fun q hq => ?_⟩⟩⟩⟩⟩⟩
      have s1 := (mk (o := HO.tup [.ref a3]) hr).trans (mk (o := HO.tup [.ref l, .ref r]) hq)
      have s2 := (mk (o := HO.tup [.str y, .int 1]) h3).trans s1
      have s3 := (mk (o := HO.tup [.ref a1, .ref a2]) hl).trans s2
      have s4 := (mk (o := HO.tup [.str y, .int 1]) h2).trans s3
      exact Qk _ q l r _ _ ((mk h1).trans s4) upd_same (SqT.of (s2 _ _ upd_same)) (by unfold sideL; rw [if_neg lone, if_neg nA, if_neg nB, if_pos qC]; exact ((PairsV.one (r := (x, t)) upd_same).same s4).cat ((PairsV.one (r := (y, 1)) upd_same).same s3)) (SqT.of (mk hq _ _ upd_same)) (by unfold sideR; rw [if_neg lone, if_neg nA, if_neg nB, if_pos qC]; exact (PairsV.one (r := (y, 1)) upd_same).same s1)
    · have nC : ¬ k = "over" := fun z => nC (decide_eq_true (congrArg V.str z))
      refine ⟨_, rfl, _, rfl, two, fun a1 h1 => ⟨_, rfl, _, rfl, two, fun a2 h2 => ⟨two, fun l hl => ⟨Nat.zero_le _, fun r hr => ⟨two, fun q hq => ?_⟩⟩⟩⟩⟩
      have s1 := (mk (o := HO.tup []) hr).trans (mk (o := HO.tup [.ref l, .ref r]) hq)
      have s3 := (mk (o := HO.tup [.ref a1, .ref a2]) hl).trans s1
      have s4 := (mk (o := HO.tup [.str y, .int t]) h2).trans s3
      exact Qk _ q l r _ _ ((mk h1).trans s4) upd_same (SqT.of (s1 _ _ upd_same)) (by unfold sideL; rw [if_neg lone, if_neg nA, if_neg nB, if_neg nC]; exact ((PairsV.one (r := (x, t)) upd_same).same s4).cat ((PairsV.one (r := (y, t)) upd_same).same s3)) (SqT.of (mk hq _ _ upd_same)) (by unfold sideR; rw [if_neg lone, if_neg nA, if_neg nB, if_neg nC]; exact PairsV.nil)
/-! ### exchanged -/
def spExch (K : PySem.W.Frag) : Sp := fun vs H Q _ => ∃ (a b c : Addr) (n : Int) (ks os ps : List V) (rs o p : List Run), vs = [.ref a, .int n, .ref b, .ref c] ∧ SqT K H a ks ∧ PairsV H ks rs ∧ rs.length ≤ 3000 ∧ SqT K H b os ∧ PairsV H os o ∧ o.length ≤ 100 ∧ SqT K H c ps ∧ PairsV H ps p ∧ p.length ≤ 100 ∧ (∀ r ∈ rs, Asc r.1) ∧ (∀ r ∈ o, Asc r.1 ∧ 0 < r.2) ∧ Nm rs ∧ 0 ≤ n ∧
  (∀ r, exR rs n o p = some r → ∀ (H' : Hp) (q : Addr) (us : List V), Same H H' → SqT K H' q us → PairsV H' us r → Q (.ref q) H') ∧ (exR rs n o p = none → ∀ H', Same H H' → Q .non H')
theorem part_parts_of {rs : List Run} {n : Int} {f b : List Run} (h : Nm rs) (h0 : 0 ≤ n) (e : partR rs n = some (f, b)) : Parts rs n f b := part_parts h.1 h.2 h0 e
theorem parts_asc {rs : List Run} {n : Int} {f b : List Run} (p : Parts rs n f b) (h : ∀ r ∈ rs, Asc r.1) : (∀ r ∈ f, Asc r.1) ∧ ∀ r ∈ b, Asc r.1 := by
  refine ⟨fun r hr => ?_, fun r hr => ?_⟩
  · obtain ⟨y, hy, e⟩ := p.mf r hr
    rw [← e]
    exact h y hy
  · obtain ⟨y, hy, e⟩ := p.mb r hr
    rw [← e]
    exact h y hy
theorem join_asc {rs : List Run} (h : ∀ r ∈ rs, Asc r.1) : ∀ r ∈ joinR rs, Asc r.1 := fun r hr => by
  obtain ⟨y, hy, e⟩ := mem_join hr
  rw [← e]
  exact h y hy
theorem splice_length (h t : List Run) : (spliceR h t).length ≤ h.length + t.length := by
  unfold spliceR
  split
  · rename_i l r t' e1
    split
    · rw [List.length_append, List.length_append, List.length_dropLast]
      show h.length - 1 + 1 + t'.length ≤ h.length + (t'.length + 1)
      omega
    · rw [List.length_append]
      exact Nat.le_refl _
  · rw [List.length_append]
    exact Nat.le_refl _
abbrev s_exchanged : Stmt := top 53
theorem sc_exchanged : FnScope ["runs", "place", "taken", "put", "found", "head", "rest"] ["runs", "place", "taken", "put"] (defScope s_exchanged) := ⟨rfl, rfl, rfl, by decide +kernel, rfl, by decide +kernel, by decide +kernel⟩
theorem ok_exch {f fP fZ fJ fS : Addr} {fd fdP fdZ fdJ fdS : FuncData} (F : Fun K "exchanged" "exchanged" s_exchanged f fd)
    (G_parted : FnOk P w K mg base CX0 1 fP fdP ["runs", "size"] (spParted K)) (A_parted : At K mg "parted" fP fdP ["runs", "size"])
    (G_size_of : FnOk P w K mg base CX0 1 fZ fdZ ["runs"] (spSize K)) (A_size_of : At K mg "size_of" fZ fdZ ["runs"])
    (G_joined : FnOk P w K mg base CX0 1 fJ fdJ ["runs"] (spJoined K)) (A_joined : At K mg "joined" fJ fdJ ["runs"])
    (G_spliced : FnOk P w K mg base CX0 1 fS fdS ["head", "tail"] (spSpliced K)) (A_spliced : At K mg "spliced" fS fdS ["head", "tail"]) :
    FnOk P w K mg base CX0 2 f fd ["runs", "place", "taken", "put"] (spExch K) := by
  refine F.ok sc_exchanged (fun vs H Q E h => ?_) (fun cdv A outer s H vs Q E hr h => ?_)
  · obtain ⟨a, b, c, n, ks, os, ps, rs, o, p, rfl, _⟩ := h
    rfl
  · obtain ⟨a, b, c, n, ks, os, ps, rs, o, p, rfl, ha, hR, ln, hb, hO, lo, hc, hP, lp, asR, asO, nm, n0, kS, kN⟩ := h
    have h_parted := hr.mono (j := 1) (by decide)
    have h_size_of := hr.mono (j := 1) (by decide)
    have h_joined := hr.mono (j := 1) (by decide)
    have h_spliced := hr.mono (j := 1) (by decide)
    refine ⟨_, (pss_cons (ps_set (i := 4) sc_exchanged.nd rfl (Or.inl rfl) (pe_call G_parted (by exact h_parted) (by rfl) A_parted.m A_parted.k A_parted.b .nil pass0 (pa_cons (pv 0) (pa_cons (pv 1) pa_nil))))
      (pss_cons (ps_if (pt_cmpR op_isN (pv 4) pe_non (nomark _)) (pss_one (ps_ret pe_non)) pss_nil)
      (pss_cons (ps_asg (pv 4) (pg_tup rfl (pgs_cons (pg_name (i := 5) sc_exchanged.nd rfl (Or.inl rfl)) (pgs_cons (pg_name (i := 6) sc_exchanged.nd rfl (Or.inl rfl)) pgs_nil))))
      (pss_cons (ps_set (i := 4) sc_exchanged.nd rfl (Or.inl rfl) (pe_call G_parted (by exact h_parted) (by rfl) A_parted.m A_parted.k A_parted.b .nil pass0 (pa_cons (pv 6) (pa_cons (pe_call G_size_of (by exact h_size_of) (by rfl) A_size_of.m A_size_of.k A_size_of.b .nil pass0 (pa_cons (pv 2) pa_nil)) pa_nil))))
      (pss_cons (ps_if (PW.pt (pw_or (pt_cmpR op_isN (pv 4) pe_non (nomark _)) (pw_or1 (pt_cmpR (op_neD hr.units) (pe_ix ix_tup (pv 4) pe_int (fun _ _ => rfl)) (pe_call G_joined (by exact h_joined) (by rfl) A_joined.m A_joined.k A_joined.b .nil pass0 (pa_cons (pv 2) pa_nil)) (nomark _))))) (pss_one (ps_ret pe_non)) pss_nil)
      (pss_one (ps_ret (pe_call G_spliced (by exact h_spliced) (by rfl) A_spliced.m A_spliced.k A_spliced.b .nil pass0 (pa_cons (pe_call G_spliced (by exact h_spliced) (by rfl) A_spliced.m A_spliced.k A_spliced.b .nil pass0 (pa_cons (pv 5) (pa_cons (pe_call G_joined (by exact h_joined) (by rfl) A_joined.m A_joined.k A_joined.b .nil pass0 (pa_cons (pv 3) pa_nil)) pa_nil))) (pa_cons (pe_ix ix_tup (pv 4) pe_int (fun _ _ => rfl)) pa_nil)))))))))), ?_⟩
    unfold exR at kS kN
    refine ⟨_, rfl, _, rfl, a, n, ks, rs, rfl, ha, hR, by omega, fun ff bb e1 => ?_, fun e1 => ?_⟩
    rotate_left
    · intro H1 s1
      rw [e1] at kN
      exact ⟨_, rfl, rfl, _, rfl, iteT (kN rfl H1 s1)⟩
    intro H1 t1 x1 y1 xs1 ys1 s1 ht1 hx1 hfx hy1 hfy
    have p1 := part_parts_of nm n0 e1
    have nb : Nm bb := ⟨p1.nb, p1.pb⟩
    have lb := p1.lb
    have lf := p1.lf
    rw [e1] at kN kS
    replace kS : ∀ r, ((partR bb (sizeR o)).bind fun r => if r.1 = joinR o then some (spliceR (spliceR ff (joinR p)) r.2) else none) = some r → ∀ (H' : Hp) (q : Addr) (us : List V), Same H H' → SqT K H' q us → PairsV H' us r → Q (.ref q) H' := kS
    replace kN : ((partR bb (sizeR o)).bind fun r => if r.1 = joinR o then some (spliceR (spliceR ff (joinR p)) r.2) else none) = none → ∀ H', Same H H' → Q .non H' := kN
    refine ⟨_, rfl, rfl, _, rfl, iteF ?_⟩
    refine ⟨_, rfl, t1, _, rfl, SqT.of ht1, rfl, _, _, rfl, _, _, rfl, rfl, ?_⟩
    -- the second part
    refine ⟨_, rfl, _, rfl, b, os, o, rfl, .inr (seqT_same s1 hb), (hO.same s1).runs, by omega, fun H2 s2 => ?_⟩
    have s12 := s1.trans s2
    refine ⟨y1, sizeR o, ys1, bb, rfl, seqT_same s2 hy1, hfy.same s2, by omega, fun xx tt e2 => ?_, fun e2 => ?_⟩
    rotate_left
    · intro H3 s3
      rw [e2] at kN
      exact ⟨_, rfl, rfl, _, rfl, iteT (kN rfl H3 (s12.trans s3))⟩
    intro H3 t3 x3 y3 xs3 ys3 s3 ht3 hx3 hfx3 hy3 hfy3
    rw [e2] at kN kS
    replace kS : ∀ r, (if xx = joinR o then some (spliceR (spliceR ff (joinR p)) tt) else none) = some r → ∀ (H' : Hp) (q : Addr) (us : List V), Same H H' → SqT K H' q us → PairsV H' us r → Q (.ref q) H' := kS
    replace kN : (if xx = joinR o then some (spliceR (spliceR ff (joinR p)) tt) else none) = none → ∀ H', Same H H' → Q .non H' := kN
    have s13 := s12.trans s3
    have hso : 0 ≤ sizeR o := sizeR_nonneg fun r hr => Int.le_of_lt (asO r hr).2
    have p2 := part_parts_of nb hso e2
    refine ⟨_, rfl, rfl, _, rfl, iteF ?_⟩
    refine ⟨_, rfl, t3, _, _, _, rfl, rfl, SqT.of ht3, at_by (j := 0) rfl rfl, _, rfl, b, os, o, rfl, .inr (seqT_same s13 hb), (hO.same s13).runs, by omega, fun H4 t4 k4 s4 ht4 hk4 => ?_⟩
    have ascB : ∀ r ∈ bb, Asc r.1 := (parts_asc p1 asR).2
    have lx := p2.lf
    have ascX : ∀ r ∈ xx, Asc r.1 := (parts_asc p2 ascB).1
    refine ⟨.tuple (xx.map runD), .tuple ((joinR o).map runD), .tup (seqT_same s4 hx3) (dp_runs (hfx3.same s4)), .tup (SqT.of ht4) (dp_runs hk4), shaped_runs ascX, shaped_runs (join_asc fun r hr => (asO r hr).1), ?_⟩
    have s14 := s13.trans s4
    rw [show PyData.eqv (.tuple (xx.map runD)) (.tuple ((joinR o).map runD)) = decide (xx = joinR o) from eqv_runs _ _]
    by_cases q : xx = joinR o
    rotate_left
    · rw [if_neg q] at kN
      rw [decide_eq_false q]
      exact ⟨_, rfl, iteT (kN rfl H4 s14)⟩
    rw [if_pos q] at kS
    rw [decide_eq_true q]
    refine ⟨_, rfl, iteF ?_⟩
    have s34 := s3.trans s4
    have s24 := s2.trans s34
    refine ⟨_, rfl, _, rfl, c, ps, p, rfl, .inr (seqT_same s14 hc), (hP.same s14).runs, by omega, fun H5 t5 k5 s5 ht5 hk5 => ?_⟩
    have s25 := s24.trans s5
    have lj := joinR_len p
    refine ⟨x1, t5, xs1, k5, ff, joinR p, rfl, seqT_same s25 hx1, SqT.of ht5, hfx.same s25, hk5, by omega, by omega, fun H6 c6 k6 s6 hc6 hk6 => ?_⟩
    have l6 := splice_length ff (joinR p)
    have s56 := s5.trans s6
    have lt := p2.lb
    refine ⟨_, rfl, t3, _, _, _, rfl, rfl, SqT.of ((s4.trans s56) _ _ ht3), at_by (j := 1) rfl rfl, c6, y3, k6, ys3, _, tt, rfl, hc6, seqT_same (s4.trans s56) hy3, hk6, hfy3.same (s4.trans s56), by omega, by omega, fun H7 c7 k7 s7 hc7 hk7 => ?_⟩
    exact kS _ rfl H7 c7 k7 (s14.trans (s56.trans s7)) hc7 hk7
end
end Ask

namespace Ask
open PySem L2
theorem ix_any {K : PySem.W.Frag} {H : Hp} {p : Addr} {xs : List V} {i : Int} {v : V} {Q : VK} (hS : SqL K H p xs ∨ SqT K H p xs) (e : atI xs i = some v) (q : Q v H) : rIx K (.ref p) (.int i) H Q := by
  rcases hS with h | h
  · exact .inl ⟨p, xs, i, v, rfl, rfl, h, e, q⟩
  · exact .inr (.inl ⟨p, xs, i, v, rfl, rfl, h, e, q⟩)
/-- a test of one outcome -/
theorem seqIf_b {c : TT} {t v u : TS} {D : Ends} {σ : L2.St} {H : Hp} (b : Bool) (R : Hp → Prop) (h : ∀ Q : Bool → Hp → Prop, (∀ H', R H' → Q b H') → c σ H Q) (k : ∀ H', R H' → if b = true then t { D with nx := u D } σ H' else v { D with nx := u D } σ H') :
    tSeq (tIfS c t v) u D σ H := h _ k
theorem min0 (m : Int) : (if (0 : Int) < m then 0 else m) = min m 0 := by
  by_cases q : 0 < m
  · rw [if_pos q]; omega
  · rw [if_neg q]; omega
abbrev TriS := Str × Str × V
def TriOk (ys : List Str) (t : TriS) : Prop := t.1 ∈ KL ∧ t.2.1 ∈ ys ∧ SOk ys t.1 t.2.2
/-- the program's step, by runs -/
def stR (b k x y : Str) (rs : List Run) (pl way t : Int) : Option (List Run) := if k = "still" ∧ (b ≠ "new" ∨ 0 < pl) then none else if fst1 k pl way t < 0 then none else exR rs (fst1 k pl way t) (outR k x y way t) (putR k x y way t)
theorem side_pos (k x y : Str) {t : Int} (h : 1 ≤ t) : (∀ r ∈ sideL k x y t, 0 < r.2) ∧ ∀ r ∈ sideR k x y t, 0 < r.2 := by
  have one : ∀ (z : Str) (a : Int), 1 ≤ a → ∀ r ∈ ([(z, a)] : List Run), 0 < r.2 := fun z a ha r hr => by
    rw [List.mem_singleton] at hr
    subst hr
    show 0 < a
    omega
  have two : ∀ (z u : Str) (a c : Int), 1 ≤ a → 1 ≤ c → ∀ r ∈ ([(z, a), (u, c)] : List Run), 0 < r.2 := fun z u a c ha hc r hr => by
    rcases List.mem_cons.mp hr with rfl | hr
    · show 0 < a
      omega
    · exact one u c hc r hr
  have nil : ∀ r ∈ ([] : List Run), 0 < r.2 := fun r hr => by cases hr
  unfold sideL sideR
  constructor
  · split
    · exact one _ _ h
    · split
      · exact one _ _ h
      · split
        · exact two _ _ _ _ (by omega) h
        · split
          · exact two _ _ _ _ h (by omega)
          · exact two _ _ _ _ h h
  · split
    · exact nil
    · split
      · exact one _ _ h
      · split
        · exact one _ _ (by omega)
        · split
          · exact one _ _ (by omega)
          · exact nil
theorem side_len (k x y : Str) (t : Int) : (sideL k x y t).length ≤ 2 ∧ (sideR k x y t).length ≤ 2 := by
  unfold sideL sideR
  constructor
  · repeat' split
    all_goals simp
  · repeat' split
    all_goals simp
theorem side_mem {k x y : Str} {t : Int} {r : Run} (h : r ∈ sideL k x y t ∨ r ∈ sideR k x y t) : r.1 = x ∨ (k ∉ LK ∧ r.1 = y) := by
  have one : ∀ (z : Str) (a : Int), r ∈ ([(z, a)] : List Run) → r.1 = z := fun z a hr => by
    rw [List.mem_singleton] at hr
    rw [hr]
  have two : ∀ (z u : Str) (a c : Int), r ∈ ([(z, a), (u, c)] : List Run) → r.1 = z ∨ r.1 = u := fun z u a c hr => by
    rcases List.mem_cons.mp hr with e | hr
    · exact .inl (by rw [e])
    · exact .inr (one u c hr)
  unfold sideL sideR at h
  by_cases l : k ∈ LK
  · rw [if_pos l, if_pos l] at h
    rcases h with h | h
    · exact .inl (one _ _ h)
    · cases h
  rw [if_neg l, if_neg l] at h
  have fin : (r.1 = x ∨ r.1 = y) → r.1 = x ∨ (k ∉ LK ∧ r.1 = y) := fun q => q.imp id fun e => ⟨l, e⟩
  apply fin
  rcases h with h | h
  · split at h
    · exact .inl (one _ _ h)
    · split at h
      · exact two _ _ _ _ h
      · split at h
        · exact two _ _ _ _ h
        · exact two _ _ _ _ h
  · split at h
    · exact .inr (one _ _ h)
    · split at h
      · exact .inl (one _ _ h)
      · split at h
        · exact .inr (one _ _ h)
        · cases h
theorem op_pos (k x y : Str) (way : Int) {t : Int} (h : 1 ≤ t) : (∀ r ∈ outR k x y way t, 0 < r.2) ∧ ∀ r ∈ putR k x y way t, 0 < r.2 := by
  obtain ⟨h1, h2⟩ := side_pos k x y h
  unfold outR putR
  by_cases q : way = 1
  · rw [if_pos q, if_pos q]; exact ⟨h1, h2⟩
  · rw [if_neg q, if_neg q]; exact ⟨h2, h1⟩
theorem op_len (k x y : Str) (way t : Int) : (outR k x y way t).length ≤ 2 ∧ (putR k x y way t).length ≤ 2 := by
  obtain ⟨h1, h2⟩ := side_len k x y t
  unfold outR putR
  by_cases q : way = 1
  · rw [if_pos q, if_pos q]; exact ⟨h1, h2⟩
  · rw [if_neg q, if_neg q]; exact ⟨h2, h1⟩
theorem op_mem {k x y : Str} {way t : Int} {r : Run} (h : r ∈ outR k x y way t ∨ r ∈ putR k x y way t) : r.1 = x ∨ (k ∉ LK ∧ r.1 = y) := by
  unfold outR putR at h
  by_cases q : way = 1
  · rw [if_pos q, if_pos q] at h; exact side_mem h
  · rw [if_neg q, if_neg q] at h; exact side_mem h.symm
theorem tri_mem {ys : List Str} {k x : Str} {s : V} (h : TriOk ys (k, x, s)) {z : Str} (hz : z = x ∨ (k ∉ LK ∧ z = yOf s)) : z ∈ ys := by
  rcases hz with rfl | ⟨l, rfl⟩
  · exact h.2.1
  · obtain ⟨y, e, hy⟩ := h.2.2.1 l
    have e : s = .str y := e
    rw [e]
    exact hy
/-- the step by runs is the step by letters -/
theorem stR_W {b k x y : Str} {rs : List Run} {pl way t : Int} (nm : Nm rs) (h0 : 0 ≤ pl) (ht : 1 ≤ t) : stR b k x y rs pl way t = (chW b k x y (plainR rs) pl way t).map J := by
  obtain ⟨p1, p2⟩ := op_pos k x y way ht
  unfold stR chW
  by_cases q : k = "still" ∧ (b ≠ "new" ∨ 0 < pl)
  · rw [if_pos q, if_neg]
    · rfl
    · rintro ⟨_, z⟩
      obtain ⟨z1, z2⟩ := z q.1
      rcases q.2 with q | q
      · exact q z1
      · omega
  have hc : Cn b k pl := by
    refine ⟨h0, fun e => ⟨?_, ?_⟩⟩
    · exact Decidable.byContradiction fun z => q ⟨e, .inl z⟩
    · exact Decidable.byContradiction fun z => q ⟨e, .inr (by omega)⟩
  rw [if_neg q, if_pos hc]
  by_cases q2 : fst1 k pl way t < 0
  · rw [if_pos q2, if_pos q2]; rfl
  · rw [if_neg q2, if_neg q2]
    exact exR_W nm (by omega) p1 p2
theorem part_len3 : ∀ {rs : List Run} {n : Int} {f b : List Run}, partR rs n = some (f, b) → f.length + b.length ≤ rs.length + 1
  | [], n, f, b, e => by
    unfold partR at e
    split at e
    · cases e; simp
    · cases e
  | r :: rs, n, f, b, e => by
    unfold partR at e
    split at e
    · cases e; simp
    · split at e
      · cases e; simp; omega
      · cases e2 : partR rs (n - r.2) with
        | none => rw [e2] at e; cases e
        | some p =>
          obtain ⟨f', b'⟩ := p
          rw [e2] at e
          cases e
          have := part_len3 e2
          simp only [List.length_cons]
          omega
theorem exR_len {rs o p r : List Run} {n : Int} (h : exR rs n o p = some r) : r.length ≤ rs.length + p.length + 3 := by
  unfold exR at h
  rw [Option.bind_eq_some_iff] at h
  obtain ⟨⟨f, b⟩, e1, h⟩ := h
  rw [Option.bind_eq_some_iff] at h
  obtain ⟨⟨x, t⟩, e2, h⟩ := h
  replace h : (if x = joinR o then some (spliceR (spliceR f (joinR p)) t) else none) = some r := h
  split at h
  · cases h
    have a1 := part_len3 e1
    have a2 : x.length + t.length ≤ b.length + 1 := part_len3 e2
    have a3 := splice_length (spliceR f (joinR p)) t
    have a4 := splice_length f (joinR p)
    have a5 := joinR_len p
    omega
  · cases h
theorem J_mem {w : List Str} {r : Run} (h : r ∈ J w) : r.1 ∈ w := by
  obtain ⟨y, hy, e⟩ := mem_join h
  obtain ⟨z, hz, rfl⟩ := List.mem_map.mp hy
  rw [← e]
  exact hz
theorem stR_ok {ys : List Str} {b k x : Str} {s : V} {rs r : List Run} {pl way t : Int} (nm : Nm rs) (h0 : 0 ≤ pl) (ht : 1 ≤ t) (ok : TriOk ys (k, x, s)) (ol : OfL ys rs) (h : stR b k x (yOf s) rs pl way t = some r) : Nm r ∧ OfL ys r ∧ r.length ≤ rs.length + 5 := by
  have h2 := h
  rw [stR_W nm h0 ht, Option.map_eq_some_iff] at h2
  obtain ⟨v, hv, rfl⟩ := h2
  refine ⟨nm_J v, fun z hz => ?_, ?_⟩
  · have hm := J_mem hz
    rw [chW_some] at hv
    obtain ⟨_, a, c, e1, _, e3⟩ := hv
    subst e3
    have inw : ∀ q, (q ∈ a ∨ q ∈ c) → q ∈ ys := fun q hq => by
      have : q ∈ plainR rs := by
        rw [e1]
        rcases hq with hq | hq
        · exact List.mem_append_left _ (List.mem_append_left _ hq)
        · exact List.mem_append_right _ hq
      obtain ⟨r, hr, e⟩ := plain_mem this
      rw [← e]
      exact ol r hr
    rcases List.mem_append.mp hm with hm | hm
    · rcases List.mem_append.mp hm with hm | hm
      · exact inw _ (.inl hm)
      · obtain ⟨r, hr, e⟩ := plain_mem hm
        rw [← e]
        exact tri_mem ok (op_mem (.inr hr))
    · exact inw _ (.inr hm)
  · unfold stR at h
    split at h
    · cases h
    · split at h
      · cases h
      · have a1 := exR_len h
        have a2 := (op_len k x (yOf s) way t).2
        omega
/-- steps one behind the other -/
def stepO (b : Str) (ts : List TriS) (rs : List Run) (o : Option Stp) : Option (List Run) := match o with
  | none => none
  | some (r, p, w, t) => if stB (some (r, p, w, t)) ts.length = true then (ts[r.toNat]?).bind fun tr => stR b tr.1 tr.2.1 (yOf tr.2.2) rs p w t else none
def walkR (b : Str) (ts : List TriS) : List Run → List (Option Stp) → Option (List Run)
  | rs, [] => some rs
  | rs, o :: os => (stepO b ts rs o).bind fun r => walkR b ts r os
def leB (b c : Str) (ts : List TriS) (rs ss : List Run) : Option (List (Option Stp)) → Bool
  | none => false
  | some os => decide (b = c) && decide (walkR b ts rs os = some ss)
theorem stB_true {r p w t m : Int} (h : stB (some (r, p, w, t)) m = true) : 0 ≤ r ∧ r < m ∧ 0 ≤ p ∧ (w = 1 ∨ w = -1) ∧ 1 ≤ t := by
  simpa [stB] using h
section
variable {P : Program} {w : World} {K : PySem.W.Frag} {mg : Str → Option Value} {base : Heap}
def spStepped (K : PySem.W.Frag) (CL CS : Addr) : Sp := fun vs H Q _ => ∃ (a sp st : Addr) (ys : List Str) (b k x : Str) (s : V) (ks us : List V) (rs : List Run) (r p wy t : Int), vs = [.str b, .ref a, .ref sp, .ref st] ∧ SqT K H a ks ∧ PairsV H ks rs ∧ rs.length ≤ 3000 ∧ Nm rs ∧ OfL ys rs ∧ Plain ys ∧ SenAt K CL CS H sp ys k x s ∧ TriOk ys (k, x, s) ∧
  (SqL K H st us ∨ SqT K H st us) ∧ us = [.int r, .int p, .int wy, .int t] ∧ 0 ≤ p ∧ (wy = 1 ∨ wy = -1) ∧ 1 ≤ t ∧
  (∀ ss, stR b k x (yOf s) rs p wy t = some ss → ∀ (H' : Hp) (q : Addr) (us : List V), Same H H' → SqT K H' q us → PairsV H' us ss → Q (.ref q) H') ∧ (stR b k x (yOf s) rs p wy t = none → ∀ H', Same H H' → Q .non H')
abbrev s_stepped : Stmt := top 54
theorem sc_stepped : FnScope ["beginning", "runs", "sentence", "step", "place", "way", "times", "moved", "first", "left", "right"] ["beginning", "runs", "sentence", "step"] (defScope s_stepped) := ⟨rfl, rfl, rfl, by decide +kernel, rfl, by decide +kernel, by decide +kernel⟩
theorem ok_stepped {f fD fS fX CL CS : Addr} {fd fdD fdS fdX : FuncData} (F : Fun K "stepped" "stepped" s_stepped f fd) (T : Blt mg) (hC : SnC K CS)
    (G_drift : FnOk P w K mg base CX0 1 fD fdD ["kind", "way"] spDrift) (A_drift : At K mg "drift" fD fdD ["kind", "way"])
    (G_sides : FnOk P w K mg base CX0 1 fS fdS ["kind", "first", "second", "times"] (spSidesT K)) (A_sides : At K mg "sides" fS fdS ["kind", "first", "second", "times"])
    (G_exchanged : FnOk P w K mg base CX0 2 fX fdX ["runs", "place", "taken", "put"] (spExch K)) (A_exchanged : At K mg "exchanged" fX fdX ["runs", "place", "taken", "put"]) :
    FnOk P w K mg base CX0 3 f fd ["beginning", "runs", "sentence", "step"] (spStepped K CL CS) := by
  refine F.ok sc_stepped (fun vs H Q E h => ?_) (fun cdv A outer s H vs Q E hr h => ?_)
  · obtain ⟨a, sp, st, ys, b, k, x, s, ks, us, rs, r, p, wy, t, rfl, _⟩ := h
    rfl
  · obtain ⟨a, sp, st, ys, b, k, x, s', ks, us, rs, r, p, wy, t, rfl, ha, hR, ln, nm, ol, py, ⟨dx, m, tt, hs, hM⟩, ok, hst, rfl, p0, hw, t1, kS, kN⟩ := h
    have h_drift := hr.mono (j := 1) (by decide)
    have h_sides := hr.mono (j := 1) (by decide)
    have h_exchanged := hr.mono (j := 2) (by decide)
    refine ⟨_, (pss_cons (ps_asg (pe_slice (SlR.or sl_list sl_tupA) (pv 3) (po_some pe_int) po_none) (pg_or (pg_tup rfl (pgs_cons (pg_name (i := 4) sc_stepped.nd rfl (Or.inl rfl)) (pgs_cons (pg_name (i := 5) sc_stepped.nd rfl (Or.inl rfl)) (pgs_cons (pg_name (i := 6) sc_stepped.nd rfl (Or.inl rfl)) pgs_nil)))) (pg_lst rfl (pgs_cons (pg_name (i := 4) sc_stepped.nd rfl (Or.inl rfl)) (pgs_cons (pg_name (i := 5) sc_stepped.nd rfl (Or.inl rfl)) (pgs_cons (pg_name (i := 6) sc_stepped.nd rfl (Or.inl rfl)) pgs_nil))))))
      (pss_cons (ps_if (PW.pt (pw_and (pt_cmpR op_eq (pe_fld (pv 2) rfl) pe_str (nomark _)) (pw_and1 (PW.pt (pw_or (pt_cmpR op_ne (pv 0) pe_str (nomark _)) (pw_or1 (pt_cmpR op_gt (pv 4) pe_int (nomark _)))))))) (pss_one (ps_ret pe_non)) pss_nil)
      (pss_cons (ps_set (i := 7) sc_stepped.nd rfl (Or.inl rfl) (pe_op op_mul (pe_call G_drift (by exact h_drift) (by rfl) A_drift.m A_drift.k A_drift.b .nil pass0 (pa_cons (pe_fld (pv 2) rfl) (pa_cons (pv 5) pa_nil))) (pe_op op_sub (pv 6) pe_int)))
      (pss_cons (ps_set (i := 8) sc_stepped.nd rfl (Or.inl rfl) (pe_op op_add (pv 4) (pe_callB (call_min2 rfl) (by rfl) T.n_min (by decide +kernel) (pa_cons (pv 7) (pa_cons pe_int pa_nil)))))
      (pss_cons (ps_if (pt_cmpR op_lt (pv 8) pe_int (nomark _)) (pss_one (ps_ret pe_non)) pss_nil)
      (pss_cons (ps_asg (pe_call G_sides (by exact h_sides) (by rfl) A_sides.m A_sides.k A_sides.b .nil pass0 (pa_cons (pe_fld (pv 2) rfl) (pa_cons (pe_fld (pv 2) rfl) (pa_cons (pe_fld (pv 2) rfl) (pa_cons (pv 6) pa_nil))))) (pg_tup rfl (pgs_cons (pg_name (i := 9) sc_stepped.nd rfl (Or.inl rfl)) (pgs_cons (pg_name (i := 10) sc_stepped.nd rfl (Or.inl rfl)) pgs_nil))))
      (pss_cons (ps_if (pt_cmpR op_eq (pv 5) pe_int (nomark _)) (pss_one (ps_ret (pe_call G_exchanged (by exact h_exchanged) (by rfl) A_exchanged.m A_exchanged.k A_exchanged.b .nil pass0 (pa_cons (pv 1) (pa_cons (pv 8) (pa_cons (pv 9) (pa_cons (pv 10) pa_nil))))))) pss_nil)
      (pss_one (ps_ret (pe_call G_exchanged (by exact h_exchanged) (by rfl) A_exchanged.m A_exchanged.k A_exchanged.b .nil pass0 (pa_cons (pv 1) (pa_cons (pv 8) (pa_cons (pv 10) (pa_cons (pv 9) pa_nil)))))))))))))), ?_⟩
    have e3 : cutV ([.int r, .int p, .int wy, .int t] : List V) (some 1) none = [.int p, .int wy, .int t] := rfl
    obtain ⟨op1, op2⟩ := op_pos k x (yOf s') wy t1
    obtain ⟨ol1, ol2⟩ := op_len k x (yOf s') wy t
    have oin : ∀ z : Run, (z ∈ outR k x (yOf s') wy t ∨ z ∈ putR k x (yOf s') wy t) → z.1 ∈ ys := fun z hz => tri_mem ok (op_mem hz)
    rcases hst with hst | hst
    all_goals
      first
        | refine ⟨_, rfl, _, rfl, .inl ⟨st, _, rfl, hst, fun q0 hq0 => .inr ⟨q0, _, rfl, SqL.of upd_same, rfl, _, _, rfl, _, _, rfl, _, _, rfl, rfl, ?_⟩⟩⟩
        | refine ⟨_, rfl, _, rfl, .inr (sl_any hst fun H1 q0 s1 hq0 => .inl ⟨q0, _, rfl, hq0, rfl, _, _, rfl, _, _, rfl, _, _, rfl, rfl, ?_⟩)⟩
      first
        | (have s1 := Ask.Same.made1 (o := .lst (cutV [.int r, .int p, .int wy, .int t] (some 1) none)) (Same.refl H) hq0
           generalize upd H q0 (.lst (cutV [.int r, .int p, .int wy, .int t] (some 1) none)) = H1 at s1 ⊢)
        | skip
      try dsimp only
      refine seqIf_b (decide (k = "still" ∧ (b ≠ "new" ∨ 0 < p))) (fun H' => H' = H1) (fun Q' hQ => ?_) ?_
      · replace hQ := hQ H1 rfl
        refine ⟨_, rfl, sp, CS, dx, _, _, rfl, s1 _ _ hs, hC.c, hC.a2, rfl, rfl, _, rfl, ite2 (fun q1 => ?_) (fun q1 => ?_)⟩
        · have q1 : k = "still" := V.str.inj (of_decide_eq_true q1)
          refine ⟨_, rfl, rfl, _, rfl, ite2 (fun q2 => ?_) (fun q2 => ?_)⟩
          · have q2 : b ≠ "new" := fun z => by
              rw [decide_eq_true (congrArg V.str z)] at q2
              cases q2
            rw [decide_eq_true ⟨q1, .inl q2⟩] at hQ
            exact hQ
          · have q2 : b = "new" := Decidable.byContradiction fun z => q2 (by rw [decide_eq_false (fun y => z (V.str.inj y))]; rfl)
            refine ⟨_, rfl, _, _, rfl, rfl, _, rfl, ?_⟩
            have e : decide (k = "still" ∧ (b ≠ "new" ∨ 0 < p)) = decide (0 < p) := by
              by_cases z : 0 < p
              · rw [decide_eq_true z, decide_eq_true ⟨q1, .inr z⟩]
              · rw [decide_eq_false z, decide_eq_false (fun y => y.2.elim (fun n => n q2) z)]
            rw [e] at hQ
            exact hQ
        · have q1 : ¬ k = "still" := fun z => q1 (decide_eq_true (congrArg V.str z))
          rw [decide_eq_false (fun y => q1 y.1)] at hQ
          exact hQ
      rintro _ rfl
      unfold stR at kS kN
      by_cases q : k = "still" ∧ (b ≠ "new" ∨ 0 < p)
      · rw [if_pos q] at kN
        rw [decide_eq_true q]
        exact iteT (kN rfl _ s1)
      rw [if_neg q] at kN kS
      rw [decide_eq_false q]
      refine iteF ?_
      have d1 : -(2 ^ 64) < drf k wy ∧ drf k wy < 2 ^ 64 := by
        unfold drf
        split
        · decide
        · split
          · rcases hw with rfl | rfl <;> decide
          · decide
      refine ⟨_, rfl, sp, CS, dx, _, _, rfl, s1 _ _ hs, hC.c, hC.a2, rfl, _, rfl, k, wy, rfl, fun H2 s2 => ⟨_, rfl, _, _, rfl, rfl, _, _, rfl, rfl, .inl d1, ?_⟩⟩
      have s12 := s1.trans s2
      refine ⟨_, rfl, _, rfl, _, _, rfl, _, _, rfl, rfl, ?_⟩
      rw [min0]
      replace kS : ∀ ss, (if fst1 k p wy t < 0 then none else exR rs (fst1 k p wy t) (outR k x (yOf s') wy t) (putR k x (yOf s') wy t)) = some ss → _ := kS
      show tSeq _ _ _ [some (.str b), some (.ref a), some (.ref sp), some (.ref st), some (.int p), some (.int wy), some (.int t), some (.int (drf k wy * (t - 1))), some (.int (fst1 k p wy t)), none, none] H2
      by_cases q2 : fst1 k p wy t < 0
      · rw [if_pos q2] at kN
        exact ⟨_, rfl, _, _, rfl, rfl, _, rfl, by rw [decide_eq_true q2]; exact iteT (kN rfl _ s12)⟩
      rw [if_neg q2] at kN kS
      refine ⟨_, rfl, _, _, rfl, rfl, _, rfl, ?_⟩
      rw [decide_eq_false q2]
      refine iteF ?_
      have hs2 := s12 _ _ hs
      refine ⟨_, rfl, sp, CS, dx, _, _, rfl, hs2, hC.c, hC.a2, rfl, _, rfl, sp, CS, dx, _, _, rfl, hs2, hC.c, hC.a3, rfl, _, rfl, sp, CS, dx, _, _, rfl, hs2, hC.c, hC.a4, rfl, _, rfl, ys, k, x, s', t, rfl, ok.1, ok.2.2, fun H3 g l r' ls rs' s3 hg hl pl hr' pr => ?_⟩
      refine ⟨g, _, rfl, SqT.of hg, rfl, _, _, rfl, _, _, rfl, rfl, ?_⟩
      have s13 := s12.trans s3
      have asc : ∀ {zs : List Run}, (∀ z ∈ zs, z.1 ∈ ys) → ∀ z ∈ zs, Asc z.1 := fun h z hz => (py _ (h z hz)).2
      refine ⟨_, rfl, rfl, _, rfl, ?_⟩
      unfold outR putR at kS kN oin
      unfold outR at op1 ol1
      unfold putR at op2 ol2
      rcases hw with rfl | rfl
      · rw [if_pos rfl, if_pos rfl] at kS kN oin
        rw [if_pos rfl] at op1 op2 ol1 ol2
        refine iteT ⟨_, rfl, _, rfl, _, rfl, _, rfl, a, l, r', _, ks, ls, rs', rs, _, _, rfl, seqT_same s13 ha, hR.same s13, ln, hl, pl, by omega, hr', pr, by omega, asc ol, fun z hz => ⟨asc (fun z hz => oin z (.inl hz)) z hz, op1 z hz⟩, nm, by omega, fun ss e H' q us s4 h1 h2 => kS ss e H' q us (s13.trans s4) h1 h2, fun e H' s4 => kN e H' (s13.trans s4)⟩
      · rw [if_neg (by decide), if_neg (by decide)] at kS kN oin
        rw [if_neg (by decide)] at op1 op2 ol1 ol2
        refine iteF ⟨_, rfl, _, rfl, _, rfl, _, rfl, a, r', l, _, ks, rs', ls, rs, _, _, rfl, seqT_same s13 ha, hR.same s13, ln, hr', pr, by omega, hl, pl, by omega, asc ol, fun z hz => ⟨asc (fun z hz => oin z (.inl hz)) z hz, op1 z hz⟩, nm, by omega, fun ss e H' q us s4 h1 h2 => kS ss e H' q us (s13.trans s4) h1 h2, fun e H' s4 => kN e H' (s13.trans s4)⟩
end
end Ask

namespace Ask
open PySem L2
def SensL (K : PySem.W.Frag) (CL CS : Addr) (H : Hp) (ys : List Str) (vs : List V) (ts : List TriS) : Prop := vs.length = ts.length ∧ ∀ (i : Nat) (v : V) (t : TriS), vs[i]? = some v → ts[i]? = some t → ∃ p, v = .ref p ∧ SenAt K CL CS H p ys t.1 t.2.1 t.2.2
theorem SensL.same {K : PySem.W.Frag} {CL CS : Addr} {H H' : Hp} {ys : List Str} {vs : List V} {ts : List TriS} (h : SensL K CL CS H ys vs ts) (s : Same H H') : SensL K CL CS H' ys vs ts :=
  ⟨h.1, fun i v t h1 h2 => let ⟨p, e, q⟩ := h.2 i v t h1 h2; ⟨p, e, q.same s⟩⟩
def StsV (K : PySem.W.Frag) (H : Hp) (v : V) (oo : Option (List (Option Stp))) : Prop := (∃ (d : Addr) (xs : List V) (os : List (Option Stp)), v = .ref d ∧ (SqL K H d xs ∨ SqT K H d xs) ∧ xs.length = os.length ∧ os.length ≤ 100 ∧ (∀ (i : Nat) (x : V) (o : Option Stp), xs[i]? = some x → os[i]? = some o → StV K H x o) ∧ oo = some os) ∨
  (oo = none ∧ ∃ t, TyX K H v t ∧ PySem.W.kitAny K t [.type "list", .type "tuple"] = some false)
theorem StsV.same {K : PySem.W.Frag} {H H' : Hp} {v : V} {o : Option (List (Option Stp))} (h : StsV K H v o) (s : Same H H') : StsV K H' v o := by
  rcases h with ⟨d, xs, os, e, hS, l1, l2, hx, r⟩ | ⟨e, t, ty, k⟩
  · exact .inl ⟨d, xs, os, e, seqA_same hS s, l1, l2, fun i x o h1 h2 => (hx i x o h1 h2).same s, r⟩
  · exact .inr ⟨e, t, tyx_same ty s, k⟩
theorem stOf_some {xs : List V} {r p w t : Int} (h : stOf xs = some (r, p, w, t)) : xs = [.int r, .int p, .int w, .int t] := by
  obtain ⟨h1, h2⟩ := stOf_len h
  obtain ⟨a, b, c, d, rfl⟩ := stOf_all h1 h2
  injection h with h
  injection h with e1 h
  injection h with e2 h
  injection h with e3 e4
  subst e1 e2 e3 e4
  rfl
theorem seqA_ty {K : PySem.W.Frag} {H : Hp} {a : Addr} {xs : List V} (hS : SqL K H a xs ∨ SqT K H a xs) : ∃ t, TyX K H (.ref a) t ∧ PySem.W.kitAny K t [.type "list", .type "tuple"] = some true := by
  rcases hS with hS | hS
  · exact ⟨_, ty_list hS, kitAny_l⟩
  · exact ⟨_, ty_tup hS, kitAny_t⟩
section
variable {P : Program} {w : World} {K : PySem.W.Frag} {mg : Str → Option Value} {base : Heap}
def spLeads (K : PySem.W.Frag) (CL CH CS : Addr) : Sp := fun vs H Q _ => ∃ (a p q : Addr) (v : V) (ys : List Str) (b c : Str) (us : List V) (ts : List TriS) (rs ss : List Run) (oo : Option (List (Option Stp))), vs = [.ref a, .ref p, .ref q, v] ∧ (SqL K H a us ∨ SqT K H a us) ∧ SensL K CL CS H ys us ts ∧ (∀ t ∈ ts, TriOk ys t) ∧ Plain ys ∧ HistAt K CL CH H p ys b rs ∧ HistAt K CL CH H q ys c ss ∧ rs.length ≤ 1000 ∧ Nm rs ∧ OfL ys rs ∧ OfL ys ss ∧ StsV K H v oo ∧
  ∀ H', Same H H' → Q (.bl (leB b c ts rs ss oo)) H'
abbrev s_leads : Stmt := top 55
theorem sc_leads : FnScope ["sentences", "first", "last", "steps", "runs", "step"] ["sentences", "first", "last", "steps"] (defScope s_leads) := ⟨rfl, rfl, rfl, by decide +kernel, rfl, by decide +kernel, by decide +kernel⟩
theorem ok_leads {f fI fT CL CH CS : Addr} {fd fdI fdT : FuncData} (F : Fun K "leads" "leads" s_leads f fd) (T : Blt mg) (hC : HsC K CH)
    (G_is_step : FnOk P w K mg base CX0 2 fI fdI ["value", "many"] (spIsStep K)) (A_is_step : At K mg "is_step" fI fdI ["value", "many"])
    (G_stepped : FnOk P w K mg base CX0 3 fT fdT ["beginning", "runs", "sentence", "step"] (spStepped K CL CS)) (A_stepped : At K mg "stepped" fT fdT ["beginning", "runs", "sentence", "step"]) :
    FnOk P w K mg base CX0 4 f fd ["sentences", "first", "last", "steps"] (spLeads K CL CH CS) := by
  refine F.ok sc_leads (fun vs H Q E h => ?_) (fun cdv A outer s H vs Q E hr h => ?_)
  · obtain ⟨a, p, q, v, ys, b, c, us, ts, rs, ss, oo, rfl, _⟩ := h
    rfl
  · obtain ⟨a, p, q, v, ys, b, c, us, ts, rs, ss, oo, rfl, hA, hT, tok, py, ⟨dx, m, t0, c1, ks, hp, hM, hc1, hks⟩, ⟨dx', m', t1, c2, ls, hq, hM', hc2, hls⟩, ln, nm, ol, ol2, hv, kq⟩ := h
    have h_is_step := hr.mono (j := 2) (by decide)
    have h_stepped := hr.mono (j := 3) (by decide)
    refine ⟨_, (pss_cons (ps_if (PW.pt (pw_or (pt_not (pt_val (pe_callB call_isiT (by rfl) T.n_isinstance (by decide +kernel) (pa_cons (pv 3) (pa_cons (pe_tup (pa_cons (pe_bltn (v := .ty "list") (u := .type "list") rfl T.n_list (by decide +kernel) rfl) (pa_cons (pe_bltn (v := .ty "tuple") (u := .type "tuple") rfl T.n_tuple (by decide +kernel) rfl) pa_nil))) pa_nil))))) (pw_or1 (pt_cmpR op_ne (pe_fld (pv 1) rfl) (pe_fld (pv 2) rfl) (nomark _))))) (pss_one (ps_ret pe_bl)) pss_nil)
      (pss_cons (ps_set (i := 4) sc_leads.nd rfl (Or.inl rfl) (pe_fld (pv 1) rfl))
      (pss_cons (ps_for PassesOwn.never rfl (pi_or (pi_list (pv 3)) (pi_tup (pv 3))) (pg_name (i := 5) sc_leads.nd rfl (Or.inl rfl)) (pss_cons (ps_if (pt_not (pt_val (pe_call G_is_step (by exact h_is_step) (by rfl) A_is_step.m A_is_step.k A_is_step.b .nil pass0 (pa_cons (pv 5) (pa_cons (pe_callB call_len_seq (by rfl) T.n_len (by decide +kernel) (pa_cons (pv 0) pa_nil)) pa_nil))))) (pss_one (ps_ret pe_bl)) pss_nil)
      (pss_cons (ps_set (i := 4) sc_leads.nd rfl (Or.inl rfl) (pe_call G_stepped (by exact h_stepped) (by rfl) A_stepped.m A_stepped.k A_stepped.b .nil pass0 (pa_cons (pe_fld (pv 1) rfl) (pa_cons (pv 4) (pa_cons (pe_ix ix_seq (pv 0) (pe_ix ix_seq (pv 5) pe_int (fun _ _ => rfl)) (fun _ _ => rfl)) (pa_cons (pv 5) pa_nil))))))
      (pss_one (ps_if (pt_cmpR op_isN (pv 4) pe_non (nomark _)) (pss_one (ps_ret pe_bl)) pss_nil)))))
      (pss_one (ps_ret (pe_cmpR (op_eqD hr.units) (pv 4) (pe_fld (pv 2) rfl) (nomark _))))))), ?_⟩
    have tup2 : ∀ {q0 : Addr}, H q0 = none → Same H (upd H q0 (.tup [.ty "list", .ty "tuple"])) := fun h => Ask.Same.made1 (Same.refl H) h
    rcases hv with ⟨d, xs, os, rfl, hS, lx, lo, hx, rfl⟩ | ⟨rfl, t, ty, ka⟩
    rotate_left
    · exact ⟨_, rfl, by show 2 ≤ sizeLine; decide, fun q0 hq0 => ⟨v, q0, _, t, _, false, rfl, upd_same, .cons (.ty _) (.cons (.ty _) .nil), tyx_same ty (tup2 hq0), ka, _, rfl, iteT (kq _ (tup2 hq0))⟩⟩
    obtain ⟨t, ty, ka⟩ := seqA_ty hS
    refine ⟨_, rfl, by show 2 ≤ sizeLine; decide, fun q0 hq0 => ⟨_, q0, _, t, _, true, rfl, upd_same, .cons (.ty _) (.cons (.ty _) .nil), tyx_same ty (tup2 hq0), ka, _, rfl, iteF ?_⟩⟩
    have s1 := tup2 hq0
    generalize upd H q0 (.tup [.ty "list", .ty "tuple"]) = H1 at s1 ⊢
    replace kq : ∀ H', Same H H' → Q (.bl (decide (b = c) && decide (walkR b ts rs os = some ss))) H' := kq
    have hp1 := s1 _ _ hp
    have hq1 := s1 _ _ hq
    refine ⟨_, rfl, p, CH, dx, _, _, rfl, hp1, hC.c, hC.a2, rfl, _, rfl, q, CH, dx', _, _, rfl, hq1, hC.c, hC.a2, rfl, rfl, _, rfl, ite2 (fun e => ?_) (fun e => ?_)⟩
    · have e : ¬ b = c := fun z => by
        rw [decide_eq_true (congrArg V.str z)] at e
        cases e
      rw [decide_eq_false e, Bool.false_and] at kq
      exact kq H1 s1
    have e : b = c := Decidable.byContradiction fun z => e (by rw [decide_eq_false (fun y => z (V.str.inj y))]; rfl)
    rw [decide_eq_true e, Bool.true_and] at kq
    subst e
    refine ⟨_, rfl, p, CH, dx, _, _, rfl, hp1, hC.c, hC.a3, rfl, ?_⟩
    -- the loop
    have hS1 := seqA_same hS s1
    obtain ⟨J', G, wk, hG, fits⟩ : ∃ (J : It) (G : Hp → Prop), Walk J xs.length G (YAt xs) ∧ (∀ H', Same H H' → G H') ∧
        ∀ (R : It → Hp → Prop), R J H1 → (iList K (tVar 3) [some (.ref a), some (.ref p), some (.ref q), some (.ref d), some (.ref c1), none] H1 R ∨ iTup K (tVar 3) [some (.ref a), some (.ref p), some (.ref q), some (.ref d), some (.ref c1), none] H1 R) := by
      rcases hS with hS | hS
      · exact ⟨Itl K d, _, walk_list, fun H' s' => s'.seq hS, fun R r => .inl ⟨_, rfl, d, rfl, ⟨_, s1.seq hS⟩, r⟩⟩
      · exact ⟨Itt K d, _, walk_tup, fun H' s' => seqT_same s' hS, fun R r => .inr ⟨_, rfl, d, rfl, ⟨_, seqT_same s1 hS⟩, r⟩⟩
    try dsimp only
    refine for_any fits wk (fun i σ' H' => ∃ (c' : Addr) (ks' : List V) (rs' : List Run) (o5 : Option V), σ' = [some (.ref a), some (.ref p), some (.ref q), some (.ref d), some (.ref c'), o5] ∧ Same H H' ∧ SqT K H' c' ks' ∧ PairsV H' ks' rs' ∧ Nm rs' ∧ OfL ys rs' ∧ rs'.length ≤ rs.length + 5 * i ∧ walkR b ts rs os = walkR b ts rs' (os.drop i))
      ⟨c1, ks, rs, none, rfl, s1, seqT_same s1 hc1, hks.same s1, nm, ol, by omega, by rw [List.drop_zero]⟩ (fun i σ' H' _ ⟨_, _, _, _, _, s', _⟩ => hG H' s') ?_ ?_
    · rintro i x σ' H2 H3 hi ⟨c', ks', rs', o5, rfl, s2, hc', hk', nm', ol', ln', ew⟩ ⟨rfl, hxi⟩
      obtain ⟨o, hoi⟩ : ∃ o, os[i]? = some o := ⟨_, List.getElem?_eq_getElem (by omega)⟩
      have hio := (List.getElem?_eq_some_iff.mp hoi)
      have hsv := (hx i x o hxi hoi).same s2
      have ew2 : walkR b ts rs os = (stepO b ts rs' o).bind fun r => walkR b ts r (os.drop (i + 1)) := by
        rw [ew, List.drop_eq_getElem_cons hio.1, hio.2]
        rfl
      have hT2 := hT.same s2
      have hA2 := seqA_same hA s2
      have elen : us.length = ts.length := hT.1
      refine ⟨_, rfl, _, rfl, a, us, rfl, hA2, x, o, _, rfl, hsv, fun H4 s4 => ?_⟩
      have s24 := s2.trans s4
      by_cases hb : stB o us.length = true
      rotate_left
      · rw [(Bool.not_eq_true _).mp hb]
        refine ⟨_, rfl, iteT ?_⟩
        have e0 : stepO b ts rs' o = none := by
          unfold stepO
          split
          · rfl
          · rw [if_neg (by rw [← elen]; exact hb)]
        rw [ew2, e0] at kq
        rw [decide_eq_false (by intro z; cases z)] at kq
        exact kq _ s24
      rw [hb]
      refine ⟨_, rfl, iteF ?_⟩
      obtain ⟨r, p0, wy, tm, rfl⟩ : ∃ r p w t, o = some (r, p, w, t) := by
        cases o with
        | none => cases hb
        | some o => exact ⟨o.1, o.2.1, o.2.2.1, o.2.2.2, rfl⟩
      obtain ⟨b1, b2, b3, b4, b5⟩ := stB_true hb
      rcases hsv with ⟨st, vs, rfl, hst, hfl, eo⟩ | ⟨z, _⟩
      rotate_left
      · cases z
      have evs := stOf_some eo.symm
      obtain ⟨tr, htr⟩ : ∃ tr, ts[r.toNat]? = some tr := ⟨_, List.getElem?_eq_getElem (by omega)⟩
      obtain ⟨u, hu⟩ : ∃ u, us[r.toNat]? = some u := ⟨_, List.getElem?_eq_getElem (by omega)⟩
      obtain ⟨sp, rfl, hsp⟩ := (hT2.same s4).2 _ _ _ hu htr
      obtain ⟨k, z, s'⟩ := tr
      have tk := tok _ (List.mem_of_getElem? htr)
      have e0 : stepO b ts rs' (some (r, p0, wy, tm)) = stR b k z (yOf s') rs' p0 wy tm := by
        unfold stepO
        dsimp only
        rw [if_pos (by rw [← elen]; exact hb), htr]
        rfl
      rw [e0] at ew2
      have hst4 := seqA_same hst s4
      refine ⟨_, rfl, p, CH, dx, _, _, rfl, s24 _ _ hp, hC.c, hC.a2, rfl, _, rfl, _, rfl, _, rfl, ix_any hst4 (by rw [evs]; exact at_by (j := 0) rfl rfl) (ix_any (seqA_same hA2 s4) (at_by (j := r.toNat) (by omega) hu) ⟨_, rfl, ?_⟩)⟩
      refine ⟨c', sp, st, ys, b, k, z, s', ks', vs, rs', r, p0, wy, tm, rfl, seqT_same s4 hc', hk'.same s4, by omega, nm', ol', py, hsp, tk, hst4, evs, b3, b4, b5, fun ss2 e2 H5 g gs s5 hg hgs => ?_, fun e2 H5 s5 => ?_⟩
      · obtain ⟨n1, n2, n3⟩ := stR_ok nm' b3 b5 tk ol' e2
        refine ⟨_, rfl, rfl, _, rfl, iteF ?_⟩
        refine ⟨g, gs, ss2, _, rfl, s24.trans s5, hg, hgs, n1, n2, by omega, ?_⟩
        rw [ew2, e2]
        rfl
      · refine ⟨_, rfl, rfl, _, rfl, iteT ?_⟩
        rw [ew2, e2] at kq
        rw [decide_eq_false (by intro z; cases z)] at kq
        exact kq _ (s24.trans s5)
    · rintro σ' H2 ⟨c', ks', rs', o5, rfl, s2, hc', hk', nm', ol', ln', ew⟩
      rw [lx, List.drop_length] at ew
      refine ⟨_, rfl, _, rfl, q, CH, dx', _, _, rfl, s2 _ _ hq, hC.c, hC.a3, rfl, runsD rs', runsD ss, .tup hc' (dp_runs hk'), .tup (seqT_same s2 hc2) (dp_runs (hls.same s2)), shaped_runs (ol'.asc py), shaped_runs (ol2.asc py), ?_⟩
      rw [eqv_runs]
      rw [ew] at kq
      have e : decide (walkR b ts rs' [] = some ss) = decide (rs' = ss) := by
        by_cases z : rs' = ss
        · rw [decide_eq_true z, decide_eq_true (by rw [z]; rfl)]
        · rw [decide_eq_false z, decide_eq_false (show ¬ walkR b ts rs' [] = some ss from fun y => z (Option.some.inj y))]
      rw [e] at kq
      exact kq H2 s2
/-! ### is_chain -/
def spChain (K : PySem.W.Frag) (CL CH CS : Addr) : Sp := fun vs H Q _ => ∃ (a p q : Addr) (v : V) (ys zs : List Str) (b c : Str) (us : List V) (ts : List TriS) (rs ss : List Run) (oo : Option (List (Option Stp))), vs = [.ref a, .ref p, .ref q, v] ∧ (SqL K H a us ∨ SqT K H a us) ∧ us.length ≤ 1000 ∧ SensL K CL CS H ys us ts ∧ (∀ t ∈ ts, TriOk ys t) ∧ Plain ys ∧ Plain zs ∧ HistAt K CL CH H p ys b rs ∧ HistAt K CL CH H q zs c ss ∧ rs.length ≤ 1000 ∧ Nm rs ∧ OfL ys rs ∧ OfL zs ss ∧ StsV K H v oo ∧
  ∀ H', Same H H' → Q (.bl (decide (zs = ys) && leB b c ts rs ss oo)) H'
abbrev s_is_chain : Stmt := top 57
theorem sc_is_chain : FnScope ["sentences", "first", "last", "steps", "letters", "sentence"] ["sentences", "first", "last", "steps"] (defScope s_is_chain) := ⟨rfl, rfl, rfl, by decide +kernel, rfl, by decide +kernel, by decide +kernel⟩
theorem ok_chain {f fI fQ CL CH CS : Addr} {fd fdI fdQ : FuncData} (F : Fun K "is_chain" "is_chain" s_is_chain f fd) (T : Blt mg) (nA : mg "any" = none) (hC : HsC K CH) (hS : SnC K CS)
    (GQ : FnOk P w K mg base CX0 1 fQ fdQ ["self", "other"] (spEq2 CL)) (bQ : Binds K fdQ ["self", "other"] []) (nQ : OwnNe K CL fQ)
    (G_leads : FnOk P w K mg base CX0 4 fI fdI ["sentences", "first", "last", "steps"] (spLeads K CL CH CS)) (A_leads : At K mg "leads" fI fdI ["sentences", "first", "last", "steps"]) :
    FnOk P w K mg base CX0 5 f fd ["sentences", "first", "last", "steps"] (spChain K CL CH CS) := by
  refine F.ok sc_is_chain (fun vs H Q E h => ?_) (fun cdv A outer s H vs Q E hr h => ?_)
  · obtain ⟨a, p, q, v, ys, zs, b, c, us, ts, rs, ss, oo, rfl, _⟩ := h
    rfl
  · obtain ⟨a, p, q, v, ys, zs, b, c, us, ts, rs, ss, oo, rfl, hA, lu, hT, tok, py, pz, hP, hQ', ln, nm, ol, ol2, hv, kq⟩ := h
    have h_leads := hr.mono (j := 4) (by decide)
    have h_eq := hr.mono (j := 2) (by decide)
    refine ⟨_, (pss_cons (ps_set (i := 4) sc_is_chain.nd rfl (Or.inr rfl) (pe_fld (pv 1) rfl))
      (pss_cons (ps_if (PW.pt (pw_or (pt_cmpR (op_neI (C := CL) (E := E0) GQ (by exact h_eq) bQ pass0 nQ) (pe_fld (pv 2) rfl) (pv 4) (nomark _)) (pw_or1 (pt_val (pe_callB (cr_any rfl) (by rfl) nA (by decide +kernel) (pa_cons (pe_lc (own := [("sentence", 5)]) rfl sc_is_chain.nd (pi_or (pi_list (pv 0)) (pi_tup (pv 0))) (blkOk_by (N := ["sentences", "first", "last", "steps", "letters", "sentence"]) (sc := defScope s_is_chain) (by decide +kernel)) (fun _ _ _ _ _ => (pg_name (i := 5) sc_is_chain.nd rfl (Or.inl rfl))) (fun _ _ _ _ _ => pts_nil) (fun _ _ _ _ _ => (pe_cmpR (op_neI (C := CL) (E := E0) GQ (by exact h_eq) bQ pass0 nQ) (show PE _ _ (tFld K _ "letters") from pe_fld (pv 5) rfl) (pv 4) (nomark _)))) pa_nil)))))) (pss_one (ps_ret pe_bl)) pss_nil)
      (pss_one (ps_ret (pe_call G_leads (by exact h_leads) (by rfl) A_leads.m A_leads.k A_leads.b .nil pass0 (pa_cons (pv 0) (pa_cons (pv 1) (pa_cons (pv 2) (pa_cons (pv 3) pa_nil))))))))), ?_⟩
    obtain ⟨dx, m, t0, c1, ks, hp, hM, hc1, hks⟩ := id hP
    obtain ⟨dx', m', t1, c2, ls, hq, hM', hc2, hls⟩ := id hQ'
    obtain ⟨d1, o1, e1, _⟩ := id hM
    obtain ⟨d2, o2, g1, _⟩ := id hM'
    refine ⟨_, rfl, p, CH, dx, _, _, rfl, hp, hC.c, hC.a1, rfl, ?_⟩
    refine ⟨_, rfl, q, CH, dx', _, _, rfl, hq, hC.c, hC.a1, rfl, _, rfl, m', m, d2, d1, _, _, rfl, rfl, g1, e1, m', t1, m, t0, zs, ys, rfl, hM', hM, pz, py, _, rfl, _, rfl, ?_⟩
    rw [eqv_strs]
    by_cases ez : zs = ys
    rotate_left
    · rw [decide_eq_false ez, Bool.false_and] at kq
      rw [decide_eq_false ez]
      exact iteT (kq H (Same.refl H))
    rw [decide_eq_true ez, Bool.true_and] at kq
    rw [decide_eq_true ez]
    subst ez
    refine iteF ?_
    have hF : ∀ (H' : Hp) (D : Addr), Same H H' → H' D = some (.lst ((List.replicate us.length false).map V.bl)) → spLeads K CL CH CS [.ref a, .ref p, .ref q, v] H' Q E0 := fun H' D s' _ =>
      ⟨a, p, q, v, zs, b, c, us, ts, rs, ss, oo, rfl, seqA_same hA s', hT.same s', tok, py, hP.same s', hQ'.same s', ln, nm, ol, ol2, hv.same s', fun H2 s2 => kq H2 (s'.trans s2)⟩
    rcases hA with hA | hA
    all_goals
      first
        | refine .inl ⟨_, rfl, a, rfl, ⟨_, hA⟩, fun D hD => lc_it (walk_list (xs := us)) (fun i H' => Same H H' ∧ H' D = some (.lst ((List.replicate i false).map V.bl))) ⟨Ask.Same.upd_new (Same.refl H) hD, upd_same⟩ (fun i H' _ hh => hh.1.seq hA) ?_ ?_⟩
        | refine .inr ⟨_, rfl, a, rfl, ⟨_, hA⟩, fun D hD => lc_it (walk_tup (xs := us)) (fun i H' => Same H H' ∧ H' D = some (.lst ((List.replicate i false).map V.bl))) ⟨Ask.Same.upd_new (Same.refl H) hD, upd_same⟩ (fun i H' _ hh => seqT_same hh.1 hA) ?_ ?_⟩
      · rintro i x H2 H3 hi ⟨s2, eD⟩ ⟨rfl, hx⟩
        obtain ⟨tr, htr⟩ : ∃ tr, ts[i]? = some tr := ⟨_, List.getElem?_eq_getElem (by rw [← hT.1]; exact hi)⟩
        obtain ⟨sp, rfl, hsp⟩ := (hT.same s2).2 _ _ _ hx htr
        obtain ⟨d3, m3, t3, h3, hM3⟩ := hsp
        obtain ⟨d4, o4, e4, _⟩ := id hM3
        refine ⟨rfl, _, rfl, sp, CS, d3, _, _, rfl, h3, hS.c, hS.a1, rfl, _, rfl, m3, m, d4, d1, _, _, rfl, rfl, e4, s2 _ _ e1, m3, t3, m, t0, zs, zs, rfl, hM3, hM.same s2, py, py, _, rfl, ?_⟩
        refine ⟨_, eD, by rw [List.length_map, List.length_replicate]; show _ < 16777216; omega, Ask.Same.upd_new s2 hD, ?_⟩
        rw [upd_same, eqv_strs, decide_eq_true rfl, List.replicate_succ', List.map_append]
        rfl
      · rintro H2 ⟨s2, eD⟩
        refine ⟨D, _, rfl, SqL.of eD, _, rfl, ?_⟩
        rw [show (List.replicate us.length false).any id = false from List.any_eq_false.mpr fun x hx => by rw [List.eq_of_mem_replicate hx]; decide]
        exact iteF ⟨_, rfl, _, rfl, _, rfl, _, rfl, hF H2 D s2 eD⟩
end
end Ask

namespace Ask
open PySem L2

theorem plain_snd1 : ∀ {rs : List Run}, (∀ r ∈ rs, r.2 = 1) → rs.map (·.1) = plainR rs
  | [], _ => rfl
  | r :: rs, h => by
    have e : plainR (r :: rs) = plainR [r] ++ plainR rs := plainR_app [r] rs
    have e2 : r = (r.1, 1) := by rw [← h r (List.mem_cons_self ..)]
    rw [e, ← plain_snd1 fun x hx => h x (List.mem_cons_of_mem _ hx)]
    rw [e2, plain_u]
    rfl
theorem sd_plain (k x : Str) (s : V) : (sdL k x s).map (·.1) = plainR (sideL k x (yOf s) 1) ∧ (sdR k x s).map (·.1) = plainR (sideR k x (yOf s) 1) := by
  have e1 : sdL k x s = sideL k x (yOf s) 1 := by
    unfold sdL sideL
    repeat' split
    all_goals rfl
  have e2 : sdR k x s = sideR k x (yOf s) 1 := by
    unfold sdR sideR
    repeat' split
    all_goals rfl
  have u1 : ∀ r ∈ sideL k x (yOf s) 1, r.2 = 1 := by
    unfold sideL
    repeat' split
    all_goals (intro r hr; simp at hr; first | (rw [hr]) | (rcases hr with hr | hr <;> rw [hr]))
  have u2 : ∀ r ∈ sideR k x (yOf s) 1, r.2 = 1 := by
    unfold sideR
    repeat' split
    all_goals (intro r hr; simp at hr; try (rw [hr]))
  rw [e1, e2]
  exact ⟨plain_snd1 u1, plain_snd1 u2⟩
theorem eqv_strsL (ys zs : List Str) : PyData.eqv (.list (ys.map PyData.str)) (.list (zs.map PyData.str)) = decide (ys = zs) := by
  rw [PyData.eqv]
  exact eqvAll_strs ys zs
theorem eqv_runsL (rs ss : List Run) : PyData.eqv (.list (rs.map runD)) (.list (ss.map runD)) = decide (rs = ss) := by
  rw [PyData.eqv]
  exact eqvAll_runs rs ss
theorem cutV_mid (xs : List V) (a b : Nat) (h : a ≤ xs.length) (hb : a ≤ b) : cutV xs (some (a : Int)) (some (b : Int)) = (xs.drop a).take (b - a) := by
  unfold cutV
  rw [HT.sIx_nat, HT.sIx_nat, Nat.min_eq_left h]
  by_cases q : b ≤ xs.length
  · rw [Nat.min_eq_left q]
  · rw [Nat.min_eq_right (by omega), List.take_of_length_le (by rw [List.length_drop]; omega), List.take_of_length_le (by rw [List.length_drop]; omega)]
section
variable {P : Program} {w : World} {K : PySem.W.Frag} {mg : Str → Option Value} {base : Heap}
/-! ### a single change, by the law -/
def spSingle (K : PySem.W.Frag) : Sp := fun vs H Q _ => ∃ (a tr : Addr) (ys : List Str) (b k x : Str) (s : V) (ws : List Str) (pl wy : Int), vs = [.str b, .ref a, .ref tr, .int pl, .int wy] ∧ SqL K H a (ws.map V.str) ∧ ws.length ≤ 5000 ∧ Plain ys ∧ (∀ z ∈ ws, z ∈ ys) ∧ H tr = some (.tup [.str k, .str x, s]) ∧ TriOk ys (k, x, s) ∧ (wy = 1 ∨ wy = -1) ∧
  (∀ v, chW b k x (yOf s) ws pl wy 1 = some v → ∀ (H' : Hp) (q : Addr), Same H H' → H q = none → H' q = some (.lst (v.map V.str)) → Q (.ref q) H') ∧ (chW b k x (yOf s) ws pl wy 1 = none → ∀ H', Same H H' → Q .non H')
abbrev s__law_single : Stmt := top 74
theorem sc__law_single : FnScope ["_law_beginning_here", "_law_word_here", "_law_triple", "_law_place", "_law_way", "_law_out", "_law_put"] ["_law_beginning_here", "_law_word_here", "_law_triple", "_law_place", "_law_way"] (defScope s__law_single) := ⟨rfl, rfl, rfl, by decide +kernel, rfl, by decide +kernel, by decide +kernel⟩
theorem ok_single {f fL fR : Addr} {fd fdL fdR : FuncData} (F : Fun K "_law_single" "_law_single" s__law_single f fd) (T : Blt mg)
    (G__law_left : FnOk P w K mg base CX0 1 fL fdL ["_law_triple"] (spSide sdL)) (A__law_left : At K mg "_law_left" fL fdL ["_law_triple"])
    (G__law_right : FnOk P w K mg base CX0 1 fR fdR ["_law_triple"] (spSide sdR)) (A__law_right : At K mg "_law_right" fR fdR ["_law_triple"]) :
    FnOk P w K mg base CX0 2 f fd ["_law_beginning_here", "_law_word_here", "_law_triple", "_law_place", "_law_way"] (spSingle K) := by
  refine F.ok sc__law_single (fun vs H Q E h => ?_) (fun cdv A outer s H vs Q E hr h => ?_)
  · obtain ⟨a, tr, ys, b, k, x, s, ws, pl, wy, rfl, _⟩ := h
    rfl
  · obtain ⟨a, tr, ys, b, k, x, s', ws, pl, wy, rfl, hS, lw, py, wy', ht, tk, hw, kS, kN⟩ := h
    have h__law_left := hr.mono (j := 1) (by decide)
    have h__law_right := hr.mono (j := 1) (by decide)
    refine ⟨_, (pss_cons (ps_par (i := 5) (j := 6) rfl sc__law_single.nd rfl rfl (by decide) rfl rfl (pa_cons (pe_call G__law_left (by exact h__law_left) (by rfl) A__law_left.m A__law_left.k A__law_left.b .nil pass0 (pa_cons (pv 2) pa_nil)) (pa_cons (pe_call G__law_right (by exact h__law_right) (by rfl) A__law_right.m A__law_right.k A__law_right.b .nil pass0 (pa_cons (pv 2) pa_nil)) pa_nil)) (by rfl))
      (pss_cons (ps_if (pt_cmpR op_eq (pv 4) (pe_un un_neg pe_int) (nomark _)) (pss_one (ps_par (i := 5) (j := 6) rfl sc__law_single.nd rfl rfl (by decide) rfl rfl (pa_cons (pv 6) (pa_cons (pv 5) pa_nil)) (by rfl))) pss_nil)
      (pss_cons (ps_if (PW.pt (pw_and (pt_cmpR op_eq (pe_ix ix_tup (pv 2) pe_int (fun _ _ => rfl)) pe_str (nomark _)) (pw_and1 (PW.pt (pw_or (pt_cmpR op_ne (pv 0) pe_str (nomark _)) (pw_or1 (pt_cmpR op_ne (pv 3) pe_int (nomark _)))))))) (pss_one (ps_ret pe_non)) pss_nil)
      (pss_cons (ps_if (PW.pt (pw_or (pt_cmpR op_lt (pv 3) pe_int (nomark _)) (pw_or (pt_cmpR op_gt (pv 3) (pe_callB call_len_seq (by rfl) T.n_len (by decide +kernel) (pa_cons (pv 1) pa_nil)) (nomark _)) (pw_or1 (pt_cmpR (op_neD hr.units) (pe_slice sl_list (pv 1) (po_some (pv 3)) (po_some (pe_op op_add (pv 3) (pe_callB call_len_seq (by rfl) T.n_len (by decide +kernel) (pa_cons (pv 5) pa_nil))))) (pv 5) (nomark _)))))) (pss_one (ps_ret pe_non)) pss_nil)
      (pss_one (ps_ret (pe_op op_cat (pe_op op_cat (pe_slice sl_list (pv 1) po_none (po_some (pv 3))) (pv 6)) (pe_slice sl_list (pv 1) (po_some (pe_op op_add (pv 3) (pe_callB call_len_seq (by rfl) T.n_len (by decide +kernel) (pa_cons (pv 5) pa_nil)))) po_none)))))))), ?_⟩
    obtain ⟨sd1, sd2⟩ := sd_plain k x s'
    have lo : (plainR (sideL k x (yOf s') 1)).length ≤ 2 ∧ (plainR (sideR k x (yOf s') 1)).length ≤ 2 := by
      rw [← sd1, ← sd2, List.length_map, List.length_map]
      unfold sdL sdR
      constructor
      · repeat' split
        all_goals simp
      · repeat' split
        all_goals simp
    refine ⟨_, rfl, tr, ys, k, x, s', rfl, ht, tk.1, tk.2.2, fun H1 q1 s1 h1 => ?_⟩
    refine ⟨_, rfl, tr, ys, k, x, s', rfl, s1 _ _ ht, tk.1, tk.2.2, fun H2 q2 s2 h2 => ?_⟩
    rw [sd1] at h1
    rw [sd2] at h2
    have s02 := s1.trans s2
    replace h1 := s2 _ _ h1
    refine ⟨_, _, rfl, ?_⟩
    try dsimp only
    -- out, put
    refine seqIf_mid (fun σ' H' => H' = H2 ∧ ∃ o p : Addr, σ' = [some (.str b), some (.ref a), some (.ref tr), some (.int pl), some (.int wy), some (.ref o), some (.ref p)] ∧ H2 o = some (.lst ((plainR (outR k x (yOf s') wy 1)).map V.str)) ∧ H2 p = some (.lst ((plainR (putR k x (yOf s') wy 1)).map V.str))) (fun N hN => ?_) ?_
    · unfold outR putR at hN
      refine ⟨_, rfl, _, rfl, rfl, _, rfl, ?_⟩
      rcases hw with rfl | rfl
      · rw [if_pos rfl, if_pos rfl] at hN
        refine ite2 (fun z => absurd (V.int.inj (of_decide_eq_true z)) (by decide)) (fun _ => hN _ _ ⟨rfl, q1, q2, rfl, h1, h2⟩)
      · rw [if_neg (by decide), if_neg (by decide)] at hN
        refine ite2 (fun _ => ⟨_, rfl, _, rfl, _, _, rfl, hN _ _ ⟨rfl, q2, q1, rfl, h2, h1⟩⟩) (fun z => absurd (decide_eq_true rfl) z)
    rintro σ' H2 ⟨rfl, o, p, rfl, ho, hp⟩
    have lout : (plainR (outR k x (yOf s') wy 1)).length ≤ 2 ∧ (plainR (putR k x (yOf s') wy 1)).length ≤ 2 := by
      unfold outR putR
      by_cases q : wy = 1
      · rw [if_pos q, if_pos q]; exact lo
      · rw [if_neg q, if_neg q]; exact lo.symm
    have oin : ∀ z ∈ plainR (outR k x (yOf s') wy 1), z ∈ ys := fun z hz => by
      obtain ⟨r, hr, e⟩ := plain_mem hz
      rw [← e]
      exact tri_mem tk (op_mem (.inl hr))
    unfold chW at kS kN
    rw [fst_one] at kS kN
    generalize plainR (outR k x (yOf s') wy 1) = O at *
    generalize plainR (putR k x (yOf s') wy 1) = U at *
    have z1 : (100000 : Nat) ≤ sizeLine := by decide
    have hS2 := s02.seq hS
    have ht2 := s02 _ _ ht
    -- still
    have i0 : atI [V.str k, .str x, s'] 0 = some (.str k) := at_by (j := 0) rfl rfl
    refine seqIf_b (decide (k = "still" ∧ (b ≠ "new" ∨ pl ≠ 0))) (fun H' => H' = H2) (fun Q' hQ => ?_) ?_
    · replace hQ := hQ H2 rfl
      refine ⟨_, rfl, tr, _, _, _, rfl, rfl, SqT.of ht2, i0, rfl, _, rfl, ite2 (fun q1 => ?_) (fun q1 => ?_)⟩
      · have q1 : k = "still" := V.str.inj (of_decide_eq_true q1)
        refine ⟨_, rfl, rfl, _, rfl, ite2 (fun q2 => ?_) (fun q2 => ?_)⟩
        · have q2 : b ≠ "new" := fun z => by
            rw [decide_eq_true (congrArg V.str z)] at q2
            cases q2
          rw [decide_eq_true ⟨q1, .inl q2⟩] at hQ
          exact hQ
        · have q2 : b = "new" := Decidable.byContradiction fun z => q2 (by rw [decide_eq_false (fun y => z (V.str.inj y))]; rfl)
          refine ⟨_, rfl, rfl, _, rfl, ?_⟩
          have e : decide (k = "still" ∧ (b ≠ "new" ∨ pl ≠ 0)) = !decide (V.int pl = V.int 0) := by
            by_cases z : pl = 0
            · rw [decide_eq_true (congrArg V.int z), decide_eq_false (fun y => y.2.elim (fun n => n q2) (fun n => n z))]
              rfl
            · rw [decide_eq_false (fun y => z (V.int.inj y)), decide_eq_true ⟨q1, .inr z⟩]
              rfl
          rw [e] at hQ
          exact hQ
      · have q1 : ¬ k = "still" := fun z => q1 (decide_eq_true (congrArg V.str z))
        rw [decide_eq_false (fun y => q1 y.1)] at hQ
        exact hQ
    rintro H2 rfl
    by_cases q : k = "still" ∧ (b ≠ "new" ∨ pl ≠ 0)
    · rw [decide_eq_true q]
      refine iteT (kN (if_neg ?_) _ s02)
      rintro ⟨_, z⟩
      obtain ⟨z1, z2⟩ := z q.1
      exact q.2.elim (fun n => n z1) (fun n => n z2)
    rw [decide_eq_false q]
    refine iteF ?_
    -- the stretch
    have hcn : 0 ≤ pl → Cn b k pl := fun h0 => ⟨h0, fun e => ⟨Decidable.byContradiction fun z => q ⟨e, .inl z⟩, Decidable.byContradiction fun z => q ⟨e, .inr z⟩⟩⟩
    try dsimp only [tNext]
    refine seqIf_b (!decide (0 ≤ pl ∧ pl.toNat + O.length ≤ ws.length ∧ (ws.drop pl.toNat).take O.length = O)) (fun H' => Same H' H' ∧ Same H2 H') (fun Q' hQ => ?_) ?_
    · refine ⟨_, rfl, _, _, rfl, rfl, _, rfl, ite2 (fun p0 => ?_) (fun p0 => ?_)⟩
      · have p0 : pl < 0 := of_decide_eq_true p0
        have := hQ H2 ⟨Same.refl _, Same.refl _⟩
        rw [decide_eq_false (fun z => by omega)] at this
        exact this
      have p0 : ¬ pl < 0 := fun z => p0 (decide_eq_true z)
      refine ⟨_, rfl, _, rfl, a, _, rfl, .inl hS2, _, _, rfl, rfl, _, rfl, ite2 (fun p1 => ?_) (fun p1 => ?_)⟩
      · have p1 : ((ws.map V.str).length : Int) < pl := of_decide_eq_true p1
        rw [List.length_map] at p1
        have := hQ H2 ⟨Same.refl _, Same.refl _⟩
        rw [decide_eq_false (fun z => by omega)] at this
        exact this
      have p1 : ¬ ((ws.map V.str).length : Int) < pl := fun z => p1 (decide_eq_true z)
      rw [List.length_map] at p1
      obtain ⟨n, rfl⟩ : ∃ n : Nat, pl = (n : Int) := ⟨pl.toNat, by omega⟩
      refine ⟨_, rfl, _, rfl, _, rfl, _, rfl, _, rfl, o, _, rfl, .inl (SqL.of ho), _, _, rfl, rfl, _, rfl, a, _, rfl, hS2, fun u hu => ?_⟩
      have s3 := Ask.Same.made1 (o := .lst (cutV (ws.map V.str) (some (n : Int)) (some ((n : Int) + ((O.map V.str).length : Nat))))) (Same.refl H2) hu
      have fu : upd H2 u (.lst (cutV (ws.map V.str) (some (n : Int)) (some ((n : Int) + ((O.map V.str).length : Nat))))) u = some (.lst (cutV (ws.map V.str) (some (n : Int)) (some ((n : Int) + ((O.map V.str).length : Nat))))) := upd_same
      generalize upd H2 u (.lst (cutV (ws.map V.str) (some (n : Int)) (some ((n : Int) + ((O.map V.str).length : Nat))))) = H3 at s3 fu ⊢
      rw [List.length_map, show ((n : Int) + (O.length : Nat)) = ((n + O.length : Nat) : Int) by omega, cutV_mid _ _ _ (by rw [List.length_map]; omega) (by omega), Nat.add_sub_cancel_left, ← List.map_drop, ← List.map_take] at fu
      refine ⟨_, rfl, .list (((ws.drop n).take O.length).map PyData.str), .list (O.map PyData.str), .lst (SqL.of fu) (dp_strs _), .lst (SqL.of (s3 _ _ ho)) (dp_strs _), (fit_strs fun z hz => py _ (wy' z (List.mem_of_mem_drop (List.mem_of_mem_take hz)))).shapedL, (fit_strs fun z hz => py _ (oin z hz)).shapedL, _, rfl, ?_⟩
      rw [eqv_strsL]
      have := hQ H3 ⟨Same.refl _, s3⟩
      have e : decide (0 ≤ (n : Int) ∧ (n : Int).toNat + O.length ≤ ws.length ∧ (ws.drop (n : Int).toNat).take O.length = O) = decide ((ws.drop n).take O.length = O) := by
        by_cases z : (ws.drop n).take O.length = O
        · have l := congrArg List.length z
          rw [List.length_take, List.length_drop] at l
          rw [decide_eq_true z, decide_eq_true ⟨by omega, by rw [Int.toNat_natCast]; omega, z⟩]
        · rw [decide_eq_false z, decide_eq_false (fun y => z y.2.2)]
      rw [e] at this
      exact this
    rintro H3 ⟨_, s3⟩
    have s03 := s02.trans s3
    by_cases c : 0 ≤ pl ∧ pl.toNat + O.length ≤ ws.length ∧ (ws.drop pl.toNat).take O.length = O
    rotate_left
    · rw [decide_eq_false c]
      refine iteT (kN ?_ H3 s03)
      by_cases p0 : 0 ≤ pl
      · rw [if_pos (hcn p0), if_neg (by omega)]
        unfold exW
        rw [if_neg (fun z => c ⟨p0, z⟩)]
      · rw [if_neg (fun z => p0 z.1)]
    rw [decide_eq_true c]
    refine iteF ?_
    obtain ⟨c0, c1, c2⟩ := c
    have ks := kS (ws.take pl.toNat ++ U ++ ws.drop (pl.toNat + O.length)) (by
      rw [if_pos (hcn c0), if_neg (by omega)]
      unfold exW
      rw [if_pos ⟨c1, c2⟩])
    obtain ⟨n, rfl⟩ : ∃ n : Nat, pl = (n : Int) := ⟨pl.toNat, by omega⟩
    rw [Int.toNat_natCast] at ks c1
    have hS3 := s3.seq hS2
    refine ⟨_, rfl, _, rfl, _, rfl, a, _, rfl, hS3, fun u hu => ?_⟩
    have s4 := Ask.Same.made1 (o := .lst (cutV (ws.map V.str) none (some (n : Int)))) (Same.refl H3) hu
    have fu : upd H3 u (.lst (cutV (ws.map V.str) none (some (n : Int)))) u = some (.lst (cutV (ws.map V.str) none (some (n : Int)))) := upd_same
    generalize upd H3 u (.lst (cutV (ws.map V.str) none (some (n : Int)))) = H4 at s4 fu ⊢
    rw [cutV_to, ← List.map_take] at fu
    have hp4 := s4 _ _ (s3 _ _ hp)
    refine ⟨_, rfl, u, p, _, _, rfl, rfl, fu, hp4, by rw [List.length_map, List.length_map, List.length_take]; omega, fun v hv => ?_⟩
    have s5 := Ask.Same.made1 (o := .lst ((ws.take n).map V.str ++ U.map V.str)) (Same.refl H4) hv
    have fv : upd H4 v (.lst ((ws.take n).map V.str ++ U.map V.str)) v = some (.lst ((ws.take n).map V.str ++ U.map V.str)) := upd_same
    generalize upd H4 v (.lst ((ws.take n).map V.str ++ U.map V.str)) = H5 at s5 fv ⊢
    have ho5 := s5 _ _ (s4 _ _ (s3 _ _ ho))
    refine ⟨_, rfl, _, rfl, _, rfl, o, _, rfl, .inl (SqL.of ho5), _, _, rfl, rfl, _, rfl, a, _, rfl, s5.seq (s4.seq hS3), fun t htn => ?_⟩
    have s6 := Ask.Same.made1 (o := .lst (cutV (ws.map V.str) (some ((n : Int) + ((O.map V.str).length : Nat))) none)) (Same.refl H5) htn
    have ft : upd H5 t (.lst (cutV (ws.map V.str) (some ((n : Int) + ((O.map V.str).length : Nat))) none)) t = some (.lst (cutV (ws.map V.str) (some ((n : Int) + ((O.map V.str).length : Nat))) none)) := upd_same
    generalize upd H5 t (.lst (cutV (ws.map V.str) (some ((n : Int) + ((O.map V.str).length : Nat))) none)) = H6 at s6 ft ⊢
    rw [List.length_map, show ((n : Int) + (O.length : Nat)) = ((n + O.length : Nat) : Int) by omega, cutV_from, ← List.map_drop] at ft
    refine ⟨v, t, _, _, rfl, rfl, s6 _ _ fv, ft, by rw [List.length_append, List.length_map, List.length_map, List.length_map, List.length_take, List.length_drop]; omega, fun g hg => ?_⟩
    refine ks _ g (Ask.Same.made1 (s03.trans (s4.trans (s5.trans s6))) hg) (by
      cases e : H g with
      | none => rfl
      | some o => rw [(s03.trans (s4.trans (s5.trans s6))) _ _ e] at hg; cases hg) ?_
    rw [upd_same, List.map_append, List.map_append]
end
end Ask

namespace Ask
open PySem L2
theorem itW_none {b k x y : Str} {w : List Str} {pl way : Int} {i : Nat} (h : itW b k x y w pl way i = none) : ∀ j, itW b k x y w pl way (i + j) = none
  | 0 => h
  | j + 1 => by
    show (itW b k x y w pl way (i + j)).bind _ = none
    rw [itW_none h j]
    rfl
theorem chW_grow {ys : List Str} {b k x : Str} {s : V} {ws v : List Str} {pl way : Int} (tk : TriOk ys (k, x, s)) (hw : ∀ z ∈ ws, z ∈ ys) (h : chW b k x (yOf s) ws pl way 1 = some v) : v.length ≤ ws.length + 2 ∧ ∀ z ∈ v, z ∈ ys := by
  rw [chW_some] at h
  obtain ⟨_, a, c, e1, _, e3⟩ := h
  subst e1
  subst e3
  have lp : (plainR (putR k x (yOf s) way 1)).length ≤ 2 := by
    obtain ⟨sd1, sd2⟩ := sd_plain k x s
    have lo : (plainR (sideL k x (yOf s) 1)).length ≤ 2 ∧ (plainR (sideR k x (yOf s) 1)).length ≤ 2 := by
      rw [← sd1, ← sd2, List.length_map, List.length_map]
      unfold sdL sdR
      constructor
      · repeat' split
        all_goals simp
      · repeat' split
        all_goals simp
    unfold putR
    by_cases q : way = 1
    · rw [if_pos q]; exact lo.2
    · rw [if_neg q]; exact lo.1
  refine ⟨by simp only [List.length_append]; omega, fun z hz => ?_⟩
  rcases List.mem_append.mp hz with hz | hz
  · rcases List.mem_append.mp hz with hz | hz
    · exact hw z (List.mem_append_left _ (List.mem_append_left _ hz))
    · obtain ⟨r, hr, e⟩ := plain_mem hz
      rw [← e]
      exact tri_mem tk (op_mem (.inr hr))
  · exact hw z (List.mem_append_right _ hz)
section
variable {P : Program} {w : World} {K : PySem.W.Frag} {mg : Str → Option Value} {base : Heap}
/-! ### change by change -/
def spSingles (K : PySem.W.Frag) : Sp := fun vs H Q _ => ∃ (a tr st : Addr) (ys : List Str) (b k x : Str) (s : V) (ws : List Str) (r pl wy : Int) (n : Nat), vs = [.str b, .ref a, .ref tr, .ref st] ∧ SqL K H a (ws.map V.str) ∧ ws.length ≤ 1000 ∧ Plain ys ∧ (∀ z ∈ ws, z ∈ ys) ∧ H tr = some (.tup [.str k, .str x, s]) ∧ TriOk ys (k, x, s) ∧ (wy = 1 ∨ wy = -1) ∧ H st = some (.tup [.int r, .int pl, .int wy, .int (n : Int)]) ∧ 1 ≤ n ∧ n ≤ 100 ∧
  (∀ v, chW b k x (yOf s) ws pl wy n = some v → ∀ (H' : Hp) (q : Addr), Same H H' → SqL K H' q (v.map V.str) → v.length ≤ 2000 → (∀ z ∈ v, z ∈ ys) → Q (.ref q) H') ∧ (chW b k x (yOf s) ws pl wy n = none → ∀ H', Same H H' → Q .non H')
/-! ### the sides, by the law -/
def spLSides (K : PySem.W.Frag) : Sp := fun vs H Q _ => ∃ (tr : Addr) (ys : List Str) (k x : Str) (s : V) (wy t : Int), vs = [.ref tr, .int wy, .int t] ∧ H tr = some (.tup [.str k, .str x, s]) ∧ TriOk ys (k, x, s) ∧ (wy = 1 ∨ wy = -1) ∧
  ∀ (H' : Hp) (q o p : Addr) (us vs : List V), Same H H' → H' q = some (.tup [.ref o, .ref p]) → H' o = some (.lst us) → H' p = some (.lst vs) → PairsV H' us (outR k x (yOf s) wy t) → PairsV H' vs (putR k x (yOf s) wy t) → Q (.ref q) H'
abbrev s__law_sides : Stmt := top 76
theorem sc__law_sides : FnScope ["_law_triple", "_law_way", "_law_times", "_law_kind", "_law_x", "_law_y", "_law_left_here", "_law_right_here"] ["_law_triple", "_law_way", "_law_times"] (defScope s__law_sides) := ⟨rfl, rfl, rfl, by decide +kernel, rfl, by decide +kernel, by decide +kernel⟩
theorem ok_lsides {f : Addr} {fd : FuncData} (F : Fun K "_law_sides" "_law_sides" s__law_sides f fd) : FnOk P w K mg base CX0 1 f fd ["_law_triple", "_law_way", "_law_times"] (spLSides K) := by
  refine F.ok sc__law_sides (fun vs H Q E h => ?_) (fun cdv A outer s H vs Q E hr h => ?_)
  · obtain ⟨tr, ys, k, x, s, wy, t, rfl, _⟩ := h
    rfl
  · obtain ⟨tr, ys, k, x, s', wy, t, rfl, ht, tk, hw, kq⟩ := h
    refine ⟨_, (pss_cons (ps_asg (pv 0) (pg_tup rfl (pgs_cons (pg_name (i := 3) sc__law_sides.nd rfl (Or.inl rfl)) (pgs_cons (pg_name (i := 4) sc__law_sides.nd rfl (Or.inl rfl)) (pgs_cons (pg_name (i := 5) sc__law_sides.nd rfl (Or.inl rfl)) pgs_nil)))))
      (pss_cons (ps_par (i := 6) (j := 7) rfl sc__law_sides.nd rfl rfl (by decide) rfl rfl (pa_cons (pe_lst (pa_cons (pe_tup (pa_cons (pv 4) (pa_cons (pv 2) pa_nil))) pa_nil)) (pa_cons (pe_lst pa_nil) pa_nil)) (by rfl))
      (pss_cons (ps_if (pt_cmpR op_eq (pv 3) pe_str (nomark _)) (pss_one (ps_set (i := 7) sc__law_sides.nd rfl (Or.inl rfl) (pe_lst (pa_cons (pe_tup (pa_cons (pv 5) (pa_cons (pv 2) pa_nil))) pa_nil)))) pss_nil)
      (pss_cons (ps_if (pt_cmpR op_eq (pv 3) pe_str (nomark _)) (pss_one (ps_par (i := 6) (j := 7) rfl sc__law_sides.nd rfl rfl (by decide) rfl rfl (pa_cons (pe_lst (pa_cons (pe_tup (pa_cons (pv 4) (pa_cons pe_int pa_nil))) (pa_cons (pe_tup (pa_cons (pv 5) (pa_cons (pv 2) pa_nil))) pa_nil))) (pa_cons (pe_lst (pa_cons (pe_tup (pa_cons (pv 4) (pa_cons pe_int pa_nil))) pa_nil)) pa_nil)) (by rfl))) pss_nil)
      (pss_cons (ps_if (pt_cmpR op_eq (pv 3) pe_str (nomark _)) (pss_one (ps_par (i := 6) (j := 7) rfl sc__law_sides.nd rfl rfl (by decide) rfl rfl (pa_cons (pe_lst (pa_cons (pe_tup (pa_cons (pv 4) (pa_cons (pv 2) pa_nil))) (pa_cons (pe_tup (pa_cons (pv 5) (pa_cons pe_int pa_nil))) pa_nil))) (pa_cons (pe_lst (pa_cons (pe_tup (pa_cons (pv 5) (pa_cons pe_int pa_nil))) pa_nil)) pa_nil)) (by rfl))) pss_nil)
      (pss_cons (ps_if (pt_cmpR op_eq (pv 3) pe_str (nomark _)) (pss_one (ps_set (i := 6) sc__law_sides.nd rfl (Or.inl rfl) (pe_lst (pa_cons (pe_tup (pa_cons (pv 4) (pa_cons (pv 2) pa_nil))) (pa_cons (pe_tup (pa_cons (pv 5) (pa_cons (pv 2) pa_nil))) pa_nil))))) pss_nil)
      (pss_one (ps_ret (pe_ifExp (pt_cmpR op_eq (pv 1) pe_int (nomark _)) (pe_tup (pa_cons (pv 6) (pa_cons (pv 7) pa_nil))) (pe_tup (pa_cons (pv 7) (pa_cons (pv 6) pa_nil)))))))))))), ?_⟩
    have two : (2 : Nat) ≤ sizeLine := by decide
    have one : (1 : Nat) ≤ sizeLine := by decide
    have mk : ∀ {H1 : Hp} {a : Addr} {o : HO}, H1 a = none → Same H1 (upd H1 a o) := fun h => Ask.Same.made1 (Same.refl _) h
    have no : ∀ {c d : Str} {A B : Prop}, d ≠ c → B → if decide (V.str d = V.str c) = true then A else B := fun n b => ite2 (fun z => absurd (V.str.inj (of_decide_eq_true z)) n) (fun _ => b)
    have yes : ∀ {c : Str} {A B : Prop}, A → if decide (V.str c = V.str c) = true then A else B := fun a => ite2 (fun _ => a) (fun z => absurd (decide_eq_true rfl) z)
    have fin : ∀ (H1 : Hp) (l r : Addr) (us vs : List V), Same H H1 → H1 l = some (.lst us) → H1 r = some (.lst vs) → PairsV H1 us (sideL k x (yOf s') t) → PairsV H1 vs (sideR k x (yOf s') t) → ∀ q, H1 q = none →
        (decide (V.int wy = V.int 1) = true → Q (.ref q) (upd H1 q (.tup [.ref l, .ref r]))) ∧ (¬ decide (V.int wy = V.int 1) = true → Q (.ref q) (upd H1 q (.tup [.ref r, .ref l]))) := by
      intro H1 l r us vs s1 hl hr' pl pr q hq
      refine ⟨fun z => ?_, fun z => ?_⟩
      · have z : wy = 1 := V.int.inj (of_decide_eq_true z)
        refine kq _ q l r us vs (s1.trans (mk hq)) upd_same (mk hq _ _ hl) (mk hq _ _ hr') ?_ ?_
        · unfold outR; rw [if_pos z]; exact pl.same (mk hq)
        · unfold putR; rw [if_pos z]; exact pr.same (mk hq)
      · have z : ¬ wy = 1 := fun y => z (decide_eq_true (congrArg V.int y))
        refine kq _ q r l vs us (s1.trans (mk hq)) upd_same (mk hq _ _ hr') (mk hq _ _ hl) ?_ ?_
        · unfold outR; rw [if_neg z]; exact pr.same (mk hq)
        · unfold putR; rw [if_neg z]; exact pl.same (mk hq)
    have i1 : ("idle" : Str) ∈ LK := by decide
    have i2 : ("still" : Str) ∈ LK := by decide
    refine ⟨_, rfl, tr, _, rfl, SqT.of ht, rfl, _, _, rfl, _, _, rfl, _, _, rfl, rfl, ?_⟩
    refine ⟨_, rfl, _, rfl, two, fun a1 h1 => ⟨one, fun l hl => ⟨Nat.zero_le _, fun r hr' => ⟨_, _, rfl, ?_⟩⟩⟩⟩
    have s1 := (mk (o := .tup [.str x, .int t]) h1).trans ((mk (o := .lst [.ref a1]) hl).trans (mk (o := .lst []) hr'))
    have fl : (upd (upd (upd H a1 (.tup [.str x, .int t])) l (.lst [.ref a1])) r (.lst [])) l = some (.lst [.ref a1]) := mk hr' _ _ upd_same
    have fr : (upd (upd (upd H a1 (.tup [.str x, .int t])) l (.lst [.ref a1])) r (.lst [])) r = some (.lst []) := upd_same
    have f1 : (upd (upd (upd H a1 (.tup [.str x, .int t])) l (.lst [.ref a1])) r (.lst [])) a1 = some (.tup [.str x, .int t]) := ((mk hl).trans (mk hr')) _ _ upd_same
    generalize upd (upd (upd H a1 (.tup [.str x, .int t])) l (.lst [.ref a1])) r (.lst []) = H1 at s1 fl fr f1 ⊢
    have pl1 : PairsV H1 [.ref a1] [(x, t)] := PairsV.one f1
    have so : SOk ys k s' := tk.2.2
    rcases kl_cases tk.1 with rfl | rfl | rfl | rfl | rfl | rfl
    · have el : sideL "idle" x (yOf s') t = [(x, t)] := by unfold sideL; rw [if_pos i1]
      have er : sideR "idle" x (yOf s') t = [] := by unfold sideR; rw [if_pos i1]
      refine ⟨_, rfl, rfl, _, rfl, no (by decide) ⟨_, rfl, rfl, _, rfl, no (by decide) ⟨_, rfl, rfl, _, rfl, no (by decide) ⟨_, rfl, rfl, _, rfl, no (by decide) ?_⟩⟩⟩⟩
      exact ⟨_, rfl, rfl, _, rfl, ite2 (fun z => ⟨_, rfl, _, rfl, two, fun q hq => (fin H1 l r _ _ s1 fl fr (by rw [el]; exact pl1) (by rw [er]; exact PairsV.nil) q hq).1 z⟩) (fun z => ⟨_, rfl, _, rfl, two, fun q hq => (fin H1 l r _ _ s1 fl fr (by rw [el]; exact pl1) (by rw [er]; exact PairsV.nil) q hq).2 z⟩)⟩
    · obtain ⟨y, rfl, _⟩ := so.1 (by decide)
      refine ⟨_, rfl, rfl, _, rfl, no (by decide) ⟨_, rfl, rfl, _, rfl, yes ⟨_, rfl, two, fun b1 hb1 => ⟨_, rfl, _, rfl, two, fun b2 hb2 => ⟨two, fun l2 hl2 => ⟨_, rfl, two, fun b3 hb3 => ⟨one, fun r2 hr2 => ⟨_, _, rfl, _, rfl, rfl, _, rfl, no (by decide) ⟨_, rfl, rfl, _, rfl, no (by decide) ?_⟩⟩⟩⟩⟩⟩⟩⟩⟩
      have e5 := (mk (o := .lst [.ref b3]) hr2)
      have e4 := (mk (o := .tup [.str x, .int 1]) hb3).trans e5
      have e3 := (mk (o := .lst [.ref b1, .ref b2]) hl2).trans e4
      have e2 := (mk (o := .tup [.str y, .int t]) hb2).trans e3
      have e1 := (mk (o := .tup [.str x, .int 1]) hb1).trans e2
      have p1 : PairsV _ [.ref b1, .ref b2] [(x, 1), (y, t)] := (PairsV.one (r := (x, 1)) (e2 _ _ upd_same)).cat (PairsV.one (r := (y, t)) (e3 _ _ upd_same))
      have p2 : PairsV _ [.ref b3] [(x, 1)] := PairsV.one (r := (x, 1)) (e5 _ _ upd_same)
      have fl2 := e4 l2 (.lst [.ref b1, .ref b2]) upd_same
      exact ⟨_, rfl, rfl, _, rfl, ite2 (fun z => ⟨_, rfl, _, rfl, two, fun q hq => (fin _ l2 r2 _ _ (s1.trans e1) fl2 upd_same p1 p2 q hq).1 z⟩) (fun z => ⟨_, rfl, _, rfl, two, fun q hq => (fin _ l2 r2 _ _ (s1.trans e1) fl2 upd_same p1 p2 q hq).2 z⟩)⟩
    · have el : sideL "still" x (yOf s') t = [(x, t)] := by unfold sideL; rw [if_pos i2]
      have er : sideR "still" x (yOf s') t = [] := by unfold sideR; rw [if_pos i2]
      refine ⟨_, rfl, rfl, _, rfl, no (by decide) ⟨_, rfl, rfl, _, rfl, no (by decide) ⟨_, rfl, rfl, _, rfl, no (by decide) ⟨_, rfl, rfl, _, rfl, no (by decide) ?_⟩⟩⟩⟩
      exact ⟨_, rfl, rfl, _, rfl, ite2 (fun z => ⟨_, rfl, _, rfl, two, fun q hq => (fin H1 l r _ _ s1 fl fr (by rw [el]; exact pl1) (by rw [er]; exact PairsV.nil) q hq).1 z⟩) (fun z => ⟨_, rfl, _, rfl, two, fun q hq => (fin H1 l r _ _ s1 fl fr (by rw [el]; exact pl1) (by rw [er]; exact PairsV.nil) q hq).2 z⟩)⟩
    · obtain ⟨y, rfl, _⟩ := so.1 (by decide)
      refine ⟨_, rfl, rfl, _, rfl, no (by decide) ⟨_, rfl, rfl, _, rfl, no (by decide) ⟨_, rfl, rfl, _, rfl, yes ⟨_, rfl, _, rfl, two, fun b1 hb1 => ⟨_, rfl, two, fun b2 hb2 => ⟨two, fun l2 hl2 => ⟨_, rfl, two, fun b3 hb3 => ⟨one, fun r2 hr2 => ⟨_, _, rfl, _, rfl, rfl, _, rfl, no (by decide) ?_⟩⟩⟩⟩⟩⟩⟩⟩⟩
      have e5 := (mk (o := .lst [.ref b3]) hr2)
      have e4 := (mk (o := .tup [.str y, .int 1]) hb3).trans e5
      have e3 := (mk (o := .lst [.ref b1, .ref b2]) hl2).trans e4
      have e2 := (mk (o := .tup [.str y, .int 1]) hb2).trans e3
      have e1 := (mk (o := .tup [.str x, .int t]) hb1).trans e2
      have p1 : PairsV _ [.ref b1, .ref b2] [(x, t), (y, 1)] := (PairsV.one (r := (x, t)) (e2 _ _ upd_same)).cat (PairsV.one (r := (y, 1)) (e3 _ _ upd_same))
      have p2 : PairsV _ [.ref b3] [(y, 1)] := PairsV.one (r := (y, 1)) (e5 _ _ upd_same)
      have fl2 := e4 l2 (.lst [.ref b1, .ref b2]) upd_same
      exact ⟨_, rfl, rfl, _, rfl, ite2 (fun z => ⟨_, rfl, _, rfl, two, fun q hq => (fin _ l2 r2 _ _ (s1.trans e1) fl2 upd_same p1 p2 q hq).1 z⟩) (fun z => ⟨_, rfl, _, rfl, two, fun q hq => (fin _ l2 r2 _ _ (s1.trans e1) fl2 upd_same p1 p2 q hq).2 z⟩)⟩
    · obtain ⟨y, rfl, _⟩ := so.1 (by decide)
      refine ⟨_, rfl, rfl, _, rfl, no (by decide) ⟨_, rfl, rfl, _, rfl, no (by decide) ⟨_, rfl, rfl, _, rfl, no (by decide) ⟨_, rfl, rfl, _, rfl, yes ⟨_, rfl, _, rfl, two, fun b1 hb1 => ⟨_, rfl, _, rfl, two, fun b2 hb2 => ⟨two, fun l2 hl2 => ?_⟩⟩⟩⟩⟩⟩⟩
      have e3 := (mk (o := .lst [.ref b1, .ref b2]) hl2)
      have e2 := (mk (o := .tup [.str y, .int t]) hb2).trans e3
      have e1 := (mk (o := .tup [.str x, .int t]) hb1).trans e2
      have p1 : PairsV _ [.ref b1, .ref b2] [(x, t), (y, t)] := (PairsV.one (r := (x, t)) (e2 _ _ upd_same)).cat (PairsV.one (r := (y, t)) (e3 _ _ upd_same))
      have fr2 := e1 _ _ fr
      exact ⟨_, rfl, rfl, _, rfl, ite2 (fun z => ⟨_, rfl, _, rfl, two, fun q hq => (fin _ l2 r _ _ (s1.trans e1) upd_same fr2 p1 PairsV.nil q hq).1 z⟩) (fun z => ⟨_, rfl, _, rfl, two, fun q hq => (fin _ l2 r _ _ (s1.trans e1) upd_same fr2 p1 PairsV.nil q hq).2 z⟩)⟩
    · obtain ⟨y, rfl, _⟩ := so.1 (by decide)
      refine ⟨_, rfl, rfl, _, rfl, yes ⟨_, rfl, _, rfl, two, fun b1 hb1 => ⟨one, fun r2 hr2 => ⟨_, rfl, rfl, _, rfl, no (by decide) ⟨_, rfl, rfl, _, rfl, no (by decide) ⟨_, rfl, rfl, _, rfl, no (by decide) ?_⟩⟩⟩⟩⟩⟩
      have e2 := (mk (o := .lst [.ref b1]) hr2)
      have e1 := (mk (o := .tup [.str y, .int t]) hb1).trans e2
      have p2 : PairsV _ [.ref b1] [(y, t)] := PairsV.one (r := (y, t)) (e2 _ _ upd_same)
      have fl2 := e1 _ _ fl
      exact ⟨_, rfl, rfl, _, rfl, ite2 (fun z => ⟨_, rfl, _, rfl, two, fun q hq => (fin _ l r2 _ _ (s1.trans e1) fl2 upd_same (pl1.same e1) p2 q hq).1 z⟩) (fun z => ⟨_, rfl, _, rfl, two, fun q hq => (fin _ l r2 _ _ (s1.trans e1) fl2 upd_same (pl1.same e1) p2 q hq).2 z⟩)⟩
end
end Ask

namespace Ask
open PySem L2
theorem drf_cases (k : Str) {wy : Int} (hw : wy = 1 ∨ wy = -1) : drf k wy = 0 ∨ drf k wy = 1 ∨ drf k wy = -1 := by
  unfold drf
  split
  · exact .inr (.inl rfl)
  · split
    · rcases hw with rfl | rfl
      · exact .inr (.inr rfl)
      · exact .inr (.inl rfl)
    · exact .inl rfl
theorem start_is (k : Str) {wy : Int} (hw : wy = 1 ∨ wy = -1) (pl : Int) {t : Int} (ht : 1 ≤ t) : pl - (t - 1) * (if decide (V.int (drf k wy) = V.int (-1)) = true then 1 else 0) = fst1 k pl wy t := by
  unfold fst1
  have e : decide (V.int (drf k wy) = V.int (-1)) = decide (drf k wy = -1) := by
    by_cases z : drf k wy = -1
    · rw [decide_eq_true z, decide_eq_true (congrArg V.int z)]
    · rw [decide_eq_false z, decide_eq_false (fun y => z (V.int.inj y))]
  rw [e]
  rcases drf_cases k hw with d | d | d <;> rw [d]
  · rw [if_neg (by decide)]; omega
  · rw [if_neg (by decide)]; omega
  · rw [if_pos (by decide)]; omega
theorem unp_or {K : PySem.W.Frag} {H : Hp} {a : Addr} {xs : List V} {n : Nat} {gs : TGs} {σ : L2.St} {Q : L2.St → Hp → Prop} (h : SqL K H a xs ∨ SqT K H a xs) (l : xs.length = n) (q : gs xs σ H Q) : gTup K n gs (.ref a) σ H Q ∨ gLst K n gs (.ref a) σ H Q := by
  rcases h with h | h
  · exact .inr ⟨a, xs, rfl, h, l, q⟩
  · exact .inl ⟨a, xs, rfl, h, l, q⟩
section
variable {P : Program} {w : World} {K : PySem.W.Frag} {mg : Str → Option Value} {base : Heap}
def spChanged (K : PySem.W.Frag) : Sp := fun vs H Q _ => ∃ (a tr st : Addr) (ys : List Str) (b k x : Str) (s : V) (us : List V) (rs : List Run) (r pl wy t : Int), vs = [.str b, .ref a, .ref tr, .ref st] ∧ SqL K H a us ∧ PairsV H us rs ∧ rs.length ≤ 300 ∧ Nm rs ∧ OfL ys rs ∧ Plain ys ∧ H tr = some (.tup [.str k, .str x, s]) ∧ TriOk ys (k, x, s) ∧ (wy = 1 ∨ wy = -1) ∧ (SqL K H st [.int r, .int pl, .int wy, .int t] ∨ SqT K H st [.int r, .int pl, .int wy, .int t]) ∧ 1 ≤ t ∧
  (∀ v, chW b k x (yOf s) (plainR rs) pl wy t = some v → ∀ (H' : Hp) (q : Addr) (ks : List V), Same H H' → H' q = some (.lst ks) → PairsV H' ks (J v) → Q (.ref q) H') ∧ (chW b k x (yOf s) (plainR rs) pl wy t = none → ∀ H', Same H H' → Q .non H')
abbrev s__law_changed : Stmt := top 77
theorem sc__law_changed : FnScope ["_law_beginning_here", "_law_runs", "_law_triple", "_law_step", "_law_row", "_law_place", "_law_way", "_law_times", "_law_out", "_law_put", "_law_start", "_law_ahead", "_law_others", "_law_there", "_law_rear"] ["_law_beginning_here", "_law_runs", "_law_triple", "_law_step"] (defScope s__law_changed) := ⟨rfl, rfl, rfl, by decide +kernel, rfl, by decide +kernel, by decide +kernel⟩
theorem ok_changed {f fS fM fZ fC fJ : Addr} {fd fdS fdM fdZ fdC fdJ : FuncData} (F : Fun K "_law_changed" "_law_changed" s__law_changed f fd) (T : Blt mg)
    (G__law_sides : FnOk P w K mg base CX0 1 fS fdS ["_law_triple", "_law_way", "_law_times"] (spLSides K)) (A__law_sides : At K mg "_law_sides" fS fdS ["_law_triple", "_law_way", "_law_times"])
    (G__law_move : FnOk P w K mg base CX0 1 fM fdM ["_law_kind", "_law_way"] spDrift) (A__law_move : At K mg "_law_move" fM fdM ["_law_kind", "_law_way"])
    (G__law_size : FnOk P w K mg base CX0 1 fZ fdZ ["_law_runs"] (spSum K)) (A__law_size : At K mg "_law_size" fZ fdZ ["_law_runs"])
    (G__law_cut : FnOk P w K mg base CX0 2 fC fdC ["_law_runs", "_law_size_here"] (spCutL K)) (A__law_cut : At K mg "_law_cut" fC fdC ["_law_runs", "_law_size_here"])
    (G__law_joined : FnOk P w K mg base CX0 1 fJ fdJ ["_law_runs"] (spLawJoined K)) (A__law_joined : At K mg "_law_joined" fJ fdJ ["_law_runs"]) :
    FnOk P w K mg base CX0 3 f fd ["_law_beginning_here", "_law_runs", "_law_triple", "_law_step"] (spChanged K) := by
  refine F.ok sc__law_changed (fun vs H Q E h => ?_) (fun cdv A outer s H vs Q E hr h => ?_)
  · obtain ⟨a, tr, st, ys, b, k, x, s, us, rs, r, pl, wy, t, rfl, _⟩ := h
    rfl
  · obtain ⟨a, tr, st, ys, b, k, x, s', us, rs, r, pl, wy, t, rfl, hS, hR, ln, nm, ol, py, ht, tk, hw, hst, t1, kS, kN⟩ := h
    have h__law_sides := hr.mono (j := 1) (by decide)
    have h__law_move := hr.mono (j := 1) (by decide)
    have h__law_size := hr.mono (j := 1) (by decide)
    have h__law_cut := hr.mono (j := 2) (by decide)
    have h__law_joined := hr.mono (j := 1) (by decide)
    refine ⟨_, (pss_cons (ps_asg (pv 3) (pg_or (pg_tup rfl (pgs_cons (pg_name (i := 4) sc__law_changed.nd rfl (Or.inl rfl)) (pgs_cons (pg_name (i := 5) sc__law_changed.nd rfl (Or.inl rfl)) (pgs_cons (pg_name (i := 6) sc__law_changed.nd rfl (Or.inl rfl)) (pgs_cons (pg_name (i := 7) sc__law_changed.nd rfl (Or.inl rfl)) pgs_nil))))) (pg_lst rfl (pgs_cons (pg_name (i := 4) sc__law_changed.nd rfl (Or.inl rfl)) (pgs_cons (pg_name (i := 5) sc__law_changed.nd rfl (Or.inl rfl)) (pgs_cons (pg_name (i := 6) sc__law_changed.nd rfl (Or.inl rfl)) (pgs_cons (pg_name (i := 7) sc__law_changed.nd rfl (Or.inl rfl)) pgs_nil)))))))
      (pss_cons (ps_if (PW.pt (pw_or (pt_cmpR op_lt (pv 5) pe_int (nomark _)) (pw_or1 (PW.pt (pw_and (pt_cmpR op_eq (pe_ix ix_tup (pv 2) pe_int (fun _ _ => rfl)) pe_str (nomark _)) (pw_and1 (PW.pt (pw_or (pt_cmpR op_ne (pv 0) pe_str (nomark _)) (pw_or1 (pt_cmpR op_ne (pv 5) pe_int (nomark _))))))))))) (pss_one (ps_ret pe_non)) pss_nil)
      (pss_cons (ps_asg (pe_call G__law_sides (by exact h__law_sides) (by rfl) A__law_sides.m A__law_sides.k A__law_sides.b .nil pass0 (pa_cons (pv 2) (pa_cons (pv 6) (pa_cons (pv 7) pa_nil)))) (pg_tup rfl (pgs_cons (pg_name (i := 8) sc__law_changed.nd rfl (Or.inl rfl)) (pgs_cons (pg_name (i := 9) sc__law_changed.nd rfl (Or.inl rfl)) pgs_nil))))
      (pss_cons (ps_set (i := 10) sc__law_changed.nd rfl (Or.inl rfl) (pe_op op_sub (pv 5) (pe_op op_mul (pe_op op_sub (pv 7) pe_int) (pe_callTy call_int1 (by rfl) T.n_int (by decide +kernel) (pa_cons (pe_cmpR op_eq (pe_call G__law_move (by exact h__law_move) (by rfl) A__law_move.m A__law_move.k A__law_move.b .nil pass0 (pa_cons (pe_ix ix_tup (pv 2) pe_int (fun _ _ => rfl)) (pa_cons (pv 6) pa_nil))) (pe_un un_neg pe_int) (nomark _)) pa_nil)))))
      (pss_cons (ps_if (PW.pt (pw_or (pt_cmpR op_lt (pv 10) pe_int (nomark _)) (pw_or1 (pt_cmpR op_gt (pe_op op_add (pv 10) (pe_call G__law_size (by exact h__law_size) (by rfl) A__law_size.m A__law_size.k A__law_size.b .nil pass0 (pa_cons (pv 8) pa_nil))) (pe_call G__law_size (by exact h__law_size) (by rfl) A__law_size.m A__law_size.k A__law_size.b .nil pass0 (pa_cons (pv 1) pa_nil)) (nomark _))))) (pss_one (ps_ret pe_non)) pss_nil)
      (pss_cons (ps_asg (pe_call G__law_cut (by exact h__law_cut) (by rfl) A__law_cut.m A__law_cut.k A__law_cut.b .nil pass0 (pa_cons (pv 1) (pa_cons (pv 10) pa_nil))) (pg_tup rfl (pgs_cons (pg_name (i := 11) sc__law_changed.nd rfl (Or.inl rfl)) (pgs_cons (pg_name (i := 12) sc__law_changed.nd rfl (Or.inl rfl)) pgs_nil))))
      (pss_cons (ps_asg (pe_call G__law_cut (by exact h__law_cut) (by rfl) A__law_cut.m A__law_cut.k A__law_cut.b .nil pass0 (pa_cons (pv 12) (pa_cons (pe_call G__law_size (by exact h__law_size) (by rfl) A__law_size.m A__law_size.k A__law_size.b .nil pass0 (pa_cons (pv 8) pa_nil)) pa_nil))) (pg_tup rfl (pgs_cons (pg_name (i := 13) sc__law_changed.nd rfl (Or.inl rfl)) (pgs_cons (pg_name (i := 14) sc__law_changed.nd rfl (Or.inl rfl)) pgs_nil))))
      (pss_one (ps_ret (pe_ifExp (pt_cmpR (op_eqD hr.units) (pv 13) (pe_call G__law_joined (by exact h__law_joined) (by rfl) A__law_joined.m A__law_joined.k A__law_joined.b .nil pass0 (pa_cons (pv 8) pa_nil)) (nomark _)) (pe_call G__law_joined (by exact h__law_joined) (by rfl) A__law_joined.m A__law_joined.k A__law_joined.b .nil pass0 (pa_cons (pe_op op_cat (pe_op op_cat (pv 11) (pv 9)) (pv 14)) pa_nil)) pe_non)))))))))), ?_⟩
    have z1 : (100000 : Nat) ≤ sizeLine := by decide
    have i0 : atI [V.str k, .str x, s'] 0 = some (.str k) := at_by (j := 0) rfl rfl
    obtain ⟨p1, p2⟩ := op_pos k x (yOf s') wy t1
    obtain ⟨l1, l2⟩ := op_len k x (yOf s') wy t
    have oin : ∀ z : Run, (z ∈ outR k x (yOf s') wy t ∨ z ∈ putR k x (yOf s') wy t) → z.1 ∈ ys := fun z hz => tri_mem tk (op_mem hz)
    have asc : ∀ {z : Str}, z ∈ ys → Asc z := fun h => (py _ h).2
    refine ⟨_, rfl, unp_or hst rfl ⟨_, _, rfl, _, _, rfl, _, _, rfl, _, _, rfl, rfl, ?_⟩⟩
    try dsimp only
    refine seqIf_b (!decide (Cn b k pl)) (fun H' => H' = H) (fun Q' hQ => ?_) ?_
    · replace hQ := hQ H rfl
      refine ⟨_, rfl, _, _, rfl, rfl, _, rfl, ite2 (fun q0 => ?_) (fun q0 => ?_)⟩
      · have q0 : pl < 0 := of_decide_eq_true q0
        rw [decide_eq_false (fun z => by have := z.1; omega)] at hQ
        exact hQ
      have q0 : ¬ pl < 0 := fun z => q0 (decide_eq_true z)
      refine ⟨_, rfl, tr, _, _, _, rfl, rfl, SqT.of ht, i0, rfl, _, rfl, ite2 (fun q1 => ?_) (fun q1 => ?_)⟩
      · have q1 : k = "still" := V.str.inj (of_decide_eq_true q1)
        refine ⟨_, rfl, rfl, _, rfl, ite2 (fun q2 => ?_) (fun q2 => ?_)⟩
        · have q2 : b ≠ "new" := fun z => by
            rw [decide_eq_true (congrArg V.str z)] at q2
            cases q2
          rw [decide_eq_false (fun z => q2 (z.2 q1).1)] at hQ
          exact hQ
        · have q2 : b = "new" := Decidable.byContradiction fun z => q2 (by rw [decide_eq_false (fun y => z (V.str.inj y))]; rfl)
          refine ⟨_, rfl, rfl, _, rfl, ?_⟩
          have e : decide (Cn b k pl) = decide (V.int pl = V.int 0) := by
            by_cases z : pl = 0
            · rw [decide_eq_true (congrArg V.int z), decide_eq_true ⟨by omega, fun _ => ⟨q2, z⟩⟩]
            · rw [decide_eq_false (fun y => z (V.int.inj y)), decide_eq_false (fun y => z (y.2 q1).2)]
          rw [e] at hQ
          exact hQ
      · have q1 : ¬ k = "still" := fun z => q1 (decide_eq_true (congrArg V.str z))
        rw [decide_eq_true ⟨by omega, fun z => absurd z q1⟩] at hQ
        exact hQ
    rintro H0 rfl
    by_cases cn : Cn b k pl
    rotate_left
    · rw [decide_eq_false cn]
      exact iteT (kN (if_neg cn) _ (Same.refl _))
    rw [decide_eq_true cn]
    refine iteF ?_
    have hch : (chW b k x (yOf s') (plainR rs) pl wy t).map J = chR rs (fst1 k pl wy t) (outR k x (yOf s') wy t) (putR k x (yOf s') wy t) := by
      rw [chR_W nm p1 p2]
      unfold chW
      rw [if_pos cn]
      by_cases q : fst1 k pl wy t < 0
      · rw [if_pos q, if_pos q]; rfl
      · rw [if_neg q, if_neg q]
    have kN2 : chR rs (fst1 k pl wy t) (outR k x (yOf s') wy t) (putR k x (yOf s') wy t) = none → ∀ H', Same H0 H' → Q .non H' := fun e => kN (by
      rw [← hch] at e
      exact Option.map_eq_none_iff.mp e)
    have kS2 : ∀ g, chR rs (fst1 k pl wy t) (outR k x (yOf s') wy t) (putR k x (yOf s') wy t) = some g → ∀ (H' : Hp) (q : Addr) (ks : List V), Same H0 H' → H' q = some (.lst ks) → PairsV H' ks g → Q (.ref q) H' := fun g e H' q ks s' h1 h2 => by
      rw [← hch, Option.map_eq_some_iff] at e
      obtain ⟨v, e1, e2⟩ := e
      exact kS v e1 H' q ks s' h1 (by rw [e2]; exact h2)
    clear kS kN hch
    unfold chR at kS2 kN2
    -- the sides
    refine ⟨_, rfl, _, rfl, _, rfl, tr, ys, k, x, s', wy, t, rfl, ht, tk, hw, fun H1 q1 o p os ps s1 hq1 ho hp po pp => ?_⟩
    refine ⟨q1, _, rfl, SqT.of hq1, rfl, _, _, rfl, _, _, rfl, rfl, ?_⟩
    have ht1 := s1 _ _ ht
    refine ⟨_, rfl, _, rfl, _, _, rfl, rfl, _, rfl, tr, _, _, _, rfl, rfl, SqT.of ht1, i0, _, rfl, k, wy, rfl, fun H2 s2 => ⟨_, rfl, rfl, .inr ⟨_, rfl, _, _, rfl, rfl, .inr ?_, _, _, rfl, rfl, ?_⟩⟩⟩
    · split <;> decide
    dsimp only
    rw [start_is k hw pl t1]
    have s12 := s1.trans s2
    generalize outR k x (yOf s') wy t = O at *
    generalize putR k x (yOf s') wy t = U at *
    generalize fst1 k pl wy t = n at *
    have ho2 := s2 _ _ ho
    have hp2 := s2 _ _ hp
    have hS2 := s12.seq hS
    have hR2 := hR.same s12
    have po2 := po.same s2
    have pp2 := pp.same s2
    clear ho hp po pp hq1
    -- too far
    try dsimp only
    refine seqIf_b (decide (n < 0 ∨ sizeR rs < n + sizeR O)) (fun H' => Same H2 H') (fun Q' hQ => ?_) ?_
    · refine ⟨_, rfl, _, _, rfl, rfl, _, rfl, ite2 (fun q0 => ?_) (fun q0 => ?_)⟩
      · have q0 : n < 0 := of_decide_eq_true q0
        have := hQ H2 (Same.refl _)
        rw [decide_eq_true (.inl q0)] at this
        exact this
      have q0 : ¬ n < 0 := fun z => q0 (decide_eq_true z)
      refine ⟨_, rfl, _, rfl, o, os, O, rfl, SqL.of ho2, po2, by omega, fun H3 s3 => ⟨_, _, rfl, rfl, _, rfl, a, us, rs, rfl, s3.seq hS2, hR2.same s3, by omega, fun H4 s4 => ⟨_, _, rfl, rfl, _, rfl, ?_⟩⟩⟩
      have := hQ H4 (s3.trans s4)
      have e : decide (n < 0 ∨ sizeR rs < n + sizeR O) = decide (sizeR rs < n + sizeR O) := by
        by_cases z : sizeR rs < n + sizeR O
        · rw [decide_eq_true z, decide_eq_true (.inr z)]
        · rw [decide_eq_false z, decide_eq_false (fun y => y.elim q0 z)]
      rw [e] at this
      exact this
    rintro H3 s3
    have s03 := s12.trans s3
    by_cases far : n < 0 ∨ sizeR rs < n + sizeR O
    · rw [if_pos far] at kN2
      rw [decide_eq_true far]
      exact iteT (kN2 rfl H3 s03)
    rw [if_neg far] at kN2 kS2
    rw [decide_eq_false far]
    refine iteF ?_
    have so := sizeR_nonneg fun r hr => Int.le_of_lt (p1 r hr)
    obtain ⟨f1, b1, ef, eb, nf, nb, _, _⟩ := cut_w nm (n := n) (by omega) (by omega)
    rw [ef, eb] at kS2 kN2
    have al := ahead_len rs n
    have lf : f1.length ≤ rs.length + 1 := by
      rw [← ef]
      have := joinR_len (posR (aheadR rs n))
      have := posR_len (aheadR rs n)
      omega
    have lb : b1.length ≤ rs.length + 1 := by
      rw [← eb]
      have := joinR_len (posR (rearR rs n))
      have := posR_len (rearR rs n)
      omega
    have fin : ∀ r ∈ f1, r.1 ∈ ys := fun r hr => by
      rw [← ef] at hr
      obtain ⟨y, hy, e⟩ := mem_join hr
      obtain ⟨z, hz, e2⟩ := ahead_mem (.inl (posR_mem hy))
      rw [← e, ← e2]
      exact ol z hz
    have bin : ∀ r ∈ b1, r.1 ∈ ys := fun r hr => by
      rw [← eb] at hr
      obtain ⟨y, hy, e⟩ := mem_join hr
      obtain ⟨z, hz, e2⟩ := ahead_mem (.inr (posR_mem hy))
      rw [← e, ← e2]
      exact ol z hz
    refine ⟨_, rfl, _, rfl, a, us, rs, n, rfl, s3.seq hS2, hR2.same s3, by omega, fun r hr => ⟨nm.2 r hr, asc (ol r hr)⟩, fun H4 q4 u v ks4 ls4 s4 hq4 hu hv pu pv => ?_⟩
    rw [ef] at pu
    rw [eb] at pv
    refine ⟨q4, _, rfl, SqT.of hq4, rfl, _, _, rfl, _, _, rfl, rfl, ?_⟩
    have s34 := s3.trans s4
    have bl : n + sizeR O ≤ sizeR rs := by omega
    refine ⟨_, rfl, _, rfl, o, os, O, rfl, SqL.of (s34 _ _ ho2), po2.same s34, by omega, fun H5 s5 => ?_⟩
    have sb : sizeR O ≤ sizeR b1 := by
      obtain ⟨f', b', e1, e2, _, _, ef', eb'⟩ := cut_w nm (n := n) (by omega) (by omega)
      rw [eb] at e2
      subst e2
      rw [size_plain nb.2, eb', List.length_drop]
      have := size_plain nm.2
      omega
    obtain ⟨x1, t2, ex, et, nx, nt, _, _⟩ := cut_w nb (n := sizeR O) so sb
    rw [ex, et] at kS2 kN2
    have al2 := ahead_len b1 (sizeR O)
    have lx : x1.length ≤ b1.length + 1 := by
      rw [← ex]
      have := joinR_len (posR (aheadR b1 (sizeR O)))
      have := posR_len (aheadR b1 (sizeR O))
      omega
    have lt : t2.length ≤ b1.length + 1 := by
      rw [← et]
      have := joinR_len (posR (rearR b1 (sizeR O)))
      have := posR_len (rearR b1 (sizeR O))
      omega
    have xin : ∀ r ∈ x1, r.1 ∈ ys := fun r hr => by
      rw [← ex] at hr
      obtain ⟨y, hy, e⟩ := mem_join hr
      obtain ⟨z, hz, e2⟩ := ahead_mem (.inl (posR_mem hy))
      rw [← e, ← e2]
      exact bin z hz
    have tin : ∀ r ∈ t2, r.1 ∈ ys := fun r hr => by
      rw [← et] at hr
      obtain ⟨y, hy, e⟩ := mem_join hr
      obtain ⟨z, hz, e2⟩ := ahead_mem (.inr (posR_mem hy))
      rw [← e, ← e2]
      exact bin z hz
    refine ⟨v, ls4, b1, sizeR O, rfl, SqL.of (s5 _ _ hv), pv.same s5, by omega, fun r hr => ⟨nb.2 r hr, asc (bin r hr)⟩, fun H6 q6 u6 v6 ks6 ls6 s6 hq6 hu6 hv6 pu6 pv6 => ?_⟩
    rw [ex] at pu6
    rw [et] at pv6
    refine ⟨q6, _, rfl, SqT.of hq6, rfl, _, _, rfl, _, _, rfl, rfl, ?_⟩
    have s56 := s5.trans s6
    have s26 := s34.trans s56
    refine ⟨_, rfl, _, rfl, o, os, O, rfl, SqL.of (s26 _ _ ho2), po2.same s26, by omega, fun r hr => asc (oin r (.inl hr)), fun H7 q7 ks7 s7 _ hq7 pj => ?_⟩
    rw [posR_all p1] at pj
    refine ⟨.list (x1.map runD), .list ((joinR O).map runD), .lst (SqL.of (s7 _ _ hu6)) (dp_runs (pu6.same s7)), .lst (SqL.of hq7) (dp_runs pj), shaped_runsL fun r hr => asc (xin r hr), shaped_runsL (join_asc fun r hr => asc (oin r (.inl hr))), _, rfl, ?_⟩
    rw [eqv_runsL]
    have s07 := s03.trans (s4.trans (s56.trans s7))
    by_cases eq : x1 = joinR O
    rotate_left
    · rw [if_neg eq] at kN2
      rw [decide_eq_false eq]
      exact iteF (kN2 rfl H7 s07)
    rw [if_pos eq] at kS2
    rw [decide_eq_true eq]
    refine iteT ?_
    have s47 := s56.trans s7
    have hu7 := s47 _ _ hu
    have hp7 := (s26.trans s7) _ _ hp2
    have lk := (pu.same s47).1
    have lu := (pp2.same (s26.trans s7)).1
    have lv := (pv6.same s7).1
    refine ⟨_, rfl, _, rfl, u, p, _, _, rfl, rfl, hu7, hp7, by omega, fun g hg => ?_⟩
    have s8 := Ask.Same.made1 (o := .lst (ks4 ++ ps)) (Same.refl H7) hg
    have fg : upd H7 g (.lst (ks4 ++ ps)) g = some (.lst (ks4 ++ ps)) := upd_same
    generalize upd H7 g (.lst (ks4 ++ ps)) = H8 at s8 fg ⊢
    refine ⟨_, rfl, g, v6, _, _, rfl, rfl, fg, s8 _ _ (s7 _ _ hv6), by rw [List.length_append]; omega, fun h hh => ?_⟩
    have s9 := Ask.Same.made1 (o := .lst (ks4 ++ ps ++ ls6)) (Same.refl H8) hh
    have fh : upd H8 h (.lst (ks4 ++ ps ++ ls6)) h = some (.lst (ks4 ++ ps ++ ls6)) := upd_same
    generalize upd H8 h (.lst (ks4 ++ ps ++ ls6)) = H9 at s9 fh ⊢
    have s89 := s8.trans s9
    refine ⟨h, _, f1 ++ U ++ t2, rfl, SqL.of fh, (((pu.same s47).same s89).cat ((pp2.same (s26.trans s7)).same s89)).cat ((pv6.same s7).same s89), by simp only [List.length_append]; omega, fun r hr => ?_, fun H10 L ks s10 _ hL pL => ?_⟩
    · rcases List.mem_append.mp hr with hr | hr
      · rcases List.mem_append.mp hr with hr | hr
        · exact asc (fin r hr)
        · exact asc (oin r (.inr hr))
      · exact asc (tin r hr)
    · have pos : ∀ r ∈ f1 ++ U ++ t2, 0 < r.2 := fun r hr => by
        rcases List.mem_append.mp hr with hr | hr
        · rcases List.mem_append.mp hr with hr | hr
          · exact nf.2 r hr
          · exact p2 r hr
        · exact nt.2 r hr
      rw [posR_all pos] at pL
      exact kS2 _ rfl H10 L ks (s07.trans (s89.trans s10)) hL pL
end
end Ask

namespace Ask
open PySem L2
section
variable {P : Program} {w : World} {K : PySem.W.Frag} {mg : Str → Option Value} {base : Heap}
/-! ### the step back -/
def spBack (K : PySem.W.Frag) : Sp := fun vs H Q _ => ∃ (tr st : Addr) (k x : Str) (s : V) (r pl wy t : Int), vs = [.ref tr, .ref st] ∧ H tr = some (.tup [.str k, .str x, s]) ∧ (wy = 1 ∨ wy = -1) ∧ H st = some (.tup [.int r, .int pl, .int wy, .int t]) ∧
  ∀ (H' : Hp) (q : Addr), Same H H' → H' q = some (.tup [.int r, .int (backP k pl wy t), .int (-wy), .int t]) → Q (.ref q) H'
/-! ### the runs of a word -/
def spAsRuns (K : PySem.W.Frag) : Sp := fun vs H Q _ => ∃ (a : Addr) (ws : List Str), vs = [.ref a] ∧ SqL K H a (ws.map V.str) ∧ ws.length ≤ 5000 ∧ (∀ z ∈ ws, Asc z) ∧ ∀ (H' : Hp) (L : Addr) (ks : List V), Same H H' → H' L = some (.lst ks) → PairsV H' ks (J ws) → Q (.ref L) H'
abbrev s__law_as_runs : Stmt := top 67
theorem sc__law_as_runs : FnScope ["_law_word_here", "_law_letter"] ["_law_word_here"] (defScope s__law_as_runs) := ⟨rfl, rfl, rfl, by decide +kernel, rfl, by decide +kernel, by decide +kernel⟩
theorem ok_asRuns {f fJ : Addr} {fd fdJ : FuncData} (F : Fun K "_law_as_runs" "_law_as_runs" s__law_as_runs f fd)
    (G__law_joined : FnOk P w K mg base CX0 1 fJ fdJ ["_law_runs"] (spLawJoined K)) (A__law_joined : At K mg "_law_joined" fJ fdJ ["_law_runs"]) : FnOk P w K mg base CX0 2 f fd ["_law_word_here"] (spAsRuns K) := by
  refine F.ok sc__law_as_runs (fun vs H Q E h => ?_) (fun cdv A outer s H vs Q E hr h => ?_)
  · obtain ⟨a, ws, rfl, _⟩ := h
    rfl
  · obtain ⟨a, ws, rfl, ha, lw, hasc, k⟩ := h
    have h__law_joined := hr.mono (j := 1) (by decide)
    refine ⟨_, (pss_one (ps_ret (pe_call G__law_joined (by exact h__law_joined) (by rfl) A__law_joined.m A__law_joined.k A__law_joined.b .nil pass0 (pa_cons (pe_lc (own := [("_law_letter", 1)]) rfl sc__law_as_runs.nd (pi_list (pv 0)) (blkOk_by (N := ["_law_word_here", "_law_letter"]) (sc := defScope s__law_as_runs) (by decide +kernel)) (fun _ _ _ _ _ => (pg_name (i := 1) sc__law_as_runs.nd rfl (Or.inl rfl))) (fun _ _ _ _ _ => pts_nil) (fun _ _ _ _ _ => (pe_tup (pa_cons (pv 1) (pa_cons pe_int pa_nil))))) pa_nil)))), ?_⟩
    have z1 : (100000 : Nat) ≤ sizeLine := by decide
    refine ⟨_, rfl, a, rfl, ⟨_, ha⟩, fun L hL => ?_⟩
    refine lc_list (K := K) (a := a) (xs := ws.map V.str) (fun i H' => Same H H' ∧ ∃ ks, H' L = some (.lst ks) ∧ PairsV H' ks (onesR (ws.take i))) ⟨Ask.Same.upd_new (Same.refl _) hL, [], upd_same, PairsV.nil⟩ (fun i H' _ hh => hh.1.seq ha) ?_ ?_
    · rintro i v H1 hi ⟨s1, ks, hL1, hk⟩
      rw [List.getElem?_map] at hi
      cases hz : ws[i]? with
      | none => rw [hz] at hi; cases hi
      | some z =>
        rw [hz] at hi
        cases hi
        refine ⟨rfl, _, rfl, by show 2 ≤ sizeLine; decide, fun t ht => ?_⟩
        have s2 := Ask.Same.made1 (o := .tup [.str z, .int 1]) s1 ht
        have k2 := hk.same (Ask.Same.made1 (o := .tup [.str z, .int 1]) (Same.refl H1) ht)
        have hL2 : upd H1 t (.tup [.str z, .int 1]) L = some (.lst ks) := by rw [upd_ne (ne_of_none hL1 ht)]; exact hL1
        have lk : ks.length ≤ 10000 := by rw [hk.1]; unfold onesR; rw [List.length_map, List.length_take]; omega
        refine ⟨ks, hL2, by omega, Ask.Same.upd_new s2 hL, _, upd_same, ?_⟩
        have e : onesR (ws.take (i + 1)) = onesR (ws.take i) ++ [(z, 1)] := by
          unfold onesR
          rw [List.take_add_one, hz, List.map_append]
          rfl
        rw [e]
        exact (k2.app (b := t) (r := (z, 1)) upd_same).mut hL2
    · rintro H1 ⟨s1, ks, hL1, hk⟩
      rw [List.length_map, List.take_length] at hk
      refine ⟨L, ks, onesR ws, rfl, SqL.of hL1, hk, by unfold onesR; rw [List.length_map]; omega, fun r hr => ?_, fun H2 L2 ls s2 hn hL2 hp => ?_⟩
      · obtain ⟨z, hz, rfl⟩ := List.mem_map.mp hr
        exact hasc z hz
      · rw [posR_all (ones_pos ws)] at hp
        exact k H2 L2 ls (s1.trans s2) hL2 hp
/-! ### change by change, by runs -/
def spSlow (K : PySem.W.Frag) : Sp := fun vs H Q _ => ∃ (a tr st : Addr) (ys : List Str) (b k x : Str) (s : V) (us : List V) (rs : List Run) (r pl wy : Int) (n : Nat), vs = [.str b, .ref a, .ref tr, .ref st] ∧ SqL K H a us ∧ PairsV H us rs ∧ rs.length ≤ 300 ∧ (∀ z ∈ rs, 0 < z.2) ∧ sizeR rs ≤ 400 ∧ OfL ys rs ∧ Plain ys ∧ H tr = some (.tup [.str k, .str x, s]) ∧ TriOk ys (k, x, s) ∧ (wy = 1 ∨ wy = -1) ∧ H st = some (.tup [.int r, .int pl, .int wy, .int (n : Int)]) ∧ 1 ≤ n ∧ n ≤ 100 ∧
  (∀ v, chW b k x (yOf s) (plainR rs) pl wy n = some v → ∀ (H' : Hp) (q : Addr) (ks : List V), Same H H' → H' q = some (.lst ks) → PairsV H' ks (J v) → (∀ z ∈ v, z ∈ ys) → Q (.ref q) H') ∧ (chW b k x (yOf s) (plainR rs) pl wy n = none → ∀ H', Same H H' → Q .non H')
theorem flat_rep {n : Nat} {v : V} : (List.replicate n [v]).flatten = List.replicate n v := by
  induction n with
  | zero => rfl
  | succ n ih => rw [List.replicate_succ, List.flatten_cons, ih]; rfl
/-! ### a history of joined runs -/
def midR (rs : List Run) (i : Nat) (z : Str) (m : Int) : List Run := if m = 0 then rs.take i else rs.take i ++ [(z, m)]
theorem mid_add {rs : List Run} (nm : Nm rs) {i : Nat} {z : Str} {c : Int} (h : rs[i]? = some (z, c)) {m d : Int} (m0 : 0 ≤ m) (d1 : 1 ≤ d) : spliceR (midR rs i z m) (joinR [(z, d)]) = midR rs i z (m + d) := by
  have ej : joinR [(z, d)] = [(z, d)] := join_noeq ⟨(fun s hs => by cases hs), trivial⟩
  rw [ej]
  unfold midR
  rw [if_neg (show ¬ m + d = 0 by omega)]
  by_cases q : m = 0
  · rw [if_pos q, q, Int.zero_add]
    have ne : NoEq (rs.take i ++ [(z, c)]) := by
      have e : rs.take i ++ [(z, c)] = rs.take (i + 1) := by rw [List.take_add_one, h]; rfl
      rw [e]
      have : ∀ (m : Nat) (ss : List Run), NoEq ss → NoEq (ss.take m) := by
        intro m
        induction m with
        | zero => intro ss _; exact trivial
        | succ m im =>
          intro ss hs
          cases ss with
          | nil => exact trivial
          | cons a ss =>
            refine ⟨fun s h => hs.1 s ?_, im ss hs.2⟩
            cases m with
            | zero => cases h
            | succ m => cases ss with
              | nil => cases h
              | cons b ss => exact h
      exact this _ _ nm.1
    have n2 := (noeq_snoc.mp ne).2
    cases g : (rs.take i).getLast? with
    | none =>
      rw [splice_none g, List.getLast?_eq_none_iff.mp g]
      rfl
    | some l =>
      rw [splice_some g, if_neg (n2 l g)]
  · rw [if_neg q]
    have gl : (rs.take i ++ [(z, m)]).getLast? = some (z, m) := by simp
    rw [splice_some gl, if_pos rfl, List.dropLast_concat]
theorem HistAt.same' {K : PySem.W.Frag} {CL CH p : Addr} {H H' : Hp} {ys : List Str} {b : Str} {rs : List Run} (h : HistAt K CL CH H p ys b rs) (s : Same H H') : HistAt K CL CH H' p ys b rs := by
  obtain ⟨dx, m, t, c, ks, h1, h2, h3, h4⟩ := h
  exact ⟨dx, m, t, c, ks, s _ _ h1, h2.same s, seqT_same s h3, h4.same s⟩
end
end Ask

/-! str(o), o an instance with its own __str__ -/
namespace Ask
open PySem L2 PySem.Spec PyProof.Rows
open Builtin Builtin.Str
theorem strOf_own {prog : Program} {w : World} {K : PySem.W.Frag} {A : Around} {E : Value → Shared → Prop} {s : Shared} {x C f : Addr} {ox : Obj} {od : Option Obj} {Q : Value → Shared → Prop} (hu : A.units < cLine) (X : K.In s.heap) (I : PySem.W.InstAt s.heap x ox C od)
    (hs : PySem.W.findIn K (.ref C) "__str__" = some (some (.ref f))) (hf : PySem.W.isFn K (.ref f) = true)
    (h : wpAny (model prog w) A (call (.ref f) [.ref x]) (fun v s' => ∃ y t, v = .str y t ∧ Q v s') E s) : wpAny (model prog w) A (Builtin.Str.strOf (.ref x)) Q E s := by
  unfold Builtin.Str.strOf
  rw [show isExactStr (Value.ref x) = false from rfl]
  refine wpAny_bind (m := cRoomFor _ _) (wpAny_cRoomFor hu ?_)
  refine wpAny_bind (m := callSpecial? (.ref x) (Str.ofString "__str__")) (PySem.W.special_fn X I hs (beq_iff_eq.mp hf) (wpAny_mono h (fun r s' hr => ?_) fun _ _ z => z))
  obtain ⟨y, t, rfl, q⟩ := hr
  exact wpAny_pure q
theorem meetsIn_str_new {prog : Program} {w : World} {v : Value} {S : PySem.Spec} (hs : ∀ (A : Around) (R : Result → Shared → Prop) (s : Shared), S A R s →
      wpAny (model prog w) A.in1 (Builtin.Str.strOf v) (fun r s' => R (.ok (.ret r)) s') (fun e s' => R (.error e) s') s) : MeetsIn prog w (Builtin.«str.__new__» ⟨[.type "str", v], []⟩) S := by
  refine MeetsIn.of_wp fun A R s h => ?_
  rw [str_new_tree v]
  refine wpAny_bind (wpAny_pure ?_)
  refine wpAny_bind (wpAny_of_eq isSubtype_str_str ?_)
  exact wpAny_bind (wpAny_mono (hs A R s h) (fun r s' h' => wpAny_pure ⟨_, rfl, h'⟩) fun _ _ e => e)
section
variable {X : Cx} {CX : CXT} {k : Nat} {C f : Addr} {fd : FuncData} {ps : List Str} {sp : Sp} {E : XK}
theorem call_strI (F : FnOk X.prog X.w X.K X.mg X.base CX k f fd ps sp) (hr : Room (k + 2) X.A) (hb : Binds X.K fd ps []) (hx : Passes CX X E) (hs : PySem.W.findIn X.K (.ref C) "__str__" = some (some (.ref f))) (hf : PySem.W.isFn X.K (.ref f) = true) :
    CallR X (.type "str") (fun xs H Q => ∃ (a dx : Addr) (fs : List (Str × V)), xs = [.ref a] ∧ H a = some (.ins C dx fs) ∧ sp [.ref a] H (fun v H' => ∃ z : Str, v = .str z ∧ Q (.str z) H') E) := by
  intro pins s σ H xs us Q I r h
  obtain ⟨a, dx, fs, rfl, ha, q⟩ := h
  obtain ⟨u, rfl, ra⟩ := vals1 r
  obtain rfl : u = Value.ref a := ra
  obtain ⟨mA, J, _⟩ := ins_get I.hok ha
  obtain ⟨od, J, _⟩ := J.look
  have hu := hr.in1.in1.un
  refine PySem.callType_newIn PySem.F.called_str (by decide) (PySem.F.typeCall_str_1 _) (PySem.F.newCall_str_1 _) (fun obj => PySem.F.args_object_init_2 obj _) PySem.F.entry_str_new
    (meetsIn_str_new (prog := X.prog) (w := X.w) (v := .ref a) (S := fun A' R s' => A'.in1.units < cLine ∧ (∃ ox, X.K.In s'.heap ∧ PySem.W.InstAt s'.heap a ox C od) ∧ wpAny (model X.prog X.w) A'.in1 (call (.ref f) [.ref a]) (fun v s2 => ∃ y t, v = .str y t ∧ R (.ok (.ret v)) s2) (fun e s2 => R (.error e) s2) s')
      fun A' R s' hq => by
        obtain ⟨h1, ⟨ox, h2, h3⟩, h4⟩ := hq
        exact strOf_own h1 h2 h3 hs hf h4) ?_
  refine ⟨by omega, ⟨_, I.kIn, J⟩, thn (run_at (vs := [.ref a]) F hr.in1.in1 rfl hb hx I (.cons rfl .nil) q) fun r s' ⟨z, H', I', rz, y, ez, q'⟩ => ?_⟩
  subst ez
  obtain ⟨t, rfl⟩ := rz
  exact ⟨y, t, rfl, typeIs_str _ _ _, ⟨.str y, H', I', ⟨_, rfl⟩, q'⟩⟩
end
end Ask

/-! cls(e, ..), the class in a variable -/
namespace Ask
open PySem L2 PySem.Spec PyProof.Rows
def tMakeL (i : Nat) (C : Addr) (sp : Sp) (dvs : List V) (E : XK) (t : TA) : TE := fun σ H Q => σ[i]? = some (some (.ref C)) ∧ tMake C sp dvs E t σ H Q
theorem pe_makeL {X : Cx} {CX : CXT} {k i : Nat} {f C : Addr} {fd : FuncData} {ps : List Str} {sp : Sp} {dvs : List V} {ds : List Value} {E : XK} {x : Str} {p pos : Pos} {e : Expr} {es : List Expr} {t : TA}
    (M : Mk X.K C f) (F : FnOk X.prog X.w X.K X.mg X.base CX k f fd ps sp) (hr : Room (k + 1) X.A) (hN : X.N[i]? = some x) (hv : Vis X.env.scope x) (hb : Binds X.K fd ps ds) (hd : Vals dvs ds) (hx : Passes CX X E)
    (ha : PA X (e :: es) t) (hdb : (x == ("__debug__" : Str)) = false := by decide) (hcd : (x == ("__classdict__" : Str)) = false := by decide) (he : starEach (e :: es) X.env = (false, eval e X.env) :: starEach es X.env := by rfl) (hpl : (backTo pos (starEach es X.env)).any (·.1) = false := by rfl) :
    PE X (.Call (.Name x p) (e :: es) [] pos) (tMakeL i C sp dvs E t) := by
  refine ⟨fun pins s σ H Q I h => ?_⟩
  obtain ⟨hs, ht⟩ := h
  refine wpAny_Call_Name_kw (thn ((pe_var (pos := p) hN hv hdb hcd).run pins s σ H (fun v H1 => v = .ref C ∧ H1 = H) I ⟨.ref C, hs, rfl, rfl⟩) fun u s1 ⟨v, H1, I1, r1, q1⟩ => ?_)
  obtain ⟨rfl, rfl⟩ := q1
  cases r1
  refine PySem.W.callWith_K (h₀ := X.base) I.ok.mod.kin M.kp (thn (ha.run pos pins s1 σ _ _ I1 ht) fun us s2 ⟨vs, H2, I2, r, q⟩ => ⟨I2.kIn, ?_⟩) he hpl
  exact run_make M F hr hb hd hx I2 r q
end Ask

namespace Ask
open PySem L2
section
variable {P : Program} {w : World} {K : PySem.W.Frag} {mg : Str → Option Value} {base : Heap}
/-! ### History.spelled -/
def spSpelled (K : PySem.W.Frag) (CL CH : Addr) : Sp := fun vs H Q _ => ∃ (m t a : Addr) (b : Str) (ys ws : List Str), vs = [.ref CH, .ref m, .str b, .ref a] ∧ Mde CL H m t ys ∧ (b = "new" ∨ b = "found") ∧ SqL K H a (ws.map V.str) ∧ (∀ z ∈ ws, z ∈ ys) ∧ ws.length ≤ 100 ∧
  ∀ (H' : Hp) (x : Addr), Same H H' → HistAt K CL CH H' x ys b (joinR (onesR ws)) → Q (.ref x) H'
abbrev s_Spelled : Stmt := inClass (top 41) 1
theorem sc_Spelled : FnScope ["cls", "letters", "beginning", "word", "letter"] ["cls", "letters", "beginning", "word"] (defScope s_Spelled) := ⟨rfl, rfl, rfl, by decide +kernel, rfl, by decide +kernel, by decide +kernel⟩
theorem ok_spelled {f fY CL CH : Addr} {fd fdY : FuncData} (F : Fun K "spelled" "History.spelled" s_Spelled f fd)
    (MY : Mk K CH fY) (bY : Binds K fdY ["self", "letters", "beginning", "runs"] []) (GY : FnOk P w K mg base CX0 5 fY fdY ["self", "letters", "beginning", "runs"] (spHist K CL CH)) :
    FnOk P w K mg base CX0 7 f fd ["cls", "letters", "beginning", "word"] (spSpelled K CL CH) := by
  refine F.ok sc_Spelled (fun vs H Q E h => ?_) (fun cdv A outer s H vs Q E hr h => ?_)
  · obtain ⟨m, t, a, b, ys, ws, rfl, _⟩ := h
    rfl
  · obtain ⟨m, t, a, b, ys, ws, rfl, hM, hb, hS, hw, hn, k⟩ := h
    refine ⟨_, (pss_one (ps_ret (pe_makeL (i := 0) MY GY hr rfl (Or.inl rfl) bY .nil pass0 (pa_cons (pv 1) (pa_cons (pv 2) (pa_cons (pe_lc (own := [("letter", 4)]) rfl sc_Spelled.nd (pi_list (pv 3)) (blkOk_by (N := ["cls", "letters", "beginning", "word", "letter"]) (sc := defScope s_Spelled) (by decide +kernel)) (fun _ _ _ _ _ => (pg_name (i := 4) sc_Spelled.nd rfl (Or.inl rfl))) (fun _ _ _ _ _ => pts_nil) (fun _ _ _ _ _ => (pe_tup (pa_cons (pv 4) (pa_cons pe_int pa_nil))))) pa_nil)))))), ?_⟩
    have z1 : (1000 : Nat) ≤ sizeLine := by decide
    refine ⟨rfl, _, rfl, _, rfl, _, rfl, a, rfl, ⟨_, hS⟩, fun L hL => ?_⟩
    refine lc_it (walk_list (xs := ws.map V.str)) (fun i H' => Same H H' ∧ ∃ ks, H' L = some (.lst ks) ∧ PairsV H' ks (onesR (ws.take i))) ⟨Ask.Same.upd_new (Same.refl _) hL, [], upd_same, PairsV.nil⟩ (fun i H' _ hh => (hh.1).seq hS) ?_ ?_
    · rintro i v H2 H3 hi ⟨s2, ks, hL2, hk⟩ ⟨rfl, hv⟩
      rw [List.getElem?_map] at hv
      cases hz : ws[i]? with
      | none => rw [hz] at hv; cases hv
      | some z =>
        rw [hz] at hv
        cases hv
        have ek := hk.1
        have el : (onesR (ws.take i)).length ≤ 100 := by unfold onesR; rw [List.length_map, List.length_take]; omega
        refine ⟨rfl, _, rfl, by show 2 ≤ sizeLine; decide, fun u hu => ?_⟩
        have hL3 : upd H3 u (.tup [.str z, .int 1]) L = some (.lst ks) := by rw [upd_ne (ne_of_none hL2 hu)]; exact hL2
        have s3 := Ask.Same.made1 (o := .tup [.str z, .int 1]) s2 hu
        have k3 := hk.same (Ask.Same.made1 (o := .tup [.str z, .int 1]) (Same.refl H3) hu)
        refine ⟨ks, hL3, by omega, Ask.Same.upd_new s3 hL, _, upd_same, ?_⟩
        have e : onesR (ws.take (i + 1)) = onesR (ws.take i) ++ [(z, 1)] := by
          unfold onesR
          rw [List.take_add_one, hz, List.map_append]
          rfl
        rw [e]
        exact (k3.app (b := u) (r := (z, 1)) upd_same).mut hL3
    · rintro H2 ⟨s2, ks, hL2, hk⟩
      rw [List.length_map, List.take_length] at hk
      have el : (onesR ws).length ≤ 100 := by unfold onesR; rw [List.length_map]; exact hn
      refine fun x dx hx hdx hne => hist_made (rs := onesR ws) (hM.same s2) hb (.inl (SqL.of hL2)) hk.runs (by omega) (fun r hr => ?_) (by have := joinR_len (onesR ws); omega) hx hdx hne fun H3 s3 hH => ⟨rfl, k H3 x (s2.trans s3) hH⟩
      obtain ⟨z, hz, rfl⟩ := List.mem_map.mp hr
      exact ⟨hw z hz, by show (1 : Int) ≤ 1; decide, by show (1 : Int) ≤ 1000000000000000000000000000000; decide⟩
end
end Ask

namespace Ask
open PySem L2
def freeW (i : Nat) : Str := ("~q" : Str) ++ ((toString (i : Int) : String) : Str)
def freeWs : List Str := (List.range 13).map freeW
theorem freeW_ok : ∀ i ∈ List.range 13, isLs (freeW i) = true ∧ (freeW i).length ≤ 13 ∧ (∀ c ∈ (freeW i).cps.toList, c < 128) := by decide +kernel
theorem freeWs_nd : freeWs.Nodup := by decide +kernel
theorem sub_len {α : Type} [DecidableEq α] : ∀ (l m : List α), l.Nodup → (∀ x ∈ l, x ∈ m) → l.length ≤ m.length
  | [], _, _, _ => Nat.zero_le _
  | a :: l, m, nd, h => by
    have ha := h a (List.mem_cons_self ..)
    have nd2 := List.nodup_cons.mp nd
    have := sub_len l (m.erase a) nd2.2 fun x hx => (List.mem_erase_of_ne (fun z => by subst z; exact nd2.1 hx)).mpr (h x (List.mem_cons_of_mem _ hx))
    rw [List.length_erase_of_mem ha] at this
    have := List.length_pos_of_mem ha
    rw [List.length_cons]
    omega
theorem free_some {ys : List Str} (h : ys.length ≤ 12) : ∃ z, (freeWs.filter fun z => !inV (.str z) (ys.map V.str))[0]? = some z := by
  cases e : freeWs.filter fun z => !inV (.str z) (ys.map V.str) with
  | cons z zs => exact ⟨z, rfl⟩
  | nil =>
    exfalso
    have := sub_len freeWs ys freeWs_nd fun x hx => by
      have := List.filter_eq_nil_iff.mp e x hx
      have : inV (.str x) (ys.map V.str) = true := by
        cases q : inV (.str x) (ys.map V.str) with
        | true => rfl
        | false => rw [q] at this; exact absurd rfl this
      unfold inV at this
      obtain ⟨y, hy, e⟩ := List.any_eq_true.mp this
      obtain ⟨s, hs, rfl⟩ := List.mem_map.mp hy
      have : s = x := of_decide_eq_true e
      subst this
      exact hs
    have e2 : freeWs.length = 13 := by rfl
    omega
theorem free_is {ys : List Str} {z : Str} (h : (freeWs.filter fun z => !inV (.str z) (ys.map V.str))[0]? = some z) : z ∉ ys ∧ isLs z = true ∧ z.length ≤ 13 ∧ Asc z := by
  have m := List.mem_of_getElem? h
  obtain ⟨m1, m2⟩ := List.mem_filter.mp m
  obtain ⟨i, hi, rfl⟩ := List.mem_map.mp m1
  obtain ⟨o1, o2, o3⟩ := freeW_ok i hi
  refine ⟨fun z => ?_, o1, o2, o3⟩
  rw [in_mem z] at m2
  cases m2
section
variable {P : Program} {w : World} {K : PySem.W.Frag} {mg : Str → Option Value} {base : Heap}
/-! ### the law's free letter -/
def spFree (K : PySem.W.Frag) : Sp := fun vs H Q _ => ∃ (a : Addr) (ys : List Str), vs = [.ref a] ∧ SqL K H a (ys.map V.str) ∧ ys.length ≤ 12 ∧
  ∀ (H' : Hp) (z : Str), Same H H' → z ∉ ys → isLs z = true → z.length ≤ 13 → Asc z → Q (.str z) H'
abbrev s__law_free : Stmt := top 81
theorem sc__law_free : FnScope ["_law_letters_here", "_law_k", "_law_word_here"] ["_law_letters_here"] (defScope s__law_free) := ⟨rfl, rfl, rfl, by decide +kernel, rfl, by decide +kernel, by decide +kernel⟩
theorem ok_free {f : Addr} {fd : FuncData} (F : Fun K "_law_free" "_law_free" s__law_free f fd) (T : Blt mg) : FnOk P w K mg base CX0 1 f fd ["_law_letters_here"] (spFree K) := by
  refine F.ok sc__law_free (fun vs H Q E h => ?_) (fun cdv A outer s H vs Q E hr h => ?_)
  · obtain ⟨a, ys, rfl, _⟩ := h
    rfl
  · obtain ⟨a, ys, rfl, ha, ly, k⟩ := h
    refine ⟨_, (pss_one (ps_ret (pe_ix ix_list (pe_lc (own := [("_law_word_here", 2)]) rfl sc__law_free.nd (pi_list (pe_lc (own := [("_law_k", 1)]) rfl sc__law_free.nd (pi_range1 rfl T.n_range (pa_cons pe_int pa_nil)) (blkOk_by (N := ["_law_letters_here", "_law_k", "_law_word_here"]) (sc := defScope s__law_free) (by decide +kernel)) (fun _ _ _ _ _ => (pg_name (i := 1) sc__law_free.nd rfl (Or.inl rfl))) (fun _ _ _ _ _ => pts_nil) (fun _ _ _ _ _ => (pe_op op_add_str pe_str (pe_callTy call_str_int (by rfl) T.n_str (by decide +kernel) (pa_cons (pv 1) pa_nil)))))) (blkOk_by (N := ["_law_letters_here", "_law_k", "_law_word_here"]) (sc := defScope s__law_free) (by decide +kernel)) (fun _ _ _ _ _ => (pg_name (i := 2) sc__law_free.nd rfl (Or.inl rfl))) (fun _ _ _ _ _ => pts_one (pt_cmpR (show OpR _ _ (rIn K true) from op_notIn_seq) (pv 2) (pv 0) rfl)) (fun _ _ _ _ _ => (pv 2))) pe_int (fun _ _ => rfl)))), ?_⟩
    have z1 : (100000 : Nat) ≤ sizeLine := by decide
    have hflat : (ys.map V.str).all flatV = true := by
      rw [List.all_eq_true]
      intro x hx
      obtain ⟨y, _, rfl⟩ := List.mem_map.mp hx
      rfl
    refine ⟨13, rfl, by decide, by decide, fun L hL => ?_⟩
    refine lc_range (lo := 0) (n := 13) (fun i H' => Same H H' ∧ H' L = some (.lst (((List.range i).map freeW).map V.str))) ⟨Ask.Same.upd_new (Same.refl _) hL, upd_same⟩ (fun i H1 hi hh => ?_) (fun H1 hh => ?_)
    · obtain ⟨s1, hL1⟩ := hh
      have e0 : (0 : Int) + (i : Int) = (i : Int) := Int.zero_add _
      have o := freeW_ok i (List.mem_range.mpr hi)
      have l2 : (freeW i).length = Str.length "~q" + Str.length ((toString (i : Int) : String) : Str) := by
        unfold freeW
        simp [Str.length, Str.cps_append]
      have o1 := o.2.1
      refine ⟨rfl, _, rfl, 0 + (i : Int), rfl, ?_, _, _, rfl, rfl, ?_, _, hL1, ?_, Ask.Same.upd_new s1 hL, ?_⟩
      · rw [e0]
        have : ((i : Int)).natAbs = i := rfl
        rw [this]
        exact Nat.lt_of_le_of_lt (Nat.log2_le_self i) (by omega)
      · rw [e0]
        show Str.length "~q" + Str.length ((toString (i : Int) : String) : Str) ≤ sizeLine
        omega
      · rw [List.length_map, List.length_map, List.length_range]
        omega
      · rw [upd_same, List.range_succ, List.map_append, List.map_append, e0]
        rfl
    · obtain ⟨s1, hL1⟩ := hh
      replace hL1 : H1 L = some (.lst (freeWs.map V.str)) := hL1
      refine ⟨L, rfl, ⟨_, SqL.of hL1⟩, fun D hD => ?_⟩
      refine lc_list (K := K) (a := L) (xs := freeWs.map V.str) (fun i H' => Same H1 H' ∧ H' D = some (.lst (((freeWs.take i).filter fun z => !inV (.str z) (ys.map V.str)).map V.str))) ⟨Ask.Same.upd_new (Same.refl _) hD, upd_same⟩ (fun i H' _ hh => SqL.of (hh.1 _ _ hL1)) ?_ ?_
      · rintro i v H2 hi ⟨s2, hD2⟩
        rw [List.getElem?_map] at hi
        cases hz : freeWs[i]? with
        | none => rw [hz] at hi; cases hi
        | some z =>
          rw [hz] at hi
          cases hi
          refine ⟨rfl, _, rfl, _, rfl, a, _, rfl, .inl (s2.seq (s1.seq ha)), rfl, hflat, _, rfl, ?_⟩
          have e : (freeWs.take (i + 1)).filter (fun z => !inV (.str z) (ys.map V.str)) = (freeWs.take i).filter (fun z => !inV (.str z) (ys.map V.str)) ++ if (!inV (.str z) (ys.map V.str)) = true then [z] else [] := by
            rw [List.take_add_one, hz, List.filter_append, Option.toList_some]
            congr 1
            rw [List.filter_cons]
            rfl
          refine ite2 (fun q => ?_) (fun q => ?_)
          · have q : (!inV (.str z) (ys.map V.str)) = true := q
            rw [if_pos q] at e
            refine ⟨_, rfl, _, hD2, ?_, Ask.Same.upd_new s2 hD, ?_⟩
            · have := List.length_filter_le (fun z => !inV (.str z) (ys.map V.str)) (freeWs.take i)
              rw [List.length_take] at this
              have e2 : freeWs.length = 13 := rfl
              rw [List.length_map]
              omega
            · rw [upd_same, e, List.map_append]
              rfl
          · have q : ¬ (!inV (.str z) (ys.map V.str)) = true := q
            rw [if_neg q, List.append_nil] at e
            exact ⟨s2, by rw [e]; exact hD2⟩
      · rintro H2 ⟨s2, hD2⟩
        rw [List.length_map, List.take_length] at hD2
        obtain ⟨z, hz⟩ := free_some ly
        obtain ⟨n1, n2, n3, n4⟩ := free_is hz
        exact ⟨D, _, _, _, rfl, rfl, SqL.of hD2, at_by (j := 0) rfl (by rw [List.getElem?_map, hz]; rfl), k H2 z (s1.trans s2) n1 n2 n3 n4⟩
end
end Ask

namespace Ask
open PySem L2
theorem ahead_anti {ys : List Str} {x y : Str} (h : ahead ys x (.str y) = true) : ahead ys y (.str x) = false := by
  have h : ixOf ys x < ixOf ys y := of_decide_eq_true h
  exact decide_eq_false (by omega)
/-- the one form of the one form, and its triple -/
theorem nf_idem {ys : List Str} {k x : Str} {s : V} (h : DrOk ys k x s) : ∃ (k' x' : Str) (s' : V), nfT ys k x s = [.str k', .str x', s'] ∧ DrOk ys k' x' s' ∧ nfT ys k' x' s' = [.str k', .str x', s'] := by
  obtain ⟨hk, hx, so, nn⟩ := h
  by_cases q1 : k = "over" ∧ V.str x = s
  · obtain ⟨q1, q2⟩ := q1
    refine ⟨"kept", x, s, by unfold nfT; rw [if_pos ⟨q1, q2⟩], ⟨by decide, hx, ⟨fun _ => so.1 (by rw [q1]; decide), fun z => absurd z (by decide)⟩, fun z => absurd z.1 (by decide)⟩, ?_⟩
    unfold nfT
    rw [if_neg (fun z => absurd z.1 (by decide)), if_neg (fun z => absurd z.1 (by decide))]
  · by_cases q2 : k = "alike" ∧ ahead ys x s = true
    · obtain ⟨rfl, q3⟩ := q2
      obtain ⟨y, rfl, hy⟩ := so.1 (by decide)
      refine ⟨"alike", y, .str x, by unfold nfT; rw [if_neg q1, if_pos ⟨rfl, q3⟩], ⟨by decide, hy, ⟨fun _ => ⟨x, rfl, hx⟩, fun z => absurd z (by decide)⟩, fun z => nn ⟨rfl, z.2.symm⟩⟩, ?_⟩
      unfold nfT
      rw [if_neg (fun z => absurd z.1 (by decide)), if_neg (fun z => by rw [ahead_anti q3] at z; cases z.2)]
    · exact ⟨k, x, s, by unfold nfT; rw [if_neg q1, if_neg q2], ⟨hk, hx, so, nn⟩, by unfold nfT; rw [if_neg q1, if_neg q2]⟩
theorem nf_uniq {l : List V} {k x k2 x2 : Str} {s s2 : V} (h : l = [.str k, .str x, s]) (h2 : l = [.str k2, .str x2, s2]) : k = k2 ∧ x = x2 ∧ s = s2 := by
  have e := h.symm.trans h2
  injection e with e1 e
  injection e with e2 e
  injection e with e3 _
  exact ⟨V.str.inj e1, V.str.inj e2, e3⟩
/-! ### triples in a list -/
def TrisV (H : Hp) (vs : List V) (ts : List TriS) : Prop := vs.length = ts.length ∧ ∀ (i : Nat) (v : V) (t : TriS), vs[i]? = some v → ts[i]? = some t → ∃ q, v = .ref q ∧ H q = some (.tup [.str t.1, .str t.2.1, t.2.2])
theorem TrisV.same {H H' : Hp} {vs : List V} {ts : List TriS} (h : TrisV H vs ts) (s : Same H H') : TrisV H' vs ts := ⟨h.1, fun i v t h1 h2 => let ⟨q, e, k⟩ := h.2 i v t h1 h2; ⟨q, e, s _ _ k⟩⟩
theorem TrisV.go {p c : Addr} {ns : List Int} {B : Nat} {H H' : Hp} {vs : List V} {ts : List TriS} (h : TrisV H vs ts) (g : Go p c ns H H' B) : TrisV H' vs ts := ⟨h.1, fun i v t h1 h2 => let ⟨q, e, k⟩ := h.2 i v t h1 h2; ⟨q, e, g.tup k⟩⟩
theorem TrisV.nil {H : Hp} : TrisV H [] [] := ⟨rfl, fun i v t h => by simp at h⟩
theorem TrisV.mut {H : Hp} {vs : List V} {ts : List TriS} {a : Addr} {xs ys : List V} (h : TrisV H vs ts) (e : H a = some (.lst xs)) : TrisV (upd H a (.lst ys)) vs ts := ⟨h.1, fun i v t h1 h2 => let ⟨q, e1, k⟩ := h.2 i v t h1 h2; ⟨q, e1, by
  rw [upd_ne (fun z => by rw [z, e] at k; cases k)]; exact k⟩⟩
theorem TrisV.app {H : Hp} {vs ws : List V} {ts us : List TriS} (h : TrisV H vs ts) (g : TrisV H ws us) : TrisV H (vs ++ ws) (ts ++ us) := by
  refine ⟨by rw [List.length_append, List.length_append, h.1, g.1], fun i v t h1 h2 => ?_⟩
  rcases Nat.lt_or_ge i vs.length with l | l
  · rw [List.getElem?_append_left l] at h1
    rw [List.getElem?_append_left (by rw [← h.1]; exact l)] at h2
    exact h.2 i v t h1 h2
  · rw [List.getElem?_append_right l] at h1
    rw [List.getElem?_append_right (by rw [← h.1]; exact l), ← h.1] at h2
    exact g.2 _ v t h1 h2
theorem TrisV.one {H : Hp} {q : Addr} {t : TriS} (h : H q = some (.tup [.str t.1, .str t.2.1, t.2.2])) : TrisV H [.ref q] [t] := ⟨rfl, fun i v t' h1 h2 => by
  cases i with
  | zero => cases h1; cases h2; exact ⟨q, rfl, h⟩
  | succ i => simp at h1⟩
/-! ### flat values, told apart -/
def FlB (v : V) : Prop := v = .non ∨ (∃ b, v = .bl b) ∨ (∃ i, v = .int i) ∨ v = .str "1"
theorem FlB.fl {v : V} (h : FlB v) : Fl v := by
  rcases h with h | h | h | h
  · exact .inl h
  · exact .inr (.inl h)
  · exact .inr (.inr (.inl h))
  · exact .inr (.inr (.inr ⟨_, h⟩))
theorem dp_flats {K : PySem.W.Frag} {H : Hp} : ∀ {xs : List V}, (∀ x ∈ xs, FlB x) → ∃ ds, DpAll K H xs ds ∧ PyData.canLayAll0 ds = true ∧ PyData.depthAll ds ≤ 0 ∧ ds.length = xs.length
  | [], _ => ⟨[], .nil, rfl, Nat.le_refl _, rfl⟩
  | x :: xs, h => by
    obtain ⟨ds, h1, h2, h3, h4⟩ := dp_flats (K := K) (H := H) (xs := xs) fun y hy => h y (List.mem_cons_of_mem _ hy)
    rcases h x (List.mem_cons_self ..) with rfl | ⟨b, rfl⟩ | ⟨i, rfl⟩ | rfl
    · exact ⟨_, .cons .non h1, by show (true && _) = true; rw [h2]; rfl, Nat.max_le.mpr ⟨Nat.le_refl _, h3⟩, by rw [List.length_cons, List.length_cons, h4]⟩
    · exact ⟨_, .cons (.bl b) h1, by show (true && _) = true; rw [h2]; rfl, Nat.max_le.mpr ⟨Nat.le_refl _, h3⟩, by rw [List.length_cons, List.length_cons, h4]⟩
    · exact ⟨_, .cons (.int i) h1, by show (true && _) = true; rw [h2]; rfl, Nat.max_le.mpr ⟨Nat.le_refl _, h3⟩, by rw [List.length_cons, List.length_cons, h4]⟩
    · exact ⟨_, .cons (.str _) h1, by show (PyData.strOk ("1" : Str) && _) = true; rw [h2, asc_ok (Asc.lit (by decide +kernel))]; rfl, Nat.max_le.mpr ⟨Nat.le_refl _, h3⟩, by rw [List.length_cons, List.length_cons, h4]⟩
theorem eqvAll_nil (ds : List PyData) : PyData.eqvAll ds [] = decide (ds.length = 0) := by
  cases ds with
  | nil => simp [PyData.eqvAll]
  | cons d ds => simp [PyData.eqvAll]
/-- what is a step to the law, of any value -/
def ElL (K : PySem.W.Frag) (H : Hp) (v : V) (o : Option Stp) : Prop := (∃ (a : Addr) (xs : List V), v = .ref a ∧ (SqL K H a xs ∨ SqT K H a xs) ∧ xs.length ≤ 100 ∧ (∀ x ∈ xs, FlB x) ∧ o = stOf xs) ∨
  (o = none ∧ ∃ t, TyX K H v t ∧ PySem.W.kitAny K t [.type "list", .type "tuple"] = some false)
theorem ElL.st {K : PySem.W.Frag} {H : Hp} {v : V} {o : Option Stp} (h : ElL K H v o) : StV K H v o := by
  rcases h with ⟨a, xs, e, hS, _, hF, r⟩ | r
  · exact .inl ⟨a, xs, e, hS, fun x hx => (hF x hx).fl, r⟩
  · exact .inr r
theorem ElL.same {K : PySem.W.Frag} {H H' : Hp} {v : V} {o : Option Stp} (h : ElL K H v o) (s : Same H H') : ElL K H' v o := by
  rcases h with ⟨a, xs, e, hS, r⟩ | ⟨e, t, ty, k⟩
  · exact .inl ⟨a, xs, e, seqA_same hS s, r⟩
  · exact .inr ⟨e, t, tyx_same ty s, k⟩
def ElsL (K : PySem.W.Frag) (H : Hp) (xs : List V) (os : List (Option Stp)) : Prop := xs.length = os.length ∧ ∀ (i : Nat) (x : V) (o : Option Stp), xs[i]? = some x → os[i]? = some o → ElL K H x o
theorem ElsL.same {K : PySem.W.Frag} {H H' : Hp} {xs : List V} {os : List (Option Stp)} (h : ElsL K H xs os) (s : Same H H') : ElsL K H' xs os := ⟨h.1, fun i x o h1 h2 => (h.2 i x o h1 h2).same s⟩
theorem not_isI {xs : List V} : (xs.filter fun x => !isI x) = [] ↔ xs.all isI = true := by
  rw [List.filter_eq_nil_iff, List.all_eq_true]
  exact ⟨fun h x hx => by have := h x hx; revert this; cases isI x <;> simp, fun h x hx => by rw [h x hx]; decide⟩
section
variable {P : Program} {w : World} {K : PySem.W.Frag} {mg : Str → Option Value} {base : Heap}
/-! ### a word -/
def spLWord (K : PySem.W.Frag) : Sp := fun vs H Q _ => ∃ (p c q : Addr) (ns : List Int) (B : Nat) (ys : List Str) (m : Int), vs = [.ref p, .ref q, .int m] ∧ Pen c ns H p B ∧ B ≤ 300000000 ∧ SqL K H q (ys.map V.str) ∧ 0 < ys.length ∧ ys.length ≤ 100 ∧ 0 ≤ m ∧ m ≤ 20 ∧
  ∀ (H' : Hp) (L : Addr) (ws : List Str), Go p c ns H H' (B + 100) → H L = none → H' L = some (.lst (ws.map V.str)) → (ws.length : Int) ≤ m → (∀ z ∈ ws, z ∈ ys) → Q (.ref L) H'
abbrev s__law_word : Stmt := top 63
theorem sc__law_word : FnScope ["_law_pen_here", "_law_letters_here", "_law_highest", "_law_k"] ["_law_pen_here", "_law_letters_here", "_law_highest"] (defScope s__law_word) := ⟨rfl, rfl, rfl, by decide +kernel, rfl, by decide +kernel, by decide +kernel⟩
theorem ok_lawWord {f fD fP : Addr} {fd fdD fdP : FuncData} (F : Fun K "_law_word" "_law_word" s__law_word f fd) (T : Blt mg)
    (G__law_draw : FnOk P w K mg base CX0 1 fD fdD ["_law_pen_here", "_law_many"] spDraw) (A__law_draw : At K mg "_law_draw" fD fdD ["_law_pen_here", "_law_many"])
    (G__law_pick : FnOk P w K mg base CX0 2 fP fdP ["_law_pen_here", "_law_options"] (spPick K)) (A__law_pick : At K mg "_law_pick" fP fdP ["_law_pen_here", "_law_options"]) :
    FnOk P w K mg base CX0 3 f fd ["_law_pen_here", "_law_letters_here", "_law_highest"] (spLWord K) := by
  refine F.ok sc__law_word (fun vs H Q E h => ?_) (fun cdv A outer s H vs Q E hr h => ?_)
  · obtain ⟨p, c, q, ns, B, ys, m, rfl, _⟩ := h
    rfl
  · obtain ⟨p, c, q, ns, B, ys, m, rfl, hp, hB, hq, l0, l1, m0, m1, k⟩ := h
    have h__law_draw := hr.mono (j := 1) (by decide)
    have h__law_pick := hr.mono (j := 2) (by decide)
    refine ⟨_, (pss_one (ps_ret (pe_lc (own := [("_law_k", 3)]) rfl sc__law_word.nd (pi_range1 rfl T.n_range (pa_cons (pe_call G__law_draw (by exact h__law_draw) (by rfl) A__law_draw.m A__law_draw.k A__law_draw.b .nil pass0 (pa_cons (pv 0) (pa_cons (pe_op op_add (pv 2) pe_int) pa_nil))) pa_nil)) (blkOk_by (N := ["_law_pen_here", "_law_letters_here", "_law_highest", "_law_k"]) (sc := defScope s__law_word) (by decide +kernel)) (fun _ _ _ _ _ => (pg_name (i := 3) sc__law_word.nd rfl (Or.inl rfl))) (fun _ _ _ _ _ => pts_nil) (fun _ _ _ _ _ => (pe_call G__law_pick (by exact h__law_pick) (by rfl) A__law_pick.m A__law_pick.k A__law_pick.b .nil pass0 (pa_cons (pv 0) (pa_cons (pv 1) pa_nil))))))), ?_⟩
    have z1 : (100000 : Nat) ≤ sizeLine := by decide
    refine ⟨_, rfl, _, rfl, _, _, rfl, rfl, p, c, ns, m + 1, B, rfl, hp, by omega, by omega, by omega, fun H1 r g1 r0 r1 => ⟨r, rfl, by omega, by omega, fun L hL => ?_⟩⟩
    have hL0 := g1.free hL
    refine lc_range (lo := 0) (n := r.toNat) (fun j H' => Go p c ns H H' (B + 1 + j) ∧ ∃ ws : List Str, H' L = some (.lst (ws.map V.str)) ∧ ws.length = j ∧ ∀ z ∈ ws, z ∈ ys) ⟨(g1.new hL).mono (by omega), [], upd_same, rfl, fun r hr => by cases hr⟩ (fun j H2 hj hh => ?_) (fun H2 hh => ?_)
    · obtain ⟨g2, ws, e1, e3, e4⟩ := hh
      refine ⟨rfl, _, rfl, _, rfl, p, c, ns, .ref q, _, rfl, g2.pen, by omega, .inl ⟨q, _, rfl, g2.seq hq, by rw [List.length_map]; exact l0, by rw [List.length_map]; omega, fun H3 v g3 hv => ?_⟩⟩
      obtain ⟨z, hz, rfl⟩ := List.mem_map.mp hv
      have e1' := g3.lst e1
      refine ⟨_, e1', by rw [List.length_map]; omega, ((g2.step g3).mut hL0).mono (by omega), ws ++ [z], by rw [upd_same, List.map_append]; rfl, by rw [List.length_append, e3]; rfl, fun r' hr' => ?_⟩
      rcases List.mem_append.mp hr' with hr' | hr'
      · exact e4 r' hr'
      · rw [List.mem_singleton] at hr'
        subst hr'
        exact hz
    · obtain ⟨g2, ws, e1, e3, e4⟩ := hh
      exact k H2 L ws (g2.mono (by omega)) hL0 e1 (by omega) e4
/-! ### told sentences -/
def spLTold (K : PySem.W.Frag) : Sp := fun vs H Q _ => ∃ (p c q : Addr) (ns : List Int) (B : Nat) (ys : List Str) (m : Int), vs = [.ref p, .ref q, .int m] ∧ Pen c ns H p B ∧ B ≤ 300000000 ∧ SqL K H q (ys.map V.str) ∧ 0 < ys.length ∧ ys.length ≤ 100 ∧ 0 ≤ m ∧ m ≤ 20 ∧
  ∀ (H' : Hp) (L : Addr) (vs : List V) (ts : List TriS), Go p c ns H H' (B + 100) → H L = none → H' L = some (.lst vs) → TrisV H' vs ts → (ts.length : Int) ≤ m → (∀ t ∈ ts, DrOk ys t.1 t.2.1 t.2.2) → Q (.ref L) H'
abbrev s__law_told : Stmt := top 71
theorem sc__law_told : FnScope ["_law_pen_here", "_law_letters_here", "_law_highest", "_law_k"] ["_law_pen_here", "_law_letters_here", "_law_highest"] (defScope s__law_told) := ⟨rfl, rfl, rfl, by decide +kernel, rfl, by decide +kernel, by decide +kernel⟩
theorem ok_lawTold {f fD fP : Addr} {fd fdD fdP : FuncData} (F : Fun K "_law_told" "_law_told" s__law_told f fd) (T : Blt mg)
    (G__law_draw : FnOk P w K mg base CX0 1 fD fdD ["_law_pen_here", "_law_many"] spDraw) (A__law_draw : At K mg "_law_draw" fD fdD ["_law_pen_here", "_law_many"])
    (G__law_drawn : FnOk P w K mg base CX0 3 fP fdP ["_law_pen_here", "_law_letters_here"] (spDrawn K)) (A__law_drawn : At K mg "_law_drawn" fP fdP ["_law_pen_here", "_law_letters_here"]) :
    FnOk P w K mg base CX0 4 f fd ["_law_pen_here", "_law_letters_here", "_law_highest"] (spLTold K) := by
  refine F.ok sc__law_told (fun vs H Q E h => ?_) (fun cdv A outer s H vs Q E hr h => ?_)
  · obtain ⟨p, c, q, ns, B, ys, m, rfl, _⟩ := h
    rfl
  · obtain ⟨p, c, q, ns, B, ys, m, rfl, hp, hB, hq, l0, l1, m0, m1, k⟩ := h
    have h__law_draw := hr.mono (j := 1) (by decide)
    have h__law_drawn := hr.mono (j := 3) (by decide)
    refine ⟨_, (pss_one (ps_ret (pe_lc (own := [("_law_k", 3)]) rfl sc__law_told.nd (pi_range1 rfl T.n_range (pa_cons (pe_call G__law_draw (by exact h__law_draw) (by rfl) A__law_draw.m A__law_draw.k A__law_draw.b .nil pass0 (pa_cons (pv 0) (pa_cons (pe_op op_add (pv 2) pe_int) pa_nil))) pa_nil)) (blkOk_by (N := ["_law_pen_here", "_law_letters_here", "_law_highest", "_law_k"]) (sc := defScope s__law_told) (by decide +kernel)) (fun _ _ _ _ _ => (pg_name (i := 3) sc__law_told.nd rfl (Or.inl rfl))) (fun _ _ _ _ _ => pts_nil) (fun _ _ _ _ _ => (pe_call G__law_drawn (by exact h__law_drawn) (by rfl) A__law_drawn.m A__law_drawn.k A__law_drawn.b .nil pass0 (pa_cons (pv 0) (pa_cons (pv 1) pa_nil))))))), ?_⟩
    have z1 : (100000 : Nat) ≤ sizeLine := by decide
    refine ⟨_, rfl, _, rfl, _, _, rfl, rfl, p, c, ns, m + 1, B, rfl, hp, by omega, by omega, by omega, fun H1 r g1 r0 r1 => ⟨r, rfl, by omega, by omega, fun L hL => ?_⟩⟩
    have hL0 := g1.free hL
    refine lc_range (lo := 0) (n := r.toNat) (fun j H' => Go p c ns H H' (B + 1 + 3 * j) ∧ ∃ (vs : List V) (ts : List TriS), H' L = some (.lst vs) ∧ TrisV H' vs ts ∧ ts.length = j ∧ ∀ t ∈ ts, DrOk ys t.1 t.2.1 t.2.2) ⟨(g1.new hL).mono (by omega), [], [], upd_same, TrisV.nil, rfl, fun r hr => by cases hr⟩ (fun j H2 hj hh => ?_) (fun H2 hh => ?_)
    · obtain ⟨g2, vs, ts, e1, e2, e3, e4⟩ := hh
      refine ⟨rfl, _, rfl, _, rfl, p, c, ns, _, q, ys, rfl, g2.pen, by omega, g2.seq hq, l0, by omega, fun H3 t0 k0 x0 s0 g3 ht0 dr => ?_⟩
      have e1' := g3.lst e1
      have e2' := (e2.go g3).app (TrisV.one (t := (k0, x0, s0)) ht0)
      refine ⟨_, e1', by rw [e2.1]; omega, ((g2.step g3).mut hL0).mono (by omega), _, ts ++ [(k0, x0, s0)], upd_same, e2'.mut e1', by rw [List.length_append, e3]; rfl, fun r' hr' => ?_⟩
      rcases List.mem_append.mp hr' with hr' | hr'
      · exact e4 r' hr'
      · rw [List.mem_singleton] at hr'
        subst hr'
        exact dr
    · obtain ⟨g2, vs, ts, e1, e2, e3, e4⟩ := hh
      exact k H2 L vs ts (g2.mono (by omega)) hL0 e1 e2 (by omega) e4
/-! ### the one form of all -/
def spNormals (K : PySem.W.Frag) : Sp := fun vs H Q _ => ∃ (q l : Addr) (ys : List Str) (us : List V) (ts : List TriS), vs = [.ref q, .ref l] ∧ SqL K H q (ys.map V.str) ∧ SqL K H l us ∧ TrisV H us ts ∧ ts.length ≤ 1000 ∧ (∀ t ∈ ts, DrOk ys t.1 t.2.1 t.2.2) ∧
  ∀ (H' : Hp) (L : Addr) (vs : List V) (ts' : List TriS), Same H H' → H' L = some (.lst vs) → TrisV H' vs ts' → ts'.length = ts.length → (∀ t ∈ ts', DrOk ys t.1 t.2.1 t.2.2 ∧ nfT ys t.1 t.2.1 t.2.2 = [.str t.1, .str t.2.1, t.2.2]) → Q (.ref L) H'

abbrev s__law_normals : Stmt := top 85
theorem sc__law_normals : FnScope ["_law_letters_here", "_law_told_here", "_law_triple"] ["_law_letters_here", "_law_told_here"] (defScope s__law_normals) := ⟨rfl, rfl, rfl, by decide +kernel, rfl, by decide +kernel, by decide +kernel⟩
theorem ok_normals {f fN : Addr} {fd fdN : FuncData} (F : Fun K "_law_normals" "_law_normals" s__law_normals f fd)
    (G__law_normal : FnOk P w K mg base CX0 1 fN fdN ["_law_letters_here", "_law_triple"] (spNormal K)) (A__law_normal : At K mg "_law_normal" fN fdN ["_law_letters_here", "_law_triple"]) :
    FnOk P w K mg base CX0 2 f fd ["_law_letters_here", "_law_told_here"] (spNormals K) := by
  refine F.ok sc__law_normals (fun vs H Q E h => ?_) (fun cdv A outer s H vs Q E hr h => ?_)
  · obtain ⟨q, l, ys, us, ts, rfl, _⟩ := h
    rfl
  · obtain ⟨q, l, ys, us, ts, rfl, hq, hl, hT, ln, ok, k⟩ := h
    have h__law_normal := hr.mono (j := 1) (by decide)
    refine ⟨_, (pss_one (ps_ret (pe_lc (own := [("_law_triple", 2)]) rfl sc__law_normals.nd (pi_list (pv 1)) (blkOk_by (N := ["_law_letters_here", "_law_told_here", "_law_triple"]) (sc := defScope s__law_normals) (by decide +kernel)) (fun _ _ _ _ _ => (pg_name (i := 2) sc__law_normals.nd rfl (Or.inl rfl))) (fun _ _ _ _ _ => pts_nil) (fun _ _ _ _ _ => (pe_call G__law_normal (by exact h__law_normal) (by rfl) A__law_normal.m A__law_normal.k A__law_normal.b .nil pass0 (pa_cons (pv 0) (pa_cons (pv 2) pa_nil))))))), ?_⟩
    have z1 : (100000 : Nat) ≤ sizeLine := by decide
    refine ⟨_, rfl, l, rfl, ⟨_, hl⟩, fun L hL => ?_⟩
    refine lc_list (K := K) (a := l) (xs := us) (fun i H' => Same H H' ∧ ∃ (vs : List V) (ts' : List TriS), H' L = some (.lst vs) ∧ TrisV H' vs ts' ∧ ts'.length = i ∧ ∀ t ∈ ts', DrOk ys t.1 t.2.1 t.2.2 ∧ nfT ys t.1 t.2.1 t.2.2 = [.str t.1, .str t.2.1, t.2.2]) ⟨Ask.Same.upd_new (Same.refl _) hL, [], [], upd_same, TrisV.nil, rfl, fun t h => by cases h⟩ (fun i H' _ hh => hh.1.seq hl) ?_ ?_
    · rintro i v H1 hi ⟨s1, vs, ts', e1, e2, e3, e4⟩
      have il : i < us.length := (List.getElem?_eq_some_iff.mp hi).1
      obtain ⟨t, ht⟩ : ∃ t, ts[i]? = some t := ⟨_, List.getElem?_eq_getElem (by rw [← hT.1]; exact il)⟩
      obtain ⟨tr, rfl, htr⟩ := (hT.same s1).2 i v t hi ht
      have dr := ok t (List.mem_of_getElem? ht)
      obtain ⟨k', x', s', en, dr', en'⟩ := nf_idem dr
      refine ⟨rfl, _, rfl, _, rfl, q, tr, ys, t.1, t.2.1, t.2.2, rfl, s1.seq hq, htr, dr.2.1, dr.2.2.1.1, dr.2.2.1.2, fun H2 n s2 hn => ?_⟩
      rw [en] at hn
      have e1' := s2 _ _ e1
      have e2' := (e2.same s2).app (TrisV.one (t := (k', x', s')) hn)
      refine ⟨_, e1', by rw [e2.1]; rw [hT.1] at il; omega, Ask.Same.upd_new (s1.trans s2) hL, _, ts' ++ [(k', x', s')], upd_same, e2'.mut e1', by rw [List.length_append, e3]; rfl, fun r' hr' => ?_⟩
      rcases List.mem_append.mp hr' with hr' | hr'
      · exact e4 r' hr'
      · rw [List.mem_singleton] at hr'
        subst hr'
        exact ⟨dr', en'⟩
    · rintro H1 ⟨s1, vs, ts', e1, e2, e3, e4⟩
      exact k H1 L vs ts' s1 e1 e2 (e3.trans hT.1) e4
/-! ### a step, by the law -/
def spLIsStep (K : PySem.W.Frag) : Sp := fun vs H Q _ => ∃ (v : V) (o : Option Stp) (m : Int), vs = [v, .int m] ∧ ElL K H v o ∧ ∀ H', Same H H' → Q (.bl (stB o m)) H'

abbrev s__law_is_step : Stmt := top 78
theorem sc__law_is_step : FnScope ["_law_step", "_law_many", "_law_part"] ["_law_step", "_law_many"] (defScope s__law_is_step) := ⟨rfl, rfl, rfl, by decide +kernel, rfl, by decide +kernel, by decide +kernel⟩
theorem ok_lawIsStep {f : Addr} {fd : FuncData} (F : Fun K "_law_is_step" "_law_is_step" s__law_is_step f fd) (T : Blt mg) (nB : mg "bool" = none) :
    FnOk P w K mg base CX0 1 f fd ["_law_step", "_law_many"] (spLIsStep K) := by
  refine F.ok sc__law_is_step (fun vs H Q E h => ?_) (fun cdv A outer s H vs Q E hr h => ?_)
  · obtain ⟨v, o, m, rfl, _⟩ := h
    rfl
  · obtain ⟨v, o, m, rfl, hv, kq⟩ := h
    refine ⟨_, (pss_cons (ps_if (PW.pt (pw_or (pt_not (pt_val (pe_callB call_isiT (by rfl) T.n_isinstance (by decide +kernel) (pa_cons (pv 0) (pa_cons (pe_tup (pa_cons (pe_bltn (v := .ty "list") (u := .type "list") rfl T.n_list (by decide +kernel) rfl) (pa_cons (pe_bltn (v := .ty "tuple") (u := .type "tuple") rfl T.n_tuple (by decide +kernel) rfl) pa_nil))) pa_nil))))) (pw_or1 (pt_cmpR op_ne (pe_callB call_len_seq (by rfl) T.n_len (by decide +kernel) (pa_cons (pv 0) pa_nil)) pe_int (nomark _))))) (pss_one (ps_ret pe_bl)) pss_nil)
      (pss_cons (ps_if (pt_cmpR (op_neD hr.units) (pe_lc (own := [("_law_part", 2)]) rfl sc__law_is_step.nd (pi_or (pi_list (pv 0)) (pi_tup (pv 0))) (blkOk_by (N := ["_law_step", "_law_many", "_law_part"]) (sc := defScope s__law_is_step) (by decide +kernel)) (fun _ _ _ _ _ => (pg_name (i := 2) sc__law_is_step.nd rfl (Or.inl rfl))) (fun _ _ _ _ _ => pts_one (PW.pt (pw_or (pt_not (pt_val (show PE _ _ (tCB (rIsi K) _) from pe_callB call_isi (by rfl) T.n_isinstance (by decide +kernel) (pa_cons (pv 2) (pa_cons (pe_bltn (v := .ty "int") (u := .type "int") rfl T.n_int (by decide +kernel) rfl) pa_nil))))) (pw_or1 (pt_val (show PE _ _ (tCB (rIsi K) _) from pe_callB call_isi (by rfl) T.n_isinstance (by decide +kernel) (pa_cons (pv 2) (pa_cons (pe_bltn (v := .ty "bool") (u := .type "bool") rfl nB (by decide +kernel) rfl) pa_nil)))))))) (fun _ _ _ _ _ => (pv 2))) (pe_lst pa_nil) (nomark _)) (pss_one (ps_ret pe_bl)) pss_nil)
      (pss_one (ps_ret (pe_and (pe_chain op_le op_lt pe_int (pe_ix ix_seq (pv 0) pe_int (fun _ _ => rfl)) (pv 1)) (pe_and (pe_cmpR op_ge (pe_ix ix_seq (pv 0) pe_int (fun _ _ => rfl)) pe_int (nomark _)) (pe_and (pe_cmpR op_in_seq (pe_ix ix_seq (pv 0) pe_int (fun _ _ => rfl)) (pe_tup (pa_cons pe_int (pa_cons (pe_un un_neg pe_int) pa_nil))) rfl) (pe_one (pe_cmpR op_ge (pe_ix ix_seq (pv 0) pe_int (fun _ _ => rfl)) pe_int (nomark _)))))))))), ?_⟩
    have tup2 : ∀ {q0 : Addr}, H q0 = none → Same H (upd H q0 (.tup [.ty "list", .ty "tuple"])) := fun h => Ask.Same.made1 (Same.refl H) h
    rcases hv with ⟨a, xs, rfl, hS, lx, hF, rfl⟩ | ⟨rfl, t, ty, ka⟩
    rotate_left
    · exact ⟨_, rfl, by show 2 ≤ sizeLine; decide, fun q0 hq0 => ⟨v, q0, _, t, _, false, rfl, upd_same, .cons (.ty _) (.cons (.ty _) .nil), tyx_same ty (tup2 hq0), ka, _, rfl, iteT (kq _ (tup2 hq0))⟩⟩
    obtain ⟨t, ty, ka⟩ := seqA_ty hS
    refine ⟨_, rfl, by show 2 ≤ sizeLine; decide, fun q0 hq0 => ⟨_, q0, _, t, _, true, rfl, upd_same, .cons (.ty _) (.cons (.ty _) .nil), tyx_same ty (tup2 hq0), ka, _, rfl, iteF ?_⟩⟩
    have s1 := tup2 hq0
    generalize upd H q0 (.tup [.ty "list", .ty "tuple"]) = H1 at s1 ⊢
    have hS1 := seqA_same hS s1
    refine ⟨_, rfl, a, xs, rfl, hS1, rfl, _, rfl, ?_⟩
    by_cases ln : xs.length = 4
    rotate_left
    · have e0 : stOf xs = none := by
        cases e : stOf xs with
        | none => rfl
        | some s => exact absurd (stOf_len e).1 ln
      rw [e0] at kq
      rw [decide_eq_false (by intro z; have := V.int.inj z; omega)]
      exact iteT (kq H1 s1)
    rw [decide_eq_true (by rw [ln]; rfl)]
    refine iteF ?_
    have z1 : (100000 : Nat) ≤ sizeLine := by decide
    rcases hS1 with hS1 | hS1
    all_goals
      first
        | refine .inl ⟨_, rfl, a, rfl, ⟨_, hS1⟩, fun D hD => lc_it (walk_list (xs := xs)) (fun i H' => Same H1 H' ∧ H' D = some (.lst ((xs.take i).filter fun x => !isI x))) ⟨Ask.Same.upd_new (Same.refl H1) hD, upd_same⟩ (fun i H' _ hh => hh.1.seq hS1) ?_ ?_⟩
        | refine .inr ⟨_, rfl, a, rfl, ⟨_, hS1⟩, fun D hD => lc_it (walk_tup (xs := xs)) (fun i H' => Same H1 H' ∧ H' D = some (.lst ((xs.take i).filter fun x => !isI x))) ⟨Ask.Same.upd_new (Same.refl H1) hD, upd_same⟩ (fun i H' _ hh => seqT_same hh.1 hS1) ?_ ?_⟩
      · rintro i x H2 H3 hi ⟨s2, eD⟩ ⟨rfl, hx⟩
        have ef : (xs.take (i + 1)).filter (fun x => !isI x) = (xs.take i).filter (fun x => !isI x) ++ if isI x = true then [] else [x] := by
          rw [List.take_add_one, hx, List.filter_append]
          show _ ++ List.filter (fun x => !isI x) [x] = _
          by_cases q : isI x = true
          · rw [if_pos q, List.filter_cons_of_neg (by rw [q]; decide)]; rfl
          · rw [if_neg q, List.filter_cons_of_pos (by rw [(Bool.not_eq_true _).mp q]; rfl)]; rfl
        obtain ⟨t, b, c, h1, h2, h3, h4⟩ := ((hF x (List.mem_of_getElem? hx)).fl).wh (K := K) (H := H3)
        refine ⟨rfl, ?_⟩
        have fl : ((xs.take i).filter fun x => !isI x).length ≤ 100 := Nat.le_trans (List.length_filter_le ..) (by rw [List.length_take]; omega)
        have e0 : (!isI x) = (!b || c) := by rw [← h4]; cases b <;> cases c <;> rfl
        have keep : isI x = false → ∃ acc, H3 D = some (.lst acc) ∧ acc.length < sizeLine ∧ Same H1 (upd H3 D (.lst (acc ++ [x]))) ∧ upd H3 D (.lst (acc ++ [x])) D = some (.lst ((xs.take (i + 1)).filter fun x => !isI x)) := fun q => by
          rw [q, if_neg (by decide)] at ef
          exact ⟨_, eD, by omega, Ask.Same.upd_new s2 hD, by rw [upd_same, ef]⟩
        have drop : isI x = true → Same H1 H3 ∧ H3 D = some (.lst ((xs.take (i + 1)).filter fun x => !isI x)) := fun q => by
          rw [q, if_pos rfl, List.append_nil] at ef
          exact ⟨s2, by rw [ef]; exact eD⟩
        refine ⟨_, rfl, x, _, t, _, b, rfl, .ty _, h1, h2, _, rfl, ?_⟩
        cases b with
        | false =>
          refine iteT (iteT ?_)
          exact ⟨_, rfl, keep (by rw [← h4]; rfl)⟩
        | true =>
          refine iteF ⟨_, rfl, x, _, t, _, c, rfl, .ty _, h1, h3, _, rfl, ?_⟩
          cases c with
          | true => exact iteT ⟨_, rfl, keep (by rw [← h4]; rfl)⟩
          | false => exact iteF (drop (by rw [← h4]; rfl))
      · rintro H2 ⟨s2, eD⟩
        rw [List.take_length] at eD
        refine ⟨Nat.zero_le _, fun E hE => ?_⟩
        have s3 := Ask.Same.made1 (o := .lst []) s2 hE
        have eD3 : upd H2 E (.lst []) D = some (.lst (xs.filter fun x => !isI x)) := by rw [upd_ne (ne_of_none eD hE)]; exact eD
        have eE : upd H2 E (.lst []) E = some (.lst []) := upd_same
        generalize upd H2 E (.lst []) = H3 at s3 eD3 eE ⊢
        obtain ⟨ds, d1, d2, d3, d4⟩ := dp_flats (K := K) (H := H3) (xs := xs.filter fun x => !isI x) fun x hx => hF x (List.mem_filter.mp hx).1
        refine ⟨.list ds, .list [], .lst (SqL.of eD3) d1, .lst (SqL.of eE) .nil, shaped_of d2 (by show PyData.depthAll ds + 1 ≤ 64; omega), shaped_of rfl (by decide), ?_⟩
        have ee : PyData.eqv (.list ds) (.list []) = xs.all isI := by
          rw [PyData.eqv, eqvAll_nil, d4]
          by_cases q : xs.all isI = true
          · rw [q, not_isI.mpr q]; rfl
          · rw [(Bool.not_eq_true _).mp q]
            exact decide_eq_false fun z => q (not_isI.mp (List.length_eq_zero_iff.mp z))
        rw [ee]
        by_cases hall : xs.all isI = true
        rotate_left
        · have e0 : stOf xs = none := by
            cases e : stOf xs with
            | none => rfl
            | some s => exact absurd (stOf_len e).2 hall
          rw [e0] at kq
          rw [(Bool.not_eq_true _).mp hall]
          exact ⟨_, rfl, iteT (kq H3 (s1.trans s3))⟩
        rw [hall]
        refine ⟨_, rfl, iteF ?_⟩
        obtain ⟨r0, p0, w0, t0, rfl⟩ := stOf_all ln hall
        replace kq : ∀ H', Same H H' → Q (.bl (decide (0 ≤ r0) && (decide (r0 < m) && (decide (0 ≤ p0) && (decide (w0 = 1 ∨ w0 = -1) && decide (1 ≤ t0)))))) H' := kq
        have s13 := s1.trans s3
        have hS3 := seqA_same hS s13
        have ix : ∀ (j : Nat) (z : V) (R : VK), ([.int r0, .int p0, .int w0, .int t0] : List V)[j]? = some z → R z H3 → rIx K (.ref a) (.int (j : Int)) H3 R := fun j z R e h => ix_any hS3 (at_by (j := j) rfl e) h
        refine ⟨_, rfl, ix 0 _ _ rfl ⟨_, _, rfl, rfl, _, rfl, ite2 (fun q1 => ?_) (fun q1 => ?_)⟩⟩
        rotate_left
        · rw [decide_eq_false (fun z => q1 (decide_eq_true z)), Bool.false_and] at kq
          exact ⟨_, rfl, iteF (kq H3 s13)⟩
        rw [show decide (0 ≤ r0) = true from q1, Bool.true_and] at kq
        refine ⟨_, rfl, _, _, rfl, rfl, _, rfl, ite2 (fun q2 => ?_) (fun q2 => ?_)⟩
        rotate_left
        · rw [decide_eq_false (fun z => q2 (decide_eq_true z)), Bool.false_and] at kq
          exact kq H3 s13
        rw [show decide (r0 < m) = true from q2, Bool.true_and] at kq
        refine ⟨_, rfl, ix 1 _ _ rfl ⟨_, _, rfl, rfl, _, rfl, ite2 (fun q3 => ?_) (fun q3 => ?_)⟩⟩
        rotate_left
        · rw [decide_eq_false (fun z => q3 (decide_eq_true z)), Bool.false_and] at kq
          exact kq H3 s13
        rw [show decide (0 ≤ p0) = true from q3, Bool.true_and] at kq
        refine ⟨_, rfl, ix 2 _ _ rfl ⟨_, rfl, by show 2 ≤ sizeLine; decide, fun q hq => ⟨q, _, rfl, .inr (SqT.of upd_same), rfl, rfl, _, rfl, ?_⟩⟩⟩
        have s4 := Ask.Same.made1 (o := .tup [.int 1, .int (-1)]) (Same.refl H3) hq
        have ei : inV (.int w0) [.int 1, .int (-1)] = decide (w0 = 1 ∨ w0 = -1) := by
          have e1 : ∀ i : Int, eqV (.int i) (.int w0) = decide (i = w0) := fun i => by
            show (i == w0) = _
            rfl
          unfold inV
          rw [List.any_cons, List.any_cons, List.any_nil, e1, e1]
          by_cases a1 : w0 = 1
          · subst a1; rfl
          · by_cases a2 : w0 = -1
            · subst a2; rfl
            · rw [decide_eq_false (fun z => a1 z.symm), decide_eq_false (fun z => a2 z.symm), decide_eq_false (fun z => z.elim a1 a2)]
              rfl
        refine ite2 (fun q4 => ?_) (fun q4 => ?_)
        rotate_left
        · replace q4 : decide (w0 = 1 ∨ w0 = -1) = false := by rw [← ei]; exact (Bool.not_eq_true _).mp q4
          rw [q4, Bool.false_and] at kq
          exact kq _ (s13.trans s4)
        replace q4 : decide (w0 = 1 ∨ w0 = -1) = true := by rw [← ei]; exact q4
        rw [q4, Bool.true_and] at kq
        exact ⟨_, rfl, ix_any (seqA_same hS3 s4) (at_by (j := 3) rfl rfl) ⟨_, _, rfl, rfl, kq _ (s13.trans s4)⟩⟩
end
end Ask

namespace Ask
open PySem L2
section
variable {P : Program} {w : World} {K : PySem.W.Frag} {mg : Str → Option Value} {base : Heap}
/-! ### the law's own walk -/
def spLPath (K : PySem.W.Frag) : Sp := fun vs H Q _ => ∃ (tl ra d : Addr) (ys : List Str) (b : Str) (tv us xs : List V) (ts : List TriS) (rs : List Run) (os : List (Option Stp)), vs = [.ref tl, .str b, .ref ra, .ref d] ∧ SqL K H tl tv ∧ TrisV H tv ts ∧ (∀ t ∈ ts, TriOk ys t) ∧ ts.length ≤ 100 ∧ Plain ys ∧ SqL K H ra us ∧ PairsV H us rs ∧ rs.length ≤ 100 ∧ Nm rs ∧ OfL ys rs ∧ SqL K H d xs ∧ ElsL K H xs os ∧ os.length ≤ 20 ∧
  (∀ g, walkR b ts rs os = some g → ∀ (H' : Hp) (q : Addr) (ks : List V), Same H H' → H' q = some (.lst ks) → PairsV H' ks g → OfL ys g → Q (.ref q) H') ∧ (walkR b ts rs os = none → ∀ H', Same H H' → Q .non H')

abbrev s__law_path : Stmt := top 79
theorem sc__law_path : FnScope ["_law_triples", "_law_beginning_here", "_law_runs", "_law_steps", "_law_here", "_law_step"] ["_law_triples", "_law_beginning_here", "_law_runs", "_law_steps"] (defScope s__law_path) := ⟨rfl, rfl, rfl, by decide +kernel, rfl, by decide +kernel, by decide +kernel⟩
theorem ok_lawPath {f fJ fI fC : Addr} {fd fdJ fdI fdC : FuncData} (F : Fun K "_law_path" "_law_path" s__law_path f fd) (T : Blt mg)
    (G__law_joined : FnOk P w K mg base CX0 1 fJ fdJ ["_law_runs"] (spLawJoined K)) (A__law_joined : At K mg "_law_joined" fJ fdJ ["_law_runs"])
    (G__law_is_step : FnOk P w K mg base CX0 1 fI fdI ["_law_step", "_law_many"] (spLIsStep K)) (A__law_is_step : At K mg "_law_is_step" fI fdI ["_law_step", "_law_many"])
    (G__law_changed : FnOk P w K mg base CX0 3 fC fdC ["_law_beginning_here", "_law_runs", "_law_triple", "_law_step"] (spChanged K)) (A__law_changed : At K mg "_law_changed" fC fdC ["_law_beginning_here", "_law_runs", "_law_triple", "_law_step"]) :
    FnOk P w K mg base CX0 4 f fd ["_law_triples", "_law_beginning_here", "_law_runs", "_law_steps"] (spLPath K) := by
  refine F.ok sc__law_path (fun vs H Q E h => ?_) (fun cdv A outer s H vs Q E hr h => ?_)
  · obtain ⟨tl, ra, d, ys, b, tv, us, xs, ts, rs, os, rfl, _⟩ := h
    rfl
  · obtain ⟨tl, ra, d, ys, b, tv, us, xs, ts, rs, os, rfl, hT, tT, tok, lt, py, hR, hk, ln, nm, ol, hS, hx, lo, kS, kN⟩ := h
    have h__law_joined := hr.mono (j := 1) (by decide)
    have h__law_is_step := hr.mono (j := 1) (by decide)
    have h__law_changed := hr.mono (j := 3) (by decide)
    refine ⟨_, (pss_cons (ps_set (i := 4) sc__law_path.nd rfl (Or.inl rfl) (pe_call G__law_joined (by exact h__law_joined) (by rfl) A__law_joined.m A__law_joined.k A__law_joined.b .nil pass0 (pa_cons (pv 2) pa_nil)))
      (pss_cons (ps_for PassesOwn.never rfl (pi_list (pv 3)) (pg_name (i := 5) sc__law_path.nd rfl (Or.inl rfl)) (pss_cons (ps_if (pt_not (pt_val (pe_call G__law_is_step (by exact h__law_is_step) (by rfl) A__law_is_step.m A__law_is_step.k A__law_is_step.b .nil pass0 (pa_cons (pv 5) (pa_cons (pe_callB call_len_seq (by rfl) T.n_len (by decide +kernel) (pa_cons (pv 0) pa_nil)) pa_nil))))) (pss_one (ps_ret pe_non)) pss_nil)
      (pss_cons (ps_set (i := 4) sc__law_path.nd rfl (Or.inl rfl) (pe_call G__law_changed (by exact h__law_changed) (by rfl) A__law_changed.m A__law_changed.k A__law_changed.b .nil pass0 (pa_cons (pv 1) (pa_cons (pv 4) (pa_cons (pe_ix ix_list (pv 0) (pe_ix ix_seq (pv 5) pe_int (fun _ _ => rfl)) (fun _ _ => rfl)) (pa_cons (pv 5) pa_nil))))))
      (pss_one (ps_if (pt_cmpR op_isN (pv 4) pe_non (nomark _)) (pss_one (ps_ret pe_non)) pss_nil)))))
      (pss_one (ps_ret (pv 4))))), ?_⟩
    refine ⟨_, rfl, ra, us, rs, rfl, hR, hk, by omega, fun r hr => (py _ (ol r hr)).2, fun H1 q ks s1 _ hq hks => ?_⟩
    rw [posR_all nm.2, join_noeq nm.1] at hks
    try dsimp only
    refine for_any (fun R r => ⟨_, rfl, d, rfl, ⟨_, s1.seq hS⟩, r⟩) (walk_list (xs := xs)) (fun i σ' H' => ∃ (c' : Addr) (ks' : List V) (rs' : List Run) (o5 : Option V), σ' = [some (.ref tl), some (.str b), some (.ref ra), some (.ref d), some (.ref c'), o5] ∧ Same H H' ∧ H' c' = some (.lst ks') ∧ PairsV H' ks' rs' ∧ Nm rs' ∧ OfL ys rs' ∧ rs'.length ≤ rs.length + 5 * i ∧ walkR b ts rs os = walkR b ts rs' (os.drop i))
      ⟨q, ks, rs, none, rfl, s1, hq, hks, nm, ol, by omega, by rw [List.drop_zero]⟩ (fun i σ' H' _ ⟨_, _, _, _, _, s', _⟩ => s'.seq hS) ?_ ?_
    · rintro i x σ' H2 H3 hi ⟨c', ks', rs', o5, rfl, s2, hc', hk', nm', ol', ln', ew⟩ ⟨rfl, hxi⟩
      obtain ⟨o, hoi⟩ : ∃ o, os[i]? = some o := ⟨_, List.getElem?_eq_getElem (by rw [← hx.1]; exact hi)⟩
      have hio := (List.getElem?_eq_some_iff.mp hoi)
      have hsv := (hx.2 i x o hxi hoi).same s2
      have ew2 : walkR b ts rs os = (stepO b ts rs' o).bind fun r => walkR b ts r (os.drop (i + 1)) := by
        rw [ew, List.drop_eq_getElem_cons hio.1, hio.2]
        rfl
      have elen : tv.length = ts.length := tT.1
      have exl := hx.1
      refine ⟨_, rfl, _, rfl, tl, tv, rfl, .inl (s2.seq hT), x, o, _, rfl, hsv, fun H4 s4 => ?_⟩
      have s24 := s2.trans s4
      by_cases hb : stB o tv.length = true
      rotate_left
      · rw [(Bool.not_eq_true _).mp hb]
        refine ⟨_, rfl, iteT ?_⟩
        have e0 : stepO b ts rs' o = none := by
          unfold stepO
          split
          · rfl
          · rw [if_neg (by rw [← elen]; exact hb)]
        rw [e0] at ew2
        exact kN ew2 _ s24
      rw [hb]
      refine ⟨_, rfl, iteF ?_⟩
      obtain ⟨r, p0, wy, tm, rfl⟩ : ∃ r p w t, o = some (r, p, w, t) := by
        cases o with
        | none => cases hb
        | some o => exact ⟨o.1, o.2.1, o.2.2.1, o.2.2.2, rfl⟩
      obtain ⟨b1, b2, b3, b4, b5⟩ := stB_true hb
      rcases hsv with ⟨st, vs, rfl, hst, _, hfl, eo⟩ | ⟨z, _⟩
      rotate_left
      · cases z
      have evs := stOf_some eo.symm
      obtain ⟨tr, htr⟩ : ∃ tr, ts[r.toNat]? = some tr := ⟨_, List.getElem?_eq_getElem (by omega)⟩
      obtain ⟨u, hu⟩ : ∃ u, tv[r.toNat]? = some u := ⟨_, List.getElem?_eq_getElem (by omega)⟩
      obtain ⟨sp, rfl, hsp⟩ := (tT.same s24).2 _ _ _ hu htr
      obtain ⟨k, z, s'⟩ := tr
      have tk := tok _ (List.mem_of_getElem? htr)
      have e0 : stepO b ts rs' (some (r, p0, wy, tm)) = (chW b k z (yOf s') (plainR rs') p0 wy tm).map J := by
        unfold stepO
        dsimp only
        rw [if_pos (by rw [← elen]; exact hb), htr]
        exact stR_W nm' b3 b5
      rw [e0] at ew2
      have hst4 := seqA_same hst s4
      subst evs
      refine ⟨_, rfl, _, rfl, _, rfl, _, rfl, ix_any hst4 (at_by (j := 0) rfl rfl) ⟨tl, _, _, _, rfl, rfl, s24.seq hT, at_by (j := r.toNat) (by omega) hu, _, rfl, ?_⟩⟩
      refine ⟨c', sp, st, ys, b, k, z, s', ks', rs', r, p0, wy, tm, rfl, SqL.of (s4 _ _ hc'), hk'.same s4, by omega, nm', ol', py, hsp, tk, b4, hst4, b5, fun v ev H5 g gs s5 hg hgs => ?_, fun ev H5 s5 => ?_⟩
      · have e2 : stR b k z (yOf s') rs' p0 wy tm = some (J v) := by rw [stR_W nm' b3 b5, ev]; rfl
        obtain ⟨n1, n2, n3⟩ := stR_ok nm' b3 b5 tk ol' e2
        rw [ev] at ew2
        exact ⟨_, rfl, rfl, _, rfl, iteF ⟨g, gs, J v, _, rfl, s24.trans s5, hg, hgs, n1, n2, by omega, ew2⟩⟩
      · rw [ev] at ew2
        exact ⟨_, rfl, rfl, _, rfl, iteT (kN ew2 _ (s24.trans s5))⟩
    · rintro σ' H2 ⟨c', ks', rs', o5, rfl, s2, hc', hk', nm', ol', ln', ew⟩
      rw [hx.1, List.drop_length] at ew
      exact ⟨_, rfl, kS rs' ew H2 c' ks' s2 hc' hk' ol'⟩
/-! ### what is due -/
def spIsLed (K : PySem.W.Frag) : Sp := fun vs H Q _ => ∃ (tl ra d la : Addr) (ys : List Str) (b : Str) (tv us xs ls : List V) (ts : List TriS) (rs ss : List Run) (os : List (Option Stp)), vs = [.ref tl, .str b, .ref ra, .ref d, .ref la] ∧ SqL K H tl tv ∧ TrisV H tv ts ∧ (∀ t ∈ ts, TriOk ys t) ∧ ts.length ≤ 100 ∧ Plain ys ∧ SqL K H ra us ∧ PairsV H us rs ∧ rs.length ≤ 100 ∧ Nm rs ∧ OfL ys rs ∧ SqL K H d xs ∧ ElsL K H xs os ∧ os.length ≤ 20 ∧
  SqL K H la ls ∧ PairsV H ls ss ∧ ss.length ≤ 100 ∧ Nm ss ∧ OfL ys ss ∧ ∀ H', Same H H' → Q (.bl (decide (walkR b ts rs os = some ss))) H'

abbrev s__law_is_led : Stmt := top 84
theorem sc__law_is_led : FnScope ["_law_triples", "_law_beginning_here", "_law_runs", "_law_steps", "_law_last", "_law_end"] ["_law_triples", "_law_beginning_here", "_law_runs", "_law_steps", "_law_last"] (defScope s__law_is_led) := ⟨rfl, rfl, rfl, by decide +kernel, rfl, by decide +kernel, by decide +kernel⟩
theorem ok_isLed {f fJ fP : Addr} {fd fdJ fdP : FuncData} (F : Fun K "_law_is_led" "_law_is_led" s__law_is_led f fd) (T : Blt mg)
    (G__law_joined : FnOk P w K mg base CX0 1 fJ fdJ ["_law_runs"] (spLawJoined K)) (A__law_joined : At K mg "_law_joined" fJ fdJ ["_law_runs"])
    (G__law_path : FnOk P w K mg base CX0 4 fP fdP ["_law_triples", "_law_beginning_here", "_law_runs", "_law_steps"] (spLPath K)) (A__law_path : At K mg "_law_path" fP fdP ["_law_triples", "_law_beginning_here", "_law_runs", "_law_steps"]) :
    FnOk P w K mg base CX0 5 f fd ["_law_triples", "_law_beginning_here", "_law_runs", "_law_steps", "_law_last"] (spIsLed K) := by
  refine F.ok sc__law_is_led (fun vs H Q E h => ?_) (fun cdv A outer s H vs Q E hr h => ?_)
  · obtain ⟨tl, ra, d, la, ys, b, tv, us, xs, ls, ts, rs, ss, os, rfl, _⟩ := h
    rfl
  · obtain ⟨tl, ra, d, la, ys, b, tv, us, xs, ls, ts, rs, ss, os, rfl, hT, tT, tok, lt, py, hR, hk, ln, nm, ol, hS, hx, lo, hL, hls, lss, nms, ols, kq⟩ := h
    have h__law_joined := hr.mono (j := 1) (by decide)
    have h__law_path := hr.mono (j := 4) (by decide)
    refine ⟨_, (pss_cons (ps_if (pt_not (pt_val (pe_callB call_isiT (by rfl) T.n_isinstance (by decide +kernel) (pa_cons (pv 3) (pa_cons (pe_tup (pa_cons (pe_bltn (v := .ty "list") (u := .type "list") rfl T.n_list (by decide +kernel) rfl) (pa_cons (pe_bltn (v := .ty "tuple") (u := .type "tuple") rfl T.n_tuple (by decide +kernel) rfl) pa_nil))) pa_nil))))) (pss_one (ps_ret pe_bl)) pss_nil)
      (pss_cons (ps_set (i := 5) sc__law_is_led.nd rfl (Or.inl rfl) (pe_call G__law_path (by exact h__law_path) (by rfl) A__law_path.m A__law_path.k A__law_path.b .nil pass0 (pa_cons (pv 0) (pa_cons (pv 1) (pa_cons (pv 2) (pa_cons (pv 3) pa_nil))))))
      (pss_one (ps_ret (pe_and (pe_cmpR op_notN (pv 5) pe_non (nomark _)) (pe_one (pe_cmpR (op_eqD hr.units) (pv 5) (pe_call G__law_joined (by exact h__law_joined) (by rfl) A__law_joined.m A__law_joined.k A__law_joined.b .nil pass0 (pa_cons (pv 4) pa_nil)) (nomark _)))))))), ?_⟩
    have tup2 : ∀ {q0 : Addr}, H q0 = none → Same H (upd H q0 (.tup [.ty "list", .ty "tuple"])) := fun h => Ask.Same.made1 (Same.refl H) h
    obtain ⟨t, ty, ka⟩ := seqA_ty (.inl hS)
    refine ⟨_, rfl, by show 2 ≤ sizeLine; decide, fun q0 hq0 => ⟨_, q0, _, t, _, true, rfl, upd_same, .cons (.ty _) (.cons (.ty _) .nil), tyx_same ty (tup2 hq0), ka, _, rfl, iteF ?_⟩⟩
    have s1 := tup2 hq0
    generalize upd H q0 (.tup [.ty "list", .ty "tuple"]) = H1 at s1 ⊢
    refine ⟨_, rfl, _, rfl, _, rfl, _, rfl, tl, ra, d, ys, b, tv, us, xs, ts, rs, os, rfl, s1.seq hT, tT.same s1, tok, lt, py, s1.seq hR, hk.same s1, ln, nm, ol, s1.seq hS, hx.same s1, lo, fun g eg H2 q ks s2 hq hks og => ?_, fun eg H2 s2 => ?_⟩
    · refine ⟨_, rfl, rfl, _, rfl, iteT ?_⟩
      have s12 := s1.trans s2
      refine ⟨_, rfl, _, rfl, la, ls, ss, rfl, s12.seq hL, hls.same s12, by omega, fun r hr => (py _ (ols r hr)).2, fun H3 q3 ks3 s3 _ hq3 hks3 => ?_⟩
      rw [posR_all nms.2, join_noeq nms.1] at hks3
      have e1 := kq H3 (s12.trans s3)
      rw [eg] at e1
      have d1 := dp_runs (K := K) (hks.same s3)
      have d2 := dp_runs (K := K) hks3
      obtain ⟨c1, c2, _⟩ := lay_runs (rs := g) fun r hr => (py _ (og r hr)).2
      obtain ⟨c3, c4, _⟩ := lay_runs (rs := ss) fun r hr => (py _ (ols r hr)).2
      refine ⟨_, _, .lst (SqL.of (s3 _ _ hq)) d1, .lst (SqL.of hq3) d2, shaped_of c1 (by show PyData.depthAll (g.map runD) + 1 ≤ 64; omega), shaped_of c3 (by show PyData.depthAll (ss.map runD) + 1 ≤ 64; omega), ?_⟩
      rw [eqv_runsL]
      have e2 : decide (some g = some ss) = decide (g = ss) := by
        by_cases z : g = ss
        · rw [z]; simp
        · rw [decide_eq_false z, decide_eq_false (fun y => z (Option.some.inj y))]
      rw [e2] at e1
      exact e1
    · rw [eg, decide_eq_false (by intro z; cases z)] at kq
      exact ⟨_, rfl, rfl, _, rfl, iteF (kq _ (s1.trans s2))⟩
end
end Ask

namespace Ask
open PySem L2
/-! ### steps in a list -/
def StpsV (H : Hp) (vs : List V) (os : List Stp) : Prop := vs.length = os.length ∧ ∀ (i : Nat) (v : V) (o : Stp), vs[i]? = some v → os[i]? = some o → ∃ q, v = .ref q ∧ H q = some (.tup [.int o.1, .int o.2.1, .int o.2.2.1, .int o.2.2.2])
theorem StpsV.same {H H' : Hp} {vs : List V} {ts : List Stp} (h : StpsV H vs ts) (s : Same H H') : StpsV H' vs ts := ⟨h.1, fun i v t h1 h2 => let ⟨q, e, k⟩ := h.2 i v t h1 h2; ⟨q, e, s _ _ k⟩⟩
theorem StpsV.go {p c : Addr} {ns : List Int} {B : Nat} {H H' : Hp} {vs : List V} {ts : List Stp} (h : StpsV H vs ts) (g : Go p c ns H H' B) : StpsV H' vs ts := ⟨h.1, fun i v t h1 h2 => let ⟨q, e, k⟩ := h.2 i v t h1 h2; ⟨q, e, g.tup k⟩⟩
theorem StpsV.nil {H : Hp} : StpsV H [] [] := ⟨rfl, fun i v t h => by simp at h⟩
theorem StpsV.mut {H : Hp} {vs : List V} {ts : List Stp} {a : Addr} {xs ys : List V} (h : StpsV H vs ts) (e : H a = some (.lst xs)) : StpsV (upd H a (.lst ys)) vs ts := ⟨h.1, fun i v t h1 h2 => let ⟨q, e1, k⟩ := h.2 i v t h1 h2; ⟨q, e1, by
  rw [upd_ne (fun z => by rw [z, e] at k; cases k)]; exact k⟩⟩
theorem StpsV.app {H : Hp} {vs : List V} {ts : List Stp} {q : Addr} {o : Stp} (h : StpsV H vs ts) (g : H q = some (.tup [.int o.1, .int o.2.1, .int o.2.2.1, .int o.2.2.2])) : StpsV H (vs ++ [.ref q]) (ts ++ [o]) := by
  refine ⟨by rw [List.length_append, List.length_append, h.1]; rfl, fun i v t h1 h2 => ?_⟩
  rcases Nat.lt_or_ge i vs.length with l | l
  · rw [List.getElem?_append_left l] at h1
    rw [List.getElem?_append_left (by rw [← h.1]; exact l)] at h2
    exact h.2 i v t h1 h2
  · rw [List.getElem?_append_right l] at h1
    rw [List.getElem?_append_right (by rw [← h.1]; exact l), ← h.1] at h2
    cases e : i - vs.length with
    | zero => rw [e] at h1 h2; cases h1; cases h2; exact ⟨q, rfl, g⟩
    | succ i => rw [e] at h1; simp at h1
/-- a step that was taken -/
def StpOk (m : Nat) (o : Stp) : Prop := 0 ≤ o.1 ∧ o.1 < m ∧ 0 ≤ o.2.1 ∧ o.2.1 ≤ 100 ∧ (o.2.2.1 = 1 ∨ o.2.2.1 = -1) ∧ o.2.2.2 = 1
/-- a place where a change is possible -/
def PlOk (b k : Str) (w o : List Str) (i : Nat) : Prop := i ≤ w.length ∧ (w.drop i).take o.length = o ∧ (k = "still" → i = 0 ∧ b = "new")
theorem pl_ch {b k x y : Str} {w : List Str} {way : Int} {i : Nat} (h : PlOk b k w (plainR (outR k x y way 1)) i) : ∃ v, chW b k x y w (i : Int) way 1 = some v := by
  obtain ⟨h1, h2, h3⟩ := h
  have l := congrArg List.length h2
  rw [List.length_take, List.length_drop] at l
  unfold chW
  rw [if_pos ⟨by omega, fun e => ⟨(h3 e).2, by have := (h3 e).1; omega⟩⟩, fst_one, if_neg (by omega), Int.toNat_natCast]
  unfold exW
  rw [if_pos ⟨by omega, h2⟩]
  exact ⟨_, rfl⟩
theorem walk_app {b : Str} {ts : List TriS} : ∀ {rs gs hs : List Run} {os ps : List (Option Stp)}, walkR b ts rs os = some gs → walkR b ts gs ps = some hs → walkR b ts rs (os ++ ps) = some hs
  | rs, gs, hs, [], ps, h1, h2 => by
    cases (show some rs = some gs from h1)
    exact h2
  | rs, gs, hs, o :: os, ps, h1, h2 => by
    have h1 : (stepO b ts rs o).bind (fun r => walkR b ts r os) = some gs := h1
    show (stepO b ts rs o).bind (fun r => walkR b ts r (os ++ ps)) = some hs
    cases e : stepO b ts rs o with
    | none => rw [e] at h1; cases h1
    | some r =>
      rw [e] at h1
      exact walk_app h1 h2
theorem walk_one {b : Str} {ts : List TriS} {k x : Str} {s : V} {w v : List Str} {r : Nat} {p wy : Int} (ht : ts[r]? = some (k, x, s)) (hp : 0 ≤ p) (hw : wy = 1 ∨ wy = -1) (h : chW b k x (yOf s) w p wy 1 = some v) : walkR b ts (J w) [some ((r : Int), p, wy, 1)] = some (J v) := by
  show (stepO b ts (J w) (some ((r : Int), p, wy, 1))).bind (fun r => some r) = _
  have l := (List.getElem?_eq_some_iff.mp ht).1
  have e : stepO b ts (J w) (some ((r : Int), p, wy, 1)) = some (J v) := by
    unfold stepO
    dsimp only
    have hb : stB (some ((r : Int), p, wy, 1)) (ts.length : Nat) = true := by
      simp only [stB, Bool.and_eq_true, decide_eq_true_eq]
      exact ⟨by omega, by omega, hp, hw, by omega⟩
    rw [if_pos hb, Int.toNat_natCast, ht]
    show stR b k x (yOf s) (J w) p wy 1 = _
    rw [stR_W (nm_J w) hp (by decide), plain_J, h]
    rfl
  rw [e]
  rfl
def rLenS (K : PySem.W.Frag) : List V → Hp → VK → Prop := fun xs H Q => ∃ p ys, xs = [.ref p] ∧ (SqL K H p ys ∨ SqT K H p ys) ∧ Q (.int ys.length) H
theorem call_lenS {X : Cx} : CallR X (.builtin "len") (rLenS X.K) := call_len_seq
theorem dp_nats {K : PySem.W.Frag} {H : Hp} : ∀ js : List Nat, DpAll K H (js.map fun i : Nat => V.int (i : Int)) (js.map fun i : Nat => PyData.int (i : Int))
  | [] => .nil
  | _ :: js => .cons (.int _) (dp_nats js)
theorem shaped_nats (js : List Nat) : SeqAt.shaped (.list (js.map fun i : Nat => PyData.int (i : Int))) = true := by
  have h : PyData.canLayAll0 (js.map fun i : Nat => PyData.int (i : Int)) = true ∧ PyData.depthAll (js.map fun i : Nat => PyData.int (i : Int)) ≤ 0 := by
    induction js with
    | nil => exact ⟨rfl, Nat.le_refl _⟩
    | cons j js ih => exact ⟨by show (true && _) = true; rw [ih.1]; rfl, Nat.max_le.mpr ⟨Nat.le_refl _, ih.2⟩⟩
  exact shaped_of h.1 (by show PyData.depthAll _ + 1 ≤ 64; have := h.2; omega)
theorem ifS_b {c : TT} {t v : TS} {D : Ends} {σ : L2.St} {H : Hp} (b : Bool) (R : Hp → Prop) (h : ∀ Q : Bool → Hp → Prop, (∀ H', R H' → Q b H') → c σ H Q) (k : ∀ H', R H' → if b = true then t D σ H' else v D σ H') : tIfS c t v D σ H := h _ k
section
variable {P : Program} {w : World} {K : PySem.W.Frag} {mg : Str → Option Value} {base : Heap}
def spWander (K : PySem.W.Frag) : Sp := fun vs H Q _ => ∃ (p c tl wa : Addr) (ns : List Int) (B : Nat) (ys : List Str) (b : Str) (tv : List V) (ts : List TriS) (ws : List Str) (m : Nat), vs = [.ref p, .ref tl, .str b, .ref wa, .int (m : Int)] ∧ Pen c ns H p B ∧ B ≤ 300000000 ∧ SqL K H tl tv ∧ TrisV H tv ts ∧ (∀ t ∈ ts, TriOk ys t) ∧ 0 < ts.length ∧ ts.length ≤ 100 ∧ Plain ys ∧ SqL K H wa (ws.map V.str) ∧ ws.length ≤ 10 ∧ (∀ z ∈ ws, z ∈ ys) ∧ m ≤ 9 ∧
  ∀ (H' : Hp) (q l1 l2 : Addr) (zs : List Str) (sv : List V) (os : List Stp), Go p c ns H H' (B + 100) → H' q = some (.tup [.ref l1, .ref l2]) → H' l1 = some (.lst (zs.map V.str)) → H' l2 = some (.lst sv) → StpsV H' sv os → zs.length ≤ 30 → (∀ z ∈ zs, z ∈ ys) → os.length ≤ m → (∀ o ∈ os, StpOk ts.length o) → walkR b ts (J ws) (os.map some) = some (J zs) → Q (.ref q) H'

abbrev s__law_wander : Stmt := top 82
theorem sc__law_wander : FnScope ["_law_pen_here", "_law_told_here", "_law_beginning_here", "_law_word_here", "_law_highest", "_law_here", "_law_steps", "_law_turn", "_law_row", "_law_way", "_law_out", "_law_places", "_law_place", "_law_k"] ["_law_pen_here", "_law_told_here", "_law_beginning_here", "_law_word_here", "_law_highest"] (defScope s__law_wander) := ⟨rfl, rfl, rfl, by decide +kernel, rfl, by decide +kernel, by decide +kernel⟩
theorem ok_wander {f fD fP fL fR fS : Addr} {fd fdD fdP fdL fdR fdS : FuncData} (F : Fun K "_law_wander" "_law_wander" s__law_wander f fd) (T : Blt mg)
    (G__law_draw : FnOk P w K mg base CX0 1 fD fdD ["_law_pen_here", "_law_many"] spDraw) (A__law_draw : At K mg "_law_draw" fD fdD ["_law_pen_here", "_law_many"])
    (G__law_pick : FnOk P w K mg base CX0 2 fP fdP ["_law_pen_here", "_law_options"] (spPick K)) (A__law_pick : At K mg "_law_pick" fP fdP ["_law_pen_here", "_law_options"])
    (G__law_left : FnOk P w K mg base CX0 1 fL fdL ["_law_triple"] (spSide sdL)) (A__law_left : At K mg "_law_left" fL fdL ["_law_triple"])
    (G__law_right : FnOk P w K mg base CX0 1 fR fdR ["_law_triple"] (spSide sdR)) (A__law_right : At K mg "_law_right" fR fdR ["_law_triple"])
    (G__law_single : FnOk P w K mg base CX0 2 fS fdS ["_law_beginning_here", "_law_word_here", "_law_triple", "_law_place", "_law_way"] (spSingle K)) (A__law_single : At K mg "_law_single" fS fdS ["_law_beginning_here", "_law_word_here", "_law_triple", "_law_place", "_law_way"]) :
    FnOk P w K mg base CX0 3 f fd ["_law_pen_here", "_law_told_here", "_law_beginning_here", "_law_word_here", "_law_highest"] (spWander K) := by
  refine F.ok sc__law_wander (fun vs H Q E h => ?_) (fun cdv A outer s H vs Q E hr h => ?_)
  · obtain ⟨p, c, tl, wa, ns, B, ys, b, tv, ts, ws, m, rfl, _⟩ := h
    rfl
  · obtain ⟨p, c, tl, wa, ns, B, ys, b, tv, ts, ws, m, rfl, hp, hB, hT, tT, tok, t0, lt, py, hW, lw, wy, hm, k⟩ := h
    have h__law_draw := hr.mono (j := 1) (by decide)
    have h__law_pick := hr.mono (j := 2) (by decide)
    have h__law_left := hr.mono (j := 1) (by decide)
    have h__law_right := hr.mono (j := 1) (by decide)
    have h__law_single := hr.mono (j := 2) (by decide)
    refine ⟨_, (pss_cons (ps_asg (pe_tup (pa_cons (pe_callTy call_list_of (by rfl) T.n_list (by decide +kernel) (pa_cons (pv 3) pa_nil)) (pa_cons (pe_lst pa_nil) pa_nil))) (pg_tup rfl (pgs_cons (pg_name (i := 5) sc__law_wander.nd rfl (Or.inr rfl)) (pgs_cons (pg_name (i := 6) sc__law_wander.nd rfl (Or.inl rfl)) pgs_nil))))
      (pss_cons (ps_for PassesOwn.never rfl (pi_range1 rfl T.n_range (pa_cons (pv 4) pa_nil)) (pg_name (i := 7) sc__law_wander.nd rfl (Or.inl rfl)) (pss_cons (ps_par (i := 8) (j := 9) rfl sc__law_wander.nd rfl rfl (by decide) rfl rfl (pa_cons (pe_call G__law_draw (by exact h__law_draw) (by rfl) A__law_draw.m A__law_draw.k A__law_draw.b .nil pass0 (pa_cons (pv 0) (pa_cons (pe_callB call_len_seq (by rfl) T.n_len (by decide +kernel) (pa_cons (pv 1) pa_nil)) pa_nil))) (pa_cons (pe_call G__law_pick (by exact h__law_pick) (by rfl) A__law_pick.m A__law_pick.k A__law_pick.b .nil pass0 (pa_cons (pv 0) (pa_cons (pe_lst (pa_cons pe_int (pa_cons pe_int (pa_cons (pe_un un_neg pe_int) pa_nil)))) pa_nil))) pa_nil)) (by rfl))
      (pss_cons (ps_set (i := 10) sc__law_wander.nd rfl (Or.inr rfl) (pe_ifExp (pt_cmpR op_eq (pv 9) pe_int (nomark _)) (pe_call G__law_left (by exact h__law_left) (by rfl) A__law_left.m A__law_left.k A__law_left.b .nil pass0 (pa_cons (pe_ix ix_list (pv 1) (pv 8) (fun _ _ => rfl)) pa_nil)) (pe_call G__law_right (by exact h__law_right) (by rfl) A__law_right.m A__law_right.k A__law_right.b .nil pass0 (pa_cons (pe_ix ix_list (pv 1) (pv 8) (fun _ _ => rfl)) pa_nil))))
      (pss_cons (ps_setLc (i := 11) (own := [("_law_k", 13)]) rfl sc__law_wander.nd rfl rfl (sw_true rfl rfl rfl (by decide +kernel)) (pi_range1 rfl T.n_range (pa_cons (pe_op op_add (pe_callB call_len_seq (by rfl) T.n_len (by decide +kernel) (pa_cons (pv 5) pa_nil)) pe_int) pa_nil)) (blkOk_by (N := ["_law_pen_here", "_law_told_here", "_law_beginning_here", "_law_word_here", "_law_highest", "_law_here", "_law_steps", "_law_turn", "_law_row", "_law_way", "_law_out", "_law_places", "_law_place", "_law_k"]) (sc := defScope s__law_wander) (by decide +kernel)) (fun _ _ _ _ _ => (pg_name (i := 13) sc__law_wander.nd rfl (Or.inl rfl))) (fun _ _ _ _ _ => pts_one (pt_cmpR (show OpR _ _ (rEqD K) from op_eqD hr.units) (pe_slice (show SlR _ (rSlL K) from sl_list) (pv 5) (po_some (pv 13)) (po_some (pe_op op_add (pv 13) (pe_callB (show CallR _ _ (rLenS K) from call_lenS) (by rfl) T.n_len (by decide +kernel) (pa_cons (pv 10) pa_nil))))) (pv 10) (nomark _))) (fun _ _ _ _ _ => (pv 13)))
      (pss_cons (ps_if (pt_cmpR op_eq (pe_ix ix_seq (pe_ix ix_list (pv 1) (pv 8) (fun _ _ => rfl)) pe_int (fun _ _ => rfl)) pe_str (nomark _)) (pss_one (ps_setLc (i := 11) (own := [("_law_k", 13)]) rfl sc__law_wander.nd rfl rfl (sw_true rfl rfl rfl (by decide +kernel)) (pi_list (pv 11)) (blkOk_by (N := ["_law_pen_here", "_law_told_here", "_law_beginning_here", "_law_word_here", "_law_highest", "_law_here", "_law_steps", "_law_turn", "_law_row", "_law_way", "_law_out", "_law_places", "_law_place", "_law_k"]) (sc := defScope s__law_wander) (by decide +kernel)) (fun _ _ _ _ _ => (pg_name (i := 13) sc__law_wander.nd rfl (Or.inl rfl))) (fun _ _ _ _ _ => pts_one (PW.pt (pw_and (pt_cmpR op_eq (pv 13) pe_int (nomark _)) (pw_and1 (pt_cmpR op_eq (pv 2) pe_str (nomark _)))))) (fun _ _ _ _ _ => (pv 13)))) pss_nil)
      (pss_one (ps_if (PW.pt (pw_and (pt_cmpR (op_neD hr.units) (pv 11) (pe_lst pa_nil) (nomark _)) (pw_and1 (PW.pt (pw_or (pt_cmpR op_eq (pv 9) pe_int (nomark _)) (pw_or1 (pt_cmpR op_lt (pe_callB call_len_seq (by rfl) T.n_len (by decide +kernel) (pa_cons (pv 5) pa_nil)) pe_int (nomark _)))))))) (pss_cons (ps_set (i := 12) sc__law_wander.nd rfl (Or.inl rfl) (pe_call G__law_pick (by exact h__law_pick) (by rfl) A__law_pick.m A__law_pick.k A__law_pick.b .nil pass0 (pa_cons (pv 0) (pa_cons (pv 11) pa_nil))))
      (pss_cons (ps_set (i := 5) sc__law_wander.nd rfl (Or.inr rfl) (pe_call G__law_single (by exact h__law_single) (by rfl) A__law_single.m A__law_single.k A__law_single.b .nil pass0 (pa_cons (pv 2) (pa_cons (pv 5) (pa_cons (pe_ix ix_list (pv 1) (pv 8) (fun _ _ => rfl)) (pa_cons (pv 12) (pa_cons (pv 9) pa_nil)))))))
      (pss_one (ps_expr (pe_bm PySem.F.plainAttrs_list PySem.F.slot_list_append PySem.F.type_list_append mt_append (pv 6) (pa_cons (pe_tup (pa_cons (pv 8) (pa_cons (pv 12) (pa_cons (pv 9) (pa_cons pe_int pa_nil))))) pa_nil)))))) pss_nil)))))))
      (pss_one (ps_ret (pe_tup (pa_cons (pv 5) (pa_cons (pv 6) pa_nil))))))), ?_⟩
    have z1 : (100000 : Nat) ≤ sizeLine := by decide
    refine ⟨_, rfl, wa, _, rfl, .inl hW, fun l hl => ?_⟩
    have g0 := Go.refl hp
    have g1 := g0.new (o := .lst (ws.map V.str)) hl
    have s1 := Ask.Same.made1 (o := .lst (ws.map V.str)) (Same.refl H) hl
    have f1 : upd H l (.lst (ws.map V.str)) l = some (.lst (ws.map V.str)) := upd_same
    generalize upd H l (.lst (ws.map V.str)) = H1 at g1 s1 f1 ⊢
    refine ⟨Nat.zero_le _, fun u hu => ?_⟩
    have hu0 := g1.free hu
    have nlu : l ≠ u := ne_of_none f1 hu
    replace g1 := g1.new (o := .lst []) hu
    replace f1 : upd H1 u (.lst []) l = some (.lst (ws.map V.str)) := by rw [upd_ne (ne_of_none f1 hu)]; exact f1
    have f2 : upd H1 u (.lst []) u = some (.lst []) := upd_same
    generalize upd H1 u (.lst []) = H2 at g1 f1 f2 ⊢
    refine ⟨by show 2 ≤ sizeLine; decide, fun q hq => ?_⟩
    replace g1 := g1.new (o := .tup [.ref l, .ref u]) hq
    have fq : upd H2 q (.tup [.ref l, .ref u]) q = some (.tup [.ref l, .ref u]) := upd_same
    replace f1 : upd H2 q (.tup [.ref l, .ref u]) l = some (.lst (ws.map V.str)) := by rw [upd_ne (ne_of_none f1 hq)]; exact f1
    replace f2 : upd H2 q (.tup [.ref l, .ref u]) u = some (.lst []) := by rw [upd_ne (ne_of_none f2 hq)]; exact f2
    generalize upd H2 q (.tup [.ref l, .ref u]) = H3 at g1 f1 f2 fq ⊢
    refine ⟨q, _, rfl, SqT.of fq, rfl, _, _, rfl, _, _, rfl, rfl, ?_⟩
    try dsimp only
    refine ⟨_, rfl, (m : Int), rfl, by omega, by omega, for_range (lo := 0) (n := m) (fun i σ' H' => ∃ (la : Addr) (zs : List Str) (sv : List V) (os : List Stp) (o7 o8 o9 o10 o11 o12 o13 : Option V), σ' = [some (.ref p), some (.ref tl), some (.str b), some (.ref wa), some (.int (m : Int)), some (.ref la), some (.ref u), o7, o8, o9, o10, o11, o12, o13] ∧
        Go p c ns H H' (B + 4 * i) ∧ H' la = some (.lst (zs.map V.str)) ∧ la ≠ u ∧ H' u = some (.lst sv) ∧ StpsV H' sv os ∧ zs.length ≤ 10 + 2 * i ∧ (∀ z ∈ zs, z ∈ ys) ∧ os.length ≤ i ∧ (∀ o ∈ os, StpOk ts.length o) ∧ walkR b ts (J ws) (os.map some) = some (J zs))
      ⟨l, ws, [], [], none, none, none, none, none, none, none, rfl, g1.mono (by omega), f1, nlu, f2, StpsV.nil, by omega, wy, Nat.le_refl _, (fun o h => by cases h), rfl⟩ ?_ ?_⟩
    rotate_left
    · rintro σ' H4 ⟨la, zs, sv, os, o7, o8, o9, o10, o11, o12, o13, rfl, g4, hla, nlu', hu4, sp, lz, zin, lo, ook, wk⟩
      refine ⟨_, rfl, _, rfl, by show 2 ≤ sizeLine; decide, fun q2 hq2 => ?_⟩
      have s5 := Ask.Same.made1 (o := .tup [.ref la, .ref u]) (Same.refl H4) hq2
      exact k _ q2 la u zs sv os ((g4.same s5).mono (by omega)) upd_same (s5 _ _ hla) (s5 _ _ hu4) (sp.same s5) (by omega) zin lo ook wk
    rintro i σ' H4 hi ⟨la, zs, sv, os, o7, o8, o9, o10, o11, o12, o13, rfl, g4, hla, nlu', hu4, sp, lz, zin, lo, ook, wk⟩
    have elen := tT.1
    -- the row, the way
    refine ⟨_, rfl, _, rfl, tl, tv, rfl, .inl (g4.seq hT), p, c, ns, _, _, rfl, g4.pen, by omega, by omega, by omega, fun H5 r g5 r0 r1 => ?_⟩
    refine ⟨_, rfl, _, rfl, by show 3 ≤ sizeLine; decide, fun a3 ha3 => ?_⟩
    have s6 := Ask.Same.made1 (o := .lst [.int 1, .int 1, .int (-1)]) (Same.refl H5) ha3
    refine ⟨p, c, ns, .ref a3, _, rfl, (g5.same s6).pen, by omega, .inl ⟨a3, _, rfl, SqL.of upd_same, by show 0 < 3; decide, by show 3 ≤ 1000; decide, fun H7 v g7 hv => ?_⟩⟩
    have g57 := (g5.same s6).step g7
    have hla7 := g57.lst hla
    have hu7 := g57.lst hu4
    have sp7 := sp.go g57
    have g47 := g4.step g57
    obtain ⟨wv, rfl, hwv⟩ : ∃ wv : Int, v = .int wv ∧ (wv = 1 ∨ wv = -1) := by
      rcases List.mem_cons.mp hv with rfl | hv
      · exact ⟨1, rfl, .inl rfl⟩
      rcases List.mem_cons.mp hv with rfl | hv
      · exact ⟨1, rfl, .inl rfl⟩
      rcases List.mem_singleton.mp hv with rfl
      exact ⟨-1, rfl, .inr rfl⟩
    refine ⟨_, _, rfl, ?_⟩
    clear hv g7 s6 g57
    try dsimp only
    obtain ⟨rn, rfl⟩ : ∃ n : Nat, r = (n : Int) := ⟨r.toNat, by omega⟩
    obtain ⟨tr, htr⟩ : ∃ tr, ts[rn]? = some tr := ⟨_, List.getElem?_eq_getElem (by omega)⟩
    obtain ⟨t, htv⟩ : ∃ u, tv[rn]? = some u := ⟨_, List.getElem?_eq_getElem (by omega)⟩
    obtain ⟨tp, rfl, htp⟩ := (tT.go g47).2 _ _ _ htv htr
    obtain ⟨kk, x, s'⟩ := tr
    have tk := tok _ (List.mem_of_getElem? htr)
    have ixr : ∀ (H' : Hp) (R : VK), Same H7 H' → R (.ref tp) H' → rIxL K (.ref tl) (.int (rn : Int)) H' R := fun H' R s' h => ⟨tl, tv, _, .ref tp, rfl, rfl, s'.seq (g47.seq hT), at_by (j := rn) rfl htv, h⟩
    obtain ⟨sd1, sd2⟩ := sd_plain kk x s'
    -- what goes out
    refine seqIf_cut (fun v H' => ∃ oo, v = .ref oo ∧ Same H7 H' ∧ H' oo = some (.lst ((plainR (outR kk x (yOf s') wv 1)).map V.str))) (fun Q' hQ => ?_) ?_
    · refine ⟨_, rfl, rfl, _, rfl, ite2 (fun z => ?_) (fun z => ?_)⟩
      · have z : wv = 1 := V.int.inj (of_decide_eq_true z)
        refine ⟨_, rfl, _, rfl, ixr H7 _ (Same.refl _) ⟨tp, ys, kk, x, s', rfl, htp, tk.1, tk.2.2, fun H8 q8 s8 h8 => hQ _ _ ⟨q8, rfl, s8, ?_⟩⟩⟩
        rw [sd1] at h8
        unfold outR
        rw [if_pos z]
        exact h8
      · have z : ¬ wv = 1 := fun y => z (decide_eq_true (congrArg V.int y))
        refine ⟨_, rfl, _, rfl, ixr H7 _ (Same.refl _) ⟨tp, ys, kk, x, s', rfl, htp, tk.1, tk.2.2, fun H8 q8 s8 h8 => hQ _ _ ⟨q8, rfl, s8, ?_⟩⟩⟩
        rw [sd2] at h8
        unfold outR
        rw [if_neg z]
        exact h8
    rintro v H8 ⟨oo, rfl, s8, hoo⟩
    try dsimp only
    have hla8 := s8 _ _ hla7
    have hu8 := s8 _ _ hu7
    have oin : ∀ z ∈ plainR (outR kk x (yOf s') wv 1), z ∈ ys := fun z hz => by
      obtain ⟨r, hr, e⟩ := plain_mem hz
      rw [← e]
      exact tri_mem tk (op_mem (.inl hr))
    -- the places
    refine ⟨_, rfl, la, _, rfl, .inl (SqL.of hla8), _, _, rfl, rfl, _, rfl, by omega, by rw [List.length_map]; omega, fun D hD => ?_⟩
    have eN : (((zs.map V.str).length : Int) + 1).toNat = zs.length + 1 := by rw [List.length_map]; omega
    rw [eN]
    refine lc_range (lo := 0) (n := zs.length + 1) (fun j H' => Same H8 H' ∧ ∃ is : List Nat, H' D = some (.lst (is.map fun i : Nat => V.int (i : Int))) ∧ is.length ≤ j ∧ ∀ i ∈ is, i ≤ zs.length ∧ (zs.drop i).take (plainR (outR kk x (yOf s') wv 1)).length = plainR (outR kk x (yOf s') wv 1))
      ⟨Ask.Same.upd_new (Same.refl H8) hD, [], upd_same, Nat.le_refl _, fun i h => by cases h⟩ (fun j H9 hj hh => ?_) (fun H9 hh => ?_)
    · obtain ⟨s9, is, e1, e2, e3⟩ := hh
      have hla9 := s9 _ _ hla8
      have hoo9 := s9 _ _ hoo
      have e0 : (0 : Int) + (j : Nat) = (j : Int) := by omega
      rw [e0]
      refine ⟨rfl, ?_⟩
      refine ⟨_, rfl, _, rfl, _, rfl, _, rfl, _, rfl, oo, _, rfl, .inl (SqL.of hoo9), _, _, rfl, rfl, _, rfl, la, _, rfl, SqL.of hla9, fun u' hu' => ?_⟩
      have s10 := Ask.Same.made1 (o := .lst (cutV (zs.map V.str) (some (j : Int)) (some ((j : Int) + (((plainR (outR kk x (yOf s') wv 1)).map V.str).length : Nat))))) (Same.refl H9) hu'
      have fu : upd H9 u' (.lst (cutV (zs.map V.str) (some (j : Int)) (some ((j : Int) + (((plainR (outR kk x (yOf s') wv 1)).map V.str).length : Nat))))) u' = some (.lst (cutV (zs.map V.str) (some (j : Int)) (some ((j : Int) + (((plainR (outR kk x (yOf s') wv 1)).map V.str).length : Nat))))) := upd_same
      generalize plainR (outR kk x (yOf s') wv 1) = O at *
      generalize upd H9 u' (.lst (cutV (zs.map V.str) (some (j : Int)) (some ((j : Int) + ((O.map V.str).length : Nat))))) = H10 at s10 fu ⊢
      rw [List.length_map, show ((j : Int) + (O.length : Nat)) = ((j + O.length : Nat) : Int) by omega, cutV_mid _ _ _ (by rw [List.length_map]; omega) (by omega), Nat.add_sub_cancel_left, ← List.map_drop, ← List.map_take] at fu
      refine ⟨_, rfl, .list (((zs.drop j).take O.length).map PyData.str), .list (O.map PyData.str), .lst (SqL.of fu) (dp_strs _), .lst (SqL.of (s10 _ _ hoo9)) (dp_strs _), (fit_strs fun z hz => py _ (zin z (List.mem_of_mem_drop (List.mem_of_mem_take hz)))).shapedL, (fit_strs fun z hz => py _ (oin z hz)).shapedL, _, rfl, ?_⟩
      rw [eqv_strsL]
      have s910 := s9.trans s10
      have eD10 := s10 _ _ e1
      by_cases q : (zs.drop j).take O.length = O
      · rw [decide_eq_true q]
        refine iteT ⟨_, rfl, _, eD10, by rw [List.length_map]; omega, Ask.Same.upd_new s910 hD, is ++ [j], by rw [upd_same, List.map_append]; rfl, by rw [List.length_append]; show _ + 1 ≤ _; omega, fun i' hi' => ?_⟩
        rcases List.mem_append.mp hi' with hi' | hi'
        · exact e3 i' hi'
        · rw [List.mem_singleton] at hi'
          subst hi'
          exact ⟨by omega, q⟩
      · rw [decide_eq_false q]
        exact iteF ⟨s910, is, eD10, by omega, e3⟩
    obtain ⟨s9, is, e1, e2, e3⟩ := hh
    try dsimp only
    have g49 := g47.same (s8.trans s9)
    have hu9 := s9 _ _ hu8
    have hla9 := s9 _ _ hla8
    have sp9 := (sp7.same s8).same s9
    have s79 := s8.trans s9
    have htp9 := s79 _ _ htp
    have i0 : atI [V.str kk, .str x, s'] 0 = some (.str kk) := at_by (j := 0) rfl rfl
    -- still
    refine seqIf_mid (fun σ' H' => Same H9 H' ∧ ∃ (D' : Addr) (is : List Nat) (o7 o13 : Option V), σ' = [some (.ref p), some (.ref tl), some (.str b), some (.ref wa), some (.int (m : Int)), some (.ref la), some (.ref u), o7, some (.int (rn : Int)), some (.int wv), some (.ref oo), some (.ref D'), o12, o13] ∧ H' D' = some (.lst (is.map fun i : Nat => V.int (i : Int))) ∧ is.length ≤ 100 ∧ ∀ i ∈ is, PlOk b kk zs (plainR (outR kk x (yOf s') wv 1)) i) (fun N hN => ?_) ?_
    · refine ⟨_, rfl, _, rfl, tl, tv, _, .ref tp, rfl, rfl, s79.seq (g47.seq hT), at_by (j := rn) rfl htv, ix_any (.inr (SqT.of htp9)) i0 ⟨rfl, _, rfl, ite2 (fun q => ?_) (fun q => ?_)⟩⟩
      rotate_left
      · have q : ¬ kk = "still" := fun z => q (decide_eq_true (congrArg V.str z))
        exact hN _ _ ⟨Same.refl _, D, is, _, _, rfl, e1, by omega, fun i' hi' => ⟨(e3 i' hi').1, (e3 i' hi').2, fun z => absurd z q⟩⟩
      have q : kk = "still" := V.str.inj (of_decide_eq_true q)
      refine ⟨_, rfl, D, rfl, ⟨_, SqL.of e1⟩, fun D2 hD2 => ?_⟩
      refine lc_list (K := K) (a := D) (xs := is.map fun i : Nat => V.int (i : Int)) (fun j H' => Same H9 H' ∧ ∃ js : List Nat, H' D2 = some (.lst (js.map fun i : Nat => V.int (i : Int))) ∧ js.length ≤ j ∧ ∀ i ∈ js, PlOk b kk zs (plainR (outR kk x (yOf s') wv 1)) i)
        ⟨Ask.Same.upd_new (Same.refl H9) hD2, [], upd_same, Nat.le_refl _, fun i h => by cases h⟩ (fun j H' _ hh => hh.1.seq (SqL.of e1)) ?_ ?_
      · rintro j v H10 hv ⟨s10, js, d1, d2, d3⟩
        rw [List.getElem?_map] at hv
        cases hz : is[j]? with
        | none => rw [hz] at hv; cases hv
        | some n =>
          rw [hz] at hv
          cases hv
          have hjl := (List.getElem?_eq_some_iff.mp hz).1
          obtain ⟨n1, n2⟩ := e3 n (List.mem_of_getElem? hz)
          refine ⟨rfl, _, rfl, rfl, _, rfl, ite2 (fun z => ?_) (fun z => ?_)⟩
          · have z : (n : Int) = 0 := V.int.inj (of_decide_eq_true z)
            refine ⟨_, rfl, rfl, _, rfl, ite2 (fun y => ?_) (fun y => ?_)⟩
            · have y : b = "new" := V.str.inj (of_decide_eq_true y)
              refine ⟨_, rfl, _, d1, by rw [List.length_map]; omega, Ask.Same.upd_new s10 hD2, js ++ [n], by rw [upd_same, List.map_append]; rfl, by rw [List.length_append]; show _ + 1 ≤ _; omega, fun i' hi' => ?_⟩
              rcases List.mem_append.mp hi' with hi' | hi'
              · exact d3 i' hi'
              · rw [List.mem_singleton] at hi'
                subst hi'
                exact ⟨n1, n2, fun _ => ⟨by omega, y⟩⟩
            · exact ⟨s10, js, d1, by omega, d3⟩
          · exact iteF ⟨s10, js, d1, by omega, d3⟩
      · rintro H10 ⟨s10, js, d1, d2, d3⟩
        rw [List.length_map] at d2
        exact hN _ _ ⟨s10, D2, js, _, _, rfl, d1, by omega, d3⟩
    rintro σ' Ha ⟨s10, D', js, o7', o13', rfl, hD', lj, pl⟩
    try dsimp only
    have g4a := g49.same s10
    have hlaa := s10 _ _ hla9
    have hua := s10 _ _ hu9
    have spa := sp9.same s10
    have htpa := s10 _ _ htp9
    have no : ∀ Ha', Same Ha Ha' → ∃ (la1 : Addr) (zs : List Str) (sv : List V) (os : List Stp) (p7 p8 p9 p10 p11 p12 p13 : Option V), ([some (.ref p), some (.ref tl), some (.str b), some (.ref wa), some (.int (m : Int)), some (.ref la), some (.ref u), o7', some (.int (rn : Int)), some (.int wv), some (.ref oo), some (.ref D'), o12, o13'] : L2.St) = [some (.ref p), some (.ref tl), some (.str b), some (.ref wa), some (.int (m : Int)), some (.ref la1), some (.ref u), p7, p8, p9, p10, p11, p12, p13] ∧
        Go p c ns H Ha' (B + 4 * (i + 1)) ∧ Ha' la1 = some (.lst (zs.map V.str)) ∧ la1 ≠ u ∧ Ha' u = some (.lst sv) ∧ StpsV Ha' sv os ∧ zs.length ≤ 10 + 2 * (i + 1) ∧ (∀ z ∈ zs, z ∈ ys) ∧ os.length ≤ (i + 1) ∧ (∀ o ∈ os, StpOk ts.length o) ∧ walkR b ts (J ws) (os.map some) = some (J zs) := fun Ha' s' =>
      ⟨la, zs, sv, os, _, _, _, _, _, _, _, rfl, (g4a.same s').mono (by omega), s' _ _ hlaa, nlu', s' _ _ hua, spa.same s', by omega, zin, by omega, ook, wk⟩
    -- whether one is taken
    refine ifS_b (decide (js ≠ [] ∧ (wv = 1 ∨ zs.length < 24))) (fun H' => Same Ha H') (fun Q' hQ => ?_) ?_
    · refine ⟨_, rfl, Nat.zero_le _, fun e0 he0 => ?_⟩
      have sb := Ask.Same.made1 (o := .lst []) (Same.refl Ha) he0
      have fe : upd Ha e0 (.lst []) e0 = some (.lst []) := upd_same
      generalize upd Ha e0 (.lst []) = Hb at sb fe ⊢
      replace hQ := hQ Hb sb
      refine ⟨.list (js.map fun i : Nat => PyData.int (i : Int)), .list [], .lst (SqL.of (sb _ _ hD')) (dp_nats js), .lst (SqL.of fe) .nil, shaped_nats js, shaped_of rfl (by decide), _, rfl, ?_⟩
      rw [PyData.eqv, eqvAll_nil, List.length_map]
      by_cases q : js = []
      · rw [decide_eq_false (fun z => z.1 q)] at hQ
        rw [q]
        exact iteF hQ
      · rw [decide_eq_false (fun z => q (List.length_eq_zero_iff.mp z))]
        refine iteT ⟨_, rfl, rfl, _, rfl, ite2 (fun z => ?_) (fun z => ?_)⟩
        · have z : wv = 1 := V.int.inj (of_decide_eq_true z)
          rw [decide_eq_true ⟨q, .inl z⟩] at hQ
          exact hQ
        · have z : ¬ wv = 1 := fun y => z (decide_eq_true (congrArg V.int y))
          refine ⟨_, rfl, la, _, rfl, .inl (SqL.of (sb _ _ hlaa)), _, _, rfl, rfl, _, rfl, ?_⟩
          have e : decide (((zs.map V.str).length : Int) < 24) = decide (js ≠ [] ∧ (wv = 1 ∨ zs.length < 24)) := by
            rw [List.length_map]
            by_cases y : zs.length < 24
            · rw [decide_eq_true (show (zs.length : Int) < 24 by omega), decide_eq_true ⟨q, .inr y⟩]
            · rw [decide_eq_false (show ¬ (zs.length : Int) < 24 by omega), decide_eq_false (fun w => w.2.elim z y)]
          show Q' (decide (((zs.map V.str).length : Int) < 24)) Hb
          rw [e]
          exact hQ
    rintro Hb sb
    by_cases take : js ≠ [] ∧ (wv = 1 ∨ zs.length < 24)
    rotate_left
    · rw [decide_eq_false take]
      exact iteF (no Hb sb)
    rw [decide_eq_true take]
    refine iteT ?_
    have g4b := g4a.same sb
    have jl : 0 < js.length := by
      cases js with
      | nil => exact absurd rfl take.1
      | cons j js => exact Nat.succ_pos _
    refine ⟨_, rfl, _, rfl, p, c, ns, .ref D', _, rfl, g4b.pen, by omega, .inl ⟨D', _, rfl, SqL.of (sb _ _ hD'), by rw [List.length_map]; exact jl, by rw [List.length_map]; omega, fun Hc v gc hv => ?_⟩⟩
    obtain ⟨n, hn, rfl⟩ := List.mem_map.mp hv
    have plo := pl n hn
    obtain ⟨v, hch⟩ := pl_ch (x := x) (y := yOf s') (way := wv) plo
    have gbc := Go.step (Go.refl g4b.pen) gc
    have g4c := g4b.step gc
    have hlac := gc.lst (sb _ _ hlaa)
    have huc := gc.lst (sb _ _ hua)
    have spc := (spa.same sb).go gc
    have htpc := gc.tup (sb _ _ htpa)
    have hTc : SqL K Hc tl tv := g4c.seq hT
    obtain ⟨grow, vin⟩ := chW_grow tk zin hch
    try dsimp only
    refine ⟨_, rfl, _, rfl, _, rfl, _, rfl, tl, tv, _, .ref tp, rfl, rfl, hTc, at_by (j := rn) rfl htv, _, rfl, _, rfl, la, tp, ys, b, kk, x, s', zs, (n : Int), wv, rfl, SqL.of hlac, by omega, py, zin, htpc, tk, hwv, fun v2 ev Hd q2 sd hq20 hq2 => ?_, fun ev => ?_⟩
    rotate_left
    · rw [hch] at ev
      cases ev
    rw [hch] at ev
    cases ev
    have hud := sd _ _ huc
    have nq : q2 ≠ u := fun z => by rw [z, huc] at hq20; cases hq20
    have g4d := g4c.same sd
    have spd := spc.same sd
    try dsimp only
    refine ⟨_, rfl, .inl ⟨rfl, _, SqL.of hud⟩, _, rfl, _, rfl, _, rfl, by show 4 ≤ sizeLine; decide, fun t4 ht4 => ?_⟩
    have s4 := Ask.Same.made1 (o := .tup [.int (rn : Int), .int (n : Int), .int wv, .int 1]) (Same.refl Hd) ht4
    have f4 : upd Hd t4 (.tup [.int (rn : Int), .int (n : Int), .int wv, .int 1]) t4 = some (.tup [.int (rn : Int), .int (n : Int), .int wv, .int 1]) := upd_same
    generalize upd Hd t4 (.tup [.int (rn : Int), .int (n : Int), .int wv, .int 1]) = He at s4 f4 ⊢
    have hue := s4 _ _ hud
    have spe := (spd.same s4).app (o := ((rn : Int), (n : Int), wv, 1)) f4
    have svl : sv.length ≤ 100 := by rw [sp.1]; omega
    refine ⟨u, sv, _, rfl, rfl, hue, by omega, ?_⟩
    refine ⟨q2, v, sv ++ [.ref t4], os ++ [((rn : Int), (n : Int), wv, 1)], _, _, _, _, _, _, _, rfl, ((g4d.same s4).mut hu0).mono (by omega), by rw [upd_ne nq]; exact s4 _ _ hq2, nq, upd_same, spe.mut hue, by omega, vin, by rw [List.length_append]; show _ + 1 ≤ _; omega, fun o ho => ?_, ?_⟩
    · rcases List.mem_append.mp ho with ho | ho
      · exact ook o ho
      · rw [List.mem_singleton] at ho
        subst ho
        exact ⟨by omega, by show (rn : Int) < ts.length; omega, by show (0 : Int) ≤ (n : Int); omega, by have := plo.1; show (n : Int) ≤ 100; omega, hwv, rfl⟩
    · rw [List.map_append]
      exact walk_app wk (walk_one htr (by omega) hwv hch)
end
end Ask

namespace Ask
open PySem L2
/-! ### what a spoilt list may hold -/
def FlN (N : Int) (v : V) : Prop := v = .non ∨ (∃ b, v = .bl b) ∨ (∃ i : Int, v = .int i ∧ -N ≤ i ∧ i ≤ N) ∨ v = .str "1"
theorem FlN.flb {N : Int} {v : V} (h : FlN N v) : FlB v := by
  rcases h with h | h | ⟨i, h, _⟩ | h
  · exact .inl h
  · exact .inr (.inl h)
  · exact .inr (.inr (.inl ⟨i, h⟩))
  · exact .inr (.inr (.inr h))
theorem FlN.mono {N M : Int} {v : V} (h : FlN N v) (le : N ≤ M) : FlN M v := by
  rcases h with h | h | ⟨i, h, a, b⟩ | h
  · exact .inl h
  · exact .inr (.inl h)
  · exact .inr (.inr (.inl ⟨i, h, by omega, by omega⟩))
  · exact .inr (.inr (.inr h))
/-- a list or a tuple of flat values, or an odd value -/
def ElB (N : Int) (H : Hp) (v : V) : Prop := (∃ (a : Addr) (xs : List V), v = .ref a ∧ (H a = some (.lst xs) ∨ H a = some (.tup xs)) ∧ xs.length ≤ 5 ∧ ∀ x ∈ xs, FlN N x) ∨ v = .non ∨ v = .int 5 ∨ v = .str "step" ∨ ∃ a : Addr, v = .ref a ∧ H a = some (.dK [])
theorem ElB.same {N : Int} {H H' : Hp} {v : V} (h : ElB N H v) (s : Same H H') : ElB N H' v := by
  rcases h with ⟨a, xs, e, k, r⟩ | h | h | h | ⟨a, e, k⟩
  · exact .inl ⟨a, xs, e, k.elim (fun z => .inl (s _ _ z)) (fun z => .inr (s _ _ z)), r⟩
  · exact .inr (.inl h)
  · exact .inr (.inr (.inl h))
  · exact .inr (.inr (.inr (.inl h)))
  · exact .inr (.inr (.inr (.inr ⟨a, e, s _ _ k⟩)))
theorem Go.dk0 {p c : Addr} {ns : List Int} {B : Nat} {H H' : Hp} {a : Addr} (g : Go p c ns H H' B) (h : H a = some (.dK [])) : H' a = some (.dK []) := by
  obtain ⟨A, b, l, h1, _⟩ := g.base
  exact g.kp _ _ (fun z => by rw [z, h1] at h; cases h) h
theorem ElB.go {N : Int} {p c : Addr} {ns : List Int} {B : Nat} {H H' : Hp} {v : V} (h : ElB N H v) (s : Go p c ns H H' B) : ElB N H' v := by
  rcases h with ⟨a, xs, e, k, r⟩ | h | h | h | ⟨a, e, k⟩
  · exact .inl ⟨a, xs, e, k.elim (fun z => .inl (s.lst z)) (fun z => .inr (s.tup z)), r⟩
  · exact .inr (.inl h)
  · exact .inr (.inr (.inl h))
  · exact .inr (.inr (.inr (.inl h)))
  · exact .inr (.inr (.inr (.inr ⟨a, e, s.dk0 k⟩)))
/-- of four whole numbers -/
def Int4 (N : Int) (xs : List V) : Prop := ∃ a b c d : Int, xs = [.int a, .int b, .int c, .int d] ∧ ∀ x ∈ [a, b, c, d], -N ≤ x ∧ x ≤ N
theorem Int4.fl {N : Int} {xs : List V} (h : Int4 N xs) : xs.length = 4 ∧ ∀ x ∈ xs, FlN N x := by
  obtain ⟨a, b, c, d, rfl, h⟩ := h
  refine ⟨rfl, fun x hx => ?_⟩
  simp only [List.mem_cons, List.not_mem_nil, or_false] at hx
  rcases hx with rfl | rfl | rfl | rfl
  · exact .inr (.inr (.inl ⟨_, rfl, h _ (by simp)⟩))
  · exact .inr (.inr (.inl ⟨_, rfl, h _ (by simp)⟩))
  · exact .inr (.inr (.inl ⟨_, rfl, h _ (by simp)⟩))
  · exact .inr (.inr (.inl ⟨_, rfl, h _ (by simp)⟩))
def Steps4 (K : PySem.W.Frag) (N : Int) (H : Hp) (vs : List V) : Prop := ∀ v ∈ vs, ∃ (a : Addr) (xs : List V), v = .ref a ∧ (SqL K H a xs ∨ SqT K H a xs) ∧ Int4 N xs
theorem Steps4.same {K : PySem.W.Frag} {N : Int} {H H' : Hp} {vs : List V} (h : Steps4 K N H vs) (s : Same H H') : Steps4 K N H' vs := fun v hv => let ⟨a, xs, e, k, r⟩ := h v hv; ⟨a, xs, e, seqA_same k s, r⟩
/-- the fresh copies -/
def Mine (N : Int) (H0 H : Hp) (vs : List V) : Prop := ∀ v ∈ vs, ∃ (a : Addr) (xs : List V), v = .ref a ∧ H0 a = none ∧ H a = some (.lst xs) ∧ Int4 N xs
theorem Mine.same {N : Int} {H0 H H' : Hp} {vs : List V} (h : Mine N H0 H vs) (s : Same H H') : Mine N H0 H' vs := fun v hv => let ⟨a, xs, e, k, l, r⟩ := h v hv; ⟨a, xs, e, k, s _ _ l, r⟩
theorem Mine.go {N : Int} {p c : Addr} {ns : List Int} {B : Nat} {H0 H H' : Hp} {vs : List V} (h : Mine N H0 H vs) (s : Go p c ns H H' B) : Mine N H0 H' vs := fun v hv => let ⟨a, xs, e, k, l, r⟩ := h v hv; ⟨a, xs, e, k, s.lst l, r⟩
theorem Mine.el {N M : Int} {H0 H : Hp} {vs : List V} (h : Mine N H0 H vs) (le : N ≤ M) : ∀ v ∈ vs, ElB M H v := fun v hv => by
  obtain ⟨a, xs, e, k, l, r⟩ := h v hv
  exact .inl ⟨a, xs, e, .inl l, by rw [r.fl.1]; decide, fun x hx => (r.fl.2 x hx).mono le⟩
theorem dp_mine {K : PySem.W.Frag} {N : Int} {H0 H : Hp} : ∀ {vs : List V}, Mine N H0 H vs → ∃ ds, DpAll K H vs ds ∧ PyData.canLayAll0 ds = true ∧ PyData.depthAll ds ≤ 1 ∧ ds.length = vs.length
  | [], _ => ⟨[], .nil, rfl, Nat.zero_le _, rfl⟩
  | v :: vs, h => by
    obtain ⟨ds, h1, h2, h3, h4⟩ := dp_mine (K := K) (vs := vs) fun y hy => h y (List.mem_cons_of_mem _ hy)
    obtain ⟨a, xs, rfl, _, l, r⟩ := h v (List.mem_cons_self ..)
    obtain ⟨es, g1, g2, g3, g4⟩ := dp_flats (K := K) (H := H) (xs := xs) fun x hx => (r.fl.2 x hx).flb
    refine ⟨.list es :: ds, .cons (.lst (SqL.of l) g1) h1, ?_, ?_, by rw [List.length_cons, List.length_cons, h4]⟩
    · show (PyData.canLayAll0 es && PyData.canLayAll0 ds) = true
      rw [g2, h2]; rfl
    · refine Nat.max_le.mpr ⟨?_, h3⟩
      show PyData.depthAll es + 1 ≤ 1
      omega
theorem mem_cut {xs : List V} {lo hi : Option Int} {v : V} (h : v ∈ cutV xs lo hi) : v ∈ xs := List.mem_of_mem_drop (List.mem_of_mem_take h)
def rListS (K : PySem.W.Frag) : List V → Hp → VK → Prop := fun xs H Q => ∃ p ys, xs = [.ref p] ∧ (SqL K H p ys ∨ SqT K H p ys) ∧ ∀ l, H l = none → Q (.ref l) (upd H l (.lst ys))
theorem call_listS {X : Cx} : CallR X (.type "list") (rListS X.K) := call_list_of
section
variable {P : Program} {w : World} {K : PySem.W.Frag} {mg : Str → Option Value} {base : Heap}
def spSpoilt (K : PySem.W.Frag) : Sp := fun vs H Q _ => ∃ (p c d : Addr) (ns : List Int) (B : Nat) (xs : List V) (m N : Int), vs = [.ref p, .ref d, .int m] ∧ Pen c ns H p B ∧ B ≤ 300000000 ∧ SqL K H d xs ∧ Steps4 K N H xs ∧ xs.length ≤ 20 ∧ 0 ≤ m ∧ m ≤ 100 ∧ 0 ≤ N ∧ N ≤ 10 ^ 33 ∧
  ∀ (H' : Hp) (L : Addr) (us : List V), Go p c ns H H' (B + 100) → H' L = some (.lst us) → us.length ≤ xs.length + 1 → (∀ v ∈ us, ElB (N + 10 ^ 31) H' v) → Q (.ref L) H'

abbrev s__law_spoilt : Stmt := top 83
theorem sc__law_spoilt : FnScope ["_law_pen_here", "_law_steps", "_law_many", "_law_some", "_law_at", "_law_way", "_law_step"] ["_law_pen_here", "_law_steps", "_law_many"] (defScope s__law_spoilt) := ⟨rfl, rfl, rfl, by decide +kernel, rfl, by decide +kernel, by decide +kernel⟩
theorem ok_spoilt {f fD fP : Addr} {fd fdD fdP : FuncData} (F : Fun K "_law_spoilt" "_law_spoilt" s__law_spoilt f fd) (T : Blt mg)
    (G__law_draw : FnOk P w K mg base CX0 1 fD fdD ["_law_pen_here", "_law_many"] spDraw) (A__law_draw : At K mg "_law_draw" fD fdD ["_law_pen_here", "_law_many"])
    (G__law_pick : FnOk P w K mg base CX0 2 fP fdP ["_law_pen_here", "_law_options"] (spPick K)) (A__law_pick : At K mg "_law_pick" fP fdP ["_law_pen_here", "_law_options"]) :
    FnOk P w K mg base CX0 3 f fd ["_law_pen_here", "_law_steps", "_law_many"] (spSpoilt K) := by
  refine F.ok sc__law_spoilt (fun vs H Q E h => ?_) (fun cdv A outer s H vs Q E hr h => ?_)
  · obtain ⟨p, c, d, ns, B, xs, m, N, rfl, _⟩ := h
    rfl
  · obtain ⟨p, c, d, ns, B, xs, m, N, rfl, hp, hB, hd, h4, lx, m0, m1, N0, N1, k⟩ := h
    have h__law_draw := hr.mono (j := 1) (by decide)
    have h__law_pick := hr.mono (j := 2) (by decide)
    refine ⟨_, (pss_cons (ps_setLc (i := 3) (own := [("_law_step", 6)]) rfl sc__law_spoilt.nd rfl rfl (sw_true rfl rfl rfl (by decide +kernel)) (pi_list (pv 1)) (blkOk_by (N := ["_law_pen_here", "_law_steps", "_law_many", "_law_some", "_law_at", "_law_way", "_law_step"]) (sc := defScope s__law_spoilt) (by decide +kernel)) (fun _ _ _ _ _ => (pg_name (i := 6) sc__law_spoilt.nd rfl (Or.inl rfl))) (fun _ _ _ _ _ => pts_nil) (fun _ _ _ _ _ => (pe_callTy (show CallR _ _ (rListS K) from call_listS) (by rfl) T.n_list (by decide +kernel) (pa_cons (pv 6) pa_nil))))
      (pss_cons (ps_if (pt_cmpR (op_eqD hr.units) (pv 3) (pe_lst pa_nil) (nomark _)) (pss_one (ps_ret (pe_lst (pa_cons (pe_lst (pa_cons (pe_call G__law_draw (by exact h__law_draw) (by rfl) A__law_draw.m A__law_draw.k A__law_draw.b .nil pass0 (pa_cons (pv 0) (pa_cons (pe_op op_add (pv 2) pe_int) pa_nil))) (pa_cons (pe_call G__law_draw (by exact h__law_draw) (by rfl) A__law_draw.m A__law_draw.k A__law_draw.b .nil pass0 (pa_cons (pv 0) (pa_cons pe_int pa_nil))) (pa_cons (pe_call G__law_pick (by exact h__law_pick) (by rfl) A__law_pick.m A__law_pick.k A__law_pick.b .nil pass0 (pa_cons (pv 0) (pa_cons (pe_lst (pa_cons pe_int (pa_cons (pe_un un_neg pe_int) pa_nil))) pa_nil))) (pa_cons pe_int pa_nil))))) pa_nil)))) pss_nil)
      (pss_cons (ps_par (i := 4) (j := 5) rfl sc__law_spoilt.nd rfl rfl (by decide) rfl rfl (pa_cons (pe_call G__law_draw (by exact h__law_draw) (by rfl) A__law_draw.m A__law_draw.k A__law_draw.b .nil pass0 (pa_cons (pv 0) (pa_cons (pe_callB call_len_seq (by rfl) T.n_len (by decide +kernel) (pa_cons (pv 3) pa_nil)) pa_nil))) (pa_cons (pe_call G__law_draw (by exact h__law_draw) (by rfl) A__law_draw.m A__law_draw.k A__law_draw.b .nil pass0 (pa_cons (pv 0) (pa_cons pe_int pa_nil))) pa_nil)) (by rfl))
      (pss_cons (ps_set (i := 6) sc__law_spoilt.nd rfl (Or.inl rfl) (pe_ix ix_list (pv 3) (pv 4) (fun _ _ => rfl)))
      (pss_cons (ps_if (pt_cmpR op_lt (pv 5) pe_int (nomark _)) (pss_one (ps_asg (pe_call G__law_pick (by exact h__law_pick) (by rfl) A__law_pick.m A__law_pick.k A__law_pick.b .nil pass0 (pa_cons (pv 0) (pa_cons (pe_lst (pa_cons (pe_op op_add (pe_ix ix_list (pv 6) (pv 5) (fun _ _ => rfl)) pe_int) (pa_cons (pe_op op_sub (pe_ix ix_list (pv 6) (pv 5) (fun _ _ => rfl)) pe_int) (pa_cons (pe_un un_neg (pe_ix ix_list (pv 6) (pv 5) (fun _ _ => rfl))) (pa_cons pe_int (pa_cons pe_int (pa_cons pe_bl (pa_cons pe_non (pa_cons (pv 2) (pa_cons pe_str (pa_cons (pe_op op_pow pe_int pe_int) pa_nil))))))))))) pa_nil))) (pg_sub (pv 6) (pv 5) set_list (by intro _; rfl)))) (pss_one (ps_if (pt_cmpR op_eq (pv 5) pe_int (nomark _)) (pss_one (ps_set (i := 3) sc__law_spoilt.nd rfl (Or.inl rfl) (pe_op op_cat (pe_slice sl_list (pv 3) po_none (po_some (pv 4))) (pe_slice sl_list (pv 3) (po_some (pe_op op_add (pv 4) pe_int)) po_none)))) (pss_one (ps_if (pt_cmpR op_eq (pv 5) pe_int (nomark _)) (pss_one (ps_set (i := 3) sc__law_spoilt.nd rfl (Or.inl rfl) (pe_op op_cat (pe_op op_cat (pe_slice sl_list (pv 3) po_none (po_some (pv 4))) (pe_lst (pa_cons (pv 6) pa_nil))) (pe_slice sl_list (pv 3) (po_some (pv 4)) po_none)))) (pss_one (ps_if (pt_cmpR op_eq (pv 5) pe_int (nomark _)) (pss_one (ps_set (i := 3) sc__law_spoilt.nd rfl (Or.inl rfl) (pe_op op_cat (pe_op op_cat (pe_op op_cat (pe_slice sl_list (pv 3) po_none (po_some (pv 4))) (pe_slice sl_list (pv 3) (po_some (pe_op op_add (pv 4) pe_int)) (po_some (pe_op op_add (pv 4) pe_int)))) (pe_lst (pa_cons (pv 6) pa_nil))) (pe_slice sl_list (pv 3) (po_some (pe_op op_add (pv 4) pe_int)) po_none)))) (pss_one (ps_asg (pe_call G__law_pick (by exact h__law_pick) (by rfl) A__law_pick.m A__law_pick.k A__law_pick.b .nil pass0 (pa_cons (pv 0) (pa_cons (pe_lst (pa_cons (pe_slice sl_list (pv 6) po_none (po_some pe_int)) (pa_cons (pe_op op_cat (pv 6) (pe_lst (pa_cons pe_int pa_nil))) (pa_cons pe_non (pa_cons pe_int (pa_cons pe_str (pa_cons (pe_callTy call_tuple_of (by rfl) T.n_tuple (by decide +kernel) (pa_cons (pv 6) pa_nil)) (pa_cons pe_dnewK (pa_cons (pe_tup pa_nil) pa_nil))))))))) pa_nil))) (pg_sub (pv 3) (pv 4) set_list (by intro _; rfl)))))))))))
      (pss_one (ps_ret (pv 3)))))))), ?_⟩
    have z1 : (100000 : Nat) ≤ sizeLine := by decide
    have g0 := Go.refl hp
    -- the copies
    refine ⟨_, rfl, d, rfl, ⟨_, hd⟩, fun D hD => ?_⟩
    refine lc_list (K := K) (a := d) (xs := xs) (fun i H' => Same H H' ∧ ∃ sv : List V, H' D = some (.lst sv) ∧ sv.length = i ∧ Mine N H H' sv) ⟨Ask.Same.upd_new (Same.refl H) hD, [], upd_same, rfl, fun v h => by cases h⟩ (fun i H' _ hh => hh.1.seq hd) ?_ ?_
    · rintro i v H1 hv ⟨s1, sv, e1, e2, e3⟩
      obtain ⟨a, is, rfl, ha, i4⟩ := (h4.same s1) v (List.mem_of_getElem? hv)
      refine ⟨rfl, _, rfl, a, is, rfl, ha, fun l hl => ?_⟩
      have s2 := Ask.Same.made1 (o := .lst is) (Same.refl H1) hl
      have f2 : upd H1 l (.lst is) l = some (.lst is) := upd_same
      have hl0 : H l = none := by
        cases e : H l with
        | none => rfl
        | some o => rw [s1 _ _ e] at hl; cases hl
      have nl : l ≠ D := fun z => by rw [z, e1] at hl; cases hl
      generalize upd H1 l (.lst is) = H2 at s2 f2 ⊢
      have e12 := s2 _ _ e1
      have il := (List.getElem?_eq_some_iff.mp hv).1
      have ne : ∀ {a' : Addr} {xs' : List V} {u : V}, u = .ref a' → H1 a' = some (.lst xs') → Int4 N xs' → u ∈ sv → a' ≠ D := fun q1 q3 q4 hu z => by
        rw [z, e1] at q3
        cases q3
        subst q1
        rcases q4.fl.2 _ hu with h | ⟨b, h⟩ | ⟨i, h, _⟩ | h <;> cases h
      refine ⟨_, e12, by omega, Ask.Same.upd_new (s1.trans s2) hD, sv ++ [.ref l], upd_same, by rw [List.length_append, e2]; rfl, fun u hu => ?_⟩
      rcases List.mem_append.mp hu with hu | hu
      · obtain ⟨a', xs', q1, q2, q3, q4⟩ := e3 u hu
        exact ⟨a', xs', q1, q2, by rw [upd_ne (ne q1 q3 q4 hu)]; exact s2 _ _ q3, q4⟩
      · rw [List.mem_singleton] at hu
        subst hu
        exact ⟨l, is, rfl, hl0, by rw [upd_ne nl]; exact f2, i4⟩
    rintro H1 ⟨s1, sv, e1, e2, e3⟩
    have g1 := g0.same s1
    try dsimp only
    refine seqIf_b (decide (sv = [])) (fun H' => Same H1 H') (fun Q' hQ => ?_) ?_
    · refine ⟨_, rfl, Nat.zero_le _, fun e0 he0 => ?_⟩
      have sb := Ask.Same.made1 (o := .lst []) (Same.refl H1) he0
      have fe : upd H1 e0 (.lst []) e0 = some (.lst []) := upd_same
      generalize upd H1 e0 (.lst []) = H2 at sb fe ⊢
      obtain ⟨ds, d1, d2, d3, d4⟩ := dp_mine (K := K) (e3.same sb)
      refine ⟨.list ds, .list [], .lst (SqL.of (sb _ _ e1)) d1, .lst (SqL.of fe) .nil, shaped_of d2 (by show PyData.depthAll ds + 1 ≤ 64; omega), shaped_of rfl (by decide), _, rfl, ?_⟩
      rw [PyData.eqv, eqvAll_nil, d4]
      have := hQ H2 sb
      have e : decide (sv.length = 0) = decide (sv = []) := by
        by_cases q : sv = []
        · rw [q]; rfl
        · rw [decide_eq_false q, decide_eq_false (fun z => q (List.length_eq_zero_iff.mp z))]
      rw [e]
      exact this
    rintro H2 s2
    have g2 := g1.same s2
    replace e1 := s2 _ _ e1
    replace e3 := e3.same s2
    clear s1 s2
    by_cases nn : sv = []
    · rw [decide_eq_true nn]
      refine iteT ?_
      refine ⟨_, rfl, _, rfl, _, _, rfl, rfl, p, c, ns, m + 1, _, rfl, g2.pen, by omega, by omega, by omega, fun H3 r1 g3 r10 r11 => ?_⟩
      refine ⟨_, rfl, p, c, ns, 2, _, rfl, g3.pen, by omega, by omega, by omega, fun H4 r2 g4 r20 r21 => ?_⟩
      refine ⟨_, rfl, _, rfl, by show 2 ≤ sizeLine; decide, fun t ht => ?_⟩
      have s4 := Ask.Same.made1 (o := .lst [.int 1, .int (-1)]) (Same.refl H4) ht
      refine ⟨p, c, ns, .ref t, _, rfl, (g4.same s4).pen, by omega, .inl ⟨t, _, rfl, SqL.of upd_same, by show 0 < 2; decide, by show 2 ≤ 1000; decide, fun H5 v g5 hv => ?_⟩⟩
      have gg := g2.step (g3.step ((g4.same s4).step g5))
      obtain ⟨wv, rfl, w1, w2⟩ : ∃ wv : Int, v = .int wv ∧ -1 ≤ wv ∧ wv ≤ 1 := by
        rcases List.mem_cons.mp hv with rfl | hv
        · exact ⟨1, rfl, by decide, by decide⟩
        rcases List.mem_singleton.mp hv with rfl
        exact ⟨-1, rfl, by decide, by decide⟩
      refine ⟨by show 4 ≤ sizeLine; decide, fun l1 hl1 => ⟨by show 1 ≤ sizeLine; decide, fun l2 hl2 => ?_⟩⟩
      have s6 := Ask.Same.made1 (o := .lst [.int r1, .int r2, .int wv, .int 1]) (Same.refl H5) hl1
      have s7 := Ask.Same.made1 (o := .lst [.ref l1]) (Same.refl _) hl2
      refine k _ l2 [.ref l1] (((gg.same s6).same s7).mono (by omega)) upd_same (by show 1 ≤ _; omega) fun v hv => ?_
      rw [List.mem_singleton] at hv
      subst hv
      refine .inl ⟨l1, _, rfl, .inl (s7 _ _ upd_same), by show 4 ≤ 5; decide, fun x hx => ?_⟩
      simp only [List.mem_cons, List.not_mem_nil, or_false] at hx
      rcases hx with rfl | rfl | rfl | rfl
      · exact .inr (.inr (.inl ⟨_, rfl, by omega, by omega⟩))
      · exact .inr (.inr (.inl ⟨_, rfl, by omega, by omega⟩))
      · exact .inr (.inr (.inl ⟨_, rfl, by omega, by omega⟩))
      · exact .inr (.inr (.inl ⟨_, rfl, by omega, by omega⟩))
    rw [decide_eq_false nn]
    refine iteF ?_
    try dsimp only [tNext]
    have sl : 0 < sv.length := by
      cases sv with
      | nil => exact absurd rfl nn
      | cons j js => exact Nat.succ_pos _
    -- where, how
    refine ⟨_, rfl, _, rfl, D, sv, rfl, .inl (SqL.of e1), p, c, ns, _, _, rfl, g2.pen, by omega, by omega, by omega, fun H3 at_ g3 a0 a1 => ?_⟩
    refine ⟨_, rfl, p, c, ns, 8, _, rfl, g3.pen, by omega, by omega, by omega, fun H4 wy g4 w0 w1 => ?_⟩
    refine ⟨_, _, rfl, ?_⟩
    try dsimp only
    have g34 := g3.step g4
    have e14 := g34.lst e1
    have e34 := e3.go g34
    have g5 := g2.step g34
    obtain ⟨n, rfl⟩ : ∃ n : Nat, at_ = (n : Int) := ⟨at_.toNat, by omega⟩
    obtain ⟨sv0, hsv0⟩ : ∃ u, sv[n]? = some u := ⟨_, List.getElem?_eq_getElem (by omega)⟩
    obtain ⟨a, is, rfl, ha0, ha, i4⟩ := e34 sv0 (List.mem_of_getElem? hsv0)
    refine ⟨_, rfl, _, rfl, D, sv, _, .ref a, rfl, rfl, SqL.of e14, at_by (j := n) rfl hsv0, ?_⟩
    try dsimp only
    have il := i4.fl.1
    have e31 : (10 : Int) ^ 31 = 10000000000000000000000000000000 := by decide
    refine seqIf_mid (fun σ' H' => ∃ (L : Addr) (us : List V) (o4 o5 o6 : Option V), σ' = [some (.ref p), some (.ref d), some (.int m), some (.ref L), o4, o5, o6] ∧ Go p c ns H H' (B + 100) ∧ H' L = some (.lst us) ∧ us.length ≤ xs.length + 1 ∧ ∀ v ∈ us, ElB (N + 10 ^ 31) H' v) (fun K' hK => ?_) ?_
    rotate_left
    · rintro σ' H' ⟨L, us, o4, o5, o6, rfl, g, f, l, e⟩
      exact ⟨_, rfl, k H' L us g f l e⟩
    refine ⟨_, rfl, _, _, rfl, rfl, _, rfl, ite2 (fun q => ?_) (fun q => ?_)⟩
    · -- one part changed
      have q : wy < 4 := of_decide_eq_true q
      obtain ⟨j, rfl⟩ : ∃ j : Nat, wy = (j : Int) := ⟨wy.toNat, by omega⟩
      obtain ⟨x0, hx0⟩ : ∃ u, is[j]? = some u := ⟨_, List.getElem?_eq_getElem (by omega)⟩
      obtain ⟨x, rfl, xb0, xb1⟩ : ∃ x : Int, x0 = .int x ∧ -N ≤ x ∧ x ≤ N := by
        obtain ⟨a, b, c, d, rfl, h⟩ := i4
        have hm := List.mem_of_getElem? hx0
        simp only [List.mem_cons, List.not_mem_nil, or_false] at hm
        rcases hm with rfl | rfl | rfl | rfl
        · exact ⟨_, rfl, h _ (by simp)⟩
        · exact ⟨_, rfl, h _ (by simp)⟩
        · exact ⟨_, rfl, h _ (by simp)⟩
        · exact ⟨_, rfl, h _ (by simp)⟩
      have ix := at_by (xs := is) (z := (j : Int)) (j := j) rfl hx0
      refine ⟨_, rfl, _, rfl, _, rfl, a, is, _, _, rfl, rfl, SqL.of ha, ix, _, _, rfl, rfl, ?_⟩
      refine ⟨_, rfl, _, rfl, a, is, _, _, rfl, rfl, SqL.of ha, ix, _, _, rfl, rfl, ?_⟩
      refine ⟨_, rfl, _, rfl, a, is, _, _, rfl, rfl, SqL.of ha, ix, _, rfl, ?_⟩
      refine ⟨_, rfl, _, _, rfl, rfl, ⟨by decide, by decide, by decide⟩, by show 10 ≤ sizeLine; decide, fun t ht => ?_⟩
      have e30 : (10 : Int) ^ Int.toNat 30 = 1000000000000000000000000000000 := by decide
      try dsimp only
      rw [e30]
      refine ⟨p, c, ns, .ref t, B + 99, rfl, ?_, by omega, .inl ⟨t, _, rfl, SqL.of upd_same, by show 0 < 10; decide, by show 10 ≤ 1000; decide, fun H5 v g6 hv => ?_⟩⟩
      · exact ((g5.new ht).mono (by omega)).pen
      have g56 : Go p c ns H4 H5 (B + 100) := ((Go.new (Go.refl g5.pen) ht).mono (by omega) : Go p c ns H4 _ (B + 100)).step g6
      have hv' : FlN (N + 10 ^ 31) v := by
        rw [e31]
        simp only [List.mem_cons, List.not_mem_nil, or_false] at hv
        rcases hv with rfl | rfl | rfl | rfl | rfl | rfl | rfl | rfl | rfl | rfl
        · exact .inr (.inr (.inl ⟨_, rfl, by omega, by omega⟩))
        · exact .inr (.inr (.inl ⟨_, rfl, by omega, by omega⟩))
        · exact .inr (.inr (.inl ⟨_, rfl, by omega, by omega⟩))
        · exact .inr (.inr (.inl ⟨_, rfl, by omega, by omega⟩))
        · exact .inr (.inr (.inl ⟨_, rfl, by omega, by omega⟩))
        · exact .inr (.inl ⟨_, rfl⟩)
        · exact .inl rfl
        · exact .inr (.inr (.inl ⟨_, rfl, by omega, by omega⟩))
        · exact .inr (.inr (.inr rfl))
        · exact .inr (.inr (.inl ⟨_, rfl, by omega, by omega⟩))
      have ha6 := g56.lst ha
      have e16 := g56.lst e14
      have e36 := e34.go g56
      refine ⟨_, rfl, _, rfl, a, is, (j : Int), j, rfl, rfl, ha6, ?_, ?_⟩
      · unfold ixN
        rw [if_pos (by omega), if_pos (by omega), Int.toNat_natCast]
      have na : D ≠ a := fun z => by
        rw [z, ha6] at e16
        cases e16
        have hu := List.mem_of_getElem? hsv0
        rcases i4.fl.2 _ hu with h | ⟨b, h⟩ | ⟨i, h, _⟩ | h <;> cases h
      refine hK _ _ ⟨D, sv, _, _, _, rfl, ((Go.mono (B := B + 100) g5 (by omega)).step g56).mut ha0, by rw [upd_ne na]; exact e16, by omega, fun u hu => ?_⟩
      obtain ⟨a', xs', rfl, b1, b2, b3⟩ := e36 u hu
      by_cases z : a' = a
      · subst z
        refine .inl ⟨_, is.set j v, rfl, .inl upd_same, by rw [List.length_set]; omega, fun y hy => ?_⟩
        rcases List.mem_or_eq_of_mem_set hy with hy | rfl
        · exact (i4.fl.2 _ hy).mono (by omega)
        · exact hv'
      · exact .inl ⟨a', xs', rfl, .inl (by rw [upd_ne z]; exact b2), by rw [b3.fl.1]; decide, fun y hy => (b3.fl.2 y hy).mono (by omega)⟩
    refine ⟨_, rfl, rfl, _, rfl, ite2 (fun q4 => ?_) (fun q4 => ?_)⟩
    · -- one left out
      refine ⟨_, rfl, _, rfl, _, rfl, D, sv, rfl, SqL.of e14, fun u1 hu1 => ?_⟩
      have s1 := Ask.Same.made1 (o := .lst (cutV sv none (some (n : Int)))) (Same.refl H4) hu1
      have f1 : upd H4 u1 (.lst (cutV sv none (some (n : Int)))) u1 = some (.lst (cutV sv none (some (n : Int)))) := upd_same
      generalize upd H4 u1 (.lst (cutV sv none (some (n : Int)))) = Ha at s1 f1 ⊢
      refine ⟨_, rfl, _, rfl, _, _, rfl, rfl, _, rfl, D, sv, rfl, SqL.of (s1 _ _ e14), fun u2 hu2 => ?_⟩
      have s2 := Ask.Same.made1 (o := .lst (cutV sv (some ((n : Int) + 1)) none)) (Same.refl Ha) hu2
      have f2 : upd Ha u2 (.lst (cutV sv (some ((n : Int) + 1)) none)) u2 = some (.lst (cutV sv (some ((n : Int) + 1)) none)) := upd_same
      generalize upd Ha u2 (.lst (cutV sv (some ((n : Int) + 1)) none)) = Hb at s2 f2 ⊢
      refine ⟨u1, u2, _, _, rfl, rfl, s2 _ _ f1, f2, by have := cutV_length sv none (some (n : Int)); have := cutV_length sv (some ((n : Int) + 1)) none; omega, fun u3 hu3 => ?_⟩
      have s3 := Ask.Same.made1 (o := .lst (cutV sv none (some (n : Int)) ++ cutV sv (some ((n : Int) + 1)) none)) (Same.refl Hb) hu3
      have s13 := (s1.trans s2).trans s3
      refine hK _ _ ⟨u3, _, _, _, _, rfl, (g5.same s13).mono (by omega), upd_same, ?_, fun u hu => ?_⟩
      · rw [List.length_append, cutV_to, show ((n : Int) + 1) = ((n + 1 : Nat) : Int) by omega, cutV_from, List.length_take, List.length_drop]
        omega
      · refine (e34.el (M := N + 10 ^ 31) (by omega) u ?_).same s13
        rcases List.mem_append.mp hu with hu | hu <;> exact mem_cut hu
    refine ⟨_, rfl, rfl, _, rfl, ite2 (fun q5 => ?_) (fun q5 => ?_)⟩
    · -- one doubled
      have n0 := Same.refl H4
      refine ⟨_, rfl, _, rfl, _, rfl, D, sv, rfl, SqL.of (n0 _ _ e14), fun u1 hu1 => ?_⟩
      have su1 := Ask.Same.made1 (o := .lst (cutV sv none (some (n : Int)))) (Same.refl H4) hu1
      have fu1 : upd H4 u1 (.lst (cutV sv none (some (n : Int)))) u1 = some (.lst (cutV sv none (some (n : Int)))) := upd_same
      generalize upd H4 u1 (.lst (cutV sv none (some (n : Int)))) = Hu1 at su1 fu1 ⊢
      refine ⟨_, rfl, by show 1 ≤ sizeLine; omega, fun u2 hu2 => ?_⟩
      have su2 := Ask.Same.made1 (o := .lst [.ref a]) (Same.refl Hu1) hu2
      have fu2 : upd Hu1 u2 (.lst [.ref a]) u2 = some (.lst [.ref a]) := upd_same
      generalize upd Hu1 u2 (.lst [.ref a]) = Hu2 at su2 fu2 ⊢
      refine ⟨u1, u2, _, _, rfl, rfl, su2 _ _ fu1, fu2, by have := cutV_length sv none (some (n : Int)); have := cutV_length sv (some (n : Int)) none; have := cutV_length sv (some ((n : Int) + 1)) none; have := cutV_length sv (some ((n : Int) + 1)) (some ((n : Int) + 1 + 1)); (try simp only [List.length_append, List.length_cons, List.length_nil]); omega, fun u3 hu3 => ?_⟩
      have su3 := Ask.Same.made1 (o := .lst (cutV sv none (some (n : Int)) ++ [.ref a])) (Same.refl Hu2) hu3
      have fu3 : upd Hu2 u3 (.lst (cutV sv none (some (n : Int)) ++ [.ref a])) u3 = some (.lst (cutV sv none (some (n : Int)) ++ [.ref a])) := upd_same
      generalize upd Hu2 u3 (.lst (cutV sv none (some (n : Int)) ++ [.ref a])) = Hu3 at su3 fu3 ⊢
      have s13 := (su1.trans su2).trans su3
      refine ⟨_, rfl, _, rfl, _, rfl, D, sv, rfl, SqL.of (s13 _ _ e14), fun u4 hu4 => ?_⟩
      have su4 := Ask.Same.made1 (o := .lst (cutV sv (some (n : Int)) none)) (Same.refl Hu3) hu4
      have fu4 : upd Hu3 u4 (.lst (cutV sv (some (n : Int)) none)) u4 = some (.lst (cutV sv (some (n : Int)) none)) := upd_same
      generalize upd Hu3 u4 (.lst (cutV sv (some (n : Int)) none)) = Hu4 at su4 fu4 ⊢
      refine ⟨u3, u4, _, _, rfl, rfl, su4 _ _ fu3, fu4, by have := cutV_length sv none (some (n : Int)); have := cutV_length sv (some (n : Int)) none; have := cutV_length sv (some ((n : Int) + 1)) none; have := cutV_length sv (some ((n : Int) + 1)) (some ((n : Int) + 1 + 1)); (try simp only [List.length_append, List.length_cons, List.length_nil]); omega, fun u5 hu5 => ?_⟩
      have su5 := Ask.Same.made1 (o := .lst ((cutV sv none (some (n : Int)) ++ [.ref a]) ++ cutV sv (some (n : Int)) none)) (Same.refl Hu4) hu5
      have fu5 : upd Hu4 u5 (.lst ((cutV sv none (some (n : Int)) ++ [.ref a]) ++ cutV sv (some (n : Int)) none)) u5 = some (.lst ((cutV sv none (some (n : Int)) ++ [.ref a]) ++ cutV sv (some (n : Int)) none)) := upd_same
      generalize upd Hu4 u5 (.lst ((cutV sv none (some (n : Int)) ++ [.ref a]) ++ cutV sv (some (n : Int)) none)) = Hu5 at su5 fu5 ⊢
      have s15 := (s13.trans su4).trans su5
      refine hK _ _ ⟨u5, _, _, _, _, rfl, (g5.same s15).mono (by omega), fu5, ?_, fun u hu => ?_⟩
      · simp only [List.length_append, List.length_cons, List.length_nil, cutV_to, cutV_from, List.length_take, List.length_drop]
        omega
      · refine (e34.el (M := N + 10 ^ 31) (by omega) u ?_).same s15
        rcases List.mem_append.mp hu with hu | hu
        · rcases List.mem_append.mp hu with hu | hu
          · exact mem_cut hu
          · rw [List.mem_singleton.mp hu]
            exact List.mem_of_getElem? hsv0
        · exact mem_cut hu
    refine ⟨_, rfl, rfl, _, rfl, ite2 (fun q6 => ?_) (fun q6 => ?_)⟩
    · -- two exchanged
      have n0 := Same.refl H4
      refine ⟨_, rfl, _, rfl, _, rfl, D, sv, rfl, SqL.of (n0 _ _ e14), fun u1 hu1 => ?_⟩
      have su1 := Ask.Same.made1 (o := .lst (cutV sv none (some (n : Int)))) (Same.refl H4) hu1
      have fu1 : upd H4 u1 (.lst (cutV sv none (some (n : Int)))) u1 = some (.lst (cutV sv none (some (n : Int)))) := upd_same
      generalize upd H4 u1 (.lst (cutV sv none (some (n : Int)))) = Hu1 at su1 fu1 ⊢
      refine ⟨_, rfl, _, rfl, _, _, rfl, rfl, _, rfl, _, rfl, _, _, rfl, rfl, _, rfl, D, sv, rfl, SqL.of (su1 _ _ e14), fun u2 hu2 => ?_⟩
      have su2 := Ask.Same.made1 (o := .lst (cutV sv (some ((n : Int) + 1)) (some ((n : Int) + 2)))) (Same.refl Hu1) hu2
      have fu2 : upd Hu1 u2 (.lst (cutV sv (some ((n : Int) + 1)) (some ((n : Int) + 2)))) u2 = some (.lst (cutV sv (some ((n : Int) + 1)) (some ((n : Int) + 2)))) := upd_same
      generalize upd Hu1 u2 (.lst (cutV sv (some ((n : Int) + 1)) (some ((n : Int) + 2)))) = Hu2 at su2 fu2 ⊢
      refine ⟨u1, u2, _, _, rfl, rfl, su2 _ _ fu1, fu2, by have := cutV_length sv none (some (n : Int)); have := cutV_length sv (some ((n : Int) + 1)) (some ((n : Int) + 2)); have := cutV_length sv (some ((n : Int) + 2)) none; (try simp only [List.length_append, List.length_cons, List.length_nil]); omega, fun u3 hu3 => ?_⟩
      have su3 := Ask.Same.made1 (o := .lst (cutV sv none (some (n : Int)) ++ cutV sv (some ((n : Int) + 1)) (some ((n : Int) + 2)))) (Same.refl Hu2) hu3
      have fu3 : upd Hu2 u3 (.lst (cutV sv none (some (n : Int)) ++ cutV sv (some ((n : Int) + 1)) (some ((n : Int) + 2)))) u3 = some (.lst (cutV sv none (some (n : Int)) ++ cutV sv (some ((n : Int) + 1)) (some ((n : Int) + 2)))) := upd_same
      generalize upd Hu2 u3 (.lst (cutV sv none (some (n : Int)) ++ cutV sv (some ((n : Int) + 1)) (some ((n : Int) + 2)))) = Hu3 at su3 fu3 ⊢
      refine ⟨_, rfl, by show 1 ≤ sizeLine; omega, fun u4 hu4 => ?_⟩
      have su4 := Ask.Same.made1 (o := .lst [.ref a]) (Same.refl Hu3) hu4
      have fu4 : upd Hu3 u4 (.lst [.ref a]) u4 = some (.lst [.ref a]) := upd_same
      generalize upd Hu3 u4 (.lst [.ref a]) = Hu4 at su4 fu4 ⊢
      refine ⟨u3, u4, _, _, rfl, rfl, su4 _ _ fu3, fu4, by have := cutV_length sv none (some (n : Int)); have := cutV_length sv (some ((n : Int) + 1)) (some ((n : Int) + 2)); have := cutV_length sv (some ((n : Int) + 2)) none; (try simp only [List.length_append, List.length_cons, List.length_nil]); omega, fun u5 hu5 => ?_⟩
      have su5 := Ask.Same.made1 (o := .lst ((cutV sv none (some (n : Int)) ++ cutV sv (some ((n : Int) + 1)) (some ((n : Int) + 2))) ++ [.ref a])) (Same.refl Hu4) hu5
      have fu5 : upd Hu4 u5 (.lst ((cutV sv none (some (n : Int)) ++ cutV sv (some ((n : Int) + 1)) (some ((n : Int) + 2))) ++ [.ref a])) u5 = some (.lst ((cutV sv none (some (n : Int)) ++ cutV sv (some ((n : Int) + 1)) (some ((n : Int) + 2))) ++ [.ref a])) := upd_same
      generalize upd Hu4 u5 (.lst ((cutV sv none (some (n : Int)) ++ cutV sv (some ((n : Int) + 1)) (some ((n : Int) + 2))) ++ [.ref a])) = Hu5 at su5 fu5 ⊢
      have s15 := (((su1.trans su2).trans su3).trans su4).trans su5
      refine ⟨_, rfl, _, rfl, _, _, rfl, rfl, _, rfl, D, sv, rfl, SqL.of (s15 _ _ e14), fun u6 hu6 => ?_⟩
      have su6 := Ask.Same.made1 (o := .lst (cutV sv (some ((n : Int) + 2)) none)) (Same.refl Hu5) hu6
      have fu6 : upd Hu5 u6 (.lst (cutV sv (some ((n : Int) + 2)) none)) u6 = some (.lst (cutV sv (some ((n : Int) + 2)) none)) := upd_same
      generalize upd Hu5 u6 (.lst (cutV sv (some ((n : Int) + 2)) none)) = Hu6 at su6 fu6 ⊢
      refine ⟨u5, u6, _, _, rfl, rfl, su6 _ _ fu5, fu6, by have := cutV_length sv none (some (n : Int)); have := cutV_length sv (some ((n : Int) + 1)) (some ((n : Int) + 2)); have := cutV_length sv (some ((n : Int) + 2)) none; (try simp only [List.length_append, List.length_cons, List.length_nil]); omega, fun u7 hu7 => ?_⟩
      have su7 := Ask.Same.made1 (o := .lst ((cutV sv none (some (n : Int)) ++ cutV sv (some ((n : Int) + 1)) (some ((n : Int) + 2)) ++ [.ref a]) ++ cutV sv (some ((n : Int) + 2)) none)) (Same.refl Hu6) hu7
      have fu7 : upd Hu6 u7 (.lst ((cutV sv none (some (n : Int)) ++ cutV sv (some ((n : Int) + 1)) (some ((n : Int) + 2)) ++ [.ref a]) ++ cutV sv (some ((n : Int) + 2)) none)) u7 = some (.lst ((cutV sv none (some (n : Int)) ++ cutV sv (some ((n : Int) + 1)) (some ((n : Int) + 2)) ++ [.ref a]) ++ cutV sv (some ((n : Int) + 2)) none)) := upd_same
      generalize upd Hu6 u7 (.lst ((cutV sv none (some (n : Int)) ++ cutV sv (some ((n : Int) + 1)) (some ((n : Int) + 2)) ++ [.ref a]) ++ cutV sv (some ((n : Int) + 2)) none)) = Hu7 at su7 fu7 ⊢
      have s17 := (s15.trans su6).trans su7
      refine hK _ _ ⟨u7, _, _, _, _, rfl, (g5.same s17).mono (by omega), fu7, ?_, fun u hu => ?_⟩
      · rw [cutV_to, show ((n : Int) + 1) = ((n + 1 : Nat) : Int) by omega, show ((n : Int) + 2) = ((n + 2 : Nat) : Int) by omega, cutV_from]
        rw [List.length_append, List.length_append, List.length_append, List.length_take, List.length_drop]
        have c3 : (cutV sv (some ((n + 1 : Nat) : Int)) (some ((n + 2 : Nat) : Int))).length ≤ 1 ∧ (cutV sv (some ((n + 1 : Nat) : Int)) (some ((n + 2 : Nat) : Int))).length ≤ sv.length - (n + 1) := by
          rw [cutV_mid _ _ _ (by omega) (by omega), List.length_take, List.length_drop]
          omega
        show min n sv.length + _ + 1 + _ ≤ _
        omega
      · refine (e34.el (M := N + 10 ^ 31) (by omega) u ?_).same s17
        rcases List.mem_append.mp hu with hu | hu
        · rcases List.mem_append.mp hu with hu | hu
          · rcases List.mem_append.mp hu with hu | hu <;> exact mem_cut hu
          · rw [List.mem_singleton.mp hu]
            exact List.mem_of_getElem? hsv0
        · exact mem_cut hu
    -- one of another kind
    have n0 := Same.refl H4
    refine ⟨_, rfl, _, rfl, _, rfl, a, is, rfl, SqL.of ha, fun u1 hu1 => ?_⟩
    have su1 := Ask.Same.made1 (o := .lst (cutV is none (some 3))) (Same.refl H4) hu1
    have fu1 : upd H4 u1 (.lst (cutV is none (some 3))) u1 = some (.lst (cutV is none (some 3))) := upd_same
    generalize upd H4 u1 (.lst (cutV is none (some 3))) = Hu1 at su1 fu1 ⊢
    refine ⟨_, rfl, by show 1 ≤ sizeLine; omega, fun u2 hu2 => ?_⟩
    have su2 := Ask.Same.made1 (o := .lst [.int 1]) (Same.refl Hu1) hu2
    have fu2 : upd Hu1 u2 (.lst [.int 1]) u2 = some (.lst [.int 1]) := upd_same
    generalize upd Hu1 u2 (.lst [.int 1]) = Hu2 at su2 fu2 ⊢
    refine ⟨a, u2, _, _, rfl, rfl, (su1.trans su2) _ _ ha, fu2, by show is.length + 1 ≤ _; omega, fun u3 hu3 => ?_⟩
    have su3 := Ask.Same.made1 (o := .lst (is ++ [.int 1])) (Same.refl Hu2) hu3
    have fu3 : upd Hu2 u3 (.lst (is ++ [.int 1])) u3 = some (.lst (is ++ [.int 1])) := upd_same
    generalize upd Hu2 u3 (.lst (is ++ [.int 1])) = Hu3 at su3 fu3 ⊢
    have s13 := (su1.trans su2).trans su3
    refine ⟨_, rfl, a, is, rfl, .inl ⟨SqL.of (s13 _ _ ha), fun u4 hu4 => ?_⟩⟩
    have su4 := Ask.Same.made1 (o := .tup is) (Same.refl Hu3) hu4
    have fu4 : upd Hu3 u4 (.tup is) u4 = some (.tup is) := upd_same
    generalize upd Hu3 u4 (.tup is) = Hu4 at su4 fu4 ⊢
    refine fun u5 hu5 => ?_
    have su5 := Ask.Same.made1 (o := .dK []) (Same.refl Hu4) hu5
    have fu5 : upd Hu4 u5 (.dK []) u5 = some (.dK []) := upd_same
    generalize upd Hu4 u5 (.dK []) = Hu5 at su5 fu5 ⊢
    refine ⟨Nat.zero_le _, fun u6 hu6 => ?_⟩
    have su6 := Ask.Same.made1 (o := .tup []) (Same.refl Hu5) hu6
    have fu6 : upd Hu5 u6 (.tup []) u6 = some (.tup []) := upd_same
    generalize upd Hu5 u6 (.tup []) = Hu6 at su6 fu6 ⊢
    refine ⟨by show 8 ≤ sizeLine; omega, fun t ht => ?_⟩
    have su7 := Ask.Same.made1 (o := .lst [.ref u1, .ref u3, .non, .int 5, .str "step", .ref u4, .ref u5, .ref u6]) (Same.refl Hu6) ht
    have fu7 : upd Hu6 t (.lst [.ref u1, .ref u3, .non, .int 5, .str "step", .ref u4, .ref u5, .ref u6]) t = some (.lst [.ref u1, .ref u3, .non, .int 5, .str "step", .ref u4, .ref u5, .ref u6]) := upd_same
    generalize upd Hu6 t (.lst [.ref u1, .ref u3, .non, .int 5, .str "step", .ref u4, .ref u5, .ref u6]) = Hu7 at su7 fu7 ⊢
    have s67 := su6.trans su7
    have s57 := su5.trans s67
    have s47 := su4.trans s57
    have s37 := su3.trans s47
    have s17 := s13.trans s47
    have isf : ∀ x ∈ is, FlN (N + 10 ^ 31) x := fun x hx => (i4.fl.2 x hx).mono (by omega)
    have each : ∀ v ∈ ([.ref u1, .ref u3, .non, .int 5, .str "step", .ref u4, .ref u5, .ref u6] : List V), ElB (N + 10 ^ 31) Hu7 v := fun v hv => by
      simp only [List.mem_cons, List.not_mem_nil, or_false] at hv
      rcases hv with rfl | rfl | rfl | rfl | rfl | rfl | rfl | rfl
      · exact .inl ⟨u1, _, rfl, .inl (((su2.trans su3).trans s47) _ _ fu1), Nat.le_trans (cutV_length ..) (by omega), fun x hx => isf x (mem_cut hx)⟩
      · refine .inl ⟨u3, _, rfl, .inl (s47 _ _ fu3), by rw [List.length_append]; show is.length + 1 ≤ 5; omega, fun x hx => ?_⟩
        rcases List.mem_append.mp hx with hx | hx
        · exact isf x hx
        · rw [List.mem_singleton.mp hx]
          exact .inr (.inr (.inl ⟨1, rfl, by rw [e31]; omega, by rw [e31]; omega⟩))
      · exact .inr (.inl rfl)
      · exact .inr (.inr (.inl rfl))
      · exact .inr (.inr (.inr (.inl rfl)))
      · exact .inl ⟨u4, _, rfl, .inr (s57 _ _ fu4), by omega, isf⟩
      · exact .inr (.inr (.inr (.inr ⟨u5, rfl, s67 _ _ fu5⟩)))
      · exact .inl ⟨u6, [], rfl, .inr (su7 _ _ fu6), Nat.zero_le _, fun x hx => by cases hx⟩
    refine ⟨p, c, ns, .ref t, _, rfl, (g5.same s17).pen, by omega, .inl ⟨t, _, rfl, SqL.of fu7, by show 0 < 8; decide, by show 8 ≤ 1000; decide, fun H8 v g8 hv => ?_⟩⟩
    have ev := (each v hv).go g8
    have g48 := (Go.same (Go.refl g5.pen) s17 |>.mono (Nat.le_succ _)).step g8
    have e18 := g48.lst e14
    have e38 := e34.go g48
    refine ⟨_, rfl, _, rfl, D, sv, (n : Int), n, rfl, rfl, e18, ?_, ?_⟩
    · unfold ixN
      rw [if_pos (by omega), if_pos (by omega), Int.toNat_natCast]
    have g28 := (g5.mono (Nat.le_succ _)).step g48
    have elMut : ∀ u : V, ElB (N + 10 ^ 31) H8 u → ElB (N + 10 ^ 31) (upd H8 D (.lst (sv.set n v))) u := fun u h => by
      rcases h with ⟨a', xs', rfl, b, l, f⟩ | h | h | h | ⟨a', rfl, b⟩
      · have nd : a' ≠ D := fun z => by
          rw [z, e18] at b
          rcases b with b | b
          · cases b
            have h := f _ (List.mem_of_getElem? hsv0)
            rcases h with h | ⟨b, h⟩ | ⟨i, h, _⟩ | h <;> cases h
          · cases b
        exact .inl ⟨a', xs', rfl, b.elim (fun z => .inl (by rw [upd_ne nd]; exact z)) (fun z => .inr (by rw [upd_ne nd]; exact z)), l, f⟩
      · exact .inr (.inl h)
      · exact .inr (.inr (.inl h))
      · exact .inr (.inr (.inr (.inl h)))
      · have nd : a' ≠ D := fun z => by rw [z, e18] at b; cases b
        exact .inr (.inr (.inr (.inr ⟨a', rfl, by rw [upd_ne nd]; exact b⟩)))
    refine hK _ _ ⟨D, sv.set n v, _, _, _, rfl, (g28.mono (by omega)).mut hD, upd_same, by rw [List.length_set]; omega, fun u hu => ?_⟩
    rcases List.mem_or_eq_of_mem_set hu with hu | rfl
    · exact elMut u (e38.el (by omega) u hu)
    · exact elMut _ ev
end
end Ask

namespace Ask
open PySem L2 PySem.Spec PyProof.Rows
/-! ### repr of a list that may hold an empty dict -/
def DpE (K : PySem.W.Frag) (H : Hp) (v : V) (d : PyData) : Prop := (Dp K H v d ∧ d.hasDict = false) ∨ ∃ a : Addr, v = .ref a ∧ H a = some (.dK []) ∧ d = .dict []
inductive DpEs (K : PySem.W.Frag) (H : Hp) : List V → List PyData → Prop
  | nil : DpEs K H [] []
  | cons {v : V} {vs : List V} {d : PyData} {ds : List PyData} : DpE K H v d → DpEs K H vs ds → DpEs K H (v :: vs) (d :: ds)
section
variable {X : Cx} {pins : List (Addr × Obj)} {σ : L2.St} {H : Hp} {s : Shared}
theorem DpE.empty (I : Inv X pins σ H s) {a : Addr} (e : H a = some (.dK [])) : ∃ o n, s.heap.get? a = some o ∧ o.cls = .type "dict" ∧ o.data = .dict #[] n ∧ (a == sysModules) = false := by
  obtain ⟨_, hd, vs, rel, o, es, ep, eo, exd, hdat, _, hp, _⟩ := dk_of I.hok e
  cases rel
  have e0 : es.toList = [] := by
    generalize es.toList = l at hp
    cases hp
    rfl
  have e1 : es = #[] := by
    cases es with
    | mk l => cases (show l = [] from e0); rfl
  subst e1
  exact ⟨o, ep, eo, exd.1, hdat, hd⟩
theorem DpE.reads (I : Inv X pins σ H s) {d : PyData} {v : V} {u : Value} (h : DpE X.K H v d) (r : RelV v u) (hs : d.showable = true) (hz : d.shown.length ≤ sizeLine) :
    ∃ as bs, Reads s.heap u d as ∧ ReadAtMost s.heap d.depth bs ∧ ReprK X.prog X.w bs s.heap d.depth u d.shown := by
  rcases h with ⟨h, nd⟩ | ⟨a, rfl, e, rfl⟩
  · obtain ⟨as, rd⟩ := Dp.reads I d v u h r
    obtain ⟨bs, h1, h2⟩ := ReprK.of_reads (prog := X.prog) (w := X.w) rd hs (fun z => by rw [nd] at z; cases z) hz
    exact ⟨as, bs, rd, h1, h2⟩
  · obtain rfl : u = Value.ref a := r
    obtain ⟨o, n, h1, h2, h3, h4⟩ := DpE.empty I e
    have rd : Reads s.heap (.ref a) (.dict []) (a :: [] ++ []) := Reads.dict h1 h2 h3 ReadsAll.nil ReadsAll.nil
    refine ⟨_, [a], rd, fun b hb => ?_, ?_⟩
    · rw [List.mem_singleton] at hb
      subst hb
      exact ⟨_, _, rd, Nat.le_refl _⟩
    · exact ReprK.dict h1 h2 h3 h4 (by simp) .nil
theorem DpEs.reads (I : Inv X pins σ H s) : ∀ {ds : List PyData} {vs : List V} {us : List Value}, DpEs X.K H vs ds → Vals vs us → PyData.showableAll ds = true → (∀ t ∈ PyData.shownAll ds, t.length ≤ sizeLine) →
    ∃ as bs, ReadsAll s.heap us ds as ∧ ReadAtMost s.heap (PyData.depthAll ds) bs ∧ ReprAllK X.prog X.w bs s.heap (PyData.depthAll ds) us (PyData.shownAll ds)
  | [], _, _, h, r, _, _ => by
    cases h
    cases r
    exact ⟨_, [], .nil, (fun _ h => nomatch h), by simp only [PyData.shownAll]; exact .nil⟩
  | d :: ds, _, _, h, r, hs, hz => by
    cases h with
    | cons h1 h2 =>
      cases r with
      | cons r1 r2 =>
        have hs' : d.showable = true ∧ PyData.showableAll ds = true := by simpa [PyData.showableAll] using hs
        obtain ⟨a1, b1, q1, hb1, k1⟩ := DpE.reads I h1 r1 hs'.1 (hz _ (by simp only [PyData.shownAll]; exact List.mem_cons_self ..))
        obtain ⟨a2, b2, q2, hb2, k2⟩ := DpEs.reads I h2 r2 hs'.2 (fun t ht => hz t (by simp only [PyData.shownAll]; exact List.mem_cons_of_mem _ ht))
        refine ⟨_, b1 ++ b2, .cons q1 q2, ?_, ?_⟩
        · intro b hm
          simp only [PyData.depthAll]
          rcases List.mem_append.mp hm with hm | hm
          · obtain ⟨d', as', r', hd'⟩ := hb1 b hm
            exact ⟨d', as', r', Nat.le_trans hd' (Nat.le_max_left _ _)⟩
          · obtain ⟨d', as', r', hd'⟩ := hb2 b hm
            exact ⟨d', as', r', Nat.le_trans hd' (Nat.le_max_right _ _)⟩
        · simp only [PyData.depthAll, PyData.shownAll]
          exact .cons ((k1.more fun b hb => List.mem_append_left _ hb).level_le (Nat.le_max_left _ _)) (k2.more_le (fun b hb => List.mem_append_right _ hb) (Nat.le_max_right _ _))
end
def rReprE (K : PySem.W.Frag) : List V → Hp → VK → Prop := fun xs H Q => ∃ (a : Addr) (vs : List V) (ds : List PyData), xs = [.ref a] ∧ SqL K H a vs ∧ DpEs K H vs ds ∧ PyData.showableAll ds = true ∧ PyData.depthAll ds ≤ 30 ∧ (PyData.list ds).shown.length ≤ sizeLine ∧ Q (.str (PyData.list ds).shown) H
theorem call_reprE {X : Cx} (hg : X.A.guards = some []) (hu : X.A.units + 64 < cLine) : CallR X (.builtin "repr") (rReprE X.K) := by
  intro pins s σ H xs us Q I r h
  obtain ⟨a, vs, ds, rfl, hS, hd, sh, dp, sz, q⟩ := h
  obtain ⟨u, rfl, ra⟩ := vals1 r
  obtain rfl : u = Value.ref a := ra
  obtain ⟨its, rv, ⟨o, n, ho, hc, hz1, hdt⟩, hz2⟩ := I.list hS
  have hz' : (listText (PyData.shownAll ds)).length ≤ sizeLine := by simpa only [PyData.shown] using sz
  obtain ⟨as, bs, q1, hb, hk⟩ := DpEs.reads I hd rv sh (fun t ht => Nat.le_trans (listText_mem_le ht) hz')
  have rd : Reads s.heap (.ref a) (.list ds) _ := Reads.list ho hc hdt q1
  have hna : a ∉ bs := not_mem_of_deeper rd (by simp only [PyData.depth]; omega) hb
  simp only [PyData.shown] at q
  refine call_repr_slot (by omega) ⟨o, ho, hc⟩ F.slot_list_repr.toG ?_
  cases its with
  | nil =>
    cases q1
    simp only [PyData.shownAll, listText_nil] at q
    exact call_list_repr_empty ⟨o, ho, hc⟩ ho hdt ⟨_, _, rfl, ⟨.str "[]", H, I.tok _, ⟨_, rfl⟩, q⟩⟩
  | cons x l =>
    exact call_list_reprK ho hc hdt hna (by simpa using hk.length_eq) (fun i y e => hk.item i y (by simpa using e)) hg (fun b _ => Clear.nil b) (by show X.A.units + 1 + _ < _; omega) (fun _ _ e => e) (fun h' u tk k => ⟨_, _, rfl, ⟨.str _, H, I.kept (t' := tk) k, ⟨_, rfl⟩, q⟩⟩) hz'
end Ask

namespace Ask
open PySem L2 PySem.Spec PyProof.Rows StrLaws
theorem dk_intN {i : Int} (h0 : -(10 ^ 40) < i) (h1 : i < 10 ^ 40) : Dk (.int i) 41 := by
  have hn : i.natAbs < 10 ^ 40 := by omega
  refine ⟨rfl, Nat.zero_le _, ?_, ?_⟩
  · show decide (i.natAbs.log2 < 1920) = true
    refine decide_eq_true ?_
    by_cases z : i.natAbs = 0
    · rw [z]
      decide
    · refine (Nat.log2_lt z).mpr ?_
      have : (10 : Nat) ^ 40 < (2 : Nat) ^ 1920 := by decide +kernel
      exact Nat.lt_trans hn this
  · show (Str.ofString (toString i)).length ≤ _
    rw [PySem.ofString_length]
    exact int_text_length_le10 (k := 40) (by decide) hn
theorem flat_dk {K : PySem.W.Frag} {H : Hp} {N : Int} (hN : N ≤ 10 ^ 36) {v : V} (h : FlN N v) : ∃ d, Dp K H v d ∧ Dk d 41 ∧ d.depth ≤ 0 := by
  have e : (10 : Int) ^ 36 = 1000000000000000000000000000000000000 := by decide
  have e2 : (10 : Int) ^ 40 = 10000000000000000000000000000000000000000 := by decide
  rw [e] at hN
  rcases h with rfl | ⟨b, rfl⟩ | ⟨i, rfl, h1, h2⟩ | rfl
  · exact ⟨_, .non, dk_non.mono (by decide), Nat.le_refl _⟩
  · exact ⟨_, .bl b, (dk_bool b).mono (by decide), Nat.le_refl _⟩
  · exact ⟨_, .int i, dk_intN (by rw [e2]; omega) (by rw [e2]; omega), Nat.le_refl _⟩
  · exact ⟨_, .str _, (dk_str (Asc.lit (s := "1") (by decide +kernel))).mono (by decide +kernel), Nat.le_refl _⟩
theorem flats_dk {K : PySem.W.Frag} {H : Hp} {N : Int} (hN : N ≤ 10 ^ 36) : ∀ {xs : List V}, (∀ x ∈ xs, FlN N x) → ∃ ds, DpAll K H xs ds ∧ DkAll ds (43 * xs.length) ∧ PyData.depthAll ds ≤ 0
  | [], _ => ⟨[], .nil, DkAll.nil, Nat.le_refl _⟩
  | x :: xs, h => by
    obtain ⟨ds, h1, h2, h3⟩ := flats_dk (K := K) (H := H) hN (xs := xs) fun y hy => h y (List.mem_cons_of_mem _ hy)
    obtain ⟨d, g1, g2, g3⟩ := flat_dk (K := K) (H := H) hN (h x (List.mem_cons_self ..))
    refine ⟨d :: ds, .cons g1 h1, ?_, Nat.max_le.mpr ⟨g3, h3⟩⟩
    have := DkAll.cons g2 h2
    rw [List.length_cons, Nat.mul_succ, Nat.add_comm]
    exact this
theorem el_dk {K : PySem.W.Frag} {H : Hp} {N : Int} (hN : N ≤ 10 ^ 36) {v : V} (h : ElB N H v) : ∃ d, DpE K H v d ∧ d.showable = true ∧ d.depth ≤ 5 ∧ d.shown.length ≤ 300 := by
  have ofDk : ∀ {d : PyData}, Dp K H v d → Dk d 300 → ∃ d, DpE K H v d ∧ d.showable = true ∧ d.depth ≤ 5 ∧ d.shown.length ≤ 300 := fun h k => ⟨_, .inl ⟨h, k.nod⟩, k.sho, k.dep, k.len⟩
  rcases h with ⟨a, xs, rfl, k, l, f⟩ | rfl | rfl | rfl | ⟨a, rfl, e⟩
  · obtain ⟨ds, g1, g2, g3⟩ := flats_dk (K := K) (H := H) hN f
    rcases k with k | k
    · exact ofDk (.lst (SqL.of k) g1) ((g2.lst (by omega)).mono (by omega))
    · exact ofDk (.tup (SqT.of k) g1) ((g2.tup (by omega)).mono (by omega))
  · exact ofDk .non (dk_non.mono (by decide))
  · exact ofDk (.int 5) ((dk_intN (by decide) (by decide)).mono (by decide))
  · exact ofDk (.str _) ((dk_str (Asc.lit (s := "step") (by decide +kernel))).mono (by decide +kernel))
  · exact ⟨_, .inr ⟨a, rfl, e, rfl⟩, rfl, by decide, by decide +kernel⟩
theorem els_dk {K : PySem.W.Frag} {H : Hp} {N : Int} (hN : N ≤ 10 ^ 36) : ∀ {vs : List V}, (∀ v ∈ vs, ElB N H v) → ∃ ds, DpEs K H vs ds ∧ PyData.showableAll ds = true ∧ PyData.depthAll ds ≤ 5 ∧ ((PyData.shownAll ds).map (·.length)).sum + 2 * ds.length ≤ 302 * vs.length
  | [], _ => ⟨[], .nil, rfl, Nat.zero_le _, Nat.le_refl _⟩
  | v :: vs, h => by
    obtain ⟨ds, h1, h2, h3, h4⟩ := els_dk (K := K) (H := H) hN (vs := vs) fun y hy => h y (List.mem_cons_of_mem _ hy)
    obtain ⟨d, g1, g2, g3, g4⟩ := el_dk (K := K) (H := H) hN (h v (List.mem_cons_self ..))
    refine ⟨d :: ds, .cons g1 h1, by show (PyData.showable d && PyData.showableAll ds) = true; rw [g2, h2]; rfl, Nat.max_le.mpr ⟨g3, h3⟩, ?_⟩
    show ((PyData.shown d :: PyData.shownAll ds).map (·.length)).sum + 2 * (ds.length + 1) ≤ _
    rw [List.map_cons, List.sum_cons, List.length_cons]
    omega
theorem els_len {ds : List PyData} {n : Nat} (h : ((PyData.shownAll ds).map (·.length)).sum + 2 * ds.length ≤ 302 * n) (hn : n ≤ 50) : (PyData.list ds).shown.length ≤ sizeLine := by
  have := listText_len_le (PyData.shownAll ds)
  have e := shownAll_len ds
  have z : (100000 : Nat) ≤ sizeLine := by decide
  show (listText (PyData.shownAll ds)).length ≤ _
  omega
/-! ### such a list as steps -/
theorem kitAny_no {K : PySem.W.Frag} {n : String} (h1 : kitB n "list" = some false) (h2 : kitB n "tuple" = some false) : PySem.W.kitAny K (.type n) [.type "list", .type "tuple"] = some false :=
  kitAny_cons (kit_ty h1) (fun _ => kitAny_cons (kit_ty h2) (fun _ => rfl) (fun z => by cases z)) (fun z => by cases z)
theorem odd_not {K : PySem.W.Frag} {H : Hp} {v : V} (h : v = .non ∨ (∃ i, v = .int i) ∨ (∃ b, v = .bl b) ∨ (∃ z, v = .str z) ∨ ∃ (a : Addr) (kvs : List (Key × V)), v = .ref a ∧ H a = some (.dK kvs)) : ∃ t, TyX K H v t ∧ PySem.W.kitAny K t [.type "list", .type "tuple"] = some false := by
  rcases h with rfl | ⟨i, rfl⟩ | ⟨b, rfl⟩ | ⟨z, rfl⟩ | ⟨a, kvs, rfl, e⟩
  · exact ⟨_, .base .non, kitAny_no (by decide +kernel) (by decide +kernel)⟩
  · exact ⟨_, .base (.int i), kitAny_no (by decide +kernel) (by decide +kernel)⟩
  · exact ⟨_, .base (.bl b), kitAny_no (by decide +kernel) (by decide +kernel)⟩
  · exact ⟨_, .base (.str z), kitAny_no (by decide +kernel) (by decide +kernel)⟩
  · exact ⟨_, .base (.dK e), kitAny_no (by decide +kernel) (by decide +kernel)⟩
theorem el_step {K : PySem.W.Frag} {H : Hp} {N : Int} {v : V} (h : ElB N H v) : ∃ o, ElL K H v o := by
  rcases h with ⟨a, xs, rfl, k, l, f⟩ | rfl | rfl | rfl | ⟨a, rfl, e⟩
  · exact ⟨_, .inl ⟨a, xs, rfl, k.elim (fun z => .inl (SqL.of z)) (fun z => .inr (SqT.of z)), by omega, fun x hx => (f x hx).flb, rfl⟩⟩
  · exact ⟨none, .inr ⟨rfl, odd_not (.inl rfl)⟩⟩
  · exact ⟨none, .inr ⟨rfl, odd_not (.inr (.inl ⟨_, rfl⟩))⟩⟩
  · exact ⟨none, .inr ⟨rfl, odd_not (.inr (.inr (.inr (.inl ⟨_, rfl⟩))))⟩⟩
  · exact ⟨none, .inr ⟨rfl, odd_not (.inr (.inr (.inr (.inr ⟨a, _, rfl, e⟩))))⟩⟩
theorem els_steps {K : PySem.W.Frag} {H : Hp} {N : Int} : ∀ {vs : List V}, (∀ v ∈ vs, ElB N H v) → ∃ os, ElsL K H vs os
  | [], _ => ⟨[], rfl, fun i x o h => by simp at h⟩
  | v :: vs, h => by
    obtain ⟨os, h1, h2⟩ := els_steps (K := K) (vs := vs) fun y hy => h y (List.mem_cons_of_mem _ hy)
    obtain ⟨o, g⟩ := el_step (K := K) (h v (List.mem_cons_self ..))
    refine ⟨o :: os, by rw [List.length_cons, List.length_cons, h1], fun i x o' e1 e2 => ?_⟩
    cases i with
    | zero => cases e1; cases e2; exact g
    | succ i => exact h2 i x o' e1 e2
end Ask

namespace Ask
open PySem L2 ClX
theorem Lts.more {ys : List Str} {z : Str} (h : Lts ys) (hz : z ∉ ys) (a : isLs z = true) (b : z.length ≤ 13) (c : Asc z) (l : ys.length ≤ 11) : Lts (ys ++ [z]) := by
  refine ⟨?_, fun y hy => ?_, by rw [List.length_append]; show 1 ≤ ys.length + 1; omega, by rw [List.length_append]; show ys.length + 1 ≤ 12; omega⟩
  · rw [List.nodup_append]
    refine ⟨h.nd, by simp, fun u hu v hv e => ?_⟩
    rw [List.mem_singleton] at hv
    subst hv
    exact hz (e ▸ hu)
  · rcases List.mem_append.mp hy with hy | hy
    · exact h.ok y hy
    · rw [List.mem_singleton.mp hy]
      exact ⟨a, b, c⟩
theorem seqT_go {K : PySem.W.Frag} {p c a : Addr} {ns : List Int} {H H' : Hp} {B : Nat} {xs : List V} (g : Go p c ns H H' B) (h : SqT K H a xs) : SqT K H' a xs := by
  rcases h with (h | ⟨o, h⟩) | h
  · exact .inl (.inl (g.tup h))
  · exact .inl (.inr ⟨o, g.at h (by intro _ z; cases z)⟩)
  · exact .inr h
theorem HistAt.go {K : PySem.W.Frag} {CL CH p c q : Addr} {ns : List Int} {H H' : Hp} {B : Nat} {ys : List Str} {b : Str} {rs : List Run} (h : HistAt K CL CH H q ys b rs) (g : Go p c ns H H' B) : HistAt K CL CH H' q ys b rs := by
  obtain ⟨dx, m, t, cc, ks, h1, h2, h3, h4⟩ := h
  exact ⟨dx, m, t, cc, ks, g.at h1 (by intro _ z; cases z), h2.go g, seqT_go g h3, ⟨h4.1, fun i v r e1 e2 => let ⟨b, e, e3⟩ := h4.2 i v r e1 e2; ⟨b, e, g.tup e3⟩⟩⟩
theorem SenAt.go {K : PySem.W.Frag} {CL CS p c q : Addr} {ns : List Int} {H H' : Hp} {B : Nat} {ys : List Str} {k x : Str} {s : V} (h : SenAt K CL CS H q ys k x s) (g : Go p c ns H H' B) : SenAt K CL CS H' q ys k x s := by
  obtain ⟨dx, m, t, h1, h2⟩ := h
  exact ⟨dx, m, t, g.at h1 (by intro _ z; cases z), h2.go g⟩
theorem SensL.go {K : PySem.W.Frag} {CL CS p c : Addr} {ns : List Int} {H H' : Hp} {B : Nat} {ys : List Str} {vs : List V} {ts : List TriS} (h : SensL K CL CS H ys vs ts) (g : Go p c ns H H' B) : SensL K CL CS H' ys vs ts :=
  ⟨h.1, fun i v t h1 h2 => let ⟨p, e, q⟩ := h.2 i v t h1 h2; ⟨p, e, q.go g⟩⟩
/-- taken steps as steps of any kind -/
theorem StpsV.sts {K : PySem.W.Frag} {H : Hp} {vs : List V} {os : List Stp} (h : StpsV H vs os) : ∀ (i : Nat) (x : V) (o : Option Stp), vs[i]? = some x → (os.map some)[i]? = some o → StV K H x o := fun i x o h1 h2 => by
  rw [List.getElem?_map] at h2
  cases e : os[i]? with
  | none => rw [e] at h2; cases h2
  | some s =>
    rw [e] at h2
    cases h2
    obtain ⟨q, rfl, hq⟩ := h.2 i x s h1 e
    exact StV.tup hq
theorem StsV.of {K : PySem.W.Frag} {H : Hp} {a : Addr} {vs : List V} {os : List Stp} (hS : SqL K H a vs ∨ SqT K H a vs) (h : StpsV H vs os) (l : os.length ≤ 100) : StsV K H (.ref a) (some (os.map some)) :=
  .inl ⟨a, vs, _, rfl, hS, by rw [List.length_map]; exact h.1, by rw [List.length_map]; exact l, h.sts, rfl⟩
theorem J_len (w : List Str) : (J w).length ≤ w.length + 1 := by
  have := joinR_len (onesR w)
  have e : (onesR w).length = w.length := by unfold onesR; rw [List.length_map]
  show (joinR (onesR w)).length ≤ _
  omega
theorem J_ofl {ys w : List Str} (h : ∀ z ∈ w, z ∈ ys) : OfL ys (J w) := fun r hr => by
  obtain ⟨y, hy, e⟩ := mem_join hr
  rw [← e]
  unfold onesR at hy
  obtain ⟨z, hz, rfl⟩ := List.mem_map.mp hy
  exact h z hz
/-- the odd values: none is a chain -/
theorem sts_odd {K : PySem.W.Frag} {H : Hp} {v : V} (h : v = .non ∨ (∃ i, v = .int i) ∨ (∃ b, v = .bl b) ∨ (∃ z, v = .str z) ∨ ∃ (a : Addr) (kvs : List (Key × V)), v = .ref a ∧ H a = some (.dK kvs)) : StsV K H v none := .inr ⟨rfl, odd_not h⟩
theorem walk_none {b : Str} {ts : List TriS} {rs : List Run} {o : Option Stp} {os : List (Option Stp)} (h : stepO b ts rs o = none) : walkR b ts rs (o :: os) = none := by
  show (stepO b ts rs o).bind _ = none
  rw [h]
  rfl
theorem le_none {b c : Str} {ts : List TriS} {rs ss : List Run} {os : List (Option Stp)} (h : walkR b ts rs os = none) : leB b c ts rs ss (some os) = false := by
  show (decide (b = c) && decide (walkR b ts rs os = some ss)) = false
  rw [h, decide_eq_false (show ¬ (none : Option (List Run)) = some ss from fun z => by cases z), Bool.and_false]
theorem sts_one {K : PySem.W.Frag} {H : Hp} {a : Addr} {v : V} {o : Option Stp} (h : H a = some (.lst [v])) (e : StV K H v o) : StsV K H (.ref a) (some [o]) :=
  .inl ⟨a, [v], [o], rfl, .inl (SqL.of h), rfl, by show 1 ≤ 100; decide, fun i x o' h1 h2 => by
    cases i with
    | zero => cases h1; cases h2; exact e
    | succ i => simp at h1, rfl⟩
theorem chain_mono {K : PySem.W.Frag} {CL CH CS : Addr} {vs : List V} {H : Hp} {Q Q' : VK} {E E' : XK} (h : spChain K CL CH CS vs H Q E) (k : ∀ v H', Q v H' → Q' v H') : spChain K CL CH CS vs H Q' E' := by
  obtain ⟨a, p, q, v, ys, zs, b, c, us, ts, rs, ss, oo, e, h1, h2, h3, h4, h5, h6, h7, h8, h9, h10, h11, h12, h13, kq⟩ := h
  exact ⟨a, p, q, v, ys, zs, b, c, us, ts, rs, ss, oo, e, h1, h2, h3, h4, h5, h6, h7, h8, h9, h10, h11, h12, h13, fun H' s => k _ _ (kq H' s)⟩
theorem tIf_two {t : TT} {ta tb : TE} {σ : L2.St} {H : Hp} {Q : VK} (Pv : V → Hp → Prop) (h : ∀ Q' : VK, (∀ v H', Pv v H' → Q' v H') → tIf t ta tb σ H Q') (k : ∀ v H', Pv v H' → Q v H') : tIf t ta tb σ H Q := h Q k
section
variable {P : Program} {w : World} {K : PySem.W.Frag} {mg : Str → Option Value} {base : Heap}
/-! ### other ends, other values -/
def spOthers (K : PySem.W.Frag) (CL CH CS : Addr) : Sp := fun vs H Q _ => ∃ (p c q sl wa ha st : Addr) (ns : List Int) (B : Nat) (ys ws zs : List Str) (b : Str) (us sv : List V) (ts : List TriS) (os : List Stp), vs = [.ref p, .ref q, .ref sl, .str b, .ref wa, .ref ha, .ref st] ∧ Pen c ns H p B ∧ B ≤ 300000000 ∧ H q = some (.lst (ys.map V.str)) ∧ Lts ys ∧ ys.length ≤ 3 ∧ SqL K H sl us ∧ us.length ≤ 1000 ∧ SensL K CL CS H ys us ts ∧ (∀ t ∈ ts, TriOk ys t) ∧ (b = "new" ∨ b = "found") ∧ H wa = some (.lst (ws.map V.str)) ∧ ws.length ≤ 10 ∧ (∀ z ∈ ws, z ∈ ys) ∧ H ha = some (.lst (zs.map V.str)) ∧ zs.length ≤ 30 ∧ (∀ z ∈ zs, z ∈ ys) ∧ H st = some (.lst sv) ∧ StpsV H sv os ∧ os.length ≤ 100 ∧ walkR b ts (J ws) (os.map some) = some (J zs) ∧
  ∀ H', Go p c ns H H' (B + 200) → Q (.bl true) H'

abbrev s__law_others_refused : Stmt := top 86
theorem sc__law_others_refused : FnScope ["_law_pen_here", "_law_letters_here", "_law_sentences", "_law_beginning_here", "_law_word_here", "_law_here", "_law_steps", "_law_first", "_law_ends", "_law_other", "_law_wide", "_law_odd", "_law_some"] ["_law_pen_here", "_law_letters_here", "_law_sentences", "_law_beginning_here", "_law_word_here", "_law_here", "_law_steps"] (defScope s__law_others_refused) := ⟨rfl, rfl, rfl, by decide +kernel, rfl, by decide +kernel, by decide +kernel⟩
theorem ok_others {f fW fC fF fL fP fPl CL CH CS CE CM : Addr} {mc : Value} {fd fdW fdC fdF fdL fdP : FuncData} (F : Fun K "_law_others_refused" "_law_others_refused" s__law_others_refused f fd) (T : Blt mg)
    (G__law_word : FnOk P w K mg base CX0 3 fW fdW ["_law_pen_here", "_law_letters_here", "_law_highest"] (spLWord K)) (A__law_word : At K mg "_law_word" fW fdW ["_law_pen_here", "_law_letters_here", "_law_highest"])
    (G_is_chain : FnOk P w K mg base CX0 5 fC fdC ["sentences", "first", "last", "steps"] (spChain K CL CH CS)) (A_is_chain : At K mg "is_chain" fC fdC ["sentences", "first", "last", "steps"])
    (G__law_free : FnOk P w K mg base CX0 1 fF fdF ["_law_letters_here"] (spFree K)) (A__law_free : At K mg "_law_free" fF fdF ["_law_letters_here"])
    (ML : Mk K CL fL) (mL : mg "Letters" = some (.ref CL)) (bL : Binds K fdL ["self", "words"] []) (GL : FnOk P w K mg base (L2.CX P w) 4 fL fdL ["self", "words"] (spLet K CL CE CM))
    (GP : FnOk P w K mg base CX0 7 fP fdP ["cls", "letters", "beginning", "word"] (spSpelled K CL CH)) (bP : Binds K fdP ["cls", "letters", "beginning", "word"] []) (rP : CRead K CH mc) (cP : CMet K CH mc "spelled" fPl fP) (mH : mg "History" = some (.ref CH)) :
    FnOk P w K mg base CX0 8 f fd ["_law_pen_here", "_law_letters_here", "_law_sentences", "_law_beginning_here", "_law_word_here", "_law_here", "_law_steps"] (spOthers K CL CH CS) := by
  refine F.ok sc__law_others_refused (fun vs H Q E h => ?_) (fun cdv A outer s H vs Q E hr h => ?_)
  · obtain ⟨p, c, q, sl, wa, ha, st, ns, B, ys, ws, zs, b, us, sv, ts, os, rfl, _⟩ := h
    rfl
  · obtain ⟨p, c, q, sl, wa, ha, st, ns, B, ys, ws, zs, b, us, sv, ts, os, rfl, hp, hB, hq, lts, l3, hsl, lu, hT, tok, hb, hw, lw, wy, hh, lz, zy, hst, hsv, lo, wk, k⟩ := h
    have h__law_word := hr.mono (j := 3) (by decide)
    have h_is_chain := hr.mono (j := 5) (by decide)
    have h__law_free := hr.mono (j := 1) (by decide)
    have h5 := hr.mono (j := 5) (by decide)
    have h6 := hr.mono (j := 7) (by decide)
    refine ⟨_, (pss_cons (ps_set (i := 7) sc__law_others_refused.nd rfl (Or.inr rfl) (pe_cmeth (pe_gv (v := .ref CH) rfl ⟨_, mH, rfl⟩) rP cP (FnOk.raw GP bP .nil) h6 pass0 (pa_cons (pe_make ML GL h5 (by rfl) mL bL .nil passE (pa_cons (pv 1) pa_nil)) (pa_cons (pv 3) (pa_cons (pv 4) pa_nil)))))
      (pss_cons (ps_set (i := 8) sc__law_others_refused.nd rfl (Or.inl rfl) (pe_op op_cat (pe_call G__law_word (by exact h__law_word) (by rfl) A__law_word.m A__law_word.k A__law_word.b .nil pass0 (pa_cons (pv 0) (pa_cons (pv 1) (pa_cons pe_int pa_nil)))) (pv 5)))
      (pss_cons (ps_if (pt_cmpR op_ne (pe_call G_is_chain (by exact h_is_chain) (by rfl) A_is_chain.m A_is_chain.k A_is_chain.b .nil pass0 (pa_cons (pv 2) (pa_cons (pv 7) (pa_cons (pe_cmeth (pe_gv (v := .ref CH) rfl ⟨_, mH, rfl⟩) rP cP (FnOk.raw GP bP .nil) h6 pass0 (pa_cons (pe_make ML GL h5 (by rfl) mL bL .nil passE (pa_cons (pv 1) pa_nil)) (pa_cons (pv 3) (pa_cons (pv 8) pa_nil)))) (pa_cons (pv 6) pa_nil))))) (pe_cmpR (op_eqD hr.units) (pv 8) (pv 5) (nomark _)) (nomark _)) (pss_one (ps_ret pe_bl)) pss_nil)
      (pss_cons (ps_set (i := 9) sc__law_others_refused.nd rfl (Or.inl rfl) (pe_cmeth (pe_gv (v := .ref CH) rfl ⟨_, mH, rfl⟩) rP cP (FnOk.raw GP bP .nil) h6 pass0 (pa_cons (pe_make ML GL h5 (by rfl) mL bL .nil passE (pa_cons (pv 1) pa_nil)) (pa_cons (pe_ifExp (pt_cmpR op_eq (pv 3) pe_str (nomark _)) pe_str pe_str) (pa_cons (pv 5) pa_nil)))))
      (pss_cons (ps_set (i := 10) sc__law_others_refused.nd rfl (Or.inl rfl) (pe_cmeth (pe_gv (v := .ref CH) rfl ⟨_, mH, rfl⟩) rP cP (FnOk.raw GP bP .nil) h6 pass0 (pa_cons (pe_make ML GL h5 (by rfl) mL bL .nil passE (pa_cons (pe_op op_cat (pv 1) (pe_lst (pa_cons (pe_call G__law_free (by exact h__law_free) (by rfl) A__law_free.m A__law_free.k A__law_free.b .nil pass0 (pa_cons (pv 1) pa_nil)) pa_nil))) pa_nil)) (pa_cons (pv 3) (pa_cons (pv 5) pa_nil)))))
      (pss_cons (ps_for PassesOwn.never rfl (pi_tup (pe_tup (pa_cons (pv 9) (pa_cons (pv 10) pa_nil)))) (pg_name (i := 11) sc__law_others_refused.nd rfl (Or.inl rfl)) (pss_one (ps_if (pt_cmpR op_isnot_bl (pe_call G_is_chain (by exact h_is_chain) (by rfl) A_is_chain.m A_is_chain.k A_is_chain.b .nil pass0 (pa_cons (pv 2) (pa_cons (pv 7) (pa_cons (pv 11) (pa_cons (pv 6) pa_nil))))) pe_bl (nomark _)) (pss_one (ps_ret pe_bl)) pss_nil)))
      (pss_cons (ps_set (i := 12) sc__law_others_refused.nd rfl (Or.inl rfl) (pe_lst (pa_cons pe_non (pa_cons pe_int (pa_cons pe_bl (pa_cons pe_str (pa_cons pe_dnewK (pa_cons (pe_disp (pps_cons pe_int (pe_tup (pa_cons pe_int (pa_cons pe_int (pa_cons pe_int (pa_cons pe_int pa_nil))))) pps_nil) (by rfl) (by rfl) (fun z => by cases z) (by decide)) (pa_cons (pe_lst (pa_cons pe_non pa_nil)) (pa_cons (pe_lst (pa_cons (pe_tup pa_nil) pa_nil)) (pa_cons (pe_lst (pa_cons (pe_tup (pa_cons pe_int (pa_cons pe_int (pa_cons pe_int pa_nil)))) pa_nil)) (pa_cons (pe_tup (pa_cons pe_int (pa_cons pe_int (pa_cons pe_int (pa_cons pe_int pa_nil))))) (pa_cons (pe_lst (pa_cons (pe_lst (pa_cons pe_int (pa_cons pe_int (pa_cons pe_int (pa_cons pe_int pa_nil))))) pa_nil)) pa_nil)))))))))))))
      (pss_one (ps_ret (pe_cmpR (op_eqD hr.units) (pe_lc (own := [("_law_odd", 11)]) rfl sc__law_others_refused.nd (pi_list (pv 12)) (blkOk_by (N := ["_law_pen_here", "_law_letters_here", "_law_sentences", "_law_beginning_here", "_law_word_here", "_law_here", "_law_steps", "_law_first", "_law_ends", "_law_other", "_law_wide", "_law_odd", "_law_some"]) (sc := defScope s__law_others_refused) (by decide +kernel)) (fun _ _ _ _ _ => (pg_name (i := 11) sc__law_others_refused.nd rfl (Or.inl rfl))) (fun _ _ _ _ _ => pts_one (pt_cmpR op_isnot_bl (pe_call G_is_chain (by exact h_is_chain) (by rfl) A_is_chain.m A_is_chain.k A_is_chain.b .nil pass0 (pa_cons (pv 2) (pa_cons (pv 7) (pa_cons (pv 7) (pa_cons (pv 11) pa_nil))))) pe_bl (nomark _))) (fun _ _ _ _ _ => (pv 11))) (pe_lst pa_nil) (nomark _))))))))))), ?_⟩
    have z1 : (100000 : Nat) ≤ sizeLine := by decide
    have py : Plain ys := lts.fit
    have g0 := Go.refl hp
    have yl : 0 < ys.length := lts.l0
    -- the first history
    refine ⟨rfl, _, rfl, fun m md hm hmd hne => let_made lts (.inl (SqL.of hq)) hm hmd hne fun H1 t s1 hM => ⟨rfl, _, rfl, _, rfl, m, t, wa, b, ys, ws, rfl, hM, hb, SqL.of (s1 _ _ hw), wy, by omega, fun H2 x1 s2 h1 => ?_⟩⟩
    have s02 := s1.trans s2
    clear s1 s2 hM hm hmd hne
    have g2 := g0.same s02
    try dsimp only
    -- other ends
    refine ⟨_, rfl, _, rfl, p, c, q, ns, _, ys, 3, rfl, g2.pen, by omega, SqL.of (s02 _ _ hq), by omega, by omega, by decide, by decide, fun H3 L es g3 _ hL le em => ?_⟩
    have g23 := g2.step g3
    have hh3 := g23.lst hh
    have h13 := h1.go g3
    refine ⟨_, rfl, L, ha, _, _, rfl, rfl, hL, hh3, by rw [List.length_map, List.length_map]; omega, fun u hu => ?_⟩
    have s4 := Ask.Same.made1 (o := .lst (es.map V.str ++ zs.map V.str)) (Same.refl H3) hu
    have fu : upd H3 u (.lst (es.map V.str ++ zs.map V.str)) u = some (.lst ((es ++ zs).map V.str)) := by rw [upd_same, List.map_append]
    generalize upd H3 u (.lst (es.map V.str ++ zs.map V.str)) = H4 at s4 fu ⊢
    have en : ∀ z ∈ es ++ zs, z ∈ ys := fun z hz => by
      rcases List.mem_append.mp hz with hz | hz
      · exact em z hz
      · exact zy z hz
    have el : (es ++ zs).length ≤ 40 := by rw [List.length_append]; omega
    have g24 := g23.same s4
    have h14 := h13.same s4
    clear h1 h13 hL
    try dsimp only
    have jl := J_len ws
    refine ⟨_, rfl, _, rfl, rfl, _, rfl, fun m md hm hmd hne => let_made lts (.inl (SqL.of (g24.lst hq))) hm hmd hne fun H5 t s5 hM => ⟨rfl, _, rfl, _, rfl, m, t, u, b, ys, es ++ zs, rfl, hM, hb, SqL.of (s5 _ _ fu), en, by omega, fun H6 x2 s6 h2 => ?_⟩⟩
    have s46 := s5.trans s6
    clear s5 s6 hM hm hmd hne
    have g26 := g24.same s46
    refine ⟨_, rfl, sl, x1, x2, .ref st, ys, ys, b, b, us, ts, J ws, J (es ++ zs), _, rfl, .inl (g26.seq hsl), lu, hT.go g26, tok, py, py, h14.same s46, h2, by omega, nm_J ws, J_ofl wy, J_ofl en, StsV.of (.inl (SqL.of (g26.lst hst))) (hsv.go g26) lo, fun H7 s7 => ?_⟩
    have s47 := s46.trans s7
    have g27 := g24.same s47
    have hc : (decide (ys = ys) && leB b b ts (J ws) (J (es ++ zs)) (some (os.map some))) = decide (es ++ zs = zs) := by
      show (decide (ys = ys) && (decide (b = b) && decide (walkR b ts (J ws) (os.map some) = some (J (es ++ zs))))) = _
      rw [decide_eq_true (show ys = ys from rfl), decide_eq_true (show b = b from rfl), Bool.true_and, Bool.true_and, wk]
      by_cases z : es ++ zs = zs
      · rw [z, decide_eq_true rfl, decide_eq_true rfl]
      · rw [decide_eq_false z, decide_eq_false (fun y => z (J_inj (Option.some.inj y)).symm)]
    rw [hc]
    refine ⟨_, rfl, _, rfl, .list ((es ++ zs).map PyData.str), .list (zs.map PyData.str), .lst (SqL.of (s47 _ _ fu)) (dp_strs _), .lst (SqL.of (g27.lst hh)) (dp_strs _), (fit_strs fun z hz => py _ (en z hz)).shapedL, (fit_strs fun z hz => py _ (zy z hz)).shapedL, ?_⟩
    rw [eqv_strsL]
    refine ⟨rfl, _, rfl, ?_⟩
    rw [decide_eq_true (show V.bl (decide (es ++ zs = zs)) = V.bl (decide (es ++ zs = zs)) from rfl)]
    refine iteF ?_
    have h17 := h14.same s47
    clear h14 hc h2 s46 s47 s7 fu g26
    try dsimp only
    -- the other beginning
    refine ⟨rfl, _, rfl, fun m md hm hmd hne => let_made lts (.inl (SqL.of (g27.lst hq))) hm hmd hne fun H8 t s8 hM => ⟨rfl, ?_⟩⟩
    refine tIf_two (fun v H' => H' = H8 ∧ ∃ b', v = .str b' ∧ b' ≠ b ∧ (b' = "new" ∨ b' = "found")) (fun Q' hQ => ?_) ?_
    · refine ⟨_, rfl, rfl, _, rfl, ite2 (fun z => ?_) (fun z => ?_)⟩
      · have z : b = "found" := V.str.inj (of_decide_eq_true z)
        exact hQ _ _ ⟨rfl, "new", rfl, by rw [z]; decide, .inl rfl⟩
      · have z : ¬ b = "found" := fun y => z (decide_eq_true (congrArg V.str y))
        exact hQ _ _ ⟨rfl, "found", rfl, fun y => z y.symm, .inr rfl⟩
    rintro v H8 ⟨rfl, b', rfl, nb, hb'⟩
    refine ⟨_, rfl, m, t, ha, b', ys, zs, rfl, hM, hb', SqL.of (s8 _ _ (g27.lst hh)), zy, by omega, fun H9 x3 s9 h3 => ?_⟩
    have s79 := s8.trans s9
    have g29 := g27.same s79
    have h19 := h17.same s79
    clear s8 s9 hM hm hmd hne h17 s79
    try dsimp only
    -- one letter more
    refine ⟨rfl, _, rfl, _, rfl, q, ys, rfl, SqL.of (g29.lst hq), by omega, fun Ha z sa n1 n2 n3 n4 => ⟨by show 1 ≤ sizeLine; decide, fun u1 hu1 => ?_⟩⟩
    have fu1 : upd Ha u1 (.lst [.str z]) u1 = some (.lst [.str z]) := upd_same
    have sb := Ask.Same.made1 (o := .lst [.str z]) sa hu1
    generalize upd Ha u1 (.lst [.str z]) = Hb at fu1 sb ⊢
    refine ⟨q, u1, _, _, rfl, rfl, sb _ _ (g29.lst hq), fu1, by rw [List.length_map]; show ys.length + 1 ≤ sizeLine; omega, fun u2 hu2 => ?_⟩
    have fu2 : upd Hb u2 (.lst (ys.map V.str ++ [.str z])) u2 = some (.lst ((ys ++ [z]).map V.str)) := by rw [upd_same, List.map_append]; rfl
    have sc := Ask.Same.made1 (o := .lst (ys.map V.str ++ [.str z])) sb hu2
    generalize upd Hb u2 (.lst (ys.map V.str ++ [.str z])) = Hc at fu2 sc ⊢
    have ltz : Lts (ys ++ [z]) := lts.more n1 n2 n3 n4 (by omega)
    have pyz : Plain (ys ++ [z]) := ltz.fit
    refine fun m' md' hm' hmd' hne' => let_made ltz (.inl (SqL.of fu2)) hm' hmd' hne' fun Hd t' sd hM' => ⟨rfl, ?_⟩
    have sd9 := sc.trans sd
    have g2d := g29.same sd9
    refine ⟨_, rfl, _, rfl, m', t', ha, b, ys ++ [z], zs, rfl, hM', hb, SqL.of (g2d.lst hh), fun x hx => List.mem_append_left _ (zy x hx), by omega, fun He x4 se h4 => ?_⟩
    have s9e := sd9.trans se
    have g2e := g29.same s9e
    have h1e := h19.same s9e
    have h3e := h3.same s9e
    clear h19 h3 s9e sd9 sd sc sb sa hM' hm' hmd' hne' fu1 fu2 g2d
    try dsimp only
    -- both are refused
    refine ⟨_, rfl, _, rfl, by show 2 ≤ sizeLine; decide, fun tp htp => ?_⟩
    have st2 := Ask.Same.made1 (o := .tup [.ref x3, .ref x4]) (Same.refl He) htp
    have ftp : upd He tp (.tup [.ref x3, .ref x4]) tp = some (.tup [.ref x3, .ref x4]) := upd_same
    generalize upd He tp (.tup [.ref x3, .ref x4]) = Hf at st2 ftp ⊢
    have jz := J_len zs
    refine ⟨tp, rfl, ⟨_, SqT.of ftp⟩, ?_⟩
    have g2f := g2e.same st2
    have h1f := h1e.same st2
    have h3f := h3e.same st2
    have h4f := h4.same st2
    refine for_it (walk_tup (xs := [V.ref x3, .ref x4])) (fun j σ' H' => ∃ o11 o12 : Option V, σ' = [some (.ref p), some (.ref q), some (.ref sl), some (.str b), some (.ref wa), some (.ref ha), some (.ref st), some (.ref x1), some (.ref u), some (.ref x3), some (.ref x4), o11, o12] ∧ Same Hf H') ⟨_, _, rfl, Same.refl _⟩ (fun j σ' H' _ ⟨_, _, _, e⟩ => seqT_same e (SqT.of ftp)) ?_ ?_
    · rintro j v σ' Hg Hh hj ⟨o11, o12, rfl, sg⟩ ⟨rfl, hv⟩
      have gg := g2f.same sg
      have h1g := h1f.same sg
      have no : spChain K CL CH CS [.ref sl, .ref x1, v, .ref st] Hh (fun r H' => r = .bl false ∧ Same Hh H') E0 := by
        match j, hv with
        | 0, hv =>
          cases hv
          refine ⟨sl, x1, x3, .ref st, ys, ys, b, b', us, ts, J ws, J zs, _, rfl, .inl (gg.seq hsl), lu, hT.go gg, tok, py, py, h1g, h3f.same sg, by omega, nm_J ws, J_ofl wy, J_ofl zy, StsV.of (.inl (SqL.of (gg.lst hst))) (hsv.go gg) lo, fun H' s' => ⟨?_, s'⟩⟩
          show V.bl (decide (ys = ys) && (decide (b = b') && _)) = _
          rw [decide_eq_false (show ¬ b = b' from fun z => nb z.symm), Bool.false_and, Bool.and_false]
        | 1, hv =>
          cases hv
          refine ⟨sl, x1, x4, .ref st, ys, ys ++ [z], b, b, us, ts, J ws, J zs, _, rfl, .inl (gg.seq hsl), lu, hT.go gg, tok, py, pyz, h1g, h4f.same sg, by omega, nm_J ws, J_ofl wy, J_ofl (fun x hx => List.mem_append_left _ (zy x hx)), StsV.of (.inl (SqL.of (gg.lst hst))) (hsv.go gg) lo, fun H' s' => ⟨?_, s'⟩⟩
          rw [decide_eq_false (fun w => by have := congrArg List.length w; rw [List.length_append] at this; simp at this), Bool.false_and]
        | w + 2, hv => simp at hv
      refine ⟨_, rfl, _, rfl, _, rfl, _, rfl, ?_⟩
      delta tNil
      refine chain_mono no fun r H' hr => ?_
      obtain ⟨rfl, s'⟩ := hr
      exact ⟨false, false, rfl, rfl, _, rfl, iteF ⟨_, _, rfl, sg.trans s'⟩⟩
    · rintro σ' Hg ⟨o11, o12, rfl, sg⟩
      have gg := g2f.same sg
      have h1g := h1f.same sg
      clear h1f h3f h4f h1e h3e h4 ftp st2 g2f g2e g29 g27 g24 g23 g2
      try dsimp only
      -- odd values
      have mk : ∀ {H1 : Hp} {a : Addr} {o : HO}, H1 a = none → Same H1 (upd H1 a o) := fun h => Ask.Same.made1 (Same.refl _) h
      refine fun u1 hu1 => ?_
      have e1 := mk (o := .dK []) hu1
      have f1 : upd Hg u1 (.dK []) u1 = some (.dK []) := upd_same
      generalize upd Hg u1 (.dK []) = Hi at e1 f1 ⊢
      refine fun u2 hu2 => ⟨by show 4 ≤ sizeLine; decide, fun u3 hu3 => ?_⟩
      have e2 := (mk (o := .dK []) hu2).trans (mk (o := .tup [.int 0, .int 0, .int 1, .int 1]) hu3)
      have f2 : upd (upd Hi u2 (.dK [])) u3 (.tup [.int 0, .int 0, .int 1, .int 1]) u2 = some (.dK []) := mk hu3 _ _ upd_same
      generalize upd (upd Hi u2 (.dK [])) u3 (.tup [.int 0, .int 0, .int 1, .int 1]) = Hj at e2 f2 ⊢
      refine ⟨f2, [(.inl 0, .ref u3)], rfl, by show 1 ≤ 15; decide, ?_⟩
      have hu2' : Hi u2 = none := hu2
      have e2' : Same Hi (upd Hj u2 (.dK (mergeK [] [((.inl 0 : Key), V.ref u3)]))) := Ask.Same.upd_new e2 hu2'
      have f2' : upd Hj u2 (.dK (mergeK [] [((.inl 0 : Key), V.ref u3)])) u2 = some (.dK (mergeK [] [((.inl 0 : Key), V.ref u3)])) := upd_same
      generalize mergeK [] [((.inl 0 : Key), V.ref u3)] = kvs at e2' f2' ⊢
      generalize upd Hj u2 (.dK kvs) = Hk at e2' f2' ⊢
      refine ⟨by show 1 ≤ sizeLine; omega, fun a1 ha1 => ?_⟩
      have ea1 := mk (o := .lst [.non]) ha1
      have fa1 : upd Hk a1 (.lst [.non]) a1 = some (.lst [.non]) := upd_same
      generalize upd Hk a1 (.lst [.non]) = Ka1 at ea1 fa1 ⊢
      refine ⟨Nat.zero_le _, fun a2 ha2 => ?_⟩
      have ea2 := mk (o := .tup []) ha2
      have fa2 : upd Ka1 a2 (.tup []) a2 = some (.tup []) := upd_same
      generalize upd Ka1 a2 (.tup []) = Ka2 at ea2 fa2 ⊢
      refine ⟨by show 1 ≤ sizeLine; omega, fun a3 ha3 => ?_⟩
      have ea3 := mk (o := .lst [.ref a2]) ha3
      have fa3 : upd Ka2 a3 (.lst [.ref a2]) a3 = some (.lst [.ref a2]) := upd_same
      generalize upd Ka2 a3 (.lst [.ref a2]) = Ka3 at ea3 fa3 ⊢
      refine ⟨by show 3 ≤ sizeLine; omega, fun a4 ha4 => ?_⟩
      have ea4 := mk (o := .tup [.int 0, .int 0, .int 1]) ha4
      have fa4 : upd Ka3 a4 (.tup [.int 0, .int 0, .int 1]) a4 = some (.tup [.int 0, .int 0, .int 1]) := upd_same
      generalize upd Ka3 a4 (.tup [.int 0, .int 0, .int 1]) = Ka4 at ea4 fa4 ⊢
      refine ⟨by show 1 ≤ sizeLine; omega, fun a5 ha5 => ?_⟩
      have ea5 := mk (o := .lst [.ref a4]) ha5
      have fa5 : upd Ka4 a5 (.lst [.ref a4]) a5 = some (.lst [.ref a4]) := upd_same
      generalize upd Ka4 a5 (.lst [.ref a4]) = Ka5 at ea5 fa5 ⊢
      refine ⟨by show 4 ≤ sizeLine; omega, fun a6 ha6 => ?_⟩
      have ea6 := mk (o := .tup [.int 0, .int 0, .int 1, .int 1]) ha6
      have fa6 : upd Ka5 a6 (.tup [.int 0, .int 0, .int 1, .int 1]) a6 = some (.tup [.int 0, .int 0, .int 1, .int 1]) := upd_same
      generalize upd Ka5 a6 (.tup [.int 0, .int 0, .int 1, .int 1]) = Ka6 at ea6 fa6 ⊢
      refine ⟨by show 4 ≤ sizeLine; omega, fun a7 ha7 => ?_⟩
      have ea7 := mk (o := .lst [.int 0, .int 0, .int 1, .int 0]) ha7
      have fa7 : upd Ka6 a7 (.lst [.int 0, .int 0, .int 1, .int 0]) a7 = some (.lst [.int 0, .int 0, .int 1, .int 0]) := upd_same
      generalize upd Ka6 a7 (.lst [.int 0, .int 0, .int 1, .int 0]) = Ka7 at ea7 fa7 ⊢
      refine ⟨by show 1 ≤ sizeLine; omega, fun a8 ha8 => ?_⟩
      have ea8 := mk (o := .lst [.ref a7]) ha8
      have fa8 : upd Ka7 a8 (.lst [.ref a7]) a8 = some (.lst [.ref a7]) := upd_same
      generalize upd Ka7 a8 (.lst [.ref a7]) = Ka8 at ea8 fa8 ⊢
      refine ⟨by show 11 ≤ sizeLine; omega, fun a9 ha9 => ?_⟩
      have ea9 := mk (o := .lst [.non, .int 5, .bl true, .str "steps", .ref u1, .ref u2, .ref a1, .ref a3, .ref a5, .ref a6, .ref a8]) ha9
      have fa9 : upd Ka8 a9 (.lst [.non, .int 5, .bl true, .str "steps", .ref u1, .ref u2, .ref a1, .ref a3, .ref a5, .ref a6, .ref a8]) a9 = some (.lst [.non, .int 5, .bl true, .str "steps", .ref u1, .ref u2, .ref a1, .ref a3, .ref a5, .ref a6, .ref a8]) := upd_same
      generalize upd Ka8 a9 (.lst [.non, .int 5, .bl true, .str "steps", .ref u1, .ref u2, .ref a1, .ref a3, .ref a5, .ref a6, .ref a8]) = Ka9 at ea9 fa9 ⊢
      have r8 := ea9
      have r7 := ea8.trans r8
      have r6 := ea7.trans r7
      have r5 := ea6.trans r6
      have r4 := ea5.trans r5
      have r3 := ea4.trans r4
      have r2 := ea3.trans r3
      have r1 := ea2.trans r2
      have r0 := ea1.trans r1
      have s9 : Same Hg Ka9 := (e1.trans e2').trans r0
      have odd : ∀ v ∈ ([.non, .int 5, .bl true, .str "steps", .ref u1, .ref u2, .ref a1, .ref a3, .ref a5, .ref a6, .ref a8] : List V), ∃ oo, StsV K Ka9 v oo ∧ leB b b ts (J ws) (J ws) oo = false := fun v hv => by
        have one : ∀ {a : Addr} {x : V} {o : Option Stp}, Ka9 a = some (.lst [x]) → StV K Ka9 x o → stepO b ts (J ws) o = none → ∃ oo, StsV K Ka9 (.ref a) oo ∧ leB b b ts (J ws) (J ws) oo = false := fun h e n => ⟨_, sts_one h e, le_none (walk_none n)⟩
        have nost : stepO b ts (J ws) none = none := rfl
        simp only [List.mem_cons, List.not_mem_nil, or_false] at hv
        rcases hv with rfl | rfl | rfl | rfl | rfl | rfl | rfl | rfl | rfl | rfl | rfl
        · exact ⟨none, sts_odd (.inl rfl), rfl⟩
        · exact ⟨none, sts_odd (.inr (.inl ⟨_, rfl⟩)), rfl⟩
        · exact ⟨none, sts_odd (.inr (.inr (.inl ⟨_, rfl⟩))), rfl⟩
        · exact ⟨none, sts_odd (.inr (.inr (.inr (.inl ⟨_, rfl⟩)))), rfl⟩
        · exact ⟨none, sts_odd (.inr (.inr (.inr (.inr ⟨u1, _, rfl, (e2'.trans r0) _ _ f1⟩)))), rfl⟩
        · exact ⟨none, sts_odd (.inr (.inr (.inr (.inr ⟨u2, _, rfl, r0 _ _ f2'⟩)))), rfl⟩
        · exact one (r1 _ _ fa1) (.inr ⟨rfl, odd_not (.inl rfl)⟩) nost
        · exact one (r3 _ _ fa3) (.inl ⟨a2, [], rfl, .inr (SqT.of (r2 _ _ fa2)), (fun x hx => by cases hx), rfl⟩) nost
        · exact one (r5 _ _ fa5) (.inl ⟨a4, _, rfl, .inr (SqT.of (r4 _ _ fa4)), fun x hx => by
            simp only [List.mem_cons, List.not_mem_nil, or_false] at hx
            rcases hx with rfl | rfl | rfl <;> exact .inr (.inr (.inl ⟨_, rfl⟩)), rfl⟩) nost
        · refine ⟨_, .inl ⟨a6, _, [none, none, none, none], rfl, .inr (SqT.of (r6 _ _ fa6)), rfl, by show 4 ≤ 100; decide, fun i x o h1 h2 => ?_, rfl⟩, le_none (walk_none nost)⟩
          have ex : ∃ i : Int, x = .int i := by
            have hm := List.mem_of_getElem? h1
            simp only [List.mem_cons, List.not_mem_nil, or_false] at hm
            rcases hm with rfl | rfl | rfl | rfl <;> exact ⟨_, rfl⟩
          have eo : o = none := by
            have hm := List.mem_of_getElem? h2
            simp only [List.mem_cons, List.not_mem_nil, or_false] at hm
            rcases hm with rfl | rfl | rfl | rfl <;> rfl
          subst eo
          exact .inr ⟨rfl, odd_not (.inr (.inl ex))⟩
        · refine one (r8 _ _ fa8) (.inl ⟨a7, _, rfl, .inl (SqL.of (r7 _ _ fa7)), fun x hx => by
            simp only [List.mem_cons, List.not_mem_nil, or_false] at hx
            rcases hx with rfl | rfl | rfl | rfl <;> exact .inr (.inr (.inl ⟨_, rfl⟩)), rfl⟩) ?_
          show (if stB (some (0, 0, 1, 0)) (ts.length : Nat) = true then _ else none) = none
          rw [if_neg]
          simp [stB]
      have gk := gg.same s9
      have h1k := h1g.same s9
      clear ea9 ea8 ea7 ea6 ea5 ea4 ea3 ea2 ea1 r0 r1 r2 r3 r4 r5 r6 r7 r8 e1 e2 e2' f1 f2 f2' fa1 fa2 fa3 fa4 fa5 fa6 fa7 fa8
      generalize hL : ([.non, .int 5, .bl true, .str "steps", .ref u1, .ref u2, .ref a1, .ref a3, .ref a5, .ref a6, .ref a8] : List V) = xs at fa9 odd
      try dsimp only
      refine ⟨_, rfl, a9, rfl, ⟨_, SqL.of fa9⟩, fun D hD => ?_⟩
      refine lc_list (K := K) (a := a9) (xs := xs) (fun i H' => Same Ka9 H' ∧ H' D = some (.lst [])) ⟨Ask.Same.upd_new (Same.refl Ka9) hD, upd_same⟩ (fun i H' _ hh => hh.1.seq (SqL.of fa9)) ?_ ?_
      · rintro i v Hm hv ⟨sm, eD⟩
        obtain ⟨oo, o1, o2⟩ := odd v (List.mem_of_getElem? hv)
        have gm := gk.same sm
        refine ⟨rfl, _, rfl, _, rfl, _, rfl, _, rfl, sl, x1, x1, v, ys, ys, b, b, us, ts, J ws, J ws, oo, rfl, .inl (gm.seq hsl), lu, hT.go gm, tok, py, py, h1k.same sm, h1k.same sm, by omega, nm_J ws, J_ofl wy, J_ofl wy, o1.same sm, fun H' s' => ?_⟩
        rw [o2, Bool.and_false]
        exact ⟨false, false, rfl, rfl, _, rfl, iteF ⟨sm.trans s', s' _ _ eD⟩⟩
      · rintro Hm ⟨sm, eD⟩
        refine ⟨Nat.zero_le _, fun w hw => ?_⟩
        have sn := Ask.Same.made1 (o := .lst []) sm hw
        have eD2 : upd Hm w (.lst []) D = some (.lst []) := by rw [upd_ne (ne_of_none eD hw)]; exact eD
        refine ⟨.list [], .list [], .lst (SqL.of eD2) .nil, .lst (SqL.of upd_same) .nil, shaped_of rfl (by decide), shaped_of rfl (by decide), ?_⟩
        rw [show PyData.eqv (.list []) (.list []) = true from rfl]
        exact k _ ((gk.same sn).mono (by omega))
end
end Ask

namespace Ask
open PySem L2
section
variable {P : Program} {w : World} {K : PySem.W.Frag} {mg : Str → Option Value} {base : Heap}
def spWord0 (K : PySem.W.Frag) (CL CH : Addr) : Sp := fun vs H Q _ => ∃ (p : Addr) (ys : List Str) (b : Str) (rs : List Run), vs = [.ref p] ∧ HistAt K CL CH H p ys b rs ∧ (∀ r ∈ rs, 0 ≤ r.2) ∧ sizeR rs ≤ 2000 ∧ ∀ (H' : Hp) (l : Addr), Same H H' → H' l = some (.tup ((plainR rs).map V.str)) → Q (.ref l) H'
theorem ok_word0 {f CL CH : Addr} {fd : FuncData} (F : Fun K "word" "History.word" s_Word f fd) (T : Blt mg) (hC : HsC K CH) (mM : ∃ u, mg "MOST_SPELLED" = some u ∧ RelV (.int 2000) u) :
    FnOk P w K mg base CX0 1 f fd ["self"] (spWord0 K CL CH) := by
  refine F.ok sc_Word (fun vs H Q E h => ?_) (fun cdv A outer s H vs Q E hr h => ?_)
  · obtain ⟨p, ys, b, rs, rfl, _⟩ := h
    rfl
  · obtain ⟨p, ys, b, rs, rfl, ⟨dx, m, t, c, ks, hp, hM, hc, hks⟩, hpos, hsz, k⟩ := h
    refine ⟨_, (pss_cons (ps_if (pt_cmpR op_gt (pe_fld (pv 0) rfl) (pe_gv rfl mM) (nomark _)) pss_never pss_nil)
      (pss_one (ps_ret (pe_callTy call_tuple_of (by rfl) T.n_tuple (by decide +kernel) (pa_cons (pe_lc2 (own := [("letter", 1), ("count", 2), ("_", 3)]) (vs1 := [3]) rfl sc_Word.nd (pi_tup (pe_fld (pv 0) rfl)) (blkOk_by (N := ["self", "letter", "count", "_"]) (sc := defScope s_Word) (by decide +kernel)) (by decide) (fun _ _ _ _ _ => (show PG _ _ (gTup K 2 _) from pg_tup rfl (pgs_cons (pg_name (i := 1) sc_Word.nd rfl (Or.inl rfl)) (pgs_cons (pg_name (i := 2) sc_Word.nd rfl (Or.inl rfl)) pgs_nil)))) (fun _ _ _ _ _ => pts_nil)
        (fun _ _ _ _ _ => pi_range1 rfl T.n_range (pa_cons (pv 2) pa_nil)) (fun _ _ _ _ _ => pg_name (i := 3) sc_Word.nd rfl (Or.inl rfl)) (fun _ _ _ _ _ => pts_nil) (fun _ _ _ _ _ => (pv 1))) pa_nil))))), ?_⟩
    have z1 : (100000 : Nat) ≤ sizeLine := by decide
    have el := hks.1
    refine ⟨_, rfl, p, CH, dx, _, _, rfl, hp, hC.c, hC.a4, rfl, _, _, rfl, rfl, _, rfl, ?_⟩
    rw [decide_eq_false (by omega)]
    refine iteF ?_
    have q := hsz
    · dsimp only [tNext]
      refine ret_cb ?_
      have fits : ∀ (R : It → Hp → Prop), R (Itt K c) H → iTup K (tFld K (tVar 0) "runs") [some (.ref p), none, none, none] H R := fun R r => ⟨_, rfl, p, CH, dx, _, _, rfl, hp, hC.c, hC.a3, rfl, c, rfl, ⟨_, hc⟩, r⟩
      refine lc2_it fits walk_tup fun D hD => ⟨fun i H' => Same H H' ∧ H' D = some (.lst ((plainR (rs.take i)).map V.str)), ⟨Ask.Same.upd_new (Same.refl _) hD, upd_same⟩, fun i H' _ hh => seqT_same hh.1 hc, ?_, ?_⟩
      · rintro i x H2 H3 hi ⟨s2, hD2⟩ ⟨rfl, hx⟩
        obtain ⟨r, hri⟩ : ∃ r, rs[i]? = some r := ⟨_, List.getElem?_eq_getElem (by omega)⟩
        obtain ⟨u, rfl, hu⟩ := hks.2 i x r hx hri
        have hr0 := hpos r (List.mem_of_getElem? hri)
        have hr1 := count_le hpos (List.mem_of_getElem? hri)
        have hl := plainR_len (rs := rs.take i) fun x hx => hpos x (List.mem_of_mem_take hx)
        have hl2 := sizeR_take hpos i
        refine ⟨u, _, rfl, SqT.of (s2 _ _ hu), rfl, _, _, rfl, _, _, rfl, rfl, rfl, _, rfl, r.2, rfl, by omega, by omega, ?_⟩
        refine in2_it walk_range (fun j H' => Same H H' ∧ H' D = some (.lst ((plainR (rs.take i) ++ List.replicate j r.1).map V.str))) ⟨s2, by rw [List.replicate_zero, List.append_nil]; exact hD2⟩ (fun _ _ _ _ => trivial) ?_ ?_
        · rintro j x H4 H5 hj ⟨s4, hD4⟩ ⟨rfl, rfl⟩
          refine ⟨rfl, _, rfl, _, hD4, ?_, Ask.Same.upd_new s4 hD, ?_⟩
          · rw [List.length_map, List.length_append, List.length_replicate]
            omega
          · rw [upd_same, List.replicate_succ', ← List.append_assoc, List.map_append (l₂ := [r.1])]
            rfl
        · rintro H4 ⟨s4, hD4⟩
          exact ⟨s4, by rw [plainR_more hri]; exact hD4⟩
      · rintro H2 ⟨s2, hD2⟩
        rw [el, List.take_length] at hD2
        exact ⟨D, _, rfl, .inl ⟨SqL.of hD2, fun t ht => k _ t (Ask.Same.made1 s2 ht) upd_same⟩⟩
end
end Ask

set_option maxHeartbeats 8000000
namespace Ask
open PySem L2 ClX
theorem ElB.mono {N M : Int} {H : Hp} {v : V} (h : ElB N H v) (le : N ≤ M) : ElB M H v := by
  rcases h with ⟨a, xs, e, k, l, f⟩ | h
  · exact .inl ⟨a, xs, e, k, l, fun x hx => (f x hx).mono le⟩
  · exact .inr h
theorem el_isl {K : PySem.W.Frag} {H : Hp} {N : Int} {v : V} (h : ElB N H v) : ∃ t b, TyX K H v t ∧ PySem.W.kitOne K t (.type "list") = some b ∧ (b = true → ∃ (a : Addr) (xs : List V), v = .ref a ∧ H a = some (.lst xs) ∧ ∀ x ∈ xs, FlN N x) := by
  rcases h with ⟨a, xs, rfl, k | k, l, f⟩ | rfl | rfl | rfl | ⟨a, rfl, e⟩
  · exact ⟨_, _, ty_list (SqL.of k), kit_ty (by show kitB "list" "list" = some true; decide +kernel), fun _ => ⟨a, xs, rfl, k, f⟩⟩
  · exact ⟨_, _, ty_tup (SqT.of k), kit_ty (by show kitB "tuple" "list" = some false; decide +kernel), fun z => by cases z⟩
  · exact ⟨_, _, .base .non, kit_ty (by show kitB "NoneType" "list" = some false; decide +kernel), fun z => by cases z⟩
  · exact ⟨_, _, .base (.int 5), kit_ty (by show kitB "int" "list" = some false; decide +kernel), fun z => by cases z⟩
  · exact ⟨_, _, .base (.str _), kit_ty (by show kitB "str" "list" = some false; decide +kernel), fun z => by cases z⟩
  · exact ⟨_, _, .base (.dK e), kit_ty (by show kitB "dict" "list" = some false; decide +kernel), fun z => by cases z⟩
theorem stOf_int4 {N : Int} {xs : List V} {s : Stp} (h : stOf xs = some s) (f : ∀ x ∈ xs, FlN N x) : Int4 N xs := by
  obtain ⟨r, p, w, t⟩ := s
  have e := stOf_some h
  subst e
  refine ⟨r, p, w, t, rfl, fun x hx => ?_⟩
  have hm : V.int x ∈ [r, p, w, t].map V.int := List.mem_map.mpr ⟨x, hx, rfl⟩
  rcases f _ hm with h | ⟨b, h⟩ | ⟨i, h, h1, h2⟩ | h
  · cases h
  · cases h
  · cases h
    exact ⟨h1, h2⟩
  · cases h
theorem steps_of {K : PySem.W.Frag} {H : Hp} {m : Nat} {vs : List V} {os : List Stp} (h : StpsV H vs os) (ok : ∀ o ∈ os, StpOk m o) (hm : m ≤ 100) : Steps4 K 100 H vs := fun v hv => by
  obtain ⟨i, hi⟩ := List.getElem?_of_mem hv
  obtain ⟨o, ho⟩ : ∃ o, os[i]? = some o := ⟨_, List.getElem?_eq_getElem (by rw [← h.1]; exact (List.getElem?_eq_some_iff.mp hi).1)⟩
  obtain ⟨q, rfl, hq⟩ := h.2 i v o hi ho
  obtain ⟨r0, r1, p0, p1, w0, t0⟩ := ok o (List.mem_of_getElem? ho)
  refine ⟨q, _, rfl, .inr (SqT.of hq), _, _, _, _, rfl, fun x hx => ?_⟩
  simp only [List.mem_cons, List.not_mem_nil, or_false] at hx
  rcases hx with rfl | rfl | rfl | rfl <;> omega
theorem drs_ok {ys : List Str} {ts : List TriS} (h : ∀ t ∈ ts, DrOk ys t.1 t.2.1 t.2.2) : ∀ t ∈ ts, TriOk ys t := fun t ht => ⟨(h t ht).1, (h t ht).2.1, (h t ht).2.2.1⟩
theorem SenAt.mut {K : PySem.W.Frag} {CL CS p D : Addr} {H : Hp} {xs xs' : List V} {ys : List Str} {k x : Str} {s : V} (h : SenAt K CL CS H p ys k x s) (e : H D = some (.lst xs)) : SenAt K CL CS (upd H D (.lst xs')) p ys k x s := by
  obtain ⟨dx, m, t, h1, dx', o, h2, h3, h4⟩ := h
  exact ⟨dx, m, t, by rw [upd_ne (fun z => by rw [z, e] at h1; cases h1)]; exact h1, dx', o, by rw [upd_ne (fun z => by rw [z, e] at h2; cases h2)]; exact h2, by rw [upd_ne (fun z => by rw [z, e] at h3; cases h3)]; exact h3, h4⟩
theorem SensL.mut {K : PySem.W.Frag} {CL CS D : Addr} {H : Hp} {xs xs' : List V} {ys : List Str} {vs : List V} {ts : List TriS} (h : SensL K CL CS H ys vs ts) (e : H D = some (.lst xs)) : SensL K CL CS (upd H D (.lst xs')) ys vs ts :=
  ⟨h.1, fun i v t h1 h2 => let ⟨p, e1, q⟩ := h.2 i v t h1 h2; ⟨p, e1, q.mut e⟩⟩
theorem SensL.app {K : PySem.W.Frag} {CL CS p : Addr} {H : Hp} {ys : List Str} {vs : List V} {ts : List TriS} {t : TriS} (h : SensL K CL CS H ys vs ts) (g : SenAt K CL CS H p ys t.1 t.2.1 t.2.2) : SensL K CL CS H ys (vs ++ [.ref p]) (ts ++ [t]) := by
  refine ⟨by rw [List.length_append, List.length_append, h.1]; rfl, fun i v t' h1 h2 => ?_⟩
  rcases Nat.lt_or_ge i vs.length with l | l
  · rw [List.getElem?_append_left l] at h1
    rw [List.getElem?_append_left (by rw [← h.1]; exact l)] at h2
    exact h.2 i v t' h1 h2
  · rw [List.getElem?_append_right l] at h1
    rw [List.getElem?_append_right (by rw [← h.1]; exact l), ← h.1] at h2
    cases e : i - vs.length with
    | zero => rw [e] at h1 h2; cases h1; cases h2; exact ⟨p, rfl, g⟩
    | succ i => rw [e] at h1; simp at h1
section
variable {P : Program} {w : World} {K : PySem.W.Frag} {mg : Str → Option Value} {base : Heap}
abbrev s_law : Stmt := top 87
theorem sc_law : FnScope ["_law_script", "_law_pen_here", "_law_turn", "_law_letters_here", "_law_told_here", "_law_sentences", "_law_beginning_here", "_law_word_here", "_law_here", "_law_steps", "_law_first", "_law_last", "_law_runs", "_law_ends", "_law_again", "_law_bent", "_law_plain", "_law_given", "_law_due", "_law_triple", "_law_step"] ["_law_script"] (defScope s_law) := ⟨rfl, rfl, rfl, by decide +kernel, rfl, by decide +kernel, by decide +kernel⟩
theorem run_law {f a f0 f1 f2 f3 f4 f5 f6 f7 f8 f9 fa fb fc fd' fe ff fL fP fPl fW CL CS CH CE CM : Addr} {mc : Value} {fd fd0 fd1 fd2 fd3 fd4 fd5 fd6 fd7 fd8 fd9 fda fdb fdc fdd fde fdf fdL fdP fdW : FuncData} {A : Around} {outer : List Env} {s : Shared} {H : Hp} {ns : List Int}
    (F : Fun K "law" "law" s_law f fd) (T : Blt mg) (hH : HsC K CH)
    (G__law_pen : FnOk P w K mg base CX0 1 f0 fd0 ["_law_script"] (spPen K)) (A__law_pen : At K mg "_law_pen" f0 fd0 ["_law_script"])
    (G__law_draw : FnOk P w K mg base CX0 1 f1 fd1 ["_law_pen_here", "_law_many"] spDraw) (A__law_draw : At K mg "_law_draw" f1 fd1 ["_law_pen_here", "_law_many"])
    (G__law_letters : FnOk P w K mg base CX0 3 f2 fd2 ["_law_pen_here", "_law_many"] spLettersD) (A__law_letters : At K mg "_law_letters" f2 fd2 ["_law_pen_here", "_law_many"])
    (G__law_normals : FnOk P w K mg base CX0 2 f3 fd3 ["_law_letters_here", "_law_told_here"] (spNormals K)) (A__law_normals : At K mg "_law_normals" f3 fd3 ["_law_letters_here", "_law_told_here"])
    (G__law_drawn : FnOk P w K mg base CX0 3 f4 fd4 ["_law_pen_here", "_law_letters_here"] (spDrawn K)) (A__law_drawn : At K mg "_law_drawn" f4 fd4 ["_law_pen_here", "_law_letters_here"])
    (G__law_told : FnOk P w K mg base CX0 4 f5 fd5 ["_law_pen_here", "_law_letters_here", "_law_highest"] (spLTold K)) (A__law_told : At K mg "_law_told" f5 fd5 ["_law_pen_here", "_law_letters_here", "_law_highest"])
    (G__law_sentence : FnOk P w K mg base CX0 9 f6 fd6 ["_law_letters_here", "_law_triple"] (spSent K CL CS)) (A__law_sentence : At K mg "_law_sentence" f6 fd6 ["_law_letters_here", "_law_triple"])
    (G__law_beginning : FnOk P w K mg base CX0 2 f7 fd7 ["_law_pen_here"] spBeg) (A__law_beginning : At K mg "_law_beginning" f7 fd7 ["_law_pen_here"])
    (G__law_word : FnOk P w K mg base CX0 3 f8 fd8 ["_law_pen_here", "_law_letters_here", "_law_highest"] (spLWord K)) (A__law_word : At K mg "_law_word" f8 fd8 ["_law_pen_here", "_law_letters_here", "_law_highest"])
    (G__law_wander : FnOk P w K mg base CX0 3 f9 fd9 ["_law_pen_here", "_law_told_here", "_law_beginning_here", "_law_word_here", "_law_highest"] (spWander K)) (A__law_wander : At K mg "_law_wander" f9 fd9 ["_law_pen_here", "_law_told_here", "_law_beginning_here", "_law_word_here", "_law_highest"])
    (G_is_chain : FnOk P w K mg base CX0 5 fa fda ["sentences", "first", "last", "steps"] (spChain K CL CH CS)) (A_is_chain : At K mg "is_chain" fa fda ["sentences", "first", "last", "steps"])
    (G__law_as_runs : FnOk P w K mg base CX0 2 fb fdb ["_law_word_here"] (spAsRuns K)) (A__law_as_runs : At K mg "_law_as_runs" fb fdb ["_law_word_here"])
    (G__law_spoilt : FnOk P w K mg base CX0 3 fc fdc ["_law_pen_here", "_law_steps", "_law_many"] (spSpoilt K)) (A__law_spoilt : At K mg "_law_spoilt" fc fdc ["_law_pen_here", "_law_steps", "_law_many"])
    (G__law_is_step : FnOk P w K mg base CX0 1 fd' fdd ["_law_step", "_law_many"] (spLIsStep K)) (A__law_is_step : At K mg "_law_is_step" fd' fdd ["_law_step", "_law_many"])
    (G__law_is_led : FnOk P w K mg base CX0 5 fe fde ["_law_triples", "_law_beginning_here", "_law_runs", "_law_steps", "_law_last"] (spIsLed K)) (A__law_is_led : At K mg "_law_is_led" fe fde ["_law_triples", "_law_beginning_here", "_law_runs", "_law_steps", "_law_last"])
    (G__law_others_refused : FnOk P w K mg base CX0 8 ff fdf ["_law_pen_here", "_law_letters_here", "_law_sentences", "_law_beginning_here", "_law_word_here", "_law_here", "_law_steps"] (spOthers K CL CH CS)) (A__law_others_refused : At K mg "_law_others_refused" ff fdf ["_law_pen_here", "_law_letters_here", "_law_sentences", "_law_beginning_here", "_law_word_here", "_law_here", "_law_steps"])
    (ML : Mk K CL fL) (mL : mg "Letters" = some (.ref CL)) (bL : Binds K fdL ["self", "words"] []) (GL : FnOk P w K mg base (L2.CX P w) 4 fL fdL ["self", "words"] (spLet K CL CE CM))
    (GP : FnOk P w K mg base CX0 7 fP fdP ["cls", "letters", "beginning", "word"] (spSpelled K CL CH)) (bP : Binds K fdP ["cls", "letters", "beginning", "word"] []) (rP : CRead K CH mc) (cP : CMet K CH mc "spelled" fPl fP) (mH : mg "History" = some (.ref CH))
    (GW : FnOk P w K mg base CX0 1 fW fdW ["self"] (spWord0 K CL CH)) (bW : Binds K fdW ["self"] []) (mW : Meth K CH "word" fW)
    (hg : A.guards = some []) (hr : Room 10 A) (e0 : Env0 P w K mg base A outer s H) (bind : BindsTo s fd ⟨[.ref a], []⟩ [("_law_script", .ref a)]) (hS : SqL K H a (ns.map V.int)) (hl : ns.length ≤ 63) :
    codeAny (model P w) A (.call (.ref f) ⟨[.ref a], []⟩) (CR CX0 outer P w H s (fun v _ => v = .bl true) E0) s := by
  refine fn_run (us := [.ref a]) (vs := [.ref a]) F sc_law hr e0 bind (.cons rfl .nil) rfl fun cdv hr => ?_
  have h__law_pen := hr.mono (j := 1) (by decide)
  have h__law_draw := hr.mono (j := 1) (by decide)
  have h__law_letters := hr.mono (j := 3) (by decide)
  have h__law_normals := hr.mono (j := 2) (by decide)
  have h__law_drawn := hr.mono (j := 3) (by decide)
  have h__law_told := hr.mono (j := 4) (by decide)
  have h__law_sentence := hr.mono (j := 9) (by decide)
  have h__law_beginning := hr.mono (j := 2) (by decide)
  have h__law_word := hr.mono (j := 3) (by decide)
  have h__law_wander := hr.mono (j := 3) (by decide)
  have h_is_chain := hr.mono (j := 5) (by decide)
  have h__law_as_runs := hr.mono (j := 2) (by decide)
  have h__law_spoilt := hr.mono (j := 3) (by decide)
  have h__law_is_step := hr.mono (j := 1) (by decide)
  have h__law_is_led := hr.mono (j := 5) (by decide)
  have h__law_others_refused := hr.mono (j := 8) (by decide)
  have h1 := hr.mono (j := 1) (by decide)
  have h5 := hr.mono (j := 5) (by decide)
  have h6 := hr.mono (j := 7) (by decide)
  refine ⟨_, PSs.nox (pss_cons (ps_set (i := 1) sc_law.nd rfl (Or.inl rfl) (pe_call G__law_pen (by exact h__law_pen) (by rfl) A__law_pen.m A__law_pen.k A__law_pen.b .nil pass0 (pa_cons (pv 0) pa_nil)))
      (pss_cons (ps_for PassesOwn.never rfl (pi_range1 rfl T.n_range (pa_cons pe_int pa_nil)) (pg_name (i := 2) sc_law.nd rfl (Or.inl rfl)) (pss_cons (ps_set (i := 3) sc_law.nd rfl (Or.inr rfl) (pe_call G__law_letters (by exact h__law_letters) (by rfl) A__law_letters.m A__law_letters.k A__law_letters.b .nil pass0 (pa_cons (pv 1) (pa_cons (pe_op op_add pe_int (pe_call G__law_draw (by exact h__law_draw) (by rfl) A__law_draw.m A__law_draw.k A__law_draw.b .nil pass0 (pa_cons (pv 1) (pa_cons pe_int pa_nil)))) pa_nil))))
      (pss_cons (ps_set (i := 4) sc_law.nd rfl (Or.inl rfl) (pe_call G__law_normals (by exact h__law_normals) (by rfl) A__law_normals.m A__law_normals.k A__law_normals.b .nil pass0 (pa_cons (pv 3) (pa_cons (pe_op op_cat (pe_lst (pa_cons (pe_call G__law_drawn (by exact h__law_drawn) (by rfl) A__law_drawn.m A__law_drawn.k A__law_drawn.b .nil pass0 (pa_cons (pv 1) (pa_cons (pv 3) pa_nil))) pa_nil)) (pe_call G__law_told (by exact h__law_told) (by rfl) A__law_told.m A__law_told.k A__law_told.b .nil pass0 (pa_cons (pv 1) (pa_cons (pv 3) (pa_cons pe_int pa_nil))))) pa_nil))))
      (pss_cons (ps_setLc (i := 5) (own := [("_law_triple", 19)]) rfl sc_law.nd rfl rfl (sw_true rfl rfl rfl (by decide +kernel)) (pi_list (pv 4)) (blkOk_by (N := ["_law_script", "_law_pen_here", "_law_turn", "_law_letters_here", "_law_told_here", "_law_sentences", "_law_beginning_here", "_law_word_here", "_law_here", "_law_steps", "_law_first", "_law_last", "_law_runs", "_law_ends", "_law_again", "_law_bent", "_law_plain", "_law_given", "_law_due", "_law_triple", "_law_step"]) (sc := defScope s_law) (by decide +kernel)) (fun _ _ _ _ _ => (pg_name (i := 19) sc_law.nd rfl (Or.inl rfl))) (fun _ _ _ _ _ => pts_nil) (fun _ _ _ _ _ => (pe_call G__law_sentence (by exact h__law_sentence) (by rfl) A__law_sentence.m A__law_sentence.k A__law_sentence.b .nil pass0 (pa_cons (pv 3) (pa_cons (pv 19) pa_nil)))))
      (pss_cons (ps_par (i := 6) (j := 7) rfl sc_law.nd rfl rfl (by decide) rfl rfl (pa_cons (pe_call G__law_beginning (by exact h__law_beginning) (by rfl) A__law_beginning.m A__law_beginning.k A__law_beginning.b .nil pass0 (pa_cons (pv 1) pa_nil)) (pa_cons (pe_call G__law_word (by exact h__law_word) (by rfl) A__law_word.m A__law_word.k A__law_word.b .nil pass0 (pa_cons (pv 1) (pa_cons (pv 3) (pa_cons pe_int pa_nil)))) pa_nil)) (by rfl))
      (pss_cons (ps_asg (pe_call G__law_wander (by exact h__law_wander) (by rfl) A__law_wander.m A__law_wander.k A__law_wander.b .nil pass0 (pa_cons (pv 1) (pa_cons (pv 4) (pa_cons (pv 6) (pa_cons (pv 7) (pa_cons pe_int pa_nil)))))) (pg_tup rfl (pgs_cons (pg_name (i := 8) sc_law.nd rfl (Or.inl rfl)) (pgs_cons (pg_name (i := 9) sc_law.nd rfl (Or.inl rfl)) pgs_nil))))
      (pss_cons (ps_set (i := 10) sc_law.nd rfl (Or.inl rfl) (pe_cmeth (pe_gv (v := .ref CH) rfl ⟨_, mH, rfl⟩) rP cP (FnOk.raw GP bP .nil) h6 pass0 (pa_cons (pe_make ML GL h5 (by rfl) mL bL .nil passE (pa_cons (pv 3) pa_nil)) (pa_cons (pv 6) (pa_cons (pv 7) pa_nil)))))
      (pss_cons (ps_set (i := 11) sc_law.nd rfl (Or.inl rfl) (pe_cmeth (pe_gv (v := .ref CH) rfl ⟨_, mH, rfl⟩) rP cP (FnOk.raw GP bP .nil) h6 pass0 (pa_cons (pe_make ML GL h5 (by rfl) mL bL .nil passE (pa_cons (pv 3) pa_nil)) (pa_cons (pv 6) (pa_cons (pv 8) pa_nil)))))
      (pss_cons (ps_if (PW.pt (pw_or (pt_cmpR op_isnot_bl (pe_call G_is_chain (by exact h_is_chain) (by rfl) A_is_chain.m A_is_chain.k A_is_chain.b .nil pass0 (pa_cons (pv 5) (pa_cons (pv 10) (pa_cons (pv 11) (pa_cons (pv 9) pa_nil))))) pe_bl (nomark _)) (pw_or1 (pt_cmpR op_isnot_bl (pe_call G_is_chain (by exact h_is_chain) (by rfl) A_is_chain.m A_is_chain.k A_is_chain.b .nil pass0 (pa_cons (pv 5) (pa_cons (pv 10) (pa_cons (pv 10) (pa_cons (pe_tup pa_nil) pa_nil))))) pe_bl (nomark _))))) (pss_one (ps_ret pe_bl)) pss_nil)
      (pss_cons (ps_par (i := 12) (j := 13) rfl sc_law.nd rfl rfl (by decide) rfl rfl (pa_cons (pe_call G__law_as_runs (by exact h__law_as_runs) (by rfl) A__law_as_runs.m A__law_as_runs.k A__law_as_runs.b .nil pass0 (pa_cons (pv 7) pa_nil)) (pa_cons (pe_call G__law_as_runs (by exact h__law_as_runs) (by rfl) A__law_as_runs.m A__law_as_runs.k A__law_as_runs.b .nil pass0 (pa_cons (pv 8) pa_nil)) pa_nil)) (by rfl))
      (pss_cons (ps_for PassesOwn.never rfl (pi_range1 rfl T.n_range (pa_cons pe_int pa_nil)) (pg_name (i := 14) sc_law.nd rfl (Or.inl rfl)) (pss_cons (ps_set (i := 15) sc_law.nd rfl (Or.inl rfl) (pe_call G__law_spoilt (by exact h__law_spoilt) (by rfl) A__law_spoilt.m A__law_spoilt.k A__law_spoilt.b .nil pass0 (pa_cons (pv 1) (pa_cons (pv 9) (pa_cons (pe_callB call_len_seq (by rfl) T.n_len (by decide +kernel) (pa_cons (pv 4) pa_nil)) pa_nil)))))
      (pss_cons (ps_if (pt_cmpR op_eq (pe_call G__law_draw (by exact h__law_draw) (by rfl) A__law_draw.m A__law_draw.k A__law_draw.b .nil pass0 (pa_cons (pv 1) (pa_cons pe_int pa_nil))) pe_int (nomark _)) (pss_cons (ps_setLc (i := 16) (own := [("_law_step", 20)]) rfl sc_law.nd rfl rfl (sw_true rfl rfl rfl (by decide +kernel)) (pi_list (pv 15)) (blkOk_by (N := ["_law_script", "_law_pen_here", "_law_turn", "_law_letters_here", "_law_told_here", "_law_sentences", "_law_beginning_here", "_law_word_here", "_law_here", "_law_steps", "_law_first", "_law_last", "_law_runs", "_law_ends", "_law_again", "_law_bent", "_law_plain", "_law_given", "_law_due", "_law_triple", "_law_step"]) (sc := defScope s_law) (by decide +kernel)) (fun _ _ _ _ _ => (pg_name (i := 20) sc_law.nd rfl (Or.inl rfl))) (fun _ _ _ _ _ => pts_one (PW.pt (pw_and (pt_val (show PE _ _ (tCB (rIsi K) _) from pe_callB call_isi (by rfl) T.n_isinstance (by decide +kernel) (pa_cons (pv 20) (pa_cons (pe_bltn (v := .ty "list") (u := .type "list") rfl T.n_list (by decide +kernel) rfl) pa_nil)))) (pw_and1 (pt_val (pe_call G__law_is_step (by exact h__law_is_step) (by rfl) A__law_is_step.m A__law_is_step.k A__law_is_step.b .nil pass0 (pa_cons (pv 20) (pa_cons (pe_op op_pow pe_int pe_int) pa_nil)))))))) (fun _ _ _ _ _ => (pv 20)))
      (pss_one (ps_set (i := 15) sc_law.nd rfl (Or.inl rfl) (pe_call G__law_spoilt (by exact h__law_spoilt) (by rfl) A__law_spoilt.m A__law_spoilt.k A__law_spoilt.b .nil pass0 (pa_cons (pv 1) (pa_cons (pv 16) (pa_cons (pe_callB call_len_seq (by rfl) T.n_len (by decide +kernel) (pa_cons (pv 4) pa_nil)) pa_nil))))))) pss_nil)
      (pss_cons (ps_set (i := 17) sc_law.nd rfl (Or.inl rfl) (pe_callTy call_list_of (by rfl) T.n_list (by decide +kernel) (pa_cons (pv 15) pa_nil)))
      (pss_cons (ps_set (i := 18) sc_law.nd rfl (Or.inl rfl) (pe_call G__law_is_led (by exact h__law_is_led) (by rfl) A__law_is_led.m A__law_is_led.k A__law_is_led.b .nil pass0 (pa_cons (pv 4) (pa_cons (pv 6) (pa_cons (pv 12) (pa_cons (pv 15) (pa_cons (pv 13) pa_nil)))))))
      (pss_cons (ps_if (PW.pt (pw_or (pt_cmpR op_ne (pe_callB (call_reprV hg hr.units) (by rfl) T.n_repr (by decide +kernel) (pa_cons (pe_call G_is_chain (by exact h_is_chain) (by rfl) A_is_chain.m A_is_chain.k A_is_chain.b .nil pass0 (pa_cons (pv 5) (pa_cons (pv 10) (pa_cons (pv 11) (pa_cons (pv 17) pa_nil))))) pa_nil)) (pe_callB (call_reprV hg hr.units) (by rfl) T.n_repr (by decide +kernel) (pa_cons (pv 18) pa_nil)) (nomark _)) (pw_or1 (pt_cmpR op_ne (pe_callB (call_reprE hg hr.units) (by rfl) T.n_repr (by decide +kernel) (pa_cons (pv 17) pa_nil)) (pe_callB (call_reprE hg hr.units) (by rfl) T.n_repr (by decide +kernel) (pa_cons (pv 15) pa_nil)) (nomark _))))) (pss_one (ps_ret pe_bl)) pss_nil)
      (pss_one (ps_if (pt_cmpR op_ne (pe_call G_is_chain (by exact h_is_chain) (by rfl) A_is_chain.m A_is_chain.k A_is_chain.b .nil pass0 (pa_cons (pe_callTy call_tuple_of (by rfl) T.n_tuple (by decide +kernel) (pa_cons (pv 5) pa_nil)) (pa_cons (pv 10) (pa_cons (pv 11) (pa_cons (pe_callTy call_tuple_of (by rfl) T.n_tuple (by decide +kernel) (pa_cons (pv 17) pa_nil)) pa_nil))))) (pv 18) (nomark _)) (pss_one (ps_ret pe_bl)) pss_nil))))))))
      (pss_cons (ps_if (pt_not (pt_val (pe_call G__law_others_refused (by exact h__law_others_refused) (by rfl) A__law_others_refused.m A__law_others_refused.k A__law_others_refused.b .nil pass0 (pa_cons (pv 1) (pa_cons (pv 3) (pa_cons (pv 5) (pa_cons (pv 6) (pa_cons (pv 7) (pa_cons (pv 8) (pa_cons (pv 9) pa_nil)))))))))) (pss_one (ps_ret pe_bl)) pss_nil)
      (pss_one (ps_if (pt_cmpR (op_neD hr.units) (pe_meth0 (pv 10) hH.c mW GW h1 bW .nil pass0) (pe_callTy call_tuple_of (by rfl) T.n_tuple (by decide +kernel) (pa_cons (pv 7) pa_nil)) (nomark _)) (pss_one (ps_ret pe_bl)) pss_nil))))))))))))))
      (pss_one (ps_ret pe_bl)))), ?_⟩
  have z1 : (1000000 : Nat) ≤ sizeLine := by decide
  refine ⟨_, rfl, a, ns, rfl, hS, hl, fun H0 p c s0 hp0 hpen => ?_⟩
  refine ⟨5, rfl, by decide, by decide, for_range (lo := 0) (n := 5) (fun i σ' H' => ∃ o2 o3 o4 o5 o6 o7 o8 o9 o10 o11 o12 o13 o14 o15 o16 o17 o18 o19 o20 : Option V, σ' = [some (.ref a), some (.ref p), o2, o3, o4, o5, o6, o7, o8, o9, o10, o11, o12, o13, o14, o15, o16, o17, o18, o19, o20] ∧ Go p c ns H0 H' (10000 * i))
    ⟨none, none, none, none, none, none, none, none, none, none, none, none, none, none, none, none, none, none, none, rfl, Go.refl hpen⟩ ?_ (fun σ' H1 hh => rfl)⟩
  rintro i σ' H1 hi ⟨o2, o3, o4, o5, o6, o7, o8, o9, o10, o11, o12, o13, o14, o15, o16, o17, o18, o19, o20, rfl, g1⟩
  -- letters
  refine ⟨_, rfl, _, rfl, p, c, ns, 3, _, rfl, g1.pen, by omega, by decide, by decide, fun H2 r g2 r0 r1 => ?_⟩
  replace g2 := g1.step g2
  refine ⟨_, _, rfl, rfl, p, c, ns, 1 + r, _, rfl, g2.pen, by omega, by omega, by omega, fun H3 q ys g3 _ hL len nd ok => ?_⟩
  replace g3 := g2.step g3
  have lts : Lts ys := ⟨nd, ok, by omega, by omega⟩
  have py : Plain ys := lts.fit
  have yl : 0 < ys.length := by omega
  have y3 : ys.length ≤ 3 := by omega
  -- told sentences
  refine ⟨_, rfl, _, rfl, _, rfl, p, c, ns, _, q, ys, rfl, g3.pen, by omega, SqL.of hL, yl, by omega, fun H4 t0 k0 x0 s0' g4 ht0 dr => ?_⟩
  replace hL := g4.lst hL
  replace g4 := g3.step g4
  refine ⟨by show 1 ≤ sizeLine; omega, fun l1 hl1 => ?_⟩
  have s5 := Ask.Same.made1 (o := .lst [.ref t0]) (Same.refl H4) hl1
  have f5 : upd H4 l1 (.lst [.ref t0]) l1 = some (.lst [.ref t0]) := upd_same
  generalize upd H4 l1 (.lst [.ref t0]) = H5 at s5 f5 ⊢
  replace hL := s5 _ _ hL
  replace g4 := g4.same s5
  refine ⟨_, rfl, _, rfl, p, c, q, ns, _, ys, 5, rfl, g4.pen, by omega, SqL.of hL, yl, by omega, by decide, by decide, fun H6 L0 vs0 ts0 g6 _ hL0 tv0 tl0 td0 => ?_⟩
  replace hL := g6.lst hL
  have f6 := g6.lst f5
  have ht6 := g6.tup (s5 _ _ ht0)
  replace g6 := g4.step g6
  refine ⟨l1, L0, _, _, rfl, rfl, f6, hL0, by show 1 + vs0.length ≤ sizeLine; rw [tv0.1]; omega, fun l2 hl2 => ?_⟩
  have s7 := Ask.Same.made1 (o := .lst ([.ref t0] ++ vs0)) (Same.refl H6) hl2
  have f7 : upd H6 l2 (.lst ([.ref t0] ++ vs0)) l2 = some (.lst ([.ref t0] ++ vs0)) := upd_same
  generalize upd H6 l2 (.lst ([.ref t0] ++ vs0)) = H7 at s7 f7 ⊢
  replace hL := s7 _ _ hL
  replace g6 := g6.same s7
  have tv7 : TrisV H7 ([.ref t0] ++ vs0) ([(k0, x0, s0')] ++ ts0) := ((TrisV.one (t := (k0, x0, s0')) ht6).app tv0).same s7
  have td7 : ∀ t ∈ ([(k0, x0, s0')] : List TriS) ++ ts0, DrOk ys t.1 t.2.1 t.2.2 := fun t ht => by
    rcases List.mem_append.mp ht with ht | ht
    · rw [List.mem_singleton.mp ht]
      exact dr
    · exact td0 t ht
  refine ⟨q, l2, ys, _, _, rfl, SqL.of hL, SqL.of f7, tv7, by rw [List.length_append]; show 1 + ts0.length ≤ 1000; omega, td7, fun H8 tl tv ts s8 htl tT tlen tdr => ?_⟩
  replace hL := s8 _ _ hL
  have g8 := g6.same s8
  have tlen' : ts.length = 1 + ts0.length := by rw [tlen, List.length_append]; rfl
  have t0' : 0 < ts.length := by omega
  have t6 : ts.length ≤ 6 := by omega
  have tdr1 : ∀ t ∈ ts, DrOk ys t.1 t.2.1 t.2.2 := fun t ht => (tdr t ht).1
  have tok := drs_ok tdr1
  clear tv7 td7 tv0 td0 tl0 hL0 f7 s7 f6 f5 s5 ht6 ht0 dr g6 g4 g3 g2 s8 tlen tlen' hl1 hl2
  try dsimp only
  -- the program's sentences
  refine ⟨_, rfl, tl, rfl, ⟨_, SqL.of htl⟩, fun D hD => ?_⟩
  refine lc_list (K := K) (a := tl) (xs := tv) (fun j H' => Same H8 H' ∧ ∃ us : List V, H' D = some (.lst us) ∧ us.length = j ∧ SensL K CL CS H' ys us (ts.take j)) ⟨Ask.Same.upd_new (Same.refl H8) hD, [], upd_same, rfl, rfl, fun j v t h => by simp at h⟩ (fun j H' _ hh => hh.1.seq (SqL.of htl)) ?_ ?_
  · rintro j v H9 hv ⟨s9, us, e1, e2, e3⟩
    have jl := (List.getElem?_eq_some_iff.mp hv).1
    have elen := tT.1
    obtain ⟨t, ht⟩ : ∃ t, ts[j]? = some t := ⟨_, List.getElem?_eq_getElem (by omega)⟩
    obtain ⟨tr, rfl, htr⟩ := (tT.same s9).2 j v t hv ht
    obtain ⟨d1, d2⟩ := tdr t (List.mem_of_getElem? ht)
    refine ⟨rfl, _, rfl, _, rfl, q, tr, ys, t.1, t.2.1, t.2.2, rfl, SqL.of (s9 _ _ hL), lts, htr, d1, fun Ha sp k2 x2 s2 sa enf hsp => ?_⟩
    obtain ⟨rfl, rfl, rfl⟩ := nf_uniq enf d2
    have e1' := sa _ _ e1
    refine ⟨_, e1', by omega, Ask.Same.upd_new (s9.trans sa) hD, us ++ [.ref sp], upd_same, by rw [List.length_append, e2]; rfl, ?_⟩
    rw [List.take_add_one, ht]
    exact ((e3.same sa).app hsp).mut e1'
  rintro H9 ⟨s9, us, hus, ul, hT⟩
  rw [tT.1, List.take_length] at hT
  replace hL := s9 _ _ hL
  replace htl := s9 _ _ htl
  replace tT := tT.same s9
  have g9 := g8.same s9
  have ul6 : us.length ≤ 6 := by rw [hT.1]; exact t6
  clear s9 hD g8 ul
  try dsimp only
  -- the beginning, the word, the changes
  refine ⟨_, rfl, p, c, ns, _, rfl, g9.pen, by omega, fun Ha b ga hb => ?_⟩
  have gba := g9.step ga
  refine ⟨_, rfl, _, rfl, p, c, q, ns, _, ys, 10, rfl, gba.pen, by omega, SqL.of (ga.lst hL), yl, by omega, by decide, by decide, fun Hb wa ws gb _ hwa lw wy => ⟨_, _, rfl, ?_⟩⟩
  have g9b := ga.step gb
  have gb' := g9.step g9b
  replace hL := g9b.lst hL
  replace htl := g9b.lst htl
  replace tT := tT.go g9b
  replace hT := hT.go g9b
  replace hus := g9b.lst hus
  clear gba ga gb g9b g9
  try dsimp only
  refine ⟨_, rfl, _, rfl, _, rfl, _, rfl, p, c, tl, wa, ns, _, ys, b, tv, ts, ws, 9, rfl, gb'.pen, by omega, SqL.of htl, tT, tok, t0', by omega, py, SqL.of hwa, by omega, wy, by decide, fun Hc qq l1 l2 zs sv os gc hqq hl1 hl2 sp lz zy lo ook wk => ?_⟩
  refine ⟨qq, _, rfl, SqT.of hqq, rfl, _, _, rfl, _, _, rfl, rfl, ?_⟩
  replace hL := gc.lst hL
  replace htl := gc.lst htl
  replace tT := tT.go gc
  replace hT := hT.go gc
  replace hus := gc.lst hus
  replace hwa := gc.lst hwa
  have gc' := gb'.step gc
  clear gb' gc hqq
  try dsimp only
  -- the histories
  refine ⟨rfl, _, rfl, fun m md hm hmd hne => let_made lts (.inl (SqL.of hL)) hm hmd hne fun Hd t sd hM => ⟨rfl, _, rfl, _, rfl, m, t, wa, b, ys, ws, rfl, hM, hb, SqL.of (sd _ _ hwa), wy, by omega, fun He x1 se h1x => ?_⟩⟩
  have sc1 := sd.trans se
  clear sd se hM hm hmd hne
  try dsimp only
  refine ⟨rfl, _, rfl, fun m md hm hmd hne => let_made lts (.inl (SqL.of (sc1 _ _ hL))) hm hmd hne fun Hd t sd hM => ⟨rfl, _, rfl, _, rfl, m, t, l1, b, ys, zs, rfl, hM, hb, SqL.of (sd _ _ (sc1 _ _ hl1)), zy, by omega, fun Hf x2 se h2x => ?_⟩⟩
  have sc2 := sd.trans se
  replace h1x := h1x.same sc2
  have sc := sc1.trans sc2
  clear sd se hM hm hmd hne sc1 sc2
  try dsimp only
  replace hL := sc _ _ hL
  replace htl := sc _ _ htl
  replace tT := tT.same sc
  replace hT := hT.same sc
  replace hus := sc _ _ hus
  replace hwa := sc _ _ hwa
  replace hl1 := sc _ _ hl1
  replace hl2 := sc _ _ hl2
  replace sp := sp.same sc
  replace gc' := gc'.same sc
  clear sc
  have jl := J_len ws
  have jz := J_len zs
  -- the chain, the empty chain
  refine seqIf_b false (fun H' => Same Hf H') (fun Q' hQ => ?_) ?_
  · refine ⟨_, rfl, _, rfl, _, rfl, _, rfl, D, x1, x2, .ref l2, ys, ys, b, b, us, ts, J ws, J zs, _, rfl, .inl (SqL.of hus), by omega, hT, tok, py, py, h1x, h2x, by omega, nm_J ws, J_ofl wy, J_ofl zy, StsV.of (.inl (SqL.of hl2)) sp (by omega), fun H' s' => ?_⟩
    have e1 : (decide (ys = ys) && leB b b ts (J ws) (J zs) (some (os.map some))) = true := by
      show (decide (ys = ys) && (decide (b = b) && decide (walkR b ts (J ws) (os.map some) = some (J zs)))) = true
      rw [wk, decide_eq_true (show ys = ys from rfl), decide_eq_true (show b = b from rfl), decide_eq_true (show some (J zs) = some (J zs) from rfl)]
      rfl
    rw [e1]
    refine ⟨true, true, rfl, rfl, _, rfl, iteF ?_⟩
    refine ⟨_, rfl, _, rfl, _, rfl, Nat.zero_le _, fun t ht => ?_⟩
    have s2 := Ask.Same.made1 (o := .tup []) s' ht
    have ft : upd H' t (.tup []) t = some (.tup []) := upd_same
    generalize upd H' t (.tup []) = H2 at s2 ft ⊢
    refine ⟨D, x1, x1, .ref t, ys, ys, b, b, us, ts, J ws, J ws, some [], rfl, .inl (SqL.of (s2 _ _ hus)), by omega, hT.same s2, tok, py, py, h1x.same s2, h1x.same s2, by omega, nm_J ws, J_ofl wy, J_ofl wy, .inl ⟨t, [], [], rfl, .inr (SqT.of ft), rfl, Nat.zero_le _, (fun i x o h => by simp at h), rfl⟩, fun H3 s3 => ?_⟩
    have e2 : (decide (ys = ys) && leB b b ts (J ws) (J ws) (some [])) = true := by
      show (decide (ys = ys) && (decide (b = b) && decide (some (J ws) = some (J ws)))) = true
      rw [decide_eq_true (show ys = ys from rfl), decide_eq_true (show b = b from rfl), decide_eq_true (show some (J ws) = some (J ws) from rfl)]
      rfl
    rw [e2]
    exact ⟨true, true, rfl, rfl, _, rfl, hQ _ (s2.trans s3)⟩
  rintro Hg sg
  refine iteF ?_
  try dsimp only [tNext]
  replace hL := sg _ _ hL
  replace htl := sg _ _ htl
  replace tT := tT.same sg
  replace hT := hT.same sg
  replace hus := sg _ _ hus
  replace hwa := sg _ _ hwa
  replace hl1 := sg _ _ hl1
  replace hl2 := sg _ _ hl2
  replace sp := sp.same sg
  replace h1x := h1x.same sg
  replace h2x := h2x.same sg
  replace gc' := gc'.same sg
  clear sg
  -- the runs
  refine ⟨_, rfl, wa, ws, rfl, SqL.of hwa, by omega, fun z hz => (py z (wy z hz)).2, fun Hh ra rk sh hra hrk => ?_⟩
  refine ⟨_, rfl, l1, zs, rfl, SqL.of (sh _ _ hl1), by omega, fun z hz => (py z (zy z hz)).2, fun Hi ea ek si hea hek => ⟨_, _, rfl, ?_⟩⟩
  have sg := sh.trans si
  replace hra := si _ _ hra
  replace hrk := hrk.same si
  replace hL := sg _ _ hL
  replace htl := sg _ _ htl
  replace tT := tT.same sg
  replace hT := hT.same sg
  replace hus := sg _ _ hus
  replace hwa := sg _ _ hwa
  replace hl1 := sg _ _ hl1
  replace hl2 := sg _ _ hl2
  replace sp := sp.same sg
  replace h1x := h1x.same sg
  replace h2x := h2x.same sg
  replace gc' := gc'.same sg
  clear sg sh si
  try dsimp only
  have gB : Go p c ns H0 Hi (10000 * i + 1000) := gc'.mono (by omega)
  have gr : Go p c ns Hi Hi (10000 * i + 1000) := Go.refl gB.pen
  clear gc'
  have e31 : (10 : Int) ^ 31 = 10000000000000000000000000000000 := by decide
  have e33 : (10 : Int) ^ 33 = 1000000000000000000000000000000000 := by decide
  have e36 : (10 : Int) ^ 36 = 1000000000000000000000000000000000000 := by decide
  have etv : tv.length = ts.length := tT.1
  have s4v := steps_of (K := K) sp ook (by omega)
  have spl : sv.length ≤ 9 := by rw [sp.1]; exact lo
  refine ⟨4, rfl, by decide, by decide, for_range (lo := 0) (n := 4) (fun j σ' H' => ∃ o2 o14 o15 o16 o17 o18 o19 o20 : Option V, σ' = [some (.ref a), some (.ref p), o2, some (.ref q), some (.ref tl), some (.ref D), some (.str b), some (.ref wa), some (.ref l1), some (.ref l2), some (.ref x1), some (.ref x2), some (.ref ra), some (.ref ea), o14, o15, o16, o17, o18, o19, o20] ∧ Go p c ns Hi H' (10000 * i + 1000 + 300 * j))
    ⟨_, _, _, _, _, _, _, _, rfl, gr⟩ ?_ ?_⟩
  · rintro j σ' Hj hj ⟨o2, o14, o15, o16, o17, o18, o19, o20, rfl, gj⟩
    -- spoilt
    have s4j : Steps4 K 100 Hj sv := fun v hv => by
      obtain ⟨i', hi'⟩ := List.getElem?_of_mem hv
      obtain ⟨a', xs', r1, r2, r3⟩ := steps_of (K := K) (sp.go gj) ook (by omega) v hv
      exact ⟨a', xs', r1, r2, r3⟩
    refine ⟨_, rfl, _, rfl, _, rfl, tl, tv, rfl, .inl (gj.seq (SqL.of htl)), p, c, l2, ns, _, sv, _, 100, rfl, gj.pen, by omega, gj.seq (SqL.of hl2), s4j, by omega, by omega, by omega, by decide, by decide, fun Hk L us1 gk hL1 ul1 el1 => ?_⟩
    try dsimp only
    have gjk := gj.mono (B := 10000 * i + 1000 + 300 * j + 100) (by omega) |>.step gk
    refine seqIf_mid (fun σ' H' => ∃ (L' : Addr) (us' : List V) (o2 o14 o16 o17 o18 o19 o20 : Option V), σ' = [some (.ref a), some (.ref p), o2, some (.ref q), some (.ref tl), some (.ref D), some (.str b), some (.ref wa), some (.ref l1), some (.ref l2), some (.ref x1), some (.ref x2), some (.ref ra), some (.ref ea), o14, some (.ref L'), o16, o17, o18, o19, o20] ∧ Go p c ns Hi H' (10000 * i + 1000 + 300 * j + 300) ∧ H' L' = some (.lst us') ∧ us'.length ≤ 12 ∧ ∀ v ∈ us', ElB (10 ^ 33) H' v) (fun K' hK => ?_) ?_
    · refine ⟨_, rfl, p, c, ns, 3, _, rfl, gk.pen, by omega, by decide, by decide, fun Hl r gl r0 r1 => ?_⟩
      have gjl := gjk.mono (B := 10000 * i + 1000 + 300 * j + 101) (by omega) |>.step gl
      have el2 : ∀ v ∈ us1, ElB (100 + 10 ^ 31) Hl v := fun v hv => (el1 v hv).go gl
      have hL2 := gl.lst hL1
      refine ⟨rfl, _, rfl, ite2 (fun _ => ?_) (fun _ => hK _ _ ⟨L, us1, _, _, _, _, _, _, _, rfl, gjl.mono (by omega), hL2, by omega, fun v hv => (el2 v hv).mono (by omega)⟩)⟩
      refine ⟨_, rfl, L, rfl, ⟨_, SqL.of hL2⟩, fun D2 hD2 => ?_⟩
      refine lc_list (K := K) (a := L) (xs := us1) (fun n H' => Same Hl H' ∧ ∃ ps : List V, H' D2 = some (.lst ps) ∧ ps.length ≤ n ∧ ∀ v ∈ ps, ∃ (a' : Addr) (xs' : List V), v = .ref a' ∧ Hl a' = some (.lst xs') ∧ Int4 (100 + 10 ^ 31) xs') ⟨Ask.Same.upd_new (Same.refl Hl) hD2, [], upd_same, Nat.le_refl _, fun v h => by cases h⟩ (fun n H' _ hh => hh.1.seq (SqL.of hL2)) ?_ ?_
      · rintro n v Hm hv ⟨sm, ps, e1, e2, e3⟩
        have nl := (List.getElem?_eq_some_iff.mp hv).1
        have hel := el2 v (List.mem_of_getElem? hv)
        obtain ⟨t, bb, k1, k2, k3⟩ := el_isl (K := K) hel
        refine ⟨rfl, _, rfl, v, _, t, _, bb, rfl, .ty _, tyx_same k1 sm, k2, _, rfl, ?_⟩
        cases bb with
        | false => exact iteF (iteF ⟨sm, ps, e1, by omega, e3⟩)
        | true =>
          obtain ⟨a', xs', rfl, ha', fl'⟩ := k3 rfl
          have l5 : xs'.length ≤ 100 := by
            rcases hel with ⟨a2, xs2, q1, q2, q3, _⟩ | h | h | h | ⟨a2, q1, q2⟩
            · cases q1
              rcases q2 with q2 | q2
              · rw [ha'] at q2; cases q2; omega
              · rw [ha'] at q2; cases q2
            · cases h
            · cases h
            · cases h
            · cases q1
              rw [ha'] at q2
              cases q2
          refine iteT ⟨_, rfl, _, _, rfl, rfl, ⟨by decide, by decide, by decide⟩, .ref a', stOf xs', _, rfl, .inl ⟨a', xs', rfl, .inl (SqL.of (sm _ _ ha')), l5, fun x hx => (fl' x hx).flb, rfl⟩, fun H' s' => ⟨_, rfl, ?_⟩⟩
          have e1' := s' _ _ e1
          have sm' := sm.trans s'
          refine ite2 (fun z => ?_) (fun _ => ⟨sm', ps, e1', by omega, e3⟩)
          obtain ⟨st, hst⟩ : ∃ st, stOf xs' = some st := by
            cases h : stOf xs' with
            | none => rw [h] at z; cases z
            | some st => exact ⟨st, rfl⟩
          refine ⟨_, rfl, _, e1', by omega, Ask.Same.upd_new sm' hD2, ps ++ [.ref a'], upd_same, by rw [List.length_append]; show ps.length + 1 ≤ _; omega, fun v hv => ?_⟩
          rcases List.mem_append.mp hv with hv | hv
          · exact e3 v hv
          · rw [List.mem_singleton.mp hv]
            exact ⟨a', xs', rfl, ha', stOf_int4 hst fl'⟩
      · rintro Hm ⟨sm, ps, e1, e2, e3⟩
        have gjm := gjl.same sm
        try dsimp only
        refine ⟨_, rfl, _, rfl, _, rfl, tl, tv, rfl, .inl (gjm.seq (SqL.of htl)), p, c, D2, ns, _, ps, _, 100 + 10 ^ 31, rfl, gjm.pen, by omega, SqL.of e1, fun v hv => ?_, by omega, by omega, by omega, by omega, by omega, fun Hn L' us' gn hn un eln => ?_⟩
        · obtain ⟨a', xs', r1, r2, r3⟩ := e3 v hv
          exact ⟨a', xs', r1, .inl (SqL.of (sm _ _ r2)), r3⟩
        · exact hK _ _ ⟨L', us', _, _, _, _, _, _, _, rfl, (gjm.mono (B := 10000 * i + 1000 + 300 * j + 201) (by omega) |>.step gn).mono (by omega), hn, by omega, fun v hv => (eln v hv).mono (by omega)⟩
    rintro σ' Hn ⟨L1, us', o2', o14', o16', o17', o18', o19', o20', rfl, gn, hn, un, eln⟩
    try dsimp only
    -- given, due
    refine ⟨_, rfl, L1, us', rfl, .inl (SqL.of hn), fun u hu => ?_⟩
    have so := Ask.Same.made1 (o := .lst us') (Same.refl Hn) hu
    have fu : upd Hn u (.lst us') u = some (.lst us') := upd_same
    generalize upd Hn u (.lst us') = Ho at so fu ⊢
    have fL := so _ _ hn
    have go := gn.same so
    have elo : ∀ v ∈ us', ElB (10 ^ 33) Ho v := fun v hv => (eln v hv).same so
    obtain ⟨os', ho'⟩ := els_steps (K := K) elo
    have ol : os'.length ≤ 12 := by rw [← ho'.1]; exact un
    try dsimp only
    have jwl : (J ws).length ≤ 100 := by omega
    have jzl : (J zs).length ≤ 100 := by omega
    refine ⟨_, rfl, _, rfl, _, rfl, _, rfl, _, rfl, tl, ra, L1, ea, ys, b, tv, rk, us', ek, ts, J ws, J zs, os', rfl, go.seq (SqL.of htl), tT.go go, tok, by omega, py, go.seq (SqL.of hra), hrk.go go, jwl, nm_J ws, J_ofl wy, SqL.of fL, ho', by omega, go.seq (SqL.of hea), hek.go go, jzl, nm_J zs, J_ofl zy, fun Hp sp1 => ?_⟩
    obtain ⟨due, hdue⟩ : ∃ d, d = decide (walkR b ts (J ws) os' = some (J zs)) := ⟨_, rfl⟩
    rw [← hdue]
    replace go := go.same sp1
    replace fu := sp1 _ _ fu
    replace fL := sp1 _ _ fL
    replace ho' := ho'.same sp1
    replace elo : ∀ v ∈ us', ElB (10 ^ 33) Hp v := fun v hv => (elo v hv).same sp1
    clear so sp1 hn gn eln
    try dsimp only
    have hval : (decide (ys = ys) && leB b b ts (J ws) (J zs) (some os')) = due := by
      show (decide (ys = ys) && (decide (b = b) && decide (walkR b ts (J ws) os' = some (J zs)))) = due
      rw [← hdue, decide_eq_true (show ys = ys from rfl), decide_eq_true (show b = b from rfl), Bool.true_and, Bool.true_and]
    have dkb := dk_bool due
    obtain ⟨ds, q1, q2, q3, q4⟩ := els_dk (K := K) (by omega) elo
    have q5 := els_len q4 (by omega)
    refine seqIf_b false (fun H' => Same Hp H') (fun Q' hQ => ?_) ?_
    · refine ⟨_, rfl, _, rfl, _, rfl, _, rfl, D, x1, x2, .ref u, ys, ys, b, b, us, ts, J ws, J zs, some os', rfl, .inl (go.seq (SqL.of hus)), by omega, hT.go go, tok, py, py, h1x.go go, h2x.go go, by omega, nm_J ws, J_ofl wy, J_ofl zy, .inl ⟨u, us', os', rfl, .inl (SqL.of fu), ho'.1, by omega, fun i' x o e1 e2 => (ho'.2 i' x o e1 e2).st, rfl⟩, fun Hq sq => ?_⟩
      rw [hval]
      refine ⟨_, .bool due, rfl, .bl _, dkb.sho, dkb.nod, Nat.le_trans dkb.dep (by decide), Nat.le_trans dkb.len (by omega), ?_⟩
      refine ⟨_, rfl, _, .bool due, rfl, .bl _, dkb.sho, dkb.nod, Nat.le_trans dkb.dep (by decide), Nat.le_trans dkb.len (by omega), rfl, _, rfl, ?_⟩
      rw [decide_eq_true (show V.str (PyData.shown (.bool due)) = V.str (PyData.shown (.bool due)) from rfl)]
      refine iteF ?_
      have elq : ∀ v ∈ us', ElB (10 ^ 33) Hq v := fun v hv => (elo v hv).same sq
      obtain ⟨ds, q1, q2, q3, q4⟩ := els_dk (K := K) (by omega) elq
      have q5 := els_len q4 (by omega)
      refine ⟨_, rfl, u, us', ds, rfl, SqL.of (sq _ _ fu), q1, q2, by omega, q5, ?_⟩
      refine ⟨_, rfl, L1, us', ds, rfl, SqL.of (sq _ _ fL), q1, q2, by omega, q5, rfl, _, rfl, ?_⟩
      rw [decide_eq_true (show V.str (PyData.list ds).shown = V.str (PyData.list ds).shown from rfl)]
      exact hQ _ sq
    rintro Hq sq
    refine iteF ?_
    try dsimp only [tNext]
    replace go := go.same sq
    replace fu := sq _ _ fu
    replace ho' := ho'.same sq
    -- in tuples
    refine ⟨_, rfl, D, us, rfl, .inl ⟨go.seq (SqL.of hus), fun t1 ht1 => ?_⟩⟩
    have sr := Ask.Same.made1 (o := .tup us) (Same.refl Hq) ht1
    have f1 : upd Hq t1 (.tup us) t1 = some (.tup us) := upd_same
    generalize upd Hq t1 (.tup us) = Hr at sr f1 ⊢
    refine ⟨_, rfl, _, rfl, _, rfl, u, us', rfl, .inl ⟨SqL.of (sr _ _ fu), fun t2 ht2 => ?_⟩⟩
    have ss := Ask.Same.made1 (o := .tup us') (Same.refl Hr) ht2
    have f2 : upd Hr t2 (.tup us') t2 = some (.tup us') := upd_same
    generalize upd Hr t2 (.tup us') = Hs at ss f2 ⊢
    have srs := sr.trans ss
    replace go := go.same srs
    replace ho' := ho'.same srs
    refine ⟨t1, x1, x2, .ref t2, ys, ys, b, b, us, ts, J ws, J zs, some os', rfl, .inr (SqT.of (ss _ _ f1)), by omega, hT.go go, tok, py, py, h1x.go go, h2x.go go, by omega, nm_J ws, J_ofl wy, J_ofl zy, .inl ⟨t2, us', os', rfl, .inr (SqT.of f2), ho'.1, by omega, fun i' x o e1 e2 => (ho'.2 i' x o e1 e2).st, rfl⟩, fun Ht st => ?_⟩
    rw [hval]
    refine ⟨_, rfl, rfl, _, rfl, ?_⟩
    rw [decide_eq_true (show V.bl due = V.bl due from rfl)]
    exact iteF ⟨_, _, _, _, _, _, _, _, rfl, (go.same st).mono (by omega)⟩
  rintro σ' Hj ⟨o2, o14, o15, o16, o17, o18, o19, o20, rfl, gj⟩
  try dsimp only
  -- others are refused
  refine ⟨_, rfl, _, rfl, _, rfl, _, rfl, _, rfl, _, rfl, _, rfl, p, c, q, D, wa, l1, l2, ns, _, ys, ws, zs, b, us, sv, ts, os, rfl, gj.pen, by omega, gj.lst hL, lts, y3, gj.seq (SqL.of hus), by omega, hT.go gj, tok, hb, gj.lst hwa, by omega, wy, gj.lst hl1, lz, zy, gj.lst hl2, sp.go gj, by omega, wk, fun Hk gk => ⟨_, rfl, iteF ?_⟩⟩
  have gjk := gj.mono (B := 10000 * i + 1000 + 300 * 4 + 200) (by omega) |>.step gk
  have h1k := (h1x.go gj).go gk
  obtain ⟨dx, m, t, cc, ks, hp1, _⟩ := id h1k
  have hwk := gk.lst (gj.lst hwa)
  have hpos := (nm_J ws).2
  refine ⟨_, rfl, x1, dx, _, rfl, hp1, rfl, x1, ys, b, J ws, rfl, h1k, fun r hr => Int.le_of_lt (hpos r hr), by rw [size_plain hpos, plain_J]; omega, fun Hl l sl hl' => ?_⟩
  rw [plain_J] at hl'
  refine ⟨_, rfl, wa, _, rfl, .inl ⟨SqL.of (sl _ _ hwk), fun t2 ht2 => ?_⟩⟩
  have sm := Ask.Same.made1 (o := .tup (ws.map V.str)) (Same.refl Hl) ht2
  refine ⟨.tuple (ws.map PyData.str), .tuple (ws.map PyData.str), .tup (SqT.of (sm _ _ hl')) (dp_strs _), .tup (SqT.of upd_same) (dp_strs _), (fit_strs fun z hz => py _ (wy z hz)).shapedT, (fit_strs fun z hz => py _ (wy z hz)).shapedT, _, rfl, ?_⟩
  rw [show PyData.eqv (.tuple (ws.map PyData.str)) (.tuple (ws.map PyData.str)) = decide (ws = ws) from eqv_strs _ _, decide_eq_true rfl]
  refine iteF ⟨_, _, _, _, _, _, _, _, _, _, _, _, _, _, _, _, _, _, _, rfl, ((gB.step (gjk.same (sl.trans sm))).mono (by omega))⟩
end
end Ask

namespace Ask
open PySem L2 PySem.Spec PyProof.Rows
theorem exm_of {K : PySem.W.Frag} {S T : Addr} {b : Bool} (h1 : PySem.W.subIn K (.ref T) (.type "BaseException") = some true) (h2 : PySem.W.isClsIn K T = true) (h3 : PySem.W.typeIn K (.ref T) = some (.type "type")) (h4 : PySem.W.subIn K (.ref S) (.ref T) = some b) :
    PySem.W.exmOne K (.ref S) (.ref T) = some b := by
  have e1 : (PySem.W.subIn K (.ref T) (.type "BaseException") == some true) = true := by rw [h1] <;> rfl
  have e2 : ((PySem.W.clsIn K T).isSome && PySem.W.typeIn K (.ref T) == some (.type "type")) = true := by
    have h2' : (PySem.W.clsIn K T).isSome = true := h2
    rw [h2', h3] <;> rfl
  show (if (PySem.W.subIn K (.ref T) (.type "BaseException") == some true) = true then (if ((PySem.W.clsIn K T).isSome && PySem.W.typeIn K (.ref T) == some (.type "type")) = true then PySem.W.subIn K (.ref S) (.ref T) else none) else none) = some b
  rw [if_pos e1, if_pos e2]
  exact h4
theorem strKeys_of {es : Array DictEntry} (h : (es.toList.all fun e => match e.key with | .str _ _ => true | _ => false) = true) : StrKeys es := fun e he => by
  have q := List.all_eq_true.mp h e (by simpa using he)
  cases k : e.key <;> rw [k] at q <;> first | exact ⟨_, _, rfl⟩ | cases q
theorem sen_binds {K : PySem.W.Frag} {d : V} {f : Addr} {fd : FuncData} (F : FunD K "__init__" "Sentence.__init__" (defArgs s_Sen_init) (defBody s_Sen_init) (defScope s_Sen_init) [d] [] f fd) : (∃ u, RelV d u ∧ Binds K fd ["self", "letters", "kind", "first", "second"] [u]) ∧ Binds K fd ["self", "letters", "kind", "first", "second"] [] := by
  constructor
  · obtain ⟨ds, r, b⟩ := F.binds1 (ps := ["self", "letters", "kind", "first", "second"]) 4 0 (by simp) rfl fun T kV doc pm an cdv ct us its hu hi => match us, hu, its, hi with | [_, _, _, _], _, [_], _ => ⟨_, rfl, rfl⟩
    obtain ⟨u, rfl, ru⟩ := vals1 r
    exact ⟨u, ru, b⟩
  · obtain ⟨ds, r, b⟩ := F.binds1 (ps := ["self", "letters", "kind", "first", "second"]) 5 1 (by simp) rfl fun T kV doc pm an cdv ct us its hu hi => match us, hu, its, hi with | [_, _, _, _, _], _, [_], _ => ⟨_, rfl, rfl⟩
    cases r
    exact b
theorem all_mk {P : Program} {w : World} {K : PySem.W.Frag} {h : Heap} {mg : Str → Option Value} {fa : Addr} (X : K.In h) (G : h.Ns mainGlobals mg) (hfa : mg "law" = some (.ref fa))
    {f0 : Addr} {od0 an0 : Option Addr} {sl0 : Array (Option Value)} {oc0 kV0 dc0 pm0 cd0 ct0 : Value}
    {f1 : Addr} {od1 an1 : Option Addr} {sl1 : Array (Option Value)} {oc1 kV1 dc1 pm1 cd1 ct1 : Value}
    {f2 : Addr} {od2 an2 : Option Addr} {sl2 : Array (Option Value)} {oc2 kV2 dc2 pm2 cd2 ct2 : Value}
    {f3 : Addr} {od3 an3 : Option Addr} {sl3 : Array (Option Value)} {oc3 kV3 dc3 pm3 cd3 ct3 : Value}
    {f4 : Addr} {od4 an4 : Option Addr} {sl4 : Array (Option Value)} {oc4 kV4 dc4 pm4 cd4 ct4 : Value}
    {f5 : Addr} {od5 an5 : Option Addr} {sl5 : Array (Option Value)} {oc5 kV5 dc5 pm5 cd5 ct5 : Value}
    {f6 : Addr} {od6 an6 : Option Addr} {sl6 : Array (Option Value)} {oc6 kV6 dc6 pm6 cd6 ct6 : Value}
    {fw : Addr} {odw anw : Option Addr} {slw : Array (Option Value)} {ocw kVw dcw pmw cdw ctw : Value}
    {fv : Addr} {odv anv : Option Addr} {slv : Array (Option Value)} {ocv kVv dcv pmv cdv ctv : Value}
    {fc : Addr} {odc anc : Option Addr} {slc : Array (Option Value)} {occ kVc dcc pmc cdc ctc : Value}
    {fd : Addr} {odd and : Option Addr} {sld : Array (Option Value)} {ocd kVd dcd pmd cdd ctd : Value}
    {ff : Addr} {odf anf : Option Addr} {slf : Array (Option Value)} {ocf kVf dcf pmf cdf ctf : Value}
    {fg : Addr} {odg ang : Option Addr} {slg : Array (Option Value)} {ocg kVg dcg pmg cdg ctg : Value}
    {fh : Addr} {odh anh : Option Addr} {slh : Array (Option Value)} {och kVh dch pmh cdh cth : Value}
    {fi : Addr} {odi ani : Option Addr} {sli : Array (Option Value)} {oci kVi dci pmi cdi cti : Value}
    {fk : Addr} {odk ank : Option Addr} {slk : Array (Option Value)} {ock kVk dck pmk cdk ctk : Value}
    {fj : Addr} {odj anj : Option Addr} {slj : Array (Option Value)} {ocj kVj dcj pmj cdj ctj : Value}
    {f7 : Addr} {od7 an7 : Option Addr} {sl7 : Array (Option Value)} {oc7 kV7 dc7 pm7 cd7 ct7 : Value}
    {fm : Addr} {odm anm : Option Addr} {slm : Array (Option Value)} {ocm kVm dcm pmm cdm ctm : Value}
    {fn : Addr} {odn ann : Option Addr} {sln : Array (Option Value)} {ocn kVn dcn pmn cdn ctn : Value}
    {fo : Addr} {odo ano : Option Addr} {slo : Array (Option Value)} {oco kVo dco pmo cdo cto : Value}
    {fq1 : Addr} {odq1 anq1 : Option Addr} {slq1 : Array (Option Value)} {ocq1 kVq1 dcq1 pmq1 cdq1 ctq1 : Value}
    {fq2 : Addr} {odq2 anq2 : Option Addr} {slq2 : Array (Option Value)} {ocq2 kVq2 dcq2 pmq2 cdq2 ctq2 : Value}
    {fq3 : Addr} {odq3 anq3 : Option Addr} {slq3 : Array (Option Value)} {ocq3 kVq3 dcq3 pmq3 cdq3 ctq3 : Value}
    {fq4 : Addr} {odq4 anq4 : Option Addr} {slq4 : Array (Option Value)} {ocq4 kVq4 dcq4 pmq4 cdq4 ctq4 : Value}
    {fq5 : Addr} {odq5 anq5 : Option Addr} {slq5 : Array (Option Value)} {ocq5 kVq5 dcq5 pmq5 cdq5 ctq5 : Value}
    {fq6 : Addr} {odq6 anq6 : Option Addr} {slq6 : Array (Option Value)} {ocq6 kVq6 dcq6 pmq6 cdq6 ctq6 : Value}
    {fg4 : Addr} {odg4 ang4 : Option Addr} {slg4 : Array (Option Value)} {ocg4 kVg4 dcg4 pmg4 cdg4 ctg4 : Value}
    {fg5 : Addr} {odg5 ang5 : Option Addr} {slg5 : Array (Option Value)} {ocg5 kVg5 dcg5 pmg5 cdg5 ctg5 : Value}
    {fg6 : Addr} {odg6 ang6 : Option Addr} {slg6 : Array (Option Value)} {ocg6 kVg6 dcg6 pmg6 cdg6 ctg6 : Value}
    {fg7 : Addr} {odg7 ang7 : Option Addr} {slg7 : Array (Option Value)} {ocg7 kVg7 dcg7 pmg7 cdg7 ctg7 : Value}
    {fg8 : Addr} {odg8 ang8 : Option Addr} {slg8 : Array (Option Value)} {ocg8 kVg8 dcg8 pmg8 cdg8 ctg8 : Value}
    {fp : Addr} {odp anp : Option Addr} {slp : Array (Option Value)} {ocp kVp dcp pmp cdp ctp : Value}
    {fx : Addr} {odx anx : Option Addr} {slx : Array (Option Value)} {ocx kVx dcx pmx cdx ctx : Value}
    {fr : Addr} {odr anr : Option Addr} {slr : Array (Option Value)} {ocr kVr dcr pmr cdr ctr : Value}
    {fs : Addr} {ods ans : Option Addr} {sls : Array (Option Value)} {ocs kVs dcs pms cds cts : Value}
    {fu : Addr} {odu anu : Option Addr} {slu : Array (Option Value)} {ocu kVu dcu pmu cdu ctu : Value}
    {fy1 : Addr} {ody1 any1 : Option Addr} {sly1 : Array (Option Value)} {ocy1 kVy1 dcy1 pmy1 cdy1 cty1 : Value}
    {fy2 : Addr} {ody2 any2 : Option Addr} {sly2 : Array (Option Value)} {ocy2 kVy2 dcy2 pmy2 cdy2 cty2 : Value}
    {fy4 : Addr} {ody4 any4 : Option Addr} {sly4 : Array (Option Value)} {ocy4 kVy4 dcy4 pmy4 cdy4 cty4 : Value}
    {fy5 : Addr} {ody5 any5 : Option Addr} {sly5 : Array (Option Value)} {ocy5 kVy5 dcy5 pmy5 cdy5 cty5 : Value}
    {fy7 : Addr} {ody7 any7 : Option Addr} {sly7 : Array (Option Value)} {ocy7 kVy7 dcy7 pmy7 cdy7 cty7 : Value}
    {fr1 : Addr} {odr1 anr1 : Option Addr} {slr1 : Array (Option Value)} {ocr1 kVr1 dcr1 pmr1 cdr1 ctr1 : Value}
    {fr2 : Addr} {odr2 anr2 : Option Addr} {slr2 : Array (Option Value)} {ocr2 kVr2 dcr2 pmr2 cdr2 ctr2 : Value}
    {fr3 : Addr} {odr3 anr3 : Option Addr} {slr3 : Array (Option Value)} {ocr3 kVr3 dcr3 pmr3 cdr3 ctr3 : Value}
    {fr4 : Addr} {odr4 anr4 : Option Addr} {slr4 : Array (Option Value)} {ocr4 kVr4 dcr4 pmr4 cdr4 ctr4 : Value}
    {fr5 : Addr} {odr5 anr5 : Option Addr} {slr5 : Array (Option Value)} {ocr5 kVr5 dcr5 pmr5 cdr5 ctr5 : Value}
    {fr6 : Addr} {odr6 anr6 : Option Addr} {slr6 : Array (Option Value)} {ocr6 kVr6 dcr6 pmr6 cdr6 ctr6 : Value}
    {fr7 : Addr} {odr7 anr7 : Option Addr} {slr7 : Array (Option Value)} {ocr7 kVr7 dcr7 pmr7 cdr7 ctr7 : Value}
    {fr8 : Addr} {odr8 anr8 : Option Addr} {slr8 : Array (Option Value)} {ocr8 kVr8 dcr8 pmr8 cdr8 ctr8 : Value}
    {fr9 : Addr} {odr9 anr9 : Option Addr} {slr9 : Array (Option Value)} {ocr9 kVr9 dcr9 pmr9 cdr9 ctr9 : Value}
    {f9 : Addr} {od9 an9 : Option Addr} {sl9 : Array (Option Value)} {oc9 kV9 dc9 pm9 cd9 ct9 : Value}
    {CB : Addr}
    {fB : Addr} {odB anB : Option Addr} {slB : Array (Option Value)} {ocB kVB dcB pmB cdB ctB : Value}
    {nmB qB : Str} {NB : Addr} {bsB bmB : List Value} {snB : List Str} {subB : List Value} {abB : Bool} {colB : Option Bool} {ddB : Option Addr} {m0B m1B m2B m3B m5B : Option Value}
    {CM : Addr}
    {fM : Addr} {odM anM : Option Addr} {slM : Array (Option Value)} {ocM kVM dcM pmM cdM ctM : Value}
    {nmM qM : Str} {NM : Addr} {bsM bmM : List Value} {snM : List Str} {subM : List Value} {abM : Bool} {colM : Option Bool} {ddM : Option Addr} {m0M m1M m2M m3M m5M : Option Value}
    {CT : Addr}
    {fT : Addr} {odT anT : Option Addr} {slT : Array (Option Value)} {ocT kVT dcT pmT cdT ctT : Value}
    {nmT qT : Str} {NT : Addr} {bsT bmT : List Value} {snT : List Str} {subT : List Value} {abT : Bool} {colT : Option Bool} {ddT : Option Addr} {m0T m1T m2T m3T m5T : Option Value}
    {CZ : Addr}
    {CN : Addr}
    {CL : Addr}
    {fL : Addr} {odL anL : Option Addr} {slL : Array (Option Value)} {ocL kVL dcL pmL cdL ctL : Value}
    {fH : Addr} {odH anH : Option Addr} {slH : Array (Option Value)} {ocH kVH dcH pmH cdH ctH : Value}
    {fR : Addr} {odR anR : Option Addr} {slR : Array (Option Value)} {ocR kVR dcR pmR cdR ctR : Value}
    {fQ : Addr} {odQ anQ : Option Addr} {slQ : Array (Option Value)} {ocQ kVQ dcQ pmQ cdQ ctQ : Value}
    {CY : Addr}
    {fY : Addr} {odY anY : Option Addr} {slY : Array (Option Value)} {ocY kVY dcY pmY cdY ctY : Value}
    {TY aDY : Addr} {oTY oDY : Obj} {nTY nDY : Nat}
    {fW : Addr} {odW anW : Option Addr} {slW : Array (Option Value)} {ocW kVW dcW pmW cdW ctW : Value}
    {pP : Addr} {rsP : List Value}
    {fP : Addr} {odP anP : Option Addr} {slP : Array (Option Value)} {ocP kVP dcP pmP cdP ctP : Value}
    {CS : Addr}
    {fS : Addr} {odS anS : Option Addr} {slS : Array (Option Value)} {ocS kVS dcS pmS cdS ctS : Value}
    {TS : Addr} {oTS : Obj} {nTS : Nat}
    {CK : Addr}
    {fK : Addr} {odK anK : Option Addr} {slK : Array (Option Value)} {ocK kVK dcK pmK cdK ctK : Value}
    {gS : Tok}
    {gW : Tok}
    {gM : Tok}
    {gL : Tok}
    {T_gB : Addr} {o_gB : Obj} {j_gB : Array Value} {n_gB : Nat}
    {T_gK : Addr} {o_gK : Obj} {j_gK : Array Value} {n_gK : Nat}
    {T_gN : Addr} {o_gN : Obj} {j_gN : Array Value} {n_gN : Nat}
    {gC : Tok}
    {gR : Tok}
    {gP : Tok}
    {nmL qL : Str} {NL : Addr} {bsL bmL : List Value} {hdctL : Bool} {snL : List Str} {subL : List Value} {abL : Bool} {colL : Option Bool} {ddL : Option Addr} {m0L m1L m2L m3L m5L : Option Value} {newL : String} {oNL : Obj} {esNL : Array DictEntry} {epNL : Nat}
    (hn : PySem.W.specialIn K (.builtin "object.__class__") "__get__" = some (some (.builtin "getset_descriptor.__get__")))
    (ht : PySem.W.takesIn K (.builtin "object.__class__") = some true)
    (a0 : PySem.W.nsIn K mainGlobals "is_short_word" = some (some (.ref f0)))
    (l0 : K.lookup f0 = some ⟨oc0, od0, .func (PySem.W.fnOf "is_short_word" "is_short_word" (defArgs s_is_short_word) (defBody s_is_short_word) (defScope s_is_short_word) .none kV0 dc0 pm0 an0 cd0 ct0), sl0⟩)
    (c0 : PySem.W.codeIn K cd0 "is_short_word" = true)
    (k0 : PySem.W.keepIn K (.ref f0) = true)
    (a1 : PySem.W.nsIn K mainGlobals "copied" = some (some (.ref f1)))
    (l1 : K.lookup f1 = some ⟨oc1, od1, .func (PySem.W.fnOf "copied" "copied" (defArgs s_copied) (defBody s_copied) (defScope s_copied) .none kV1 dc1 pm1 an1 cd1 ct1), sl1⟩)
    (c1 : PySem.W.codeIn K cd1 "copied" = true)
    (k1 : PySem.W.keepIn K (.ref f1) = true)
    (a2 : PySem.W.nsIn K mainGlobals "is_letter" = some (some (.ref f2)))
    (l2 : K.lookup f2 = some ⟨oc2, od2, .func (PySem.W.fnOf "is_letter" "is_letter" (defArgs s_is_letter) (defBody s_is_letter) (defScope s_is_letter) .none kV2 dc2 pm2 an2 cd2 ct2), sl2⟩)
    (c2 : PySem.W.codeIn K cd2 "is_letter" = true)
    (k2 : PySem.W.keepIn K (.ref f2) = true)
    (a3 : PySem.W.nsIn K mainGlobals "_law_pen" = some (some (.ref f3)))
    (l3 : K.lookup f3 = some ⟨oc3, od3, .func (PySem.W.fnOf "_law_pen" "_law_pen" (defArgs s__law_pen) (defBody s__law_pen) (defScope s__law_pen) .none kV3 dc3 pm3 an3 cd3 ct3), sl3⟩)
    (c3 : PySem.W.codeIn K cd3 "_law_pen" = true)
    (k3 : PySem.W.keepIn K (.ref f3) = true)
    (a4 : PySem.W.nsIn K mainGlobals "_law_draw" = some (some (.ref f4)))
    (l4 : K.lookup f4 = some ⟨oc4, od4, .func (PySem.W.fnOf "_law_draw" "_law_draw" (defArgs s__law_draw) (defBody s__law_draw) (defScope s__law_draw) .none kV4 dc4 pm4 an4 cd4 ct4), sl4⟩)
    (c4 : PySem.W.codeIn K cd4 "_law_draw" = true)
    (k4 : PySem.W.keepIn K (.ref f4) = true)
    (a5 : PySem.W.nsIn K mainGlobals "_law_pick" = some (some (.ref f5)))
    (l5 : K.lookup f5 = some ⟨oc5, od5, .func (PySem.W.fnOf "_law_pick" "_law_pick" (defArgs s__law_pick) (defBody s__law_pick) (defScope s__law_pick) .none kV5 dc5 pm5 an5 cd5 ct5), sl5⟩)
    (c5 : PySem.W.codeIn K cd5 "_law_pick" = true)
    (k5 : PySem.W.keepIn K (.ref f5) = true)
    (a6 : PySem.W.nsIn K mainGlobals "_law_letters" = some (some (.ref f6)))
    (l6 : K.lookup f6 = some ⟨oc6, od6, .func (PySem.W.fnOf "_law_letters" "_law_letters" (defArgs s__law_letters) (defBody s__law_letters) (defScope s__law_letters) .none kV6 dc6 pm6 an6 cd6 ct6), sl6⟩)
    (c6 : PySem.W.codeIn K cd6 "_law_letters" = true)
    (k6 : PySem.W.keepIn K (.ref f6) = true)
    (aw : PySem.W.nsIn K mainGlobals "is_whole" = some (some (.ref fw)))
    (lw : K.lookup fw = some ⟨ocw, odw, .func (PySem.W.fnOf "is_whole" "is_whole" (defArgs s_is_whole) (defBody s_is_whole) (defScope s_is_whole) .none kVw dcw pmw anw cdw ctw), slw⟩)
    (cw : PySem.W.codeIn K cdw "is_whole" = true)
    (kw : PySem.W.keepIn K (.ref fw) = true)
    (av : PySem.W.nsIn K mainGlobals "is_list_of" = some (some (.ref fv)))
    (lv : K.lookup fv = some ⟨ocv, odv, .func (PySem.W.fnOf "is_list_of" "is_list_of" (defArgs s_is_list_of) (defBody s_is_list_of) (defScope s_is_list_of) .none kVv dcv pmv anv cdv ctv), slv⟩)
    (cv : PySem.W.codeIn K cdv "is_list_of" = true)
    (kv : PySem.W.keepIn K (.ref fv) = true)
    (ac : PySem.W.nsIn K mainGlobals "joined" = some (some (.ref fc)))
    (lc : K.lookup fc = some ⟨occ, odc, .func (PySem.W.fnOf "joined" "joined" (defArgs s_joined) (defBody s_joined) (defScope s_joined) .none kVc dcc pmc anc cdc ctc), slc⟩)
    (cc : PySem.W.codeIn K cdc "joined" = true)
    (kc : PySem.W.keepIn K (.ref fc) = true)
    (ad : PySem.W.nsIn K mainGlobals "spliced" = some (some (.ref fd)))
    (ld : K.lookup fd = some ⟨ocd, odd, .func (PySem.W.fnOf "spliced" "spliced" (defArgs s_spliced) (defBody s_spliced) (defScope s_spliced) .none kVd dcd pmd and cdd ctd), sld⟩)
    (cd : PySem.W.codeIn K cdd "spliced" = true)
    (kd : PySem.W.keepIn K (.ref fd) = true)
    (af : PySem.W.nsIn K mainGlobals "size_of" = some (some (.ref ff)))
    (lf : K.lookup ff = some ⟨ocf, odf, .func (PySem.W.fnOf "size_of" "size_of" (defArgs s_size_of) (defBody s_size_of) (defScope s_size_of) .none kVf dcf pmf anf cdf ctf), slf⟩)
    (cf : PySem.W.codeIn K cdf "size_of" = true)
    (kf : PySem.W.keepIn K (.ref ff) = true)
    (ag : PySem.W.nsIn K mainGlobals "is_beginning" = some (some (.ref fg)))
    (lg : K.lookup fg = some ⟨ocg, odg, .func (PySem.W.fnOf "is_beginning" "is_beginning" (defArgs s_is_beginning) (defBody s_is_beginning) (defScope s_is_beginning) .none kVg dcg pmg ang cdg ctg), slg⟩)
    (cg : PySem.W.codeIn K cdg "is_beginning" = true)
    (kg : PySem.W.keepIn K (.ref fg) = true)
    (ah : PySem.W.nsIn K mainGlobals "require_runs" = some (some (.ref fh)))
    (lh : K.lookup fh = some ⟨och, odh, .func (PySem.W.fnOf "require_runs" "require_runs" (defArgs s_require_runs) (defBody s_require_runs) (defScope s_require_runs) .none kVh dch pmh anh cdh cth), slh⟩)
    (ch : PySem.W.codeIn K cdh "require_runs" = true)
    (kh : PySem.W.keepIn K (.ref fh) = true)
    (ai : PySem.W.nsIn K mainGlobals "require_beginning" = some (some (.ref fi)))
    (li : K.lookup fi = some ⟨oci, odi, .func (PySem.W.fnOf "require_beginning" "require_beginning" (defArgs s_require_beginning) (defBody s_require_beginning) (defScope s_require_beginning) .none kVi dci pmi ani cdi cti), sli⟩)
    (ci : PySem.W.codeIn K cdi "require_beginning" = true)
    (ki : PySem.W.keepIn K (.ref fi) = true)
    (ak : PySem.W.nsIn K mainGlobals "require_count" = some (some (.ref fk)))
    (lk : K.lookup fk = some ⟨ock, odk, .func (PySem.W.fnOf "require_count" "require_count" (defArgs s_require_count) (defBody s_require_count) (defScope s_require_count) .none kVk dck pmk ank cdk ctk), slk⟩)
    (ck : PySem.W.codeIn K cdk "require_count" = true)
    (kk : PySem.W.keepIn K (.ref fk) = true)
    (aj : PySem.W.nsIn K mainGlobals "extended" = some (some (.ref fj)))
    (lj : K.lookup fj = some ⟨ocj, odj, .func (PySem.W.fnOf "extended" "extended" (defArgs s_extended) (defBody s_extended) (defScope s_extended) .none kVj dcj pmj anj cdj ctj), slj⟩)
    (cj : PySem.W.codeIn K cdj "extended" = true)
    (kj : PySem.W.keepIn K (.ref fj) = true)
    (a7 : PySem.W.nsIn K mainGlobals "parted" = some (some (.ref f7)))
    (l7 : K.lookup f7 = some ⟨oc7, od7, .func (PySem.W.fnOf "parted" "parted" (defArgs s_parted) (defBody s_parted) (defScope s_parted) .none kV7 dc7 pm7 an7 cd7 ct7), sl7⟩)
    (c7 : PySem.W.codeIn K cd7 "parted" = true)
    (k7 : PySem.W.keepIn K (.ref f7) = true)
    (am : PySem.W.nsIn K mainGlobals "is_due" = some (some (.ref fm)))
    (lm : K.lookup fm = some ⟨ocm, odm, .func (PySem.W.fnOf "is_due" "is_due" (defArgs s_is_due) (defBody s_is_due) (defScope s_is_due) .none kVm dcm pmm anm cdm ctm), slm⟩)
    (cm : PySem.W.codeIn K cdm "is_due" = true)
    (km : PySem.W.keepIn K (.ref fm) = true)
    (an : PySem.W.nsIn K mainGlobals "sides" = some (some (.ref fn)))
    (ln : K.lookup fn = some ⟨ocn, odn, .func (PySem.W.fnOf "sides" "sides" (defArgs s_sides) (defBody s_sides) (defScope s_sides) .none kVn dcn pmn ann cdn ctn), sln⟩)
    (cn : PySem.W.codeIn K cdn "sides" = true)
    (kn : PySem.W.keepIn K (.ref fn) = true)
    (ao : PySem.W.nsIn K mainGlobals "one_form" = some (some (.ref fo)))
    (lo : K.lookup fo = some ⟨oco, odo, .func (PySem.W.fnOf "one_form" "one_form" (defArgs s_one_form) (defBody s_one_form) (defScope s_one_form) .none kVo dco pmo ano cdo cto), slo⟩)
    (co : PySem.W.codeIn K cdo "one_form" = true)
    (ko : PySem.W.keepIn K (.ref fo) = true)
    (aq1 : PySem.W.nsIn K mainGlobals "is_step" = some (some (.ref fq1)))
    (lq1 : K.lookup fq1 = some ⟨ocq1, odq1, .func (PySem.W.fnOf "is_step" "is_step" (defArgs s_is_step) (defBody s_is_step) (defScope s_is_step) .none kVq1 dcq1 pmq1 anq1 cdq1 ctq1), slq1⟩)
    (cq1 : PySem.W.codeIn K cdq1 "is_step" = true)
    (kq1 : PySem.W.keepIn K (.ref fq1) = true)
    (aq2 : PySem.W.nsIn K mainGlobals "drift" = some (some (.ref fq2)))
    (lq2 : K.lookup fq2 = some ⟨ocq2, odq2, .func (PySem.W.fnOf "drift" "drift" (defArgs s_drift) (defBody s_drift) (defScope s_drift) .none kVq2 dcq2 pmq2 anq2 cdq2 ctq2), slq2⟩)
    (cq2 : PySem.W.codeIn K cdq2 "drift" = true)
    (kq2 : PySem.W.keepIn K (.ref fq2) = true)
    (aq3 : PySem.W.nsIn K mainGlobals "exchanged" = some (some (.ref fq3)))
    (lq3 : K.lookup fq3 = some ⟨ocq3, odq3, .func (PySem.W.fnOf "exchanged" "exchanged" (defArgs s_exchanged) (defBody s_exchanged) (defScope s_exchanged) .none kVq3 dcq3 pmq3 anq3 cdq3 ctq3), slq3⟩)
    (cq3 : PySem.W.codeIn K cdq3 "exchanged" = true)
    (kq3 : PySem.W.keepIn K (.ref fq3) = true)
    (aq4 : PySem.W.nsIn K mainGlobals "stepped" = some (some (.ref fq4)))
    (lq4 : K.lookup fq4 = some ⟨ocq4, odq4, .func (PySem.W.fnOf "stepped" "stepped" (defArgs s_stepped) (defBody s_stepped) (defScope s_stepped) .none kVq4 dcq4 pmq4 anq4 cdq4 ctq4), slq4⟩)
    (cq4 : PySem.W.codeIn K cdq4 "stepped" = true)
    (kq4 : PySem.W.keepIn K (.ref fq4) = true)
    (aq5 : PySem.W.nsIn K mainGlobals "leads" = some (some (.ref fq5)))
    (lq5 : K.lookup fq5 = some ⟨ocq5, odq5, .func (PySem.W.fnOf "leads" "leads" (defArgs s_leads) (defBody s_leads) (defScope s_leads) .none kVq5 dcq5 pmq5 anq5 cdq5 ctq5), slq5⟩)
    (cq5 : PySem.W.codeIn K cdq5 "leads" = true)
    (kq5 : PySem.W.keepIn K (.ref fq5) = true)
    (aq6 : PySem.W.nsIn K mainGlobals "is_chain" = some (some (.ref fq6)))
    (lq6 : K.lookup fq6 = some ⟨ocq6, odq6, .func (PySem.W.fnOf "is_chain" "is_chain" (defArgs s_is_chain) (defBody s_is_chain) (defScope s_is_chain) .none kVq6 dcq6 pmq6 anq6 cdq6 ctq6), slq6⟩)
    (cq6 : PySem.W.codeIn K cdq6 "is_chain" = true)
    (kq6 : PySem.W.keepIn K (.ref fq6) = true)
    (ag4 : PySem.W.nsIn K mainGlobals "_law_joined" = some (some (.ref fg4)))
    (lg4 : K.lookup fg4 = some ⟨ocg4, odg4, .func (PySem.W.fnOf "_law_joined" "_law_joined" (defArgs s__law_joined) (defBody s__law_joined) (defScope s__law_joined) .none kVg4 dcg4 pmg4 ang4 cdg4 ctg4), slg4⟩)
    (cg4 : PySem.W.codeIn K cdg4 "_law_joined" = true)
    (kg4 : PySem.W.keepIn K (.ref fg4) = true)
    (ag5 : PySem.W.nsIn K mainGlobals "_law_size" = some (some (.ref fg5)))
    (lg5 : K.lookup fg5 = some ⟨ocg5, odg5, .func (PySem.W.fnOf "_law_size" "_law_size" (defArgs s__law_size) (defBody s__law_size) (defScope s__law_size) .none kVg5 dcg5 pmg5 ang5 cdg5 ctg5), slg5⟩)
    (cg5 : PySem.W.codeIn K cdg5 "_law_size" = true)
    (kg5 : PySem.W.keepIn K (.ref fg5) = true)
    (ag6 : PySem.W.nsIn K mainGlobals "_law_cut" = some (some (.ref fg6)))
    (lg6 : K.lookup fg6 = some ⟨ocg6, odg6, .func (PySem.W.fnOf "_law_cut" "_law_cut" (defArgs s__law_cut) (defBody s__law_cut) (defScope s__law_cut) .none kVg6 dcg6 pmg6 ang6 cdg6 ctg6), slg6⟩)
    (cg6 : PySem.W.codeIn K cdg6 "_law_cut" = true)
    (kg6 : PySem.W.keepIn K (.ref fg6) = true)
    (ag7 : PySem.W.nsIn K mainGlobals "_law_as_runs" = some (some (.ref fg7)))
    (lg7 : K.lookup fg7 = some ⟨ocg7, odg7, .func (PySem.W.fnOf "_law_as_runs" "_law_as_runs" (defArgs s__law_as_runs) (defBody s__law_as_runs) (defScope s__law_as_runs) .none kVg7 dcg7 pmg7 ang7 cdg7 ctg7), slg7⟩)
    (cg7 : PySem.W.codeIn K cdg7 "_law_as_runs" = true)
    (kg7 : PySem.W.keepIn K (.ref fg7) = true)
    (ag8 : PySem.W.nsIn K mainGlobals "_law_word" = some (some (.ref fg8)))
    (lg8 : K.lookup fg8 = some ⟨ocg8, odg8, .func (PySem.W.fnOf "_law_word" "_law_word" (defArgs s__law_word) (defBody s__law_word) (defScope s__law_word) .none kVg8 dcg8 pmg8 ang8 cdg8 ctg8), slg8⟩)
    (cg8 : PySem.W.codeIn K cdg8 "_law_word" = true)
    (kg8 : PySem.W.keepIn K (.ref fg8) = true)
    (ap : PySem.W.nsIn K mainGlobals "_law_normal" = some (some (.ref fp)))
    (lp : K.lookup fp = some ⟨ocp, odp, .func (PySem.W.fnOf "_law_normal" "_law_normal" (defArgs s__law_normal) (defBody s__law_normal) (defScope s__law_normal) .none kVp dcp pmp anp cdp ctp), slp⟩)
    (cp : PySem.W.codeIn K cdp "_law_normal" = true)
    (kp : PySem.W.keepIn K (.ref fp) = true)
    (ax : PySem.W.nsIn K mainGlobals "_law_sentence" = some (some (.ref fx)))
    (lx : K.lookup fx = some ⟨ocx, odx, .func (PySem.W.fnOf "_law_sentence" "_law_sentence" (defArgs s__law_sentence) (defBody s__law_sentence) (defScope s__law_sentence) .none kVx dcx pmx anx cdx ctx), slx⟩)
    (cx : PySem.W.codeIn K cdx "_law_sentence" = true)
    (kx : PySem.W.keepIn K (.ref fx) = true)
    (ar : PySem.W.nsIn K mainGlobals "_law_drawn" = some (some (.ref fr)))
    (lr : K.lookup fr = some ⟨ocr, odr, .func (PySem.W.fnOf "_law_drawn" "_law_drawn" (defArgs s__law_drawn) (defBody s__law_drawn) (defScope s__law_drawn) .none kVr dcr pmr anr cdr ctr), slr⟩)
    (cr : PySem.W.codeIn K cdr "_law_drawn" = true)
    (kr : PySem.W.keepIn K (.ref fr) = true)
    (as : PySem.W.nsIn K mainGlobals "_law_left" = some (some (.ref fs)))
    (ls : K.lookup fs = some ⟨ocs, ods, .func (PySem.W.fnOf "_law_left" "_law_left" (defArgs s__law_left) (defBody s__law_left) (defScope s__law_left) .none kVs dcs pms ans cds cts), sls⟩)
    (cs : PySem.W.codeIn K cds "_law_left" = true)
    (ks : PySem.W.keepIn K (.ref fs) = true)
    (au : PySem.W.nsIn K mainGlobals "_law_right" = some (some (.ref fu)))
    (lu : K.lookup fu = some ⟨ocu, odu, .func (PySem.W.fnOf "_law_right" "_law_right" (defArgs s__law_right) (defBody s__law_right) (defScope s__law_right) .none kVu dcu pmu anu cdu ctu), slu⟩)
    (cu : PySem.W.codeIn K cdu "_law_right" = true)
    (ku : PySem.W.keepIn K (.ref fu) = true)
    (ay1 : PySem.W.nsIn K mainGlobals "_law_single" = some (some (.ref fy1)))
    (ly1 : K.lookup fy1 = some ⟨ocy1, ody1, .func (PySem.W.fnOf "_law_single" "_law_single" (defArgs s__law_single) (defBody s__law_single) (defScope s__law_single) .none kVy1 dcy1 pmy1 any1 cdy1 cty1), sly1⟩)
    (cy1 : PySem.W.codeIn K cdy1 "_law_single" = true)
    (ky1 : PySem.W.keepIn K (.ref fy1) = true)
    (ay2 : PySem.W.nsIn K mainGlobals "_law_move" = some (some (.ref fy2)))
    (ly2 : K.lookup fy2 = some ⟨ocy2, ody2, .func (PySem.W.fnOf "_law_move" "_law_move" (defArgs s__law_move) (defBody s__law_move) (defScope s__law_move) .none kVy2 dcy2 pmy2 any2 cdy2 cty2), sly2⟩)
    (cy2 : PySem.W.codeIn K cdy2 "_law_move" = true)
    (ky2 : PySem.W.keepIn K (.ref fy2) = true)
    (ay4 : PySem.W.nsIn K mainGlobals "_law_sides" = some (some (.ref fy4)))
    (ly4 : K.lookup fy4 = some ⟨ocy4, ody4, .func (PySem.W.fnOf "_law_sides" "_law_sides" (defArgs s__law_sides) (defBody s__law_sides) (defScope s__law_sides) .none kVy4 dcy4 pmy4 any4 cdy4 cty4), sly4⟩)
    (cy4 : PySem.W.codeIn K cdy4 "_law_sides" = true)
    (ky4 : PySem.W.keepIn K (.ref fy4) = true)
    (ay5 : PySem.W.nsIn K mainGlobals "_law_changed" = some (some (.ref fy5)))
    (ly5 : K.lookup fy5 = some ⟨ocy5, ody5, .func (PySem.W.fnOf "_law_changed" "_law_changed" (defArgs s__law_changed) (defBody s__law_changed) (defScope s__law_changed) .none kVy5 dcy5 pmy5 any5 cdy5 cty5), sly5⟩)
    (cy5 : PySem.W.codeIn K cdy5 "_law_changed" = true)
    (ky5 : PySem.W.keepIn K (.ref fy5) = true)
    (ay7 : PySem.W.nsIn K mainGlobals "_law_beginning" = some (some (.ref fy7)))
    (ly7 : K.lookup fy7 = some ⟨ocy7, ody7, .func (PySem.W.fnOf "_law_beginning" "_law_beginning" (defArgs s__law_beginning) (defBody s__law_beginning) (defScope s__law_beginning) .none kVy7 dcy7 pmy7 any7 cdy7 cty7), sly7⟩)
    (cy7 : PySem.W.codeIn K cdy7 "_law_beginning" = true)
    (ky7 : PySem.W.keepIn K (.ref fy7) = true)
    (ar1 : PySem.W.nsIn K mainGlobals "_law_told" = some (some (.ref fr1)))
    (lr1 : K.lookup fr1 = some ⟨ocr1, odr1, .func (PySem.W.fnOf "_law_told" "_law_told" (defArgs s__law_told) (defBody s__law_told) (defScope s__law_told) .none kVr1 dcr1 pmr1 anr1 cdr1 ctr1), slr1⟩)
    (cr1 : PySem.W.codeIn K cdr1 "_law_told" = true)
    (kr1 : PySem.W.keepIn K (.ref fr1) = true)
    (ar2 : PySem.W.nsIn K mainGlobals "_law_normals" = some (some (.ref fr2)))
    (lr2 : K.lookup fr2 = some ⟨ocr2, odr2, .func (PySem.W.fnOf "_law_normals" "_law_normals" (defArgs s__law_normals) (defBody s__law_normals) (defScope s__law_normals) .none kVr2 dcr2 pmr2 anr2 cdr2 ctr2), slr2⟩)
    (cr2 : PySem.W.codeIn K cdr2 "_law_normals" = true)
    (kr2 : PySem.W.keepIn K (.ref fr2) = true)
    (ar3 : PySem.W.nsIn K mainGlobals "_law_is_step" = some (some (.ref fr3)))
    (lr3 : K.lookup fr3 = some ⟨ocr3, odr3, .func (PySem.W.fnOf "_law_is_step" "_law_is_step" (defArgs s__law_is_step) (defBody s__law_is_step) (defScope s__law_is_step) .none kVr3 dcr3 pmr3 anr3 cdr3 ctr3), slr3⟩)
    (cr3 : PySem.W.codeIn K cdr3 "_law_is_step" = true)
    (kr3 : PySem.W.keepIn K (.ref fr3) = true)
    (ar4 : PySem.W.nsIn K mainGlobals "_law_path" = some (some (.ref fr4)))
    (lr4 : K.lookup fr4 = some ⟨ocr4, odr4, .func (PySem.W.fnOf "_law_path" "_law_path" (defArgs s__law_path) (defBody s__law_path) (defScope s__law_path) .none kVr4 dcr4 pmr4 anr4 cdr4 ctr4), slr4⟩)
    (cr4 : PySem.W.codeIn K cdr4 "_law_path" = true)
    (kr4 : PySem.W.keepIn K (.ref fr4) = true)
    (ar5 : PySem.W.nsIn K mainGlobals "_law_is_led" = some (some (.ref fr5)))
    (lr5 : K.lookup fr5 = some ⟨ocr5, odr5, .func (PySem.W.fnOf "_law_is_led" "_law_is_led" (defArgs s__law_is_led) (defBody s__law_is_led) (defScope s__law_is_led) .none kVr5 dcr5 pmr5 anr5 cdr5 ctr5), slr5⟩)
    (cr5 : PySem.W.codeIn K cdr5 "_law_is_led" = true)
    (kr5 : PySem.W.keepIn K (.ref fr5) = true)
    (ar6 : PySem.W.nsIn K mainGlobals "_law_free" = some (some (.ref fr6)))
    (lr6 : K.lookup fr6 = some ⟨ocr6, odr6, .func (PySem.W.fnOf "_law_free" "_law_free" (defArgs s__law_free) (defBody s__law_free) (defScope s__law_free) .none kVr6 dcr6 pmr6 anr6 cdr6 ctr6), slr6⟩)
    (cr6 : PySem.W.codeIn K cdr6 "_law_free" = true)
    (kr6 : PySem.W.keepIn K (.ref fr6) = true)
    (ar7 : PySem.W.nsIn K mainGlobals "_law_wander" = some (some (.ref fr7)))
    (lr7 : K.lookup fr7 = some ⟨ocr7, odr7, .func (PySem.W.fnOf "_law_wander" "_law_wander" (defArgs s__law_wander) (defBody s__law_wander) (defScope s__law_wander) .none kVr7 dcr7 pmr7 anr7 cdr7 ctr7), slr7⟩)
    (cr7 : PySem.W.codeIn K cdr7 "_law_wander" = true)
    (kr7 : PySem.W.keepIn K (.ref fr7) = true)
    (ar8 : PySem.W.nsIn K mainGlobals "_law_spoilt" = some (some (.ref fr8)))
    (lr8 : K.lookup fr8 = some ⟨ocr8, odr8, .func (PySem.W.fnOf "_law_spoilt" "_law_spoilt" (defArgs s__law_spoilt) (defBody s__law_spoilt) (defScope s__law_spoilt) .none kVr8 dcr8 pmr8 anr8 cdr8 ctr8), slr8⟩)
    (cr8 : PySem.W.codeIn K cdr8 "_law_spoilt" = true)
    (kr8 : PySem.W.keepIn K (.ref fr8) = true)
    (ar9 : PySem.W.nsIn K mainGlobals "_law_others_refused" = some (some (.ref fr9)))
    (lr9 : K.lookup fr9 = some ⟨ocr9, odr9, .func (PySem.W.fnOf "_law_others_refused" "_law_others_refused" (defArgs s__law_others_refused) (defBody s__law_others_refused) (defScope s__law_others_refused) .none kVr9 dcr9 pmr9 anr9 cdr9 ctr9), slr9⟩)
    (cr9 : PySem.W.codeIn K cdr9 "_law_others_refused" = true)
    (kr9 : PySem.W.keepIn K (.ref fr9) = true)
    (a9 : PySem.W.nsIn K mainGlobals "law" = some (some (.ref f9)))
    (l9 : K.lookup f9 = some ⟨oc9, od9, .func (PySem.W.fnOf "law" "law" (defArgs s_law) (defBody s_law) (defScope s_law) .none kV9 dc9 pm9 an9 cd9 ct9), sl9⟩)
    (c9 : PySem.W.codeIn K cd9 "law" = true)
    (k9 : PySem.W.keepIn K (.ref f9) = true)
    (aB : PySem.W.nsIn K mainGlobals "BadLetters" = some (some (.ref CB)))
    (iB : PySem.W.findIn K (.ref CB) "__init__" = some (some (.ref fB)))
    (lB : K.lookup fB = some ⟨ocB, odB, .func (PySem.W.fnOf "__init__" "BadLetters.__init__" (defArgs s_BadLetters_init) (defBody s_BadLetters_init) (defScope s_BadLetters_init) .none kVB dcB pmB anB cdB ctB), slB⟩)
    (cB : PySem.W.codeIn K cdB "BadLetters.__init__" = true)
    (kB : PySem.W.keepIn K (.ref fB) = true)
    (kcB : PySem.W.keepIn K (.ref CB) = true)
    (saB : PySem.W.findIn K (.ref CB) "__setattr__" = some (some (.builtin "object.__setattr__")))
    (xB : K.lookup CB = some (excClassObj nmB qB CB NB bsB bmB true snB subB abB colB ddB m0B m1B m2B m3B m5B "ValueError.__new__"))
    (vB : PySem.HandSPX.refsVE bmB = true)
    (gaB : PySem.W.findIn K (.ref CB) "__getattribute__" = some (some (.builtin "BaseException.__getattribute__")))
    (ggB : PySem.W.findIn K (.ref CB) "__getattr__" = some none)
    (eCB : PySem.W.subIn K (.ref CB) (.type "BaseException") = some true)
    (tCB : PySem.W.typeIn K (.ref CB) = some (.type "type"))
    (tfB : PySem.W.typeIn K (.ref fB) = some (.type "function"))
    (hCB : PySem.W.hasDictIn K CB = true)
    (nB0 : PySem.W.findIn K (.ref CB) "index" = some none)
    (aM : PySem.W.nsIn K mainGlobals "TooMany" = some (some (.ref CM)))
    (iM : PySem.W.findIn K (.ref CM) "__init__" = some (some (.ref fM)))
    (lM : K.lookup fM = some ⟨ocM, odM, .func (PySem.W.fnOf "__init__" "TooMany.__init__" (defArgs s_TooMany_init) (defBody s_TooMany_init) (defScope s_TooMany_init) .none kVM dcM pmM anM cdM ctM), slM⟩)
    (cM : PySem.W.codeIn K cdM "TooMany.__init__" = true)
    (kM : PySem.W.keepIn K (.ref fM) = true)
    (kcM : PySem.W.keepIn K (.ref CM) = true)
    (saM : PySem.W.findIn K (.ref CM) "__setattr__" = some (some (.builtin "object.__setattr__")))
    (xM : K.lookup CM = some (excClassObj nmM qM CM NM bsM bmM true snM subM abM colM ddM m0M m1M m2M m3M m5M "ValueError.__new__"))
    (vM : PySem.HandSPX.refsVE bmM = true)
    (gaM : PySem.W.findIn K (.ref CM) "__getattribute__" = some (some (.builtin "BaseException.__getattribute__")))
    (ggM : PySem.W.findIn K (.ref CM) "__getattr__" = some none)
    (eCM : PySem.W.subIn K (.ref CM) (.type "BaseException") = some true)
    (tCM : PySem.W.typeIn K (.ref CM) = some (.type "type"))
    (tfM : PySem.W.typeIn K (.ref fM) = some (.type "function"))
    (hCM : PySem.W.hasDictIn K CM = true)
    (nM0 : PySem.W.findIn K (.ref CM) "what" = some none)
    (nM1 : PySem.W.findIn K (.ref CM) "many" = some none)
    (nM2 : PySem.W.findIn K (.ref CM) "most" = some none)
    (aT : PySem.W.nsIn K mainGlobals "BadLetter" = some (some (.ref CT)))
    (iT : PySem.W.findIn K (.ref CT) "__init__" = some (some (.ref fT)))
    (lT : K.lookup fT = some ⟨ocT, odT, .func (PySem.W.fnOf "__init__" "BadLetter.__init__" (defArgs s_BadLetter_init) (defBody s_BadLetter_init) (defScope s_BadLetter_init) .none kVT dcT pmT anT cdT ctT), slT⟩)
    (cT : PySem.W.codeIn K cdT "BadLetter.__init__" = true)
    (kT : PySem.W.keepIn K (.ref fT) = true)
    (kcT : PySem.W.keepIn K (.ref CT) = true)
    (saT : PySem.W.findIn K (.ref CT) "__setattr__" = some (some (.builtin "object.__setattr__")))
    (xT : K.lookup CT = some (excClassObj nmT qT CT NT bsT bmT true snT subT abT colT ddT m0T m1T m2T m3T m5T "ValueError.__new__"))
    (vT : PySem.HandSPX.refsVE bmT = true)
    (gaT : PySem.W.findIn K (.ref CT) "__getattribute__" = some (some (.builtin "BaseException.__getattribute__")))
    (ggT : PySem.W.findIn K (.ref CT) "__getattr__" = some none)
    (eCT : PySem.W.subIn K (.ref CT) (.type "BaseException") = some true)
    (tCT : PySem.W.typeIn K (.ref CT) = some (.type "type"))
    (tfT : PySem.W.typeIn K (.ref fT) = some (.type "function"))
    (hCT : PySem.W.hasDictIn K CT = true)
    (nT0 : PySem.W.findIn K (.ref CT) "index" = some none)
    (aZ : PySem.W.nsIn K mainGlobals "BadKind" = some (some (.ref CZ)))
    (exZ : PySem.W.excIn K CZ [Value.type "ValueError", Value.type "Exception", Value.type "BaseException", Value.type "object"] "ValueError.__new__" = true)
    (kcZ : PySem.W.keepIn K (.ref CZ) = true)
    (eCZ : PySem.W.subIn K (.ref CZ) (.type "BaseException") = some true)
    (tCZ : PySem.W.typeIn K (.ref CZ) = some (.type "type"))
    (aN : PySem.W.nsIn K mainGlobals "SaysNothing" = some (some (.ref CN)))
    (exN : PySem.W.excIn K CN [Value.type "ValueError", Value.type "Exception", Value.type "BaseException", Value.type "object"] "ValueError.__new__" = true)
    (kcN : PySem.W.keepIn K (.ref CN) = true)
    (eCN : PySem.W.subIn K (.ref CN) (.type "BaseException") = some true)
    (tCN : PySem.W.typeIn K (.ref CN) = some (.type "type"))
    (aL : PySem.W.nsIn K mainGlobals "Letters" = some (some (.ref CL)))
    (kcL : PySem.W.keepIn K (.ref CL) = true)
    (saL : PySem.W.findIn K (.ref CL) "__setattr__" = some (some (.builtin "object.__setattr__")))
    (pgL : PySem.W.plainGet K CL Str.empty = true)
    (hdL : PySem.W.hasDictIn K CL = true)
    (poL : PySem.W.plainOver K CL = true)
    (mkL : PySem.W.makesIn K CL = true)
    (nL0 : PySem.W.findIn K (.ref CL) "words" = some none)
    (icL : PySem.W.isClsIn K CL = true)
    (haL : PySem.W.findIn K (.ref CL) "__class__" = some (some (.builtin "object.__class__")))
    (hmL : PySem.W.mroIn K CL (.type "object") = some true)
    (iL : PySem.W.findIn K (.ref CL) "__init__" = some (some (.ref fL)))
    (lL : K.lookup fL = some ⟨ocL, odL, .func (PySem.W.fnOf "__init__" "Letters.__init__" (defArgs s_Letters_init) (defBody s_Letters_init) (defScope s_Letters_init) .none kVL dcL pmL anL cdL ctL), slL⟩)
    (cL : PySem.W.codeIn K cdL "Letters.__init__" = true)
    (kL : PySem.W.keepIn K (.ref fL) = true)
    (isL : PySem.W.isFn K (.ref fL) = true)
    (iH : PySem.W.findIn K (.ref CL) "__contains__" = some (some (.ref fH)))
    (lH : K.lookup fH = some ⟨ocH, odH, .func (PySem.W.fnOf "__contains__" "Letters.__contains__" (defArgs s_Has) (defBody s_Has) (defScope s_Has) .none kVH dcH pmH anH cdH ctH), slH⟩)
    (cH : PySem.W.codeIn K cdH "Letters.__contains__" = true)
    (kH : PySem.W.keepIn K (.ref fH) = true)
    (isH : PySem.W.isFn K (.ref fH) = true)
    (iR : PySem.W.findIn K (.ref CL) "rank" = some (some (.ref fR)))
    (lR : K.lookup fR = some ⟨ocR, odR, .func (PySem.W.fnOf "rank" "Letters.rank" (defArgs s_Rank) (defBody s_Rank) (defScope s_Rank) .none kVR dcR pmR anR cdR ctR), slR⟩)
    (cR : PySem.W.codeIn K cdR "Letters.rank" = true)
    (kR : PySem.W.keepIn K (.ref fR) = true)
    (isR : PySem.W.isFn K (.ref fR) = true)
    (iQ : PySem.W.findIn K (.ref CL) "__eq__" = some (some (.ref fQ)))
    (lQ : K.lookup fQ = some ⟨ocQ, odQ, .func (PySem.W.fnOf "__eq__" "Letters.__eq__" (defArgs s_Eq) (defBody s_Eq) (defScope s_Eq) .none kVQ dcQ pmQ anQ cdQ ctQ), slQ⟩)
    (cQ : PySem.W.codeIn K cdQ "Letters.__eq__" = true)
    (kQ : PySem.W.keepIn K (.ref fQ) = true)
    (isQ : PySem.W.isFn K (.ref fQ) = true)
    (aY : PySem.W.nsIn K mainGlobals "History" = some (some (.ref CY)))
    (kcY : PySem.W.keepIn K (.ref CY) = true)
    (saY : PySem.W.findIn K (.ref CY) "__setattr__" = some (some (.builtin "object.__setattr__")))
    (pgY : PySem.W.plainGet K CY Str.empty = true)
    (hdY : PySem.W.hasDictIn K CY = true)
    (poY : PySem.W.plainOver K CY = true)
    (mkY : PySem.W.makesIn K CY = true)
    (nY0 : PySem.W.findIn K (.ref CY) "letters" = some none)
    (nY1 : PySem.W.findIn K (.ref CY) "beginning" = some none)
    (nY2 : PySem.W.findIn K (.ref CY) "runs" = some none)
    (nY3 : PySem.W.findIn K (.ref CY) "size" = some none)
    (nY4 : PySem.W.findIn K (.ref CY) "last" = some none)
    (icY : PySem.W.isClsIn K CY = true)
    (haY : PySem.W.findIn K (.ref CY) "__class__" = some (some (.builtin "object.__class__")))
    (hmY : PySem.W.mroIn K CY (.type "object") = some true)
    (iY : PySem.W.findIn K (.ref CY) "__init__" = some (some (.ref fY)))
    (lY : K.lookup fY = some ⟨ocY, odY, .func (PySem.W.fnOf "__init__" "History.__init__" (defArgs s_Hist_init) (defBody s_Hist_init) (defScope s_Hist_init) (.ref TY) kVY dcY pmY anY cdY ctY), slY⟩)
    (cY : PySem.W.codeIn K cdY "History.__init__" = true)
    (kY : PySem.W.keepIn K (.ref fY) = true)
    (dTY : K.lookup TY = some oTY)
    (dUY : oTY.data = .seq [Value.ref aDY].toArray nTY)
    (dDY : K.lookup aDY = some oDY)
    (dEY : oDY.cls = .type "tuple")
    (dGY : oDY.data = .seq #[] nDY)
    (isY : PySem.W.isFn K (.ref fY) = true)
    (iW : PySem.W.findIn K (.ref CY) "word" = some (some (.ref fW)))
    (lW : K.lookup fW = some ⟨ocW, odW, .func (PySem.W.fnOf "word" "History.word" (defArgs s_Word) (defBody s_Word) (defScope s_Word) .none kVW dcW pmW anW cdW ctW), slW⟩)
    (cW : PySem.W.codeIn K cdW "History.word" = true)
    (kW : PySem.W.keepIn K (.ref fW) = true)
    (isW : PySem.W.isFn K (.ref fW) = true)
    (rdY : PySem.W.readsIn K CY (.type "type") = true)
    (cgY : PySem.W.specialIn K (.ref CY) "__getattribute__" = some (some (.builtin "type.__getattribute__")))
    (caP : PySem.W.findCls K (.ref CY) (.type "type") "spelled" = some (.get (.builtin "classmethod.__get__") (.ref pP) .none (.ref CY)))
    (crP : PySem.W.recIn K pP "classmethod" = some (.ref fP :: rsP))
    (cfP : PySem.W.fnIn K fP = true)
    (lP : K.lookup fP = some ⟨ocP, odP, .func (PySem.W.fnOf "spelled" "History.spelled" (defArgs s_Spelled) (defBody s_Spelled) (defScope s_Spelled) .none kVP dcP pmP anP cdP ctP), slP⟩)
    (cP : PySem.W.codeIn K cdP "History.spelled" = true)
    (kP : PySem.W.keepIn K (.ref fP) = true)
    (aS : PySem.W.nsIn K mainGlobals "Sentence" = some (some (.ref CS)))
    (kcS : PySem.W.keepIn K (.ref CS) = true)
    (saS : PySem.W.findIn K (.ref CS) "__setattr__" = some (some (.builtin "object.__setattr__")))
    (pgS : PySem.W.plainGet K CS Str.empty = true)
    (hdS : PySem.W.hasDictIn K CS = true)
    (poS : PySem.W.plainOver K CS = true)
    (mkS : PySem.W.makesIn K CS = true)
    (nS0 : PySem.W.findIn K (.ref CS) "letters" = some none)
    (nS1 : PySem.W.findIn K (.ref CS) "kind" = some none)
    (nS2 : PySem.W.findIn K (.ref CS) "first" = some none)
    (nS3 : PySem.W.findIn K (.ref CS) "second" = some none)
    (icS : PySem.W.isClsIn K CS = true)
    (haS : PySem.W.findIn K (.ref CS) "__class__" = some (some (.builtin "object.__class__")))
    (hmS : PySem.W.mroIn K CS (.type "object") = some true)
    (iS : PySem.W.findIn K (.ref CS) "__init__" = some (some (.ref fS)))
    (lS : K.lookup fS = some ⟨ocS, odS, .func (PySem.W.fnOf "__init__" "Sentence.__init__" (defArgs s_Sen_init) (defBody s_Sen_init) (defScope s_Sen_init) (.ref TS) kVS dcS pmS anS cdS ctS), slS⟩)
    (cS : PySem.W.codeIn K cdS "Sentence.__init__" = true)
    (kS : PySem.W.keepIn K (.ref fS) = true)
    (dTS : K.lookup TS = some oTS)
    (dUS : oTS.data = .seq [Value.none].toArray nTS)
    (isS : PySem.W.isFn K (.ref fS) = true)
    (aK : PySem.W.nsIn K mainGlobals "CheckedRuns" = some (some (.ref CK)))
    (kcK : PySem.W.keepIn K (.ref CK) = true)
    (saK : PySem.W.findIn K (.ref CK) "__setattr__" = some (some (.builtin "object.__setattr__")))
    (pgK : PySem.W.plainGet K CK Str.empty = true)
    (hdK : PySem.W.hasDictIn K CK = true)
    (poK : PySem.W.plainOver K CK = true)
    (mkK : PySem.W.makesIn K CK = true)
    (nK0 : PySem.W.findIn K (.ref CK) "runs" = some none)
    (icK : PySem.W.isClsIn K CK = true)
    (haK : PySem.W.findIn K (.ref CK) "__class__" = some (some (.builtin "object.__class__")))
    (hmK : PySem.W.mroIn K CK (.type "object") = some true)
    (tcK : PySem.W.typeIn K (.ref CK) = some (.type "type"))
    (iK : PySem.W.findIn K (.ref CK) "__init__" = some (some (.ref fK)))
    (lK : K.lookup fK = some ⟨ocK, odK, .func (PySem.W.fnOf "__init__" "CheckedRuns.__init__" (defArgs s_Chk_init) (defBody s_Chk_init) (defScope s_Chk_init) .none kVK dcK pmK anK cdK ctK), slK⟩)
    (cK : PySem.W.codeIn K cdK "CheckedRuns.__init__" = true)
    (kK : PySem.W.keepIn K (.ref fK) = true)
    (isK : PySem.W.isFn K (.ref fK) = true)
    (g_gS : PySem.W.nsIn K mainGlobals "SMALL_LETTERS" = some (some (.str "abcdefghijklmnopqrstuvwxyz" gS)))
    (g_gW : PySem.W.nsIn K mainGlobals "WORD_SIGNS" = some (some (.str "abcdefghijklmnopqrstuvwxyz0123456789" gW)))
    (g_gM : PySem.W.nsIn K mainGlobals "MOST_SIGNS" = some (some (.int 12 gM)))
    (g_gL : PySem.W.nsIn K mainGlobals "MOST_LETTERS" = some (some (.int 12 gL)))
    (g_gB : PySem.W.nsIn K mainGlobals "BEGINNINGS" = some (some (.ref T_gB)))
    (gl_gB : K.lookup T_gB = some o_gB)
    (gc_gB : o_gB.cls = .type "tuple")
    (gd_gB : o_gB.data = .seq j_gB n_gB)
    (gs_gB : j_gB.size ≤ sizeLine)
    (gv_gB : Vals [.str newW, .str foundW] j_gB.toList)
    (g_gK : PySem.W.nsIn K mainGlobals "KINDS" = some (some (.ref T_gK)))
    (gl_gK : K.lookup T_gK = some o_gK)
    (gc_gK : o_gK.cls = .type "tuple")
    (gd_gK : o_gK.data = .seq j_gK n_gK)
    (gs_gK : j_gK.size ≤ sizeLine)
    (gv_gK : Vals [.str ("idle" : Str), .str ("kept" : Str), .str ("still" : Str), .str ("over" : Str), .str ("undone" : Str), .str ("alike" : Str)] j_gK.toList)
    (g_gN : PySem.W.nsIn K mainGlobals "LONE_KINDS" = some (some (.ref T_gN)))
    (gl_gN : K.lookup T_gN = some o_gN)
    (gc_gN : o_gN.cls = .type "tuple")
    (gd_gN : o_gN.data = .seq j_gN n_gN)
    (gs_gN : j_gN.size ≤ sizeLine)
    (gv_gN : Vals [.str ("idle" : Str), .str ("still" : Str)] j_gN.toList)
    (g_gC : PySem.W.nsIn K mainGlobals "MOST_COUNT" = some (some (.int 1000000000000000000000000000000 gC)))
    (g_gR : PySem.W.nsIn K mainGlobals "MOST_RUNS" = some (some (.int 400 gR)))
    (g_gP : PySem.W.nsIn K mainGlobals "MOST_SPELLED" = some (some (.int 2000 gP)))
    (z0 : PySem.W.nsIn K mainGlobals "int" = some none)
    (z1 : PySem.W.nsIn K mainGlobals "len" = some none)
    (z2 : PySem.W.nsIn K mainGlobals "abs" = some none)
    (z3 : PySem.W.nsIn K mainGlobals "list" = some none)
    (z4 : PySem.W.nsIn K mainGlobals "range" = some none)
    (z5 : PySem.W.nsIn K mainGlobals "min" = some none)
    (z6 : PySem.W.nsIn K mainGlobals "str" = some none)
    (z7 : PySem.W.nsIn K mainGlobals "isinstance" = some none)
    (z8 : PySem.W.nsIn K mainGlobals "all" = some none)
    (z9 : PySem.W.nsIn K mainGlobals "enumerate" = some none)
    (z10 : PySem.W.nsIn K mainGlobals "tuple" = some none)
    (z11 : PySem.W.nsIn K mainGlobals "repr" = some none)
    (z12 : PySem.W.nsIn K mainGlobals "dict" = some none)
    (z13 : PySem.W.nsIn K mainGlobals "bool" = some none)
    (z14 : PySem.W.nsIn K mainGlobals "sum" = some none)
    (z15 : PySem.W.nsIn K mainGlobals "any" = some none)
    (z16 : PySem.W.nsIn K mainGlobals "max" = some none)
    (xL : K.lookup CL = some (excClassObj nmL qL CL NL bsL bmL hdctL snL subL abL colL ddL m0L m1L m2L m3L m5L newL))
    (vL : bmL = [.type "object"])
    (xNL : K.lookup NL = some oNL)
    (xAL : oNL.data = .dict esNL epNL)
    (xBL : StrKeys esNL)
    (xCL : nsFind esNL "__eq__" = some (.ref fQ))
    (xDL : nsFind esNL "__ne__" = none)
    (base : Heap) (kb : K.In base) (gb : base.Ns mainGlobals mg) (s₁ : Shared) (H : Hp) (a : Addr) (ns : List Int) (e0 : Env0 P w K mg base callerA [] s₁ H) (hS : SqL K H a (ns.map V.int)) (hl : ns.length ≤ 63) :
    codeAny (model P w) callerA (.call (.ref fa) ⟨[.ref a], []⟩) (CR CX0 [] P w H s₁ (fun v _ => v = .bl true) E0) s₁ := by
  have e := hfa.symm.trans (PySem.W.mg_of X G a9)
  cases e
  have T : Blt mg := ⟨PySem.W.mg_none_of X G z0, PySem.W.mg_none_of X G z1, PySem.W.mg_none_of X G z2, PySem.W.mg_none_of X G z3, PySem.W.mg_none_of X G z4, PySem.W.mg_none_of X G z5, PySem.W.mg_none_of X G z6, PySem.W.mg_none_of X G z7, PySem.W.mg_none_of X G z8, PySem.W.mg_none_of X G z9, PySem.W.mg_none_of X G z10, PySem.W.mg_none_of X G z11⟩
  have F0 := fun_mk (st := s_is_short_word) l0 c0 k0
  have b0 := F0.binds (ps := ["value"]) fun _ _ _ _ _ _ us hl => match us, hl with | [_], _ => rfl
  have A0 : At K mg "is_short_word" f0 _ ["value"] := ⟨PySem.W.mg_of X G a0, k0, b0⟩
  have F1 := fun_mk (st := s_copied) l1 c1 k1
  have b1 := F1.binds (ps := ["value"]) fun _ _ _ _ _ _ us hl => match us, hl with | [_], _ => rfl
  have A1 : At K mg "copied" f1 _ ["value"] := ⟨PySem.W.mg_of X G a1, k1, b1⟩
  have F2 := fun_mk (st := s_is_letter) l2 c2 k2
  have b2 := F2.binds (ps := ["value"]) fun _ _ _ _ _ _ us hl => match us, hl with | [_], _ => rfl
  have A2 : At K mg "is_letter" f2 _ ["value"] := ⟨PySem.W.mg_of X G a2, k2, b2⟩
  have F3 := fun_mk (st := s__law_pen) l3 c3 k3
  have b3 := F3.binds (ps := ["_law_script"]) fun _ _ _ _ _ _ us hl => match us, hl with | [_], _ => rfl
  have A3 : At K mg "_law_pen" f3 _ ["_law_script"] := ⟨PySem.W.mg_of X G a3, k3, b3⟩
  have F4 := fun_mk (st := s__law_draw) l4 c4 k4
  have b4 := F4.binds (ps := ["_law_pen_here", "_law_many"]) fun _ _ _ _ _ _ us hl => match us, hl with | [_, _], _ => rfl
  have A4 : At K mg "_law_draw" f4 _ ["_law_pen_here", "_law_many"] := ⟨PySem.W.mg_of X G a4, k4, b4⟩
  have F5 := fun_mk (st := s__law_pick) l5 c5 k5
  have b5 := F5.binds (ps := ["_law_pen_here", "_law_options"]) fun _ _ _ _ _ _ us hl => match us, hl with | [_, _], _ => rfl
  have A5 : At K mg "_law_pick" f5 _ ["_law_pen_here", "_law_options"] := ⟨PySem.W.mg_of X G a5, k5, b5⟩
  have F6 := fun_mk (st := s__law_letters) l6 c6 k6
  have b6 := F6.binds (ps := ["_law_pen_here", "_law_many"]) fun _ _ _ _ _ _ us hl => match us, hl with | [_, _], _ => rfl
  have A6 : At K mg "_law_letters" f6 _ ["_law_pen_here", "_law_many"] := ⟨PySem.W.mg_of X G a6, k6, b6⟩
  have Fw := fun_mk (st := s_is_whole) lw cw kw
  have bw := Fw.binds (ps := ["value"]) fun _ _ _ _ _ _ us hl => match us, hl with | [_], _ => rfl
  have Aw : At K mg "is_whole" fw _ ["value"] := ⟨PySem.W.mg_of X G aw, kw, bw⟩
  have Fv := fun_mk (st := s_is_list_of) lv cv kv
  have bv := Fv.binds (ps := ["value", "many"]) fun _ _ _ _ _ _ us hl => match us, hl with | [_, _], _ => rfl
  have Av : At K mg "is_list_of" fv _ ["value", "many"] := ⟨PySem.W.mg_of X G av, kv, bv⟩
  have Fc := fun_mk (st := s_joined) lc cc kc
  have bc := Fc.binds (ps := ["runs"]) fun _ _ _ _ _ _ us hl => match us, hl with | [_], _ => rfl
  have Ac : At K mg "joined" fc _ ["runs"] := ⟨PySem.W.mg_of X G ac, kc, bc⟩
  have Fd := fun_mk (st := s_spliced) ld cd kd
  have bd := Fd.binds (ps := ["head", "tail"]) fun _ _ _ _ _ _ us hl => match us, hl with | [_, _], _ => rfl
  have Ad : At K mg "spliced" fd _ ["head", "tail"] := ⟨PySem.W.mg_of X G ad, kd, bd⟩
  have Ff := fun_mk (st := s_size_of) lf cf kf
  have bf := Ff.binds (ps := ["runs"]) fun _ _ _ _ _ _ us hl => match us, hl with | [_], _ => rfl
  have Af : At K mg "size_of" ff _ ["runs"] := ⟨PySem.W.mg_of X G af, kf, bf⟩
  have Fg := fun_mk (st := s_is_beginning) lg cg kg
  have bg := Fg.binds (ps := ["value"]) fun _ _ _ _ _ _ us hl => match us, hl with | [_], _ => rfl
  have Ag : At K mg "is_beginning" fg _ ["value"] := ⟨PySem.W.mg_of X G ag, kg, bg⟩
  have Fh := fun_mk (st := s_require_runs) lh ch kh
  have bh := Fh.binds (ps := ["letters", "runs"]) fun _ _ _ _ _ _ us hl => match us, hl with | [_, _], _ => rfl
  have Ah : At K mg "require_runs" fh _ ["letters", "runs"] := ⟨PySem.W.mg_of X G ah, kh, bh⟩
  have Fi := fun_mk (st := s_require_beginning) li ci ki
  have bi := Fi.binds (ps := ["value"]) fun _ _ _ _ _ _ us hl => match us, hl with | [_], _ => rfl
  have Ai : At K mg "require_beginning" fi _ ["value"] := ⟨PySem.W.mg_of X G ai, ki, bi⟩
  have Fk := fun_mk (st := s_require_count) lk ck kk
  have bk := Fk.binds (ps := ["index", "value"]) fun _ _ _ _ _ _ us hl => match us, hl with | [_, _], _ => rfl
  have Ak : At K mg "require_count" fk _ ["index", "value"] := ⟨PySem.W.mg_of X G ak, kk, bk⟩
  have Fj := fun_mk (st := s_extended) lj cj kj
  have bj := Fj.binds (ps := ["letters", "kept", "runs"]) fun _ _ _ _ _ _ us hl => match us, hl with | [_, _, _], _ => rfl
  have Aj : At K mg "extended" fj _ ["letters", "kept", "runs"] := ⟨PySem.W.mg_of X G aj, kj, bj⟩
  have F7 := fun_mk (st := s_parted) l7 c7 k7
  have b7 := F7.binds (ps := ["runs", "size"]) fun _ _ _ _ _ _ us hl => match us, hl with | [_, _], _ => rfl
  have A7 : At K mg "parted" f7 _ ["runs", "size"] := ⟨PySem.W.mg_of X G a7, k7, b7⟩
  have Fm := fun_mk (st := s_is_due) lm cm km
  have bm := Fm.binds (ps := ["letters", "value", "has_letter"]) fun _ _ _ _ _ _ us hl => match us, hl with | [_, _, _], _ => rfl
  have Am : At K mg "is_due" fm _ ["letters", "value", "has_letter"] := ⟨PySem.W.mg_of X G am, km, bm⟩
  have Fn := fun_mk (st := s_sides) ln cn kn
  have bn := Fn.binds (ps := ["kind", "first", "second", "times"]) fun _ _ _ _ _ _ us hl => match us, hl with | [_, _, _, _], _ => rfl
  have An : At K mg "sides" fn _ ["kind", "first", "second", "times"] := ⟨PySem.W.mg_of X G an, kn, bn⟩
  have Fo := fun_mk (st := s_one_form) lo co ko
  have bo := Fo.binds (ps := ["letters", "kind", "first", "second"]) fun _ _ _ _ _ _ us hl => match us, hl with | [_, _, _, _], _ => rfl
  have Ao : At K mg "one_form" fo _ ["letters", "kind", "first", "second"] := ⟨PySem.W.mg_of X G ao, ko, bo⟩
  have Fq1 := fun_mk (st := s_is_step) lq1 cq1 kq1
  have bq1 := Fq1.binds (ps := ["value", "many"]) fun _ _ _ _ _ _ us hl => match us, hl with | [_, _], _ => rfl
  have Aq1 : At K mg "is_step" fq1 _ ["value", "many"] := ⟨PySem.W.mg_of X G aq1, kq1, bq1⟩
  have Fq2 := fun_mk (st := s_drift) lq2 cq2 kq2
  have bq2 := Fq2.binds (ps := ["kind", "way"]) fun _ _ _ _ _ _ us hl => match us, hl with | [_, _], _ => rfl
  have Aq2 : At K mg "drift" fq2 _ ["kind", "way"] := ⟨PySem.W.mg_of X G aq2, kq2, bq2⟩
  have Fq3 := fun_mk (st := s_exchanged) lq3 cq3 kq3
  have bq3 := Fq3.binds (ps := ["runs", "place", "taken", "put"]) fun _ _ _ _ _ _ us hl => match us, hl with | [_, _, _, _], _ => rfl
  have Aq3 : At K mg "exchanged" fq3 _ ["runs", "place", "taken", "put"] := ⟨PySem.W.mg_of X G aq3, kq3, bq3⟩
  have Fq4 := fun_mk (st := s_stepped) lq4 cq4 kq4
  have bq4 := Fq4.binds (ps := ["beginning", "runs", "sentence", "step"]) fun _ _ _ _ _ _ us hl => match us, hl with | [_, _, _, _], _ => rfl
  have Aq4 : At K mg "stepped" fq4 _ ["beginning", "runs", "sentence", "step"] := ⟨PySem.W.mg_of X G aq4, kq4, bq4⟩
  have Fq5 := fun_mk (st := s_leads) lq5 cq5 kq5
  have bq5 := Fq5.binds (ps := ["sentences", "first", "last", "steps"]) fun _ _ _ _ _ _ us hl => match us, hl with | [_, _, _, _], _ => rfl
  have Aq5 : At K mg "leads" fq5 _ ["sentences", "first", "last", "steps"] := ⟨PySem.W.mg_of X G aq5, kq5, bq5⟩
  have Fq6 := fun_mk (st := s_is_chain) lq6 cq6 kq6
  have bq6 := Fq6.binds (ps := ["sentences", "first", "last", "steps"]) fun _ _ _ _ _ _ us hl => match us, hl with | [_, _, _, _], _ => rfl
  have Aq6 : At K mg "is_chain" fq6 _ ["sentences", "first", "last", "steps"] := ⟨PySem.W.mg_of X G aq6, kq6, bq6⟩
  have Fg4 := fun_mk (st := s__law_joined) lg4 cg4 kg4
  have bg4 := Fg4.binds (ps := ["_law_runs"]) fun _ _ _ _ _ _ us hl => match us, hl with | [_], _ => rfl
  have Ag4 : At K mg "_law_joined" fg4 _ ["_law_runs"] := ⟨PySem.W.mg_of X G ag4, kg4, bg4⟩
  have Fg5 := fun_mk (st := s__law_size) lg5 cg5 kg5
  have bg5 := Fg5.binds (ps := ["_law_runs"]) fun _ _ _ _ _ _ us hl => match us, hl with | [_], _ => rfl
  have Ag5 : At K mg "_law_size" fg5 _ ["_law_runs"] := ⟨PySem.W.mg_of X G ag5, kg5, bg5⟩
  have Fg6 := fun_mk (st := s__law_cut) lg6 cg6 kg6
  have bg6 := Fg6.binds (ps := ["_law_runs", "_law_size_here"]) fun _ _ _ _ _ _ us hl => match us, hl with | [_, _], _ => rfl
  have Ag6 : At K mg "_law_cut" fg6 _ ["_law_runs", "_law_size_here"] := ⟨PySem.W.mg_of X G ag6, kg6, bg6⟩
  have Fg7 := fun_mk (st := s__law_as_runs) lg7 cg7 kg7
  have bg7 := Fg7.binds (ps := ["_law_word_here"]) fun _ _ _ _ _ _ us hl => match us, hl with | [_], _ => rfl
  have Ag7 : At K mg "_law_as_runs" fg7 _ ["_law_word_here"] := ⟨PySem.W.mg_of X G ag7, kg7, bg7⟩
  have Fg8 := fun_mk (st := s__law_word) lg8 cg8 kg8
  have bg8 := Fg8.binds (ps := ["_law_pen_here", "_law_letters_here", "_law_highest"]) fun _ _ _ _ _ _ us hl => match us, hl with | [_, _, _], _ => rfl
  have Ag8 : At K mg "_law_word" fg8 _ ["_law_pen_here", "_law_letters_here", "_law_highest"] := ⟨PySem.W.mg_of X G ag8, kg8, bg8⟩
  have Fp := fun_mk (st := s__law_normal) lp cp kp
  have bp := Fp.binds (ps := ["_law_letters_here", "_law_triple"]) fun _ _ _ _ _ _ us hl => match us, hl with | [_, _], _ => rfl
  have Ap : At K mg "_law_normal" fp _ ["_law_letters_here", "_law_triple"] := ⟨PySem.W.mg_of X G ap, kp, bp⟩
  have Fx := fun_mk (st := s__law_sentence) lx cx kx
  have bx := Fx.binds (ps := ["_law_letters_here", "_law_triple"]) fun _ _ _ _ _ _ us hl => match us, hl with | [_, _], _ => rfl
  have Ax : At K mg "_law_sentence" fx _ ["_law_letters_here", "_law_triple"] := ⟨PySem.W.mg_of X G ax, kx, bx⟩
  have Fr := fun_mk (st := s__law_drawn) lr cr kr
  have br := Fr.binds (ps := ["_law_pen_here", "_law_letters_here"]) fun _ _ _ _ _ _ us hl => match us, hl with | [_, _], _ => rfl
  have Ar : At K mg "_law_drawn" fr _ ["_law_pen_here", "_law_letters_here"] := ⟨PySem.W.mg_of X G ar, kr, br⟩
  have Fs := fun_mk (st := s__law_left) ls cs ks
  have bs := Fs.binds (ps := ["_law_triple"]) fun _ _ _ _ _ _ us hl => match us, hl with | [_], _ => rfl
  have As : At K mg "_law_left" fs _ ["_law_triple"] := ⟨PySem.W.mg_of X G as, ks, bs⟩
  have Fu := fun_mk (st := s__law_right) lu cu ku
  have bu := Fu.binds (ps := ["_law_triple"]) fun _ _ _ _ _ _ us hl => match us, hl with | [_], _ => rfl
  have Au : At K mg "_law_right" fu _ ["_law_triple"] := ⟨PySem.W.mg_of X G au, ku, bu⟩
  have Fy1 := fun_mk (st := s__law_single) ly1 cy1 ky1
  have by1 := Fy1.binds (ps := ["_law_beginning_here", "_law_word_here", "_law_triple", "_law_place", "_law_way"]) fun _ _ _ _ _ _ us hl => match us, hl with | [_, _, _, _, _], _ => rfl
  have Ay1 : At K mg "_law_single" fy1 _ ["_law_beginning_here", "_law_word_here", "_law_triple", "_law_place", "_law_way"] := ⟨PySem.W.mg_of X G ay1, ky1, by1⟩
  have Fy2 := fun_mk (st := s__law_move) ly2 cy2 ky2
  have by2 := Fy2.binds (ps := ["_law_kind", "_law_way"]) fun _ _ _ _ _ _ us hl => match us, hl with | [_, _], _ => rfl
  have Ay2 : At K mg "_law_move" fy2 _ ["_law_kind", "_law_way"] := ⟨PySem.W.mg_of X G ay2, ky2, by2⟩
  have Fy4 := fun_mk (st := s__law_sides) ly4 cy4 ky4
  have by4 := Fy4.binds (ps := ["_law_triple", "_law_way", "_law_times"]) fun _ _ _ _ _ _ us hl => match us, hl with | [_, _, _], _ => rfl
  have Ay4 : At K mg "_law_sides" fy4 _ ["_law_triple", "_law_way", "_law_times"] := ⟨PySem.W.mg_of X G ay4, ky4, by4⟩
  have Fy5 := fun_mk (st := s__law_changed) ly5 cy5 ky5
  have by5 := Fy5.binds (ps := ["_law_beginning_here", "_law_runs", "_law_triple", "_law_step"]) fun _ _ _ _ _ _ us hl => match us, hl with | [_, _, _, _], _ => rfl
  have Ay5 : At K mg "_law_changed" fy5 _ ["_law_beginning_here", "_law_runs", "_law_triple", "_law_step"] := ⟨PySem.W.mg_of X G ay5, ky5, by5⟩
  have Fy7 := fun_mk (st := s__law_beginning) ly7 cy7 ky7
  have by7 := Fy7.binds (ps := ["_law_pen_here"]) fun _ _ _ _ _ _ us hl => match us, hl with | [_], _ => rfl
  have Ay7 : At K mg "_law_beginning" fy7 _ ["_law_pen_here"] := ⟨PySem.W.mg_of X G ay7, ky7, by7⟩
  have Fr1 := fun_mk (st := s__law_told) lr1 cr1 kr1
  have br1 := Fr1.binds (ps := ["_law_pen_here", "_law_letters_here", "_law_highest"]) fun _ _ _ _ _ _ us hl => match us, hl with | [_, _, _], _ => rfl
  have Ar1 : At K mg "_law_told" fr1 _ ["_law_pen_here", "_law_letters_here", "_law_highest"] := ⟨PySem.W.mg_of X G ar1, kr1, br1⟩
  have Fr2 := fun_mk (st := s__law_normals) lr2 cr2 kr2
  have br2 := Fr2.binds (ps := ["_law_letters_here", "_law_told_here"]) fun _ _ _ _ _ _ us hl => match us, hl with | [_, _], _ => rfl
  have Ar2 : At K mg "_law_normals" fr2 _ ["_law_letters_here", "_law_told_here"] := ⟨PySem.W.mg_of X G ar2, kr2, br2⟩
  have Fr3 := fun_mk (st := s__law_is_step) lr3 cr3 kr3
  have br3 := Fr3.binds (ps := ["_law_step", "_law_many"]) fun _ _ _ _ _ _ us hl => match us, hl with | [_, _], _ => rfl
  have Ar3 : At K mg "_law_is_step" fr3 _ ["_law_step", "_law_many"] := ⟨PySem.W.mg_of X G ar3, kr3, br3⟩
  have Fr4 := fun_mk (st := s__law_path) lr4 cr4 kr4
  have br4 := Fr4.binds (ps := ["_law_triples", "_law_beginning_here", "_law_runs", "_law_steps"]) fun _ _ _ _ _ _ us hl => match us, hl with | [_, _, _, _], _ => rfl
  have Ar4 : At K mg "_law_path" fr4 _ ["_law_triples", "_law_beginning_here", "_law_runs", "_law_steps"] := ⟨PySem.W.mg_of X G ar4, kr4, br4⟩
  have Fr5 := fun_mk (st := s__law_is_led) lr5 cr5 kr5
  have br5 := Fr5.binds (ps := ["_law_triples", "_law_beginning_here", "_law_runs", "_law_steps", "_law_last"]) fun _ _ _ _ _ _ us hl => match us, hl with | [_, _, _, _, _], _ => rfl
  have Ar5 : At K mg "_law_is_led" fr5 _ ["_law_triples", "_law_beginning_here", "_law_runs", "_law_steps", "_law_last"] := ⟨PySem.W.mg_of X G ar5, kr5, br5⟩
  have Fr6 := fun_mk (st := s__law_free) lr6 cr6 kr6
  have br6 := Fr6.binds (ps := ["_law_letters_here"]) fun _ _ _ _ _ _ us hl => match us, hl with | [_], _ => rfl
  have Ar6 : At K mg "_law_free" fr6 _ ["_law_letters_here"] := ⟨PySem.W.mg_of X G ar6, kr6, br6⟩
  have Fr7 := fun_mk (st := s__law_wander) lr7 cr7 kr7
  have br7 := Fr7.binds (ps := ["_law_pen_here", "_law_told_here", "_law_beginning_here", "_law_word_here", "_law_highest"]) fun _ _ _ _ _ _ us hl => match us, hl with | [_, _, _, _, _], _ => rfl
  have Ar7 : At K mg "_law_wander" fr7 _ ["_law_pen_here", "_law_told_here", "_law_beginning_here", "_law_word_here", "_law_highest"] := ⟨PySem.W.mg_of X G ar7, kr7, br7⟩
  have Fr8 := fun_mk (st := s__law_spoilt) lr8 cr8 kr8
  have br8 := Fr8.binds (ps := ["_law_pen_here", "_law_steps", "_law_many"]) fun _ _ _ _ _ _ us hl => match us, hl with | [_, _, _], _ => rfl
  have Ar8 : At K mg "_law_spoilt" fr8 _ ["_law_pen_here", "_law_steps", "_law_many"] := ⟨PySem.W.mg_of X G ar8, kr8, br8⟩
  have Fr9 := fun_mk (st := s__law_others_refused) lr9 cr9 kr9
  have br9 := Fr9.binds (ps := ["_law_pen_here", "_law_letters_here", "_law_sentences", "_law_beginning_here", "_law_word_here", "_law_here", "_law_steps"]) fun _ _ _ _ _ _ us hl => match us, hl with | [_, _, _, _, _, _, _], _ => rfl
  have Ar9 : At K mg "_law_others_refused" fr9 _ ["_law_pen_here", "_law_letters_here", "_law_sentences", "_law_beginning_here", "_law_word_here", "_law_here", "_law_steps"] := ⟨PySem.W.mg_of X G ar9, kr9, br9⟩
  have F9 := fun_mk (st := s_law) l9 c9 k9
  have FB := fun_mk (st := s_BadLetters_init) lB cB kB
  have bB := FB.binds (ps := ["self", "index"]) fun _ _ _ _ _ _ us hl => match us, hl with | [_, _], _ => rfl
  have OB : OexC K CB := ⟨⟨_, _, _, _, _, _, _, _, _, _, _, _, _, _, _, xB, vB⟩, saB, eCB, tCB, kcB⟩
  have EB : ErrAt K mg "BadLetters" CB fB _ _ := ⟨PySem.W.mg_of X G aB, OB, iB, tfB, bB, ⟨gaB, ggB, eCB, hCB⟩⟩
  have FM := fun_mk (st := s_TooMany_init) lM cM kM
  have bM := FM.binds (ps := ["self", "what", "many", "most"]) fun _ _ _ _ _ _ us hl => match us, hl with | [_, _, _, _], _ => rfl
  have OM : OexC K CM := ⟨⟨_, _, _, _, _, _, _, _, _, _, _, _, _, _, _, xM, vM⟩, saM, eCM, tCM, kcM⟩
  have EM : ErrAt K mg "TooMany" CM fM _ _ := ⟨PySem.W.mg_of X G aM, OM, iM, tfM, bM, ⟨gaM, ggM, eCM, hCM⟩⟩
  have FT := fun_mk (st := s_BadLetter_init) lT cT kT
  have bT := FT.binds (ps := ["self", "index"]) fun _ _ _ _ _ _ us hl => match us, hl with | [_, _], _ => rfl
  have OT : OexC K CT := ⟨⟨_, _, _, _, _, _, _, _, _, _, _, _, _, _, _, xT, vT⟩, saT, eCT, tCT, kcT⟩
  have ET : ErrAt K mg "BadLetter" CT fT _ _ := ⟨PySem.W.mg_of X G aT, OT, iT, tfT, bT, ⟨gaT, ggT, eCT, hCT⟩⟩
  have hCL : Cls K CL := ⟨pgL, hdL, poL, saL⟩
  have YL : XkC K CL := ⟨icL, haL, hn, ht, hmL⟩
  have FL := fun_mk (st := s_Letters_init) lL cL kL
  have bL := FL.binds (ps := ["self", "words"]) fun _ _ _ _ _ _ us hl => match us, hl with | [_, _], _ => rfl
  have FH := fun_mk (st := s_Has) lH cH kH
  have bH := FH.binds (ps := ["self", "x"]) fun _ _ _ _ _ _ us hl => match us, hl with | [_, _], _ => rfl
  have FR := fun_mk (st := s_Rank) lR cR kR
  have bR := FR.binds (ps := ["self", "x"]) fun _ _ _ _ _ _ us hl => match us, hl with | [_, _], _ => rfl
  have FQ := fun_mk (st := s_Eq) lQ cQ kQ
  have bQ := FQ.binds (ps := ["self", "other"]) fun _ _ _ _ _ _ us hl => match us, hl with | [_, _], _ => rfl
  have hCY : Cls K CY := ⟨pgY, hdY, poY, saY⟩
  have YY : XkC K CY := ⟨icY, haY, hn, ht, hmY⟩
  have FY : FunD K "__init__" "History.__init__" (defArgs s_Hist_init) (defBody s_Hist_init) (defScope s_Hist_init) [V.ref aDY] [] fY _ := ⟨⟨_, _, _, _, _, _, _, _, _, _, rfl, lY, cY, .inr ⟨by simp, TY, oTY, [.ref aDY], nTY, rfl, dTY, dUY, .cons rfl .nil⟩, .inl rfl⟩, kY⟩
  have hDY : ∀ H, SqT K H aDY [] := fun H => .inr ⟨oDY, #[], nDY, dDY, dEY, dGY, Nat.zero_le _, .nil⟩
  have FW := fun_mk (st := s_Word) lW cW kW
  have bW := FW.binds (ps := ["self"]) fun _ _ _ _ _ _ us hl => match us, hl with | [_], _ => rfl
  have FP := fun_mk (st := s_Spelled) lP cP kP
  have bP := FP.binds (ps := ["cls", "letters", "beginning", "word"]) fun _ _ _ _ _ _ us hl => match us, hl with | [_, _, _, _], _ => rfl
  have hCS : Cls K CS := ⟨pgS, hdS, poS, saS⟩
  have YS : XkC K CS := ⟨icS, haS, hn, ht, hmS⟩
  have FS : FunD K "__init__" "Sentence.__init__" (defArgs s_Sen_init) (defBody s_Sen_init) (defScope s_Sen_init) [V.non] [] fS _ := ⟨⟨_, _, _, _, _, _, _, _, _, _, rfl, lS, cS, .inr ⟨by simp, TS, oTS, [.none], nTS, rfl, dTS, dUS, .cons rfl .nil⟩, .inl rfl⟩, kS⟩
  have hCK : Cls K CK := ⟨pgK, hdK, poK, saK⟩
  have YK : XkC K CK := ⟨icK, haK, hn, ht, hmK⟩
  have FK := fun_mk (st := s_Chk_init) lK cK kK
  have bK := FK.binds (ps := ["self", "runs"]) fun _ _ _ _ _ _ us hl => match us, hl with | [_, _], _ => rfl
  subst vL
  have hqL : ocQ = .type "function" := by
    have h : (K.lookup fQ).map (·.cls) = some (.type "function") := beq_iff_eq.mp isQ
    rw [lQ] at h
    exact Option.some.inj h
  have nEL : OwnNe K CL fQ := ⟨_, _, NL, _, _, _, _, _, _, _, _, _, _, _, _, _, oNL, esNL, epNL, _, xL, xNL, xAL, xBL, xCL, xDL, lQ, hqL⟩
  have nD := PySem.W.mg_none_of X G z12
  have nB := PySem.W.mg_none_of X G z13
  have nSum := PySem.W.mg_none_of X G z14
  have nAny := PySem.W.mg_none_of X G z15
  have nMax := PySem.W.mg_none_of X G z16
  have C : Gv K mg := ⟨⟨_, PySem.W.mg_of X G g_gS, _, rfl⟩, ⟨_, PySem.W.mg_of X G g_gW, _, rfl⟩, ⟨_, PySem.W.mg_of X G g_gM, _, rfl⟩, ⟨T_gB, _, PySem.W.mg_of X G g_gB, rfl, fun H => .inr ⟨o_gB, j_gB, n_gB, gl_gB, gc_gB, gd_gB, gs_gB, gv_gB⟩⟩, ⟨_, PySem.W.mg_of X G g_gL, _, rfl⟩⟩
  have Gk : GvK K mg := ⟨⟨T_gK, _, PySem.W.mg_of X G g_gK, rfl, fun H => .inr ⟨o_gK, j_gK, n_gK, gl_gK, gc_gK, gd_gK, gs_gK, gv_gK⟩⟩, ⟨T_gN, _, PySem.W.mg_of X G g_gN, rfl, fun H => .inr ⟨o_gN, j_gN, n_gN, gl_gN, gc_gN, gd_gN, gs_gN, gv_gN⟩⟩⟩
  have hC : HsC K CY := ⟨hCY, nY0, nY1, nY2, nY3, nY4⟩
  have hSn : SnC K CS := ⟨hCS, nS0, nS1, nS2, nS3⟩
  have mL := PySem.W.mg_of X G aL
  have mY := PySem.W.mg_of X G aY
  have mS := PySem.W.mg_of X G aS
  have EZ : Err0 K mg "BadKind" CZ := ⟨PySem.W.mg_of X G aZ, exZ, kcZ, eCZ, tCZ⟩
  have EN : Err0 K mg "SaysNothing" CN := ⟨PySem.W.mg_of X G aN, exN, kcN, eCN, tCN⟩
  have G0 := ok_short (P := P) (w := w) (base := base) F0 T C
  have G1 := ok_copied (P := P) (w := w) (base := base) F1 T nD
  have G2 := ok_is_letter (P := P) (w := w) (base := base) F2 T C G0 A0
  have G3 := ok_pen (P := P) (w := w) (base := base) F3 T
  have G4 := ok_draw (P := P) (w := w) (base := base) F4 T
  have G5 := ok_pick (P := P) (w := w) (base := base) F5 T G4 A4
  have G6 := ok_lettersD (P := P) (w := w) (base := base) F6 T G4 A4 G5 A5
  have GB := ok_badInit (P := P) (w := w) (base := base) FB OB nB0 G1 A1
  have GM := ok_manyInit (P := P) (w := w) (base := base) FM OM nM0 nM1 nM2 G1 A1
  have GT := ok_initBadLetter (P := P) (w := w) (base := base) FT OT nT0 G1 A1
  have GL := ok_letInit (P := P) (w := w) (base := base) FL T C hCL nL0 G2 A2 GB EB GM EM
  have GH := ok_has (P := P) (w := w) (base := base) (mg := mg) FH hCL nL0
  have GR := ok_rank (P := P) (w := w) (base := base) FR T hCL nL0 GT ET
  have GQ := ok_eq (P := P) (w := w) (base := base) FQ T hCL nL0 YL mL
  have Gw := ok_whole (P := P) (w := w) (base := base) Fw T nB
  have Gv := ok_listOf (P := P) (w := w) (base := base) Fv T
  have Gc := ok_joined (P := P) (w := w) (base := base) Fc T
  have Gd := ok_spliced (P := P) (w := w) (base := base) (mg := mg) Fd
  have Gf := ok_size (P := P) (w := w) (base := base) Ff nSum
  have Gg := ok_isBeg (P := P) (w := w) (base := base) Fg C
  have Gk' := ok_reqCnt (P := P) (w := w) (base := base) Fk ⟨_, PySem.W.mg_of X G g_gC, _, rfl⟩ Gw Aw
  have Gi' := ok_reqBeg (P := P) (w := w) (base := base) (mg := mg) Fi Gg Ag
  have Gh := ok_reqOk (P := P) (w := w) (base := base) Fh T Gv Av Gk' Ak GH bH iH isH
  have Gj := ok_extOk (P := P) (w := w) (base := base) Fj T ⟨_, PySem.W.mg_of X G g_gR, _, rfl⟩ Gh Ah Gd Ad Gc Ac
  have GY := ok_histInit (P := P) (w := w) (base := base) FY T hC ⟨PySem.W.mg_of X G aK, icK, tcK⟩ Gi' Ai Gj Aj Gf Af
  have mK := PySem.W.mg_of X G aK
  have MK : Mk K CK fK := ⟨mkK, iK, isK, kcK⟩
  have GK := ok_chk (P := P) (w := w) (base := base) (mg := mg) FK hCK nK0
  have MY : Mk K CY fY := ⟨mkY, iY, isY, kcY⟩
  have ML : Mk K CL fL := ⟨mkL, iL, isL, kcL⟩
  have MS : Mk K CS fS := ⟨mkS, iS, isS, kcS⟩
  obtain ⟨⟨uD, ru, bY0⟩, bY⟩ := hist_binds FY
  obtain ⟨⟨uS, ruS, bS0⟩, bS⟩ := sen_binds FS
  have G7 := ok_parted (P := P) (w := w) (base := base) F7 T
  have Gm := ok_isDue (P := P) (w := w) (base := base) (mg := mg) Fm GH bH iH isH
  have Gn := ok_sides (P := P) (w := w) (base := base) Fn Gk
  have GnT := ok_sidesT (P := P) (w := w) (base := base) Fn Gk
  have Go' := ok_form (P := P) (w := w) (base := base) (mg := mg) Fo hCL ⟨iR, isR, kR⟩ bR GR
  have GS := ok_senInit (P := P) (w := w) (base := base) FS hSn Gk GH bH iH isH Gm Am Go' Ao EZ EN GT ET
  have Gq1 := ok_isStep (P := P) (w := w) (base := base) Fq1 T T.n_all Gv Av Gw Aw
  have Gq2 := ok_drift (P := P) (w := w) (base := base) (mg := mg) Fq2
  have Gq3 := ok_exch (P := P) (w := w) (base := base) Fq3 G7 A7 Gf Af Gc Ac Gd Ad
  have Gq4 := ok_stepped (P := P) (w := w) (base := base) (CL := CL) Fq4 T hSn Gq2 Aq2 GnT An Gq3 Aq3
  have Gq5 := ok_leads (P := P) (w := w) (base := base) Fq5 T hC Gq1 Aq1 Gq4 Aq4
  have Gq6 := ok_chain (P := P) (w := w) (base := base) Fq6 T nAny hC hSn GQ bQ nEL Gq5 Aq5
  have Gg4 := ok_lawJoined (P := P) (w := w) (base := base) (mg := mg) Fg4
  have Gg5 := ok_sum (P := P) (w := w) (base := base) Fg5 nSum
  have Gg6 := ok_cutL (P := P) (w := w) (base := base) Fg6 T nMax Gg4 Ag4
  have Gg7 := ok_asRuns (P := P) (w := w) (base := base) Fg7 Gg4 Ag4
  have Gg8 := ok_lawWord (P := P) (w := w) (base := base) Fg8 T G4 A4 G5 A5
  have Gp := ok_normal (P := P) (w := w) (base := base) (mg := mg) Fp
  have Gx := ok_sent (P := P) (w := w) (base := base) Fx ML mL bL GL MS mS bS bS0 ruS GS
  have Gr := ok_drawn (P := P) (w := w) (base := base) Fr T G4 A4 G5 A5
  have Gs := ok_lawLeft (P := P) (w := w) (base := base) (mg := mg) Fs
  have Gu := ok_lawRight (P := P) (w := w) (base := base) (mg := mg) Fu
  have Gy1 := ok_single (P := P) (w := w) (base := base) Fy1 T Gs As Gu Au
  have Gy2 := ok_move (P := P) (w := w) (base := base) (mg := mg) Fy2
  have Gy4 := ok_lsides (P := P) (w := w) (base := base) (mg := mg) Fy4
  have Gy5 := ok_changed (P := P) (w := w) (base := base) Fy5 T Gy4 Ay4 Gy2 Ay2 Gg5 Ag5 Gg6 Ag6 Gg4 Ag4
  have Gy7 := ok_beg (P := P) (w := w) (base := base) Fy7 G4 A4
  have Gr1 := ok_lawTold (P := P) (w := w) (base := base) Fr1 T G4 A4 Gr Ar
  have Gr2 := ok_normals (P := P) (w := w) (base := base) Fr2 Gp Ap
  have Gr3 := ok_lawIsStep (P := P) (w := w) (base := base) Fr3 T nB
  have Gr4 := ok_lawPath (P := P) (w := w) (base := base) Fr4 T Gg4 Ag4 Gr3 Ar3 Gy5 Ay5
  have Gr5 := ok_isLed (P := P) (w := w) (base := base) Fr5 T Gg4 Ag4 Gr4 Ar4
  have Gr6 := ok_free (P := P) (w := w) (base := base) Fr6 T
  have Gr7 := ok_wander (P := P) (w := w) (base := base) Fr7 T G4 A4 G5 A5 Gs As Gu Au Gy1 Ay1
  have Gr8 := ok_spoilt (P := P) (w := w) (base := base) Fr8 T G4 A4 G5 A5
  have GP := ok_spelled (P := P) (w := w) (base := base) (mg := mg) FP MY bY GY
  have rP : ClX.CRead K CY (.type "type") := ⟨rdY, cgY⟩
  have cP' : ClX.CMet K CY (.type "type") "spelled" pP fP := ⟨caP, ⟨rsP, crP⟩, cfP⟩
  have Gr9 := ok_others (P := P) (w := w) (base := base) Fr9 T Gg8 Ag8 Gq6 Aq6 Gr6 Ar6 ML mL bL GL GP bP rP cP' mY
  have GW := ok_word0 (P := P) (w := w) (base := base) (CL := CL) FW T hC ⟨_, PySem.W.mg_of X G g_gP, _, rfl⟩
  exact run_law F9 T hC G3 A3 G4 A4 G6 A6 Gr2 Ar2 Gr Ar Gr1 Ar1 Gx Ax Gy7 Ay7 Gg8 Ag8 Gr7 Ar7 Gq6 Aq6 Gg7 Ag7 Gr8 Ar8 Gr3 Ar3 Gr5 Ar5 Gr9 Ar9 ML mL bL GL GP bP rP cP' mY GW bW ⟨iW, isW, kW⟩ rfl ⟨rfl, by decide, by decide⟩ e0 (.of_eq rfl) hS hl
theorem walk {l : PySem.W.OpenLaw} {q : Program} {loose : List Str} {XP : (Str → Option Value) → Heap → Prop} {YP : World → Heap → Prop} {d : DefRec} {K : Params → PySem.W.Frag} (hn : l.most = some 63) (hdf : d.params.defaults = [])
    (hY : ∀ (w : World) (h : Heap), YP w h → (K w.params).In h)
    (F : ∀ (w : World) (mg : Str → Option Value) (fa : Addr) (h : Heap), (K w.params).In h → h.Ns mainGlobals mg → mg d.name = some (.ref fa) → ∀ (base : Heap), (K w.params).In base → base.Ns mainGlobals mg →
      ∀ (s₁ : Shared) (H : Hp) (a : Addr) (ns : List Int), Env0 l.prog w (K w.params) mg base callerA [] s₁ H → SqL (K w.params) H a (ns.map V.int) → ns.length ≤ 63 →
        codeAny (model l.prog w) callerA (.call (.ref fa) ⟨[.ref a], []⟩) (CR CX0 [] l.prog w H s₁ (fun v _ => v = .bl true) E0) s₁) :
    PySem.W.WalkO q loose XP YP l.row.toRowW d [] (fun f vs => PySem.call f vs) := by
  refine Att.attach_call hn hdf fun w s₀ s₁ mg mb fa o pm cd doc a vs ns G Y ho hd hcd hmg hobj hints hlen hg => ?_
  have KX := hY w _ Y
  exact law_at KX G.T.g G.T.b G.T.builtins G.T.nolimit hg hobj hints (Nat.le_trans hlen (by decide)) fun base H kb gb e0 hS => F w mg fa _ KX G.T.g hmg base kb gb s₁ H a ns e0 hS hlen
end Ask

open PySem PySem.W PyProof.Rows
set_option maxRecDepth 100000
set_option maxHeartbeats 0
open_top headK23 for PySem.Challenge.rw_asksmore_k23_chains_looked_at
set_option maxRecDepth 100000 in
set_option maxHeartbeats 0 in
theorem PySem.Challenge.cw_asksmore_k23_chains_looked_at_holds : PySem.Challenge.rw_asksmore_k23_chains_looked_at.Holds := by
  refine headK23 ?_
  k_fill
  refine Ask.walk (l := PySem.Challenge.rw_asksmore_k23_chains_looked_at) rfl rfl (fun w h Y => PySem.W.kIn_of Y) ?F
  case F =>
    intro w mg fa h KX G hmg
    refine' Ask.all_mk KX G hmg ?hn ?ht ?a0 ?l0 ?c0 ?k0 ?a1 ?l1 ?c1 ?k1 ?a2 ?l2 ?c2 ?k2 ?a3 ?l3 ?c3 ?k3 ?a4 ?l4 ?c4 ?k4 ?a5 ?l5 ?c5 ?k5 ?a6 ?l6 ?c6 ?k6 ?aw ?lw ?cw ?kw ?av ?lv ?cv ?kv ?ac ?lc ?cc ?kc ?ad ?ld ?cd ?kd ?af ?lf ?cf ?kf ?ag ?lg ?cg ?kg ?ah ?lh ?ch ?kh ?ai ?li ?ci ?ki ?ak ?lk ?ck ?kk ?aj ?lj ?cj ?kj ?a7 ?l7 ?c7 ?k7 ?am ?lm ?cm ?km ?an ?ln ?cn ?kn ?ao ?lo ?co ?ko ?aq1 ?lq1 ?cq1 ?kq1 ?aq2 ?lq2 ?cq2 ?kq2 ?aq3 ?lq3 ?cq3 ?kq3 ?aq4 ?lq4 ?cq4 ?kq4 ?aq5 ?lq5 ?cq5 ?kq5 ?aq6 ?lq6 ?cq6 ?kq6 ?ag4 ?lg4 ?cg4 ?kg4 ?ag5 ?lg5 ?cg5 ?kg5 ?ag6 ?lg6 ?cg6 ?kg6 ?ag7 ?lg7 ?cg7 ?kg7 ?ag8 ?lg8 ?cg8 ?kg8 ?ap ?lp ?cp ?kp ?ax ?lx ?cx ?kx ?ar ?lr ?cr ?kr ?as ?ls ?cs ?ks ?au ?lu ?cu ?ku ?ay1 ?ly1 ?cy1 ?ky1 ?ay2 ?ly2 ?cy2 ?ky2 ?ay4 ?ly4 ?cy4 ?ky4 ?ay5 ?ly5 ?cy5 ?ky5 ?ay7 ?ly7 ?cy7 ?ky7 ?ar1 ?lr1 ?cr1 ?kr1 ?ar2 ?lr2 ?cr2 ?kr2 ?ar3 ?lr3 ?cr3 ?kr3 ?ar4 ?lr4 ?cr4 ?kr4 ?ar5 ?lr5 ?cr5 ?kr5 ?ar6 ?lr6 ?cr6 ?kr6 ?ar7 ?lr7 ?cr7 ?kr7 ?ar8 ?lr8 ?cr8 ?kr8 ?ar9 ?lr9 ?cr9 ?kr9 ?a9 ?l9 ?c9 ?k9 ?aB ?iB ?lB ?cB ?kB ?kcB ?saB ?xB ?vB ?gaB ?ggB ?eCB ?tCB ?tfB ?hCB ?nB0 ?aM ?iM ?lM ?cM ?kM ?kcM ?saM ?xM ?vM ?gaM ?ggM ?eCM ?tCM ?tfM ?hCM ?nM0 ?nM1 ?nM2 ?aT ?iT ?lT ?cT ?kT ?kcT ?saT ?xT ?vT ?gaT ?ggT ?eCT ?tCT ?tfT ?hCT ?nT0 ?aZ ?exZ ?kcZ ?eCZ ?tCZ ?aN ?exN ?kcN ?eCN ?tCN ?aL ?kcL ?saL ?pgL ?hdL ?poL ?mkL ?nL0 ?icL ?haL ?hmL ?iL ?lL ?cL ?kL ?isL ?iH ?lH ?cH ?kH ?isH ?iR ?lR ?cR ?kR ?isR ?iQ ?lQ ?cQ ?kQ ?isQ ?aY ?kcY ?saY ?pgY ?hdY ?poY ?mkY ?nY0 ?nY1 ?nY2 ?nY3 ?nY4 ?icY ?haY ?hmY ?iY ?lY ?cY ?kY ?dTY ?dUY ?dDY ?dEY ?dGY ?isY ?iW ?lW ?cW ?kW ?isW ?rdY ?cgY ?caP ?crP ?cfP ?lP ?cP ?kP ?aS ?kcS ?saS ?pgS ?hdS ?poS ?mkS ?nS0 ?nS1 ?nS2 ?nS3 ?icS ?haS ?hmS ?iS ?lS ?cS ?kS ?dTS ?dUS ?isS ?aK ?kcK ?saK ?pgK ?hdK ?poK ?mkK ?nK0 ?icK ?haK ?hmK ?tcK ?iK ?lK ?cK ?kK ?isK ?g_gS ?g_gW ?g_gM ?g_gL ?g_gB ?gl_gB ?gc_gB ?gd_gB ?gs_gB ?gv_gB ?g_gK ?gl_gK ?gc_gK ?gd_gK ?gs_gK ?gv_gK ?g_gN ?gl_gN ?gc_gN ?gd_gN ?gs_gN ?gv_gN ?g_gC ?g_gR ?g_gP ?z0 ?z1 ?z2 ?z3 ?z4 ?z5 ?z6 ?z7 ?z8 ?z9 ?z10 ?z11 ?z12 ?z13 ?z14 ?z15 ?z16 ?xL ?vL ?xNL ?xAL ?xBL ?xCL ?xDL
    (case hn => k_is)
    (case ht => k_is)
    (case a0 => k_is)
    (case l0 => k_is)
    (case c0 => k_is)
    (case k0 => k_is)
    (case a1 => k_is)
    (case l1 => k_is)
    (case c1 => k_is)
    (case k1 => k_is)
    (case a2 => k_is)
    (case l2 => k_is)
    (case c2 => k_is)
    (case k2 => k_is)
    (case a3 => k_is)
    (case l3 => k_is)
    (case c3 => k_is)
    (case k3 => k_is)
    (case a4 => k_is)
    (case l4 => k_is)
    (case c4 => k_is)
    (case k4 => k_is)
    (case a5 => k_is)
    (case l5 => k_is)
    (case c5 => k_is)
    (case k5 => k_is)
    (case a6 => k_is)
    (case l6 => k_is)
    (case c6 => k_is)
    (case k6 => k_is)
    (case aw => k_is)
    (case lw => k_is)
    (case cw => k_is)
    (case kw => k_is)
    (case av => k_is)
    (case lv => k_is)
    (case cv => k_is)
    (case kv => k_is)
    (case ac => k_is)
    (case lc => k_is)
    (case cc => k_is)
    (case kc => k_is)
    (case ad => k_is)
    (case ld => k_is)
    (case cd => k_is)
    (case kd => k_is)
    (case af => k_is)
    (case lf => k_is)
    (case cf => k_is)
    (case kf => k_is)
    (case ag => k_is)
    (case lg => k_is)
    (case cg => k_is)
    (case kg => k_is)
    (case ah => k_is)
    (case lh => k_is)
    (case ch => k_is)
    (case kh => k_is)
    (case ai => k_is)
    (case li => k_is)
    (case ci => k_is)
    (case ki => k_is)
    (case ak => k_is)
    (case lk => k_is)
    (case ck => k_is)
    (case kk => k_is)
    (case aj => k_is)
    (case lj => k_is)
    (case cj => k_is)
    (case kj => k_is)
    (case a7 => k_is)
    (case l7 => k_is)
    (case c7 => k_is)
    (case k7 => k_is)
    (case am => k_is)
    (case lm => k_is)
    (case cm => k_is)
    (case km => k_is)
    (case an => k_is)
    (case ln => k_is)
    (case cn => k_is)
    (case kn => k_is)
    (case ao => k_is)
    (case lo => k_is)
    (case co => k_is)
    (case ko => k_is)
    (case aq1 => k_is)
    (case lq1 => k_is)
    (case cq1 => k_is)
    (case kq1 => k_is)
    (case aq2 => k_is)
    (case lq2 => k_is)
    (case cq2 => k_is)
    (case kq2 => k_is)
    (case aq3 => k_is)
    (case lq3 => k_is)
    (case cq3 => k_is)
    (case kq3 => k_is)
    (case aq4 => k_is)
    (case lq4 => k_is)
    (case cq4 => k_is)
    (case kq4 => k_is)
    (case aq5 => k_is)
    (case lq5 => k_is)
    (case cq5 => k_is)
    (case kq5 => k_is)
    (case aq6 => k_is)
    (case lq6 => k_is)
    (case cq6 => k_is)
    (case kq6 => k_is)
    (case ag4 => k_is)
    (case lg4 => k_is)
    (case cg4 => k_is)
    (case kg4 => k_is)
    (case ag5 => k_is)
    (case lg5 => k_is)
    (case cg5 => k_is)
    (case kg5 => k_is)
    (case ag6 => k_is)
    (case lg6 => k_is)
    (case cg6 => k_is)
    (case kg6 => k_is)
    (case ag7 => k_is)
    (case lg7 => k_is)
    (case cg7 => k_is)
    (case kg7 => k_is)
    (case ag8 => k_is)
    (case lg8 => k_is)
    (case cg8 => k_is)
    (case kg8 => k_is)
    (case ap => k_is)
    (case lp => k_is)
    (case cp => k_is)
    (case kp => k_is)
    (case ax => k_is)
    (case lx => k_is)
    (case cx => k_is)
    (case kx => k_is)
    (case ar => k_is)
    (case lr => k_is)
    (case cr => k_is)
    (case kr => k_is)
    (case as => k_is)
    (case ls => k_is)
    (case cs => k_is)
    (case ks => k_is)
    (case au => k_is)
    (case lu => k_is)
    (case cu => k_is)
    (case ku => k_is)
    (case ay1 => k_is)
    (case ly1 => k_is)
    (case cy1 => k_is)
    (case ky1 => k_is)
    (case ay2 => k_is)
    (case ly2 => k_is)
    (case cy2 => k_is)
    (case ky2 => k_is)
    (case ay4 => k_is)
    (case ly4 => k_is)
    (case cy4 => k_is)
    (case ky4 => k_is)
    (case ay5 => k_is)
    (case ly5 => k_is)
    (case cy5 => k_is)
    (case ky5 => k_is)
    (case ay7 => k_is)
    (case ly7 => k_is)
    (case cy7 => k_is)
    (case ky7 => k_is)
    (case ar1 => k_is)
    (case lr1 => k_is)
    (case cr1 => k_is)
    (case kr1 => k_is)
    (case ar2 => k_is)
    (case lr2 => k_is)
    (case cr2 => k_is)
    (case kr2 => k_is)
    (case ar3 => k_is)
    (case lr3 => k_is)
    (case cr3 => k_is)
    (case kr3 => k_is)
    (case ar4 => k_is)
    (case lr4 => k_is)
    (case cr4 => k_is)
    (case kr4 => k_is)
    (case ar5 => k_is)
    (case lr5 => k_is)
    (case cr5 => k_is)
    (case kr5 => k_is)
    (case ar6 => k_is)
    (case lr6 => k_is)
    (case cr6 => k_is)
    (case kr6 => k_is)
    (case ar7 => k_is)
    (case lr7 => k_is)
    (case cr7 => k_is)
    (case kr7 => k_is)
    (case ar8 => k_is)
    (case lr8 => k_is)
    (case cr8 => k_is)
    (case kr8 => k_is)
    (case ar9 => k_is)
    (case lr9 => k_is)
    (case cr9 => k_is)
    (case kr9 => k_is)
    (case a9 => k_is)
    (case l9 => k_is)
    (case c9 => k_is)
    (case k9 => k_is)
    (case aB => k_is)
    (case iB => k_is)
    (case lB => k_is)
    (case cB => k_is)
    (case kB => k_is)
    (case kcB => k_is)
    (case saB => k_is)
    (case xB => k_is)
    (case vB => rfl)
    (case gaB => k_is)
    (case ggB => k_is)
    (case eCB => k_is)
    (case tCB => k_is)
    (case tfB => k_is)
    (case hCB => k_is)
    (case nB0 => k_is)
    (case aM => k_is)
    (case iM => k_is)
    (case lM => k_is)
    (case cM => k_is)
    (case kM => k_is)
    (case kcM => k_is)
    (case saM => k_is)
    (case xM => k_is)
    (case vM => rfl)
    (case gaM => k_is)
    (case ggM => k_is)
    (case eCM => k_is)
    (case tCM => k_is)
    (case tfM => k_is)
    (case hCM => k_is)
    (case nM0 => k_is)
    (case nM1 => k_is)
    (case nM2 => k_is)
    (case aT => k_is)
    (case iT => k_is)
    (case lT => k_is)
    (case cT => k_is)
    (case kT => k_is)
    (case kcT => k_is)
    (case saT => k_is)
    (case xT => k_is)
    (case vT => rfl)
    (case gaT => k_is)
    (case ggT => k_is)
    (case eCT => k_is)
    (case tCT => k_is)
    (case tfT => k_is)
    (case hCT => k_is)
    (case nT0 => k_is)
    (case aZ => k_is)
    (case exZ => k_exc)
    (case kcZ => k_is)
    (case eCZ => k_is)
    (case tCZ => k_is)
    (case aN => k_is)
    (case exN => k_exc)
    (case kcN => k_is)
    (case eCN => k_is)
    (case tCN => k_is)
    (case aL => k_is)
    (case kcL => k_is)
    (case saL => k_is)
    (case pgL => k_is)
    (case hdL => k_is)
    (case poL => k_is)
    (case mkL => k_is)
    (case nL0 => k_is)
    (case icL => k_is)
    (case haL => k_is)
    (case hmL => k_is)
    (case iL => k_is)
    (case lL => k_is)
    (case cL => k_is)
    (case kL => k_is)
    (case isL => k_is)
    (case iH => k_is)
    (case lH => k_is)
    (case cH => k_is)
    (case kH => k_is)
    (case isH => k_is)
    (case iR => k_is)
    (case lR => k_is)
    (case cR => k_is)
    (case kR => k_is)
    (case isR => k_is)
    (case iQ => k_is)
    (case lQ => k_is)
    (case cQ => k_is)
    (case kQ => k_is)
    (case isQ => k_is)
    (case aY => k_is)
    (case kcY => k_is)
    (case saY => k_is)
    (case pgY => k_is)
    (case hdY => k_is)
    (case poY => k_is)
    (case mkY => k_is)
    (case nY0 => k_is)
    (case nY1 => k_is)
    (case nY2 => k_is)
    (case nY3 => k_is)
    (case nY4 => k_is)
    (case icY => k_is)
    (case haY => k_is)
    (case hmY => k_is)
    (case iY => k_is)
    (case lY => k_is)
    (case cY => k_is)
    (case kY => k_is)
    (case dTY => k_is)
    (case dUY => rfl)
    (case dDY => k_is)
    (case dEY => rfl)
    (case dGY => rfl)
    (case isY => k_is)
    (case iW => k_is)
    (case lW => k_is)
    (case cW => k_is)
    (case kW => k_is)
    (case isW => k_is)
    (case rdY => k_is)
    (case cgY => k_is)
    (case caP => k_is)
    (case crP => k_is)
    (case cfP => k_is)
    (case lP => k_is)
    (case cP => k_is)
    (case kP => k_is)
    (case aS => k_is)
    (case kcS => k_is)
    (case saS => k_is)
    (case pgS => k_is)
    (case hdS => k_is)
    (case poS => k_is)
    (case mkS => k_is)
    (case nS0 => k_is)
    (case nS1 => k_is)
    (case nS2 => k_is)
    (case nS3 => k_is)
    (case icS => k_is)
    (case haS => k_is)
    (case hmS => k_is)
    (case iS => k_is)
    (case lS => k_is)
    (case cS => k_is)
    (case kS => k_is)
    (case dTS => k_is)
    (case dUS => rfl)
    (case isS => k_is)
    (case aK => k_is)
    (case kcK => k_is)
    (case saK => k_is)
    (case pgK => k_is)
    (case hdK => k_is)
    (case poK => k_is)
    (case mkK => k_is)
    (case nK0 => k_is)
    (case icK => k_is)
    (case haK => k_is)
    (case hmK => k_is)
    (case tcK => k_is)
    (case iK => k_is)
    (case lK => k_is)
    (case cK => k_is)
    (case kK => k_is)
    (case isK => k_is)
    (case g_gS => k_is)
    (case g_gW => k_is)
    (case g_gM => k_is)
    (case g_gL => k_is)
    (case g_gB => k_is)
    (case gl_gB => k_is)
    (case gc_gB => rfl)
    (case gd_gB => rfl)
    (case gs_gB => decide)
    (case gv_gB => exact .cons ⟨_, rfl⟩ (.cons ⟨_, rfl⟩ (.nil)))
    (case g_gK => k_is)
    (case gl_gK => k_is)
    (case gc_gK => rfl)
    (case gd_gK => rfl)
    (case gs_gK => decide)
    (case gv_gK => exact .cons ⟨_, rfl⟩ (.cons ⟨_, rfl⟩ (.cons ⟨_, rfl⟩ (.cons ⟨_, rfl⟩ (.cons ⟨_, rfl⟩ (.cons ⟨_, rfl⟩ (.nil)))))))
    (case g_gN => k_is)
    (case gl_gN => k_is)
    (case gc_gN => rfl)
    (case gd_gN => rfl)
    (case gs_gN => decide)
    (case gv_gN => exact .cons ⟨_, rfl⟩ (.cons ⟨_, rfl⟩ (.nil)))
    (case g_gC => k_is)
    (case g_gR => k_is)
    (case g_gP => k_is)
    (case z0 => k_is)
    (case z1 => k_is)
    (case z2 => k_is)
    (case z3 => k_is)
    (case z4 => k_is)
    (case z5 => k_is)
    (case z6 => k_is)
    (case z7 => k_is)
    (case z8 => k_is)
    (case z9 => k_is)
    (case z10 => k_is)
    (case z11 => k_is)
    (case z12 => k_is)
    (case z13 => k_is)
    (case z14 => k_is)
    (case z15 => k_is)
    (case z16 => k_is)
    (case xL => k_is)
    (case vL => rfl)
    (case xNL => k_is)
    (case xAL => rfl)
    (case xBL => exact Ask.strKeys_of rfl)
    (case xCL => rfl)
    (case xDL => rfl)
