import PyProof.Rows.All
import Wide.All
import OpenK.AllK
import Wide.FinOn
import HandS.ForMost
import HandS.Exc
import HandS.TryOnly
import HandS.ExcInit
import HandS.IsInst
import HandS.Style
import HandS.Wide
import HandS.Deep
import HandS.Walk
import HandS.ExcField
import HandS.WordsExc
import HandS.Flow
import KE.GoesEnum
import PyProof.ReprRoads
import HandS.List
import KE.KExcIs
import HandS.Base
import HandS.Call
import HandS.ExcOwn
import HandS.Defaults
import HandS.ExcValue
import HandS.TupLe
import PyProof.SumWalkG
import PyProof.ReprLen
import PyProof.Rows.StrJoinMade
import HandS.Conv
import KE.OsRunLaw
import PySem.Challenge.RW_asksmore_k00_errors
set_option Elab.async false
set_option linter.all false
set_option maxRecDepth 100000
set_option maxHeartbeats 4000000
section
open PySem PySem.W PyProof.Rows
local macro_rules | `(tactic| k_head) => `(tactic| k_headL)
set_option maxHeartbeats 0
open_top headK00 for PySem.Challenge.rw_asksmore_k00_errors
end
namespace Ask
open PySem L2
def top (i : Nat) : Stmt := PySem.Challenge.pw_asksmore_k00_errors.main.body.getD i (.Pass ⟨0, 0, 0, 0⟩)
/-- the built-in names that the text calls -/
structure Blt (mg : Str → Option Value) : Prop where
  n_int : mg "int" = none
  n_len : mg "len" = none
  n_abs : mg "abs" = none
  n_list : mg "list" = none
  n_range : mg "range" = none
  n_min : mg "min" = none
  n_str : mg "str" = none
  n_isinstance : mg "isinstance" = none
  n_all : mg "all" = none
  n_enumerate : mg "enumerate" = none
  n_tuple : mg "tuple" = none
  n_repr : mg "repr" = none
/-- all but what stands at p is as it was -/
def Kp (p : Addr) (H H' : Hp) : Prop := ∀ b o, b ≠ p → H b = some o → H' b = some o
theorem Kp.refl (p : Addr) (H : Hp) : Kp p H H := fun _ _ _ h => h
theorem Kp.trans {p : Addr} {H H1 H2 : Hp} (a : Kp p H H1) (b : Kp p H1 H2) : Kp p H H2 := fun c o n h => b c o n (a c o n h)
theorem Kp.upd (p : Addr) (H : Hp) (o : HO) : Kp p H (upd H p o) := fun b u n h => by rw [upd_ne n]; exact h
theorem Kp.of {p : Addr} {H H' : Hp} (s : Same H H') : Kp p H H' := fun b o _ h => s b o h
theorem Kp.new {p q : Addr} {H H' : Hp} {o : HO} (k : Kp p H H') (h : H' q = none) : Kp p H (L2.upd H' q o) := fun b u n e => by
  rw [upd_ne (ne_of_none (k b u n e) h)]
  exact k b u n e
theorem kLC : ¬ ((Sum.inr ("left" : Str) : Key) = Sum.inr ("cells" : Str)) := by decide +kernel
theorem kLB : ¬ ((Sum.inr ("left" : Str) : Key) = Sum.inr ("begun" : Str)) := by decide +kernel
theorem kBC : ¬ ((Sum.inr ("begun" : Str) : Key) = Sum.inr ("cells" : Str)) := by decide +kernel
/-- what a pen holds -/
def pk (c : Addr) (b l : Int) : List (Key × V) := [(Sum.inr ("cells" : Str), .ref c), (Sum.inr ("begun" : Str), .int b), (Sum.inr ("left" : Str), .int l)]
theorem pk_cells (c : Addr) (b l : Int) : valV (pk c b l) (Sum.inr ("cells" : Str)) = some (.ref c) := valV_pos rfl
theorem pk_begun (c : Addr) (b l : Int) : valV (pk c b l) (Sum.inr ("begun" : Str)) = some (.int b) :=
  (valV_neg (fun z => kBC z.symm)).trans (valV_pos rfl)
theorem pk_left (c : Addr) (b l : Int) : valV (pk c b l) (Sum.inr ("left" : Str)) = some (.int l) :=
  (valV_neg (fun z => kLC z.symm)).trans ((valV_neg (fun z => kLB z.symm)).trans (valV_pos rfl))
theorem pk_putL (c : Addr) (b l m : Int) : putK (pk c b l) (Sum.inr ("left" : Str)) (.int m) = pk c b m := by
  unfold putK pk
  have e : (([(Sum.inr ("cells" : Str), .ref c), (Sum.inr ("begun" : Str), .int b), (Sum.inr ("left" : Str), .int l)] : List (Key × V)).any fun kv => decide (kv.1 = Sum.inr ("left" : Str))) = true := by simp
  rw [if_pos e]
  simp only [List.map_cons, List.map_nil]
  rw [if_neg (fun z => kLC z.symm), if_neg (fun z => kLB z.symm)]
  rfl
theorem pk_putB (c : Addr) (b l m : Int) : putK (pk c b l) (Sum.inr ("begun" : Str)) (.int m) = pk c m l := by
  unfold putK pk
  have e : (([(Sum.inr ("cells" : Str), .ref c), (Sum.inr ("begun" : Str), .int b), (Sum.inr ("left" : Str), .int l)] : List (Key × V)).any fun kv => decide (kv.1 = Sum.inr ("begun" : Str))) = true := by simp
  rw [if_pos e]
  simp only [List.map_cons, List.map_nil]
  rw [if_neg (fun z => kBC z.symm), if_neg kLB]
  rfl
/-- at p a pen over the cells ns at c, of which at most B were begun -/
def Pen (c : Addr) (ns : List Int) (H : Hp) (p : Addr) (B : Nat) : Prop := ∃ (b l : Int), H p = some (.dK (pk c b l)) ∧ H c = some (.lst (ns.map V.int)) ∧ ns.length ≤ 63 ∧ 0 ≤ b ∧ b ≤ (B : Int)
/-- from H0 to H all but the pen stands as it stood, and the pen is a pen -/
structure Go (p c : Addr) (ns : List Int) (H0 H : Hp) (B : Nat) : Prop where
  kp : Kp p H0 H
  pen : Pen c ns H p B
  base : ∃ A, Pen c ns H0 p A
section
variable {p c q a : Addr} {ns : List Int} {H0 H H' : Hp} {A B : Nat} {o : HO} {xs : List V} {K : PySem.W.Frag}
theorem Pen.mono (h : Pen c ns H p A) (le : A ≤ B) : Pen c ns H p B := by
  obtain ⟨b, l, h1, h2, h3, h4, h5⟩ := h
  exact ⟨b, l, h1, h2, h3, h4, by omega⟩
theorem Pen.at (h : Pen c ns H p A) : ∃ o, H p = some o := by
  obtain ⟨b, l, h1, _⟩ := h
  exact ⟨_, h1⟩
theorem Pen.upd (h : Pen c ns H p A) (h1 : q ≠ p) (h2 : q ≠ c) : Pen c ns (L2.upd H q o) p A := by
  obtain ⟨b, l, e1, e2, e3⟩ := h
  exact ⟨b, l, by rw [upd_ne h1.symm]; exact e1, by rw [upd_ne h2.symm]; exact e2, e3⟩
theorem Go.refl (h : Pen c ns H p B) : Go p c ns H H B := ⟨Kp.refl p H, h, B, h⟩
theorem Go.step (g : Go p c ns H0 H A) (g' : Go p c ns H H' B) : Go p c ns H0 H' B := ⟨g.kp.trans g'.kp, g'.pen, g.base⟩
theorem Go.mono (g : Go p c ns H0 H A) (le : A ≤ B) : Go p c ns H0 H B := ⟨g.kp, g.pen.mono le, g.base⟩
/-- fresh later is fresh before -/
theorem Go.free (g : Go p c ns H0 H B) (n : H q = none) : H0 q = none := by
  by_cases e : q = p
  · subst e
    obtain ⟨o, z⟩ := g.pen.at
    rw [z] at n
    cases n
  · cases z : H0 q with
    | none => rfl
    | some o =>
      rw [g.kp q o e z] at n
      cases n
theorem Go.ne (g : Go p c ns H0 H B) (n : H0 q = none) : q ≠ p ∧ q ≠ c := by
  obtain ⟨A, b, l, h1, h2, _⟩ := g.base
  refine ⟨fun e => ?_, fun e => ?_⟩
  · rw [e, h1] at n
    cases n
  · rw [e, h2] at n
    cases n
/-- what H0 did not know may change -/
theorem Go.mut (g : Go p c ns H0 H B) (n : H0 q = none) : Go p c ns H0 (upd H q o) B :=
  ⟨fun b u e z => by
    rw [upd_ne (ne_of_none z n)]
    exact g.kp b u e z, g.pen.upd (g.ne n).1 (g.ne n).2, g.base⟩
theorem Go.new (g : Go p c ns H0 H B) (n : H q = none) : Go p c ns H0 (upd H q o) B := g.mut (g.free n)
theorem Go.same (g : Go p c ns H0 H B) (s : Same H H') : Go p c ns H0 H' B := by
  obtain ⟨b, l, h1, h2, h3⟩ := g.pen
  exact ⟨g.kp.trans (Kp.of s), ⟨b, l, s _ _ h1, s _ _ h2, h3⟩, g.base⟩
theorem Go.at (g : Go p c ns H0 H B) (e : H0 a = some o) (d : ∀ kvs, o ≠ .dK kvs) : H a = some o := by
  obtain ⟨A, b, l, h1, _⟩ := g.base
  exact g.kp _ _ (ne_of e h1 (d _)) e
theorem Go.lst (g : Go p c ns H0 H B) (e : H0 a = some (.lst xs)) : H a = some (.lst xs) := g.at e (by intro _ z; cases z)
theorem Go.tup (g : Go p c ns H0 H B) (e : H0 a = some (.tup xs)) : H a = some (.tup xs) := g.at e (by intro _ z; cases z)
theorem Go.seq (g : Go p c ns H0 H B) (q : SqL K H0 a xs) : SqL K H a xs := by
  rcases q with (q | ⟨o, q⟩) | q
  · exact .inl (.inl (g.lst q))
  · exact .inl (.inr ⟨o, g.at q (by intro _ z; cases z)⟩)
  · exact .inr q
end

/-- x = a if c else b, its two ways met -/
theorem seqIf_cut {t : TT} {ta tb : TE} {g : TG} {u : TS} {D : Ends} {σ : L2.St} {H : Hp} (Pv : V → Hp → Prop) (h : ∀ Q' : VK, (∀ v H', Pv v H' → Q' v H') → tIf t ta tb σ H Q') (hq : ∀ v H', Pv v H' → g v σ H' (u D)) :
    tSeq (tAsg (tIf t ta tb) g) u D σ H := h _ hq
/-- if c: body, the ways past it met -/
theorem seqIfS_cut {c : TT} {t v u : TS} {D : Ends} {σ : L2.St} {H : Hp} (hn : u D σ H) (h : ∀ N : L2.St → Hp → Prop, N σ H → tIfS c t v { D with nx := N } σ H) : tSeq (tIfS c t v) u D σ H := h (u D) hn

/-! ### the draw -/
def spDraw : Sp := fun vs H Q _ => ∃ (p c : Addr) (ns : List Int) (m : Int) (B : Nat), vs = [.ref p, .int m] ∧ Pen c ns H p B ∧ B ≤ 1000000000 ∧ 0 < m ∧ m < 1073741824 ∧
  ∀ (H' : Hp) (r : Int), Go p c ns H H' (B + 1) → 0 ≤ r → r < m → Q (.int r) H'
section
variable {P : Program} {w : World} {K : PySem.W.Frag} {mg : Str → Option Value} {base : Heap}
abbrev s__law_draw : Stmt := top 46
theorem sc__law_draw : FnScope ["_law_pen_here", "_law_many", "_law_digit", "_law_place", "_law_size", "_law_told", "_law_blend"] ["_law_pen_here", "_law_many"] (defScope s__law_draw) := ⟨rfl, rfl, rfl, by decide +kernel, rfl, by decide +kernel, by decide +kernel⟩
theorem div_ok {i j : Int} (h : 0 < j) (h2 : j < 1073741824) : CDivW i j := wide_div (b := 30) h (by omega) (by decide) (by decide)
theorem mul_small {i j : Int} (h : -(2 ^ 64) < i ∧ i < 2 ^ 64) : CMul i j := .inl h
theorem ok_draw {f : Addr} {fd : FuncData} (F : Fun K "_law_draw" "_law_draw" s__law_draw f fd) (T : Blt mg) : FnOk P w K mg base CX0 1 f fd ["_law_pen_here", "_law_many"] spDraw := by
  refine F.ok sc__law_draw (fun vs H Q E h => ?_) (fun cdv A outer s H vs Q E hr h => ?_)
  · obtain ⟨p, c, ns, m, B, rfl, _⟩ := h
    rfl
  · obtain ⟨p, c, ns, m, B, rfl, hpen, hB, hm0, hm1, k⟩ := h
    obtain ⟨b, l, hp, hc, hl, hb0, hbB⟩ := id hpen
    have hu := hu_of hr
    refine ⟨_, (pss_cons (ps_if (pt_cmpR op_gt (pe_dget hu (pv 0) pe_str (fun _ _ => rfl)) pe_int (nomark _)) (pss_cons (ps_set (i := 2) sc__law_draw.nd rfl (Or.inl rfl) (pe_op op_mod (pe_callTy call_int1 (by rfl) T.n_int (by decide +kernel) (pa_cons (pe_dget hu (pv 0) pe_str (fun _ _ => rfl)) pa_nil)) (pv 1)))
      (pss_cons (ps_dput hu (pv 0) pe_str (pe_op op_fdivW (pe_dget hu (pv 0) pe_str (fun _ _ => rfl)) (pv 1)) rfl)
      (pss_one (ps_ret (pv 2))))) pss_nil)
      (pss_cons (ps_par (i := 3) (j := 4) rfl sc__law_draw.nd rfl rfl (by decide) rfl rfl (pa_cons (pe_dget hu (pv 0) pe_str (fun _ _ => rfl)) (pa_cons (pe_callB call_len_seq (by rfl) T.n_len (by decide +kernel) (pa_cons (pe_dget hu (pv 0) pe_str (fun _ _ => rfl)) pa_nil)) pa_nil)) (by rfl))
      (pss_cons (ps_dput hu (pv 0) pe_str (pe_op op_add (pv 3) pe_int) rfl)
      (pss_cons (ps_set (i := 5) sc__law_draw.nd rfl (Or.inl rfl) (pe_ifExp (pt_cmpR op_gt (pv 4) pe_int (nomark _)) (pe_ix ix_list (pe_dget hu (pv 0) pe_str (fun _ _ => rfl)) (pe_op op_mod (pe_callTy call_int1 (by rfl) T.n_int (by decide +kernel) (pa_cons (pv 3) pa_nil)) (pv 4)) (fun _ _ => rfl)) (pe_op op_add (pe_op op_mul pe_int (pv 3)) pe_int)))
      (pss_cons (ps_if (PW.pt (pw_and (pt_cmpR op_lt (pv 3) (pv 4) (nomark _)) (pw_and1 (pt_cmpR op_ge (pe_callB call_abs (by rfl) T.n_abs (by decide +kernel) (pa_cons (pv 5) pa_nil)) (pe_op op_pow pe_int pe_int) (nomark _))))) (pss_cons (ps_dput hu (pv 0) pe_str (pe_op op_fdivW (pe_op op_sub (pe_callB call_abs (by rfl) T.n_abs (by decide +kernel) (pa_cons (pv 5) pa_nil)) (pe_op op_pow pe_int pe_int)) (pv 1)) rfl)
      (pss_one (ps_ret (pe_op op_mod (pe_callTy call_int1 (by rfl) T.n_int (by decide +kernel) (pa_cons (pe_op op_sub (pe_callB call_abs (by rfl) T.n_abs (by decide +kernel) (pa_cons (pv 5) pa_nil)) (pe_op op_pow pe_int pe_int)) pa_nil)) (pv 1))))) pss_nil)
      (pss_cons (ps_set (i := 6) sc__law_draw.nd rfl (Or.inl rfl) (pe_op op_mod (pe_callTy call_int1 (by rfl) T.n_int (by decide +kernel) (pa_cons (pe_op op_add (pe_op op_add (pe_op op_mul (pe_op op_mod (pe_callTy call_int1 (by rfl) T.n_int (by decide +kernel) (pa_cons (pv 5) pa_nil)) pe_int) pe_int) (pe_op op_mul (pe_op op_mul pe_int (pv 3)) (pv 3))) pe_int) pa_nil)) pe_int))
      (pss_cons (ps_set (i := 6) sc__law_draw.nd rfl (Or.inl rfl) (pe_op op_mod (pe_callTy call_int1 (by rfl) T.n_int (by decide +kernel) (pa_cons (pe_op op_add (pe_op op_add (pe_op op_add (pe_op op_mul (pv 6) (pv 6)) (pe_op op_mul pe_int (pv 6))) (pe_op op_mul pe_int (pv 3))) pe_int) pa_nil)) pe_int))
      (pss_one (ps_ret (pe_op op_mod (pe_callTy call_int1 (by rfl) T.n_int (by decide +kernel) (pa_cons (pe_op op_fdivW (pe_op op_mod (pe_callTy call_int1 (by rfl) T.n_int (by decide +kernel) (pa_cons (pe_op op_mul (pv 6) (pe_op op_add (pv 6) pe_int)) pa_nil)) pe_int) pe_int) pa_nil)) (pv 1))))))))))), ?_⟩
    have gL : ∀ {H : Hp} {b l : Int}, H p = some (.dK (pk c b l)) → DGet H p (.str "left") (some (.int l)) := fun e => by
      have z := DGet.k (k := Sum.inr ("left" : Str)) e
      rw [pk_left] at z
      exact z
    have gB : ∀ {H : Hp} {b l : Int}, H p = some (.dK (pk c b l)) → DGet H p (.str "begun") (some (.int b)) := fun e => by
      have z := DGet.k (k := Sum.inr ("begun" : Str)) e
      rw [pk_begun] at z
      exact z
    have gC : ∀ {H : Hp} {b l : Int}, H p = some (.dK (pk c b l)) → DGet H p (.str "cells") (some (.ref c)) := fun e => by
      have z := DGet.k (k := Sum.inr ("cells" : Str)) e
      rw [pk_cells] at z
      exact z
    have three : ∀ b l : Int, (pk c b l).length < sizeLine := fun b l => by show 3 < sizeLine; decide
    have pL : ∀ {H : Hp} {b l : Int} (m : Int), H p = some (.dK (pk c b l)) → DPut H p (.str "left") (.int m) (upd H p (.dK (pk c b m))) := fun m e => by
      have z := DPut.k (k := Sum.inr ("left" : Str)) (v := .int m) e (three _ _)
      rw [pk_putL] at z
      exact z
    have pB : ∀ {H : Hp} {b l : Int} (m : Int), H p = some (.dK (pk c b l)) → DPut H p (.str "begun") (.int m) (upd H p (.dK (pk c m l))) := fun m e => by
      have z := DPut.k (k := Sum.inr ("begun" : Str)) (v := .int m) e (three _ _)
      rw [pk_putB] at z
      exact z
    have ncp : c ≠ p := ne_of hc hp (by intro z; cases z)
    -- if pen['left'] > 0
    refine ⟨_, rfl, p, _, rfl, gL hp, _, _, rfl, rfl, _, rfl, ?_⟩
    refine ite2 (fun h0 => ?_) (fun h0 => ?_)
    · -- digit = int(left) % many; left = left // many; return digit
      refine ⟨_, rfl, p, _, rfl, gL hp, .inl ⟨_, rfl, _, rfl, _, _, rfl, rfl, hm0, ?_⟩⟩
      refine ⟨_, rfl, p, _, rfl, gL hp, _, rfl, _, _, rfl, rfl, div_ok hm0 hm1, _, rfl, p, _, rfl, pL _ hp, ?_⟩
      refine ⟨_, rfl, ?_⟩
      refine k _ _ ⟨Kp.upd _ _ _, ⟨b, _, upd_same, by rw [upd_ne ncp]; exact hc, hl, hb0, by omega⟩, B, hpen⟩ (Int.emod_nonneg _ (by omega)) (Int.emod_lt_of_pos _ hm0)
    · -- place, size = begun, len(cells); begun = place + 1
      refine ⟨_, rfl, p, _, rfl, gB hp, _, rfl, p, _, rfl, gC hp, c, _, rfl, .inl (SqL.of hc), _, _, rfl, ?_⟩
      refine ⟨_, rfl, _, _, rfl, rfl, _, rfl, p, _, rfl, pB _ hp, ?_⟩
      have hp1 : upd H p (.dK (pk c (b + 1) l)) p = some (.dK (pk c (b + 1) l)) := upd_same
      have hc1 : upd H p (.dK (pk c (b + 1) l)) c = some (.lst (ns.map V.int)) := by rw [upd_ne ncp]; exact hc
      have k1 : Kp p H (upd H p (.dK (pk c (b + 1) l))) := Kp.upd _ _ _
      have pen1 : Pen c ns (upd H p (.dK (pk c (b + 1) l))) p (B + 1) := ⟨b + 1, l, hp1, hc1, hl, by omega, by omega⟩
      generalize upd H p (.dK (pk c (b + 1) l)) = H1 at hp1 hc1 k1 pen1 ⊢
      -- told: some int
      try dsimp only
      refine seqIf_cut (fun v H' => H' = H1 ∧ ∃ z, v = .int z) (fun Q' q' => ?_) (fun v H' hv => ?_)
      · refine ⟨_, rfl, _, _, rfl, rfl, _, rfl, ?_⟩
        refine ite2 (fun h1 => ?_) (fun h1 => ?_)
        · have h1 : (0 : Int) < ((ns.map V.int).length : Nat) := of_decide_eq_true h1
          rw [List.length_map] at h1
          have e0 : 0 ≤ b % (ns.length : Int) := Int.emod_nonneg _ (by omega)
          have e1 : b % (ns.length : Int) < (ns.length : Int) := Int.emod_lt_of_pos _ h1
          have e2 : (b % (ns.length : Int)).toNat < ns.length := by omega
          refine ⟨_, rfl, p, _, rfl, gC hp1, ?_⟩
          refine ⟨_, rfl, .inl ⟨_, rfl, _, rfl, _, _, rfl, rfl, (by rw [List.length_map]; exact h1), c, ns.map V.int, _, V.int ns[(b % (ns.length : Int)).toNat], rfl, rfl, SqL.of hc1, ?_, q' _ _ ⟨rfl, _, rfl⟩⟩⟩
          rw [List.length_map]
          refine at_of (j := (b % (ns.length : Int)).toNat) (by omega) ?_
          rw [List.getElem?_map, List.getElem?_eq_getElem e2]
          rfl
        · refine ⟨_, rfl, _, _, rfl, rfl, mul_small (by omega), _, _, rfl, rfl, q' _ _ ⟨rfl, _, rfl⟩⟩
      obtain ⟨rfl, z, rfl⟩ := hv
      refine seqIfS_cut ?_ (fun N q => ?_)
      · -- the blend
        have m0 := Int.emod_nonneg z (show (4294967279 : Int) ≠ 0 by decide)
        have m1 := Int.emod_lt_of_pos z (show (0 : Int) < 4294967279 by decide)
        refine ⟨_, rfl, .inl ⟨_, rfl, _, _, rfl, rfl, (by show (0 : Int) < _; decide), _, _, rfl, rfl, mul_small (by omega), ?_⟩⟩
        refine ⟨_, rfl, _, _, rfl, rfl, mul_small (by omega), _, rfl, _, _, rfl, rfl, mul_small (by omega), _, _, rfl, rfl, _, _, rfl, rfl, .inl ⟨_, rfl, _, _, rfl, rfl, (by show (0 : Int) < _; decide), ?_⟩⟩
        generalize hx : (z % 4294967279 * 44621 + 28657 * b * b + 1543) % 4294967291 = x
        have x0 : 0 ≤ x := by rw [← hx]; exact Int.emod_nonneg _ (by decide)
        have x1 : x < 4294967291 := by rw [← hx]; exact Int.emod_lt_of_pos _ (by decide)
        clear hx
        refine ⟨_, rfl, _, rfl, _, _, rfl, rfl, mul_small (by omega), _, rfl, _, _, rfl, rfl, mul_small (by omega), _, _, rfl, rfl, _, rfl, _, _, rfl, rfl, mul_small (by omega), _, _, rfl, rfl, _, _, rfl, rfl, .inl ⟨_, rfl, _, _, rfl, rfl, (by show (0 : Int) < _; decide), ?_⟩⟩
        generalize hy : (x * x + 66047 * x + 37 * b + 11) % 4294967231 = y
        have y0 : 0 ≤ y := by rw [← hy]; exact Int.emod_nonneg _ (by decide)
        have y1 : y < 4294967231 := by rw [← hy]; exact Int.emod_lt_of_pos _ (by decide)
        clear hy
        refine ⟨_, rfl, _, rfl, _, _, rfl, rfl, _, _, rfl, rfl, mul_small (by omega), .inl ⟨_, rfl, _, _, rfl, rfl, (by show (0 : Int) < _; decide), _, _, rfl, rfl, div_ok (by decide) (by decide), .inl ⟨_, rfl, _, rfl, _, _, rfl, rfl, hm0, ?_⟩⟩⟩
        exact k _ _ ⟨k1, pen1, B, hpen⟩ (Int.emod_nonneg _ (by omega)) (Int.emod_lt_of_pos _ hm0)
      · refine ⟨_, rfl, _, rfl, _, _, rfl, rfl, _, rfl, ?_⟩
        refine ite2 (fun h1 => ?_) (fun h1 => ?_)
        · refine ⟨_, rfl, _, rfl, _, _, rfl, rfl, (by refine ⟨by decide, by decide, by decide⟩), _, _, rfl, rfl, _, rfl, ?_⟩
          refine ite2 (fun h2 => ?_) (fun h2 => q)
          refine ⟨_, rfl, _, rfl, _, _, rfl, rfl, (by refine ⟨by decide, by decide, by decide⟩), _, _, rfl, rfl, _, rfl, _, _, rfl, rfl, div_ok hm0 hm1, _, rfl, p, _, rfl, pL _ hp1, ?_⟩
          refine ⟨_, rfl, _, rfl, _, _, rfl, rfl, (by refine ⟨by decide, by decide, by decide⟩), _, _, rfl, rfl, .inl ⟨_, rfl, _, rfl, _, _, rfl, rfl, hm0, ?_⟩⟩
          refine k _ _ ⟨k1.trans (Kp.upd _ _ _), ⟨b + 1, _, upd_same, by rw [upd_ne ncp]; exact hc1, hl, by omega, by omega⟩, B, hpen⟩ (Int.emod_nonneg _ (by omega)) (Int.emod_lt_of_pos _ hm0)
        · exact iteF q
end
end Ask

namespace Ask
open PySem L2
section
variable {P : Program} {w : World} {K : PySem.W.Frag} {mg : Str → Option Value} {base : Heap}
/-! ### the pen -/
def spPen (K : PySem.W.Frag) : Sp := fun vs H Q _ => ∃ (a : Addr) (ns : List Int), vs = [.ref a] ∧ SqL K H a (ns.map V.int) ∧ ns.length ≤ 63 ∧
  ∀ (H' : Hp) (p c : Addr), Same H H' → H p = none → Pen c ns H' p 0 → Q (.ref p) H'
abbrev s__law_pen : Stmt := top 45
theorem sc__law_pen : FnScope ["_law_script"] ["_law_script"] (defScope s__law_pen) := ⟨rfl, rfl, rfl, by decide +kernel, rfl, by decide +kernel, by decide +kernel⟩
theorem pk_made (c : Addr) (b l : Int) : mergeK [] [(Sum.inr ("cells" : Str), .ref c), (Sum.inr ("begun" : Str), .int b), (Sum.inr ("left" : Str), .int l)] = pk c b l := by
  have e1 : putK ([] : List (Key × V)) (Sum.inr ("cells" : Str)) (.ref c) = [(Sum.inr ("cells" : Str), .ref c)] := putK_new _ rfl
  have e2 : putK [((Sum.inr ("cells" : Str) : Key), V.ref c)] (Sum.inr ("begun" : Str)) (.int b) = [(Sum.inr ("cells" : Str), .ref c), (Sum.inr ("begun" : Str), .int b)] :=
    putK_new _ ((valV_neg (fun z => kBC z.symm)).trans rfl)
  have e3 : putK [((Sum.inr ("cells" : Str) : Key), V.ref c), (Sum.inr ("begun" : Str), .int b)] (Sum.inr ("left" : Str)) (.int l) = pk c b l :=
    putK_new _ ((valV_neg (fun z => kLC z.symm)).trans ((valV_neg (fun z => kLB z.symm)).trans rfl))
  unfold mergeK
  simp only [List.foldl_cons, List.foldl_nil]
  rw [e1, e2, e3]
theorem at_by {α : Type} {xs : List α} {z : Int} {j : Nat} {v : α} (e : z = (j : Int)) (h : xs[j]? = some v) : atI xs z = some v := by
  subst e
  exact atI_nat h
theorem cutV_whole (xs : List V) (n : Nat) (h : xs.length ≤ n) : cutV xs none (some (n : Int)) = xs := by
  unfold cutV
  rw [HT.sIx_none, HT.sIx_nat, List.drop_zero, Nat.sub_zero, Nat.min_eq_right h, List.take_length]
theorem ok_pen {f : Addr} {fd : FuncData} (F : Fun K "_law_pen" "_law_pen" s__law_pen f fd) (T : Blt mg) : FnOk P w K mg base CX0 1 f fd ["_law_script"] (spPen K) := by
  refine F.ok sc__law_pen (fun vs H Q E h => ?_) (fun cdv A outer s H vs Q E hr h => ?_)
  · obtain ⟨a, ns, rfl, _⟩ := h
    rfl
  · obtain ⟨a, ns, rfl, hS, hl, k⟩ := h
    refine ⟨_, (pss_one (ps_ret (pe_disp (pps_cons pe_str (pe_callTy call_list_of (by rfl) T.n_list (by decide +kernel) (pa_cons (pe_slice sl_list (pv 0) po_none (po_some pe_int)) pa_nil)) (pps_cons pe_str pe_int (pps_cons pe_str pe_int pps_nil))) (by rfl) (by rfl) (fun z => by cases z) (by decide)))), ?_⟩
    intro p hp
    have s0 : Same H (upd H p (.dK [])) := fun b o e => by rw [upd_ne (ne_of_none e hp)]; exact e
    refine ⟨_, rfl, _, rfl, a, _, rfl, s0.seq hS, fun q hq => ?_⟩
    rw [show cutV (ns.map V.int) none (some 63) = ns.map V.int from cutV_whole _ 63 (by rw [List.length_map]; exact hl)]
    refine ⟨q, _, rfl, .inl (SqL.of upd_same), fun c hc => ?_⟩
    have npq : p ≠ q := ne_of_none upd_same hq
    have hq0 : H q = none := by
      rw [upd_ne npq.symm] at hq
      exact hq
    have ncq : c ≠ q := fun e => by
      rw [e, upd_same] at hc
      cases hc
    have hc1 : upd H p (.dK []) c = none := by
      rw [upd_ne ncq] at hc
      exact hc
    have npc : p ≠ c := ne_of_none upd_same hc1
    have hc0 : H c = none := by
      rw [upd_ne npc.symm] at hc1
      exact hc1
    refine ⟨by rw [upd_ne npc, upd_ne npq, upd_same], [(Sum.inr ("cells" : Str), .ref c), (Sum.inr ("begun" : Str), .int 0), (Sum.inr ("left" : Str), .int 0)], rfl, (by show 3 ≤ 15; decide), ?_⟩
    rw [pk_made]
    refine k _ p c (fun b o e => ?_) hp ⟨0, 0, upd_same, by rw [upd_ne npc.symm, upd_same], hl, Int.le_refl _, Int.le_refl _⟩
    rw [upd_ne (ne_of_none e hp), upd_ne (ne_of_none e hc0), upd_ne (ne_of_none e hq0), upd_ne (ne_of_none e hp)]
    exact e

/-! ### the pick -/
def spPick (K : PySem.W.Frag) : Sp := fun vs H Q _ => ∃ (p c : Addr) (ns : List Int) (x : V) (B : Nat), vs = [.ref p, x] ∧ Pen c ns H p B ∧ B ≤ 1000000000 ∧
  ((∃ a xs, x = .ref a ∧ SqL K H a xs ∧ 0 < xs.length ∧ xs.length ≤ 1000 ∧ ∀ (H' : Hp) (v : V), Go p c ns H H' (B + 1) → v ∈ xs → Q v H') ∨
    (∃ z : Str, x = .str z ∧ 0 < z.length ∧ z.length ≤ 1000 ∧ ∀ (H' : Hp) (i : Nat), Go p c ns H H' (B + 1) → i ∈ z.cps.toList → Q (.str ⟨#[i]⟩) H'))
abbrev s__law_pick : Stmt := top 47
theorem sc__law_pick : FnScope ["_law_pen_here", "_law_options"] ["_law_pen_here", "_law_options"] (defScope s__law_pick) := ⟨rfl, rfl, rfl, by decide +kernel, rfl, by decide +kernel, by decide +kernel⟩
/-- a def of the text called by its name: where it stands, that it stays, how its arguments bind -/
structure At (K : PySem.W.Frag) (mg : Str → Option Value) (x : Str) (f : Addr) (fd : FuncData) (ps : List Str) : Prop where
  m : mg x = some (.ref f)
  k : PySem.W.keepIn K (.ref f) = true
  b : Binds K fd ps []
theorem ok_pick {f fD : Addr} {fd fdD : FuncData} (F : Fun K "_law_pick" "_law_pick" s__law_pick f fd) (T : Blt mg) (GD : FnOk P w K mg base CX0 1 fD fdD ["_law_pen_here", "_law_many"] spDraw) (D : At K mg "_law_draw" fD fdD ["_law_pen_here", "_law_many"]) :
    FnOk P w K mg base CX0 2 f fd ["_law_pen_here", "_law_options"] (spPick K) := by
  refine F.ok sc__law_pick (fun vs H Q E h => ?_) (fun cdv A outer s H vs Q E hr h => ?_)
  · obtain ⟨p, c, ns, x, B, rfl, _⟩ := h
    rfl
  · obtain ⟨p, c, ns, x, B, rfl, hpen, hB, h⟩ := h
    refine ⟨_, (pss_one (ps_ret (pe_ix ix_seq (pv 1) (pe_call GD hr (by rfl) D.m D.k D.b .nil pass0 (pa_cons (pv 0) (pa_cons (pe_callB call_len (by rfl) T.n_len (by decide +kernel) (pa_cons (pv 1) pa_nil)) pa_nil))) (fun _ _ => rfl)))), ?_⟩
    have sl : (1000 : Nat) ≤ sizeLine := by decide
    rcases h with ⟨a, xs, rfl, hS, h0, h1, k⟩ | ⟨z, rfl, h0, h1, k⟩
    · refine ⟨_, rfl, _, rfl, _, rfl, _, xs.length, rfl, .inl ⟨xs, hS, rfl⟩, p, c, ns, _, B, rfl, hpen, hB, by omega, by omega, fun H' r g r0 r1 => ?_⟩
      have hi : r.toNat < xs.length := by omega
      exact .inl ⟨a, xs, r, xs[r.toNat], rfl, rfl, g.seq hS, at_of (j := r.toNat) (by omega) (List.getElem?_eq_getElem hi), k H' _ g (List.getElem_mem hi)⟩
    · refine ⟨_, rfl, _, rfl, _, rfl, _, z.length, rfl, ⟨by omega, rfl⟩, p, c, ns, _, B, rfl, hpen, hB, by omega, by omega, fun H' r g r0 r1 => ?_⟩
      have hi : r.toNat < z.cps.toList.length := by
        have e : z.cps.toList.length = z.length := by simp [Str.length]
        omega
      exact .inr (.inr ⟨z, r, z.cps.toList[r.toNat], rfl, rfl, by omega, at_by (j := r.toNat) (by omega) (List.getElem?_eq_getElem hi), k H' _ g (List.getElem_mem hi)⟩)
end
end Ask

namespace Ask
open PySem L2
/-- if c: body else: other, its ways met in Mid -/
theorem seqIf_mid {c : TT} {t v u : TS} {D : Ends} {σ : L2.St} {H : Hp} (Mid : L2.St → Hp → Prop) (h : ∀ N : L2.St → Hp → Prop, (∀ σ' H', Mid σ' H' → N σ' H') → tIfS c t v { D with nx := N } σ H) (hq : ∀ σ' H', Mid σ' H' → u D σ' H') :
    tSeq (tIfS c t v) u D σ H := h (u D) hq
theorem len_sum1 : ∀ ys : List Str, (∀ y ∈ ys, y.length = 1) → (ys.map (·.length)).sum = ys.length
  | [], _ => rfl
  | y :: r, h => by
    rw [List.map_cons, List.sum_cons, List.length_cons, len_sum1 r (fun z hz => h z (List.mem_cons_of_mem _ hz)), h y (List.mem_cons_self ..)]
    omega
theorem join_len1 (ys : List Str) (h : ∀ y ∈ ys, y.length = 1) : (Txt.join (Str.ofString "") ys).length = ys.length := by
  rw [TL.join_eq]
  cases ys with
  | nil => rfl
  | cons a r =>
    rw [PyProof.Rows.len_join_cons, len_sum1 _ h]
    show _ + r.length * 0 = _
    omega
/-- all signs below 128 -/
def Asc (z : Str) : Prop := ∀ c ∈ z.cps.toList, c < 128
theorem Asc.app {a b : Str} (h : Asc a) (k : Asc b) : Asc (a ++ b) := fun c hc => by
  have e : (a ++ b).cps.toList = a.cps.toList ++ b.cps.toList := by
    rw [Str.cps_append, Array.toList_append]
  rw [e] at hc
  rcases List.mem_append.mp hc with z | z
  · exact h c z
  · exact k c z
theorem Asc.cut {a : Str} (h : Asc a) (lo hi : Option Int) : Asc (cutS a lo hi) := fun c hc => h c (List.mem_of_mem_drop (List.mem_of_mem_take hc))
theorem Asc.one {c : Nat} (h : c < 128) : Asc ⟨#[c]⟩ := fun d hd => by
  have e : d = c := by simpa using hd
  rw [e]
  exact h
theorem Asc.lit {s : String} (h : ((Str.ofString s).cps.toList.all fun c => decide (c < 128)) = true) : Asc (Str.ofString s) := fun c hc => of_decide_eq_true (List.all_eq_true.mp h c hc)
theorem Asc.joined : ∀ ys : List Str, (∀ y ∈ ys, Asc y) → Asc (Str.join (Str.ofString "") ys)
  | [], _ => fun c hc => by cases hc
  | [y], h => h y (List.mem_cons_self ..)
  | y :: z :: r, h => ((h y (List.mem_cons_self ..)).app (.lit rfl)).app (Asc.joined (z :: r) fun x hx => h x (List.mem_cons_of_mem _ hx))
theorem Asc.join (ys : List Str) (h : ∀ y ∈ ys, Asc y) : Asc (Txt.join (Str.ofString "") ys) := by
  rw [TL.join_eq]
  exact Asc.joined ys h
def small : Str := "abcdefghijklmnopqrstuvwxyz"
def signs : Str := "abcdefghijklmnopqrstuvwxyz0123456789"
theorem small_len : small.length = 26 := by decide +kernel
theorem signs_len : signs.length = 36 := by decide +kernel
theorem small_asc : Asc small := .lit (by decide +kernel)
theorem signs_asc : Asc signs := .lit (by decide +kernel)
section
variable {P : Program} {w : World} {K : PySem.W.Frag} {mg : Str → Option Value} {base : Heap}
abbrev s__law_letters : Stmt := top 48
theorem sc__law_letters : FnScope ["_law_pen_here", "_law_many", "_law_small", "_law_signs", "_law_stem", "_law_at", "_law_front", "_law_choice", "_law_step", "_law_tail", "_law_found", "_law_k", "_law_sign", "_law_word"] ["_law_pen_here", "_law_many"] (defScope s__law_letters) := ⟨rfl, rfl, rfl, by decide +kernel, rfl, by decide +kernel, by decide +kernel⟩
def nLet : List Str := ["_law_pen_here", "_law_many", "_law_small", "_law_signs", "_law_stem", "_law_at", "_law_front", "_law_choice", "_law_step", "_law_tail", "_law_found", "_law_k", "_law_sign", "_law_word"]
end
end Ask

/-! enumerate(t), t a tuple (or a list): the layer has it for lists alone -/
namespace PySem
open Sem (wp)
theorem ask_enum_new {v : Value} {o : Obj} {Hh : Heap → Prop} (B : Begins v o Hh) :
    Meets (Builtin.«enumerate.__new__» ⟨[.type "enumerate", v], []⟩) (fun _ R s => Hh s.heap ∧
      R (.ok (.ret (.ref (s.heap.push o).objs.size)))
        { s with heap := (s.heap.push o).push { cls := .type "enumerate", data := .fields #[.none, .bool false, .ref s.heap.objs.size, rawInt 0, .none, .none] } }) :=
  .of_wp fun prog w A R s z => by
    obtain ⟨h0, g0, d0, t0, os0⟩ := s
    obtain ⟨z1, z⟩ := z
    have subE := sub_enumerate
    have begins : ∀ {A' : Around} {E' : Value → Shared → Prop} {Q' : Value → Shared → Prop}, Q' (.ref h0.objs.size) ⟨h0.push o, g0, d0, t0, os0⟩ → wpAny (model prog w) A' (pyIter v) Q' E' ⟨h0, g0, d0, t0, os0⟩ :=
      fun q => B.iter prog w _ _ ⟨h0, g0, d0, t0, os0⟩ _ z1 q
    wp_walk using begins
    refine wpAny_stack_any fun _ => wpAny_pure ?_
    split
    · rename_i cl _ _ _ _ _
      cases (cl == Value.type "enumerate") <;> (wp_walk using begins; exact ⟨_, rfl, z⟩)
    · wp_walk using begins; exact ⟨_, rfl, z⟩
end PySem
namespace Ask
open PySem L2 PySem.Spec PyProof.Rows
/-- enumerate(v): its two new cells -/
theorem enum_made {prog : Program} {w : World} {A : Around} {E : Value → Shared → Prop} {s : Shared} {v : Value} {o : Obj} {Hh : Heap → Prop} {Q : Value → Shared → Prop} (B : Begins v o Hh) (h1 : Hh s.heap)
    (h : ∀ h', IsEnum h' (s.heap.objs.size + 1) s.heap.objs.size 0 .none → h'.get? s.heap.objs.size = some o → (∀ b u, s.heap.get? b = some u → h'.get? b = some u) → Q (.ref (s.heap.objs.size + 1)) { s with heap := h' }) :
    wpAny (model prog w) A (call (.type "enumerate") [v]) Q E s := by
  refine callType_new F.called_enumerate (by decide) (F.typeCall_enumerate_1 _) (F.newCall_enumerate_1 _) (fun obj => F.args_object_init_2 obj _) F.entry_enumerate_new (ask_enum_new B) ⟨h1, ?_⟩
  have z : (s.heap.push o).objs.size = s.heap.objs.size + 1 := Heap.size_push ..
  show _ ∧ _
  rw [z]
  have e : IsEnum ((s.heap.push o).push { cls := .type "enumerate", data := .fields #[.none, .bool false, .ref s.heap.objs.size, rawInt 0, .none, .none] }) (s.heap.objs.size + 1) s.heap.objs.size 0 .none := by
    have q := Heap.get?_push_size (s.heap.push o) (o := { cls := .type "enumerate", data := .fields #[.none, .bool false, .ref s.heap.objs.size, rawInt 0, .none, .none] }) rfl
    rw [z] at q
    exact q
  exact ⟨⟨_, e, rfl⟩, h _ e (Heap.get?_push_of_some _ (Heap.get?_push_size _ B.free)) fun b u q => Heap.get?_push_of_some _ (Heap.get?_push_of_some _ q)⟩
/-- the tuple at a, each item in a new pair with its place -/
def IteT (K : PySem.W.Frag) (a : Addr) : It :=
  ⟨fun i H => ∃ xs, SqT K H a xs ∧ i < xs.length, fun i H v H' => ∃ T x, v = .ref T ∧ H T = none ∧ H' = upd H T (.tup [.int (i : Nat), x]) ∧ ∀ xs, SqT K H a xs → xs[i]? = some x, fun i H => ∃ xs, SqT K H a xs ∧ xs.length = i⟩
theorem turn_enumT {P : Program} {w : World} {K : PySem.W.Frag} {elts : List Expr} {kk : Nat} {tpos : Pos} (a e it : Addr) (hne : e ≠ it) (hat : a ≠ it) :
    Turn P w K (.Tuple elts kk tpos) (IteT K a) [e, it] e (fun i h => (∃ old, IsEnum h e it ((i : Nat) : Int) old) ∧ h.IsTupleIter it a i) where
  mem := by simp
  obj := fun i h st b hb => by
    obtain ⟨⟨old, he⟩, o, ho, _, hd⟩ := st
    rcases (by simpa using hb : b = e ∨ b = it) with z | z
    · rw [z]; exact ⟨_, he, fun v q => nomatch q⟩
    · rw [z]; exact ⟨o, ho, fun v q => by rw [hd] at q; cases q⟩
  keep := fun i h h' st k => ⟨⟨_, k e (by simp) _ st.1.choose_spec⟩, st.2.at fun o q => k it (by simp) o q⟩
  item := by
    intro X hP hw hK hc i pins s σ H E I hf st hg
    subst hP hw hK
    obtain ⟨⟨old, he⟩, hit⟩ := st
    obtain ⟨xs, hq, hi⟩ := hg
    obtain ⟨its, rv, p, hz⟩ := I.tuple hq
    have hl := rv.length
    have hel : e < s.heap.objs.size := Heap.lt_size he
    have hil : it < s.heap.objs.size := by obtain ⟨_, q, _⟩ := hit; exact Heap.lt_size q
    have aE : a ≠ e := fun z => by
      obtain ⟨o, ho, ct, _⟩ := p
      have he2 : s.heap.get? e = some _ := he
      rw [z, he2] at ho
      have z2 := Option.some.inj ho
      rw [← z2] at ct
      injection ct with ct
      exact absurd ct (by decide)
    have Dr := Draws.tuple (prog := X.prog) (w := X.w) (A := X.A.in1) (show X.A.in1.handled = none from I.ok.hd hc) it a hat its.toArray
    refine wpAny_pyNext_enum_itemD Dr he ⟨hit, p⟩ (by simp; omega) hne (by intro z; rcases (by simpa using z : e = it ∨ e = a) with q | q; exact hne q; exact aE q.symm) fun x h' tk hx ho hs' hT hsz hk => ?_
    refine ⟨_, rfl, wpAny_letOwnedTupleGo_enum (s := { s with heap := h', toks := tk + 1 }) ho fun h'' he' sb => ?_⟩
    have hT2 : h''.get? s.heap.objs.size = some { cls := .type "tuple", data := .seq #[.int i tk, x] } := (sb.2 _ (Nat.ne_of_gt hel)).trans hT
    have hit2 : h''.IsTupleIter it a (i + 1) := hs'.1.at fun o q => (sb.2 it (Ne.symm hne)).trans q
    obtain ⟨y, hy, ry⟩ : ∃ y, xs[i]? = some y ∧ RelV y x := by
      obtain ⟨u, hu, ru⟩ := rv.get (List.getElem?_eq_getElem hi)
      have hx' : its[i]? = some x := by simpa using hx
      rw [hu] at hx'
      cases hx'
      exact ⟨_, List.getElem?_eq_getElem hi, ru⟩
    have new : ObjOk X.prog X.w (upd H s.heap.objs.size (.tup [.int (i : Nat), y])) h'' s.heap.objs.size (.tup [.int (i : Nat), y]) :=
      ⟨by show 2 ≤ sizeLine; decide, [.int i tk, x], .cons ⟨_, rfl⟩ (.cons ry .nil), ⟨_, hT2, rfl, _, rfl⟩⟩
    have I1 : Inv X pins σ (upd H s.heap.objs.size (.tup [.int (i : Nat), y])) { s with heap := h'', toks := tk + 1 } :=
      I.turnedNew (ch := [e, it]) (fun b ob hb q => (sb.2 b (fun z => hb (by simp [z]))).trans (hk b ob (fun z => hb (by simp [z])) (fun z => hb (by simp [z])) q)) hf (Nat.le_refl _) new
    refine ⟨.ref s.heap.objs.size, _, I1, rfl, ⟨_, y, rfl, I.hok.fresh (Nat.le_refl _), rfl, fun ys h2 => by rw [I.tuple_inj h2 hq]; exact hy⟩, ⟨⟨x, ?_⟩, hit2⟩, fun b hb => ?_⟩
    · have e1 : ((i + 1 : Nat) : Int) = (i : Int) + 1 := by omega
      rw [e1]
      exact he'
    · have hb' : b < s.heap.objs.size := by
        rcases (by simpa using hb : b = e ∨ b = it) with z | z
        · rw [z]; exact hel
        · rw [z]; exact hil
      rw [upd_ne (Nat.ne_of_lt hb')]
      exact (hf b hb).1
  done := by
    intro X hP hw hK hc i pins s σ H E I hf st hg
    subst hP hw hK
    obtain ⟨⟨old, he⟩, hit⟩ := st
    obtain ⟨xs, hq, hx⟩ := hg
    obtain ⟨its, rv, p, hz⟩ := I.tuple hq
    obtain ⟨f0, f1, f2, f3, f4, f5⟩ := hf it (by simp)
    have hl := rv.length
    have ei : i = its.toArray.size := by simp; omega
    subst ei
    have Dr := Draws.tuple (prog := X.prog) (w := X.w) (A := X.A.in1) (show X.A.in1.handled = none from I.ok.hd hc) it a hat its.toArray
    exact wpAny_pyNext_enum_endD Dr he ⟨hit, p⟩ fun h' eb => ⟨rfl, I.turned (t' := s.toks) (fun b o hb q => eb b o hb q) f0 f1 f3 f4 f5⟩
  self := fun A i s Q E st h => let ⟨⟨_, he⟩, _⟩ := st; wpAny_pyIter_enum he h
/-- enumerate(e), e a list or a tuple -/
def iEnumA (K : PySem.W.Frag) (ta : TA) : TI := fun σ H R => ta σ H fun vs H1 => ∃ a xs, vs = [.ref a] ∧ ((SqL K H1 a xs ∧ R (Ite K a) H1) ∨ (SqT K H1 a xs ∧ R (IteT K a) H1))
theorem pi_enumA {X : Cx} {e : Expr} {ta : TA} {p pos tpos : Pos} {elts : List Expr} {kk : Nat} (hg : Gl X "enumerate") (hm : X.mg "enumerate" = none) (ha : PA X [e] ta) (hs : starEach [e] X.env = [(false, eval e X.env)] := by rfl) :
    PI X (.Tuple elts kk tpos) (.Call (.Name "enumerate" p) [e] [] pos) (iEnumA X.K ta) := by
  refine ⟨fun pins s σ H R I h => ?_⟩
  refine Call_ (ld_blt I hg hm boot_enumerate (PyProof.Rows.callWith_type1 (thn (ha.run pos pins s σ H _ I h) fun us s1 ⟨vs, H1, I1, r1, a, xs, ex, q1⟩ => ?_) hs rfl))
  subst ex
  cases r1 with
  | cons r rr =>
    cases rr
    cases r
    have low : ∀ b : Addr, b ∈ [s1.heap.objs.size + 1, s1.heap.objs.size] → s1.heap.objs.size ≤ b := fun b hb => by
      rcases (by simpa using hb : b = s1.heap.objs.size + 1 ∨ b = s1.heap.objs.size) with z | z
      · rw [z]; exact Nat.le_add_right _ _
      · rw [z]; exact Nat.le_refl _
    rcases q1 with ⟨hq, q⟩ | ⟨hq, q⟩
    · obtain ⟨its, rv, p', hz⟩ := I1.list hq
      refine enum_made (begins_list a its.toArray) p'.isList fun h' he hit hk => wpAny_pyIter_enum he ?_
      exact ⟨s1.heap.objs.size + 1, [s1.heap.objs.size + 1, s1.heap.objs.size], _, _, H1, rfl, I1.kept (t' := s1.toks) hk, turn_enum a (s1.heap.objs.size + 1) s1.heap.objs.size, ⟨⟨.none, he⟩, ⟨_, hit, rfl, rfl⟩, Nat.succ_ne_self _⟩, fun b hb => I1.fpOk (low b hb) (I1.hok.fresh (low b hb)), q⟩
    · obtain ⟨its, rv, p', hz⟩ := I1.tuple hq
      have hal : a < s1.heap.objs.size := by obtain ⟨_, z, _⟩ := p'; exact Heap.lt_size z
      refine enum_made (begins_tuple a its.toArray) p' fun h' he hit hk => wpAny_pyIter_enum he ?_
      exact ⟨s1.heap.objs.size + 1, [s1.heap.objs.size + 1, s1.heap.objs.size], _, _, H1, rfl, I1.kept (t' := s1.toks) hk, turn_enumT a (s1.heap.objs.size + 1) s1.heap.objs.size (Nat.succ_ne_self _) (Nat.ne_of_lt hal), ⟨⟨.none, he⟩, ⟨_, hit, rfl, rfl⟩⟩, fun b hb => I1.fpOk (low b hb) (I1.hok.fresh (low b hb)), q⟩
theorem walk_enumT {K : PySem.W.Frag} {a : Addr} {xs : List V} : Walk (IteT K a) xs.length (fun H => SqT K H a xs) (YPair (fun i => some (.int (i : Nat))) (fun i => xs[i]?)) := by
  refine ⟨fun i H hi q => ⟨xs, q, hi⟩, fun H q => ⟨xs, q, rfl⟩, fun i H v H' _ q y => ?_⟩
  obtain ⟨T, x, h1, h2, h3, h4⟩ := y
  exact ⟨T, .int (i : Nat), x, h1, h2, h3, rfl, h4 xs q⟩
end Ask

/-! several clauses «except X as n» behind one try -/
namespace Ask
open PySem L2 PySem.Spec PyProof.Rows
/-- an error a that the frame of X has caught, with all that stood -/
structure Down (X : Cx) (pins : List (Addr × Obj)) (σ : L2.St) (H : Hp) (sI : Shared) (B : Heap) (a : Addr) (cls : Value) (d : Option Addr) (s : Shared) : Prop where
  fl : HandSPX.FlyingZ B (X.env :: X.outer) a (Zc cls d) s.heap
  inv : Inv X pins σ H sI
  nb : ∀ b o, sI.heap.get? b = some o → b ∉ frs X.stack → B.get? b = some o
  up : sI.heap.UpToSlots s.heap
  os : s.os = sI.os
  ag : AllBare s.gens
  na : H a = none
section
variable {X : Cx} {pins : List (Addr × Obj)} {σ : L2.St} {H : Hp} {sI s : Shared} {B : Heap} {a : Addr} {cls : Value} {d : Option Addr}
theorem Down.now (w : Down X pins σ H sI B a cls d s) : Inv X pins σ H s := w.inv.landed w.nb w.fl.1 w.up w.os w.ag
theorem Down.apart (w : Down X pins σ H sI B a cls d s) (hf : X.env.frame = some X.env.locals) : ∃ oe vs, s.heap.get? a = some oe ∧ Zc cls d oe ∧ oe.data = .fields vs ∧ a ≠ X.env.locals ∧ a ∉ X.fs := by
  obtain ⟨oe, vs, e, z, dd⟩ := w.fl.there
  have out : a ∉ frs (X.env :: X.outer) := fun hm => by
    obtain ⟨_, o2, e2, no⟩ := w.fl.2.2.1.mem hm
    rw [e] at e2
    cases e2
    exact no _ dd
  refine ⟨oe, vs, e, z, dd, fun q => out (List.mem_filterMap.mpr ⟨X.env, List.mem_cons_self, by rw [hf, q]⟩), fun hm => ?_⟩
  obtain ⟨v, hv, q⟩ := List.mem_filterMap.mp hm
  exact out (List.mem_filterMap.mpr ⟨v, List.mem_cons_of_mem _ hv, q⟩)
end
/-- what the clauses hds make of it, if W is wished for -/
def Hands (X : Cx) (D : Ends) (hds : List ExceptHandler) (W : WX) : Prop := ∀ (pins : List (Addr × Obj)) (σ : L2.St) (H : Hp) (sI s : Shared) (B : Heap) (a : Addr) (cls : Value) (d : Option Addr),
  Down X pins σ H sI B a cls d s → W cls d σ H → wpAny (model X.prog X.w) X.A (handleBy (.ref a) X.env hds) (SP X pins D) X.xe s
section
variable {X : Cx} {D : Ends} {hds : List ExceptHandler} {W : WX}
theorem hands_nil (hs : X.stack = X.env :: X.outer) (hf : X.env.frame = some X.env.locals) (tk : Takes X W) : Hands X D [] W := by
  intro pins σ H sI s B a cls d w q
  refine wpAny_handleBy_nil ?_
  obtain ⟨_, _, _, _, _, T, _, _, e, _, dd, e1, _⟩ := id w.fl
  unfold PySem.passOn
  refine wpAny_bind (wpAny_field e dd e1 ?_)
  rw [if_neg (show ¬ ((Value.ref T == Value.none) = true) from by simp)]
  have on : wpAny (model X.prog X.w) X.A (setFlight (.ref a) X.env.frame) (fun _ s4 => wpAny (model X.prog X.w) X.A (throw (.ref a) : Sem Flow) (SP X pins D) X.xe s4) X.xe s := by
    rw [hf]
    exact HandSPX.setFlight_upZ w.fl fun h4 held up4 => wpAny_throw (tk _ _ ⟨a, B, sI, pins, σ, H, cls, d, rfl, w.inv, w.nb, w.up.trans up4, .inr (.inr (by rw [hs]; exact held)), w.na, w.os, w.ag, q⟩)
  first
    | exact wpAny_bind (wpAny_pure (wpAny_bind on))
    | exact wpAny_bind on
theorem hands_as {x n : Str} {c : Value} {i : Nat} {suite : List Stmt} {b₀ : Stmt} {np pos' : Pos} {ts : Addr → Value → Option Addr → TS}
    (hf : X.env.frame = some X.env.locals) (hN : X.N.Nodup) (hi : X.N[i]? = some n) (hl : X.env.kindOf n = some .local) (hc : Names X x c)
    (su : ∀ (a : Addr) (oe : Obj) (cls : Value) (d : Option Addr) (pn : List (Addr × Obj)), Zc cls d oe → (∃ vs, oe.data = .fields vs) → PSs (X.suite a ((a, oe) :: pn)) (b₀ :: suite) (ts a cls d))
    (rest : Hands X D hds W) : Hands X D (.ExceptHandler (some (.Name x np)) (some n) (b₀ :: suite) pos' :: hds) (wAs X.K c i ts W D) := by
  intro pins σ H sI s B a cls d w q
  obtain ⟨b, hb, yes, no⟩ := q
  have J := w.now
  have ok := J.ok
  obtain ⟨oe, vs, he, hz, hd, nL, nF⟩ := w.apart hf
  have S := J.suite he hd w.na nL nF
  refine wpAny_handleBy_cons (codeAny_handlers_test ?_) (by intro z; cases z)
  have ty : PySem.W.Looks (model X.prog X.w) s.heap (typeOf (.ref a)) cls := fun A Q E s' k z => wpAny_typeOf_ref (k _ _ he) (by rw [hz.1]; exact z)
  have isIt := PySem.W.exm_one (M := model X.prog X.w) J.kIn ty hb
  have named : ∀ {Q : Value → Shared → Prop} {E : Value → Shared → Prop}, Q c s → wpAny (model X.prog X.w) (X.A.mark (some (.ref a))) (eval (.Name x np) X.env) Q E s := fun {Q E} z => by
    obtain ⟨g, dbg, m | ⟨m, bt, nn⟩⟩ := hc
    · exact ld_glob (X := X.suite a ((a, oe) :: (X.pn ++ pins))) S g m z dbg
    · exact ld_blt (X := X.suite a ((a, oe) :: (X.pn ++ pins))) S g m bt z nn dbg
  refine named (isIt.here ?_)
  cases b with
  | false => exact rest pins σ H sI s B a cls d w (no rfl)
  | true =>
    refine codeAny_handlers_suite_as (HandSPX.lands_againZ w.fl fun h4 fl4 up4 => ?_)
    have w4 : Down X pins σ H sI B a cls d { s with heap := h4 } := ⟨fl4, w.inv, w.nb, w.up.trans up4, w.os, w.ag, w.na⟩
    obtain ⟨oe4, vs4, he4, hz4, hd4, nL4, nF4⟩ := w4.apart hf
    have S4 := w4.now.suite he4 hd4 w.na nL4 nF4
    refine store_ok (X := X.suite a ((a, oe4) :: (X.pn ++ pins))) (v := .ref a) S4 hN hi (.inl hl) rfl (fun s5 S5 => ?_) (.inr hl)
    refine wpAny_mono ((su a oe4 cls d (X.pn ++ pins) hz4 ⟨_, hd4⟩).run [] s5 _ H _ S5 (yes rfl a w.na)) (fun f s6 got => ?_) (fun _ _ z => False.elim z)
    have away : ∀ {σ6 : L2.St} {H6 : Hp} {Q : Shared → Prop}, Inv (X.suite a ((a, oe4) :: (X.pn ++ pins))) [] σ6 H6 s6 → (∀ s7, Inv X pins (σ6.set i none) H6 s7 → Q s7) →
        wpAny (model X.prog X.w) X.A (do bindName X.env n .none; unbindBehindTheSuite X.env n pos') (fun _ s7 => Q s7) X.xe s6 := fun {σ6 H6 Q} S6 z => gone_ok (S6.unsuite ok) hN hi hl z
    cases f with
    | ret u => obtain ⟨v, σ6, H6, S6, r, z⟩ := got; exact away S6 fun s7 J7 => ⟨_, _, _, J7, r, z⟩
    | next => obtain ⟨σ6, H6, S6, z⟩ := got; exact away S6 fun s7 J7 => ⟨_, _, J7, z⟩
    | brk => obtain ⟨σ6, H6, S6, z⟩ := got; exact away S6 fun s7 J7 => ⟨_, _, J7, z⟩
    | cont => obtain ⟨σ6, H6, S6, z⟩ := got; exact away S6 fun s7 J7 => ⟨_, _, J7, z⟩
/-- try: body / the clauses -/
theorem ps_try_hands {body : List Stmt} {h₀ : ExceptHandler} {pos : Pos} {tb : WX → TS} {Wf : Ends → WX} (hs : X.stack = X.env :: X.outer) (hf : X.env.frame = some X.env.locals)
    (hb : ∀ (W : WX) (pn : List (Addr × Obj)) (xe : Value → Shared → Prop), Takes (X.tr pn xe) W → PassesOwn (model X.prog X.w) X.A X.env xe → PSs (X.tr pn xe) body (tb W))
    (hh : ∀ D, Hands X D (h₀ :: hds) (Wf D)) : PS X (.Try body (h₀ :: hds) [] [] pos) (fun D σ H => tb (Wf D) D σ H) := by
  refine ⟨fun pins s σ H D I h => ?_⟩
  have ok := I.ok
  have fr : X.A.frames = some (X.env :: X.outer) := by rw [ok.frames, hs]
  let after : Value → Shared → Prop := fun e s1 => wpAny (model X.prog X.w) X.A (noteFrame e X.env) (fun _ s2 => wpAny (model X.prog X.w) X.A (setFlight e none) (fun _ s3 => wpAny (model X.prog X.w) X.A (handleBy e X.env (h₀ :: hds)) (SP X pins D) X.xe s3) X.xe s2) X.xe s1
  have taken : Takes (X.tr (X.pn ++ pins) after) (Wf D) := fun u s1 xx => by
    obtain ⟨a, B, sI, pins1, σ1, H1, cls, d, rfl, J, nb, up, sky, na, os, ag, q⟩ := xx
    have sky1 : Sky B (X.env :: X.outer) a (Zc cls d) X.env.locals s1.heap := by rw [← hs]; exact sky
    exact Sky.land Zc.steady fr hf sky1 fun h3 fl3 up3 => hh D pins σ1 H1 sI { s1 with heap := h3 } B a cls d ⟨fl3, J.ofTry ok, nb, up.trans up3, os, ag, na⟩ q
  refine wpAny_Try_except (wpAny_mono ((hb (Wf D) (X.pn ++ pins) after taken PassesOwn.looking).run [] s σ H D (I.toTry _) h) (fun f s1 got => ?_) fun _ _ z => z)
  cases f with
  | ret u => obtain ⟨v, σ1, H1, J, r, z⟩ := got; exact ⟨v, σ1, H1, J.ofTry ok, r, z⟩
  | next => obtain ⟨σ1, H1, J, z⟩ := got; exact wpAny_execs_nil ⟨σ1, H1, J.ofTry ok, z⟩
  | brk => obtain ⟨σ1, H1, J, z⟩ := got; exact ⟨σ1, H1, J.ofTry ok, z⟩
  | cont => obtain ⟨σ1, H1, J, z⟩ := got; exact ⟨σ1, H1, J.ofTry ok, z⟩
end
end Ask

namespace Ask
open PySem L2 PySem.Spec PyProof.Rows
/-! ### repr of a list or tuple of data; a text times a number -/
def rRepr (K : PySem.W.Frag) : List V → Hp → VK → Prop := fun xs H Q => ∃ (a : Addr) (d : PyData), xs = [.ref a] ∧ Dp K H (.ref a) d ∧ d.showable = true ∧ d.hasDict = false ∧ d.depth ≤ 30 ∧ d.shown.length ≤ sizeLine ∧ Q (.str d.shown) H
theorem call_reprD {X : Cx} (hg : X.A.guards = some []) (hu : X.A.units + 64 < cLine) : CallR X (.builtin "repr") (rRepr X.K) := by
  intro pins s σ H xs us Q I r h
  obtain ⟨a, d, rfl, hd, sh, nd, dp, sz, q⟩ := h
  obtain ⟨u, rfl, ra⟩ := vals1 r
  obtain rfl : u = Value.ref a := ra
  obtain ⟨as, rd⟩ := Dp.reads I d _ _ hd rfl
  refine repr_of_reads' rd sh (fun z => by rw [nd] at z; cases z) hg (by omega) (fun _ _ e => e) (fun h' t tk k => ?_) sz
  exact ⟨.str d.shown, H, I.kept (t' := tk) k, ⟨t, rfl⟩, q⟩
def repS (x : Str) (n : Nat) : Str := ⟨(List.replicate n x.cps).foldl (· ++ ·) #[]⟩
theorem rep_size (x : Array Nat) : ∀ (n : Nat) (acc : Array Nat), ((List.replicate n x).foldl (· ++ ·) acc).size = acc.size + n * x.size
  | 0, acc => by simp
  | n + 1, acc => by
    rw [List.replicate_succ, List.foldl_cons, rep_size x n, Array.size_append, Nat.succ_mul]
    omega
theorem repS_len (x : Str) (n : Nat) : (repS x n).length = n * x.length := by
  show ((List.replicate n x.cps).foldl (· ++ ·) #[]).size = _
  rw [rep_size]
  show 0 + n * x.length = _
  omega
theorem op_mul_str {X : Cx} : OpR X (binaryOp .Mult) (fun x y H Q => ∃ (z : Str) (n : Int), x = .str z ∧ y = .int n ∧ 2 ≤ n ∧ n ≤ 1000 ∧ 1 ≤ z.length ∧ z.length ≤ 1000 ∧ Q (.str (repS z n.toNat)) H) := by
  intro pins s σ H x y v u Q I rx ry h
  obtain ⟨z, n, rfl, rfl, n0, n1, z0, z1, q⟩ := h
  obtain ⟨t, rfl⟩ := rx
  obtain ⟨t2, rfl⟩ := ry
  have zl : (z.length == 0) = false := by
    have : z.length ≠ 0 := by omega
    simpa using this
  have nl : (n == 1) = false := by
    have : n ≠ 1 := by omega
    simpa using this
  refine P.mul_str (by rw [decide_eq_false (by omega), decide_eq_false (by omega)]; rfl) (fun _ _ z => ?_) (fun _ _ => ?_) ?_
  · have e : (2 ^ 63 - 1) / (1000 : Int) ≤ (2 ^ 63 - 1) / n := by
      refine Int.le_ediv_of_mul_le (by omega) ?_
      have h1 : (2 ^ 63 - 1) / (1000 : Int) * n ≤ (2 ^ 63 - 1) / (1000 : Int) * 1000 := Int.mul_le_mul_of_nonneg_left n1 (by decide)
      have h2 : (2 ^ 63 - 1) / (1000 : Int) * 1000 ≤ 2 ^ 63 - 1 := by decide
      omega
    have e2 : (1000 : Int) ≤ (2 ^ 63 - 1) / (1000 : Int) := by decide
    omega
  · have e : z.length * n.toNat ≤ 1000 * 1000 := Nat.mul_le_mul z1 (by omega)
    have e2 : 1000 * 1000 ≤ sizeLine := by decide
    show decide (z.length * n.toNat > sizeLine) = false
    exact decide_eq_false (by omega)
  · rw [if_neg (by omega), if_neg (by rw [nl, zl]; exact Bool.false_ne_true)]
    refine ⟨?_, ?_⟩
    · show (repS z n.toNat).length ≤ sizeLine
      rw [repS_len]
      have e : z.length * n.toNat ≤ 1000 * 1000 := Nat.mul_le_mul z1 (by omega)
      have e2 : 1000 * 1000 ≤ sizeLine := by decide
      rw [Nat.mul_comm]
      omega
    · exact ⟨.str (repS z n.toNat), H, I.tok _, ⟨_, rfl⟩, q⟩
end Ask

namespace Ask
open PySem L2 PySem.Spec PyProof.Rows
/-! ### a def's body at one surrounding, the law's call from the outside (where it is known that no repr is under way) -/
theorem fn_run {CX : CXT} {P : Program} {w : World} {K : PySem.W.Frag} {mg : Str → Option Value} {base : Heap} {k : Nat} {f : Addr} {x qual : Str} {st : Stmt} {fd : FuncData} {N ps : List Str} {A : Around} {outer : List Env} {s : Shared} {H : Hp} {args : Args} {us : List Value} {vs : List V} {Q : VK} {E : XK}
    (F : Fun K x qual st f fd) (S : FnScope N ps (defScope st)) (hr : Room (k + 1) A) (e0 : Env0 P w K mg base A outer s H) (bind : BindsTo s fd args (ps.zip us)) (r : Vals vs us) (hl : vs.length = ps.length)
    (body : ∀ cdv : Value, Room k (A.deeper (envOfC qual (defScope st) s.heap.objs.size f cdv)) → ∃ t, PSs (cxOf CX P w K mg base N qual (defScope st) f cdv A outer s H E) (defBody st) t ∧ t { nx := fun _ H' => Q .non H', rt := Q } (start N vs) H) :
    codeAny (model P w) A (.call (.ref f) args) (CR CX outer P w H s Q E) s := by
  obtain ⟨oc, od, kV, doc, pm, an, cdv, ct, osl, rfl, lk, hcd⟩ := F.ex
  have here : ∀ b o, base.get? b = some o → s.heap.get? b = some o := fun b o e => (e0.bs b o e).1
  have inK : K.In s.heap := e0.mod.kin.keeps here
  refine codeAny_call_function hr.depth (inK _ _ lk) rfl S.co S.gen rfl (PySem.W.codeRec_of inK hcd) (bind _ _ _ _ ?_)
  refine wpAny_newFunctionEnv_cells S.kind (fun ⟨n, v⟩ hy => ?_) fun env he s1 x1 => ?_
  · rcases S.par n (List.of_mem_zip hy).1 with q | q
    · exact .inl q
    · exact .inr ⟨q, PySem.W.cellsFrom_some _ _ _ (.inl q)⟩
  subst he
  refine ⟨(e0.mod.nolimit.keeps here).keeps x1.toInCall.keep, codeAny_func ?_⟩
  obtain ⟨t, ht, hq⟩ := body cdv (hr.deeper _)
  refine wpAny_mono (ht.run [] s1 (start N vs) H _ (inv_start S hr.hd e0 hl r x1) hq) (fun fl s' got => ?_) fun _ _ z => z
  cases fl with
  | ret u => obtain ⟨v, _, H', J, rv, z⟩ := got; exact ⟨v, H', J.os, J.bare, J.base, J.hok, rv, z⟩
  | next => obtain ⟨_, H', J, z⟩ := got; exact ⟨V.non, H', J.os, J.bare, J.base, J.hok, rfl, z⟩
  | brk => obtain ⟨_, _, _, z⟩ := got; exact False.elim z
  | cont => obtain ⟨_, _, _, z⟩ := got; exact False.elim z
/-- the script's own cell, locked; nothing else is tracked -/
def lone (a : Addr) (vs : List Value) (ns : List Int) : Hp := fun b => if b = a then some (.frz { cls := .type "list", data := .seq vs.toArray } (.lst (ns.map V.int))) else none
theorem law_at {P : Program} {w : World} {K : PySem.W.Frag} {mg mb : Str → Option Value} {fa a : Addr} {s₁ : Shared} {vs : List Value} {ns : List Int}
    (inK : K.In s₁.heap) (gl : s₁.heap.Ns mainGlobals mg) (bl : s₁.heap.Ns builtinsNs mb) (bt : ∀ x : Str, x ≠ "__name__" → mb x = bootBuiltins x) (lim : s₁.heap.NoLimit) (gs : s₁.gens = #[])
    (ha : s₁.heap.get? a = some { cls := .type "list", data := .seq vs.toArray }) (hi : IntsAre vs ns) (hl : ns.length ≤ sizeLine)
    (run : ∀ (base : Heap) (H : Hp), K.In base → base.Ns mainGlobals mg → Env0 P w K mg base callerA [] s₁ H → SqL K H a (ns.map V.int) →
      codeAny (model P w) callerA (.call (.ref fa) ⟨[.ref a], []⟩) (CR CX0 [] P w H s₁ (fun v _ => v = .bl true) E0) s₁) :
    codeAny (model P w) callerA (.call (.ref fa) ⟨[.ref a], []⟩) (fun r s' => r = .ok (.ret (.bool true)) ∧ OldK s₁.heap s'.heap ∧ s'.os = s₁.os ∧ AllBare s'.gens) s₁ := by
  have nums : Vals (ns.map V.int) vs := vals_ints hi
  have from_ : ∀ H : Hp, (∀ b, H b = none ∨ ∃ o xs, H b = some (.frz o (.lst xs))) → (∀ b u, H b = some u → b = a ∧ K.lookup a = none) → SqL K H a (ns.map V.int) → HOk P w H s₁.heap →
      codeAny (model P w) callerA (.call (.ref fa) ⟨[.ref a], []⟩) (fun r s' => r = .ok (.ret (.bool true)) ∧ OldK s₁.heap s'.heap ∧ s'.os = s₁.os ∧ AllBare s'.gens) s₁ := by
    intro H frz atA sq ok
    have free : ∀ {b : Addr}, b ≠ a → H b = none := fun {b} ne => by
      cases q : H b with
      | none => rfl
      | some u => exact absurd (atA b u q).1 ne
    have nsB : ∀ {b : Addr} {m : Str → Option Value}, s₁.heap.Ns b m → (hidT s₁.heap H).Ns b m := fun {b m} ⟨o, es, ep, e, dd, z⟩ => ⟨o, es, ep, hidT_get e (free fun q => by
      rw [q, ha] at e
      cases e
      have dd' : Data.seq vs.toArray _ = Data.dict es ep := dd
      cases dd'), dd, z⟩
    have kB : K.In (hidT s₁.heap H) := fun b o e => hidT_get (inK b o e) (by
      cases q : H b with
      | none => rfl
      | some u =>
        obtain ⟨rfl, no⟩ := atA b u q
        rw [no] at e
        cases e)
    obtain ⟨mc, l1, l2⟩ := lim
    have e0 : Env0 P w K mg (hidT s₁.heap H) callerA [] s₁ H :=
      ⟨rfl, ⟨kB, nsB gl, ⟨mb, nsB bl, bt⟩, ⟨mc, nsB l1, l2⟩⟩, fun b o e => of_hidT e, Nat.le_of_eq (hidT_size _ _), trivial, (fun b hb => absurd (show b ∈ ([] : List Addr) from hb) (by simp)), ok, .of_eq gs⟩
    refine codeAny_mono (run _ H kB (nsB gl) e0 sq) fun r s' z => ?_
    match r, z with
    | .error e, z => exact False.elim z
    | .ok .next, z => exact False.elim z
    | .ok .brk, z => exact False.elim z
    | .ok .cont, z => exact False.elim z
    | .ok (.ret u), z =>
      obtain ⟨v, H', os, bare, un, ok', rv, q⟩ := z
      have q : v = .bl true := q
      subst q
      obtain rfl : u = Value.bool true := rv
      refine ⟨rfl, OldK.of_keep fun b o e => ?_, os, bare⟩
      rcases frz b with n | ⟨ob, xs, y⟩
      · exact un.keep b o e n (by intro z; exact absurd (show b ∈ ([] : List Addr) from z) (by simp)) (by simp)
      · obtain ⟨e1, _⟩ := ok b _ y
        obtain ⟨e2, _⟩ := ok' b _ (un.frzs b ob _ y)
        rw [e] at e1
        cases e1
        exact e2
  cases hk : K.lookup a with
  | none =>
    have at_ : lone a vs ns a = some (.frz { cls := .type "list", data := .seq vs.toArray } (.lst (ns.map V.int))) := if_pos rfl
    have off : ∀ {b : Addr}, b ≠ a → lone a vs ns b = none := fun {b} ne => if_neg ne
    refine from_ (lone a vs ns) (fun b => ?_) (fun b u z => ?_) (.inl (.inr ⟨_, at_⟩)) (fun b u z => ?_)
    · by_cases h : b = a
      · exact .inr ⟨_, _, by rw [h]; exact at_⟩
      · exact .inl (off h)
    · by_cases h : b = a
      · exact ⟨h, hk⟩
      · rw [off h] at z
        cases z
    · by_cases h : b = a
      · subst h
        rw [at_] at z
        cases z
        exact ⟨ha, by rw [List.length_map]; exact hl, vs, _, nums, ha⟩
      · rw [off h] at z
        cases z
  | some o =>
    have e := inK a o hk
    rw [ha] at e
    cases e
    refine from_ (fun _ => none) (fun _ => .inl rfl) (fun b u z => by cases z) (.inr ⟨_, vs.toArray, _, hk, rfl, rfl, rfl, ?_, by simpa using nums⟩) (fun b u z => by cases z)
    rw [List.size_toArray, hi.length]
    exact hl
end Ask

namespace Ask
open PySem L2
theorem pe_gv {X : Cx} {x : Str} {v : V} {pos : Pos} (hg : Gl X x) (h : ∃ u, X.mg x = some u ∧ RelV v u) (hd : (x == ("__debug__" : Str)) = false := by decide) : PE X (.Name x pos) (tC v) := by
  obtain ⟨u, hm, r⟩ := h
  exact pe_glob hg hm r hd
theorem Same.upd_new {H H' : Hp} {p : Addr} {o : HO} (s : Same H H') (h : H p = none) : Same H (upd H' p o) := fun b u e => by
  rw [upd_ne (ne_of_none e h)]
  exact s b u e
theorem Same.made1 {H H' : Hp} {p : Addr} {o : HO} (s : Same H H') (h : H' p = none) : Same H (upd H' p o) := Ask.Same.upd_new s (s.free h)

/-! ### letters, by their signs -/
def smallL : List Nat := small.cps.toList
def signsL : List Nat := signs.cps.toList
def shortL (l : List Nat) : Bool := decide (1 ≤ l.length ∧ l.length ≤ 12) && (match l.head? with | some c => decide (c ∈ smallL) | none => false) && l.all (fun c => decide (c ∈ signsL))
def wordOf (l : List Nat) : List Nat := if l.head? = some 126 then l.drop 1 else l
def newW : Str := "new"
def foundW : Str := "found"
def goodW (z : Str) : Bool := shortL z.cps.toList && !(decide (newW = z) || decide (foundW = z))
def wordS (z : Str) : Str := ⟨(wordOf z.cps.toList).toArray⟩
def isLs (z : Str) : Bool := goodW (wordS z)
def isL : PyData → Bool
  | .str z => isLs z
  | _ => false
/-- the values that the lists of the law hold -/
def Itm (d : PyData) : Prop := d = .none ∨ d = .bool true ∨ d = .int 7 ∨ ∃ z : Str, z.length ≤ 500 ∧ Asc z ∧ (d = .str z ∨ d = .list [.str z] ∨ d = .tuple [.str z])
def isStrD : PyData → Bool
  | .str _ => true
  | _ => false
section
variable {K : PySem.W.Frag} {H : Hp} {v : V} {d : PyData}
theorem ty_list {a : Addr} {xs : List V} (h : SqL K H a xs) : TyX K H (.ref a) (.type "list") := by
  rcases h with (h | ⟨o, h⟩) | ⟨o, _, _, h, c, _⟩
  · exact .base (.lst h)
  · exact .base (.frz h)
  · exact .kList h c
theorem ty_tup {a : Addr} {xs : List V} (h : SqT K H a xs) : TyX K H (.ref a) (.type "tuple") := by
  rcases h with (h | ⟨o, h⟩) | ⟨o, _, _, h, c, _⟩
  · exact .base (.tup h)
  · exact .fTuple h
  · exact .kTuple h c
/-- isinstance(value, str) -/
theorem isi_str (h : Dp K H v d) (hi : Itm d) : ∃ t : Value, TyX K H v t ∧ PySem.W.kitOne K t (.type "str") = some (isStrD d) := by
  rcases hi with rfl | rfl | rfl | ⟨z, _, _, rfl | rfl | rfl⟩
  · cases h
    exact ⟨_, .base .non, kit_ty (by decide +kernel)⟩
  · cases h
    exact ⟨_, .base (.bl _), kit_ty (by decide +kernel)⟩
  · cases h
    exact ⟨_, .base (.int _), kit_ty (by decide +kernel)⟩
  · cases h
    exact ⟨_, .base (.str _), kit_ty (by show kitB "str" "str" = some true; decide +kernel)⟩
  · cases h with
    | lst hs _ => exact ⟨_, ty_list hs, kit_ty (by show kitB "list" "str" = some false; decide +kernel)⟩
  · cases h with
    | tup hs _ => exact ⟨_, ty_tup hs, kit_ty (by show kitB "tuple" "str" = some false; decide +kernel)⟩
end
theorem tl_len (z : Str) : z.cps.toList.length = z.length := by simp [Str.length]
/-- the constants of the package's text -/
structure Gv (K : PySem.W.Frag) (mg : Str → Option Value) : Prop where
  small : ∃ u, mg "SMALL_LETTERS" = some u ∧ RelV (.str small) u
  signs : ∃ u, mg "WORD_SIGNS" = some u ∧ RelV (.str signs) u
  most : ∃ u, mg "MOST_SIGNS" = some u ∧ RelV (.int 12) u
  begins : ∃ (t : Addr) (u : Value), mg "BEGINNINGS" = some u ∧ RelV (.ref t) u ∧ ∀ H, SqT K H t [.str newW, .str foundW]
  mostL : ∃ u, mg "MOST_LETTERS" = some u ∧ RelV (.int 12) u
section
variable {P : Program} {w : World} {K : PySem.W.Frag} {mg : Str → Option Value} {base : Heap}
/-! ### is_short_word -/
def spShort : Sp := fun vs H Q _ => ∃ z : Str, vs = [.str z] ∧ z.length ≤ 500 ∧ ∀ H', Same H H' → Q (.bl (shortL z.cps.toList)) H'
end
end Ask

namespace Ask
open PySem L2
theorem str_ext {a b : Str} (h : a.cps.toList = b.cps.toList) : a = b := by
  obtain ⟨a⟩ := a
  obtain ⟨b⟩ := b
  have h : a.toList = b.toList := h
  rw [Array.toList_inj.mp h]
theorem starts_tilde (z : Str) : Txt.startswith z (Str.ofString "~") = decide (z.cps.toList.head? = some 126) := by
  obtain ⟨⟨l⟩⟩ := z
  unfold Txt.startswith Builtin.Str.subAt
  have e1 : (Str.ofString "~").cps = #[126] := by decide +kernel
  have e2 : (Str.ofString "~").length = 1 := by decide +kernel
  rw [e1, e2]
  cases l with
  | nil => rfl
  | cons c r =>
    have e3 : (⟨(c :: r)⟩ : Array Nat).extract 0 (0 + 1) = #[c] := by simp
    show (decide (0 + 1 ≤ (c :: r).length) && ((⟨(c :: r)⟩ : Array Nat).extract 0 (0 + 1) == #[126])) = decide (some c = some 126)
    rw [e3, decide_eq_true (by simp), Bool.true_and]
    by_cases h : c = 126
    · subst h
      rfl
    · rw [decide_eq_false (by intro q; exact h (Option.some.inj q))]
      simpa using h
theorem cut_rest (z : Str) : cutS z (some 1) none = ⟨(z.cps.toList.drop 1).toArray⟩ := by
  unfold cutS
  rw [show (some (1 : Int)) = some ((1 : Nat) : Int) from rfl, HT.sIx_nat, HT.sIx_none]
  have hl := tl_len z
  by_cases h : z.length = 0
  · have e : z.cps.toList = [] := List.length_eq_zero_iff.mp (by omega)
    rw [e]
    simp
  · have e : min 1 z.length = 1 := by omega
    rw [e, List.take_of_length_le (by rw [List.length_drop]; omega)]
theorem cut_head (z : Str) : cutS z none (some 1) = ⟨(z.cps.toList.take 1).toArray⟩ := by
  unfold cutS
  rw [show (some (1 : Int)) = some ((1 : Nat) : Int) from rfl, HT.sIx_nat, HT.sIx_none]
  have hl := tl_len z
  by_cases h : z.length = 0
  · have e : z.cps.toList = [] := List.length_eq_zero_iff.mp (by omega)
    rw [e]
    simp
  · have e : min 1 z.length = 1 := by omega
    rw [e, List.drop_zero]
theorem head_tilde (z : Str) : decide (V.str (cutS z none (some 1)) = V.str (Str.ofString "~")) = decide (z.cps.toList.head? = some 126) := by
  rw [cut_head]
  have e1 : (Str.ofString "~").cps.toList = [126] := by decide +kernel
  refine decide_eq_decide.mpr ⟨fun h => ?_, fun h => ?_⟩
  · have h2 : (⟨(z.cps.toList.take 1).toArray⟩ : Str) = Str.ofString "~" := V.str.inj h
    have h3 : z.cps.toList.take 1 = [126] := by
      have := congrArg (fun s : Str => s.cps.toList) h2
      rw [e1] at this
      simpa using this
    cases e : z.cps.toList with
    | nil =>
      rw [e] at h3
      cases h3
    | cons c r =>
      rw [e] at h3
      simp at h3
      rw [h3]
      rfl
  · congr 1
    refine str_ext ?_
    rw [e1]
    cases e : z.cps.toList with
    | nil =>
      rw [e] at h
      cases h
    | cons c r =>
      rw [e] at h
      cases h
      simp
theorem word_tilde {z : Str} (h : decide (z.cps.toList.head? = some 126) = true) : cutS z (some 1) none = wordS z := by
  rw [cut_rest]
  unfold wordS wordOf
  rw [if_pos (of_decide_eq_true h)]
theorem word_plain {z : Str} (h : ¬ decide (z.cps.toList.head? = some 126) = true) : z = wordS z := by
  unfold wordS wordOf
  rw [if_neg fun q => h (decide_eq_true q)]
theorem word_len (z : Str) : (wordS z).length ≤ z.length := by
  unfold wordS wordOf
  have hl := tl_len z
  split
  · show (z.cps.toList.drop 1).toArray.size ≤ _
    rw [List.size_toArray, List.length_drop]
    omega
  · show z.cps.toList.toArray.size ≤ _
    rw [List.size_toArray]
    omega
theorem eq_V (a b : Str) : eqV (.str a) (.str b) = decide (a = b) := by
  show (a == b) = _
  by_cases h : a = b
  · subst h; simp
  · rw [decide_eq_false h]
    simpa using h
section
variable {P : Program} {w : World} {K : PySem.W.Frag} {mg : Str → Option Value} {base : Heap}
def spIsL (K : PySem.W.Frag) : Sp := fun vs H Q _ => ∃ (v : V) (d : PyData), vs = [v] ∧ Dp K H v d ∧ Itm d ∧ ∀ H', Same H H' → Q (.bl (isL d)) H'
theorem itm_str {d : PyData} (hi : Itm d) (h : isStrD d = true) : ∃ z : Str, d = .str z ∧ z.length ≤ 500 ∧ Asc z := by
  rcases hi with rfl | rfl | rfl | ⟨z, h1, h2, rfl | rfl | rfl⟩
  · cases h
  · cases h
  · cases h
  · exact ⟨z, rfl, h1, h2⟩
  · cases h
  · cases h
theorem not_str {d : PyData} (h : ¬ isStrD d = true) : isL d = false := by
  cases d <;> first | rfl | exact absurd rfl h
/-! ### is_letter, the package's -/
end
end Ask

namespace Ask
open PySem L2
/-! ### what the library asks of data -/
theorem asc_ok {z : Str} (h : Asc z) : PyData.strOk z = true := by
  unfold PyData.strOk
  rw [← Array.all_toList, List.all_eq_true]
  intro c hc
  have := h c hc
  exact decide_eq_true (by omega)
structure Fit (d : PyData) : Prop where
  lay : d.canLay0 = true
  dep : d.depth ≤ 1
  sho : d.showable = true
  nod : d.hasDict = false
  len : d.shown.length ≤ 6000
theorem fit_str {z : Str} (h1 : z.length ≤ 500) (h2 : Asc z) : Fit (.str z) ∧ (PyData.shown (.str z)).length ≤ 5100 := by
  have l := StrLaws.reprText_len z (fun c hc => by have := h2 c hc; omega)
  have l2 : (PyData.shown (.str z)).length ≤ 5100 := by
    show (reprText z).length ≤ 5100
    omega
  exact ⟨⟨asc_ok h2, Nat.zero_le _, rfl, rfl, by omega⟩, l2⟩
theorem itm_fit {d : PyData} (h : Itm d) : Fit d := by
  rcases h with rfl | rfl | rfl | ⟨z, h1, h2, rfl | rfl | rfl⟩
  · exact ⟨rfl, by decide, rfl, rfl, by decide⟩
  · exact ⟨rfl, by decide, rfl, rfl, by decide⟩
  · exact ⟨rfl, by decide, by decide, rfl, by decide⟩
  · exact (fit_str h1 h2).1
  · obtain ⟨f, l⟩ := fit_str h1 h2
    refine ⟨?_, by show max 0 0 + 1 ≤ 1; decide, rfl, rfl, ?_⟩
    · show (PyData.canLay0 (.str z) && true) = true
      rw [f.lay] <;> rfl
    · have := listText_len_le [PyData.shown (.str z)]
      show (listText [PyData.shown (.str z)]).length ≤ 6000
      simp only [List.map_cons, List.map_nil, List.sum_cons, List.sum_nil, List.length_cons, List.length_nil] at this
      omega
  · obtain ⟨f, l⟩ := fit_str h1 h2
    refine ⟨?_, by show max 0 0 + 1 ≤ 1; decide, rfl, rfl, ?_⟩
    · show (PyData.canLay0 (.str z) && true) = true
      rw [f.lay] <;> rfl
    · have := tupleText_len_le [PyData.shown (.str z)]
      show (tupleText [PyData.shown (.str z)]).length ≤ 6000
      simp only [List.map_cons, List.map_nil, List.sum_cons, List.sum_nil, List.length_cons, List.length_nil] at this
      omega
structure FitAll (ds : List PyData) : Prop where
  lay : PyData.canLayAll0 ds = true
  dep : PyData.depthAll ds ≤ 1
  sho : PyData.showableAll ds = true
  nod : PyData.hasDictAll ds = false
  len : ((PyData.shownAll ds).map (·.length)).sum ≤ 6000 * ds.length
  cnt : (PyData.shownAll ds).length = ds.length
theorem fit_all : ∀ {ds : List PyData}, (∀ d ∈ ds, Fit d) → FitAll ds
  | [], _ => ⟨rfl, Nat.zero_le _, rfl, rfl, Nat.le_refl _, rfl⟩
  | d :: r, h => by
    have f := h d (List.mem_cons_self ..)
    have g := fit_all (ds := r) fun x hx => h x (List.mem_cons_of_mem _ hx)
    refine ⟨?_, ?_, ?_, ?_, ?_, ?_⟩
    · show (PyData.canLay0 d && PyData.canLayAll0 r) = true
      rw [f.lay, g.lay] <;> rfl
    · show max (PyData.depth d) (PyData.depthAll r) ≤ 1
      exact Nat.max_le.mpr ⟨f.dep, g.dep⟩
    · show (PyData.showable d && PyData.showableAll r) = true
      rw [f.sho, g.sho] <;> rfl
    · show (PyData.hasDict d || PyData.hasDictAll r) = false
      rw [f.nod, g.nod] <;> rfl
    · show ((PyData.shown d :: PyData.shownAll r).map (·.length)).sum ≤ 6000 * (r.length + 1)
      rw [List.map_cons, List.sum_cons]
      have := f.len
      have := g.len
      omega
    · show (PyData.shown d :: PyData.shownAll r).length = r.length + 1
      rw [List.length_cons, g.cnt]
theorem shaped_of {d : PyData} (h : d.canLay0 = true) (k : d.depth ≤ 64) : SeqAt.shaped d = true := by
  unfold SeqAt.shaped
  rw [h, decide_eq_true k] <;> rfl
theorem FitAll.shapedL {ds : List PyData} (f : FitAll ds) : SeqAt.shaped (.list ds) = true :=
  shaped_of f.lay (by show PyData.depthAll ds + 1 ≤ 64; have := f.dep; omega)
theorem FitAll.shapedT {ds : List PyData} (f : FitAll ds) : SeqAt.shaped (.tuple ds) = true :=
  shaped_of f.lay (by show PyData.depthAll ds + 1 ≤ 64; have := f.dep; omega)
theorem Fit.shaped {d : PyData} (f : Fit d) : SeqAt.shaped d = true := shaped_of f.lay (by have := f.dep; omega)
theorem dp_strs {K : PySem.W.Frag} {H : Hp} : ∀ ys : List Str, DpAll K H (ys.map V.str) (ys.map PyData.str)
  | [] => .nil
  | y :: r => .cons (.str y) (dp_strs r)
theorem fit_strs {ys : List Str} (h : ∀ y ∈ ys, y.length ≤ 500 ∧ Asc y) : FitAll (ys.map PyData.str) := fit_all fun d hd => by
  obtain ⟨y, hy, rfl⟩ := List.mem_map.mp hd
  exact (fit_str (h y hy).1 (h y hy).2).1
theorem eqv_nil : ∀ ds : List PyData, PyData.eqv (.list ds) (.list []) = ds.isEmpty
  | [] => by simp [PyData.eqv, PyData.eqvAll]
  | _ :: _ => by simp [PyData.eqv, PyData.eqvAll]
theorem asc_word {z : Str} (h : Asc z) : Asc (wordS z) := fun c hc => by
  have hc : c ∈ wordOf z.cps.toList := by simpa [wordS] using hc
  unfold wordOf at hc
  split at hc
  · exact h c (List.mem_of_mem_drop hc)
  · exact h c hc
end Ask

namespace Ask
open PySem L2
/-! ### the letters that the laws make are letters, and different ones -/
def fixS (z : Str) : Str := if z = newW ∨ z = foundW then z ++ ("0" : Str) else z
def tildeS : Str := "~"
structure Wds (wd : Nat → Str) (M : Nat) : Prop where
  good : ∀ k, k < M → goodW (wd k) = true
  inj : ∀ j k, j < M → k < M → wd j = wd k → j = k
theorem app_list (a b : Str) : (a ++ b).cps.toList = a.cps.toList ++ b.cps.toList := by rw [Str.cps_append, Array.toList_append]
theorem good_short {z : Str} (h : goodW z = true) : shortL z.cps.toList = true := by
  unfold goodW at h
  exact (Bool.and_eq_true_iff.mp h).1
theorem short_len {l : List Nat} (h : shortL l = true) : 1 ≤ l.length ∧ l.length ≤ 12 := by
  unfold shortL at h
  exact of_decide_eq_true (Bool.and_eq_true_iff.mp (Bool.and_eq_true_iff.mp h).1).1
theorem short_signs {l : List Nat} (h : shortL l = true) : ∀ c ∈ l, c ∈ signsL := by
  unfold shortL at h
  exact fun c hc => of_decide_eq_true (List.all_eq_true.mp (Bool.and_eq_true_iff.mp h).2 c hc)
theorem short_head {l : List Nat} (h : shortL l = true) : ∃ c r, l = c :: r ∧ c ∈ smallL := by
  unfold shortL at h
  have h2 := (Bool.and_eq_true_iff.mp (Bool.and_eq_true_iff.mp h).1).2
  cases l with
  | nil => cases h2
  | cons c r => exact ⟨c, r, rfl, of_decide_eq_true h2⟩
theorem short_mk {c : Nat} {r : List Nat} (h1 : (c :: r).length ≤ 12) (h2 : c ∈ smallL) (h3 : ∀ d ∈ c :: r, d ∈ signsL) : shortL (c :: r) = true := by
  unfold shortL
  rw [decide_eq_true ⟨by simp, h1⟩]
  simp only [List.head?_cons, decide_eq_true h2, Bool.true_and]
  exact List.all_eq_true.mpr fun d hd => decide_eq_true (h3 d hd)
theorem signs_asc' : ∀ c ∈ signsL, c < 128 := signs_asc
theorem small_no : ¬ 126 ∈ smallL := by decide +kernel
theorem small_signs : ∀ c ∈ smallL, c ∈ signsL := by
  have h : smallL.all (fun c => decide (c ∈ signsL)) = true := by decide +kernel
  exact fun c hc => of_decide_eq_true (List.all_eq_true.mp h c hc)
theorem good_asc {z : Str} (h : goodW z = true) : Asc z := fun c hc => signs_asc' c (short_signs (good_short h) c hc)
theorem good_len {z : Str} (h : goodW z = true) : z.length ≤ 12 := by
  have := short_len (good_short h)
  rw [tl_len] at this
  exact this.2
theorem good_no {z : Str} (h : goodW z = true) : z.cps.toList.head? ≠ some 126 := by
  obtain ⟨c, r, e, hc⟩ := short_head (good_short h)
  rw [e]
  intro q
  cases q
  exact small_no hc
theorem word_same {z : Str} (h : z.cps.toList.head? ≠ some 126) : wordS z = z := by
  refine str_ext ?_
  show (wordOf z.cps.toList).toArray.toList = _
  unfold wordOf
  rw [if_neg h]
theorem good_is {z : Str} (h : goodW z = true) : isLs z = true := by
  unfold isLs
  rw [word_same (good_no h)]
  exact h
theorem tilde_is {z : Str} (h : goodW z = true) : isLs (tildeS ++ z) = true := by
  unfold isLs
  have e : wordS (tildeS ++ z) = z := by
    refine str_ext ?_
    show (wordOf (tildeS ++ z).cps.toList).toArray.toList = _
    have e2 : (tildeS ++ z).cps.toList = 126 :: z.cps.toList := by
      rw [app_list]
      have : tildeS.cps.toList = [126] := by decide +kernel
      rw [this]
      rfl
    rw [e2]
    rfl
  rw [e]
  exact h
theorem fix_good {z : Str} (h : shortL z.cps.toList = true) : goodW (fixS z) = true := by
  unfold fixS
  split
  · rename_i q
    rcases q with rfl | rfl <;> decide +kernel
  · rename_i q
    unfold goodW
    rw [h, decide_eq_false (fun e => q (.inl e.symm)), decide_eq_false (fun e => q (.inr e.symm))]
    rfl
theorem fix_at {z : Str} {a : Nat} (h : a < z.cps.toList.length) : (fixS z).cps.toList[a]? = z.cps.toList[a]? := by
  unfold fixS
  split
  · rw [app_list, List.getElem?_append_left h]
  · rfl
theorem wds_mk {wd : Nat → Str} {M : Nat} {S : List Nat} {a : Nat} {sg : Nat → Nat} {T : Nat → List Nat} (ha : a ≤ S.length) (hl : S.length ≤ 11) (hs : ∀ c ∈ S, c ∈ signsL) (hh : ∀ c, S.head? = some c → c ∈ smallL)
    (h1 : ∀ k, k < M → sg k ∈ signsL) (h0 : a = 0 → ∀ k, k < M → sg k ∈ smallL) (inj : ∀ j k, j < M → k < M → sg j = sg k → j = k) (hT : ∀ k, (∀ c ∈ T k, c ∈ signsL) ∧ (T k).length ≤ S.length - a)
    (e : ∀ k, k < M → ∃ z, wd k = fixS z ∧ z.cps.toList = S.take a ++ sg k :: T k) : Wds wd M := by
  refine ⟨fun k hk => ?_, fun j k hj hk q => ?_⟩
  · obtain ⟨z, e1, e2⟩ := e k hk
    rw [e1]
    refine fix_good ?_
    rw [e2]
    have len : (S.take a ++ sg k :: T k).length ≤ 12 := by
      rw [List.length_append, List.length_cons, List.length_take]
      have := (hT k).2
      omega
    have mem : ∀ c ∈ S.take a ++ sg k :: T k, c ∈ signsL := fun c hc => by
      rcases List.mem_append.mp hc with q | q
      · exact hs c (List.mem_of_mem_take q)
      · rcases List.mem_cons.mp q with rfl | q
        · exact h1 k hk
        · exact (hT k).1 c q
    cases a with
    | zero =>
      rw [List.take_zero, List.nil_append] at len mem ⊢
      exact short_mk len (h0 rfl k hk) mem
    | succ a =>
      cases S with
      | nil => simp at ha
      | cons c r =>
        rw [List.take_succ_cons, List.cons_append] at len mem ⊢
        exact short_mk len (hh c rfl) mem
  · obtain ⟨y, e1, e2⟩ := e j hj
    obtain ⟨z, e3, e4⟩ := e k hk
    have l1 : (S.take a).length = a := by rw [List.length_take]; omega
    have p1 : y.cps.toList[a]? = some (sg j) := by
      rw [e2, List.getElem?_append_right (by omega), l1, Nat.sub_self]
      rfl
    have p2 : z.cps.toList[a]? = some (sg k) := by
      rw [e4, List.getElem?_append_right (by omega), l1, Nat.sub_self]
      rfl
    have a1 : a < y.cps.toList.length := by rw [e2, List.length_append, List.length_cons]; omega
    have a2 : a < z.cps.toList.length := by rw [e4, List.length_append, List.length_cons]; omega
    have q2 : (fixS y).cps.toList[a]? = (fixS z).cps.toList[a]? := by rw [← e1, ← e3, q]
    rw [fix_at a1, fix_at a2, p1, p2] at q2
    exact inj j k hj hk (Option.some.inj q2)
/-- the signs of a row of different places -/
theorem step_inj {n f s j k : Nat} (hn : n = 26 ∨ n = 36) (hs : s ∈ [1, 5, 7, 11, 17, 19, 23, 25]) (hj : j < 26) (hk : k < 26) (h : (f + s * j) % n = (f + s * k) % n) : j = k := by
  simp only [List.mem_cons, List.not_mem_nil, or_false] at hs
  rcases hn with rfl | rfl <;> rcases hs with rfl | rfl | rfl | rfl | rfl | rfl | rfl | rfl <;> omega
theorem nodup_at {l : List Nat} (h : l.Nodup) {i j : Nat} {c : Nat} (h1 : l[i]? = some c) (h2 : l[j]? = some c) : i = j := by
  exact (List.getElem?_inj (List.getElem?_eq_some_iff.mp h1).1 h).mp (h1.trans h2.symm)
theorem small_nodup : smallL.Nodup := by decide +kernel
theorem signs_nodup : signsL.Nodup := by decide +kernel
/-! ### what stands behind i turns -/
structure Iv (wd : Nat → Str) (ys : List Str) (i : Nat) : Prop where
  len : ys.length = i
  from_ : ∀ y ∈ ys, ∃ j, j < i ∧ (y = wd j ∨ y = tildeS ++ wd j)
  nd : ys.Nodup
  last : ∀ l, ys.getLast? = some l → l.cps.toList.head? ≠ some 126 → ¬ (tildeS ++ l) ∈ ys
section
variable {wd : Nat → Str} {M i : Nat} {ys : List Str}
theorem tilde_inj {a b : Str} (h : tildeS ++ a = tildeS ++ b) : a = b := by
  have h2 := congrArg (fun z : Str => z.cps.toList) h
  simp only [app_list] at h2
  exact str_ext (List.append_cancel_left h2)
theorem tilde_head (a : Str) : (tildeS ++ a).cps.toList.head? = some 126 := by
  rw [app_list]
  have : tildeS.cps.toList = [126] := by decide +kernel
  rw [this]
  rfl
theorem Iv.nil : Iv wd [] 0 := ⟨rfl, fun _ h => by simp at h, List.nodup_nil, fun _ h => by simp at h⟩
theorem Iv.fresh (v : Iv wd ys i) (w : Wds wd M) (hi : i < M) : ¬ wd i ∈ ys ∧ ¬ (tildeS ++ wd i) ∈ ys := by
  refine ⟨fun h => ?_, fun h => ?_⟩
  · obtain ⟨j, hj, e | e⟩ := v.from_ _ h
    · have := w.inj i j hi (by omega) e
      omega
    · exact good_no (w.good i hi) (by rw [e]; exact tilde_head _)
  · obtain ⟨j, hj, e | e⟩ := v.from_ _ h
    · exact good_no (w.good j (by omega)) (by rw [← e]; exact tilde_head _)
    · have := w.inj i j hi (by omega) (tilde_inj e)
      omega
theorem nodup_app {ys : List Str} {y : Str} (h : ys.Nodup) (n : ¬ y ∈ ys) : (ys ++ [y]).Nodup := by
  rw [List.nodup_append]
  refine ⟨h, by simp, fun a ha b hb q => ?_⟩
  rw [List.mem_singleton.mp hb] at q
  rw [q] at ha
  exact n ha
theorem Iv.plain (v : Iv wd ys i) (w : Wds wd M) (hi : i < M) : Iv wd (ys ++ [wd i]) (i + 1) := by
  obtain ⟨f1, f2⟩ := v.fresh w hi
  refine ⟨by rw [List.length_append, v.len]; rfl, fun y hy => ?_, nodup_app v.nd f1, fun l hl hn => ?_⟩
  · rcases List.mem_append.mp hy with q | q
    · obtain ⟨j, hj, e⟩ := v.from_ y q
      exact ⟨j, by omega, e⟩
    · exact ⟨i, by omega, .inl (List.mem_singleton.mp q)⟩
  · rw [List.getLast?_concat] at hl
    cases hl
    intro q
    rcases List.mem_append.mp q with q | q
    · exact f2 q
    · exact good_no (w.good i hi) (by rw [← List.mem_singleton.mp q]; exact tilde_head _)
theorem Iv.tilde (v : Iv wd ys i) (w : Wds wd M) (hi : i < M) : Iv wd (ys ++ [tildeS ++ wd i]) (i + 1) := by
  obtain ⟨f1, f2⟩ := v.fresh w hi
  refine ⟨by rw [List.length_append, v.len]; rfl, fun y hy => ?_, nodup_app v.nd f2, fun l hl hn => ?_⟩
  · rcases List.mem_append.mp hy with q | q
    · obtain ⟨j, hj, e⟩ := v.from_ y q
      exact ⟨j, by omega, e⟩
    · exact ⟨i, by omega, .inr (List.mem_singleton.mp q)⟩
  · rw [List.getLast?_concat] at hl
    cases hl
    exact absurd (tilde_head _) hn
theorem Iv.again (v : Iv wd ys i) {l : Str} (hl : ys.getLast? = some l) (hn : l.cps.toList.head? ≠ some 126) : Iv wd (ys ++ [tildeS ++ l]) (i + 1) := by
  have ml : l ∈ ys := List.mem_of_getLast? hl
  refine ⟨by rw [List.length_append, v.len]; rfl, fun y hy => ?_, nodup_app v.nd (v.last l hl hn), fun k hk hn' => ?_⟩
  · rcases List.mem_append.mp hy with q | q
    · obtain ⟨j, hj, e⟩ := v.from_ y q
      exact ⟨j, by omega, e⟩
    · obtain ⟨j, hj, e | e⟩ := v.from_ l ml
      · exact ⟨j, by omega, .inr (by rw [List.mem_singleton.mp q, e])⟩
      · exact absurd (by rw [e]; exact tilde_head _) hn
  · rw [List.getLast?_concat] at hk
    cases hk
    exact absurd (tilde_head _) hn'
/-- at the end: letters, different ones -/
theorem Iv.ends (v : Iv wd ys i) (w : Wds wd M) (hi : i ≤ M) : ys.length = i ∧ ys.Nodup ∧ ∀ y ∈ ys, isLs y = true ∧ y.length ≤ 13 ∧ Asc y := by
  refine ⟨v.len, v.nd, fun y hy => ?_⟩
  obtain ⟨j, hj, e⟩ := v.from_ y hy
  have g := w.good j (by omega)
  rcases e with rfl | rfl
  · exact ⟨good_is g, by have := good_len g; omega, good_asc g⟩
  · refine ⟨tilde_is g, ?_, Asc.app (.lit (by decide +kernel)) (good_asc g)⟩
    rw [Str.length_append]
    have := good_len g
    show 1 + _ ≤ 13
    omega
end
end Ask

namespace Ask
open PySem L2
theorem join_ones : ∀ cs : List Nat, (Str.join (Str.ofString "") (cs.map fun c => (⟨#[c]⟩ : Str))).cps.toList = cs
  | [] => rfl
  | [c] => rfl
  | c :: d :: r => by
    show (((⟨#[c]⟩ : Str) ++ Str.ofString "") ++ Str.join (Str.ofString "") ((d :: r).map fun c => (⟨#[c]⟩ : Str))).cps.toList = _
    rw [app_list, app_list, join_ones (d :: r)]
    rfl
theorem joinT_ones (cs : List Nat) : (Txt.join (Str.ofString "") (cs.map fun c => (⟨#[c]⟩ : Str))).cps.toList = cs := by
  rw [TL.join_eq]
  exact join_ones cs
theorem cut_pre (z : Str) (n : Nat) : (cutS z none (some (n : Int))).cps.toList = z.cps.toList.take n := by
  unfold cutS
  rw [HT.sIx_none, HT.sIx_nat, List.drop_zero, Nat.sub_zero]
  have hl := tl_len z
  by_cases h : n ≤ z.length
  · rw [Nat.min_eq_left h]
  · rw [Nat.min_eq_right (by omega), List.take_of_length_le (by omega), List.take_of_length_le (by omega)]
theorem cut_suf (z : Str) (n : Nat) : (cutS z (some (n : Int)) none).cps.toList = z.cps.toList.drop n := by
  unfold cutS
  rw [HT.sIx_none, HT.sIx_nat]
  have hl := tl_len z
  by_cases h : n ≤ z.length
  · rw [Nat.min_eq_left h, List.take_of_length_le (by rw [List.length_drop]; omega)]
  · rw [Nat.min_eq_right (by omega), List.drop_of_length_le (by omega), List.drop_of_length_le (by omega)]
    simp
theorem cut_mem {z : Str} {lo hi : Option Int} {c : Nat} (h : c ∈ (cutS z lo hi).cps.toList) : c ∈ z.cps.toList := List.mem_of_mem_drop (List.mem_of_mem_take h)
/-- the sign of turn k -/
def sgN (zc : Str) (fr s k : Nat) : Nat := (zc.cps.toList[(fr + s * k) % zc.length]?).getD 0
theorem sgN_at (zc : Str) (fr s k : Nat) (h : 0 < zc.length) : zc.cps.toList[(fr + s * k) % zc.length]? = some (sgN zc fr s k) := by
  have hl := tl_len zc
  have lt : (fr + s * k) % zc.length < zc.cps.toList.length := by
    rw [hl]
    exact Nat.mod_lt _ h
  unfold sgN
  rw [List.getElem?_eq_getElem lt]
  rfl
theorem sgN_mem (zc : Str) (fr s k : Nat) (h : 0 < zc.length) : sgN zc fr s k ∈ zc.cps.toList := List.mem_of_getElem? (sgN_at zc fr s k h)
/-- the word of turn k -/
def wdN (stem zc : Str) (at_ fr s : Nat) (k : Nat) : Str :=
  fixS ((cutS stem none (some (at_ : Int)) ++ (⟨#[sgN zc fr s k]⟩ : Str)) ++ cutS (cutS stem (some (at_ : Int)) none) none (some (((cutS stem (some (at_ : Int)) none).length : Int) - (0 + (k : Int)) * (if decide (0 + (k : Int) < 2) = true then 1 else 0))))
theorem wdN_ok {stem zc : Str} {at_ fr s : Nat} (ha : at_ ≤ stem.length) (hl : stem.length ≤ 11) (hs : ∀ c ∈ stem.cps.toList, c ∈ signsL) (hh : ∀ c, stem.cps.toList.head? = some c → c ∈ smallL)
    (hz : zc = if 0 < at_ then signs else small) (hst : s ∈ [1, 5, 7, 11, 17, 19, 23, 25]) : Wds (wdN stem zc at_ fr s) 26 := by
  have hL := tl_len stem
  have hn : zc.length = 26 ∨ zc.length = 36 := by
    rw [hz]
    split
    · exact .inr signs_len
    · exact .inl small_len
  have pos : 0 < zc.length := by omega
  have nd : zc.cps.toList.Nodup := by
    rw [hz]
    split
    · exact signs_nodup
    · exact small_nodup
  refine wds_mk (S := stem.cps.toList) (a := at_) (sg := sgN zc fr s) (T := fun k => (cutS (cutS stem (some (at_ : Int)) none) none (some (((cutS stem (some (at_ : Int)) none).length : Int) - (0 + (k : Int)) * (if decide (0 + (k : Int) < 2) = true then 1 else 0)))).cps.toList)
    (by omega) (by omega) hs hh (fun k hk => ?_) (fun e k hk => ?_) (fun j k hj hk q => ?_) (fun k => ⟨fun c hc => hs c (cut_mem (cut_mem hc)), ?_⟩) (fun k hk => ⟨_, rfl, ?_⟩)
  · have := sgN_mem zc fr s k pos
    generalize sgN zc fr s k = x at this ⊢
    rw [hz] at this
    split at this
    · exact this
    · exact small_signs _ this
  · have := sgN_mem zc fr s k pos
    generalize sgN zc fr s k = x at this ⊢
    rw [hz, e] at this
    exact this
  · have e1 := sgN_at zc fr s j pos
    have e2 := sgN_at zc fr s k pos
    rw [q] at e1
    exact step_inj hn hst hj hk (nodup_at nd e1 e2)
  · rw [tl_len]
    refine Nat.le_trans (cutS_length _ _ _) ?_
    have := tl_len (cutS stem (some (at_ : Int)) none)
    rw [cut_suf, List.length_drop] at this
    omega
  · rw [app_list, app_list, cut_pre]
    show (_ ++ [sgN zc fr s k]) ++ _ = _
    rw [List.append_assoc]
    rfl
/-- what the block of the n signs leaves -/
def SgL (L : List Nat) (p c : Addr) (ns : List Int) (H0 : Hp) (D : Addr) (B i : Nat) (H : Hp) : Prop := ∃ cs : List Nat, Go p c ns H0 H (B + i) ∧ H D = some (.lst ((cs.map fun c => (⟨#[c]⟩ : Str)).map V.str)) ∧ cs.length = i ∧ ∀ c ∈ cs, c ∈ L
theorem SgL.next {L : List Nat} {p c D : Addr} {ns : List Int} {H0 H H' : Hp} {B i j : Nat} (h : SgL L p c ns H0 D B i H) (h0 : H0 D = none) (g : Go p c ns H H' (B + i + 1)) (hi : i ≤ 1000) (hj : j ∈ L) :
    ∃ acc, H' D = some (.lst acc) ∧ acc.length < sizeLine ∧ SgL L p c ns H0 D B (i + 1) (upd H' D (.lst (acc ++ [.str ⟨#[j]⟩]))) := by
  obtain ⟨cs, g0, hD, hl, h1⟩ := h
  refine ⟨_, g.lst hD, ?_, cs ++ [j], ((g0.step g).mut h0).mono (by omega), ?_, ?_, ?_⟩
  · rw [List.length_map, List.length_map]
    exact small1000 (by omega)
  · rw [upd_same, List.map_append, List.map_append]
    rfl
  · rw [List.length_append, hl]
    rfl
  · intro y hy
    rcases List.mem_append.mp hy with z | z
    · exact h1 y z
    · rw [List.mem_singleton.mp z]
      exact hj
theorem in_mem {x : Str} {ys : List Str} (h : x ∈ ys) : inV (.str x) (ys.map V.str) = true := by
  unfold inV
  rw [List.any_eq_true]
  refine ⟨.str x, List.mem_map.mpr ⟨x, h, rfl⟩, ?_⟩
  exact decide_eq_true rfl
section
variable {P : Program} {w : World} {K : PySem.W.Frag} {mg : Str → Option Value} {base : Heap}
/-- different letters in a new list -/
def spLettersD : Sp := fun vs H Q _ => ∃ (p c : Addr) (ns : List Int) (m : Int) (B : Nat), vs = [.ref p, .int m] ∧ Pen c ns H p B ∧ B ≤ 500000000 ∧ 0 ≤ m ∧ m ≤ 26 ∧
  ∀ (H' : Hp) (q : Addr) (ys : List Str), Go p c ns H H' (B + 150) → H q = none → H' q = some (.lst (ys.map V.str)) → (ys.length : Int) = m → ys.Nodup → (∀ y ∈ ys, isLs y = true ∧ y.length ≤ 13 ∧ Asc y) → Q (.ref q) H'
theorem ok_lettersD {f fD fP : Addr} {fd fdD fdP : FuncData} (F : Fun K "_law_letters" "_law_letters" s__law_letters f fd) (T : Blt mg)
    (GD : FnOk P w K mg base CX0 1 fD fdD ["_law_pen_here", "_law_many"] spDraw) (D : At K mg "_law_draw" fD fdD ["_law_pen_here", "_law_many"])
    (GP : FnOk P w K mg base CX0 2 fP fdP ["_law_pen_here", "_law_options"] (spPick K)) (C : At K mg "_law_pick" fP fdP ["_law_pen_here", "_law_options"]) :
    FnOk P w K mg base CX0 3 f fd ["_law_pen_here", "_law_many"] spLettersD := by
  refine F.ok sc__law_letters (fun vs H Q E h => ?_) (fun cdv A outer s H vs Q E hr h => ?_)
  · obtain ⟨p, c, ns, m, B, rfl, _⟩ := h
    rfl
  · obtain ⟨p, c, ns, m, B, rfl, hpen, hB, hm0, hm1, k⟩ := h
    have hr1 : Room 1 _ := hr.mono (by decide)
    refine ⟨_, (pss_cons (ps_asg (pe_tup (pa_cons pe_str (pa_cons pe_str pa_nil))) (pg_tup rfl (pgs_cons (pg_name (i := 2) sc__law_letters.nd rfl (Or.inr rfl)) (pgs_cons (pg_name (i := 3) sc__law_letters.nd rfl (Or.inr rfl)) pgs_nil))))
      (pss_cons (ps_set (i := 4) sc__law_letters.nd rfl (Or.inl rfl) (pe_join pe_str (pe_lc (own := [("_law_k", 11)]) rfl sc__law_letters.nd (pi_range1 rfl T.n_range (pa_cons (pe_callB (call_min2 rfl) (by rfl) T.n_min (by decide +kernel) (pa_cons pe_int (pa_cons (pe_call GD hr1 (by rfl) D.m D.k D.b .nil pass0 (pa_cons (pv 0) (pa_cons pe_int pa_nil))) pa_nil))) pa_nil)) (blkOk_by (N := nLet) (sc := defScope s__law_letters) (by decide +kernel)) (fun _ _ _ _ _ => (pg_name (i := 11) sc__law_letters.nd rfl (Or.inl rfl))) (fun _ _ _ _ _ => pts_nil) (fun _ _ _ _ _ => (pe_call GP (by exact hr) (by rfl) C.m C.k C.b .nil pass0 (pa_cons (pv 0) (pa_cons (pv 2) pa_nil)))))))
      (pss_cons (ps_set (i := 4) sc__law_letters.nd rfl (Or.inl rfl) (pe_op op_add_str (pv 4) (pe_join pe_str (pe_lc (own := [("_law_k", 11)]) rfl sc__law_letters.nd (pi_range1 rfl T.n_range (pa_cons (pe_op op_mul (pe_call GD hr1 (by rfl) D.m D.k D.b .nil pass0 (pa_cons (pv 0) (pa_cons pe_int pa_nil))) (pe_callB call_len_str (by rfl) T.n_len (by decide +kernel) (pa_cons (pv 4) pa_nil))) pa_nil)) (blkOk_by (N := nLet) (sc := defScope s__law_letters) (by decide +kernel)) (fun _ _ _ _ _ => (pg_name (i := 11) sc__law_letters.nd rfl (Or.inl rfl))) (fun _ _ _ _ _ => pts_nil) (fun _ _ _ _ _ => (pe_call GP (by exact hr) (by rfl) C.m C.k C.b .nil pass0 (pa_cons (pv 0) (pa_cons (pv 3) pa_nil))))))))
      (pss_cons (ps_par (i := 5) (j := 6) rfl sc__law_letters.nd rfl rfl (by decide) rfl rfl (pa_cons (pe_call GD hr1 (by rfl) D.m D.k D.b .nil pass0 (pa_cons (pv 0) (pa_cons (pe_op op_add (pe_callB call_len_str (by rfl) T.n_len (by decide +kernel) (pa_cons (pv 4) pa_nil)) pe_int) pa_nil))) (pa_cons (pe_call GD hr1 (by rfl) D.m D.k D.b .nil pass0 (pa_cons (pv 0) (pa_cons pe_int pa_nil))) pa_nil)) (by rfl))
      (pss_cons (ps_set (i := 7) sc__law_letters.nd rfl (Or.inl rfl) (pe_ifExp (pt_cmpR op_gt (pv 5) pe_int (nomark _)) (pv 3) (pv 2)))
      (pss_cons (ps_par3 (i := 8) (j := 9) (l := 10) rfl sc__law_letters.nd rfl rfl rfl (by decide) (by decide) (by decide) rfl rfl rfl (pa_cons (pe_call GP hr (by rfl) C.m C.k C.b .nil pass0 (pa_cons (pv 0) (pa_cons (pe_lst (pa_cons pe_int (pa_cons pe_int (pa_cons pe_int (pa_cons pe_int (pa_cons pe_int (pa_cons pe_int (pa_cons pe_int (pa_cons pe_int pa_nil))))))))) pa_nil))) (pa_cons (pe_slice sl_str (pv 4) (po_some (pv 5)) po_none) (pa_cons (pe_lst pa_nil) pa_nil))) (by rfl))
      (pss_cons (ps_for PassesOwn.never rfl (pi_range1 rfl T.n_range (pa_cons (pv 1) pa_nil)) (pg_name (i := 11) sc__law_letters.nd rfl (Or.inl rfl)) (pss_cons (ps_set (i := 12) sc__law_letters.nd rfl (Or.inl rfl) (pe_ix ix_str (pv 7) (pe_op op_mod (pe_callTy call_int1 (by rfl) T.n_int (by decide +kernel) (pa_cons (pe_op op_add (pv 6) (pe_op op_mul (pv 8) (pv 11))) pa_nil)) (pe_callB call_len_str (by rfl) T.n_len (by decide +kernel) (pa_cons (pv 7) pa_nil))) (fun _ _ => rfl)))
      (pss_cons (ps_set (i := 13) sc__law_letters.nd rfl (Or.inl rfl) (pe_op op_add_str (pe_op op_add_str (pe_slice sl_str (pv 4) po_none (po_some (pv 5))) (pv 12)) (pe_slice sl_str (pv 9) po_none (po_some (pe_op op_sub (pe_callB call_len_str (by rfl) T.n_len (by decide +kernel) (pa_cons (pv 9) pa_nil)) (pe_op op_mul (pv 11) (pe_callTy call_int1 (by rfl) T.n_int (by decide +kernel) (pa_cons (pe_cmpR op_lt (pv 11) pe_int (nomark _)) pa_nil))))))))
      (pss_cons (ps_if (pt_cmpR op_in_seq (pv 13) (pe_tup (pa_cons pe_str (pa_cons pe_str pa_nil))) rfl) (pss_one (ps_set (i := 13) sc__law_letters.nd rfl (Or.inl rfl) (pe_op op_add_str (pv 13) pe_str))) pss_nil)
      (pss_cons (ps_if (PW.pt (pw_and (pt_cmpR op_gt (pv 11) pe_int (nomark _)) (pw_and (pt_cmpR op_ne (pe_slice sl_str (pe_ix ix_list (pv 10) (pe_un un_neg pe_int) (fun _ _ => rfl)) po_none (po_some pe_int)) pe_str (nomark _)) (pw_and1 (pt_cmpR op_eq (pe_call GD hr1 (by rfl) D.m D.k D.b .nil pass0 (pa_cons (pv 0) (pa_cons pe_int pa_nil))) pe_int (nomark _)))))) (pss_one (ps_set (i := 13) sc__law_letters.nd rfl (Or.inl rfl) (pe_ix ix_list (pv 10) (pe_un un_neg pe_int) (fun _ _ => rfl)))) pss_nil)
      (pss_one (ps_expr (pe_bm PySem.F.plainAttrs_list PySem.F.slot_list_append PySem.F.type_list_append mt_append (pv 10) (pa_cons (pe_ifExp (PW.pt (pw_and (pt_cmpR op_notIn_seq (pv 13) (pv 10) rfl) (pw_and1 (pt_cmpR op_gt (pe_call GD hr1 (by rfl) D.m D.k D.b .nil pass0 (pa_cons (pv 0) (pa_cons pe_int pa_nil))) pe_int (nomark _))))) (pv 13) (pe_op op_add_str pe_str (pv 13))) pa_nil)))))))))
      (pss_one (ps_ret (pv 10)))))))))), ?_⟩
    have g0 := Go.refl hpen
    have z1 : (1000 : Nat) ≤ sizeLine := by decide
    -- small, signs
    refine ⟨by show 2 ≤ sizeLine; decide, fun t1 ht1 => ⟨t1, _, rfl, SqT.of upd_same, rfl, _, _, rfl, _, _, rfl, rfl, ?_⟩⟩
    have g1 := g0.new (o := .tup [.str small, .str signs]) ht1
    change Go p c ns H (upd H t1 (.tup [.str "abcdefghijklmnopqrstuvwxyz", .str "abcdefghijklmnopqrstuvwxyz0123456789"])) B at g1
    generalize upd H t1 _ = H1 at g1 ⊢
    -- stem, its first sign or none
    refine ⟨⟨_, rfl⟩, _, rfl, p, c, ns, 4, B, rfl, g1.pen, by omega, by decide, by decide, fun H2 r g2 r0 r1 => ⟨1, r, rfl, _, rfl, by split <;> omega, by split <;> omega, fun L hL => ?_⟩⟩
    have g2 := g1.step g2
    obtain ⟨n, en, hn⟩ : ∃ n : Nat, (if r < 1 then r else 1).toNat = n ∧ n ≤ 1 := ⟨_, rfl, by split <;> omega⟩
    rw [en]
    have hL0 := g2.free hL
    refine lc_range (lo := 0) (n := n) (SgL smallL p c ns H L (B + 1)) ⟨[], g2.new hL, upd_same, rfl, by simp⟩ (fun i H3 hi hs => ?_) (fun H3 hs => ?_)
    · obtain ⟨cs, g3, _⟩ := id hs
      refine ⟨rfl, ?_⟩
      exact ⟨_, rfl, _, rfl, p, c, ns, _, B + 1 + i, rfl, g3.pen, by omega, .inr ⟨small, rfl, by rw [small_len]; decide, by rw [small_len]; decide, fun H4 j g4 hj => hs.next hL0 g4 (by omega) hj⟩⟩
    obtain ⟨cs, g3, hL3, hl3, h13⟩ := hs
    have one1 : ∀ (cs : List Nat) (y : Str), y ∈ (cs.map fun c => (⟨#[c]⟩ : Str)) → y.length = 1 := fun cs y hy => by
      obtain ⟨c', _, rfl⟩ := List.mem_map.mp hy
      rfl
    refine ⟨_, L, cs.map fun c => (⟨#[c]⟩ : Str), rfl, rfl, .inl (SqL.of hL3), (by rw [len_sum1 _ (one1 cs), List.length_map]; show cs.length + cs.length * 0 ≤ _; omega), ?_⟩
    have hst := joinT_ones cs
    generalize Txt.join (Str.ofString "") (cs.map fun c => (⟨#[c]⟩ : Str)) = stem at hst ⊢
    have hstem : stem.length = n := by rw [← tl_len, hst, hl3]
    clear hL3
    -- stem, further signs
    refine ⟨_, rfl, ⟨_, rfl⟩, _, rfl, p, c, ns, 11, B + 1 + n, rfl, g3.pen, by omega, by decide, by decide, fun H4 r' g4 r0' r1' => ?_⟩
    have g4 := g3.step g4
    refine ⟨_, rfl, stem, rfl, Nat.le_trans (show stem.length ≤ 1000 by omega) (by decide), _, _, rfl, rfl, mul_small (by omega), ?_⟩
    obtain ⟨n', en', hn', ei', hn0⟩ : ∃ n' : Nat, (r' * (stem.length : Int)).toNat = n' ∧ n' ≤ 10 ∧ r' * (stem.length : Int) = (n' : Int) ∧ (n = 0 → n' = 0) := by
      rw [hstem]
      have h01 : n = 0 ∨ n = 1 := by omega
      rcases h01 with e | e
      · rw [e]
        exact ⟨0, by simp, by decide, by simp, fun _ => rfl⟩
      · rw [e]
        exact ⟨r'.toNat, by simp, by omega, by simp; omega, fun z => absurd z (by decide)⟩
    refine ⟨_, rfl, by omega, by omega, fun L' hL' => ?_⟩
    rw [en']
    have hL0' := g4.free hL'
    refine lc_range (lo := 0) (n := n') (SgL signsL p c ns H L' (B + 3)) ⟨[], (g4.new hL').mono (by omega), upd_same, rfl, by simp⟩ (fun i H5 hi hs => ?_) (fun H5 hs => ?_)
    · obtain ⟨cs, g5, _⟩ := id hs
      refine ⟨rfl, ?_⟩
      exact ⟨_, rfl, _, rfl, p, c, ns, _, B + 3 + i, rfl, g5.pen, by omega, .inr ⟨signs, rfl, by rw [signs_len]; decide, by rw [signs_len]; decide, fun H4 j g4 hj => hs.next hL0' g4 (by omega) hj⟩⟩
    obtain ⟨cs2, g5, hL5, hl5, h15⟩ := hs
    refine ⟨_, L', cs2.map fun c => (⟨#[c]⟩ : Str), rfl, rfl, .inl (SqL.of hL5), (by rw [len_sum1 _ (one1 cs2), List.length_map]; show cs2.length + cs2.length * 0 ≤ _; omega), ?_⟩
    have hst2 := joinT_ones cs2
    generalize Txt.join (Str.ofString "") (cs2.map fun c => (⟨#[c]⟩ : Str)) = more at hst2 ⊢
    have hmore : more.length = n' := by rw [← tl_len, hst2, hl5]
    refine ⟨_, _, rfl, rfl, Nat.le_trans (show stem.length + more.length ≤ 1000 by omega) (by decide), ?_⟩
    have hlen : (stem ++ more).length ≤ 11 := by
      rw [Str.length_append]
      omega
    have hls : ∀ d ∈ (stem ++ more).cps.toList, d ∈ signsL := by
      rw [app_list, hst, hst2]
      intro d hd
      rcases List.mem_append.mp hd with z | z
      · exact small_signs d (h13 d z)
      · exact h15 d z
    have hlh : ∀ d, (stem ++ more).cps.toList.head? = some d → d ∈ smallL := by
      rw [app_list, hst, hst2]
      intro d hd
      cases cs with
      | nil =>
        have e0 : n = 0 := hl3.symm
        have e1 := hn0 e0
        rw [e1] at hl5
        rw [List.eq_nil_of_length_eq_zero hl5] at hd
        cases hd
      | cons a b =>
        cases hd
        exact h13 _ (List.mem_cons_self ..)
    generalize stem ++ more = stem' at hlen hls hlh ⊢
    replace g5 : Go p c ns H H5 (B + 20) := g5.mono (by omega)
    clear ei' en' hstem hmore g4 g3 g2 g1 hL5 h15 hl5 h13 hl3 hst hst2 hn0
    -- at, front
    refine ⟨_, rfl, _, rfl, stem', rfl, by omega, _, _, rfl, rfl, p, c, ns, _, B + 20, rfl, g5.pen, by omega, by omega, by omega, fun H6 at_ g6 a0 a1 => ?_⟩
    refine ⟨_, rfl, p, c, ns, 36, B + 20 + 1, rfl, g6.pen, by omega, by decide, by decide, fun H7 fr g7 f0 f1 => ⟨_, _, rfl, ?_⟩⟩
    replace g7 : Go p c ns H H7 (B + 25) := ((g5.step g6).step g7).mono (by omega)
    clear g5 g6
    obtain ⟨atN, rfl⟩ : ∃ n : Nat, at_ = (n : Int) := ⟨at_.toNat, by omega⟩
    obtain ⟨frN, rfl⟩ : ∃ n : Nat, fr = (n : Int) := ⟨fr.toNat, by omega⟩
    obtain ⟨zc, hz⟩ : ∃ zc : Str, zc = if 0 < atN then signs else small := ⟨_, rfl⟩
    -- choice
    try dsimp only
    refine seqIf_cut (fun v H' => H' = H7 ∧ v = .str zc) (fun Q' q' => ?_) (fun v H' hv => ?_)
    · refine ⟨_, rfl, _, _, rfl, rfl, _, rfl, ?_⟩
      refine ite2 (fun h => ?_) (fun h => ?_)
      · have h : (0 : Int) < (atN : Int) := of_decide_eq_true h
        exact ⟨_, rfl, q' _ _ ⟨rfl, by rw [hz, if_pos (by omega)]; rfl⟩⟩
      · have h : ¬ (0 : Int) < (atN : Int) := fun q => h (decide_eq_true q)
        exact ⟨_, rfl, q' _ _ ⟨rfl, by rw [hz, if_neg (by omega)]; rfl⟩⟩
    obtain ⟨rfl, rfl⟩ := hv
    -- step, tail, found
    refine ⟨_, rfl, by show 8 ≤ sizeLine; decide, fun o ho => ⟨p, c, ns, _, B + 25, rfl, (g7.new ho).pen, by omega, .inl ⟨o, _, rfl, SqL.of upd_same, by show 0 < 8; decide, by show 8 ≤ 1000; decide, fun H9 v g9 hv => ?_⟩⟩⟩
    have g9 := (g7.new ho).step g9
    obtain ⟨st, rfl, hst⟩ : ∃ s : Nat, v = .int (s : Int) ∧ s ∈ [1, 5, 7, 11, 17, 19, 23, 25] := by
      simp only [List.mem_cons, List.not_mem_nil, or_false] at hv
      rcases hv with rfl | rfl | rfl | rfl | rfl | rfl | rfl | rfl
      · exact ⟨1, rfl, by decide⟩
      · exact ⟨5, rfl, by decide⟩
      · exact ⟨7, rfl, by decide⟩
      · exact ⟨11, rfl, by decide⟩
      · exact ⟨17, rfl, by decide⟩
      · exact ⟨19, rfl, by decide⟩
      · exact ⟨23, rfl, by decide⟩
      · exact ⟨25, rfl, by decide⟩
    have st1 : st ≤ 25 := by
      simp only [List.mem_cons, List.not_mem_nil, or_false] at hst
      omega
    have W : Wds (wdN stem' zc atN frN st) 26 := wdN_ok (by omega) hlen hls hlh hz hst
    have zl : 0 < zc.length ∧ zc.length ≤ 36 := by
      rw [hz]
      split
      · rw [signs_len]
        decide
      · rw [small_len]
        decide
    refine ⟨_, rfl, _, rfl, _, rfl, _, rfl, by omega, Nat.zero_le _, fun q hq => ⟨_, _, _, rfl, ?_⟩⟩
    obtain ⟨tail, etail⟩ : ∃ tail, tail = cutS stem' (some (atN : Int)) none := ⟨_, rfl⟩
    have htl : tail.length ≤ 11 := by rw [etail]; exact Nat.le_trans (cutS_length _ _ _) hlen
    rw [← etail]
    have hq0 := g9.free hq
    have g10 : Go p c ns H (upd H9 q (.lst [])) (B + 60) := (g9.new hq).mono (by omega)
    have hq1 : upd H9 q (.lst []) q = some (.lst (([] : List Str).map V.str)) := upd_same
    generalize upd H9 q (.lst []) = H10 at g10 hq1 ⊢
    clear g9 g7 hv hq ho
    -- the loop
    refine ⟨_, rfl, m, rfl, by omega, by omega, for_range (lo := 0) (n := m.toNat) (fun i σ' H' => ∃ (ys : List Str) (o1 o2 o3 : Option V),
      σ' = [some (.ref p), some (.int m), some (.str small), some (.str signs), some (.str stem'), some (.int (atN : Int)), some (.int (frN : Int)), some (.str zc), some (.int (st : Int)), some (.str tail), some (.ref q), o1, o2, o3] ∧
      Go p c ns H H' (B + 60 + 2 * i) ∧ H' q = some (.lst (ys.map V.str)) ∧ Iv (wdN stem' zc atN frN st) ys i)
      ⟨[], none, none, none, rfl, g10, hq1, .nil⟩ ?_ ?_⟩
    · rintro i σ' H11 hi ⟨ys, o1, o2, o3, rfl, g, hL, iv⟩
      have hi' : i < 26 := by omega
      obtain ⟨hl, _, hb⟩ := iv.ends W (by omega)
      have idx : ((frN : Int) + (st : Int) * (0 + (i : Int))) % ((zc.length : Nat) : Int) = (((frN + st * i) % zc.length : Nat) : Int) := by
        rw [Int.zero_add, Int.natCast_emod, Int.natCast_add, Int.natCast_mul]
      -- sign
      refine ⟨_, rfl, _, rfl, _, rfl, _, rfl, _, _, rfl, rfl, mul_small (by omega), _, _, rfl, rfl, .inl ⟨_, rfl, _, rfl, zc, rfl, by omega, _, _, rfl, rfl, (by omega), zc, _, sgN zc frN st i, rfl, rfl, by omega, at_by idx (sgN_at zc frN st i zl.1), ?_⟩⟩
      -- word
      refine ⟨_, rfl, _, rfl, _, rfl, stem', rfl, by omega, _, rfl, _, _, rfl, rfl, ?_, ?_⟩
      · have := cutS_length stem' none (some (atN : Int))
        show (cutS stem' none (some (atN : Int))).length + 1 ≤ sizeLine
        omega
      have hw1 : (cutS stem' none (some (atN : Int)) ++ (⟨#[sgN zc frN st i]⟩ : Str)).length ≤ 12 := by
        rw [Str.length_append]
        have := cutS_length stem' none (some (atN : Int))
        show (cutS stem' none (some (atN : Int))).length + 1 ≤ 12
        omega
      refine ⟨_, rfl, _, rfl, tail, rfl, by omega, _, rfl, _, rfl, _, _, rfl, rfl, .inr ⟨_, rfl, _, _, rfl, rfl, mul_small (by omega), _, _, rfl, rfl, _, rfl, tail, rfl, by omega, _, _, rfl, rfl, ?_, ?_⟩⟩
      · have := cutS_length tail none (some ((tail.length : Int) - (0 + (i : Int)) * (if decide (0 + (i : Int) < 2) = true then 1 else 0)))
        omega
      have ew : wdN stem' zc atN frN st i = fixS ((cutS stem' none (some (atN : Int)) ++ (⟨#[sgN zc frN st i]⟩ : Str)) ++ cutS tail none (some ((tail.length : Int) - (0 + (i : Int)) * (if decide (0 + (i : Int) < 2) = true then 1 else 0)))) := by
        rw [etail]
        rfl
      have hw2 : ((cutS stem' none (some (atN : Int)) ++ (⟨#[sgN zc frN st i]⟩ : Str)) ++ cutS tail none (some ((tail.length : Int) - (0 + (i : Int)) * (if decide (0 + (i : Int) < 2) = true then 1 else 0)))).length ≤ 23 := by
        rw [Str.length_append]
        have := cutS_length tail none (some ((tail.length : Int) - (0 + (i : Int)) * (if decide (0 + (i : Int) < 2) = true then 1 else 0)))
        omega
      generalize (cutS stem' none (some (atN : Int)) ++ (⟨#[sgN zc frN st i]⟩ : Str)) ++ cutS tail none (some ((tail.length : Int) - (0 + (i : Int)) * (if decide (0 + (i : Int) < 2) = true then 1 else 0))) = w2 at hw2 ew ⊢
      have gi := W.good i hi'
      have gl := good_len gi
      obtain ⟨wi, ewi⟩ : ∃ wi, wi = wdN stem' zc atN frN st i := ⟨_, rfl⟩
      rw [← ewi] at ew gi gl
      -- new, found
      try dsimp only
      refine seqIf_mid (fun σ' H' => σ' = [some (.ref p), some (.int m), some (.str small), some (.str signs), some (.str stem'), some (.int (atN : Int)), some (.int (frN : Int)), some (.str zc), some (.int (st : Int)), some (.str tail), some (.ref q), some (.int (0 + (i : Int))), some (.str ⟨#[sgN zc frN st i]⟩), some (.str wi)] ∧
        Go p c ns H H' (B + 60 + 2 * i) ∧ H' q = some (.lst (ys.map V.str))) (fun N hN => ?_) (fun σ' H' hm => ?_)
      · refine ⟨_, rfl, by show 2 ≤ sizeLine; decide, fun t ht => ⟨t, _, rfl, .inr (SqT.of upd_same), rfl, rfl, _, rfl, ?_⟩⟩
        have gt := g.new (o := .tup [.str "new", .str "found"]) ht
        have hLt : upd H11 t (.tup [.str "new", .str "found"]) q = some (.lst (ys.map V.str)) := by rw [upd_ne (ne_of_none hL ht)]; exact hL
        have e3 : inV (.str w2) [.str "new", .str "found"] = decide (w2 = newW ∨ w2 = foundW) := by
          unfold inV
          simp only [List.any_cons, List.any_nil, Bool.or_false, eq_V]
          by_cases c1 : w2 = newW
          · rw [decide_eq_true (show (Str.ofString "new") = w2 from c1.symm), decide_eq_true (show w2 = newW ∨ w2 = foundW from .inl c1)]
            rfl
          · by_cases c2 : w2 = foundW
            · rw [decide_eq_true (show (Str.ofString "found") = w2 from c2.symm), decide_eq_true (show w2 = newW ∨ w2 = foundW from .inr c2), Bool.or_true]
            · rw [decide_eq_false (show ¬ (Str.ofString "new") = w2 from fun z => c1 z.symm), decide_eq_false (show ¬ (Str.ofString "found") = w2 from fun z => c2 z.symm), decide_eq_false (show ¬ (w2 = newW ∨ w2 = foundW) from fun z => z.elim c1 c2)]
              rfl
        refine ite2 (fun h => ?_) (fun h => ?_)
        · have h : inV (.str w2) [.str "new", .str "found"] = true := h
          rw [e3] at h
          have e4 : wi = w2 ++ ("0" : Str) := by rw [ew]; exact if_pos (of_decide_eq_true h)
          refine ⟨_, rfl, _, _, rfl, rfl, (by show w2.length + 1 ≤ sizeLine; omega), hN _ _ ⟨?_, gt, hLt⟩⟩
          rw [e4]
          rfl
        · have h : ¬ inV (.str w2) [.str "new", .str "found"] = true := h
          rw [e3] at h
          have e4 : wi = w2 := by rw [ew]; exact if_neg (fun q => h (decide_eq_true q))
          refine hN _ _ ⟨?_, gt, hLt⟩
          rw [e4]
          rfl
      obtain ⟨rfl, g, hL⟩ := hm
      -- the last one again
      try dsimp only
      refine seqIf_mid (fun σ' H' => ∃ x : Str, σ' = [some (.ref p), some (.int m), some (.str small), some (.str signs), some (.str stem'), some (.int (atN : Int)), some (.int (frN : Int)), some (.str zc), some (.int (st : Int)), some (.str tail), some (.ref q), some (.int (0 + (i : Int))), some (.str ⟨#[sgN zc frN st i]⟩), some (.str x)] ∧
        Go p c ns H H' (B + 60 + 2 * i + 1) ∧ H' q = some (.lst (ys.map V.str)) ∧ x.length ≤ 13 ∧ (x = wi ∨ (ys.getLast? = some x ∧ x.cps.toList.head? ≠ some 126))) (fun N hN => ?_) (fun σ' H' hm => ?_)
      · have stay : ∀ H', Go p c ns H H' (B + 60 + 2 * i + 1) → H' q = some (.lst (ys.map V.str)) → N ([some (.ref p), some (.int m), some (.str small), some (.str signs), some (.str stem'), some (.int (atN : Int)), some (.int (frN : Int)), some (.str zc), some (.int (st : Int)), some (.str tail), some (.ref q), some (.int (0 + (i : Int))), some (.str ⟨#[sgN zc frN st i]⟩), some (.str wi)]) H' :=
          fun H' g' h' => hN _ _ ⟨wi, rfl, g', h', by omega, .inl rfl⟩
        refine ⟨_, rfl, _, _, rfl, rfl, _, rfl, ite2 (fun h1 => ?_) (fun h1 => iteF (stay _ (g.mono (by omega)) hL))⟩
        have h1 : (0 : Int) < 0 + (i : Int) := of_decide_eq_true h1
        obtain ⟨ys', last, rfl⟩ : ∃ ys' last, ys = ys' ++ [last] := by
          rcases List.eq_nil_or_concat ys with e | ⟨a, b, e⟩
          · rw [e] at hl
            have : (0 : Nat) = i := hl
            omega
          · exact ⟨a, b, by rw [e]; simp⟩
        have hlast := hb last (by simp)
        have hat : atI ((ys' ++ [last]).map V.str) (-1) = some (.str last) := by
          rw [List.map_append]
          exact atI_last _ _
        refine ⟨_, rfl, _, rfl, q, _, _, _, rfl, rfl, SqL.of hL, hat, _, rfl, last, rfl, (by have := hlast.2.1; omega), rfl, _, rfl, ite2 (fun h2 => ?_) (fun _ => iteF (stay _ (g.mono (by omega)) hL))⟩
        have hh : last.cps.toList.head? ≠ some 126 := fun e => by
          have h2 : (!decide (V.str (cutS last none (some 1)) = V.str (Str.ofString "~"))) = true := h2
          rw [head_tilde, decide_eq_true e] at h2
          cases h2
        refine ⟨_, rfl, p, c, ns, 5, B + 60 + 2 * i, rfl, g.pen, by omega, by decide, by decide, fun H12 r g12 _ _ => ⟨rfl, _, rfl, ?_⟩⟩
        have hL2 := g12.lst hL
        have g13 := g.step g12
        refine ite2 (fun _ => ?_) (fun _ => stay _ g13 hL2)
        exact ⟨_, rfl, _, rfl, q, _, _, _, rfl, rfl, SqL.of hL2, hat, hN _ _ ⟨last, rfl, g13, hL2, hlast.2.1, .inr ⟨List.getLast?_concat, hh⟩⟩⟩
      obtain ⟨x, rfl, g, hL, hx, hxw⟩ := hm
      -- found.append(..)
      have fin : ∀ (H' : Hp) (wv : Str), Go p c ns H H' (B + 60 + 2 * i + 2) → H' q = some (.lst (ys.map V.str)) → Iv (wdN stem' zc atN frN st) (ys ++ [wv]) (i + 1) →
          ∃ (ys2 : List Str) (o1 o2 o3 : Option V), [some (.ref p), some (.int m), some (.str small), some (.str signs), some (.str stem'), some (.int (atN : Int)), some (.int (frN : Int)), some (.str zc), some (.int (st : Int)), some (.str tail), some (.ref q), some (.int (0 + (i : Int))), some (.str ⟨#[sgN zc frN st i]⟩), some (.str x)] =
            [some (.ref p), some (.int m), some (.str small), some (.str signs), some (.str stem'), some (.int (atN : Int)), some (.int (frN : Int)), some (.str zc), some (.int (st : Int)), some (.str tail), some (.ref q), o1, o2, o3] ∧
          Go p c ns H (upd H' q (.lst (ys.map V.str ++ [.str wv]))) (B + 60 + 2 * (i + 1)) ∧ upd H' q (.lst (ys.map V.str ++ [.str wv])) q = some (.lst (ys2.map V.str)) ∧ Iv (wdN stem' zc atN frN st) ys2 (i + 1) := by
        intro H' wv g' h' hv
        refine ⟨ys ++ [wv], _, _, _, rfl, (g'.mut hq0).mono (by omega), ?_, hv⟩
        rw [upd_same, List.map_append]
        rfl
      have hflat : (ys.map V.str).all flatV = true := by
        rw [List.all_eq_true]
        intro x hx
        obtain ⟨y, _, rfl⟩ := List.mem_map.mp hx
        rfl
      have hsz : (ys.map V.str).length < sizeLine := by
        rw [List.length_map]
        omega
      have tld : Iv (wdN stem' zc atN frN st) (ys ++ [tildeS ++ x]) (i + 1) := by
        rcases hxw with rfl | ⟨e1, e2⟩
        · rw [ewi]
          exact iv.tilde W hi'
        · exact iv.again e1 e2
      refine ⟨_, rfl, .inl ⟨rfl, _, SqL.of hL⟩, ?_⟩
      refine ⟨_, rfl, _, rfl, q, _, rfl, .inl (SqL.of hL), rfl, hflat, _, rfl, ite2 (fun hn => ?_) (fun _ => iteF ?_)⟩
      · have pl : Iv (wdN stem' zc atN frN st) (ys ++ [x]) (i + 1) := by
          rcases hxw with rfl | ⟨e1, e2⟩
          · rw [ewi]
            exact iv.plain W hi'
          · have hn : (!inV (.str x) (ys.map V.str)) = true := hn
            rw [in_mem (List.mem_of_getLast? e1)] at hn
            cases hn
        refine ⟨_, rfl, p, c, ns, 5, B + 60 + 2 * i + 1, rfl, g.pen, by omega, by decide, by decide, fun H12 r g12 _ _ => ⟨_, _, rfl, rfl, _, rfl, ?_⟩⟩
        have hL2 := g12.lst hL
        have g13 := g.step g12
        refine ite2 (fun _ => ?_) (fun _ => ?_)
        · exact ⟨_, rfl, q, _, _, rfl, rfl, hL2, hsz, fin _ x g13 hL2 pl⟩
        · exact ⟨_, rfl, _, _, rfl, rfl, (by show 1 + x.length ≤ sizeLine; omega), q, _, _, rfl, rfl, hL2, hsz, fin _ _ g13 hL2 tld⟩
      · exact ⟨_, rfl, _, _, rfl, rfl, (by show 1 + x.length ≤ sizeLine; omega), q, _, _, rfl, rfl, hL, hsz, fin _ _ (g.mono (by omega)) hL tld⟩
    · rintro σ' H11 ⟨ys, o1, o2, o3, rfl, g, hL, iv⟩
      obtain ⟨hl, nd, hb⟩ := iv.ends W (by omega)
      exact ⟨_, rfl, k H11 q ys (g.mono (by omega)) hq0 hL (by omega) nd hb⟩
end
end Ask

namespace Ask
open PySem L2
/-- an item of the law's lists, its list or tuple at a place of N -/
def ItV (N : Addr → Prop) (H : Hp) (v : V) (d : PyData) : Prop :=
  (v = .non ∧ d = .none) ∨ (v = .bl true ∧ d = .bool true) ∨ (v = .int 7 ∧ d = .int 7) ∨ ∃ z : Str, (z.length ≤ 500 ∧ Asc z) ∧
    ((v = .str z ∧ d = .str z) ∨ ∃ a, v = .ref a ∧ N a ∧ ((H a = some (.lst [.str z]) ∧ d = .list [.str z]) ∨ (H a = some (.tup [.str z]) ∧ d = .tuple [.str z])))
section
variable {K : PySem.W.Frag} {N N' : Addr → Prop} {H H' H0 : Hp} {v : V} {d : PyData} {p c q : Addr} {ns : List Int} {B : Nat} {o : HO}
theorem ItV.itm (h : ItV N H v d) : Itm d := by
  rcases h with ⟨_, e⟩ | ⟨_, e⟩ | ⟨_, e⟩ | ⟨z, ⟨h1, h2⟩, ⟨_, e⟩ | ⟨a, _, _, ⟨_, e⟩ | ⟨_, e⟩⟩⟩
  · exact .inl e
  · exact .inr (.inl e)
  · exact .inr (.inr (.inl e))
  · exact .inr (.inr (.inr ⟨z, h1, h2, .inl e⟩))
  · exact .inr (.inr (.inr ⟨z, h1, h2, .inr (.inl e)⟩))
  · exact .inr (.inr (.inr ⟨z, h1, h2, .inr (.inr e)⟩))
theorem ItV.dp (h : ItV N H v d) : Dp K H v d := by
  rcases h with ⟨e, e'⟩ | ⟨e, e'⟩ | ⟨e, e'⟩ | ⟨z, _, ⟨e, e'⟩ | ⟨a, e, _, ⟨ea, e'⟩ | ⟨ea, e'⟩⟩⟩ <;> rw [e, e']
  · exact .non
  · exact .bl _
  · exact .int _
  · exact .str _
  · exact .lst (SqL.of ea) (.cons (.str _) .nil)
  · exact .tup (SqT.of ea) (.cons (.str _) .nil)
theorem ItV.mp (h : ItV N H v d) (k : ∀ a o, N a → H a = some o → (∀ kvs, o ≠ .dK kvs) → N' a ∧ H' a = some o) : ItV N' H' v d := by
  rcases h with h | h | h | ⟨z, hz, h | ⟨a, e, n, ⟨ea, e'⟩ | ⟨ea, e'⟩⟩⟩
  · exact .inl h
  · exact .inr (.inl h)
  · exact .inr (.inr (.inl h))
  · exact .inr (.inr (.inr ⟨z, hz, .inl h⟩))
  · obtain ⟨n', ea'⟩ := k a _ n ea (by intro _ z; cases z)
    exact .inr (.inr (.inr ⟨z, hz, .inr ⟨a, e, n', .inl ⟨ea', e'⟩⟩⟩))
  · obtain ⟨n', ea'⟩ := k a _ n ea (by intro _ z; cases z)
    exact .inr (.inr (.inr ⟨z, hz, .inr ⟨a, e, n', .inr ⟨ea', e'⟩⟩⟩))
theorem ItV.go (h : ItV N H v d) (g : Go p c ns H H' B) : ItV N H' v d := h.mp fun a o n e k => ⟨n, g.at e k⟩
theorem ItV.same (h : ItV N H v d) (s : Same H H') : ItV N H' v d := h.mp fun a o n e _ => ⟨n, s a o e⟩
theorem ItV.mut (h : ItV N H v d) (n : ∀ a, N a → a ≠ q) : ItV N (upd H q o) v d := h.mp fun a u m e _ => ⟨m, by rw [upd_ne (n a m)]; exact e⟩
theorem ItV.wk (h : ItV N H v d) (n : ∀ a, N a → N' a) : ItV N' H v d := h.mp fun a u m e _ => ⟨n a m, e⟩
def ItS (N : Addr → Prop) (H : Hp) (xs : List V) : Prop := ∀ v ∈ xs, ∃ d, ItV N H v d
theorem ItS.nil : ItS N H [] := fun _ h => by cases h
theorem ItS.cons {xs : List V} (h : ∃ d, ItV N H v d) (r : ItS N H xs) : ItS N H (v :: xs) := fun x hx => by
  rcases List.mem_cons.mp hx with rfl | hx
  · exact h
  · exact r x hx
theorem ItS.app {xs ys : List V} (h : ItS N H xs) (r : ItS N H ys) : ItS N H (xs ++ ys) := fun x hx => by
  rcases List.mem_append.mp hx with hx | hx
  · exact h x hx
  · exact r x hx
theorem itStr {z : Str} (h : z.length ≤ 500 ∧ Asc z) : ∃ d, ItV N H (.str z) d := ⟨_, .inr (.inr (.inr ⟨z, h, .inl ⟨rfl, rfl⟩⟩))⟩
end
theorem asc_upper {z : Str} (h : Asc z) : Asc (Txt.upper z) ∧ (Txt.upper z).length = z.length := by
  rw [PyProof.Rows.upper_ascii h]
  refine ⟨fun c hc => ?_, by simp [Str.length]⟩
  have hc : c ∈ (z.cps.map PyProof.Rows.up1).toList := hc
  rw [Array.toList_map] at hc
  obtain ⟨b, hb, rfl⟩ := List.mem_map.mp hc
  have := h b hb
  unfold PyProof.Rows.up1
  split <;> omega
theorem asc_rep {z : Str} (h : Asc z) (n : Nat) : Asc (repS z n) := by
  have : ∀ (n : Nat) (acc : Array Nat), (∀ c ∈ acc.toList, c < 128) → ∀ c ∈ ((List.replicate n z.cps).foldl (· ++ ·) acc).toList, c < 128 := by
    intro n
    induction n with
    | zero => intro acc ha; simpa using ha
    | succ n ih =>
      intro acc ha
      rw [List.replicate_succ, List.foldl_cons]
      refine ih _ fun c hc => ?_
      rw [Array.toList_append] at hc
      rcases List.mem_append.mp hc with q | q
      · exact ha c q
      · exact h c q
  exact this n #[] (fun c hc => by cases hc)
end Ask

namespace Ask
open PySem L2
/-! ### the answers, by the mirror -/
def badAt (ds : List PyData) (k : Nat) : Bool := match ds[k]? with
  | some d => !isL d || (ds.take k).any fun z => PyData.eqv z d
  | none => false
def bads (ds : List PyData) : List Nat := (List.range ds.length).filter (badAt ds)
def res (ds : List PyData) : PyData :=
  if 12 < ds.length then .tuple [.str "many", .str "letters", .int (ds.length : Nat), .int 12]
  else match bads ds with
    | k :: _ => .tuple [.str "letters", .int (k : Nat)]
    | [] => if ds.length = 0 then .tuple [.str "letters", .int 0] else .none
theorem res_many {ds : List PyData} (h : 12 < ds.length) : res ds = .tuple [.str "many", .str "letters", .int (ds.length : Nat), .int 12] := if_pos h
theorem res_none {ds : List PyData} (h : ds.length = 0) : res ds = .tuple [.str "letters", .int 0] := by
  have e : ds = [] := List.eq_nil_of_length_eq_zero h
  subst e
  rfl
theorem bads_at {ds : List PyData} {k : Nat} (h1 : k < ds.length) (h2 : badAt ds k = true) (h3 : ∀ j < k, badAt ds j = false) : ∃ r, bads ds = k :: r := by
  unfold bads
  have e : ds.length = k + (1 + (ds.length - k - 1)) := by omega
  rw [e, List.range_add, List.filter_append]
  have e1 : (List.range k).filter (badAt ds) = [] := List.filter_eq_nil_iff.mpr fun x hx => by
    rw [h3 x (List.mem_range.mp hx)]
    exact Bool.false_ne_true
  rw [e1, List.nil_append, Nat.add_comm 1, List.range_succ_eq_map, List.map_cons, List.filter_cons, if_pos (by simpa using h2)]
  exact ⟨_, rfl⟩
theorem res_at {ds : List PyData} {k : Nat} (h0 : ¬ 12 < ds.length) (h1 : k < ds.length) (h2 : badAt ds k = true) (h3 : ∀ j < k, badAt ds j = false) : res ds = .tuple [.str "letters", .int (k : Nat)] := by
  obtain ⟨r, e⟩ := bads_at h1 h2 h3
  unfold res
  rw [if_neg h0, e]
theorem res_good {ds : List PyData} (h0 : ¬ 12 < ds.length) (h1 : 0 < ds.length) (h3 : ∀ j < ds.length, badAt ds j = false) : res ds = .none := by
  have e : bads ds = [] := List.filter_eq_nil_iff.mpr fun x hx => by
    rw [h3 x (List.mem_range.mp hx)]
    exact Bool.false_ne_true
  unfold res
  rw [if_neg h0, e]
  exact if_neg (by omega)
/-- an answer of the law's -/
def Rs (H : Hp) (v : V) (d : PyData) : Prop := (v = .non ∧ d = .none) ∨ ∃ a xs ds, v = .ref a ∧ d = .tuple ds ∧ H a = some (.tup xs) ∧ ∀ (K : PySem.W.Frag) (H' : Hp), DpAll K H' xs ds
/-- the items of a list -/
def ItL (N : Addr → Prop) (H : Hp) : List V → List PyData → Prop
  | [], [] => True
  | v :: xs, d :: ds => ItV N H v d ∧ ItL N H xs ds
  | _, _ => False
section
variable {K : PySem.W.Frag} {N N' : Addr → Prop} {H H' H0 : Hp} {v : V} {d : PyData} {p c q : Addr} {ns : List Int} {B : Nat} {o : HO}
theorem Rs.dp (h : Rs H v d) : Dp K H v d := by
  rcases h with ⟨rfl, rfl⟩ | ⟨a, xs, ds, rfl, rfl, e, k⟩
  · exact .non
  · exact .tup (SqT.of e) (k K H)
theorem Rs.same (h : Rs H v d) (s : Same H H') : Rs H' v d := by
  rcases h with h | ⟨a, xs, ds, h1, h2, e, k⟩
  · exact .inl h
  · exact .inr ⟨a, xs, ds, h1, h2, s _ _ e, k⟩
theorem ItL.len : ∀ {xs : List V} {ds : List PyData}, ItL N H xs ds → xs.length = ds.length
  | [], [], _ => rfl
  | _ :: _, _ :: _, h => by rw [List.length_cons, List.length_cons, ItL.len h.2]
  | [], _ :: _, h => h.elim
  | _ :: _, [], h => h.elim
theorem ItL.mp : ∀ {xs : List V} {ds : List PyData}, ItL N H xs ds → (∀ v d, ItV N H v d → ItV N' H' v d) → ItL N' H' xs ds
  | [], [], _, _ => trivial
  | _ :: _, _ :: _, h, k => ⟨k _ _ h.1, ItL.mp h.2 k⟩
  | [], _ :: _, h, _ => h.elim
  | _ :: _, [], h, _ => h.elim
theorem ItL.dp : ∀ {xs : List V} {ds : List PyData}, ItL N H xs ds → DpAll K H xs ds
  | [], [], _ => .nil
  | _ :: _, _ :: _, h => .cons h.1.dp (ItL.dp h.2)
  | [], _ :: _, h => h.elim
  | _ :: _, [], h => h.elim
theorem ItL.itm : ∀ {xs : List V} {ds : List PyData}, ItL N H xs ds → ∀ d ∈ ds, Itm d
  | [], [], _, _, h => by cases h
  | _ :: _, _ :: _, h, d, hd => by
    rcases List.mem_cons.mp hd with rfl | hd
    · exact h.1.itm
    · exact ItL.itm h.2 d hd
  | [], _ :: _, h, _, _ => h.elim
  | _ :: _, [], h, _, _ => h.elim
theorem ItL.fit {xs : List V} {ds : List PyData} (h : ItL N H xs ds) : FitAll ds := fit_all fun d hd => itm_fit (h.itm d hd)
theorem ItL.get : ∀ {xs : List V} {ds : List PyData} (k : Nat), ItL N H xs ds → k < xs.length → ∃ v d, xs[k]? = some v ∧ ds[k]? = some d ∧ ItV N H v d
  | [], _, _, _, h => absurd h (Nat.not_lt_zero _)
  | _ :: _, [], _, h, _ => h.elim
  | v :: _, d :: _, 0, h, _ => ⟨v, d, rfl, rfl, h.1⟩
  | _ :: _, _ :: _, k + 1, h, hk => by
    obtain ⟨v, d, h1, h2, h3⟩ := ItL.get k h.2 (Nat.lt_of_succ_lt_succ hk)
    exact ⟨v, d, by simpa using h1, by simpa using h2, h3⟩
theorem ItL.take : ∀ {xs : List V} {ds : List PyData} (k : Nat), ItL N H xs ds → ItL N H (xs.take k) (ds.take k)
  | [], [], _, _ => by rw [List.take_nil, List.take_nil]; trivial
  | _ :: _, _ :: _, 0, _ => trivial
  | _ :: _, _ :: _, k + 1, h => ⟨h.1, ItL.take k h.2⟩
  | [], _ :: _, _, h => h.elim
  | _ :: _, [], _, h => h.elim
theorem ItL.set : ∀ {xs : List V} {ds : List PyData} (k : Nat), ItL N H xs ds → ItV N H v d → ItL N H (xs.set k v) (ds.set k d)
  | [], [], _, _, _ => trivial
  | _ :: _, _ :: _, 0, h, hv => ⟨hv, h.2⟩
  | _ :: _, _ :: _, k + 1, h, hv => ⟨h.1, ItL.set k h.2 hv⟩
  | [], _ :: _, _, h, _ => h.elim
  | _ :: _, [], _, h, _ => h.elim
theorem ItL.app1 : ∀ {xs : List V} {ds : List PyData}, ItL N H xs ds → ItV N H v d → ItL N H (xs ++ [v]) (ds ++ [d])
  | [], [], _, hv => ⟨hv, trivial⟩
  | _ :: _, _ :: _, h, hv => ⟨h.1, ItL.app1 h.2 hv⟩
  | [], _ :: _, h, _ => h.elim
  | _ :: _, [], h, _ => h.elim
theorem itl_strs : ∀ {ys : List Str}, (∀ y ∈ ys, y.length ≤ 500 ∧ Asc y) → ItL N H (ys.map V.str) (ys.map PyData.str)
  | [], _ => trivial
  | y :: r, h => ⟨.inr (.inr (.inr ⟨y, h y (List.mem_cons_self ..), .inl ⟨rfl, rfl⟩⟩)), itl_strs fun z hz => h z (List.mem_cons_of_mem _ hz)⟩
end
theorem ints_lay : ∀ ks : List Nat, (∀ k ∈ ks, k ≤ 1000) → PyData.canLayAll0 (ks.map fun k : Nat => PyData.int k) = true ∧ PyData.depthAll (ks.map fun k : Nat => PyData.int k) = 0
  | [], _ => ⟨rfl, rfl⟩
  | k :: r, h => by
    obtain ⟨h1, h2⟩ := ints_lay r fun z hz => h z (List.mem_cons_of_mem _ hz)
    have hk := h k (List.mem_cons_self ..)
    refine ⟨?_, ?_⟩
    · show (PyData.canLay0 (.int (k : Nat)) && PyData.canLayAll0 (r.map fun k : Nat => PyData.int k)) = true
      rw [h1, Bool.and_true]
      rfl
    · show max 0 (PyData.depthAll (r.map fun k : Nat => PyData.int k)) = 0
      rw [h2]
      rfl
theorem ints_shaped {ks : List Nat} (h : ∀ k ∈ ks, k ≤ 1000) : SeqAt.shaped (.list (ks.map fun k : Nat => PyData.int k)) = true := by
  obtain ⟨h1, h2⟩ := ints_lay ks h
  exact shaped_of h1 (by show PyData.depthAll _ + 1 ≤ 64; omega)
theorem dp_ints {K : PySem.W.Frag} {H : Hp} : ∀ ks : List Nat, DpAll K H (ks.map fun k : Nat => V.int k) (ks.map fun k : Nat => PyData.int k)
  | [] => .nil
  | k :: r => .cons (.int _) (dp_ints r)
theorem cutV_take (xs : List V) (k : Nat) (h : k ≤ xs.length) : cutV xs none (some (k : Int)) = xs.take k := by
  unfold cutV
  rw [HT.sIx_none, HT.sIx_nat, List.drop_zero, Nat.sub_zero, Nat.min_eq_left h]
end Ask

/-! tuple(list), frozen: its object has no dict, so that its methods can be called -/
namespace Ask
open PySem L2 PySem.Spec PyProof.Rows
section
variable {X : Cx}
theorem call_tuple_frz : CallR X (.type "tuple") (fun xs H Q => ∃ p ys, xs = [.ref p] ∧ SqL X.K H p ys ∧ ∀ (l : Addr) (o : Obj), H l = none → o.dict = none → Q (.ref l) (upd H l (.frz o (.tup ys)))) := by
  intro pins s σ H xs us Q I r h
  obtain ⟨p, ys, rfl, hq, q⟩ := h
  obtain ⟨u, rfl, rx⟩ := vals1 r
  cases rx
  obtain ⟨its, r', pl, hz⟩ := I.list hq
  have hlen := r'.length
  refine call_tuple_list pl.isList (fun h' kp => ?_) (by simp only [List.size_toArray] <;> omega)
  have I1 : Inv X pins σ H { s with heap := h' } := I.kept (t' := s.toks) kp
  have I2 : Inv X pins σ (upd H h'.objs.size (.frz { cls := .type "tuple", data := .seq its.toArray } (.tup ys))) { s with heap := h'.push { cls := .type "tuple", data := .seq its.toArray } } :=
    I1.laid (t' := s.toks) (fun b o e => Heap.get?_push_of_some _ e) (Nat.le_refl _) (show ObjOk X.prog X.w _ _ _ (.frz _ (.tup ys)) from ⟨Heap.get?_push_size _ rfl, hz, its, r', IsTup.new _ _⟩)
  exact ⟨.ref h'.objs.size, _, I2, rfl, q _ _ (I1.hok.fresh (Nat.le_refl _)) rfl⟩
def tBMT (r : V → List V → Hp → VK → Prop) (to : TE) (t : TA) : TE := fun σ H Q => to σ H fun x H1 => (∃ (p : Addr) (o : Obj) (xs : List V), x = .ref p ∧ H1 p = some (.frz o (.tup xs)) ∧ o.dict = none) ∧ t σ H1 fun xs H2 => r x xs H2 Q
variable {o e : Expr} {es : List Expr} {to : TE} {t : TA} {name : Str} {apos cpos : Pos} {id : String} {r : V → List V → Hp → VK → Prop}
theorem pe_bmT (slot : Slot "tuple" name id) (hty : typeOf (.builtin id) = pure (.type "method_descriptor")) (hm : MtR X id r) (ho : PE X o to) (ha : PA X (e :: es) t)
    (hbase : attributeBase o name X.env (eval o X.env) = eval o X.env := by rfl)
    (hfew : ((backTo cpos (starEach (e :: es) X.env)).all (fun x => !x.1) && (backToKw cpos (keywordEach [] X.env)).all (fun x => x.1.isSome)
      && decide ((e :: es).length + ([] : List Keyword).length + (if ([] : List Keyword).isEmpty then 0 else 1) < 30)) = true := by rfl)
    (hline : (apos.endLine == cpos.line) = true := by rfl) (hs : starEach (e :: es) X.env = (false, eval e X.env) :: starEach es X.env := by rfl) (hplain : (backTo cpos (starEach es X.env)).any (·.1) = false := by rfl) :
    PE X (.Call (.Attribute o name apos) (e :: es) [] cpos) (tBMT r to t) := by
  refine ⟨fun pins s σ H Q I h => ?_⟩
  refine wpAny_Call_method_late hbase hfew hline rfl (thn (ho.run pins s σ H _ I h) fun v s1 ⟨x, H1, I1, r1, ⟨p, ob, xs, ex, hp, hd⟩, q1⟩ => ?_)
  subst ex
  obtain rfl : v = Value.ref p := r1
  obtain ⟨its, rv, pl, _⟩ := I1.tuple (.inl (.inr ⟨ob, hp⟩))
  have ho := (show ObjOk X.prog X.w H1 s1.heap p (.frz ob (.tup xs)) from I1.hok p _ hp).1
  refine ⟨"tuple", id, PySem.F.plainAttrs_tuple, slot, hty, ?_, fun a ea => ?_, ?_⟩
  · obtain ⟨o1, h1, h2, _⟩ := pl
    exact ⟨o1, h1, h2⟩
  · cases ea
    exact ⟨ob, ho, hd⟩
  · have hA := ha.run cpos pins s1 σ H1 _ I1 q1
    rw [hs] at hA ⊢
    refine Calls.callWith_builtin (by show (false || (backTo cpos (starEach es X.env)).any (·.1)) = false; rw [hplain] <;> rfl) (Calls.evalArgs_plain ?_)
    exact thn hA fun us s2 ⟨vs, H2, I2, r2, q2⟩ => hm pins s2 σ H2 (.ref p) vs _ us Q I2 rfl r2 q2
end
end Ask

/-! defs that are called where no repr is under way; repr of any data -/
namespace Ask
open PySem L2 PySem.Spec PyProof.Rows
structure FnG (P : Program) (w : World) (K : PySem.W.Frag) (mg : Str → Option Value) (base : Heap) (CX : CXT) (k : Nat) (f : Addr) (fd : FuncData) (ps : List Str) (sp : Sp) : Prop where
  long : ∀ xs J R Z, sp xs J R Z → xs.length = ps.length
  goes : ∀ (A : Around) (out : List Env) (s : Shared) (J : Hp) (args : Args) (us : List Value) (xs : List V) (R : VK) (Z : XK), A.guards = some [] → Room k A → Env0 P w K mg base A out s J → BindsTo s fd args (ps.zip us) → Vals xs us → sp xs J R Z →
    codeAny (model P w) A (.call (.ref f) args) (CR CX out P w J s R Z) s
theorem FnG.mk0 {P : Program} {w : World} {K : PySem.W.Frag} {mg : Str → Option Value} {base : Heap} {CX : CXT} {k : Nat} {f : Addr} {x qual : Str} {st : Stmt} {fd : FuncData} {N ps : List Str} {sp : Sp} (F : Fun K x qual st f fd) (S : FnScope N ps (defScope st)) (ln : ∀ xs J R Z, sp xs J R Z → xs.length = ps.length)
    (hb : ∀ (cdv : Value) (A : Around) (out : List Env) (s : Shared) (J : Hp) (xs : List V) (R : VK) (Z : XK), A.guards = some [] → Room k (A.deeper (envOfC qual (defScope st) s.heap.objs.size f cdv)) → sp xs J R Z →
      ∃ t, PSs (cxOf CX P w K mg base N qual (defScope st) f cdv A out s J Z) (defBody st) t ∧ t { nx := fun _ H' => R .non H', rt := R } (start N xs) J) : FnG P w K mg base CX (k + 1) f fd ps sp :=
  ⟨ln, fun A out s J args us xs R Z hg hr e0 bd r q => fn_run F S hr e0 bd r (ln _ _ _ _ q) fun cdv hr' => hb cdv A out s J xs R Z hg hr' q⟩
theorem run_fnG {X : Cx} {CX : CXT} {k : Nat} {f : Addr} {fd : FuncData} {ps : List Str} {sp : Sp} {Z : XK} {pins : List (Addr × Obj)} {σ : L2.St} {J : Hp} {s : Shared} {R : VK} {us : List Value} {xs : List V} (F : FnG X.prog X.w X.K X.mg X.base CX k f fd ps sp) (hg : X.A.guards = some []) (hr : Room k X.A)
    (hb : Binds X.K fd ps []) (hx : Passes CX X Z) (I : Inv X pins σ J s) (r : Vals xs us) (q : sp xs J R Z) : wpAny (model X.prog X.w) X.A (call (.ref f) us) (EP X pins σ R) X.xe s := by
  have ul : us.length = ps.length := r.length.symm.trans (F.long _ _ _ _ q)
  have bd := hb s us I.kIn ((List.append_nil us).symm ▸ ul)
  rw [List.append_nil] at bd
  refine wpAny_call (codeAny_mono (F.goes X.A X.stack s J ⟨us, []⟩ us xs R Z hg hr I.env0 bd r q) fun got s' z => ?_)
  rcases got with e | fl
  · exact hx pins σ J s e s' I z
  · cases fl <;> first | exact I.after z | exact False.elim z
theorem pe_callG {X : Cx} {CX : CXT} {k : Nat} {f : Addr} {fd : FuncData} {ps : List Str} {sp : Sp} {Z : XK} {x : Str} {p pos : Pos} {e : Expr} {es : List Expr} {t : TA} (F : FnG X.prog X.w X.K X.mg X.base CX k f fd ps sp) (hG : X.A.guards = some []) (hr : Room k X.A) (hg : Gl X x) (hm : X.mg x = some (.ref f))
    (hk : PySem.W.keepIn X.K (.ref f) = true) (hb : Binds X.K fd ps []) (hx : Passes CX X Z) (ha : PA X (e :: es) t) (hdb : (x == ("__debug__" : Str)) = false := by decide) (he : starEach (e :: es) X.env = (false, eval e X.env) :: starEach es X.env := by rfl) (hpl : (backTo pos (starEach es X.env)).any (·.1) = false := by rfl) :
    PE X (.Call (.Name x p) (e :: es) [] pos) (fun σ J R => t σ J fun xs J1 => sp xs J1 R Z) := by
  constructor
  intro pins s σ J R I q
  refine wpAny_Call_Name_kw (ld_glob I hg hm ?_ hdb)
  exact PySem.W.callWith_K (h₀ := X.base) I.ok.mod.kin hk (thn (ha.run pos pins s σ J _ I q) fun us s1 ⟨xs, J1, I1, r, z⟩ => ⟨I1.kIn, run_fnG F hG hr hb hx I1 r z⟩) he hpl
/-- repr of data of any kind -/
def rReprV (K : PySem.W.Frag) : List V → Hp → VK → Prop := fun xs J R => ∃ (x : V) (d : PyData), xs = [x] ∧ Dp K J x d ∧ d.showable = true ∧ d.hasDict = false ∧ d.depth ≤ 30 ∧ d.shown.length ≤ sizeLine ∧ R (.str d.shown) J
theorem call_reprV {X : Cx} (hg : X.A.guards = some []) (hu : X.A.units + 64 < cLine) : CallR X (.builtin "repr") (rReprV X.K) := by
  intro pins s σ J xs us R I r h
  obtain ⟨x, d, rfl, hd, sh, nd, dp, sz, q⟩ := h
  have lst : ∀ a, x = .ref a → wpAny (model X.prog X.w) X.A (call (.builtin "repr") us) (EP X pins σ R) X.xe s := fun a e => by
    subst e
    exact call_reprD hg hu pins s σ J _ us R I r ⟨a, d, rfl, hd, sh, nd, dp, sz, q⟩
  obtain ⟨u, rfl, ra⟩ := vals1 r
  cases hd with
  | non =>
    obtain rfl : u = Value.none := ra
    exact P.repr_of_none ⟨.str _, J, I.tok _, ⟨_, rfl⟩, by simpa only [PyData.shown] using q⟩
  | bl b =>
    obtain rfl : u = Value.bool b := ra
    exact P.repr_of_bool ⟨.str _, J, I.tok _, ⟨_, rfl⟩, by simpa only [PyData.shown] using q⟩
  | int i =>
    obtain ⟨t, rfl⟩ := ra
    exact P.repr_of_int (of_decide_eq_true (by simpa only [PyData.showable] using sh)) ⟨.str _, J, I.tok _, ⟨_, rfl⟩, by simpa only [PyData.shown] using q⟩
  | str z =>
    obtain ⟨t, rfl⟩ := ra
    exact P.repr_of_str ⟨.str _, J, I.tok _, ⟨_, rfl⟩, by simpa only [PyData.shown] using q⟩ (by simpa only [PyData.shown] using sz)
  | lst h1 h2 => exact lst _ rfl
  | tup h1 h2 => exact lst _ rfl
end Ask

/-! isinstance(e, c) in a suite, e an own error with fields -/
namespace Ask
open PySem L2 PySem.Spec PyProof.Rows
/-- what the class says of __class__ -/
structure XkC (K : PySem.W.Frag) (C : Addr) : Prop where
  ic : PySem.W.isClsIn K C = true
  ha : PySem.W.findIn K (.ref C) "__class__" = some (some (.builtin "object.__class__"))
  hn : PySem.W.specialIn K (.builtin "object.__class__") "__get__" = some (some (.builtin "getset_descriptor.__get__"))
  ht : PySem.W.takesIn K (.builtin "object.__class__") = some true
  hm : PySem.W.mroIn K C (.type "object") = some true
def rIsX (K : PySem.W.Frag) (C a : Addr) (cls : Value) (d : Option Addr) : List V → Hp → VK → Prop := fun xs H Q => ∃ (c : V) (cv : Value) (b : Bool) (dd : Addr) (fs : List (Str × V)), xs = [.ref a, c] ∧ cls = .ref C ∧ d = some dd ∧ H dd = some (.xd fs) ∧ ClsV c cv ∧ PySem.W.kitOne K (.ref C) cv = some b ∧ Q (.bl b) H
theorem call_isX {X : Cx} {a C : Addr} {oe : Obj} {cls : Value} {d : Option Addr} {pn : List (Addr × Obj)} (T : XfC X.K C) (Y : XkC X.K C) (hz : Zc cls d oe) (hf : ∃ vs, oe.data = .fields vs) :
    CallR (X.suite a ((a, oe) :: pn)) (.builtin "isinstance") (rIsX X.K C a cls d) := by
  intro pins s σ H xs us Q I r h
  obtain ⟨c, cv, b, dd, fs, rfl, rfl, rfl, ed, hcv, e, q⟩ := h
  obtain ⟨u1, u2, rfl, r1, r2⟩ := vals2 r
  obtain rfl : u1 = Value.ref a := r1
  have ec := hcv.eq r2
  subst ec
  obtain ⟨ha, _⟩ := I.pin (a, oe) (List.mem_append_left _ List.mem_cons_self)
  obtain ⟨vs, hd⟩ := hf
  obtain ⟨mA, hns, hr⟩ := (show ObjOk X.prog X.w H s.heap dd (.xd fs) from I.hok dd _ ed)
  obtain ⟨od, ho, hl⟩ := lookIn_ns hns
  have J : PySem.W.InstAt s.heap a oe C (some od) := ⟨ha, hz.1, by unfold PySem.W.notCls; rw [hd] <;> rfl, by rw [hz.2]; exact ho⟩
  exact PySem.W.kia_one (PySem.W.kitx_exc Y.ic T.ga T.gg T.exC Y.ha Y.hn Y.ht Y.hm) I.kIn J e (fun z => nomatch z) fun tk => ⟨.bl b, H, I.kept (t' := tk) fun _ _ z => z, rfl, q⟩
end Ask

/-! an own error made by a call with keywords, at the library's level -/
namespace PySem
namespace HandSPX
open Builtin Builtin.ObjectAttr PyProof.Rows PySem.Spec
section
variable {M : Model} {A : Around} {E : Value → Shared → Prop} {h : Heap} {g : Array GenState} {d : Drawn} {t : Nat} {os : OsState} {ks : List (Str × Value)}
variable {nm q : Str} {C N : Addr} {bs bm bmB : List Value} {hdct : Bool} {sn : List Str} {sub : List Value} {ab : Bool} {col : Option Bool} {dd : Option Addr} {k0 k1 k2 k3 k5 : Option Value} {B newId initId : String}
theorem check_new_ownK (F : ExcBaseFacts B newId initId bmB) (hT : ∀ X : String, bm.contains (.type X) = bmB.contains (.type X)) {rest : List Value} {Q : Unit → Shared → Prop}
    (hC : h.get? C = some (excClassObj nm q C N bs bm hdct sn sub ab col dd k0 k1 k2 k3 k5 newId)) (hq : Q () ⟨h, g, d, t, os⟩) : wpAny M A (checkBuiltinCall newId ⟨.ref C :: rest, ks⟩) Q E ⟨h, g, d, t, os⟩ := by
  have hcont : (Value.ref C :: bm).contains (.type B) = true := by rw [List.contains_cons, hT, F.hasB, Bool.or_true]
  have hstar := F.noStar
  simp only [checkBuiltinCall, F.newKind, F.newSplit, F.newRow]
  repeat (first | refine wpAny_loadPart_at hC ?_ | (refine wpAny_isSubtype_exc hC ?_; rw [hcont]) | refine wpAny_staticBase_exc hC ?_ | refine wpAny_madeBy_exc hC ?_ | simp only [bne_self_eq_false, Bool.false_eq_true, if_false] | wp_step)
  exact hq
end
section
variable {prog : Program} {w : World} {A : Around} {E : Value → Shared → Prop} {R : Result → Shared → Prop} {h : Heap} {g : Array GenState} {d : Drawn} {t : Nat} {os : OsState} {ks : List (Str × Value)}
variable {nm q : Str} {C N : Addr} {bs bm bmB : List Value} {hdct : Bool} {sn : List Str} {sub : List Value} {ab : Bool} {col : Option Bool} {dd : Option Addr} {k0 k1 k2 k3 k5 : Option Value} {B newId initId : String}
theorem new_ownK (F : ExcBaseFacts B newId initId bmB) (hT : ∀ X : String, bm.contains (.type X) = bmB.contains (.type X)) {rest : List Value}
    (hC : h.get? C = some (excClassObj nm q C N bs bm hdct sn sub ab col dd k0 k1 k2 k3 k5 newId))
    (hq : R (.ok (.ret (.ref (h.objs.size + 1)))) ⟨(h.push { cls := .type "tuple", data := .seq rest.toArray }).push
      { cls := .ref C, data := .fields #[.ref h.objs.size, .none, .none, .none, .bool false, .none] }, g, d, t, os⟩) (hrest : rest.length ≤ sizeLine) :
    codeAny (model prog w) A (.builtin newId ⟨.ref C :: rest, ks⟩) R ⟨h, g, d, t, os⟩ := by
  have hends := F.ends
  have hcB : (Value.ref C :: bm).contains (.type B) = true := by rw [List.contains_cons, hT, F.hasB, Bool.or_true]
  have hcA : (Value.ref C :: bm).contains (.type "AttributeError") = false := by rw [List.contains_cons, hT, F.noAttr]; rfl
  have hcN : (Value.ref C :: bm).contains (.type "NameError") = false := by rw [List.contains_cons, hT, F.noName]; rfl
  refine codeAny_builtinAt F.entry ?_
  unfold Builtin.«BaseException.__new__»
  refine wpAt_bind ?_
  show wpAt _ _ _ (stack >>= _) _ _ _
  refine wpAt_bind (wpAt_stack fun p below => wpAt_of_wpAny ?_)
  wp_walk
  refine wpAt_of_wpAny ?_
  rw [F.owner]
  repeat (first | with_reducible refine wpAny_madeHere_exc F.canon hC ?_ | with_reducible refine wpAny_loadPart_at hC ?_ | (with_reducible refine wpAny_isSubtype_exc hC ?_; first | rw [hcB] | rw [hcA] | rw [hcN]) | wp_step)
  show R _ _
  rw [Heap.size_push]
  exact hq
theorem type_call_ownK (F : ExcBaseFacts B newId initId bmB) (hT : ∀ X : String, bm.contains (.type X) = bmB.contains (.type X)) {rest : List Value} {fI : Addr} {Q : Fin → Shared → Prop}
    (hC : h.get? C = some (excClassObj nm q C N bs bm hdct sn sub ab col dd k0 k1 k2 k3 k5 newId))
    (hi : W.Looks (model prog w) h (typeLookup (.ref C) "__init__") (some (.ref fI))) (hb : ∀ self, W.Looks (model prog w) h (bindSpecial (.ref fI) self) (.ref fI, [self])) (hrest : rest.length ≤ sizeLine)
    (hq : codeAny (model prog w) A (.call (.ref fI) ⟨.ref (h.objs.size + 1) :: rest, ks⟩)
      (fun r s' => match r with | .ok (.ret v) => v = .none ∧ Q (.done (.ret (.ref (h.objs.size + 1)))) s' | .ok _ => False | .error e => E e s')
      ⟨(h.push (W.kdv_tup rest)).push (excO C h.objs.size), g, d, t, os⟩) :
    wpAny (model prog w) A (Builtin.«type.__call__» ⟨.ref C :: rest, ks⟩) Q E ⟨h, g, d, t, os⟩ := by
  repeat (first | with_reducible refine wpAny_loadPart_at hC ?_ | with_reducible refine wpAny_madeBy_exc hC ?_ | wp_step)
  refine codeAny_call_builtin_code (Code.quiet_builtin _ F.quiet) (check_new_ownK F hT hC ?_)
  refine new_ownK F hT hC ?_ hrest
  show wpAny _ _ _ _ _ _
  have k : ∀ b o, h.get? b = some o → ((h.push (W.kdv_tup rest)).push (excO C h.objs.size)).get? b = some o := fun b o e => Heap.get?_push_of_some _ (Heap.get?_push_of_some _ e)
  have hC₁ := k _ _ hC
  have hget : ((h.push (W.kdv_tup rest)).push (excO C h.objs.size)).get? (h.objs.size + 1) = some (excO C h.objs.size) := by heap_get
  have hcC : (Value.ref C :: bm).contains (.ref C) = true := by simp
  have i1 := hi.keeps k
  have b1 := (hb (.ref (h.objs.size + 1))).keeps k
  unfold isInstance
  repeat (first | with_reducible refine wpAny_loadPart_at hget ?_ | (with_reducible refine wpAny_isSubtype_exc hC₁ ?_; rw [hcC]) | wp_step)
  show wpAny _ _ (typeLookup (.ref C) _) _ _ _
  refine i1.at ?_
  refine wpAny_holding (wpAny_bind (b1.at ?_))
  refine wpAny_bind (wpAny_call (codeAny_mono hq fun r s' z => ?_))
  rcases r with e | (v | _ | _ | _) <;> first | exact z | exact z.elim | skip
  obtain ⟨rfl, z⟩ := z
  first
    | exact wpAny_pure (wpAny_pure z)
    | (wp_walk; exact z)
theorem call_ownK (F : ExcBaseFacts B newId initId bmB) (hT : ∀ X : String, bm.contains (.type X) = bmB.contains (.type X)) {rest : List Value} {fI : Addr}
    (hC : h.get? C = some (excClassObj nm q C N bs bm hdct sn sub ab col dd k0 k1 k2 k3 k5 newId))
    (hi : W.Looks (model prog w) h (typeLookup (.ref C) "__init__") (some (.ref fI))) (hb : ∀ self, W.Looks (model prog w) h (bindSpecial (.ref fI) self) (.ref fI, [self])) (hrest : rest.length ≤ sizeLine)
    (hq : codeAny (model prog w) (A.under (.builtin "type.__call__" ⟨.ref C :: rest, ks⟩)) (.call (.ref fI) ⟨.ref (h.objs.size + 1) :: rest, ks⟩) (W.InitBack (h.objs.size + 1) R)
      ⟨(h.push (W.kdv_tup rest)).push (excO C h.objs.size), g, d, t, os⟩) :
    codeAny (model prog w) A (.call (.ref C) ⟨rest, ks⟩) R ⟨h, g, d, t, os⟩ := by
  have f1 := tc_lookup
  have f2 := tc_bind (.ref C)
  have hTy : (⟨h, g, d, t, os⟩ : Shared).TypeIs (.ref C) "type" := ⟨_, hC, rfl⟩
  refine codeAny_of_tree ?_
  show wpAny _ _ (callAny (.ref C) _) _ _ _
  repeat (any_goals (first | assumption | with_reducible refine wpAny_loadPart_at hC ?_ | wp_step))
  refine ⟨rfl, ?_⟩
  refine codeAny_call_builtin_at (Code.quiet_builtin _ (by decide +kernel)) entry_typeCall (wpAny_check_type_call_sub hC (type_call_ownK F hT hC hi hb hrest ?_))
  refine codeAny_mono hq fun r s' z => ?_
  rcases r with e | (v | _ | _ | _) <;> exact z
end
end HandSPX
end PySem

/-! own errors as values: made, read, asked for their class -/
namespace Ask
open PySem PySem.Spec PyProof.Rows L2
/-- C(e, ..) as a value: a new error, which C's own __init__ has filled -/
def tMkV (C : Addr) (sp : Sp) (dvs : List V) (ta : TA) : TE := fun σ H Q => ta σ H fun vs H1 => vs.length ≤ 1000 ∧ ∀ a, H1 a = none → sp (.ref a :: (vs ++ dvs)) (upd H1 a (exo a C none))
  (fun v H2 => v = .non ∧ ∃ (d : Addr) (fs : List (Str × V)), H2 a = some (exo a C (some d)) ∧ H2 d = some (exd d fs) ∧ H1 d = none ∧ Q (.ref a) H2) (fun _ _ _ => False)
section
variable {X : Cx} {pins : List (Addr × Obj)} {σ : L2.St} {H1 H2 : Hp} {Q : VK} {e : Expr} {es : List Expr} {ta : TA} {p pos : Pos}
theorem made_end {hp hp2 h2 : Heap} {g1 g2 : Array GenState} {d1 d2 : Drawn} {t1 t2 : Nat} {os1 os2 : OsState} {a : Addr} {o : HO} (I1 : Inv X pins σ H1 ⟨hp, g1, d1, t1, os1⟩)
    (ha : hp.objs.size ≤ a) (k : ∀ b o, hp.get? b = some o → hp2.get? b = some o) (un : Un (frs X.stack) [] (upd H1 a o) H2 hp2 h2) (hok : HOk X.prog X.w H2 h2) (ho : os2 = os1) (hb : AllBare g2) (hn : H1 a = none) :
    Inv X pins σ H2 ⟨h2, g2, d2, t2, os2⟩ := by
  have nha : ∀ {b : Addr} {o : Obj}, hp.get? b = some o → b ≠ a := fun {b o} z => Nat.ne_of_lt (Nat.lt_of_lt_of_le (Heap.lt_size z) ha)
  have up : ∀ {b : Addr}, b ≠ a → H1 b = none → upd H1 a o b = none := fun {b} hb n => by rw [upd_ne hb]; exact n
  have U : Un (frs X.stack) [] H1 H2 hp h2 := {
    keep := fun b o z n hf hx => un.keep b o (k b o z) (up (nha z) n) hf hx
    slot := fun b o z n hf hx => un.slot b o (k b o z) (up (nha z) n) hf hx
    free := fun b o z n hx => un.free b o (k b o z) (up (nha z) n) hx
    there := fun b o z hx => un.there b o (k b o z) hx
    tups := fun b xs z => un.tups b xs (by rw [upd_ne (ne_of_none z hn)]; exact z)
    frzs := fun b o v z => un.frzs b o v (by rw [upd_ne (ne_of_none z hn)]; exact z)
    tbls := fun b ps z => un.tbls b ps (by rw [upd_ne (ne_of_none z hn)]; exact z) }
  exact I1.call' (ch := []) ho U hok hb (fun b z => absurd z (by simp))
theorem run_oexV {s1 : Shared} {CX : CXT} {C fI : Addr} {k : Nat} {fd : FuncData} {ps : List Str} {sp : Sp} {us : List Value} {ka : List (Str × Value)} {ds : Addr → List Value} {wd : Addr → List V} (T : OexC X.K C) (iC : PySem.W.findIn X.K (.ref C) "__init__" = some (some (.ref fI))) (tI : PySem.W.typeIn X.K (.ref fI) = some (.type "function"))
    (F1 : FnOk X.prog X.w X.K X.mg X.base CX k fI fd ps sp) (hr : Room (k + 1) X.A) (hx : Passes CX X (fun _ _ _ => False)) (I1 : Inv X pins σ H1 s1) (lu : us.length ≤ sizeLine)
    (bd : ∀ (s : Shared) (a : Addr), X.K.In s.heap → (ds a).length = ps.length → BindsTo s fd ⟨Value.ref a :: us, ka⟩ (ps.zip (ds a))) (rd : ∀ a, Vals (wd a) (ds a))
    (q1 : ∀ a, H1 a = none → sp (wd a) (upd H1 a (exo a C none)) (fun v H2 => v = .non ∧ ∃ (d : Addr) (fs : List (Str × V)), H2 a = some (exo a C (some d)) ∧ H2 d = some (exd d fs) ∧ H1 d = none ∧ Q (.ref a) H2) (fun _ _ _ => False)) :
    wpAny (model X.prog X.w) X.A (call (.ref C) us ka) (EP X pins σ Q) X.xe s1 := by
  obtain ⟨nm, q, N, bs, bm, sn, sub, ab, col, dd, k0, k1, k2, k3, k5, hC, hbm⟩ := T.cls
  obtain ⟨hp, g, dr, tk, os⟩ := s1
  have hsz : hp.objs.size ≤ hp.objs.size + 1 := Nat.le_succ _
  have hn : H1 (hp.objs.size + 1) = none := I1.hok.fresh hsz
  have hq := q1 (hp.objs.size + 1) hn
  have kk : ∀ b o, hp.get? b = some o → ((hp.push (PySem.W.kdv_tup us)).push (PySem.HandSPX.excO C hp.objs.size)).get? b = some o := fun b o e => Heap.get?_push_of_some _ (Heap.get?_push_of_some _ e)
  have hget : ((hp.push (PySem.W.kdv_tup us)).push (PySem.HandSPX.excO C hp.objs.size)).get? (hp.objs.size + 1) = some (PySem.HandSPX.excO C hp.objs.size) := by heap_get
  have I2 : Inv X pins σ (upd H1 (hp.objs.size + 1) (exo (hp.objs.size + 1) C none)) ⟨(hp.push (PySem.W.kdv_tup us)).push (PySem.HandSPX.excO C hp.objs.size), g, dr, tk, os⟩ :=
    I1.laid (t' := tk) (a := hp.objs.size + 1) (o := exo (hp.objs.size + 1) C none) (h' := (hp.push (PySem.W.kdv_tup us)).push (PySem.HandSPX.excO C hp.objs.size)) kk hsz (exo_ok hget)
  have hl : (ds (hp.objs.size + 1)).length = ps.length := by
    have e := (rd (hp.objs.size + 1)).length
    rw [F1.len _ _ _ _ hq] at e
    exact e.symm
  refine wpAny_call (PySem.HandSPX.call_ownK F.excBase_ValueError (fun Y => PySem.HandSPX.refsVE_contains Y bm hbm) (I1.kIn _ _ hC) (PySem.W.looks_findIn I1.kIn iC) (fun self => PySem.W.bind_fn I1.kIn self tI) lu
    (codeAny_mono (F1.run _ X.stack _ _ ⟨Value.ref (hp.objs.size + 1) :: us, ka⟩ (ds (hp.objs.size + 1)) _ _ (fun _ _ _ => False) (hr.make C us ka) (I2.env0.make C us ka) (bd _ _ I2.kIn hl) (rd _) hq) fun r s' hq' => ?_))
  cases r with
  | error er => exact hx pins σ _ _ er s' I2 hq'
  | ok fl =>
    cases fl with
    | ret u =>
      obtain ⟨v, H2, os2, bare2, un2, hok2, rv, ev, d, fs, ea, ed, hd1, q2⟩ := hq'
      subst ev
      obtain ⟨h2, g2, d2, t2, os'⟩ := s'
      exact ⟨rv, V.ref (hp.objs.size + 1), H2, made_end I1 hsz kk un2 hok2 os2 bare2 hn, rfl, q2⟩
    | next => exact False.elim hq'
    | brk => exact False.elim hq'
    | cont => exact False.elim hq'
/-- C(e, ..), an own error with its own __init__, as a value -/
theorem pe_oexV {CX : CXT} {x : Str} {C fI : Addr} {k : Nat} {fd : FuncData} {ps : List Str} {sp : Sp} (T : OexC X.K C) (iC : PySem.W.findIn X.K (.ref C) "__init__" = some (some (.ref fI))) (tI : PySem.W.typeIn X.K (.ref fI) = some (.type "function"))
    (F1 : FnOk X.prog X.w X.K X.mg X.base CX k fI fd ps sp) (hr : Room (k + 1) X.A) (hb : Binds X.K fd ps []) (hx : Passes CX X (fun _ _ _ => False)) (hg : Gl X x) (hm : X.mg x = some (.ref C)) (ha : PA X (e :: es) ta)
    (hdb : (x == ("__debug__" : Str)) = false := by decide) (he : starEach (e :: es) X.env = (false, eval e X.env) :: starEach es X.env := by rfl) (hpl : (backTo pos (starEach es X.env)).any (·.1) = false := by rfl) :
    PE X (.Call (.Name x p) (e :: es) [] pos) (tMkV C sp [] ta) := by
  refine ⟨fun pins s σ H Q I h => ?_⟩
  refine wpAny_Call_Name_kw (ld_glob I hg hm ?_ hdb)
  refine PySem.W.callWith_K (h₀ := X.base) I.ok.mod.kin T.kC (thn (ha.run pos pins s σ H _ I h) fun us s1 ⟨vs, H1, I1, r1, hz, q1⟩ => ⟨I1.kIn, ?_⟩) he hpl
  have hus : us.length ≤ sizeLine := by
    rw [← Paired.length r1, sizeLine_eq]
    omega
  exact run_oexV (ds := fun a => Value.ref a :: us) (wd := fun a => V.ref a :: (vs ++ [])) T iC tI F1 hr hx I1 hus (fun s a K1 hl => by have := hb s (Value.ref a :: us) K1 (by rw [List.append_nil]; exact hl); rw [List.append_nil] at this; exact this) (fun a => .cons rfl (by rw [List.append_nil]; exact r1)) q1
end
/-- C(e, .., k = v) -/
def tMkVK (C : Addr) (n m : Nat) (sp : Sp) (gV : List V → List V → List V) (t tk : TA) : TE := fun σ H Q => t σ H fun vs H0 => tk σ H0 fun zs H1 => vs.length = n ∧ zs.length = m ∧ vs.length ≤ 1000 ∧ ∀ a, H1 a = none → sp (gV (.ref a :: vs) zs) (upd H1 a (exo a C none))
  (fun v H2 => v = .non ∧ ∃ (d : Addr) (fs : List (Str × V)), H2 a = some (exo a C (some d)) ∧ H2 d = some (exd d fs) ∧ H1 d = none ∧ Q (.ref a) H2) (fun _ _ _ => False)
section
variable {X : Cx} {pins : List (Addr × Obj)} {σ : L2.St} {H1 H2 : Hp} {Q : VK} {e : Expr} {es : List Expr} {kws : List Keyword} {t tk : TA} {p pos : Pos}
theorem pe_oexVK {CX : CXT} {x : Str} {C fI : Addr} {k n : Nat} {fd : FuncData} {ps ks : List Str} {sp : Sp} {g : List Value → List Value → List Value} {gV : List V → List V → List V} (T : OexC X.K C) (iC : PySem.W.findIn X.K (.ref C) "__init__" = some (some (.ref fI))) (tI : PySem.W.typeIn X.K (.ref fI) = some (.type "function"))
    (F1 : FnOk X.prog X.w X.K X.mg X.base CX k fI fd ps sp) (hr : Room (k + 1) X.A) (hb : KBn X.K fd ps (n + 1) ks g gV) (hx : Passes CX X (fun _ _ _ => False)) (hg : Gl X x) (hm : X.mg x = some (.ref C)) (ha : PA X (e :: es) t)
    (hkw : PK X kws tk) (hall : (backToKw pos (keywordEach kws X.env)).all (·.1.isSome) = true := by rfl) (hks : (backToKw pos (keywordEach kws X.env)).filterMap (·.1) = ks := by rfl)
    (hdb : (x == ("__debug__" : Str)) = false := by decide) (he : starEach (e :: es) X.env = (false, eval e X.env) :: starEach es X.env := by rfl)
    (hpl : ((backTo pos (starEach (e :: es) X.env)).any (·.1) || (backToKw pos (keywordEach kws X.env)).any (·.1.isNone)) = false := by rfl) :
    PE X (.Call (.Name x p) (e :: es) kws pos) (tMkVK C n ks.length sp gV t tk) := by
  refine ⟨fun pins s σ H Q I h => ?_⟩
  refine wpAny_Call_Name_kw (ld_glob I hg hm ?_ hdb)
  refine PySem.W.callWith_KW (h₀ := X.base) I.ok.mod.kin T.kC hall (thn (ha.run pos pins s σ H _ I h) fun us s1 ⟨vs, H1, I1, r, q⟩ => ?_) hpl he
  refine thn (hkw.run pos pins s1 σ H1 _ I1 q) fun ws s2 ⟨zs, H2, I2, rz, l1, l2, l3, q2⟩ => ⟨I2.kIn, ?_⟩
  rw [hks]
  have hus : us.length ≤ sizeLine := by
    rw [← Paired.length r, sizeLine_eq]
    omega
  exact run_oexV (ds := fun a => g (Value.ref a :: us) ws) (wd := fun a => gV (V.ref a :: vs) zs) T iC tI F1 hr hx I2 hus (fun s a K1 hl => hb.to s (Value.ref a :: us) ws K1 (by rw [List.length_cons, ← Paired.length r, l1]) (by rw [← Paired.length rz, l2])) (fun a => hb.rel (.cons rfl r) rz) q2
end
theorem fun_kbn {K : PySem.W.Frag} {x qual : Str} {st : Stmt} {f : Addr} {fd : FuncData} {ps ks : List Str} {n : Nat} {g : List Value → List Value → List Value} {gV : List V → List V → List V} (F : Fun K x qual st f fd)
    (rel : ∀ {vs : List V} {us : List Value} {zs : List V} {ws : List Value}, Vals vs us → Vals zs ws → Vals (gV vs zs) (g us ws))
    (h : ∀ (kV doc pm : Value) (an : Option Addr) (cdv ct : Value) (us ws : List Value), us.length = n → ws.length = ks.length → bindArgs (PySem.W.fnOf x qual (defArgs st) (defBody st) (defScope st) .none kV doc pm an cdv ct) ⟨us, ks.zip ws⟩ = pure (ps.zip (g us ws))) : KBn K fd ps n ks g gV := by
  obtain ⟨oc, od, kV, doc, pm, an, cdv, ct, osl, rfl, lk, hcd⟩ := F.ex
  exact ⟨fun s us ws X l1 l2 => BindsTo.of_looks fun M => by rw [h kV doc pm an cdv ct us ws l1 l2]; exact .of_pure rfl, rel⟩
end Ask

/-! an own error as a value: without fields, its fields, its class -/
namespace Ask
open PySem PySem.Spec PyProof.Rows L2
section
variable {X : Cx} {pins : List (Addr × Obj)} {σ : L2.St} {H1 H2 : Hp} {Q : VK} {e : Expr} {kws : List Keyword} {tk : TA} {p pos : Pos}
/-- C(k = v, ..) alone -/
theorem pe_oexVK0 {CX : CXT} {x : Str} {C fI : Addr} {k : Nat} {fd : FuncData} {ps ks : List Str} {sp : Sp} {g : List Value → List Value → List Value} {gV : List V → List V → List V} (T : OexC X.K C) (iC : PySem.W.findIn X.K (.ref C) "__init__" = some (some (.ref fI))) (tI : PySem.W.typeIn X.K (.ref fI) = some (.type "function"))
    (F1 : FnOk X.prog X.w X.K X.mg X.base CX k fI fd ps sp) (hr : Room (k + 1) X.A) (hb : KBn X.K fd ps 1 ks g gV) (hx : Passes CX X (fun _ _ _ => False)) (hg : Gl X x) (hm : X.mg x = some (.ref C))
    (hkw : PK X kws tk) (hall : (backToKw pos (keywordEach kws X.env)).all (·.1.isSome) = true := by rfl) (hks : (backToKw pos (keywordEach kws X.env)).filterMap (·.1) = ks := by rfl)
    (hdb : (x == ("__debug__" : Str)) = false := by decide) (hpl : ((backTo pos (starEach [] X.env)).any (·.1) || (backToKw pos (keywordEach kws X.env)).any (·.1.isNone)) = false := by rfl) :
    PE X (.Call (.Name x p) [] kws pos) (tMkVK C 0 ks.length sp gV tNil tk) := by
  refine ⟨fun pins s σ H Q I h => ?_⟩
  refine wpAny_Call_Name_kw (ld_glob I hg hm ?_ hdb)
  refine PySem.W.callWith_KW0 (h₀ := X.base) I.ok.mod.kin T.kC hall ?_ hpl
  refine thn (hkw.run pos pins s σ H _ I h) fun ws s2 ⟨zs, H2, I2, rz, l1, l2, l3, q2⟩ => ⟨I2.kIn, ?_⟩
  rw [hks]
  exact run_oexV (us := []) (ds := fun a => g [Value.ref a] ws) (wd := fun a => gV [V.ref a] zs) T iC tI F1 hr hx I2 (Nat.zero_le _) (fun s a K1 hl => hb.to s [Value.ref a] ws K1 rfl (by rw [← Paired.length rz, l2])) (fun a => hb.rel (.cons rfl .nil) rz) q2
/-- C(), an own error without __init__ -/
theorem pe_exc0V {C : Addr} {bmB : List Value} {B newId initId : String} {x : Str} (F : ExcBaseFacts B newId initId bmB) (q : PySem.W.excIn X.K C bmB newId = true) (gC : X.mg x = some (.ref C)) (kC : PySem.W.keepIn X.K (.ref C) = true) (hg : Gl X x)
    (hdb : (x == ("__debug__" : Str)) = false := by decide) : PE X (.Call (.Name x p) [] [] pos) (fun σ H Q => ∀ a, H a = none → Q (.ref a) (upd H a (exo a C none))) := by
  refine ⟨fun pins s σ H Q I h => ?_⟩
  refine wpAny_Call_Name_kw (ld_glob I hg gC ?_ hdb)
  refine PySem.W.callWith_K0 (first := []) I.kIn kC ?_
  show wpAny _ _ (call (.ref C) []) _ _ _
  obtain ⟨bm, N, nm, qn, bs, hdct, sn, sub, ab, col, dd, k0, k1, k2, k3, k5, mN, hC, hN, hni, T⟩ := exc_obj I.kIn q
  refine wpAny_call_exc_subT F T hC hN hni (fun h' a hm => ?_) (Nat.zero_le _)
  have hn : H a = none := I.hok.gone hm.new
  obtain ⟨t, ht, _, _⟩ := hm.there
  exact ⟨.ref a, upd H a (exo a C none), I.laidN hm.keeps hm.new hn (exo_ok ht), rfl, h a hn⟩
/-- e.f, e an error -/
def tOget (K : PySem.W.Frag) (f : Str) (te : TE) : TE := fun σ H Q => te σ H fun x H1 => ∃ (a C d : Addr) (fs : List (Str × V)) (v : V), x = .ref a ∧ H1 a = some (exo a C (some d)) ∧ H1 d = some (exd d fs) ∧ XfC K C ∧ PySem.W.findIn K (.ref C) f = some none ∧ fs.lookup f = some v ∧ Q v H1
theorem pe_oget {te : TE} {f : Str} (he : PE X e te) (hb : attributeBase e f X.env (eval e X.env) = eval e X.env := by rfl) : PE X (.Attribute e f pos) (tOget X.K f te) := by
  refine ⟨fun pins s σ H Q I h => ?_⟩
  refine attr_of hb (thn (he.run pins s σ H _ I h) fun u s1 hh => ?_)
  obtain ⟨x, H1, I1, rx, a, C, d, fs, v, ex, ea, ed, T, hno, l, q⟩ := hh
  subst ex
  obtain rfl : u = Value.ref a := rx
  obtain ⟨t1, ho⟩ := exo_at I1.hok ea
  obtain ⟨mA, hns, hr⟩ := exd_at I1.hok ed
  obtain ⟨od, hod, hl⟩ := lookIn_ns hns
  obtain ⟨u, hu, ru⟩ := RelO.some_of (v := v) (o := mA f) (by rw [← l]; exact hr f)
  have J : PySem.W.InstAt s1.heap a ({ cls := .ref C, dict := some d, data := .fields #[.ref t1, .none, .none, .none, .bool false, .none] } : Obj) C (some od) := ⟨ho, rfl, rfl, hod⟩
  exact HandSPX.exc_get I1.kIn J T.ga T.gg T.exC (PySem.W.findObj_own T.hdC hno rfl (by rw [hl, hu])) (handed_of ru) ⟨v, H1, I1.tok _, ru, q⟩
/-- isinstance(e, C), e an error -/
def rIsO (K : PySem.W.Frag) : List V → Hp → VK → Prop := fun xs H Q => ∃ (a C : Addr) (d : Option Addr) (c : V) (cv : Value) (b : Bool), xs = [.ref a, c] ∧ H a = some (exo a C d) ∧ (∀ dd, d = some dd → ∃ fs, H dd = some (exd dd fs)) ∧ XfC K C ∧ XkC K C ∧ ClsV c cv ∧ PySem.W.kitOne K (.ref C) cv = some b ∧ Q (.bl b) H
theorem call_isO : CallR X (.builtin "isinstance") (rIsO X.K) := by
  intro pins s σ H xs us Q I r h
  obtain ⟨a, C, d, c, cv, b, rfl, ea, hd, T, Y, hcv, e, q⟩ := h
  obtain ⟨u1, u2, rfl, r1, r2⟩ := vals2 r
  obtain rfl : u1 = Value.ref a := r1
  have ec := hcv.eq r2
  subst ec
  obtain ⟨t1, ho⟩ := exo_at I.hok ea
  cases d with
  | none =>
    have J : PySem.W.InstAt s.heap a ({ cls := .ref C, dict := none, data := .fields #[.ref t1, .none, .none, .none, .bool false, .none] } : Obj) C none := ⟨ho, rfl, rfl, trivial⟩
    exact PySem.W.kia_one (PySem.W.kitx_exc Y.ic T.ga T.gg T.exC Y.ha Y.hn Y.ht Y.hm) I.kIn J e (fun z => nomatch z) fun tk => ⟨.bl b, H, I.tok tk, rfl, q⟩
  | some dd =>
    obtain ⟨fs, ed⟩ := hd dd rfl
    obtain ⟨mA, hns, hr⟩ := exd_at I.hok ed
    obtain ⟨od, hod, hl⟩ := lookIn_ns hns
    have J : PySem.W.InstAt s.heap a ({ cls := .ref C, dict := some dd, data := .fields #[.ref t1, .none, .none, .none, .bool false, .none] } : Obj) C (some od) := ⟨ho, rfl, rfl, hod⟩
    exact PySem.W.kia_one (PySem.W.kitx_exc Y.ic T.ga T.gg T.exC Y.ha Y.hn Y.ht Y.hm) I.kIn J e (fun z => nomatch z) fun tk => ⟨.bl b, H, I.tok tk, rfl, q⟩
end
end Ask

/-! a comprehension with two for, by two walks -/
namespace Ask
open PySem L2 PySem.Spec PyProof.Rows
section
variable {J J1 : It} {n n1 : Nat} {G G1 : Hp → Prop} {Y Y1 : Nat → Hp → V → Hp → Prop} {wi wi1 : TI} {g g1 : TG} {tt tt1 : TT} {te : TE} {vs vs1 : List Nat} {σ : L2.St} {H : Hp} {Q : VK}
/-- the inner turns, behind which M holds -/
def In2 (J1 : It) (g1 : TG) (tt1 : TT) (te : TE) (vs1 : List Nat) (D : Addr) (σ2 : L2.St) (M : Hp → Prop) (H4 : Hp) : Prop := ∃ W1 : Nat → Nat → Hp → Prop, (∃ m, W1 0 m H4) ∧ ∀ j k H, W1 j k H → (J1.stop j H ∧ M H) ∨ (J1.go j H ∧ ∃ Nx1 : Hp → Prop, (∀ H', Nx1 H' → ∃ k', k' < k ∧ W1 (j + 1) k' H') ∧
  ∀ x H', J1.yld j H x H' → g1 x (wipe σ2 vs1) H' fun σ3 H5 => wipe σ3 vs1 = wipe σ2 vs1 ∧ tt1 σ3 H5 fun b H6 => if b = true then te σ3 H6 fun y H7 => ∃ acc, H7 D = some (.lst acc) ∧ acc.length < sizeLine ∧ Nx1 (upd H7 D (.lst (acc ++ [y]))) else Nx1 H6)
theorem in2_it (w1 : Walk J1 n1 G1 Y1) {D : Addr} {σ2 : L2.St} {M : Hp → Prop} {H4 : Hp} (Pw : Nat → Hp → Prop) (h0 : Pw 0 H4) (hG : ∀ j H, j ≤ n1 → Pw j H → G1 H)
    (hs : ∀ j x H H', j < n1 → Pw j H → Y1 j H x H' → g1 x (wipe σ2 vs1) H' fun σ3 H5 => wipe σ3 vs1 = wipe σ2 vs1 ∧ tt1 σ3 H5 fun b H6 => if b = true then te σ3 H6 fun y H7 => ∃ acc, H7 D = some (.lst acc) ∧ acc.length < sizeLine ∧ Pw (j + 1) (upd H7 D (.lst (acc ++ [y]))) else Pw (j + 1) H6)
    (hd : ∀ H, Pw n1 H → M H) : In2 J1 g1 tt1 te vs1 D σ2 M H4 := by
  refine ⟨fun j k H => k = n1 - j ∧ j ≤ n1 ∧ Pw j H, ⟨n1, by simp, Nat.zero_le _, h0⟩, ?_⟩
  rintro j k H ⟨rfl, hj, p⟩
  have q := hG j H hj p
  rcases Nat.lt_or_ge j n1 with lt | ge
  · exact .inr ⟨w1.goes j H lt q, Pw (j + 1), fun H' p' => ⟨n1 - (j + 1), by omega, rfl, lt, p'⟩, fun x H' y => hs j x H H' lt p (w1.yields j H x H' lt q y)⟩
  · obtain rfl : j = n1 := by omega
    exact .inl ⟨w1.stops H q, hd H p⟩
theorem lc2_it (f : ∀ R : It → Hp → Prop, R J H → wi σ H R) (wk : Walk J n G Y)
    (h : ∀ D, H D = none → ∃ Pv : Nat → Hp → Prop, Pv 0 (upd H D (.lst [])) ∧ (∀ i H, i ≤ n → Pv i H → G H) ∧
      (∀ i x H H', i < n → Pv i H → Y i H x H' → g x (wipe σ vs) H' fun σ2 H2 => wipe σ2 vs = wipe σ vs ∧ tt σ2 H2 fun b H3 => if b = true then wi1 σ2 H3 fun J1 H4 => In2 J1 g1 tt1 te vs1 D σ2 (Pv (i + 1)) H4 else Pv (i + 1) H3) ∧ (∀ H, Pv n H → Q (.ref D) H)) :
    tLc2 wi g tt wi1 g1 tt1 te vs vs1 σ H Q := by
  delta tLc2
  refine f _ fun D hD => ?_
  obtain ⟨Pv, h0, hG, hs, hd⟩ := h D hD
  refine ⟨fun i m H => m = n - i ∧ i ≤ n ∧ Pv i H, ⟨n, by simp, Nat.zero_le _, h0⟩, ?_⟩
  rintro i m H ⟨rfl, hi, p⟩
  have q := hG i H hi p
  rcases Nat.lt_or_ge i n with lt | ge
  · exact .inr ⟨wk.goes i H lt q, Pv (i + 1), fun H' p' => ⟨n - (i + 1), by omega, rfl, lt, p'⟩, fun x H' y => hs i x H H' lt p (wk.yields i H x H' lt q y)⟩
  · obtain rfl : i = n := by omega
    exact .inl ⟨wk.stops H q, hd H p⟩
end
end Ask

namespace Ask
open PySem L2
/-- an own error class of the text, its __init__ at f -/
structure ErrAt (K : PySem.W.Frag) (mg : Str → Option Value) (x : Str) (C f : Addr) (fd : FuncData) (ps : List Str) : Prop where
  m : mg x = some (.ref C)
  o : OexC K C
  i : PySem.W.findIn K (.ref C) "__init__" = some (some (.ref f))
  t : PySem.W.typeIn K (.ref f) = some (.type "function")
  b : Binds K fd ps []
  xf : XfC K C
theorem seqT_same {K : PySem.W.Frag} {H H' : Hp} {a : Addr} {xs : List V} (e : Same H H') (h : SqT K H a xs) : SqT K H' a xs := by
  rcases h with (h | ⟨o, h⟩) | h
  · exact .inl (.inl (e _ _ h))
  · exact .inl (.inr ⟨o, e _ _ h⟩)
  · exact .inr h
mutual
theorem Dp.same {K : PySem.W.Frag} {H H' : Hp} (s : Same H H') : ∀ {v : V} {d : PyData}, Dp K H v d → Dp K H' v d
  | _, _, .non => .non
  | _, _, .bl b => .bl b
  | _, _, .int i => .int i
  | _, _, .str x => .str x
  | _, _, .lst h k => .lst (s.seq h) (DpAll.same s k)
  | _, _, .tup h k => .tup (seqT_same s h) (DpAll.same s k)
theorem DpAll.same {K : PySem.W.Frag} {H H' : Hp} (s : Same H H') : ∀ {vs : List V} {ds : List PyData}, DpAll K H vs ds → DpAll K H' vs ds
  | _, _, .nil => .nil
  | _, _, .cons h k => .cons (Dp.same s h) (DpAll.same s k)
end
def flatD : PyData → Bool
  | .none => true
  | .bool _ => true
  | .int _ => true
  | .str _ => true
  | _ => false
/-- flat data, or a list or a tuple of two at most -/
def Smp (d : PyData) : Prop := flatD d = true ∨ ∃ ds, (d = .list ds ∨ d = .tuple ds) ∧ ds.length ≤ 2 ∧ ∀ x ∈ ds, flatD x = true
theorem flat_same {K : PySem.W.Frag} {H H' : Hp} {v : V} {d : PyData} (h : Dp K H v d) (f : flatD d = true) : Dp K H' v d := by
  cases h with
  | non => exact .non
  | bl b => exact .bl b
  | int i => exact .int i
  | str x => exact .str x
  | lst h k => cases f
  | tup h k => cases f
theorem DpAll.len {K : PySem.W.Frag} {H : Hp} : ∀ {vs : List V} {ds : List PyData}, DpAll K H vs ds → vs.length = ds.length
  | _, _, .nil => rfl
  | _, _, .cons _ k => congrArg Nat.succ (DpAll.len k)
theorem DpAll.at {K : PySem.W.Frag} {H : Hp} : ∀ {vs : List V} {ds : List PyData} {i : Nat} {v : V}, DpAll K H vs ds → vs[i]? = some v → ∃ d, ds[i]? = some d ∧ Dp K H v d
  | _, _, 0, _, .cons h _, e => ⟨_, rfl, by cases e; exact h⟩
  | _, _, i + 1, _, .cons _ k, e => DpAll.at (i := i) k e
  | _, _, _, _, .nil, e => by simp at e
section
variable {P : Program} {w : World} {K : PySem.W.Frag} {mg : Str → Option Value} {base : Heap}
/-! ### copied -/
def spCopy1 (K : PySem.W.Frag) : Sp := fun vs H Q _ => ∃ (v : V) (d : PyData), vs = [v] ∧ Dp K H v d ∧ flatD d = true ∧ Q v H
def nCop : List Str := ["value", "part", "key"]
abbrev s_copied : Stmt := top 1
theorem sc_copied : FnScope nCop ["value"] (defScope s_copied) := ⟨rfl, rfl, rfl, by decide +kernel, rfl, by decide +kernel, by decide +kernel⟩
theorem ok_copied1 {f : Addr} {fd : FuncData} (F : Fun K "copied" "copied" s_copied f fd) (T : Blt mg) (nD : mg "dict" = none) : FnOk P w K mg base CX0 1 f fd ["value"] (spCopy1 K) := by
  refine F.ok sc_copied (fun vs H Q E h => ?_) (fun cdv A outer s H vs Q E hr h => ?_)
  · obtain ⟨x, d, rfl, _⟩ := h
    rfl
  · obtain ⟨x, d, rfl, hx, fx, k⟩ := h
    refine ⟨_, (pss_cons (ps_if (pt_val (pe_callB call_isi (by rfl) T.n_isinstance (by decide +kernel) (pa_cons (pv 0) (pa_cons (pe_bltn (v := .ty "list") (u := .type "list") rfl T.n_list (by decide +kernel) rfl) pa_nil)))) pss_never pss_nil)
      (pss_cons (ps_if (pt_val (pe_callB call_isi (by rfl) T.n_isinstance (by decide +kernel) (pa_cons (pv 0) (pa_cons (pe_bltn (v := .ty "tuple") (u := .type "tuple") rfl T.n_tuple (by decide +kernel) rfl) pa_nil)))) pss_never pss_nil)
      (pss_cons (ps_if (pt_val (pe_callB call_isi (by rfl) T.n_isinstance (by decide +kernel) (pa_cons (pv 0) (pa_cons (pe_bltn (v := .ty "dict") (u := .type "dict") rfl nD (by decide +kernel) rfl) pa_nil)))) pss_never pss_nil)
      (pss_one (ps_ret (pv 0)))))), ?_⟩
    cases hx with
    | non =>
      refine ⟨_, rfl, _, _, _, _, false, rfl, .ty _, .base .non, kit_ty (by decide +kernel), _, rfl, iteF ?_⟩
      refine ⟨_, rfl, _, _, _, _, false, rfl, .ty _, .base .non, kit_ty (by decide +kernel), _, rfl, iteF ?_⟩
      refine ⟨_, rfl, _, _, _, _, false, rfl, .ty _, .base .non, kit_ty (by decide +kernel), _, rfl, iteF ?_⟩
      exact ⟨_, rfl, k⟩
    | bl b =>
      refine ⟨_, rfl, _, _, _, _, false, rfl, .ty _, .base (.bl _), kit_ty (by decide +kernel), _, rfl, iteF ?_⟩
      refine ⟨_, rfl, _, _, _, _, false, rfl, .ty _, .base (.bl _), kit_ty (by decide +kernel), _, rfl, iteF ?_⟩
      refine ⟨_, rfl, _, _, _, _, false, rfl, .ty _, .base (.bl _), kit_ty (by decide +kernel), _, rfl, iteF ?_⟩
      exact ⟨_, rfl, k⟩
    | int i =>
      refine ⟨_, rfl, _, _, _, _, false, rfl, .ty _, .base (.int _), kit_ty (by decide +kernel), _, rfl, iteF ?_⟩
      refine ⟨_, rfl, _, _, _, _, false, rfl, .ty _, .base (.int _), kit_ty (by decide +kernel), _, rfl, iteF ?_⟩
      refine ⟨_, rfl, _, _, _, _, false, rfl, .ty _, .base (.int _), kit_ty (by decide +kernel), _, rfl, iteF ?_⟩
      exact ⟨_, rfl, k⟩
    | str z =>
      refine ⟨_, rfl, _, _, _, _, false, rfl, .ty _, .base (.str _), kit_ty (by decide +kernel), _, rfl, iteF ?_⟩
      refine ⟨_, rfl, _, _, _, _, false, rfl, .ty _, .base (.str _), kit_ty (by decide +kernel), _, rfl, iteF ?_⟩
      refine ⟨_, rfl, _, _, _, _, false, rfl, .ty _, .base (.str _), kit_ty (by decide +kernel), _, rfl, iteF ?_⟩
      exact ⟨_, rfl, k⟩
    | lst h k => cases fx
    | tup h k => cases fx
/-- of simple data -/
def spCopyD (K : PySem.W.Frag) : Sp := fun vs H Q _ => ∃ (v : V) (d : PyData), vs = [v] ∧ Dp K H v d ∧ Smp d ∧ ∀ (H' : Hp) (v' : V), Same H H' → Dp K H' v' d → Q v' H'
theorem ok_copiedD {f : Addr} {fd : FuncData} (F : Fun K "copied" "copied" s_copied f fd) (T : Blt mg) (nD : mg "dict" = none)
    (G : FnOk P w K mg base CX0 1 f fd ["value"] (spCopy1 K)) (A : At K mg "copied" f fd ["value"]) : FnOk P w K mg base CX0 2 f fd ["value"] (spCopyD K) := by
  refine F.ok sc_copied (fun vs H Q E h => ?_) (fun cdv A' outer s H vs Q E hr h => ?_)
  · obtain ⟨x, d, rfl, _⟩ := h
    rfl
  · obtain ⟨x, d, rfl, hx, sx, k⟩ := h
    refine ⟨_, (pss_cons (ps_if (pt_val (pe_callB call_isi (by rfl) T.n_isinstance (by decide +kernel) (pa_cons (pv 0) (pa_cons (pe_bltn (v := .ty "list") (u := .type "list") rfl T.n_list (by decide +kernel) rfl) pa_nil)))) (pss_one (ps_ret (pe_lc (own := [("part", 1)]) rfl sc_copied.nd (pi_list (pv 0)) (blkOk_by (N := nCop) (sc := defScope s_copied) (by decide +kernel)) (fun _ _ _ _ _ => pg_name (i := 1) sc_copied.nd rfl (Or.inl rfl)) (fun _ _ _ _ _ => pts_nil) (fun _ _ _ _ _ => pe_call G (by exact hr) (by rfl) A.m A.k A.b .nil pass0 (pa_cons (pv 1) pa_nil))))) pss_nil)
      (pss_cons (ps_if (pt_val (pe_callB call_isi (by rfl) T.n_isinstance (by decide +kernel) (pa_cons (pv 0) (pa_cons (pe_bltn (v := .ty "tuple") (u := .type "tuple") rfl T.n_tuple (by decide +kernel) rfl) pa_nil)))) (pss_one (ps_ret (pe_callTy call_tuple_of (by rfl) T.n_tuple (by decide +kernel) (pa_cons (pe_lc (own := [("part", 1)]) rfl sc_copied.nd (pi_tup (pv 0)) (blkOk_by (N := nCop) (sc := defScope s_copied) (by decide +kernel)) (fun _ _ _ _ _ => pg_name (i := 1) sc_copied.nd rfl (Or.inl rfl)) (fun _ _ _ _ _ => pts_nil) (fun _ _ _ _ _ => pe_call G (by exact hr) (by rfl) A.m A.k A.b .nil pass0 (pa_cons (pv 1) pa_nil))) pa_nil)))) pss_nil)
      (pss_cons (ps_if (pt_val (pe_callB call_isi (by rfl) T.n_isinstance (by decide +kernel) (pa_cons (pv 0) (pa_cons (pe_bltn (v := .ty "dict") (u := .type "dict") rfl nD (by decide +kernel) rfl) pa_nil)))) pss_never pss_nil)
      (pss_one (ps_ret (pv 0)))))), ?_⟩
    have z2 : (2 : Nat) < sizeLine := by decide
    cases hx with
    | non =>
      refine ⟨_, rfl, _, _, _, _, false, rfl, .ty _, .base .non, kit_ty (by decide +kernel), _, rfl, iteF ?_⟩
      refine ⟨_, rfl, _, _, _, _, false, rfl, .ty _, .base .non, kit_ty (by decide +kernel), _, rfl, iteF ?_⟩
      refine ⟨_, rfl, _, _, _, _, false, rfl, .ty _, .base .non, kit_ty (by decide +kernel), _, rfl, iteF ?_⟩
      exact ⟨_, rfl, k _ _ (Same.refl H) .non⟩
    | bl b =>
      refine ⟨_, rfl, _, _, _, _, false, rfl, .ty _, .base (.bl _), kit_ty (by decide +kernel), _, rfl, iteF ?_⟩
      refine ⟨_, rfl, _, _, _, _, false, rfl, .ty _, .base (.bl _), kit_ty (by decide +kernel), _, rfl, iteF ?_⟩
      refine ⟨_, rfl, _, _, _, _, false, rfl, .ty _, .base (.bl _), kit_ty (by decide +kernel), _, rfl, iteF ?_⟩
      exact ⟨_, rfl, k _ _ (Same.refl H) (.bl b)⟩
    | int i =>
      refine ⟨_, rfl, _, _, _, _, false, rfl, .ty _, .base (.int _), kit_ty (by decide +kernel), _, rfl, iteF ?_⟩
      refine ⟨_, rfl, _, _, _, _, false, rfl, .ty _, .base (.int _), kit_ty (by decide +kernel), _, rfl, iteF ?_⟩
      refine ⟨_, rfl, _, _, _, _, false, rfl, .ty _, .base (.int _), kit_ty (by decide +kernel), _, rfl, iteF ?_⟩
      exact ⟨_, rfl, k _ _ (Same.refl H) (.int i)⟩
    | str z =>
      refine ⟨_, rfl, _, _, _, _, false, rfl, .ty _, .base (.str _), kit_ty (by decide +kernel), _, rfl, iteF ?_⟩
      refine ⟨_, rfl, _, _, _, _, false, rfl, .ty _, .base (.str _), kit_ty (by decide +kernel), _, rfl, iteF ?_⟩
      refine ⟨_, rfl, _, _, _, _, false, rfl, .ty _, .base (.str _), kit_ty (by decide +kernel), _, rfl, iteF ?_⟩
      exact ⟨_, rfl, k _ _ (Same.refl H) (.str z)⟩
    | @lst a xs ds h kk =>
      obtain ⟨l2, fl⟩ : ds.length ≤ 2 ∧ ∀ x ∈ ds, flatD x = true := by
        rcases sx with z | ⟨es, e | e, l, q⟩
        · cases z
        · cases e; exact ⟨l, q⟩
        · cases e
      have lx := DpAll.len kk
      refine ⟨_, rfl, _, _, _, _, true, rfl, .ty _, ty_list h, kit_ty (by decide +kernel), _, rfl, iteT ?_⟩
      refine ⟨_, rfl, a, rfl, ⟨_, h⟩, fun D hD => ?_⟩
      refine lc_it (walk_list (xs := xs)) (fun i H' => Same H H' ∧ H' D = some (.lst (xs.take i))) ⟨Ask.Same.upd_new (Same.refl _) hD, upd_same⟩ (fun i H' _ hh => hh.1.seq h) ?_ ?_
      · rintro i v H2 H3 hi ⟨s2, hD2⟩ ⟨rfl, hv⟩
        obtain ⟨dv, e1, e2⟩ := DpAll.at kk hv
        have fv := fl _ (List.mem_of_getElem? e1)
        refine ⟨rfl, _, rfl, v, dv, rfl, flat_same e2 fv, fv, _, hD2, ?_, Ask.Same.upd_new s2 hD, ?_⟩
        · rw [List.length_take]; omega
        · rw [upd_same, List.take_add_one, hv]; rfl
      · rintro H2 ⟨s2, hD2⟩
        rw [List.take_length] at hD2
        exact k _ _ s2 (.lst (SqL.of hD2) (DpAll.same s2 kk))
    | @tup a xs ds h kk =>
      obtain ⟨l2, fl⟩ : ds.length ≤ 2 ∧ ∀ x ∈ ds, flatD x = true := by
        rcases sx with z | ⟨es, e | e, l, q⟩
        · cases z
        · cases e
        · cases e; exact ⟨l, q⟩
      have lx := DpAll.len kk
      refine ⟨_, rfl, _, _, _, _, false, rfl, .ty _, ty_tup h, kit_ty (by decide +kernel), _, rfl, iteF ?_⟩
      refine ⟨_, rfl, _, _, _, _, true, rfl, .ty _, ty_tup h, kit_ty (by decide +kernel), _, rfl, iteT ?_⟩
      refine ⟨_, rfl, a, rfl, ⟨_, h⟩, fun D hD => ?_⟩
      refine lc_it (walk_tup (xs := xs)) (fun i H' => Same H H' ∧ H' D = some (.lst (xs.take i))) ⟨Ask.Same.upd_new (Same.refl _) hD, upd_same⟩ (fun i H' _ hh => seqT_same hh.1 h) ?_ ?_
      · rintro i v H2 H3 hi ⟨s2, hD2⟩ ⟨rfl, hv⟩
        obtain ⟨dv, e1, e2⟩ := DpAll.at kk hv
        have fv := fl _ (List.mem_of_getElem? e1)
        refine ⟨rfl, _, rfl, v, dv, rfl, flat_same e2 fv, fv, _, hD2, ?_, Ask.Same.upd_new s2 hD, ?_⟩
        · rw [List.length_take]; omega
        · rw [upd_same, List.take_add_one, hv]; rfl
      · rintro H2 ⟨s2, hD2⟩
        rw [List.take_length] at hD2
        exact ⟨D, _, rfl, .inl ⟨SqL.of hD2, fun t ht => k _ _ (Ask.Same.made1 s2 ht) (.tup (SqT.of upd_same) (DpAll.same (Ask.Same.made1 s2 ht) kk))⟩⟩
end
end Ask

namespace Ask
open PySem L2
/-- all but what is tracked by its object's own word stands -/
def KX (H H' : Hp) : Prop := ∀ b o, (∀ φ, o ≠ .ext φ) → H b = some o → H' b = some o
theorem KX.of {H H' : Hp} (s : Same H H') : KX H H' := fun b o _ e => s b o e
theorem KX.trans {H H1 H2 : Hp} (a : KX H H1) (c : KX H1 H2) : KX H H2 := fun b o n e => c b o n (a b o n e)
theorem KX.new {H : Hp} {a : Addr} {o : HO} (h : H a = none) : KX H (upd H a o) := fun b u _ e => by rw [upd_ne (ne_of_none e h)]; exact e
theorem KX.at {H : Hp} {a : Addr} {o : HO} {φ : Heap → Prop} (h : H a = some (.ext φ)) : KX H (upd H a o) := fun b u n e => by
  have nb : b ≠ a := fun z => by
    rw [z, h] at e
    exact n φ (Option.some.inj e).symm
  rw [upd_ne nb]
  exact e
theorem KX.seqL {K : PySem.W.Frag} {H H' : Hp} {a : Addr} {xs : List V} (k : KX H H') (h : SqL K H a xs) : SqL K H' a xs := by
  rcases h with (h | ⟨o, h⟩) | h
  · exact .inl (.inl (k _ _ (by intro _ z; cases z) h))
  · exact .inl (.inr ⟨o, k _ _ (by intro _ z; cases z) h⟩)
  · exact .inr h
theorem KX.seqT {K : PySem.W.Frag} {H H' : Hp} {a : Addr} {xs : List V} (k : KX H H') (h : SqT K H a xs) : SqT K H' a xs := by
  rcases h with (h | ⟨o, h⟩) | h
  · exact .inl (.inl (k _ _ (by intro _ z; cases z) h))
  · exact .inl (.inr ⟨o, k _ _ (by intro _ z; cases z) h⟩)
  · exact .inr h
mutual
theorem Dp.kx {K : PySem.W.Frag} {H H' : Hp} (s : KX H H') : ∀ {v : V} {d : PyData}, Dp K H v d → Dp K H' v d
  | _, _, .non => .non
  | _, _, .bl b => .bl b
  | _, _, .int i => .int i
  | _, _, .str x => .str x
  | _, _, .lst h k => .lst (s.seqL h) (DpAll.kx s k)
  | _, _, .tup h k => .tup (s.seqT h) (DpAll.kx s k)
theorem DpAll.kx {K : PySem.W.Frag} {H H' : Hp} (s : KX H H') : ∀ {vs : List V} {ds : List PyData}, DpAll K H vs ds → DpAll K H' vs ds
  | _, _, .nil => .nil
  | _, _, .cons h k => .cons (Dp.kx s h) (DpAll.kx s k)
end
/-- the fields of an error, as data -/
def Fl (K : PySem.W.Frag) (H : Hp) (fs : List (Str × V)) (ns : List Str) (ds : List PyData) : Prop := ns.length = ds.length ∧ ∀ (i : Nat) (n : Str) (d : PyData), ns[i]? = some n → ds[i]? = some d → ∃ v, fs.lookup n = some v ∧ Dp K H v d
theorem Fl.kx {K : PySem.W.Frag} {H H' : Hp} {fs : List (Str × V)} {ns : List Str} {ds : List PyData} (h : Fl K H fs ns ds) (k : KX H H') : Fl K H' fs ns ds :=
  ⟨h.1, fun i n d e1 e2 => let ⟨v, a, c⟩ := h.2 i n d e1 e2; ⟨v, a, Dp.kx k c⟩⟩
theorem fl_one {K : PySem.W.Frag} {H : Hp} {n : Str} {v : V} {d : PyData} {fs : List (Str × V)} (e : fs.lookup n = some v) (h : Dp K H v d) : Fl K H fs [n] [d] := by
  refine ⟨rfl, fun i m x e1 e2 => ?_⟩
  match i, e1, e2 with
  | 0, e1, e2 => cases e1; cases e2; exact ⟨v, e, h⟩
  | i + 1, e1, e2 => simp at e1
theorem fl_cons {K : PySem.W.Frag} {H : Hp} {n : Str} {v : V} {d : PyData} {fs : List (Str × V)} {ns : List Str} {ds : List PyData} (e : fs.lookup n = some v) (h : Dp K H v d) (r : Fl K H fs ns ds) : Fl K H fs (n :: ns) (d :: ds) := by
  refine ⟨congrArg Nat.succ r.1, fun i m x e1 e2 => ?_⟩
  match i, e1, e2 with
  | 0, e1, e2 => cases e1; cases e2; exact ⟨v, e, h⟩
  | i + 1, e1, e2 => exact r.2 i m x e1 e2
section
variable {P : Program} {w : World} {K : PySem.W.Frag} {mg : Str → Option Value} {base : Heap}
/-- an error's __init__ -/
def spIni (K : PySem.W.Frag) (C : Addr) (ns : List Str) : Sp := fun vs H Q _ => ∃ (a : Addr) (ws : List V) (ds : List PyData), vs = .ref a :: ws ∧ ws.length = ns.length ∧ DpAll K H ws ds ∧ (∀ d ∈ ds, Smp d) ∧ H a = some (exo a C none) ∧
  ∀ (H' : Hp) (dx : Addr) (fs : List (Str × V)), H dx = none → dx ≠ a → H' a = some (exo a C (some dx)) → H' dx = some (exd dx fs) → Fl K H' fs ns ds → (∀ b o, b ≠ a → H b = some o → H' b = some o) → Q .non H'
abbrev s_BadLetters_init : Stmt := inClass (top 4) 0
theorem sc_BadLetters_init : FnScope ["self", "index"] ["self", "index"] (defScope s_BadLetters_init) := ⟨rfl, rfl, rfl, by decide +kernel, rfl, by decide +kernel, by decide +kernel⟩
theorem ini_BadLetters {f fC C : Addr} {fd fdC : FuncData} (F : Fun K "__init__" "BadLetters.__init__" s_BadLetters_init f fd) (T : OexC K C) (h0 : PySem.W.findIn K (.ref C) "index" = some none)
    (GC : FnOk P w K mg base CX0 2 fC fdC ["value"] (spCopyD K)) (CP : At K mg "copied" fC fdC ["value"]) : FnOk P w K mg base CX0 3 f fd ["self", "index"] (spIni K C ["index"]) := by
  refine F.ok sc_BadLetters_init (fun vs H Q E h => ?_) (fun cdv A outer s H vs Q E hr h => ?_)
  · obtain ⟨a, ws, ds, rfl, l, _⟩ := h
    show ws.length + 1 = _
    rw [l]
    rfl
  · obtain ⟨a, ws, ds, rfl, l, hd, sm, ha, k⟩ := h
    match ws, ds, l, hd, sm with
    | [w0], [d0], _, hd, sm =>
    cases hd with | cons g0 r0 =>
    refine ⟨_, pss_one (ps_ost (pv 0) (pe_call GC hr (by rfl) CP.m CP.k CP.b .nil pass0 (pa_cons (pv 1) pa_nil))), ?_⟩
    refine ⟨_, rfl, w0, d0, rfl, g0, (sm _ (List.mem_cons_self ..)), fun H1 v0 s1 e0 => ⟨_, rfl, a, C, rfl, T, h0, .inl ⟨s1 _ _ ha, fun dx hdx hne => ?_⟩⟩⟩
    have kx : KX H1 (upd (upd H1 dx (exd dx [("index", v0)])) a (exo a C (some dx))) := (KX.new hdx).trans (KX.at (by rw [upd_ne hne.symm]; exact s1 _ _ ha))
    exact k _ dx _ (s1.free hdx) hne upd_same (by rw [upd_ne hne]; exact upd_same) (fl_one rfl (Dp.kx kx e0)) fun b o hb e => by rw [upd_ne hb, upd_ne (ne_of_none (s1 _ _ e) hdx)]; exact s1 _ _ e
abbrev s_BadLetter_init : Stmt := inClass (top 5) 0
theorem sc_BadLetter_init : FnScope ["self", "index"] ["self", "index"] (defScope s_BadLetter_init) := ⟨rfl, rfl, rfl, by decide +kernel, rfl, by decide +kernel, by decide +kernel⟩
theorem ini_BadLetter {f fC C : Addr} {fd fdC : FuncData} (F : Fun K "__init__" "BadLetter.__init__" s_BadLetter_init f fd) (T : OexC K C) (h0 : PySem.W.findIn K (.ref C) "index" = some none)
    (GC : FnOk P w K mg base CX0 2 fC fdC ["value"] (spCopyD K)) (CP : At K mg "copied" fC fdC ["value"]) : FnOk P w K mg base CX0 3 f fd ["self", "index"] (spIni K C ["index"]) := by
  refine F.ok sc_BadLetter_init (fun vs H Q E h => ?_) (fun cdv A outer s H vs Q E hr h => ?_)
  · obtain ⟨a, ws, ds, rfl, l, _⟩ := h
    show ws.length + 1 = _
    rw [l]
    rfl
  · obtain ⟨a, ws, ds, rfl, l, hd, sm, ha, k⟩ := h
    match ws, ds, l, hd, sm with
    | [w0], [d0], _, hd, sm =>
    cases hd with | cons g0 r0 =>
    refine ⟨_, pss_one (ps_ost (pv 0) (pe_call GC hr (by rfl) CP.m CP.k CP.b .nil pass0 (pa_cons (pv 1) pa_nil))), ?_⟩
    refine ⟨_, rfl, w0, d0, rfl, g0, (sm _ (List.mem_cons_self ..)), fun H1 v0 s1 e0 => ⟨_, rfl, a, C, rfl, T, h0, .inl ⟨s1 _ _ ha, fun dx hdx hne => ?_⟩⟩⟩
    have kx : KX H1 (upd (upd H1 dx (exd dx [("index", v0)])) a (exo a C (some dx))) := (KX.new hdx).trans (KX.at (by rw [upd_ne hne.symm]; exact s1 _ _ ha))
    exact k _ dx _ (s1.free hdx) hne upd_same (by rw [upd_ne hne]; exact upd_same) (fl_one rfl (Dp.kx kx e0)) fun b o hb e => by rw [upd_ne hb, upd_ne (ne_of_none (s1 _ _ e) hdx)]; exact s1 _ _ e
abbrev s_BadRuns_init : Stmt := inClass (top 7) 0
theorem sc_BadRuns_init : FnScope ["self", "index"] ["self", "index"] (defScope s_BadRuns_init) := ⟨rfl, rfl, rfl, by decide +kernel, rfl, by decide +kernel, by decide +kernel⟩
theorem ini_BadRuns {f fC C : Addr} {fd fdC : FuncData} (F : Fun K "__init__" "BadRuns.__init__" s_BadRuns_init f fd) (T : OexC K C) (h0 : PySem.W.findIn K (.ref C) "index" = some none)
    (GC : FnOk P w K mg base CX0 2 fC fdC ["value"] (spCopyD K)) (CP : At K mg "copied" fC fdC ["value"]) : FnOk P w K mg base CX0 3 f fd ["self", "index"] (spIni K C ["index"]) := by
  refine F.ok sc_BadRuns_init (fun vs H Q E h => ?_) (fun cdv A outer s H vs Q E hr h => ?_)
  · obtain ⟨a, ws, ds, rfl, l, _⟩ := h
    show ws.length + 1 = _
    rw [l]
    rfl
  · obtain ⟨a, ws, ds, rfl, l, hd, sm, ha, k⟩ := h
    match ws, ds, l, hd, sm with
    | [w0], [d0], _, hd, sm =>
    cases hd with | cons g0 r0 =>
    refine ⟨_, pss_one (ps_ost (pv 0) (pe_call GC hr (by rfl) CP.m CP.k CP.b .nil pass0 (pa_cons (pv 1) pa_nil))), ?_⟩
    refine ⟨_, rfl, w0, d0, rfl, g0, (sm _ (List.mem_cons_self ..)), fun H1 v0 s1 e0 => ⟨_, rfl, a, C, rfl, T, h0, .inl ⟨s1 _ _ ha, fun dx hdx hne => ?_⟩⟩⟩
    have kx : KX H1 (upd (upd H1 dx (exd dx [("index", v0)])) a (exo a C (some dx))) := (KX.new hdx).trans (KX.at (by rw [upd_ne hne.symm]; exact s1 _ _ ha))
    exact k _ dx _ (s1.free hdx) hne upd_same (by rw [upd_ne hne]; exact upd_same) (fl_one rfl (Dp.kx kx e0)) fun b o hb e => by rw [upd_ne hb, upd_ne (ne_of_none (s1 _ _ e) hdx)]; exact s1 _ _ e
abbrev s_BadCount_init : Stmt := inClass (top 8) 0
theorem sc_BadCount_init : FnScope ["self", "index"] ["self", "index"] (defScope s_BadCount_init) := ⟨rfl, rfl, rfl, by decide +kernel, rfl, by decide +kernel, by decide +kernel⟩
theorem ini_BadCount {f fC C : Addr} {fd fdC : FuncData} (F : Fun K "__init__" "BadCount.__init__" s_BadCount_init f fd) (T : OexC K C) (h0 : PySem.W.findIn K (.ref C) "index" = some none)
    (GC : FnOk P w K mg base CX0 2 fC fdC ["value"] (spCopyD K)) (CP : At K mg "copied" fC fdC ["value"]) : FnOk P w K mg base CX0 3 f fd ["self", "index"] (spIni K C ["index"]) := by
  refine F.ok sc_BadCount_init (fun vs H Q E h => ?_) (fun cdv A outer s H vs Q E hr h => ?_)
  · obtain ⟨a, ws, ds, rfl, l, _⟩ := h
    show ws.length + 1 = _
    rw [l]
    rfl
  · obtain ⟨a, ws, ds, rfl, l, hd, sm, ha, k⟩ := h
    match ws, ds, l, hd, sm with
    | [w0], [d0], _, hd, sm =>
    cases hd with | cons g0 r0 =>
    refine ⟨_, pss_one (ps_ost (pv 0) (pe_call GC hr (by rfl) CP.m CP.k CP.b .nil pass0 (pa_cons (pv 1) pa_nil))), ?_⟩
    refine ⟨_, rfl, w0, d0, rfl, g0, (sm _ (List.mem_cons_self ..)), fun H1 v0 s1 e0 => ⟨_, rfl, a, C, rfl, T, h0, .inl ⟨s1 _ _ ha, fun dx hdx hne => ?_⟩⟩⟩
    have kx : KX H1 (upd (upd H1 dx (exd dx [("index", v0)])) a (exo a C (some dx))) := (KX.new hdx).trans (KX.at (by rw [upd_ne hne.symm]; exact s1 _ _ ha))
    exact k _ dx _ (s1.free hdx) hne upd_same (by rw [upd_ne hne]; exact upd_same) (fl_one rfl (Dp.kx kx e0)) fun b o hb e => by rw [upd_ne hb, upd_ne (ne_of_none (s1 _ _ e) hdx)]; exact s1 _ _ e
abbrev s_BadPlace_init : Stmt := inClass (top 9) 0
theorem sc_BadPlace_init : FnScope ["self", "place"] ["self", "place"] (defScope s_BadPlace_init) := ⟨rfl, rfl, rfl, by decide +kernel, rfl, by decide +kernel, by decide +kernel⟩
theorem ini_BadPlace {f fC C : Addr} {fd fdC : FuncData} (F : Fun K "__init__" "BadPlace.__init__" s_BadPlace_init f fd) (T : OexC K C) (h0 : PySem.W.findIn K (.ref C) "place" = some none)
    (GC : FnOk P w K mg base CX0 2 fC fdC ["value"] (spCopyD K)) (CP : At K mg "copied" fC fdC ["value"]) : FnOk P w K mg base CX0 3 f fd ["self", "place"] (spIni K C ["place"]) := by
  refine F.ok sc_BadPlace_init (fun vs H Q E h => ?_) (fun cdv A outer s H vs Q E hr h => ?_)
  · obtain ⟨a, ws, ds, rfl, l, _⟩ := h
    show ws.length + 1 = _
    rw [l]
    rfl
  · obtain ⟨a, ws, ds, rfl, l, hd, sm, ha, k⟩ := h
    match ws, ds, l, hd, sm with
    | [w0], [d0], _, hd, sm =>
    cases hd with | cons g0 r0 =>
    refine ⟨_, pss_one (ps_ost (pv 0) (pe_call GC hr (by rfl) CP.m CP.k CP.b .nil pass0 (pa_cons (pv 1) pa_nil))), ?_⟩
    refine ⟨_, rfl, w0, d0, rfl, g0, (sm _ (List.mem_cons_self ..)), fun H1 v0 s1 e0 => ⟨_, rfl, a, C, rfl, T, h0, .inl ⟨s1 _ _ ha, fun dx hdx hne => ?_⟩⟩⟩
    have kx : KX H1 (upd (upd H1 dx (exd dx [("place", v0)])) a (exo a C (some dx))) := (KX.new hdx).trans (KX.at (by rw [upd_ne hne.symm]; exact s1 _ _ ha))
    exact k _ dx _ (s1.free hdx) hne upd_same (by rw [upd_ne hne]; exact upd_same) (fl_one rfl (Dp.kx kx e0)) fun b o hb e => by rw [upd_ne hb, upd_ne (ne_of_none (s1 _ _ e) hdx)]; exact s1 _ _ e
abbrev s_BadAnswers_init : Stmt := inClass (top 12) 0
theorem sc_BadAnswers_init : FnScope ["self", "index"] ["self", "index"] (defScope s_BadAnswers_init) := ⟨rfl, rfl, rfl, by decide +kernel, rfl, by decide +kernel, by decide +kernel⟩
theorem ini_BadAnswers {f fC C : Addr} {fd fdC : FuncData} (F : Fun K "__init__" "BadAnswers.__init__" s_BadAnswers_init f fd) (T : OexC K C) (h0 : PySem.W.findIn K (.ref C) "index" = some none)
    (GC : FnOk P w K mg base CX0 2 fC fdC ["value"] (spCopyD K)) (CP : At K mg "copied" fC fdC ["value"]) : FnOk P w K mg base CX0 3 f fd ["self", "index"] (spIni K C ["index"]) := by
  refine F.ok sc_BadAnswers_init (fun vs H Q E h => ?_) (fun cdv A outer s H vs Q E hr h => ?_)
  · obtain ⟨a, ws, ds, rfl, l, _⟩ := h
    show ws.length + 1 = _
    rw [l]
    rfl
  · obtain ⟨a, ws, ds, rfl, l, hd, sm, ha, k⟩ := h
    match ws, ds, l, hd, sm with
    | [w0], [d0], _, hd, sm =>
    cases hd with | cons g0 r0 =>
    refine ⟨_, pss_one (ps_ost (pv 0) (pe_call GC hr (by rfl) CP.m CP.k CP.b .nil pass0 (pa_cons (pv 1) pa_nil))), ?_⟩
    refine ⟨_, rfl, w0, d0, rfl, g0, (sm _ (List.mem_cons_self ..)), fun H1 v0 s1 e0 => ⟨_, rfl, a, C, rfl, T, h0, .inl ⟨s1 _ _ ha, fun dx hdx hne => ?_⟩⟩⟩
    have kx : KX H1 (upd (upd H1 dx (exd dx [("index", v0)])) a (exo a C (some dx))) := (KX.new hdx).trans (KX.at (by rw [upd_ne hne.symm]; exact s1 _ _ ha))
    exact k _ dx _ (s1.free hdx) hne upd_same (by rw [upd_ne hne]; exact upd_same) (fl_one rfl (Dp.kx kx e0)) fun b o hb e => by rw [upd_ne hb, upd_ne (ne_of_none (s1 _ _ e) hdx)]; exact s1 _ _ e
abbrev s_BadTold_init : Stmt := inClass (top 13) 0
theorem sc_BadTold_init : FnScope ["self", "index"] ["self", "index"] (defScope s_BadTold_init) := ⟨rfl, rfl, rfl, by decide +kernel, rfl, by decide +kernel, by decide +kernel⟩
theorem ini_BadTold {f fC C : Addr} {fd fdC : FuncData} (F : Fun K "__init__" "BadTold.__init__" s_BadTold_init f fd) (T : OexC K C) (h0 : PySem.W.findIn K (.ref C) "index" = some none)
    (GC : FnOk P w K mg base CX0 2 fC fdC ["value"] (spCopyD K)) (CP : At K mg "copied" fC fdC ["value"]) : FnOk P w K mg base CX0 3 f fd ["self", "index"] (spIni K C ["index"]) := by
  refine F.ok sc_BadTold_init (fun vs H Q E h => ?_) (fun cdv A outer s H vs Q E hr h => ?_)
  · obtain ⟨a, ws, ds, rfl, l, _⟩ := h
    show ws.length + 1 = _
    rw [l]
    rfl
  · obtain ⟨a, ws, ds, rfl, l, hd, sm, ha, k⟩ := h
    match ws, ds, l, hd, sm with
    | [w0], [d0], _, hd, sm =>
    cases hd with | cons g0 r0 =>
    refine ⟨_, pss_one (ps_ost (pv 0) (pe_call GC hr (by rfl) CP.m CP.k CP.b .nil pass0 (pa_cons (pv 1) pa_nil))), ?_⟩
    refine ⟨_, rfl, w0, d0, rfl, g0, (sm _ (List.mem_cons_self ..)), fun H1 v0 s1 e0 => ⟨_, rfl, a, C, rfl, T, h0, .inl ⟨s1 _ _ ha, fun dx hdx hne => ?_⟩⟩⟩
    have kx : KX H1 (upd (upd H1 dx (exd dx [("index", v0)])) a (exo a C (some dx))) := (KX.new hdx).trans (KX.at (by rw [upd_ne hne.symm]; exact s1 _ _ ha))
    exact k _ dx _ (s1.free hdx) hne upd_same (by rw [upd_ne hne]; exact upd_same) (fl_one rfl (Dp.kx kx e0)) fun b o hb e => by rw [upd_ne hb, upd_ne (ne_of_none (s1 _ _ e) hdx)]; exact s1 _ _ e
abbrev s_BadStep_init : Stmt := inClass (top 14) 0
theorem sc_BadStep_init : FnScope ["self", "index"] ["self", "index"] (defScope s_BadStep_init) := ⟨rfl, rfl, rfl, by decide +kernel, rfl, by decide +kernel, by decide +kernel⟩
theorem ini_BadStep {f fC C : Addr} {fd fdC : FuncData} (F : Fun K "__init__" "BadStep.__init__" s_BadStep_init f fd) (T : OexC K C) (h0 : PySem.W.findIn K (.ref C) "index" = some none)
    (GC : FnOk P w K mg base CX0 2 fC fdC ["value"] (spCopyD K)) (CP : At K mg "copied" fC fdC ["value"]) : FnOk P w K mg base CX0 3 f fd ["self", "index"] (spIni K C ["index"]) := by
  refine F.ok sc_BadStep_init (fun vs H Q E h => ?_) (fun cdv A outer s H vs Q E hr h => ?_)
  · obtain ⟨a, ws, ds, rfl, l, _⟩ := h
    show ws.length + 1 = _
    rw [l]
    rfl
  · obtain ⟨a, ws, ds, rfl, l, hd, sm, ha, k⟩ := h
    match ws, ds, l, hd, sm with
    | [w0], [d0], _, hd, sm =>
    cases hd with | cons g0 r0 =>
    refine ⟨_, pss_one (ps_ost (pv 0) (pe_call GC hr (by rfl) CP.m CP.k CP.b .nil pass0 (pa_cons (pv 1) pa_nil))), ?_⟩
    refine ⟨_, rfl, w0, d0, rfl, g0, (sm _ (List.mem_cons_self ..)), fun H1 v0 s1 e0 => ⟨_, rfl, a, C, rfl, T, h0, .inl ⟨s1 _ _ ha, fun dx hdx hne => ?_⟩⟩⟩
    have kx : KX H1 (upd (upd H1 dx (exd dx [("index", v0)])) a (exo a C (some dx))) := (KX.new hdx).trans (KX.at (by rw [upd_ne hne.symm]; exact s1 _ _ ha))
    exact k _ dx _ (s1.free hdx) hne upd_same (by rw [upd_ne hne]; exact upd_same) (fl_one rfl (Dp.kx kx e0)) fun b o hb e => by rw [upd_ne hb, upd_ne (ne_of_none (s1 _ _ e) hdx)]; exact s1 _ _ e
abbrev s_NotLive_init : Stmt := inClass (top 15) 0
theorem sc_NotLive_init : FnScope ["self", "index"] ["self", "index"] (defScope s_NotLive_init) := ⟨rfl, rfl, rfl, by decide +kernel, rfl, by decide +kernel, by decide +kernel⟩
theorem ini_NotLive {f fC C : Addr} {fd fdC : FuncData} (F : Fun K "__init__" "NotLive.__init__" s_NotLive_init f fd) (T : OexC K C) (h0 : PySem.W.findIn K (.ref C) "index" = some none)
    (GC : FnOk P w K mg base CX0 2 fC fdC ["value"] (spCopyD K)) (CP : At K mg "copied" fC fdC ["value"]) : FnOk P w K mg base CX0 3 f fd ["self", "index"] (spIni K C ["index"]) := by
  refine F.ok sc_NotLive_init (fun vs H Q E h => ?_) (fun cdv A outer s H vs Q E hr h => ?_)
  · obtain ⟨a, ws, ds, rfl, l, _⟩ := h
    show ws.length + 1 = _
    rw [l]
    rfl
  · obtain ⟨a, ws, ds, rfl, l, hd, sm, ha, k⟩ := h
    match ws, ds, l, hd, sm with
    | [w0], [d0], _, hd, sm =>
    cases hd with | cons g0 r0 =>
    refine ⟨_, pss_one (ps_ost (pv 0) (pe_call GC hr (by rfl) CP.m CP.k CP.b .nil pass0 (pa_cons (pv 1) pa_nil))), ?_⟩
    refine ⟨_, rfl, w0, d0, rfl, g0, (sm _ (List.mem_cons_self ..)), fun H1 v0 s1 e0 => ⟨_, rfl, a, C, rfl, T, h0, .inl ⟨s1 _ _ ha, fun dx hdx hne => ?_⟩⟩⟩
    have kx : KX H1 (upd (upd H1 dx (exd dx [("index", v0)])) a (exo a C (some dx))) := (KX.new hdx).trans (KX.at (by rw [upd_ne hne.symm]; exact s1 _ _ ha))
    exact k _ dx _ (s1.free hdx) hne upd_same (by rw [upd_ne hne]; exact upd_same) (fl_one rfl (Dp.kx kx e0)) fun b o hb e => by rw [upd_ne hb, upd_ne (ne_of_none (s1 _ _ e) hdx)]; exact s1 _ _ e
abbrev s_TooLong_init : Stmt := inClass (top 17) 0
theorem sc_TooLong_init : FnScope ["self", "size"] ["self", "size"] (defScope s_TooLong_init) := ⟨rfl, rfl, rfl, by decide +kernel, rfl, by decide +kernel, by decide +kernel⟩
theorem ini_TooLong {f fC C : Addr} {fd fdC : FuncData} (F : Fun K "__init__" "TooLong.__init__" s_TooLong_init f fd) (T : OexC K C) (h0 : PySem.W.findIn K (.ref C) "size" = some none)
    (GC : FnOk P w K mg base CX0 2 fC fdC ["value"] (spCopyD K)) (CP : At K mg "copied" fC fdC ["value"]) : FnOk P w K mg base CX0 3 f fd ["self", "size"] (spIni K C ["size"]) := by
  refine F.ok sc_TooLong_init (fun vs H Q E h => ?_) (fun cdv A outer s H vs Q E hr h => ?_)
  · obtain ⟨a, ws, ds, rfl, l, _⟩ := h
    show ws.length + 1 = _
    rw [l]
    rfl
  · obtain ⟨a, ws, ds, rfl, l, hd, sm, ha, k⟩ := h
    match ws, ds, l, hd, sm with
    | [w0], [d0], _, hd, sm =>
    cases hd with | cons g0 r0 =>
    refine ⟨_, pss_one (ps_ost (pv 0) (pe_call GC hr (by rfl) CP.m CP.k CP.b .nil pass0 (pa_cons (pv 1) pa_nil))), ?_⟩
    refine ⟨_, rfl, w0, d0, rfl, g0, (sm _ (List.mem_cons_self ..)), fun H1 v0 s1 e0 => ⟨_, rfl, a, C, rfl, T, h0, .inl ⟨s1 _ _ ha, fun dx hdx hne => ?_⟩⟩⟩
    have kx : KX H1 (upd (upd H1 dx (exd dx [("size", v0)])) a (exo a C (some dx))) := (KX.new hdx).trans (KX.at (by rw [upd_ne hne.symm]; exact s1 _ _ ha))
    exact k _ dx _ (s1.free hdx) hne upd_same (by rw [upd_ne hne]; exact upd_same) (fl_one rfl (Dp.kx kx e0)) fun b o hb e => by rw [upd_ne hb, upd_ne (ne_of_none (s1 _ _ e) hdx)]; exact s1 _ _ e
abbrev s_TooMany_init : Stmt := inClass (top 18) 0
theorem sc_TooMany_init : FnScope ["self", "what", "many", "most"] ["self", "what", "many", "most"] (defScope s_TooMany_init) := ⟨rfl, rfl, rfl, by decide +kernel, rfl, by decide +kernel, by decide +kernel⟩
theorem ini_TooMany {f fC C : Addr} {fd fdC : FuncData} (F : Fun K "__init__" "TooMany.__init__" s_TooMany_init f fd) (T : OexC K C) (h0 : PySem.W.findIn K (.ref C) "what" = some none) (h1 : PySem.W.findIn K (.ref C) "many" = some none) (h2 : PySem.W.findIn K (.ref C) "most" = some none)
    (GC : FnOk P w K mg base CX0 2 fC fdC ["value"] (spCopyD K)) (CP : At K mg "copied" fC fdC ["value"]) : FnOk P w K mg base CX0 3 f fd ["self", "what", "many", "most"] (spIni K C ["what", "many", "most"]) := by
  refine F.ok sc_TooMany_init (fun vs H Q E h => ?_) (fun cdv A outer s H vs Q E hr h => ?_)
  · obtain ⟨a, ws, ds, rfl, l, _⟩ := h
    show ws.length + 1 = _
    rw [l]
    rfl
  · obtain ⟨a, ws, ds, rfl, l, hd, sm, ha, k⟩ := h
    match ws, ds, l, hd, sm with
    | [w0, w1, w2], [d0, d1, d2], _, hd, sm =>
    cases hd with | cons g0 r0 =>
    cases r0 with | cons g1 r1 =>
    cases r1 with | cons g2 r2 =>
    refine ⟨_, pss_cons (ps_ost (pv 0) (pe_call GC hr (by rfl) CP.m CP.k CP.b .nil pass0 (pa_cons (pv 1) pa_nil))) (pss_cons (ps_ost (pv 0) (pe_call GC hr (by rfl) CP.m CP.k CP.b .nil pass0 (pa_cons (pv 2) pa_nil))) (pss_one (ps_ost (pv 0) (pe_call GC hr (by rfl) CP.m CP.k CP.b .nil pass0 (pa_cons (pv 3) pa_nil))))), ?_⟩
    refine ⟨_, rfl, w0, d0, rfl, g0, (sm _ (List.mem_cons_self ..)), fun H1 v0 s1 e0 => ⟨_, rfl, a, C, rfl, T, h0, .inl ⟨s1 _ _ ha, fun dx hdx hne => ?_⟩⟩⟩
    have kx : KX H1 (upd (upd H1 dx (exd dx [("what", v0)])) a (exo a C (some dx))) := (KX.new hdx).trans (KX.at (by rw [upd_ne hne.symm]; exact s1 _ _ ha))
    have q1 : upd (upd H1 dx (exd dx [("what", v0)])) a (exo a C (some dx)) a = some (exo a C (some dx)) := upd_same
    have q2 : upd (upd H1 dx (exd dx [("what", v0)])) a (exo a C (some dx)) dx = some (exd dx [("what", v0)]) := by rw [upd_ne hne]; exact upd_same
    have kb : ∀ b o, b ≠ a → H b = some o → upd (upd H1 dx (exd dx [("what", v0)])) a (exo a C (some dx)) b = some o := fun b o hb e => by rw [upd_ne hb, upd_ne (ne_of_none (s1 _ _ e) hdx)]; exact s1 _ _ e
    replace e0 := Dp.kx kx e0
    have kH := (KX.of s1).trans kx
    have hdx0 := s1.free hdx
    generalize upd (upd H1 dx (exd dx [("what", v0)])) a (exo a C (some dx)) = H2 at q1 q2 kb e0 kH ⊢
    clear kx
    refine ⟨_, rfl, w1, d1, rfl, Dp.kx kH g1, (sm _ (List.mem_cons_of_mem _ (List.mem_cons_self ..))), fun H3 v1 s2 e1 => ⟨_, rfl, a, C, rfl, T, h1, .inr ⟨dx, _, s2 _ _ q1, s2 _ _ q2, by show 1 ≤ 900; decide, ?_⟩⟩⟩
    have ky := KX.at (o := exd dx (("many", v1) :: ("what", v0) :: [])) (s2 _ _ q2)
    replace q1 : upd H3 dx (exd dx (("many", v1) :: ("what", v0) :: [])) a = some (exo a C (some dx)) := by rw [upd_ne hne.symm]; exact s2 _ _ q1
    replace q2 : upd H3 dx (exd dx (("many", v1) :: ("what", v0) :: [])) dx = some _ := upd_same
    replace kb : ∀ b o, b ≠ a → H b = some o → upd H3 dx (exd dx (("many", v1) :: ("what", v0) :: [])) b = some o := fun b o hb e => by rw [upd_ne (ne_of_none e hdx0)]; exact s2 _ _ (kb b o hb e)
    replace e0 := Dp.kx ((KX.of s2).trans ky) e0
    replace e1 := Dp.kx ky e1
    replace kH := kH.trans ((KX.of s2).trans ky)
    generalize upd H3 dx (exd dx (("many", v1) :: ("what", v0) :: [])) = H4 at q1 q2 kb kH e0 e1 ⊢
    clear ky
    refine ⟨_, rfl, w2, d2, rfl, Dp.kx kH g2, (sm _ (List.mem_cons_of_mem _ (List.mem_cons_of_mem _ (List.mem_cons_self ..)))), fun H5 v2 s3 e2 => ⟨_, rfl, a, C, rfl, T, h2, .inr ⟨dx, _, s3 _ _ q1, s3 _ _ q2, by show 2 ≤ 900; decide, ?_⟩⟩⟩
    have ky := KX.at (o := exd dx (("most", v2) :: ("many", v1) :: ("what", v0) :: [])) (s3 _ _ q2)
    replace q1 : upd H5 dx (exd dx (("most", v2) :: ("many", v1) :: ("what", v0) :: [])) a = some (exo a C (some dx)) := by rw [upd_ne hne.symm]; exact s3 _ _ q1
    replace q2 : upd H5 dx (exd dx (("most", v2) :: ("many", v1) :: ("what", v0) :: [])) dx = some _ := upd_same
    replace kb : ∀ b o, b ≠ a → H b = some o → upd H5 dx (exd dx (("most", v2) :: ("many", v1) :: ("what", v0) :: [])) b = some o := fun b o hb e => by rw [upd_ne (ne_of_none e hdx0)]; exact s3 _ _ (kb b o hb e)
    replace e0 := Dp.kx ((KX.of s3).trans ky) e0
    replace e1 := Dp.kx ((KX.of s3).trans ky) e1
    replace e2 := Dp.kx ky e2
    replace kH := kH.trans ((KX.of s3).trans ky)
    generalize upd H5 dx (exd dx (("most", v2) :: ("many", v1) :: ("what", v0) :: [])) = H6 at q1 q2 kb kH e0 e1 e2 ⊢
    clear ky
    exact k _ dx _ hdx0 hne q1 q2 (fl_cons rfl e0 (fl_cons rfl e1 (fl_one rfl e2))) kb
abbrev s_BadRow_init : Stmt := inClass (top 19) 0
theorem sc_BadRow_init : FnScope ["self", "index"] ["self", "index"] (defScope s_BadRow_init) := ⟨rfl, rfl, rfl, by decide +kernel, rfl, by decide +kernel, by decide +kernel⟩
theorem ini_BadRow {f fC C : Addr} {fd fdC : FuncData} (F : Fun K "__init__" "BadRow.__init__" s_BadRow_init f fd) (T : OexC K C) (h0 : PySem.W.findIn K (.ref C) "index" = some none)
    (GC : FnOk P w K mg base CX0 2 fC fdC ["value"] (spCopyD K)) (CP : At K mg "copied" fC fdC ["value"]) : FnOk P w K mg base CX0 3 f fd ["self", "index"] (spIni K C ["index"]) := by
  refine F.ok sc_BadRow_init (fun vs H Q E h => ?_) (fun cdv A outer s H vs Q E hr h => ?_)
  · obtain ⟨a, ws, ds, rfl, l, _⟩ := h
    show ws.length + 1 = _
    rw [l]
    rfl
  · obtain ⟨a, ws, ds, rfl, l, hd, sm, ha, k⟩ := h
    match ws, ds, l, hd, sm with
    | [w0], [d0], _, hd, sm =>
    cases hd with | cons g0 r0 =>
    refine ⟨_, pss_one (ps_ost (pv 0) (pe_call GC hr (by rfl) CP.m CP.k CP.b .nil pass0 (pa_cons (pv 1) pa_nil))), ?_⟩
    refine ⟨_, rfl, w0, d0, rfl, g0, (sm _ (List.mem_cons_self ..)), fun H1 v0 s1 e0 => ⟨_, rfl, a, C, rfl, T, h0, .inl ⟨s1 _ _ ha, fun dx hdx hne => ?_⟩⟩⟩
    have kx : KX H1 (upd (upd H1 dx (exd dx [("index", v0)])) a (exo a C (some dx))) := (KX.new hdx).trans (KX.at (by rw [upd_ne hne.symm]; exact s1 _ _ ha))
    exact k _ dx _ (s1.free hdx) hne upd_same (by rw [upd_ne hne]; exact upd_same) (fl_one rfl (Dp.kx kx e0)) fun b o hb e => by rw [upd_ne hb, upd_ne (ne_of_none (s1 _ _ e) hdx)]; exact s1 _ _ e
abbrev s_TwiceTold_init : Stmt := inClass (top 20) 0
theorem sc_TwiceTold_init : FnScope ["self", "index"] ["self", "index"] (defScope s_TwiceTold_init) := ⟨rfl, rfl, rfl, by decide +kernel, rfl, by decide +kernel, by decide +kernel⟩
theorem ini_TwiceTold {f fC C : Addr} {fd fdC : FuncData} (F : Fun K "__init__" "TwiceTold.__init__" s_TwiceTold_init f fd) (T : OexC K C) (h0 : PySem.W.findIn K (.ref C) "index" = some none)
    (GC : FnOk P w K mg base CX0 2 fC fdC ["value"] (spCopyD K)) (CP : At K mg "copied" fC fdC ["value"]) : FnOk P w K mg base CX0 3 f fd ["self", "index"] (spIni K C ["index"]) := by
  refine F.ok sc_TwiceTold_init (fun vs H Q E h => ?_) (fun cdv A outer s H vs Q E hr h => ?_)
  · obtain ⟨a, ws, ds, rfl, l, _⟩ := h
    show ws.length + 1 = _
    rw [l]
    rfl
  · obtain ⟨a, ws, ds, rfl, l, hd, sm, ha, k⟩ := h
    match ws, ds, l, hd, sm with
    | [w0], [d0], _, hd, sm =>
    cases hd with | cons g0 r0 =>
    refine ⟨_, pss_one (ps_ost (pv 0) (pe_call GC hr (by rfl) CP.m CP.k CP.b .nil pass0 (pa_cons (pv 1) pa_nil))), ?_⟩
    refine ⟨_, rfl, w0, d0, rfl, g0, (sm _ (List.mem_cons_self ..)), fun H1 v0 s1 e0 => ⟨_, rfl, a, C, rfl, T, h0, .inl ⟨s1 _ _ ha, fun dx hdx hne => ?_⟩⟩⟩
    have kx : KX H1 (upd (upd H1 dx (exd dx [("index", v0)])) a (exo a C (some dx))) := (KX.new hdx).trans (KX.at (by rw [upd_ne hne.symm]; exact s1 _ _ ha))
    exact k _ dx _ (s1.free hdx) hne upd_same (by rw [upd_ne hne]; exact upd_same) (fl_one rfl (Dp.kx kx e0)) fun b o hb e => by rw [upd_ne hb, upd_ne (ne_of_none (s1 _ _ e) hdx)]; exact s1 _ _ e
abbrev s_BadEnd_init : Stmt := inClass (top 21) 0
theorem sc_BadEnd_init : FnScope ["self", "index"] ["self", "index"] (defScope s_BadEnd_init) := ⟨rfl, rfl, rfl, by decide +kernel, rfl, by decide +kernel, by decide +kernel⟩
theorem ini_BadEnd {f fC C : Addr} {fd fdC : FuncData} (F : Fun K "__init__" "BadEnd.__init__" s_BadEnd_init f fd) (T : OexC K C) (h0 : PySem.W.findIn K (.ref C) "index" = some none)
    (GC : FnOk P w K mg base CX0 2 fC fdC ["value"] (spCopyD K)) (CP : At K mg "copied" fC fdC ["value"]) : FnOk P w K mg base CX0 3 f fd ["self", "index"] (spIni K C ["index"]) := by
  refine F.ok sc_BadEnd_init (fun vs H Q E h => ?_) (fun cdv A outer s H vs Q E hr h => ?_)
  · obtain ⟨a, ws, ds, rfl, l, _⟩ := h
    show ws.length + 1 = _
    rw [l]
    rfl
  · obtain ⟨a, ws, ds, rfl, l, hd, sm, ha, k⟩ := h
    match ws, ds, l, hd, sm with
    | [w0], [d0], _, hd, sm =>
    cases hd with | cons g0 r0 =>
    refine ⟨_, pss_one (ps_ost (pv 0) (pe_call GC hr (by rfl) CP.m CP.k CP.b .nil pass0 (pa_cons (pv 1) pa_nil))), ?_⟩
    refine ⟨_, rfl, w0, d0, rfl, g0, (sm _ (List.mem_cons_self ..)), fun H1 v0 s1 e0 => ⟨_, rfl, a, C, rfl, T, h0, .inl ⟨s1 _ _ ha, fun dx hdx hne => ?_⟩⟩⟩
    have kx : KX H1 (upd (upd H1 dx (exd dx [("index", v0)])) a (exo a C (some dx))) := (KX.new hdx).trans (KX.at (by rw [upd_ne hne.symm]; exact s1 _ _ ha))
    exact k _ dx _ (s1.free hdx) hne upd_same (by rw [upd_ne hne]; exact upd_same) (fl_one rfl (Dp.kx kx e0)) fun b o hb e => by rw [upd_ne hb, upd_ne (ne_of_none (s1 _ _ e) hdx)]; exact s1 _ _ e
abbrev s_BadNumber_init : Stmt := inClass (top 22) 0
theorem sc_BadNumber_init : FnScope ["self", "number"] ["self", "number"] (defScope s_BadNumber_init) := ⟨rfl, rfl, rfl, by decide +kernel, rfl, by decide +kernel, by decide +kernel⟩
theorem ini_BadNumber {f fC C : Addr} {fd fdC : FuncData} (F : Fun K "__init__" "BadNumber.__init__" s_BadNumber_init f fd) (T : OexC K C) (h0 : PySem.W.findIn K (.ref C) "number" = some none)
    (GC : FnOk P w K mg base CX0 2 fC fdC ["value"] (spCopyD K)) (CP : At K mg "copied" fC fdC ["value"]) : FnOk P w K mg base CX0 3 f fd ["self", "number"] (spIni K C ["number"]) := by
  refine F.ok sc_BadNumber_init (fun vs H Q E h => ?_) (fun cdv A outer s H vs Q E hr h => ?_)
  · obtain ⟨a, ws, ds, rfl, l, _⟩ := h
    show ws.length + 1 = _
    rw [l]
    rfl
  · obtain ⟨a, ws, ds, rfl, l, hd, sm, ha, k⟩ := h
    match ws, ds, l, hd, sm with
    | [w0], [d0], _, hd, sm =>
    cases hd with | cons g0 r0 =>
    refine ⟨_, pss_one (ps_ost (pv 0) (pe_call GC hr (by rfl) CP.m CP.k CP.b .nil pass0 (pa_cons (pv 1) pa_nil))), ?_⟩
    refine ⟨_, rfl, w0, d0, rfl, g0, (sm _ (List.mem_cons_self ..)), fun H1 v0 s1 e0 => ⟨_, rfl, a, C, rfl, T, h0, .inl ⟨s1 _ _ ha, fun dx hdx hne => ?_⟩⟩⟩
    have kx : KX H1 (upd (upd H1 dx (exd dx [("number", v0)])) a (exo a C (some dx))) := (KX.new hdx).trans (KX.at (by rw [upd_ne hne.symm]; exact s1 _ _ ha))
    exact k _ dx _ (s1.free hdx) hne upd_same (by rw [upd_ne hne]; exact upd_same) (fl_one rfl (Dp.kx kx e0)) fun b o hb e => by rw [upd_ne hb, upd_ne (ne_of_none (s1 _ _ e) hdx)]; exact s1 _ _ e
abbrev s_BadMenu_init : Stmt := inClass (top 23) 0
theorem sc_BadMenu_init : FnScope ["self", "index"] ["self", "index"] (defScope s_BadMenu_init) := ⟨rfl, rfl, rfl, by decide +kernel, rfl, by decide +kernel, by decide +kernel⟩
theorem ini_BadMenu {f fC C : Addr} {fd fdC : FuncData} (F : Fun K "__init__" "BadMenu.__init__" s_BadMenu_init f fd) (T : OexC K C) (h0 : PySem.W.findIn K (.ref C) "index" = some none)
    (GC : FnOk P w K mg base CX0 2 fC fdC ["value"] (spCopyD K)) (CP : At K mg "copied" fC fdC ["value"]) : FnOk P w K mg base CX0 3 f fd ["self", "index"] (spIni K C ["index"]) := by
  refine F.ok sc_BadMenu_init (fun vs H Q E h => ?_) (fun cdv A outer s H vs Q E hr h => ?_)
  · obtain ⟨a, ws, ds, rfl, l, _⟩ := h
    show ws.length + 1 = _
    rw [l]
    rfl
  · obtain ⟨a, ws, ds, rfl, l, hd, sm, ha, k⟩ := h
    match ws, ds, l, hd, sm with
    | [w0], [d0], _, hd, sm =>
    cases hd with | cons g0 r0 =>
    refine ⟨_, pss_one (ps_ost (pv 0) (pe_call GC hr (by rfl) CP.m CP.k CP.b .nil pass0 (pa_cons (pv 1) pa_nil))), ?_⟩
    refine ⟨_, rfl, w0, d0, rfl, g0, (sm _ (List.mem_cons_self ..)), fun H1 v0 s1 e0 => ⟨_, rfl, a, C, rfl, T, h0, .inl ⟨s1 _ _ ha, fun dx hdx hne => ?_⟩⟩⟩
    have kx : KX H1 (upd (upd H1 dx (exd dx [("index", v0)])) a (exo a C (some dx))) := (KX.new hdx).trans (KX.at (by rw [upd_ne hne.symm]; exact s1 _ _ ha))
    exact k _ dx _ (s1.free hdx) hne upd_same (by rw [upd_ne hne]; exact upd_same) (fl_one rfl (Dp.kx kx e0)) fun b o hb e => by rw [upd_ne hb, upd_ne (ne_of_none (s1 _ _ e) hdx)]; exact s1 _ _ e
abbrev s_BadState_init : Stmt := inClass (top 24) 0
theorem sc_BadState_init : FnScope ["self", "index"] ["self", "index"] (defScope s_BadState_init) := ⟨rfl, rfl, rfl, by decide +kernel, rfl, by decide +kernel, by decide +kernel⟩
theorem ini_BadState {f fC C : Addr} {fd fdC : FuncData} (F : Fun K "__init__" "BadState.__init__" s_BadState_init f fd) (T : OexC K C) (h0 : PySem.W.findIn K (.ref C) "index" = some none)
    (GC : FnOk P w K mg base CX0 2 fC fdC ["value"] (spCopyD K)) (CP : At K mg "copied" fC fdC ["value"]) : FnOk P w K mg base CX0 3 f fd ["self", "index"] (spIni K C ["index"]) := by
  refine F.ok sc_BadState_init (fun vs H Q E h => ?_) (fun cdv A outer s H vs Q E hr h => ?_)
  · obtain ⟨a, ws, ds, rfl, l, _⟩ := h
    show ws.length + 1 = _
    rw [l]
    rfl
  · obtain ⟨a, ws, ds, rfl, l, hd, sm, ha, k⟩ := h
    match ws, ds, l, hd, sm with
    | [w0], [d0], _, hd, sm =>
    cases hd with | cons g0 r0 =>
    refine ⟨_, pss_one (ps_ost (pv 0) (pe_call GC hr (by rfl) CP.m CP.k CP.b .nil pass0 (pa_cons (pv 1) pa_nil))), ?_⟩
    refine ⟨_, rfl, w0, d0, rfl, g0, (sm _ (List.mem_cons_self ..)), fun H1 v0 s1 e0 => ⟨_, rfl, a, C, rfl, T, h0, .inl ⟨s1 _ _ ha, fun dx hdx hne => ?_⟩⟩⟩
    have kx : KX H1 (upd (upd H1 dx (exd dx [("index", v0)])) a (exo a C (some dx))) := (KX.new hdx).trans (KX.at (by rw [upd_ne hne.symm]; exact s1 _ _ ha))
    exact k _ dx _ (s1.free hdx) hne upd_same (by rw [upd_ne hne]; exact upd_same) (fl_one rfl (Dp.kx kx e0)) fun b o hb e => by rw [upd_ne hb, upd_ne (ne_of_none (s1 _ _ e) hdx)]; exact s1 _ _ e
abbrev s_Uneven_init : Stmt := inClass (top 25) 0
theorem sc_Uneven_init : FnScope ["self", "have", "want"] ["self", "have", "want"] (defScope s_Uneven_init) := ⟨rfl, rfl, rfl, by decide +kernel, rfl, by decide +kernel, by decide +kernel⟩
theorem ini_Uneven {f fC C : Addr} {fd fdC : FuncData} (F : Fun K "__init__" "Uneven.__init__" s_Uneven_init f fd) (T : OexC K C) (h0 : PySem.W.findIn K (.ref C) "have" = some none) (h1 : PySem.W.findIn K (.ref C) "want" = some none)
    (GC : FnOk P w K mg base CX0 2 fC fdC ["value"] (spCopyD K)) (CP : At K mg "copied" fC fdC ["value"]) : FnOk P w K mg base CX0 3 f fd ["self", "have", "want"] (spIni K C ["have", "want"]) := by
  refine F.ok sc_Uneven_init (fun vs H Q E h => ?_) (fun cdv A outer s H vs Q E hr h => ?_)
  · obtain ⟨a, ws, ds, rfl, l, _⟩ := h
    show ws.length + 1 = _
    rw [l]
    rfl
  · obtain ⟨a, ws, ds, rfl, l, hd, sm, ha, k⟩ := h
    match ws, ds, l, hd, sm with
    | [w0, w1], [d0, d1], _, hd, sm =>
    cases hd with | cons g0 r0 =>
    cases r0 with | cons g1 r1 =>
    refine ⟨_, pss_cons (ps_ost (pv 0) (pe_call GC hr (by rfl) CP.m CP.k CP.b .nil pass0 (pa_cons (pv 1) pa_nil))) (pss_one (ps_ost (pv 0) (pe_call GC hr (by rfl) CP.m CP.k CP.b .nil pass0 (pa_cons (pv 2) pa_nil)))), ?_⟩
    refine ⟨_, rfl, w0, d0, rfl, g0, (sm _ (List.mem_cons_self ..)), fun H1 v0 s1 e0 => ⟨_, rfl, a, C, rfl, T, h0, .inl ⟨s1 _ _ ha, fun dx hdx hne => ?_⟩⟩⟩
    have kx : KX H1 (upd (upd H1 dx (exd dx [("have", v0)])) a (exo a C (some dx))) := (KX.new hdx).trans (KX.at (by rw [upd_ne hne.symm]; exact s1 _ _ ha))
    have q1 : upd (upd H1 dx (exd dx [("have", v0)])) a (exo a C (some dx)) a = some (exo a C (some dx)) := upd_same
    have q2 : upd (upd H1 dx (exd dx [("have", v0)])) a (exo a C (some dx)) dx = some (exd dx [("have", v0)]) := by rw [upd_ne hne]; exact upd_same
    have kb : ∀ b o, b ≠ a → H b = some o → upd (upd H1 dx (exd dx [("have", v0)])) a (exo a C (some dx)) b = some o := fun b o hb e => by rw [upd_ne hb, upd_ne (ne_of_none (s1 _ _ e) hdx)]; exact s1 _ _ e
    replace e0 := Dp.kx kx e0
    have kH := (KX.of s1).trans kx
    have hdx0 := s1.free hdx
    generalize upd (upd H1 dx (exd dx [("have", v0)])) a (exo a C (some dx)) = H2 at q1 q2 kb e0 kH ⊢
    clear kx
    refine ⟨_, rfl, w1, d1, rfl, Dp.kx kH g1, (sm _ (List.mem_cons_of_mem _ (List.mem_cons_self ..))), fun H3 v1 s2 e1 => ⟨_, rfl, a, C, rfl, T, h1, .inr ⟨dx, _, s2 _ _ q1, s2 _ _ q2, by show 1 ≤ 900; decide, ?_⟩⟩⟩
    have ky := KX.at (o := exd dx (("want", v1) :: ("have", v0) :: [])) (s2 _ _ q2)
    replace q1 : upd H3 dx (exd dx (("want", v1) :: ("have", v0) :: [])) a = some (exo a C (some dx)) := by rw [upd_ne hne.symm]; exact s2 _ _ q1
    replace q2 : upd H3 dx (exd dx (("want", v1) :: ("have", v0) :: [])) dx = some _ := upd_same
    replace kb : ∀ b o, b ≠ a → H b = some o → upd H3 dx (exd dx (("want", v1) :: ("have", v0) :: [])) b = some o := fun b o hb e => by rw [upd_ne (ne_of_none e hdx0)]; exact s2 _ _ (kb b o hb e)
    replace e0 := Dp.kx ((KX.of s2).trans ky) e0
    replace e1 := Dp.kx ky e1
    replace kH := kH.trans ((KX.of s2).trans ky)
    generalize upd H3 dx (exd dx (("want", v1) :: ("have", v0) :: [])) = H4 at q1 q2 kb kH e0 e1 ⊢
    clear ky
    exact k _ dx _ hdx0 hne q1 q2 (fl_cons rfl e0 (fl_one rfl e1)) kb
abbrev s_BadTop_init : Stmt := inClass (top 26) 0
theorem sc_BadTop_init : FnScope ["self", "top"] ["self", "top"] (defScope s_BadTop_init) := ⟨rfl, rfl, rfl, by decide +kernel, rfl, by decide +kernel, by decide +kernel⟩
theorem ini_BadTop {f fC C : Addr} {fd fdC : FuncData} (F : Fun K "__init__" "BadTop.__init__" s_BadTop_init f fd) (T : OexC K C) (h0 : PySem.W.findIn K (.ref C) "top" = some none)
    (GC : FnOk P w K mg base CX0 2 fC fdC ["value"] (spCopyD K)) (CP : At K mg "copied" fC fdC ["value"]) : FnOk P w K mg base CX0 3 f fd ["self", "top"] (spIni K C ["top"]) := by
  refine F.ok sc_BadTop_init (fun vs H Q E h => ?_) (fun cdv A outer s H vs Q E hr h => ?_)
  · obtain ⟨a, ws, ds, rfl, l, _⟩ := h
    show ws.length + 1 = _
    rw [l]
    rfl
  · obtain ⟨a, ws, ds, rfl, l, hd, sm, ha, k⟩ := h
    match ws, ds, l, hd, sm with
    | [w0], [d0], _, hd, sm =>
    cases hd with | cons g0 r0 =>
    refine ⟨_, pss_one (ps_ost (pv 0) (pe_call GC hr (by rfl) CP.m CP.k CP.b .nil pass0 (pa_cons (pv 1) pa_nil))), ?_⟩
    refine ⟨_, rfl, w0, d0, rfl, g0, (sm _ (List.mem_cons_self ..)), fun H1 v0 s1 e0 => ⟨_, rfl, a, C, rfl, T, h0, .inl ⟨s1 _ _ ha, fun dx hdx hne => ?_⟩⟩⟩
    have kx : KX H1 (upd (upd H1 dx (exd dx [("top", v0)])) a (exo a C (some dx))) := (KX.new hdx).trans (KX.at (by rw [upd_ne hne.symm]; exact s1 _ _ ha))
    exact k _ dx _ (s1.free hdx) hne upd_same (by rw [upd_ne hne]; exact upd_same) (fl_one rfl (Dp.kx kx e0)) fun b o hb e => by rw [upd_ne hb, upd_ne (ne_of_none (s1 _ _ e) hdx)]; exact s1 _ _ e
abbrev s_BadWord_init : Stmt := inClass (top 27) 0
theorem sc_BadWord_init : FnScope ["self", "which", "index"] ["self", "which", "index"] (defScope s_BadWord_init) := ⟨rfl, rfl, rfl, by decide +kernel, rfl, by decide +kernel, by decide +kernel⟩
theorem ini_BadWord {f fC C : Addr} {fd fdC : FuncData} (F : Fun K "__init__" "BadWord.__init__" s_BadWord_init f fd) (T : OexC K C) (h0 : PySem.W.findIn K (.ref C) "which" = some none) (h1 : PySem.W.findIn K (.ref C) "index" = some none)
    (GC : FnOk P w K mg base CX0 2 fC fdC ["value"] (spCopyD K)) (CP : At K mg "copied" fC fdC ["value"]) : FnOk P w K mg base CX0 3 f fd ["self", "which", "index"] (spIni K C ["which", "index"]) := by
  refine F.ok sc_BadWord_init (fun vs H Q E h => ?_) (fun cdv A outer s H vs Q E hr h => ?_)
  · obtain ⟨a, ws, ds, rfl, l, _⟩ := h
    show ws.length + 1 = _
    rw [l]
    rfl
  · obtain ⟨a, ws, ds, rfl, l, hd, sm, ha, k⟩ := h
    match ws, ds, l, hd, sm with
    | [w0, w1], [d0, d1], _, hd, sm =>
    cases hd with | cons g0 r0 =>
    cases r0 with | cons g1 r1 =>
    refine ⟨_, pss_cons (ps_ost (pv 0) (pe_call GC hr (by rfl) CP.m CP.k CP.b .nil pass0 (pa_cons (pv 1) pa_nil))) (pss_one (ps_ost (pv 0) (pe_call GC hr (by rfl) CP.m CP.k CP.b .nil pass0 (pa_cons (pv 2) pa_nil)))), ?_⟩
    refine ⟨_, rfl, w0, d0, rfl, g0, (sm _ (List.mem_cons_self ..)), fun H1 v0 s1 e0 => ⟨_, rfl, a, C, rfl, T, h0, .inl ⟨s1 _ _ ha, fun dx hdx hne => ?_⟩⟩⟩
    have kx : KX H1 (upd (upd H1 dx (exd dx [("which", v0)])) a (exo a C (some dx))) := (KX.new hdx).trans (KX.at (by rw [upd_ne hne.symm]; exact s1 _ _ ha))
    have q1 : upd (upd H1 dx (exd dx [("which", v0)])) a (exo a C (some dx)) a = some (exo a C (some dx)) := upd_same
    have q2 : upd (upd H1 dx (exd dx [("which", v0)])) a (exo a C (some dx)) dx = some (exd dx [("which", v0)]) := by rw [upd_ne hne]; exact upd_same
    have kb : ∀ b o, b ≠ a → H b = some o → upd (upd H1 dx (exd dx [("which", v0)])) a (exo a C (some dx)) b = some o := fun b o hb e => by rw [upd_ne hb, upd_ne (ne_of_none (s1 _ _ e) hdx)]; exact s1 _ _ e
    replace e0 := Dp.kx kx e0
    have kH := (KX.of s1).trans kx
    have hdx0 := s1.free hdx
    generalize upd (upd H1 dx (exd dx [("which", v0)])) a (exo a C (some dx)) = H2 at q1 q2 kb e0 kH ⊢
    clear kx
    refine ⟨_, rfl, w1, d1, rfl, Dp.kx kH g1, (sm _ (List.mem_cons_of_mem _ (List.mem_cons_self ..))), fun H3 v1 s2 e1 => ⟨_, rfl, a, C, rfl, T, h1, .inr ⟨dx, _, s2 _ _ q1, s2 _ _ q2, by show 1 ≤ 900; decide, ?_⟩⟩⟩
    have ky := KX.at (o := exd dx (("index", v1) :: ("which", v0) :: [])) (s2 _ _ q2)
    replace q1 : upd H3 dx (exd dx (("index", v1) :: ("which", v0) :: [])) a = some (exo a C (some dx)) := by rw [upd_ne hne.symm]; exact s2 _ _ q1
    replace q2 : upd H3 dx (exd dx (("index", v1) :: ("which", v0) :: [])) dx = some _ := upd_same
    replace kb : ∀ b o, b ≠ a → H b = some o → upd H3 dx (exd dx (("index", v1) :: ("which", v0) :: [])) b = some o := fun b o hb e => by rw [upd_ne (ne_of_none e hdx0)]; exact s2 _ _ (kb b o hb e)
    replace e0 := Dp.kx ((KX.of s2).trans ky) e0
    replace e1 := Dp.kx ky e1
    replace kH := kH.trans ((KX.of s2).trans ky)
    generalize upd H3 dx (exd dx (("index", v1) :: ("which", v0) :: [])) = H4 at q1 q2 kb kH e0 e1 ⊢
    clear ky
    exact k _ dx _ hdx0 hne q1 q2 (fl_cons rfl e0 (fl_one rfl e1)) kb
abbrev s_BadStand_init : Stmt := inClass (top 28) 0
theorem sc_BadStand_init : FnScope ["self", "stand"] ["self", "stand"] (defScope s_BadStand_init) := ⟨rfl, rfl, rfl, by decide +kernel, rfl, by decide +kernel, by decide +kernel⟩
theorem ini_BadStand {f fC C : Addr} {fd fdC : FuncData} (F : Fun K "__init__" "BadStand.__init__" s_BadStand_init f fd) (T : OexC K C) (h0 : PySem.W.findIn K (.ref C) "stand" = some none)
    (GC : FnOk P w K mg base CX0 2 fC fdC ["value"] (spCopyD K)) (CP : At K mg "copied" fC fdC ["value"]) : FnOk P w K mg base CX0 3 f fd ["self", "stand"] (spIni K C ["stand"]) := by
  refine F.ok sc_BadStand_init (fun vs H Q E h => ?_) (fun cdv A outer s H vs Q E hr h => ?_)
  · obtain ⟨a, ws, ds, rfl, l, _⟩ := h
    show ws.length + 1 = _
    rw [l]
    rfl
  · obtain ⟨a, ws, ds, rfl, l, hd, sm, ha, k⟩ := h
    match ws, ds, l, hd, sm with
    | [w0], [d0], _, hd, sm =>
    cases hd with | cons g0 r0 =>
    refine ⟨_, pss_one (ps_ost (pv 0) (pe_call GC hr (by rfl) CP.m CP.k CP.b .nil pass0 (pa_cons (pv 1) pa_nil))), ?_⟩
    refine ⟨_, rfl, w0, d0, rfl, g0, (sm _ (List.mem_cons_self ..)), fun H1 v0 s1 e0 => ⟨_, rfl, a, C, rfl, T, h0, .inl ⟨s1 _ _ ha, fun dx hdx hne => ?_⟩⟩⟩
    have kx : KX H1 (upd (upd H1 dx (exd dx [("stand", v0)])) a (exo a C (some dx))) := (KX.new hdx).trans (KX.at (by rw [upd_ne hne.symm]; exact s1 _ _ ha))
    exact k _ dx _ (s1.free hdx) hne upd_same (by rw [upd_ne hne]; exact upd_same) (fl_one rfl (Dp.kx kx e0)) fun b o hb e => by rw [upd_ne hb, upd_ne (ne_of_none (s1 _ _ e) hdx)]; exact s1 _ _ e
abbrev s_BadSpecial_init : Stmt := inClass (top 29) 0
theorem sc_BadSpecial_init : FnScope ["self", "index"] ["self", "index"] (defScope s_BadSpecial_init) := ⟨rfl, rfl, rfl, by decide +kernel, rfl, by decide +kernel, by decide +kernel⟩
theorem ini_BadSpecial {f fC C : Addr} {fd fdC : FuncData} (F : Fun K "__init__" "BadSpecial.__init__" s_BadSpecial_init f fd) (T : OexC K C) (h0 : PySem.W.findIn K (.ref C) "index" = some none)
    (GC : FnOk P w K mg base CX0 2 fC fdC ["value"] (spCopyD K)) (CP : At K mg "copied" fC fdC ["value"]) : FnOk P w K mg base CX0 3 f fd ["self", "index"] (spIni K C ["index"]) := by
  refine F.ok sc_BadSpecial_init (fun vs H Q E h => ?_) (fun cdv A outer s H vs Q E hr h => ?_)
  · obtain ⟨a, ws, ds, rfl, l, _⟩ := h
    show ws.length + 1 = _
    rw [l]
    rfl
  · obtain ⟨a, ws, ds, rfl, l, hd, sm, ha, k⟩ := h
    match ws, ds, l, hd, sm with
    | [w0], [d0], _, hd, sm =>
    cases hd with | cons g0 r0 =>
    refine ⟨_, pss_one (ps_ost (pv 0) (pe_call GC hr (by rfl) CP.m CP.k CP.b .nil pass0 (pa_cons (pv 1) pa_nil))), ?_⟩
    refine ⟨_, rfl, w0, d0, rfl, g0, (sm _ (List.mem_cons_self ..)), fun H1 v0 s1 e0 => ⟨_, rfl, a, C, rfl, T, h0, .inl ⟨s1 _ _ ha, fun dx hdx hne => ?_⟩⟩⟩
    have kx : KX H1 (upd (upd H1 dx (exd dx [("index", v0)])) a (exo a C (some dx))) := (KX.new hdx).trans (KX.at (by rw [upd_ne hne.symm]; exact s1 _ _ ha))
    exact k _ dx _ (s1.free hdx) hne upd_same (by rw [upd_ne hne]; exact upd_same) (fl_one rfl (Dp.kx kx e0)) fun b o hb e => by rw [upd_ne hb, upd_ne (ne_of_none (s1 _ _ e) hdx)]; exact s1 _ _ e
abbrev s_BadName_init : Stmt := inClass (top 30) 0
theorem sc_BadName_init : FnScope ["self", "name"] ["self", "name"] (defScope s_BadName_init) := ⟨rfl, rfl, rfl, by decide +kernel, rfl, by decide +kernel, by decide +kernel⟩
theorem ini_BadName {f fC C : Addr} {fd fdC : FuncData} (F : Fun K "__init__" "BadName.__init__" s_BadName_init f fd) (T : OexC K C) (h0 : PySem.W.findIn K (.ref C) "name" = some none)
    (GC : FnOk P w K mg base CX0 2 fC fdC ["value"] (spCopyD K)) (CP : At K mg "copied" fC fdC ["value"]) : FnOk P w K mg base CX0 3 f fd ["self", "name"] (spIni K C ["name"]) := by
  refine F.ok sc_BadName_init (fun vs H Q E h => ?_) (fun cdv A outer s H vs Q E hr h => ?_)
  · obtain ⟨a, ws, ds, rfl, l, _⟩ := h
    show ws.length + 1 = _
    rw [l]
    rfl
  · obtain ⟨a, ws, ds, rfl, l, hd, sm, ha, k⟩ := h
    match ws, ds, l, hd, sm with
    | [w0], [d0], _, hd, sm =>
    cases hd with | cons g0 r0 =>
    refine ⟨_, pss_one (ps_ost (pv 0) (pe_call GC hr (by rfl) CP.m CP.k CP.b .nil pass0 (pa_cons (pv 1) pa_nil))), ?_⟩
    refine ⟨_, rfl, w0, d0, rfl, g0, (sm _ (List.mem_cons_self ..)), fun H1 v0 s1 e0 => ⟨_, rfl, a, C, rfl, T, h0, .inl ⟨s1 _ _ ha, fun dx hdx hne => ?_⟩⟩⟩
    have kx : KX H1 (upd (upd H1 dx (exd dx [("name", v0)])) a (exo a C (some dx))) := (KX.new hdx).trans (KX.at (by rw [upd_ne hne.symm]; exact s1 _ _ ha))
    exact k _ dx _ (s1.free hdx) hne upd_same (by rw [upd_ne hne]; exact upd_same) (fl_one rfl (Dp.kx kx e0)) fun b o hb e => by rw [upd_ne hb, upd_ne (ne_of_none (s1 _ _ e) hdx)]; exact s1 _ _ e
abbrev s_Unknown_init : Stmt := inClass (top 31) 0
theorem sc_Unknown_init : FnScope ["self", "name"] ["self", "name"] (defScope s_Unknown_init) := ⟨rfl, rfl, rfl, by decide +kernel, rfl, by decide +kernel, by decide +kernel⟩
theorem ini_Unknown {f fC C : Addr} {fd fdC : FuncData} (F : Fun K "__init__" "Unknown.__init__" s_Unknown_init f fd) (T : OexC K C) (h0 : PySem.W.findIn K (.ref C) "name" = some none)
    (GC : FnOk P w K mg base CX0 2 fC fdC ["value"] (spCopyD K)) (CP : At K mg "copied" fC fdC ["value"]) : FnOk P w K mg base CX0 3 f fd ["self", "name"] (spIni K C ["name"]) := by
  refine F.ok sc_Unknown_init (fun vs H Q E h => ?_) (fun cdv A outer s H vs Q E hr h => ?_)
  · obtain ⟨a, ws, ds, rfl, l, _⟩ := h
    show ws.length + 1 = _
    rw [l]
    rfl
  · obtain ⟨a, ws, ds, rfl, l, hd, sm, ha, k⟩ := h
    match ws, ds, l, hd, sm with
    | [w0], [d0], _, hd, sm =>
    cases hd with | cons g0 r0 =>
    refine ⟨_, pss_one (ps_ost (pv 0) (pe_call GC hr (by rfl) CP.m CP.k CP.b .nil pass0 (pa_cons (pv 1) pa_nil))), ?_⟩
    refine ⟨_, rfl, w0, d0, rfl, g0, (sm _ (List.mem_cons_self ..)), fun H1 v0 s1 e0 => ⟨_, rfl, a, C, rfl, T, h0, .inl ⟨s1 _ _ ha, fun dx hdx hne => ?_⟩⟩⟩
    have kx : KX H1 (upd (upd H1 dx (exd dx [("name", v0)])) a (exo a C (some dx))) := (KX.new hdx).trans (KX.at (by rw [upd_ne hne.symm]; exact s1 _ _ ha))
    exact k _ dx _ (s1.free hdx) hne upd_same (by rw [upd_ne hne]; exact upd_same) (fl_one rfl (Dp.kx kx e0)) fun b o hb e => by rw [upd_ne hb, upd_ne (ne_of_none (s1 _ _ e) hdx)]; exact s1 _ _ e
abbrev s_Known_init : Stmt := inClass (top 32) 0
theorem sc_Known_init : FnScope ["self", "name"] ["self", "name"] (defScope s_Known_init) := ⟨rfl, rfl, rfl, by decide +kernel, rfl, by decide +kernel, by decide +kernel⟩
theorem ini_Known {f fC C : Addr} {fd fdC : FuncData} (F : Fun K "__init__" "Known.__init__" s_Known_init f fd) (T : OexC K C) (h0 : PySem.W.findIn K (.ref C) "name" = some none)
    (GC : FnOk P w K mg base CX0 2 fC fdC ["value"] (spCopyD K)) (CP : At K mg "copied" fC fdC ["value"]) : FnOk P w K mg base CX0 3 f fd ["self", "name"] (spIni K C ["name"]) := by
  refine F.ok sc_Known_init (fun vs H Q E h => ?_) (fun cdv A outer s H vs Q E hr h => ?_)
  · obtain ⟨a, ws, ds, rfl, l, _⟩ := h
    show ws.length + 1 = _
    rw [l]
    rfl
  · obtain ⟨a, ws, ds, rfl, l, hd, sm, ha, k⟩ := h
    match ws, ds, l, hd, sm with
    | [w0], [d0], _, hd, sm =>
    cases hd with | cons g0 r0 =>
    refine ⟨_, pss_one (ps_ost (pv 0) (pe_call GC hr (by rfl) CP.m CP.k CP.b .nil pass0 (pa_cons (pv 1) pa_nil))), ?_⟩
    refine ⟨_, rfl, w0, d0, rfl, g0, (sm _ (List.mem_cons_self ..)), fun H1 v0 s1 e0 => ⟨_, rfl, a, C, rfl, T, h0, .inl ⟨s1 _ _ ha, fun dx hdx hne => ?_⟩⟩⟩
    have kx : KX H1 (upd (upd H1 dx (exd dx [("name", v0)])) a (exo a C (some dx))) := (KX.new hdx).trans (KX.at (by rw [upd_ne hne.symm]; exact s1 _ _ ha))
    exact k _ dx _ (s1.free hdx) hne upd_same (by rw [upd_ne hne]; exact upd_same) (fl_one rfl (Dp.kx kx e0)) fun b o hb e => by rw [upd_ne hb, upd_ne (ne_of_none (s1 _ _ e) hdx)]; exact s1 _ _ e
abbrev s_BadDeeds_init : Stmt := inClass (top 36) 0
theorem sc_BadDeeds_init : FnScope ["self", "index"] ["self", "index"] (defScope s_BadDeeds_init) := ⟨rfl, rfl, rfl, by decide +kernel, rfl, by decide +kernel, by decide +kernel⟩
theorem ini_BadDeeds {f fC C : Addr} {fd fdC : FuncData} (F : Fun K "__init__" "BadDeeds.__init__" s_BadDeeds_init f fd) (T : OexC K C) (h0 : PySem.W.findIn K (.ref C) "index" = some none)
    (GC : FnOk P w K mg base CX0 2 fC fdC ["value"] (spCopyD K)) (CP : At K mg "copied" fC fdC ["value"]) : FnOk P w K mg base CX0 3 f fd ["self", "index"] (spIni K C ["index"]) := by
  refine F.ok sc_BadDeeds_init (fun vs H Q E h => ?_) (fun cdv A outer s H vs Q E hr h => ?_)
  · obtain ⟨a, ws, ds, rfl, l, _⟩ := h
    show ws.length + 1 = _
    rw [l]
    rfl
  · obtain ⟨a, ws, ds, rfl, l, hd, sm, ha, k⟩ := h
    match ws, ds, l, hd, sm with
    | [w0], [d0], _, hd, sm =>
    cases hd with | cons g0 r0 =>
    refine ⟨_, pss_one (ps_ost (pv 0) (pe_call GC hr (by rfl) CP.m CP.k CP.b .nil pass0 (pa_cons (pv 1) pa_nil))), ?_⟩
    refine ⟨_, rfl, w0, d0, rfl, g0, (sm _ (List.mem_cons_self ..)), fun H1 v0 s1 e0 => ⟨_, rfl, a, C, rfl, T, h0, .inl ⟨s1 _ _ ha, fun dx hdx hne => ?_⟩⟩⟩
    have kx : KX H1 (upd (upd H1 dx (exd dx [("index", v0)])) a (exo a C (some dx))) := (KX.new hdx).trans (KX.at (by rw [upd_ne hne.symm]; exact s1 _ _ ha))
    exact k _ dx _ (s1.free hdx) hne upd_same (by rw [upd_ne hne]; exact upd_same) (fl_one rfl (Dp.kx kx e0)) fun b o hb e => by rw [upd_ne hb, upd_ne (ne_of_none (s1 _ _ e) hdx)]; exact s1 _ _ e
abbrev s_BadAsks_init : Stmt := inClass (top 37) 0
theorem sc_BadAsks_init : FnScope ["self", "index"] ["self", "index"] (defScope s_BadAsks_init) := ⟨rfl, rfl, rfl, by decide +kernel, rfl, by decide +kernel, by decide +kernel⟩
theorem ini_BadAsks {f fC C : Addr} {fd fdC : FuncData} (F : Fun K "__init__" "BadAsks.__init__" s_BadAsks_init f fd) (T : OexC K C) (h0 : PySem.W.findIn K (.ref C) "index" = some none)
    (GC : FnOk P w K mg base CX0 2 fC fdC ["value"] (spCopyD K)) (CP : At K mg "copied" fC fdC ["value"]) : FnOk P w K mg base CX0 3 f fd ["self", "index"] (spIni K C ["index"]) := by
  refine F.ok sc_BadAsks_init (fun vs H Q E h => ?_) (fun cdv A outer s H vs Q E hr h => ?_)
  · obtain ⟨a, ws, ds, rfl, l, _⟩ := h
    show ws.length + 1 = _
    rw [l]
    rfl
  · obtain ⟨a, ws, ds, rfl, l, hd, sm, ha, k⟩ := h
    match ws, ds, l, hd, sm with
    | [w0], [d0], _, hd, sm =>
    cases hd with | cons g0 r0 =>
    refine ⟨_, pss_one (ps_ost (pv 0) (pe_call GC hr (by rfl) CP.m CP.k CP.b .nil pass0 (pa_cons (pv 1) pa_nil))), ?_⟩
    refine ⟨_, rfl, w0, d0, rfl, g0, (sm _ (List.mem_cons_self ..)), fun H1 v0 s1 e0 => ⟨_, rfl, a, C, rfl, T, h0, .inl ⟨s1 _ _ ha, fun dx hdx hne => ?_⟩⟩⟩
    have kx : KX H1 (upd (upd H1 dx (exd dx [("index", v0)])) a (exo a C (some dx))) := (KX.new hdx).trans (KX.at (by rw [upd_ne hne.symm]; exact s1 _ _ ha))
    exact k _ dx _ (s1.free hdx) hne upd_same (by rw [upd_ne hne]; exact upd_same) (fl_one rfl (Dp.kx kx e0)) fun b o hb e => by rw [upd_ne hb, upd_ne (ne_of_none (s1 _ _ e) hdx)]; exact s1 _ _ e
abbrev s_BadProgram_init : Stmt := inClass (top 38) 0
theorem sc_BadProgram_init : FnScope ["self", "ask"] ["self", "ask"] (defScope s_BadProgram_init) := ⟨rfl, rfl, rfl, by decide +kernel, rfl, by decide +kernel, by decide +kernel⟩
theorem ini_BadProgram {f fC C : Addr} {fd fdC : FuncData} (F : Fun K "__init__" "BadProgram.__init__" s_BadProgram_init f fd) (T : OexC K C) (h0 : PySem.W.findIn K (.ref C) "ask" = some none)
    (GC : FnOk P w K mg base CX0 2 fC fdC ["value"] (spCopyD K)) (CP : At K mg "copied" fC fdC ["value"]) : FnOk P w K mg base CX0 3 f fd ["self", "ask"] (spIni K C ["ask"]) := by
  refine F.ok sc_BadProgram_init (fun vs H Q E h => ?_) (fun cdv A outer s H vs Q E hr h => ?_)
  · obtain ⟨a, ws, ds, rfl, l, _⟩ := h
    show ws.length + 1 = _
    rw [l]
    rfl
  · obtain ⟨a, ws, ds, rfl, l, hd, sm, ha, k⟩ := h
    match ws, ds, l, hd, sm with
    | [w0], [d0], _, hd, sm =>
    cases hd with | cons g0 r0 =>
    refine ⟨_, pss_one (ps_ost (pv 0) (pe_call GC hr (by rfl) CP.m CP.k CP.b .nil pass0 (pa_cons (pv 1) pa_nil))), ?_⟩
    refine ⟨_, rfl, w0, d0, rfl, g0, (sm _ (List.mem_cons_self ..)), fun H1 v0 s1 e0 => ⟨_, rfl, a, C, rfl, T, h0, .inl ⟨s1 _ _ ha, fun dx hdx hne => ?_⟩⟩⟩
    have kx : KX H1 (upd (upd H1 dx (exd dx [("ask", v0)])) a (exo a C (some dx))) := (KX.new hdx).trans (KX.at (by rw [upd_ne hne.symm]; exact s1 _ _ ha))
    exact k _ dx _ (s1.free hdx) hne upd_same (by rw [upd_ne hne]; exact upd_same) (fl_one rfl (Dp.kx kx e0)) fun b o hb e => by rw [upd_ne hb, upd_ne (ne_of_none (s1 _ _ e) hdx)]; exact s1 _ _ e
abbrev s_BadText_init : Stmt := inClass (top 40) 0
theorem sc_BadText_init : FnScope ["self", "line", "place"] ["self", "line", "place"] (defScope s_BadText_init) := ⟨rfl, rfl, rfl, by decide +kernel, rfl, by decide +kernel, by decide +kernel⟩
theorem ini_BadText {f fC C : Addr} {fd fdC : FuncData} (F : Fun K "__init__" "BadText.__init__" s_BadText_init f fd) (T : OexC K C) (h0 : PySem.W.findIn K (.ref C) "line" = some none) (h1 : PySem.W.findIn K (.ref C) "place" = some none)
    (GC : FnOk P w K mg base CX0 2 fC fdC ["value"] (spCopyD K)) (CP : At K mg "copied" fC fdC ["value"]) : FnOk P w K mg base CX0 3 f fd ["self", "line", "place"] (spIni K C ["line", "place"]) := by
  refine F.ok sc_BadText_init (fun vs H Q E h => ?_) (fun cdv A outer s H vs Q E hr h => ?_)
  · obtain ⟨a, ws, ds, rfl, l, _⟩ := h
    show ws.length + 1 = _
    rw [l]
    rfl
  · obtain ⟨a, ws, ds, rfl, l, hd, sm, ha, k⟩ := h
    match ws, ds, l, hd, sm with
    | [w0, w1], [d0, d1], _, hd, sm =>
    cases hd with | cons g0 r0 =>
    cases r0 with | cons g1 r1 =>
    refine ⟨_, pss_cons (ps_ost (pv 0) (pe_call GC hr (by rfl) CP.m CP.k CP.b .nil pass0 (pa_cons (pv 1) pa_nil))) (pss_one (ps_ost (pv 0) (pe_call GC hr (by rfl) CP.m CP.k CP.b .nil pass0 (pa_cons (pv 2) pa_nil)))), ?_⟩
    refine ⟨_, rfl, w0, d0, rfl, g0, (sm _ (List.mem_cons_self ..)), fun H1 v0 s1 e0 => ⟨_, rfl, a, C, rfl, T, h0, .inl ⟨s1 _ _ ha, fun dx hdx hne => ?_⟩⟩⟩
    have kx : KX H1 (upd (upd H1 dx (exd dx [("line", v0)])) a (exo a C (some dx))) := (KX.new hdx).trans (KX.at (by rw [upd_ne hne.symm]; exact s1 _ _ ha))
    have q1 : upd (upd H1 dx (exd dx [("line", v0)])) a (exo a C (some dx)) a = some (exo a C (some dx)) := upd_same
    have q2 : upd (upd H1 dx (exd dx [("line", v0)])) a (exo a C (some dx)) dx = some (exd dx [("line", v0)]) := by rw [upd_ne hne]; exact upd_same
    have kb : ∀ b o, b ≠ a → H b = some o → upd (upd H1 dx (exd dx [("line", v0)])) a (exo a C (some dx)) b = some o := fun b o hb e => by rw [upd_ne hb, upd_ne (ne_of_none (s1 _ _ e) hdx)]; exact s1 _ _ e
    replace e0 := Dp.kx kx e0
    have kH := (KX.of s1).trans kx
    have hdx0 := s1.free hdx
    generalize upd (upd H1 dx (exd dx [("line", v0)])) a (exo a C (some dx)) = H2 at q1 q2 kb e0 kH ⊢
    clear kx
    refine ⟨_, rfl, w1, d1, rfl, Dp.kx kH g1, (sm _ (List.mem_cons_of_mem _ (List.mem_cons_self ..))), fun H3 v1 s2 e1 => ⟨_, rfl, a, C, rfl, T, h1, .inr ⟨dx, _, s2 _ _ q1, s2 _ _ q2, by show 1 ≤ 900; decide, ?_⟩⟩⟩
    have ky := KX.at (o := exd dx (("place", v1) :: ("line", v0) :: [])) (s2 _ _ q2)
    replace q1 : upd H3 dx (exd dx (("place", v1) :: ("line", v0) :: [])) a = some (exo a C (some dx)) := by rw [upd_ne hne.symm]; exact s2 _ _ q1
    replace q2 : upd H3 dx (exd dx (("place", v1) :: ("line", v0) :: [])) dx = some _ := upd_same
    replace kb : ∀ b o, b ≠ a → H b = some o → upd H3 dx (exd dx (("place", v1) :: ("line", v0) :: [])) b = some o := fun b o hb e => by rw [upd_ne (ne_of_none e hdx0)]; exact s2 _ _ (kb b o hb e)
    replace e0 := Dp.kx ((KX.of s2).trans ky) e0
    replace e1 := Dp.kx ky e1
    replace kH := kH.trans ((KX.of s2).trans ky)
    generalize upd H3 dx (exd dx (("place", v1) :: ("line", v0) :: [])) = H4 at q1 q2 kb kH e0 e1 ⊢
    clear ky
    exact k _ dx _ hdx0 hne q1 q2 (fl_cons rfl e0 (fl_one rfl e1)) kb
abbrev s_Refused_init : Stmt := inClass (top 41) 0
theorem sc_Refused_init : FnScope ["self", "ask", "name"] ["self", "ask", "name"] (defScope s_Refused_init) := ⟨rfl, rfl, rfl, by decide +kernel, rfl, by decide +kernel, by decide +kernel⟩
theorem ini_Refused {f fC C : Addr} {fd fdC : FuncData} (F : Fun K "__init__" "Refused.__init__" s_Refused_init f fd) (T : OexC K C) (h0 : PySem.W.findIn K (.ref C) "ask" = some none) (h1 : PySem.W.findIn K (.ref C) "name" = some none)
    (GC : FnOk P w K mg base CX0 2 fC fdC ["value"] (spCopyD K)) (CP : At K mg "copied" fC fdC ["value"]) : FnOk P w K mg base CX0 3 f fd ["self", "ask", "name"] (spIni K C ["ask", "name"]) := by
  refine F.ok sc_Refused_init (fun vs H Q E h => ?_) (fun cdv A outer s H vs Q E hr h => ?_)
  · obtain ⟨a, ws, ds, rfl, l, _⟩ := h
    show ws.length + 1 = _
    rw [l]
    rfl
  · obtain ⟨a, ws, ds, rfl, l, hd, sm, ha, k⟩ := h
    match ws, ds, l, hd, sm with
    | [w0, w1], [d0, d1], _, hd, sm =>
    cases hd with | cons g0 r0 =>
    cases r0 with | cons g1 r1 =>
    refine ⟨_, pss_cons (ps_ost (pv 0) (pe_call GC hr (by rfl) CP.m CP.k CP.b .nil pass0 (pa_cons (pv 1) pa_nil))) (pss_one (ps_ost (pv 0) (pe_call GC hr (by rfl) CP.m CP.k CP.b .nil pass0 (pa_cons (pv 2) pa_nil)))), ?_⟩
    refine ⟨_, rfl, w0, d0, rfl, g0, (sm _ (List.mem_cons_self ..)), fun H1 v0 s1 e0 => ⟨_, rfl, a, C, rfl, T, h0, .inl ⟨s1 _ _ ha, fun dx hdx hne => ?_⟩⟩⟩
    have kx : KX H1 (upd (upd H1 dx (exd dx [("ask", v0)])) a (exo a C (some dx))) := (KX.new hdx).trans (KX.at (by rw [upd_ne hne.symm]; exact s1 _ _ ha))
    have q1 : upd (upd H1 dx (exd dx [("ask", v0)])) a (exo a C (some dx)) a = some (exo a C (some dx)) := upd_same
    have q2 : upd (upd H1 dx (exd dx [("ask", v0)])) a (exo a C (some dx)) dx = some (exd dx [("ask", v0)]) := by rw [upd_ne hne]; exact upd_same
    have kb : ∀ b o, b ≠ a → H b = some o → upd (upd H1 dx (exd dx [("ask", v0)])) a (exo a C (some dx)) b = some o := fun b o hb e => by rw [upd_ne hb, upd_ne (ne_of_none (s1 _ _ e) hdx)]; exact s1 _ _ e
    replace e0 := Dp.kx kx e0
    have kH := (KX.of s1).trans kx
    have hdx0 := s1.free hdx
    generalize upd (upd H1 dx (exd dx [("ask", v0)])) a (exo a C (some dx)) = H2 at q1 q2 kb e0 kH ⊢
    clear kx
    refine ⟨_, rfl, w1, d1, rfl, Dp.kx kH g1, (sm _ (List.mem_cons_of_mem _ (List.mem_cons_self ..))), fun H3 v1 s2 e1 => ⟨_, rfl, a, C, rfl, T, h1, .inr ⟨dx, _, s2 _ _ q1, s2 _ _ q2, by show 1 ≤ 900; decide, ?_⟩⟩⟩
    have ky := KX.at (o := exd dx (("name", v1) :: ("ask", v0) :: [])) (s2 _ _ q2)
    replace q1 : upd H3 dx (exd dx (("name", v1) :: ("ask", v0) :: [])) a = some (exo a C (some dx)) := by rw [upd_ne hne.symm]; exact s2 _ _ q1
    replace q2 : upd H3 dx (exd dx (("name", v1) :: ("ask", v0) :: [])) dx = some _ := upd_same
    replace kb : ∀ b o, b ≠ a → H b = some o → upd H3 dx (exd dx (("name", v1) :: ("ask", v0) :: [])) b = some o := fun b o hb e => by rw [upd_ne (ne_of_none e hdx0)]; exact s2 _ _ (kb b o hb e)
    replace e0 := Dp.kx ((KX.of s2).trans ky) e0
    replace e1 := Dp.kx ky e1
    replace kH := kH.trans ((KX.of s2).trans ky)
    generalize upd H3 dx (exd dx (("name", v1) :: ("ask", v0) :: [])) = H4 at q1 q2 kb kH e0 e1 ⊢
    clear ky
    exact k _ dx _ hdx0 hne q1 q2 (fl_cons rfl e0 (fl_one rfl e1)) kb
abbrev s_Overasked_init : Stmt := inClass (top 42) 0
theorem sc_Overasked_init : FnScope ["self", "name"] ["self", "name"] (defScope s_Overasked_init) := ⟨rfl, rfl, rfl, by decide +kernel, rfl, by decide +kernel, by decide +kernel⟩
theorem ini_Overasked {f fC C : Addr} {fd fdC : FuncData} (F : Fun K "__init__" "Overasked.__init__" s_Overasked_init f fd) (T : OexC K C) (h0 : PySem.W.findIn K (.ref C) "name" = some none)
    (GC : FnOk P w K mg base CX0 2 fC fdC ["value"] (spCopyD K)) (CP : At K mg "copied" fC fdC ["value"]) : FnOk P w K mg base CX0 3 f fd ["self", "name"] (spIni K C ["name"]) := by
  refine F.ok sc_Overasked_init (fun vs H Q E h => ?_) (fun cdv A outer s H vs Q E hr h => ?_)
  · obtain ⟨a, ws, ds, rfl, l, _⟩ := h
    show ws.length + 1 = _
    rw [l]
    rfl
  · obtain ⟨a, ws, ds, rfl, l, hd, sm, ha, k⟩ := h
    match ws, ds, l, hd, sm with
    | [w0], [d0], _, hd, sm =>
    cases hd with | cons g0 r0 =>
    refine ⟨_, pss_one (ps_ost (pv 0) (pe_call GC hr (by rfl) CP.m CP.k CP.b .nil pass0 (pa_cons (pv 1) pa_nil))), ?_⟩
    refine ⟨_, rfl, w0, d0, rfl, g0, (sm _ (List.mem_cons_self ..)), fun H1 v0 s1 e0 => ⟨_, rfl, a, C, rfl, T, h0, .inl ⟨s1 _ _ ha, fun dx hdx hne => ?_⟩⟩⟩
    have kx : KX H1 (upd (upd H1 dx (exd dx [("name", v0)])) a (exo a C (some dx))) := (KX.new hdx).trans (KX.at (by rw [upd_ne hne.symm]; exact s1 _ _ ha))
    exact k _ dx _ (s1.free hdx) hne upd_same (by rw [upd_ne hne]; exact upd_same) (fl_one rfl (Dp.kx kx e0)) fun b o hb e => by rw [upd_ne hb, upd_ne (ne_of_none (s1 _ _ e) hdx)]; exact s1 _ _ e
end
end Ask

namespace Ask
open PySem L2
/-- the errors' names, in the order of their kinds -/
def EN : List Str := [("BadLetters" : Str), ("BadLetter" : Str), ("BadBeginning" : Str), ("BadRuns" : Str), ("BadCount" : Str), ("BadPlace" : Str), ("BadKind" : Str), ("SaysNothing" : Str), ("BadAnswers" : Str), ("BadTold" : Str), ("BadStep" : Str), ("NotLive" : Str), ("OtherLetters" : Str), ("TooLong" : Str), ("TooMany" : Str), ("BadRow" : Str), ("TwiceTold" : Str), ("BadEnd" : Str), ("BadNumber" : Str), ("BadMenu" : Str), ("BadState" : Str), ("Uneven" : Str), ("BadTop" : Str), ("BadWord" : Str), ("BadStand" : Str), ("BadSpecial" : Str), ("BadName" : Str), ("Unknown" : Str), ("Known" : Str), ("Impossible" : Str), ("Unfair" : Str), ("NoFact" : Str), ("BadDeeds" : Str), ("BadAsks" : Str), ("BadProgram" : Str), ("OtherDeeds" : Str), ("BadText" : Str), ("Refused" : Str), ("Overasked" : Str), ("NothingLeft" : Str)]
def nmE (j : Nat) : Str := EN.getD j ""
/-- the classes of the errors: cA j that of the kind j -/
structure Kinds (K : PySem.W.Frag) (mg : Str → Option Value) (cA : Nat → Addr) (CA : Addr) : Prop where
  m : ∀ j, j < 40 → mg (nmE j) = some (.ref (cA j))
  k : ∀ i j, i < 40 → j < 40 → PySem.W.kitOne K (.ref (cA i)) (.ref (cA j)) = some (decide (j = i))
  xf : ∀ j, j < 40 → XfC K (cA j)
  xk : ∀ j, j < 40 → XkC K (cA j)
  ma : mg "AsksError" = some (.ref CA)
  ka : ∀ j, j < 40 → PySem.W.kitOne K (.ref (cA j)) (.ref CA) = some true
  kv : ∀ j, j < 40 → PySem.W.kitOne K (.ref (cA j)) (.type "ValueError") = some true
  kl : ∀ j, j < 40 → PySem.W.kitOne K (.ref (cA j)) (.type "LookupError") = some false
  kr : ∀ j, j < 40 → PySem.W.kitOne K (.ref (cA j)) (.type "ArithmeticError") = some false
/-- an error of the kind j -/
def ErrI (cA : Nat → Addr) (H : Hp) (v : V) (j : Nat) : Prop := ∃ (a : Addr) (d : Option Addr), v = .ref a ∧ H a = some (exo a (cA j) d) ∧ ∀ dd, d = some dd → ∃ fs, H dd = some (exd dd fs)
theorem ErrI.same {cA : Nat → Addr} {H H' : Hp} {v : V} {j : Nat} (h : ErrI cA H v j) (s : Same H H') : ErrI cA H' v j := by
  obtain ⟨a, d, e, h1, h2⟩ := h
  exact ⟨a, d, e, s _ _ h1, fun dd q => let ⟨fs, h3⟩ := h2 dd q; ⟨fs, s _ _ h3⟩⟩
/-- with fields -/
def ErrF (K : PySem.W.Frag) (cA : Nat → Addr) (H : Hp) (v : V) (j : Nat) (ns : List Str) (ds : List PyData) : Prop := ∃ (a dd : Addr) (fs : List (Str × V)), v = .ref a ∧ H a = some (exo a (cA j) (some dd)) ∧ H dd = some (exd dd fs) ∧ Fl K H fs ns ds
theorem ErrF.i {K : PySem.W.Frag} {cA : Nat → Addr} {H : Hp} {v : V} {j : Nat} {ns : List Str} {ds : List PyData} (h : ErrF K cA H v j ns ds) : ErrI cA H v j := by
  obtain ⟨a, dd, fs, e, h1, h2, _⟩ := h
  exact ⟨a, some dd, e, h1, fun x q => by cases q; exact ⟨fs, h2⟩⟩
theorem ErrF.same {K : PySem.W.Frag} {cA : Nat → Addr} {H H' : Hp} {v : V} {j : Nat} {ns : List Str} {ds : List PyData} (h : ErrF K cA H v j ns ds) (s : Same H H') : ErrF K cA H' v j ns ds := by
  obtain ⟨a, dd, fs, e, h1, h2, h3⟩ := h
  exact ⟨a, dd, fs, e, s _ _ h1, s _ _ h2, h3.kx (KX.of s)⟩
/-- an error with fields is made -/
theorem err_val {K : PySem.W.Frag} {cA : Nat → Addr} {C : Addr} {H : Hp} {j : Nat} {ns : List Str} {ws : List V} {ds : List PyData} {G : Addr → Hp → Prop} (ec : C = cA j) (hd : DpAll K H ws ds) (l : ws.length = ns.length) (l2 : ws.length ≤ 1000) (sm : ∀ d ∈ ds, Smp d)
    (k : ∀ (H' : Hp) (a : Addr), Same H H' → ErrF K cA H' (.ref a) j ns ds → G a H') :
    ws.length ≤ 1000 ∧ ∀ a, H a = none → spIni K C ns (.ref a :: (ws ++ [])) (upd H a (exo a C none)) (fun v H2 => v = .non ∧ ∃ (d : Addr) (fs : List (Str × V)), H2 a = some (exo a C (some d)) ∧ H2 d = some (exd d fs) ∧ H d = none ∧ G a H2) (fun _ _ _ => False) := by
  subst ec
  refine ⟨l2, fun a ha => ?_⟩
  refine ⟨a, ws, ds, by rw [List.append_nil], l, DpAll.kx (KX.new ha) hd, sm, upd_same, fun H' dx fs hdx hne e1 e2 fl kk => ?_⟩
  have h1 : H dx = none := by
    rw [upd_ne hne] at hdx
    exact hdx
  have sH : Same H H' := fun b o e => kk b o (ne_of_none e ha) (by rw [upd_ne (ne_of_none e ha)]; exact e)
  exact ⟨rfl, dx, fs, e1, e2, h1, k H' a sH ⟨a, dx, fs, rfl, e1, e2, fl⟩⟩
section
variable {P : Program} {w : World} {K : PySem.W.Frag} {mg : Str → Option Value} {base : Heap} {cA : Nat → Addr} {CA : Addr}
/-- the answers of n kinds for an error of the kind i -/
def kindsB (n i : Nat) : List V := (List.range n).map fun j => .bl (decide (j = i))
def spKinds (cA : Nat → Addr) (n : Nat) : Sp := fun vs H Q _ => ∃ (v : V) (i : Nat), vs = [v] ∧ i < 40 ∧ ErrI cA H v i ∧ ∀ (H' : Hp) (q : Addr), Same H H' → H q = none → H' q = some (.lst (kindsB n i)) → Q (.ref q) H'
abbrev s_first : Stmt := top 51
theorem sc_first : FnScope ["_law_e", "_law_found"] ["_law_e"] (defScope s_first) := ⟨rfl, rfl, rfl, by decide +kernel, rfl, by decide +kernel, by decide +kernel⟩
theorem ok_first {f : Addr} {fd : FuncData} (F : Fun K "_law_first_kinds" "_law_first_kinds" s_first f fd) (T : Blt mg) (M : Kinds K mg cA CA) : FnOk P w K mg base CX0 1 f fd ["_law_e"] (spKinds cA 20) := by
  refine F.ok sc_first (fun vs H Q E h => ?_) (fun cdv A outer s H vs Q E hr h => ?_)
  · obtain ⟨v, i, rfl, _⟩ := h
    rfl
  · obtain ⟨v, i, rfl, hi, ⟨a, d, rfl, ea, hd⟩, kq⟩ := h
    refine ⟨_, (pss_cons (ps_set (i := 1) sc_first.nd rfl (Or.inl rfl) (pe_lst (pa_cons (pe_callB call_isO (by rfl) T.n_isinstance (by decide +kernel) (pa_cons (pv 0) (pa_cons (pe_gv (v := .ref (cA 0)) rfl ⟨_, M.m 0 (by decide), rfl⟩) pa_nil))) (pa_cons (pe_callB call_isO (by rfl) T.n_isinstance (by decide +kernel) (pa_cons (pv 0) (pa_cons (pe_gv (v := .ref (cA 1)) rfl ⟨_, M.m 1 (by decide), rfl⟩) pa_nil))) (pa_cons (pe_callB call_isO (by rfl) T.n_isinstance (by decide +kernel) (pa_cons (pv 0) (pa_cons (pe_gv (v := .ref (cA 2)) rfl ⟨_, M.m 2 (by decide), rfl⟩) pa_nil))) (pa_cons (pe_callB call_isO (by rfl) T.n_isinstance (by decide +kernel) (pa_cons (pv 0) (pa_cons (pe_gv (v := .ref (cA 3)) rfl ⟨_, M.m 3 (by decide), rfl⟩) pa_nil))) pa_nil))))))
      (pss_cons (ps_set (i := 1) sc_first.nd rfl (Or.inl rfl) (pe_op op_cat (pv 1) (pe_lst (pa_cons (pe_callB call_isO (by rfl) T.n_isinstance (by decide +kernel) (pa_cons (pv 0) (pa_cons (pe_gv (v := .ref (cA 4)) rfl ⟨_, M.m 4 (by decide), rfl⟩) pa_nil))) (pa_cons (pe_callB call_isO (by rfl) T.n_isinstance (by decide +kernel) (pa_cons (pv 0) (pa_cons (pe_gv (v := .ref (cA 5)) rfl ⟨_, M.m 5 (by decide), rfl⟩) pa_nil))) (pa_cons (pe_callB call_isO (by rfl) T.n_isinstance (by decide +kernel) (pa_cons (pv 0) (pa_cons (pe_gv (v := .ref (cA 6)) rfl ⟨_, M.m 6 (by decide), rfl⟩) pa_nil))) pa_nil))))))
      (pss_cons (ps_set (i := 1) sc_first.nd rfl (Or.inl rfl) (pe_op op_cat (pv 1) (pe_lst (pa_cons (pe_callB call_isO (by rfl) T.n_isinstance (by decide +kernel) (pa_cons (pv 0) (pa_cons (pe_gv (v := .ref (cA 7)) rfl ⟨_, M.m 7 (by decide), rfl⟩) pa_nil))) (pa_cons (pe_callB call_isO (by rfl) T.n_isinstance (by decide +kernel) (pa_cons (pv 0) (pa_cons (pe_gv (v := .ref (cA 8)) rfl ⟨_, M.m 8 (by decide), rfl⟩) pa_nil))) (pa_cons (pe_callB call_isO (by rfl) T.n_isinstance (by decide +kernel) (pa_cons (pv 0) (pa_cons (pe_gv (v := .ref (cA 9)) rfl ⟨_, M.m 9 (by decide), rfl⟩) pa_nil))) pa_nil))))))
      (pss_cons (ps_set (i := 1) sc_first.nd rfl (Or.inl rfl) (pe_op op_cat (pv 1) (pe_lst (pa_cons (pe_callB call_isO (by rfl) T.n_isinstance (by decide +kernel) (pa_cons (pv 0) (pa_cons (pe_gv (v := .ref (cA 10)) rfl ⟨_, M.m 10 (by decide), rfl⟩) pa_nil))) (pa_cons (pe_callB call_isO (by rfl) T.n_isinstance (by decide +kernel) (pa_cons (pv 0) (pa_cons (pe_gv (v := .ref (cA 11)) rfl ⟨_, M.m 11 (by decide), rfl⟩) pa_nil))) (pa_cons (pe_callB call_isO (by rfl) T.n_isinstance (by decide +kernel) (pa_cons (pv 0) (pa_cons (pe_gv (v := .ref (cA 12)) rfl ⟨_, M.m 12 (by decide), rfl⟩) pa_nil))) pa_nil))))))
      (pss_cons (ps_set (i := 1) sc_first.nd rfl (Or.inl rfl) (pe_op op_cat (pv 1) (pe_lst (pa_cons (pe_callB call_isO (by rfl) T.n_isinstance (by decide +kernel) (pa_cons (pv 0) (pa_cons (pe_gv (v := .ref (cA 13)) rfl ⟨_, M.m 13 (by decide), rfl⟩) pa_nil))) (pa_cons (pe_callB call_isO (by rfl) T.n_isinstance (by decide +kernel) (pa_cons (pv 0) (pa_cons (pe_gv (v := .ref (cA 14)) rfl ⟨_, M.m 14 (by decide), rfl⟩) pa_nil))) (pa_cons (pe_callB call_isO (by rfl) T.n_isinstance (by decide +kernel) (pa_cons (pv 0) (pa_cons (pe_gv (v := .ref (cA 15)) rfl ⟨_, M.m 15 (by decide), rfl⟩) pa_nil))) (pa_cons (pe_callB call_isO (by rfl) T.n_isinstance (by decide +kernel) (pa_cons (pv 0) (pa_cons (pe_gv (v := .ref (cA 16)) rfl ⟨_, M.m 16 (by decide), rfl⟩) pa_nil))) pa_nil)))))))
      (pss_one (ps_ret (pe_op op_cat (pv 1) (pe_lst (pa_cons (pe_callB call_isO (by rfl) T.n_isinstance (by decide +kernel) (pa_cons (pv 0) (pa_cons (pe_gv (v := .ref (cA 17)) rfl ⟨_, M.m 17 (by decide), rfl⟩) pa_nil))) (pa_cons (pe_callB call_isO (by rfl) T.n_isinstance (by decide +kernel) (pa_cons (pv 0) (pa_cons (pe_gv (v := .ref (cA 18)) rfl ⟨_, M.m 18 (by decide), rfl⟩) pa_nil))) (pa_cons (pe_callB call_isO (by rfl) T.n_isinstance (by decide +kernel) (pa_cons (pv 0) (pa_cons (pe_gv (v := .ref (cA 19)) rfl ⟨_, M.m 19 (by decide), rfl⟩) pa_nil))) pa_nil)))))))))))), ?_⟩
    refine ⟨_, rfl, a, cA i, d, _, _, _, rfl, ea, hd, M.xf i hi, M.xk i hi, .own _, M.k i 0 hi (by decide), _, rfl, a, cA i, d, _, _, _, rfl, ea, hd, M.xf i hi, M.xk i hi, .own _, M.k i 1 hi (by decide), _, rfl, a, cA i, d, _, _, _, rfl, ea, hd, M.xf i hi, M.xk i hi, .own _, M.k i 2 hi (by decide), _, rfl, a, cA i, d, _, _, _, rfl, ea, hd, M.xf i hi, M.xk i hi, .own _, M.k i 3 hi (by decide), by show 4 ≤ sizeLine; decide, fun L0 n0 => ?_⟩
    have s1 := Ask.Same.made1 (o := .lst [V.bl (decide (0 = i)), V.bl (decide (1 = i)), V.bl (decide (2 = i)), V.bl (decide (3 = i))]) (Same.refl H) n0
    have f1 : upd H L0 (.lst [V.bl (decide (0 = i)), V.bl (decide (1 = i)), V.bl (decide (2 = i)), V.bl (decide (3 = i))]) L0 = some (.lst [V.bl (decide (0 = i)), V.bl (decide (1 = i)), V.bl (decide (2 = i)), V.bl (decide (3 = i))]) := upd_same
    replace ea := s1 _ _ ea
    replace hd : ∀ dd, d = some dd → ∃ fs, upd H L0 (.lst [V.bl (decide (0 = i)), V.bl (decide (1 = i)), V.bl (decide (2 = i)), V.bl (decide (3 = i))]) dd = some (exd dd fs) := fun dd q => let ⟨fs, e⟩ := hd dd q; ⟨fs, s1 _ _ e⟩
    generalize upd H L0 (.lst [V.bl (decide (0 = i)), V.bl (decide (1 = i)), V.bl (decide (2 = i)), V.bl (decide (3 = i))]) = H1 at s1 f1 ea hd ⊢
    refine ⟨_, rfl, _, rfl, a, cA i, d, _, _, _, rfl, ea, hd, M.xf i hi, M.xk i hi, .own _, M.k i 4 hi (by decide), _, rfl, a, cA i, d, _, _, _, rfl, ea, hd, M.xf i hi, M.xk i hi, .own _, M.k i 5 hi (by decide), _, rfl, a, cA i, d, _, _, _, rfl, ea, hd, M.xf i hi, M.xk i hi, .own _, M.k i 6 hi (by decide), by show 3 ≤ sizeLine; decide, fun M1 m1 => ?_⟩
    have t1 := Ask.Same.made1 (o := .lst [V.bl (decide (4 = i)), V.bl (decide (5 = i)), V.bl (decide (6 = i))]) s1 m1
    have g1 : upd H1 M1 (.lst [V.bl (decide (4 = i)), V.bl (decide (5 = i)), V.bl (decide (6 = i))]) M1 = some (.lst [V.bl (decide (4 = i)), V.bl (decide (5 = i)), V.bl (decide (6 = i))]) := upd_same
    have u1 := Ask.Same.made1 (o := .lst [V.bl (decide (4 = i)), V.bl (decide (5 = i)), V.bl (decide (6 = i))]) (Same.refl H1) m1
    replace f1 := u1 _ _ f1
    replace ea := u1 _ _ ea
    replace hd : ∀ dd, d = some dd → ∃ fs, upd H1 M1 (.lst [V.bl (decide (4 = i)), V.bl (decide (5 = i)), V.bl (decide (6 = i))]) dd = some (exd dd fs) := fun dd q => let ⟨fs, e⟩ := hd dd q; ⟨fs, u1 _ _ e⟩
    clear u1
    generalize upd H1 M1 (.lst [V.bl (decide (4 = i)), V.bl (decide (5 = i)), V.bl (decide (6 = i))]) = J1 at t1 f1 g1 ea hd ⊢
    refine ⟨L0, M1, _, _, rfl, rfl, f1, g1, by show 7 ≤ sizeLine; decide, fun L1 n1 => ?_⟩
    have s2 := Ask.Same.made1 (o := .lst ([V.bl (decide (0 = i)), V.bl (decide (1 = i)), V.bl (decide (2 = i)), V.bl (decide (3 = i))] ++ [V.bl (decide (4 = i)), V.bl (decide (5 = i)), V.bl (decide (6 = i))])) t1 n1
    have f2 : upd J1 L1 (.lst ([V.bl (decide (0 = i)), V.bl (decide (1 = i)), V.bl (decide (2 = i)), V.bl (decide (3 = i))] ++ [V.bl (decide (4 = i)), V.bl (decide (5 = i)), V.bl (decide (6 = i))])) L1 = some (.lst [V.bl (decide (0 = i)), V.bl (decide (1 = i)), V.bl (decide (2 = i)), V.bl (decide (3 = i)), V.bl (decide (4 = i)), V.bl (decide (5 = i)), V.bl (decide (6 = i))]) := upd_same
    have u2 := Ask.Same.made1 (o := .lst ([V.bl (decide (0 = i)), V.bl (decide (1 = i)), V.bl (decide (2 = i)), V.bl (decide (3 = i))] ++ [V.bl (decide (4 = i)), V.bl (decide (5 = i)), V.bl (decide (6 = i))])) (Same.refl J1) n1
    replace ea := u2 _ _ ea
    replace hd : ∀ dd, d = some dd → ∃ fs, upd J1 L1 (.lst ([V.bl (decide (0 = i)), V.bl (decide (1 = i)), V.bl (decide (2 = i)), V.bl (decide (3 = i))] ++ [V.bl (decide (4 = i)), V.bl (decide (5 = i)), V.bl (decide (6 = i))])) dd = some (exd dd fs) := fun dd q => let ⟨fs, e⟩ := hd dd q; ⟨fs, u2 _ _ e⟩
    clear u2 f1 g1 s1
    generalize upd J1 L1 (.lst ([V.bl (decide (0 = i)), V.bl (decide (1 = i)), V.bl (decide (2 = i)), V.bl (decide (3 = i))] ++ [V.bl (decide (4 = i)), V.bl (decide (5 = i)), V.bl (decide (6 = i))])) = H2 at s2 f2 ea hd ⊢
    clear t1
    refine ⟨_, rfl, _, rfl, a, cA i, d, _, _, _, rfl, ea, hd, M.xf i hi, M.xk i hi, .own _, M.k i 7 hi (by decide), _, rfl, a, cA i, d, _, _, _, rfl, ea, hd, M.xf i hi, M.xk i hi, .own _, M.k i 8 hi (by decide), _, rfl, a, cA i, d, _, _, _, rfl, ea, hd, M.xf i hi, M.xk i hi, .own _, M.k i 9 hi (by decide), by show 3 ≤ sizeLine; decide, fun M2 m2 => ?_⟩
    have t2 := Ask.Same.made1 (o := .lst [V.bl (decide (7 = i)), V.bl (decide (8 = i)), V.bl (decide (9 = i))]) s2 m2
    have g2 : upd H2 M2 (.lst [V.bl (decide (7 = i)), V.bl (decide (8 = i)), V.bl (decide (9 = i))]) M2 = some (.lst [V.bl (decide (7 = i)), V.bl (decide (8 = i)), V.bl (decide (9 = i))]) := upd_same
    have u2 := Ask.Same.made1 (o := .lst [V.bl (decide (7 = i)), V.bl (decide (8 = i)), V.bl (decide (9 = i))]) (Same.refl H2) m2
    replace f2 := u2 _ _ f2
    replace ea := u2 _ _ ea
    replace hd : ∀ dd, d = some dd → ∃ fs, upd H2 M2 (.lst [V.bl (decide (7 = i)), V.bl (decide (8 = i)), V.bl (decide (9 = i))]) dd = some (exd dd fs) := fun dd q => let ⟨fs, e⟩ := hd dd q; ⟨fs, u2 _ _ e⟩
    clear u2
    generalize upd H2 M2 (.lst [V.bl (decide (7 = i)), V.bl (decide (8 = i)), V.bl (decide (9 = i))]) = J2 at t2 f2 g2 ea hd ⊢
    refine ⟨L1, M2, _, _, rfl, rfl, f2, g2, by show 10 ≤ sizeLine; decide, fun L2 n2 => ?_⟩
    have s3 := Ask.Same.made1 (o := .lst ([V.bl (decide (0 = i)), V.bl (decide (1 = i)), V.bl (decide (2 = i)), V.bl (decide (3 = i)), V.bl (decide (4 = i)), V.bl (decide (5 = i)), V.bl (decide (6 = i))] ++ [V.bl (decide (7 = i)), V.bl (decide (8 = i)), V.bl (decide (9 = i))])) t2 n2
    have f3 : upd J2 L2 (.lst ([V.bl (decide (0 = i)), V.bl (decide (1 = i)), V.bl (decide (2 = i)), V.bl (decide (3 = i)), V.bl (decide (4 = i)), V.bl (decide (5 = i)), V.bl (decide (6 = i))] ++ [V.bl (decide (7 = i)), V.bl (decide (8 = i)), V.bl (decide (9 = i))])) L2 = some (.lst [V.bl (decide (0 = i)), V.bl (decide (1 = i)), V.bl (decide (2 = i)), V.bl (decide (3 = i)), V.bl (decide (4 = i)), V.bl (decide (5 = i)), V.bl (decide (6 = i)), V.bl (decide (7 = i)), V.bl (decide (8 = i)), V.bl (decide (9 = i))]) := upd_same
    have u3 := Ask.Same.made1 (o := .lst ([V.bl (decide (0 = i)), V.bl (decide (1 = i)), V.bl (decide (2 = i)), V.bl (decide (3 = i)), V.bl (decide (4 = i)), V.bl (decide (5 = i)), V.bl (decide (6 = i))] ++ [V.bl (decide (7 = i)), V.bl (decide (8 = i)), V.bl (decide (9 = i))])) (Same.refl J2) n2
    replace ea := u3 _ _ ea
    replace hd : ∀ dd, d = some dd → ∃ fs, upd J2 L2 (.lst ([V.bl (decide (0 = i)), V.bl (decide (1 = i)), V.bl (decide (2 = i)), V.bl (decide (3 = i)), V.bl (decide (4 = i)), V.bl (decide (5 = i)), V.bl (decide (6 = i))] ++ [V.bl (decide (7 = i)), V.bl (decide (8 = i)), V.bl (decide (9 = i))])) dd = some (exd dd fs) := fun dd q => let ⟨fs, e⟩ := hd dd q; ⟨fs, u3 _ _ e⟩
    clear u3 f2 g2 s2
    generalize upd J2 L2 (.lst ([V.bl (decide (0 = i)), V.bl (decide (1 = i)), V.bl (decide (2 = i)), V.bl (decide (3 = i)), V.bl (decide (4 = i)), V.bl (decide (5 = i)), V.bl (decide (6 = i))] ++ [V.bl (decide (7 = i)), V.bl (decide (8 = i)), V.bl (decide (9 = i))])) = H3 at s3 f3 ea hd ⊢
    clear t2
    refine ⟨_, rfl, _, rfl, a, cA i, d, _, _, _, rfl, ea, hd, M.xf i hi, M.xk i hi, .own _, M.k i 10 hi (by decide), _, rfl, a, cA i, d, _, _, _, rfl, ea, hd, M.xf i hi, M.xk i hi, .own _, M.k i 11 hi (by decide), _, rfl, a, cA i, d, _, _, _, rfl, ea, hd, M.xf i hi, M.xk i hi, .own _, M.k i 12 hi (by decide), by show 3 ≤ sizeLine; decide, fun M3 m3 => ?_⟩
    have t3 := Ask.Same.made1 (o := .lst [V.bl (decide (10 = i)), V.bl (decide (11 = i)), V.bl (decide (12 = i))]) s3 m3
    have g3 : upd H3 M3 (.lst [V.bl (decide (10 = i)), V.bl (decide (11 = i)), V.bl (decide (12 = i))]) M3 = some (.lst [V.bl (decide (10 = i)), V.bl (decide (11 = i)), V.bl (decide (12 = i))]) := upd_same
    have u3 := Ask.Same.made1 (o := .lst [V.bl (decide (10 = i)), V.bl (decide (11 = i)), V.bl (decide (12 = i))]) (Same.refl H3) m3
    replace f3 := u3 _ _ f3
    replace ea := u3 _ _ ea
    replace hd : ∀ dd, d = some dd → ∃ fs, upd H3 M3 (.lst [V.bl (decide (10 = i)), V.bl (decide (11 = i)), V.bl (decide (12 = i))]) dd = some (exd dd fs) := fun dd q => let ⟨fs, e⟩ := hd dd q; ⟨fs, u3 _ _ e⟩
    clear u3
    generalize upd H3 M3 (.lst [V.bl (decide (10 = i)), V.bl (decide (11 = i)), V.bl (decide (12 = i))]) = J3 at t3 f3 g3 ea hd ⊢
    refine ⟨L2, M3, _, _, rfl, rfl, f3, g3, by show 13 ≤ sizeLine; decide, fun L3 n3 => ?_⟩
    have s4 := Ask.Same.made1 (o := .lst ([V.bl (decide (0 = i)), V.bl (decide (1 = i)), V.bl (decide (2 = i)), V.bl (decide (3 = i)), V.bl (decide (4 = i)), V.bl (decide (5 = i)), V.bl (decide (6 = i)), V.bl (decide (7 = i)), V.bl (decide (8 = i)), V.bl (decide (9 = i))] ++ [V.bl (decide (10 = i)), V.bl (decide (11 = i)), V.bl (decide (12 = i))])) t3 n3
    have f4 : upd J3 L3 (.lst ([V.bl (decide (0 = i)), V.bl (decide (1 = i)), V.bl (decide (2 = i)), V.bl (decide (3 = i)), V.bl (decide (4 = i)), V.bl (decide (5 = i)), V.bl (decide (6 = i)), V.bl (decide (7 = i)), V.bl (decide (8 = i)), V.bl (decide (9 = i))] ++ [V.bl (decide (10 = i)), V.bl (decide (11 = i)), V.bl (decide (12 = i))])) L3 = some (.lst [V.bl (decide (0 = i)), V.bl (decide (1 = i)), V.bl (decide (2 = i)), V.bl (decide (3 = i)), V.bl (decide (4 = i)), V.bl (decide (5 = i)), V.bl (decide (6 = i)), V.bl (decide (7 = i)), V.bl (decide (8 = i)), V.bl (decide (9 = i)), V.bl (decide (10 = i)), V.bl (decide (11 = i)), V.bl (decide (12 = i))]) := upd_same
    have u4 := Ask.Same.made1 (o := .lst ([V.bl (decide (0 = i)), V.bl (decide (1 = i)), V.bl (decide (2 = i)), V.bl (decide (3 = i)), V.bl (decide (4 = i)), V.bl (decide (5 = i)), V.bl (decide (6 = i)), V.bl (decide (7 = i)), V.bl (decide (8 = i)), V.bl (decide (9 = i))] ++ [V.bl (decide (10 = i)), V.bl (decide (11 = i)), V.bl (decide (12 = i))])) (Same.refl J3) n3
    replace ea := u4 _ _ ea
    replace hd : ∀ dd, d = some dd → ∃ fs, upd J3 L3 (.lst ([V.bl (decide (0 = i)), V.bl (decide (1 = i)), V.bl (decide (2 = i)), V.bl (decide (3 = i)), V.bl (decide (4 = i)), V.bl (decide (5 = i)), V.bl (decide (6 = i)), V.bl (decide (7 = i)), V.bl (decide (8 = i)), V.bl (decide (9 = i))] ++ [V.bl (decide (10 = i)), V.bl (decide (11 = i)), V.bl (decide (12 = i))])) dd = some (exd dd fs) := fun dd q => let ⟨fs, e⟩ := hd dd q; ⟨fs, u4 _ _ e⟩
    clear u4 f3 g3 s3
    generalize upd J3 L3 (.lst ([V.bl (decide (0 = i)), V.bl (decide (1 = i)), V.bl (decide (2 = i)), V.bl (decide (3 = i)), V.bl (decide (4 = i)), V.bl (decide (5 = i)), V.bl (decide (6 = i)), V.bl (decide (7 = i)), V.bl (decide (8 = i)), V.bl (decide (9 = i))] ++ [V.bl (decide (10 = i)), V.bl (decide (11 = i)), V.bl (decide (12 = i))])) = H4 at s4 f4 ea hd ⊢
    clear t3
    refine ⟨_, rfl, _, rfl, a, cA i, d, _, _, _, rfl, ea, hd, M.xf i hi, M.xk i hi, .own _, M.k i 13 hi (by decide), _, rfl, a, cA i, d, _, _, _, rfl, ea, hd, M.xf i hi, M.xk i hi, .own _, M.k i 14 hi (by decide), _, rfl, a, cA i, d, _, _, _, rfl, ea, hd, M.xf i hi, M.xk i hi, .own _, M.k i 15 hi (by decide), _, rfl, a, cA i, d, _, _, _, rfl, ea, hd, M.xf i hi, M.xk i hi, .own _, M.k i 16 hi (by decide), by show 4 ≤ sizeLine; decide, fun M4 m4 => ?_⟩
    have t4 := Ask.Same.made1 (o := .lst [V.bl (decide (13 = i)), V.bl (decide (14 = i)), V.bl (decide (15 = i)), V.bl (decide (16 = i))]) s4 m4
    have g4 : upd H4 M4 (.lst [V.bl (decide (13 = i)), V.bl (decide (14 = i)), V.bl (decide (15 = i)), V.bl (decide (16 = i))]) M4 = some (.lst [V.bl (decide (13 = i)), V.bl (decide (14 = i)), V.bl (decide (15 = i)), V.bl (decide (16 = i))]) := upd_same
    have u4 := Ask.Same.made1 (o := .lst [V.bl (decide (13 = i)), V.bl (decide (14 = i)), V.bl (decide (15 = i)), V.bl (decide (16 = i))]) (Same.refl H4) m4
    replace f4 := u4 _ _ f4
    replace ea := u4 _ _ ea
    replace hd : ∀ dd, d = some dd → ∃ fs, upd H4 M4 (.lst [V.bl (decide (13 = i)), V.bl (decide (14 = i)), V.bl (decide (15 = i)), V.bl (decide (16 = i))]) dd = some (exd dd fs) := fun dd q => let ⟨fs, e⟩ := hd dd q; ⟨fs, u4 _ _ e⟩
    clear u4
    generalize upd H4 M4 (.lst [V.bl (decide (13 = i)), V.bl (decide (14 = i)), V.bl (decide (15 = i)), V.bl (decide (16 = i))]) = J4 at t4 f4 g4 ea hd ⊢
    refine ⟨L3, M4, _, _, rfl, rfl, f4, g4, by show 17 ≤ sizeLine; decide, fun L4 n4 => ?_⟩
    have s5 := Ask.Same.made1 (o := .lst ([V.bl (decide (0 = i)), V.bl (decide (1 = i)), V.bl (decide (2 = i)), V.bl (decide (3 = i)), V.bl (decide (4 = i)), V.bl (decide (5 = i)), V.bl (decide (6 = i)), V.bl (decide (7 = i)), V.bl (decide (8 = i)), V.bl (decide (9 = i)), V.bl (decide (10 = i)), V.bl (decide (11 = i)), V.bl (decide (12 = i))] ++ [V.bl (decide (13 = i)), V.bl (decide (14 = i)), V.bl (decide (15 = i)), V.bl (decide (16 = i))])) t4 n4
    have f5 : upd J4 L4 (.lst ([V.bl (decide (0 = i)), V.bl (decide (1 = i)), V.bl (decide (2 = i)), V.bl (decide (3 = i)), V.bl (decide (4 = i)), V.bl (decide (5 = i)), V.bl (decide (6 = i)), V.bl (decide (7 = i)), V.bl (decide (8 = i)), V.bl (decide (9 = i)), V.bl (decide (10 = i)), V.bl (decide (11 = i)), V.bl (decide (12 = i))] ++ [V.bl (decide (13 = i)), V.bl (decide (14 = i)), V.bl (decide (15 = i)), V.bl (decide (16 = i))])) L4 = some (.lst [V.bl (decide (0 = i)), V.bl (decide (1 = i)), V.bl (decide (2 = i)), V.bl (decide (3 = i)), V.bl (decide (4 = i)), V.bl (decide (5 = i)), V.bl (decide (6 = i)), V.bl (decide (7 = i)), V.bl (decide (8 = i)), V.bl (decide (9 = i)), V.bl (decide (10 = i)), V.bl (decide (11 = i)), V.bl (decide (12 = i)), V.bl (decide (13 = i)), V.bl (decide (14 = i)), V.bl (decide (15 = i)), V.bl (decide (16 = i))]) := upd_same
    have u5 := Ask.Same.made1 (o := .lst ([V.bl (decide (0 = i)), V.bl (decide (1 = i)), V.bl (decide (2 = i)), V.bl (decide (3 = i)), V.bl (decide (4 = i)), V.bl (decide (5 = i)), V.bl (decide (6 = i)), V.bl (decide (7 = i)), V.bl (decide (8 = i)), V.bl (decide (9 = i)), V.bl (decide (10 = i)), V.bl (decide (11 = i)), V.bl (decide (12 = i))] ++ [V.bl (decide (13 = i)), V.bl (decide (14 = i)), V.bl (decide (15 = i)), V.bl (decide (16 = i))])) (Same.refl J4) n4
    replace ea := u5 _ _ ea
    replace hd : ∀ dd, d = some dd → ∃ fs, upd J4 L4 (.lst ([V.bl (decide (0 = i)), V.bl (decide (1 = i)), V.bl (decide (2 = i)), V.bl (decide (3 = i)), V.bl (decide (4 = i)), V.bl (decide (5 = i)), V.bl (decide (6 = i)), V.bl (decide (7 = i)), V.bl (decide (8 = i)), V.bl (decide (9 = i)), V.bl (decide (10 = i)), V.bl (decide (11 = i)), V.bl (decide (12 = i))] ++ [V.bl (decide (13 = i)), V.bl (decide (14 = i)), V.bl (decide (15 = i)), V.bl (decide (16 = i))])) dd = some (exd dd fs) := fun dd q => let ⟨fs, e⟩ := hd dd q; ⟨fs, u5 _ _ e⟩
    clear u5 f4 g4 s4
    generalize upd J4 L4 (.lst ([V.bl (decide (0 = i)), V.bl (decide (1 = i)), V.bl (decide (2 = i)), V.bl (decide (3 = i)), V.bl (decide (4 = i)), V.bl (decide (5 = i)), V.bl (decide (6 = i)), V.bl (decide (7 = i)), V.bl (decide (8 = i)), V.bl (decide (9 = i)), V.bl (decide (10 = i)), V.bl (decide (11 = i)), V.bl (decide (12 = i))] ++ [V.bl (decide (13 = i)), V.bl (decide (14 = i)), V.bl (decide (15 = i)), V.bl (decide (16 = i))])) = H5 at s5 f5 ea hd ⊢
    clear t4
    refine ⟨_, rfl, _, rfl, a, cA i, d, _, _, _, rfl, ea, hd, M.xf i hi, M.xk i hi, .own _, M.k i 17 hi (by decide), _, rfl, a, cA i, d, _, _, _, rfl, ea, hd, M.xf i hi, M.xk i hi, .own _, M.k i 18 hi (by decide), _, rfl, a, cA i, d, _, _, _, rfl, ea, hd, M.xf i hi, M.xk i hi, .own _, M.k i 19 hi (by decide), by show 3 ≤ sizeLine; decide, fun M5 m5 => ?_⟩
    have t5 := Ask.Same.made1 (o := .lst [V.bl (decide (17 = i)), V.bl (decide (18 = i)), V.bl (decide (19 = i))]) s5 m5
    have g5 : upd H5 M5 (.lst [V.bl (decide (17 = i)), V.bl (decide (18 = i)), V.bl (decide (19 = i))]) M5 = some (.lst [V.bl (decide (17 = i)), V.bl (decide (18 = i)), V.bl (decide (19 = i))]) := upd_same
    have u5 := Ask.Same.made1 (o := .lst [V.bl (decide (17 = i)), V.bl (decide (18 = i)), V.bl (decide (19 = i))]) (Same.refl H5) m5
    replace f5 := u5 _ _ f5
    replace ea := u5 _ _ ea
    replace hd : ∀ dd, d = some dd → ∃ fs, upd H5 M5 (.lst [V.bl (decide (17 = i)), V.bl (decide (18 = i)), V.bl (decide (19 = i))]) dd = some (exd dd fs) := fun dd q => let ⟨fs, e⟩ := hd dd q; ⟨fs, u5 _ _ e⟩
    clear u5
    generalize upd H5 M5 (.lst [V.bl (decide (17 = i)), V.bl (decide (18 = i)), V.bl (decide (19 = i))]) = J5 at t5 f5 g5 ea hd ⊢
    refine ⟨L4, M5, _, _, rfl, rfl, f5, g5, by show 20 ≤ sizeLine; decide, fun L5 n5 => ?_⟩
    exact kq _ L5 (Ask.Same.made1 t5 n5) (t5.free n5) upd_same
abbrev s_kinds : Stmt := top 52
theorem sc_kinds : FnScope ["_law_e", "_law_found"] ["_law_e"] (defScope s_kinds) := ⟨rfl, rfl, rfl, by decide +kernel, rfl, by decide +kernel, by decide +kernel⟩
theorem ok_kinds {f fF : Addr} {fd fdF : FuncData} (F : Fun K "_law_kinds" "_law_kinds" s_kinds f fd) (T : Blt mg) (M : Kinds K mg cA CA)
    (GF : FnOk P w K mg base CX0 1 fF fdF ["_law_e"] (spKinds cA 20)) (AF : At K mg "_law_first_kinds" fF fdF ["_law_e"]) : FnOk P w K mg base CX0 2 f fd ["_law_e"] (spKinds cA 40) := by
  refine F.ok sc_kinds (fun vs H Q E h => ?_) (fun cdv A outer s H vs Q E hr h => ?_)
  · obtain ⟨v, i, rfl, _⟩ := h
    rfl
  · obtain ⟨v, i, rfl, hi, ⟨a, d, rfl, ea, hd⟩, kq⟩ := h
    refine ⟨_, (pss_cons (ps_set (i := 1) sc_kinds.nd rfl (Or.inl rfl) (pe_op op_cat (pe_call GF hr (by rfl) AF.m AF.k AF.b .nil pass0 (pa_cons (pv 0) pa_nil)) (pe_lst (pa_cons (pe_callB call_isO (by rfl) T.n_isinstance (by decide +kernel) (pa_cons (pv 0) (pa_cons (pe_gv (v := .ref (cA 20)) rfl ⟨_, M.m 20 (by decide), rfl⟩) pa_nil))) (pa_cons (pe_callB call_isO (by rfl) T.n_isinstance (by decide +kernel) (pa_cons (pv 0) (pa_cons (pe_gv (v := .ref (cA 21)) rfl ⟨_, M.m 21 (by decide), rfl⟩) pa_nil))) (pa_cons (pe_callB call_isO (by rfl) T.n_isinstance (by decide +kernel) (pa_cons (pv 0) (pa_cons (pe_gv (v := .ref (cA 22)) rfl ⟨_, M.m 22 (by decide), rfl⟩) pa_nil))) pa_nil))))))
      (pss_cons (ps_set (i := 1) sc_kinds.nd rfl (Or.inl rfl) (pe_op op_cat (pv 1) (pe_lst (pa_cons (pe_callB call_isO (by rfl) T.n_isinstance (by decide +kernel) (pa_cons (pv 0) (pa_cons (pe_gv (v := .ref (cA 23)) rfl ⟨_, M.m 23 (by decide), rfl⟩) pa_nil))) (pa_cons (pe_callB call_isO (by rfl) T.n_isinstance (by decide +kernel) (pa_cons (pv 0) (pa_cons (pe_gv (v := .ref (cA 24)) rfl ⟨_, M.m 24 (by decide), rfl⟩) pa_nil))) (pa_cons (pe_callB call_isO (by rfl) T.n_isinstance (by decide +kernel) (pa_cons (pv 0) (pa_cons (pe_gv (v := .ref (cA 25)) rfl ⟨_, M.m 25 (by decide), rfl⟩) pa_nil))) pa_nil))))))
      (pss_cons (ps_set (i := 1) sc_kinds.nd rfl (Or.inl rfl) (pe_op op_cat (pv 1) (pe_lst (pa_cons (pe_callB call_isO (by rfl) T.n_isinstance (by decide +kernel) (pa_cons (pv 0) (pa_cons (pe_gv (v := .ref (cA 26)) rfl ⟨_, M.m 26 (by decide), rfl⟩) pa_nil))) (pa_cons (pe_callB call_isO (by rfl) T.n_isinstance (by decide +kernel) (pa_cons (pv 0) (pa_cons (pe_gv (v := .ref (cA 27)) rfl ⟨_, M.m 27 (by decide), rfl⟩) pa_nil))) (pa_cons (pe_callB call_isO (by rfl) T.n_isinstance (by decide +kernel) (pa_cons (pv 0) (pa_cons (pe_gv (v := .ref (cA 28)) rfl ⟨_, M.m 28 (by decide), rfl⟩) pa_nil))) (pa_cons (pe_callB call_isO (by rfl) T.n_isinstance (by decide +kernel) (pa_cons (pv 0) (pa_cons (pe_gv (v := .ref (cA 29)) rfl ⟨_, M.m 29 (by decide), rfl⟩) pa_nil))) pa_nil)))))))
      (pss_cons (ps_set (i := 1) sc_kinds.nd rfl (Or.inl rfl) (pe_op op_cat (pv 1) (pe_lst (pa_cons (pe_callB call_isO (by rfl) T.n_isinstance (by decide +kernel) (pa_cons (pv 0) (pa_cons (pe_gv (v := .ref (cA 30)) rfl ⟨_, M.m 30 (by decide), rfl⟩) pa_nil))) (pa_cons (pe_callB call_isO (by rfl) T.n_isinstance (by decide +kernel) (pa_cons (pv 0) (pa_cons (pe_gv (v := .ref (cA 31)) rfl ⟨_, M.m 31 (by decide), rfl⟩) pa_nil))) (pa_cons (pe_callB call_isO (by rfl) T.n_isinstance (by decide +kernel) (pa_cons (pv 0) (pa_cons (pe_gv (v := .ref (cA 32)) rfl ⟨_, M.m 32 (by decide), rfl⟩) pa_nil))) (pa_cons (pe_callB call_isO (by rfl) T.n_isinstance (by decide +kernel) (pa_cons (pv 0) (pa_cons (pe_gv (v := .ref (cA 33)) rfl ⟨_, M.m 33 (by decide), rfl⟩) pa_nil))) pa_nil)))))))
      (pss_cons (ps_set (i := 1) sc_kinds.nd rfl (Or.inl rfl) (pe_op op_cat (pv 1) (pe_lst (pa_cons (pe_callB call_isO (by rfl) T.n_isinstance (by decide +kernel) (pa_cons (pv 0) (pa_cons (pe_gv (v := .ref (cA 34)) rfl ⟨_, M.m 34 (by decide), rfl⟩) pa_nil))) (pa_cons (pe_callB call_isO (by rfl) T.n_isinstance (by decide +kernel) (pa_cons (pv 0) (pa_cons (pe_gv (v := .ref (cA 35)) rfl ⟨_, M.m 35 (by decide), rfl⟩) pa_nil))) (pa_cons (pe_callB call_isO (by rfl) T.n_isinstance (by decide +kernel) (pa_cons (pv 0) (pa_cons (pe_gv (v := .ref (cA 36)) rfl ⟨_, M.m 36 (by decide), rfl⟩) pa_nil))) pa_nil))))))
      (pss_one (ps_ret (pe_op op_cat (pv 1) (pe_lst (pa_cons (pe_callB call_isO (by rfl) T.n_isinstance (by decide +kernel) (pa_cons (pv 0) (pa_cons (pe_gv (v := .ref (cA 37)) rfl ⟨_, M.m 37 (by decide), rfl⟩) pa_nil))) (pa_cons (pe_callB call_isO (by rfl) T.n_isinstance (by decide +kernel) (pa_cons (pv 0) (pa_cons (pe_gv (v := .ref (cA 38)) rfl ⟨_, M.m 38 (by decide), rfl⟩) pa_nil))) (pa_cons (pe_callB call_isO (by rfl) T.n_isinstance (by decide +kernel) (pa_cons (pv 0) (pa_cons (pe_gv (v := .ref (cA 39)) rfl ⟨_, M.m 39 (by decide), rfl⟩) pa_nil))) pa_nil)))))))))))), ?_⟩
    refine ⟨_, rfl, .ref a, i, rfl, hi, ⟨a, d, rfl, ea, hd⟩, fun H0 L0 s0 _ f0 => ?_⟩
    replace f0 : H0 L0 = some (.lst [V.bl (decide (0 = i)), V.bl (decide (1 = i)), V.bl (decide (2 = i)), V.bl (decide (3 = i)), V.bl (decide (4 = i)), V.bl (decide (5 = i)), V.bl (decide (6 = i)), V.bl (decide (7 = i)), V.bl (decide (8 = i)), V.bl (decide (9 = i)), V.bl (decide (10 = i)), V.bl (decide (11 = i)), V.bl (decide (12 = i)), V.bl (decide (13 = i)), V.bl (decide (14 = i)), V.bl (decide (15 = i)), V.bl (decide (16 = i)), V.bl (decide (17 = i)), V.bl (decide (18 = i)), V.bl (decide (19 = i))]) := f0
    replace ea := s0 _ _ ea
    replace hd : ∀ dd, d = some dd → ∃ fs, H0 dd = some (exd dd fs) := fun dd q => let ⟨fs, e⟩ := hd dd q; ⟨fs, s0 _ _ e⟩
    refine ⟨_, rfl, a, cA i, d, _, _, _, rfl, ea, hd, M.xf i hi, M.xk i hi, .own _, M.k i 20 hi (by decide), _, rfl, a, cA i, d, _, _, _, rfl, ea, hd, M.xf i hi, M.xk i hi, .own _, M.k i 21 hi (by decide), _, rfl, a, cA i, d, _, _, _, rfl, ea, hd, M.xf i hi, M.xk i hi, .own _, M.k i 22 hi (by decide), by show 3 ≤ sizeLine; decide, fun M0 m0 => ?_⟩
    have t0 := Ask.Same.made1 (o := .lst [V.bl (decide (20 = i)), V.bl (decide (21 = i)), V.bl (decide (22 = i))]) s0 m0
    have g0 : upd H0 M0 (.lst [V.bl (decide (20 = i)), V.bl (decide (21 = i)), V.bl (decide (22 = i))]) M0 = some (.lst [V.bl (decide (20 = i)), V.bl (decide (21 = i)), V.bl (decide (22 = i))]) := upd_same
    have u0 := Ask.Same.made1 (o := .lst [V.bl (decide (20 = i)), V.bl (decide (21 = i)), V.bl (decide (22 = i))]) (Same.refl H0) m0
    replace f0 := u0 _ _ f0
    replace ea := u0 _ _ ea
    replace hd : ∀ dd, d = some dd → ∃ fs, upd H0 M0 (.lst [V.bl (decide (20 = i)), V.bl (decide (21 = i)), V.bl (decide (22 = i))]) dd = some (exd dd fs) := fun dd q => let ⟨fs, e⟩ := hd dd q; ⟨fs, u0 _ _ e⟩
    clear u0
    generalize upd H0 M0 (.lst [V.bl (decide (20 = i)), V.bl (decide (21 = i)), V.bl (decide (22 = i))]) = J0 at t0 f0 g0 ea hd ⊢
    refine ⟨L0, M0, _, _, rfl, rfl, f0, g0, by show 23 ≤ sizeLine; decide, fun L0' n0 => ?_⟩
    have s1 := Ask.Same.made1 (o := .lst ([V.bl (decide (0 = i)), V.bl (decide (1 = i)), V.bl (decide (2 = i)), V.bl (decide (3 = i)), V.bl (decide (4 = i)), V.bl (decide (5 = i)), V.bl (decide (6 = i)), V.bl (decide (7 = i)), V.bl (decide (8 = i)), V.bl (decide (9 = i)), V.bl (decide (10 = i)), V.bl (decide (11 = i)), V.bl (decide (12 = i)), V.bl (decide (13 = i)), V.bl (decide (14 = i)), V.bl (decide (15 = i)), V.bl (decide (16 = i)), V.bl (decide (17 = i)), V.bl (decide (18 = i)), V.bl (decide (19 = i))] ++ [V.bl (decide (20 = i)), V.bl (decide (21 = i)), V.bl (decide (22 = i))])) t0 n0
    have f1 : upd J0 L0' (.lst ([V.bl (decide (0 = i)), V.bl (decide (1 = i)), V.bl (decide (2 = i)), V.bl (decide (3 = i)), V.bl (decide (4 = i)), V.bl (decide (5 = i)), V.bl (decide (6 = i)), V.bl (decide (7 = i)), V.bl (decide (8 = i)), V.bl (decide (9 = i)), V.bl (decide (10 = i)), V.bl (decide (11 = i)), V.bl (decide (12 = i)), V.bl (decide (13 = i)), V.bl (decide (14 = i)), V.bl (decide (15 = i)), V.bl (decide (16 = i)), V.bl (decide (17 = i)), V.bl (decide (18 = i)), V.bl (decide (19 = i))] ++ [V.bl (decide (20 = i)), V.bl (decide (21 = i)), V.bl (decide (22 = i))])) L0' = some (.lst [V.bl (decide (0 = i)), V.bl (decide (1 = i)), V.bl (decide (2 = i)), V.bl (decide (3 = i)), V.bl (decide (4 = i)), V.bl (decide (5 = i)), V.bl (decide (6 = i)), V.bl (decide (7 = i)), V.bl (decide (8 = i)), V.bl (decide (9 = i)), V.bl (decide (10 = i)), V.bl (decide (11 = i)), V.bl (decide (12 = i)), V.bl (decide (13 = i)), V.bl (decide (14 = i)), V.bl (decide (15 = i)), V.bl (decide (16 = i)), V.bl (decide (17 = i)), V.bl (decide (18 = i)), V.bl (decide (19 = i)), V.bl (decide (20 = i)), V.bl (decide (21 = i)), V.bl (decide (22 = i))]) := upd_same
    have u1 := Ask.Same.made1 (o := .lst ([V.bl (decide (0 = i)), V.bl (decide (1 = i)), V.bl (decide (2 = i)), V.bl (decide (3 = i)), V.bl (decide (4 = i)), V.bl (decide (5 = i)), V.bl (decide (6 = i)), V.bl (decide (7 = i)), V.bl (decide (8 = i)), V.bl (decide (9 = i)), V.bl (decide (10 = i)), V.bl (decide (11 = i)), V.bl (decide (12 = i)), V.bl (decide (13 = i)), V.bl (decide (14 = i)), V.bl (decide (15 = i)), V.bl (decide (16 = i)), V.bl (decide (17 = i)), V.bl (decide (18 = i)), V.bl (decide (19 = i))] ++ [V.bl (decide (20 = i)), V.bl (decide (21 = i)), V.bl (decide (22 = i))])) (Same.refl J0) n0
    replace ea := u1 _ _ ea
    replace hd : ∀ dd, d = some dd → ∃ fs, upd J0 L0' (.lst ([V.bl (decide (0 = i)), V.bl (decide (1 = i)), V.bl (decide (2 = i)), V.bl (decide (3 = i)), V.bl (decide (4 = i)), V.bl (decide (5 = i)), V.bl (decide (6 = i)), V.bl (decide (7 = i)), V.bl (decide (8 = i)), V.bl (decide (9 = i)), V.bl (decide (10 = i)), V.bl (decide (11 = i)), V.bl (decide (12 = i)), V.bl (decide (13 = i)), V.bl (decide (14 = i)), V.bl (decide (15 = i)), V.bl (decide (16 = i)), V.bl (decide (17 = i)), V.bl (decide (18 = i)), V.bl (decide (19 = i))] ++ [V.bl (decide (20 = i)), V.bl (decide (21 = i)), V.bl (decide (22 = i))])) dd = some (exd dd fs) := fun dd q => let ⟨fs, e⟩ := hd dd q; ⟨fs, u1 _ _ e⟩
    clear u1 f0 g0 s0
    generalize upd J0 L0' (.lst ([V.bl (decide (0 = i)), V.bl (decide (1 = i)), V.bl (decide (2 = i)), V.bl (decide (3 = i)), V.bl (decide (4 = i)), V.bl (decide (5 = i)), V.bl (decide (6 = i)), V.bl (decide (7 = i)), V.bl (decide (8 = i)), V.bl (decide (9 = i)), V.bl (decide (10 = i)), V.bl (decide (11 = i)), V.bl (decide (12 = i)), V.bl (decide (13 = i)), V.bl (decide (14 = i)), V.bl (decide (15 = i)), V.bl (decide (16 = i)), V.bl (decide (17 = i)), V.bl (decide (18 = i)), V.bl (decide (19 = i))] ++ [V.bl (decide (20 = i)), V.bl (decide (21 = i)), V.bl (decide (22 = i))])) = H1 at s1 f1 ea hd ⊢
    clear t0
    refine ⟨_, rfl, _, rfl, a, cA i, d, _, _, _, rfl, ea, hd, M.xf i hi, M.xk i hi, .own _, M.k i 23 hi (by decide), _, rfl, a, cA i, d, _, _, _, rfl, ea, hd, M.xf i hi, M.xk i hi, .own _, M.k i 24 hi (by decide), _, rfl, a, cA i, d, _, _, _, rfl, ea, hd, M.xf i hi, M.xk i hi, .own _, M.k i 25 hi (by decide), by show 3 ≤ sizeLine; decide, fun M1 m1 => ?_⟩
    have t1 := Ask.Same.made1 (o := .lst [V.bl (decide (23 = i)), V.bl (decide (24 = i)), V.bl (decide (25 = i))]) s1 m1
    have g1 : upd H1 M1 (.lst [V.bl (decide (23 = i)), V.bl (decide (24 = i)), V.bl (decide (25 = i))]) M1 = some (.lst [V.bl (decide (23 = i)), V.bl (decide (24 = i)), V.bl (decide (25 = i))]) := upd_same
    have u1 := Ask.Same.made1 (o := .lst [V.bl (decide (23 = i)), V.bl (decide (24 = i)), V.bl (decide (25 = i))]) (Same.refl H1) m1
    replace f1 := u1 _ _ f1
    replace ea := u1 _ _ ea
    replace hd : ∀ dd, d = some dd → ∃ fs, upd H1 M1 (.lst [V.bl (decide (23 = i)), V.bl (decide (24 = i)), V.bl (decide (25 = i))]) dd = some (exd dd fs) := fun dd q => let ⟨fs, e⟩ := hd dd q; ⟨fs, u1 _ _ e⟩
    clear u1
    generalize upd H1 M1 (.lst [V.bl (decide (23 = i)), V.bl (decide (24 = i)), V.bl (decide (25 = i))]) = J1 at t1 f1 g1 ea hd ⊢
    refine ⟨L0', M1, _, _, rfl, rfl, f1, g1, by show 26 ≤ sizeLine; decide, fun L1 n1 => ?_⟩
    have s2 := Ask.Same.made1 (o := .lst ([V.bl (decide (0 = i)), V.bl (decide (1 = i)), V.bl (decide (2 = i)), V.bl (decide (3 = i)), V.bl (decide (4 = i)), V.bl (decide (5 = i)), V.bl (decide (6 = i)), V.bl (decide (7 = i)), V.bl (decide (8 = i)), V.bl (decide (9 = i)), V.bl (decide (10 = i)), V.bl (decide (11 = i)), V.bl (decide (12 = i)), V.bl (decide (13 = i)), V.bl (decide (14 = i)), V.bl (decide (15 = i)), V.bl (decide (16 = i)), V.bl (decide (17 = i)), V.bl (decide (18 = i)), V.bl (decide (19 = i)), V.bl (decide (20 = i)), V.bl (decide (21 = i)), V.bl (decide (22 = i))] ++ [V.bl (decide (23 = i)), V.bl (decide (24 = i)), V.bl (decide (25 = i))])) t1 n1
    have f2 : upd J1 L1 (.lst ([V.bl (decide (0 = i)), V.bl (decide (1 = i)), V.bl (decide (2 = i)), V.bl (decide (3 = i)), V.bl (decide (4 = i)), V.bl (decide (5 = i)), V.bl (decide (6 = i)), V.bl (decide (7 = i)), V.bl (decide (8 = i)), V.bl (decide (9 = i)), V.bl (decide (10 = i)), V.bl (decide (11 = i)), V.bl (decide (12 = i)), V.bl (decide (13 = i)), V.bl (decide (14 = i)), V.bl (decide (15 = i)), V.bl (decide (16 = i)), V.bl (decide (17 = i)), V.bl (decide (18 = i)), V.bl (decide (19 = i)), V.bl (decide (20 = i)), V.bl (decide (21 = i)), V.bl (decide (22 = i))] ++ [V.bl (decide (23 = i)), V.bl (decide (24 = i)), V.bl (decide (25 = i))])) L1 = some (.lst [V.bl (decide (0 = i)), V.bl (decide (1 = i)), V.bl (decide (2 = i)), V.bl (decide (3 = i)), V.bl (decide (4 = i)), V.bl (decide (5 = i)), V.bl (decide (6 = i)), V.bl (decide (7 = i)), V.bl (decide (8 = i)), V.bl (decide (9 = i)), V.bl (decide (10 = i)), V.bl (decide (11 = i)), V.bl (decide (12 = i)), V.bl (decide (13 = i)), V.bl (decide (14 = i)), V.bl (decide (15 = i)), V.bl (decide (16 = i)), V.bl (decide (17 = i)), V.bl (decide (18 = i)), V.bl (decide (19 = i)), V.bl (decide (20 = i)), V.bl (decide (21 = i)), V.bl (decide (22 = i)), V.bl (decide (23 = i)), V.bl (decide (24 = i)), V.bl (decide (25 = i))]) := upd_same
    have u2 := Ask.Same.made1 (o := .lst ([V.bl (decide (0 = i)), V.bl (decide (1 = i)), V.bl (decide (2 = i)), V.bl (decide (3 = i)), V.bl (decide (4 = i)), V.bl (decide (5 = i)), V.bl (decide (6 = i)), V.bl (decide (7 = i)), V.bl (decide (8 = i)), V.bl (decide (9 = i)), V.bl (decide (10 = i)), V.bl (decide (11 = i)), V.bl (decide (12 = i)), V.bl (decide (13 = i)), V.bl (decide (14 = i)), V.bl (decide (15 = i)), V.bl (decide (16 = i)), V.bl (decide (17 = i)), V.bl (decide (18 = i)), V.bl (decide (19 = i)), V.bl (decide (20 = i)), V.bl (decide (21 = i)), V.bl (decide (22 = i))] ++ [V.bl (decide (23 = i)), V.bl (decide (24 = i)), V.bl (decide (25 = i))])) (Same.refl J1) n1
    replace ea := u2 _ _ ea
    replace hd : ∀ dd, d = some dd → ∃ fs, upd J1 L1 (.lst ([V.bl (decide (0 = i)), V.bl (decide (1 = i)), V.bl (decide (2 = i)), V.bl (decide (3 = i)), V.bl (decide (4 = i)), V.bl (decide (5 = i)), V.bl (decide (6 = i)), V.bl (decide (7 = i)), V.bl (decide (8 = i)), V.bl (decide (9 = i)), V.bl (decide (10 = i)), V.bl (decide (11 = i)), V.bl (decide (12 = i)), V.bl (decide (13 = i)), V.bl (decide (14 = i)), V.bl (decide (15 = i)), V.bl (decide (16 = i)), V.bl (decide (17 = i)), V.bl (decide (18 = i)), V.bl (decide (19 = i)), V.bl (decide (20 = i)), V.bl (decide (21 = i)), V.bl (decide (22 = i))] ++ [V.bl (decide (23 = i)), V.bl (decide (24 = i)), V.bl (decide (25 = i))])) dd = some (exd dd fs) := fun dd q => let ⟨fs, e⟩ := hd dd q; ⟨fs, u2 _ _ e⟩
    clear u2 f1 g1 s1
    generalize upd J1 L1 (.lst ([V.bl (decide (0 = i)), V.bl (decide (1 = i)), V.bl (decide (2 = i)), V.bl (decide (3 = i)), V.bl (decide (4 = i)), V.bl (decide (5 = i)), V.bl (decide (6 = i)), V.bl (decide (7 = i)), V.bl (decide (8 = i)), V.bl (decide (9 = i)), V.bl (decide (10 = i)), V.bl (decide (11 = i)), V.bl (decide (12 = i)), V.bl (decide (13 = i)), V.bl (decide (14 = i)), V.bl (decide (15 = i)), V.bl (decide (16 = i)), V.bl (decide (17 = i)), V.bl (decide (18 = i)), V.bl (decide (19 = i)), V.bl (decide (20 = i)), V.bl (decide (21 = i)), V.bl (decide (22 = i))] ++ [V.bl (decide (23 = i)), V.bl (decide (24 = i)), V.bl (decide (25 = i))])) = H2 at s2 f2 ea hd ⊢
    clear t1
    refine ⟨_, rfl, _, rfl, a, cA i, d, _, _, _, rfl, ea, hd, M.xf i hi, M.xk i hi, .own _, M.k i 26 hi (by decide), _, rfl, a, cA i, d, _, _, _, rfl, ea, hd, M.xf i hi, M.xk i hi, .own _, M.k i 27 hi (by decide), _, rfl, a, cA i, d, _, _, _, rfl, ea, hd, M.xf i hi, M.xk i hi, .own _, M.k i 28 hi (by decide), _, rfl, a, cA i, d, _, _, _, rfl, ea, hd, M.xf i hi, M.xk i hi, .own _, M.k i 29 hi (by decide), by show 4 ≤ sizeLine; decide, fun M2 m2 => ?_⟩
    have t2 := Ask.Same.made1 (o := .lst [V.bl (decide (26 = i)), V.bl (decide (27 = i)), V.bl (decide (28 = i)), V.bl (decide (29 = i))]) s2 m2
    have g2 : upd H2 M2 (.lst [V.bl (decide (26 = i)), V.bl (decide (27 = i)), V.bl (decide (28 = i)), V.bl (decide (29 = i))]) M2 = some (.lst [V.bl (decide (26 = i)), V.bl (decide (27 = i)), V.bl (decide (28 = i)), V.bl (decide (29 = i))]) := upd_same
    have u2 := Ask.Same.made1 (o := .lst [V.bl (decide (26 = i)), V.bl (decide (27 = i)), V.bl (decide (28 = i)), V.bl (decide (29 = i))]) (Same.refl H2) m2
    replace f2 := u2 _ _ f2
    replace ea := u2 _ _ ea
    replace hd : ∀ dd, d = some dd → ∃ fs, upd H2 M2 (.lst [V.bl (decide (26 = i)), V.bl (decide (27 = i)), V.bl (decide (28 = i)), V.bl (decide (29 = i))]) dd = some (exd dd fs) := fun dd q => let ⟨fs, e⟩ := hd dd q; ⟨fs, u2 _ _ e⟩
    clear u2
    generalize upd H2 M2 (.lst [V.bl (decide (26 = i)), V.bl (decide (27 = i)), V.bl (decide (28 = i)), V.bl (decide (29 = i))]) = J2 at t2 f2 g2 ea hd ⊢
    refine ⟨L1, M2, _, _, rfl, rfl, f2, g2, by show 30 ≤ sizeLine; decide, fun L2 n2 => ?_⟩
    have s3 := Ask.Same.made1 (o := .lst ([V.bl (decide (0 = i)), V.bl (decide (1 = i)), V.bl (decide (2 = i)), V.bl (decide (3 = i)), V.bl (decide (4 = i)), V.bl (decide (5 = i)), V.bl (decide (6 = i)), V.bl (decide (7 = i)), V.bl (decide (8 = i)), V.bl (decide (9 = i)), V.bl (decide (10 = i)), V.bl (decide (11 = i)), V.bl (decide (12 = i)), V.bl (decide (13 = i)), V.bl (decide (14 = i)), V.bl (decide (15 = i)), V.bl (decide (16 = i)), V.bl (decide (17 = i)), V.bl (decide (18 = i)), V.bl (decide (19 = i)), V.bl (decide (20 = i)), V.bl (decide (21 = i)), V.bl (decide (22 = i)), V.bl (decide (23 = i)), V.bl (decide (24 = i)), V.bl (decide (25 = i))] ++ [V.bl (decide (26 = i)), V.bl (decide (27 = i)), V.bl (decide (28 = i)), V.bl (decide (29 = i))])) t2 n2
    have f3 : upd J2 L2 (.lst ([V.bl (decide (0 = i)), V.bl (decide (1 = i)), V.bl (decide (2 = i)), V.bl (decide (3 = i)), V.bl (decide (4 = i)), V.bl (decide (5 = i)), V.bl (decide (6 = i)), V.bl (decide (7 = i)), V.bl (decide (8 = i)), V.bl (decide (9 = i)), V.bl (decide (10 = i)), V.bl (decide (11 = i)), V.bl (decide (12 = i)), V.bl (decide (13 = i)), V.bl (decide (14 = i)), V.bl (decide (15 = i)), V.bl (decide (16 = i)), V.bl (decide (17 = i)), V.bl (decide (18 = i)), V.bl (decide (19 = i)), V.bl (decide (20 = i)), V.bl (decide (21 = i)), V.bl (decide (22 = i)), V.bl (decide (23 = i)), V.bl (decide (24 = i)), V.bl (decide (25 = i))] ++ [V.bl (decide (26 = i)), V.bl (decide (27 = i)), V.bl (decide (28 = i)), V.bl (decide (29 = i))])) L2 = some (.lst [V.bl (decide (0 = i)), V.bl (decide (1 = i)), V.bl (decide (2 = i)), V.bl (decide (3 = i)), V.bl (decide (4 = i)), V.bl (decide (5 = i)), V.bl (decide (6 = i)), V.bl (decide (7 = i)), V.bl (decide (8 = i)), V.bl (decide (9 = i)), V.bl (decide (10 = i)), V.bl (decide (11 = i)), V.bl (decide (12 = i)), V.bl (decide (13 = i)), V.bl (decide (14 = i)), V.bl (decide (15 = i)), V.bl (decide (16 = i)), V.bl (decide (17 = i)), V.bl (decide (18 = i)), V.bl (decide (19 = i)), V.bl (decide (20 = i)), V.bl (decide (21 = i)), V.bl (decide (22 = i)), V.bl (decide (23 = i)), V.bl (decide (24 = i)), V.bl (decide (25 = i)), V.bl (decide (26 = i)), V.bl (decide (27 = i)), V.bl (decide (28 = i)), V.bl (decide (29 = i))]) := upd_same
    have u3 := Ask.Same.made1 (o := .lst ([V.bl (decide (0 = i)), V.bl (decide (1 = i)), V.bl (decide (2 = i)), V.bl (decide (3 = i)), V.bl (decide (4 = i)), V.bl (decide (5 = i)), V.bl (decide (6 = i)), V.bl (decide (7 = i)), V.bl (decide (8 = i)), V.bl (decide (9 = i)), V.bl (decide (10 = i)), V.bl (decide (11 = i)), V.bl (decide (12 = i)), V.bl (decide (13 = i)), V.bl (decide (14 = i)), V.bl (decide (15 = i)), V.bl (decide (16 = i)), V.bl (decide (17 = i)), V.bl (decide (18 = i)), V.bl (decide (19 = i)), V.bl (decide (20 = i)), V.bl (decide (21 = i)), V.bl (decide (22 = i)), V.bl (decide (23 = i)), V.bl (decide (24 = i)), V.bl (decide (25 = i))] ++ [V.bl (decide (26 = i)), V.bl (decide (27 = i)), V.bl (decide (28 = i)), V.bl (decide (29 = i))])) (Same.refl J2) n2
    replace ea := u3 _ _ ea
    replace hd : ∀ dd, d = some dd → ∃ fs, upd J2 L2 (.lst ([V.bl (decide (0 = i)), V.bl (decide (1 = i)), V.bl (decide (2 = i)), V.bl (decide (3 = i)), V.bl (decide (4 = i)), V.bl (decide (5 = i)), V.bl (decide (6 = i)), V.bl (decide (7 = i)), V.bl (decide (8 = i)), V.bl (decide (9 = i)), V.bl (decide (10 = i)), V.bl (decide (11 = i)), V.bl (decide (12 = i)), V.bl (decide (13 = i)), V.bl (decide (14 = i)), V.bl (decide (15 = i)), V.bl (decide (16 = i)), V.bl (decide (17 = i)), V.bl (decide (18 = i)), V.bl (decide (19 = i)), V.bl (decide (20 = i)), V.bl (decide (21 = i)), V.bl (decide (22 = i)), V.bl (decide (23 = i)), V.bl (decide (24 = i)), V.bl (decide (25 = i))] ++ [V.bl (decide (26 = i)), V.bl (decide (27 = i)), V.bl (decide (28 = i)), V.bl (decide (29 = i))])) dd = some (exd dd fs) := fun dd q => let ⟨fs, e⟩ := hd dd q; ⟨fs, u3 _ _ e⟩
    clear u3 f2 g2 s2
    generalize upd J2 L2 (.lst ([V.bl (decide (0 = i)), V.bl (decide (1 = i)), V.bl (decide (2 = i)), V.bl (decide (3 = i)), V.bl (decide (4 = i)), V.bl (decide (5 = i)), V.bl (decide (6 = i)), V.bl (decide (7 = i)), V.bl (decide (8 = i)), V.bl (decide (9 = i)), V.bl (decide (10 = i)), V.bl (decide (11 = i)), V.bl (decide (12 = i)), V.bl (decide (13 = i)), V.bl (decide (14 = i)), V.bl (decide (15 = i)), V.bl (decide (16 = i)), V.bl (decide (17 = i)), V.bl (decide (18 = i)), V.bl (decide (19 = i)), V.bl (decide (20 = i)), V.bl (decide (21 = i)), V.bl (decide (22 = i)), V.bl (decide (23 = i)), V.bl (decide (24 = i)), V.bl (decide (25 = i))] ++ [V.bl (decide (26 = i)), V.bl (decide (27 = i)), V.bl (decide (28 = i)), V.bl (decide (29 = i))])) = H3 at s3 f3 ea hd ⊢
    clear t2
    refine ⟨_, rfl, _, rfl, a, cA i, d, _, _, _, rfl, ea, hd, M.xf i hi, M.xk i hi, .own _, M.k i 30 hi (by decide), _, rfl, a, cA i, d, _, _, _, rfl, ea, hd, M.xf i hi, M.xk i hi, .own _, M.k i 31 hi (by decide), _, rfl, a, cA i, d, _, _, _, rfl, ea, hd, M.xf i hi, M.xk i hi, .own _, M.k i 32 hi (by decide), _, rfl, a, cA i, d, _, _, _, rfl, ea, hd, M.xf i hi, M.xk i hi, .own _, M.k i 33 hi (by decide), by show 4 ≤ sizeLine; decide, fun M3 m3 => ?_⟩
    have t3 := Ask.Same.made1 (o := .lst [V.bl (decide (30 = i)), V.bl (decide (31 = i)), V.bl (decide (32 = i)), V.bl (decide (33 = i))]) s3 m3
    have g3 : upd H3 M3 (.lst [V.bl (decide (30 = i)), V.bl (decide (31 = i)), V.bl (decide (32 = i)), V.bl (decide (33 = i))]) M3 = some (.lst [V.bl (decide (30 = i)), V.bl (decide (31 = i)), V.bl (decide (32 = i)), V.bl (decide (33 = i))]) := upd_same
    have u3 := Ask.Same.made1 (o := .lst [V.bl (decide (30 = i)), V.bl (decide (31 = i)), V.bl (decide (32 = i)), V.bl (decide (33 = i))]) (Same.refl H3) m3
    replace f3 := u3 _ _ f3
    replace ea := u3 _ _ ea
    replace hd : ∀ dd, d = some dd → ∃ fs, upd H3 M3 (.lst [V.bl (decide (30 = i)), V.bl (decide (31 = i)), V.bl (decide (32 = i)), V.bl (decide (33 = i))]) dd = some (exd dd fs) := fun dd q => let ⟨fs, e⟩ := hd dd q; ⟨fs, u3 _ _ e⟩
    clear u3
    generalize upd H3 M3 (.lst [V.bl (decide (30 = i)), V.bl (decide (31 = i)), V.bl (decide (32 = i)), V.bl (decide (33 = i))]) = J3 at t3 f3 g3 ea hd ⊢
    refine ⟨L2, M3, _, _, rfl, rfl, f3, g3, by show 34 ≤ sizeLine; decide, fun L3 n3 => ?_⟩
    have s4 := Ask.Same.made1 (o := .lst ([V.bl (decide (0 = i)), V.bl (decide (1 = i)), V.bl (decide (2 = i)), V.bl (decide (3 = i)), V.bl (decide (4 = i)), V.bl (decide (5 = i)), V.bl (decide (6 = i)), V.bl (decide (7 = i)), V.bl (decide (8 = i)), V.bl (decide (9 = i)), V.bl (decide (10 = i)), V.bl (decide (11 = i)), V.bl (decide (12 = i)), V.bl (decide (13 = i)), V.bl (decide (14 = i)), V.bl (decide (15 = i)), V.bl (decide (16 = i)), V.bl (decide (17 = i)), V.bl (decide (18 = i)), V.bl (decide (19 = i)), V.bl (decide (20 = i)), V.bl (decide (21 = i)), V.bl (decide (22 = i)), V.bl (decide (23 = i)), V.bl (decide (24 = i)), V.bl (decide (25 = i)), V.bl (decide (26 = i)), V.bl (decide (27 = i)), V.bl (decide (28 = i)), V.bl (decide (29 = i))] ++ [V.bl (decide (30 = i)), V.bl (decide (31 = i)), V.bl (decide (32 = i)), V.bl (decide (33 = i))])) t3 n3
    have f4 : upd J3 L3 (.lst ([V.bl (decide (0 = i)), V.bl (decide (1 = i)), V.bl (decide (2 = i)), V.bl (decide (3 = i)), V.bl (decide (4 = i)), V.bl (decide (5 = i)), V.bl (decide (6 = i)), V.bl (decide (7 = i)), V.bl (decide (8 = i)), V.bl (decide (9 = i)), V.bl (decide (10 = i)), V.bl (decide (11 = i)), V.bl (decide (12 = i)), V.bl (decide (13 = i)), V.bl (decide (14 = i)), V.bl (decide (15 = i)), V.bl (decide (16 = i)), V.bl (decide (17 = i)), V.bl (decide (18 = i)), V.bl (decide (19 = i)), V.bl (decide (20 = i)), V.bl (decide (21 = i)), V.bl (decide (22 = i)), V.bl (decide (23 = i)), V.bl (decide (24 = i)), V.bl (decide (25 = i)), V.bl (decide (26 = i)), V.bl (decide (27 = i)), V.bl (decide (28 = i)), V.bl (decide (29 = i))] ++ [V.bl (decide (30 = i)), V.bl (decide (31 = i)), V.bl (decide (32 = i)), V.bl (decide (33 = i))])) L3 = some (.lst [V.bl (decide (0 = i)), V.bl (decide (1 = i)), V.bl (decide (2 = i)), V.bl (decide (3 = i)), V.bl (decide (4 = i)), V.bl (decide (5 = i)), V.bl (decide (6 = i)), V.bl (decide (7 = i)), V.bl (decide (8 = i)), V.bl (decide (9 = i)), V.bl (decide (10 = i)), V.bl (decide (11 = i)), V.bl (decide (12 = i)), V.bl (decide (13 = i)), V.bl (decide (14 = i)), V.bl (decide (15 = i)), V.bl (decide (16 = i)), V.bl (decide (17 = i)), V.bl (decide (18 = i)), V.bl (decide (19 = i)), V.bl (decide (20 = i)), V.bl (decide (21 = i)), V.bl (decide (22 = i)), V.bl (decide (23 = i)), V.bl (decide (24 = i)), V.bl (decide (25 = i)), V.bl (decide (26 = i)), V.bl (decide (27 = i)), V.bl (decide (28 = i)), V.bl (decide (29 = i)), V.bl (decide (30 = i)), V.bl (decide (31 = i)), V.bl (decide (32 = i)), V.bl (decide (33 = i))]) := upd_same
    have u4 := Ask.Same.made1 (o := .lst ([V.bl (decide (0 = i)), V.bl (decide (1 = i)), V.bl (decide (2 = i)), V.bl (decide (3 = i)), V.bl (decide (4 = i)), V.bl (decide (5 = i)), V.bl (decide (6 = i)), V.bl (decide (7 = i)), V.bl (decide (8 = i)), V.bl (decide (9 = i)), V.bl (decide (10 = i)), V.bl (decide (11 = i)), V.bl (decide (12 = i)), V.bl (decide (13 = i)), V.bl (decide (14 = i)), V.bl (decide (15 = i)), V.bl (decide (16 = i)), V.bl (decide (17 = i)), V.bl (decide (18 = i)), V.bl (decide (19 = i)), V.bl (decide (20 = i)), V.bl (decide (21 = i)), V.bl (decide (22 = i)), V.bl (decide (23 = i)), V.bl (decide (24 = i)), V.bl (decide (25 = i)), V.bl (decide (26 = i)), V.bl (decide (27 = i)), V.bl (decide (28 = i)), V.bl (decide (29 = i))] ++ [V.bl (decide (30 = i)), V.bl (decide (31 = i)), V.bl (decide (32 = i)), V.bl (decide (33 = i))])) (Same.refl J3) n3
    replace ea := u4 _ _ ea
    replace hd : ∀ dd, d = some dd → ∃ fs, upd J3 L3 (.lst ([V.bl (decide (0 = i)), V.bl (decide (1 = i)), V.bl (decide (2 = i)), V.bl (decide (3 = i)), V.bl (decide (4 = i)), V.bl (decide (5 = i)), V.bl (decide (6 = i)), V.bl (decide (7 = i)), V.bl (decide (8 = i)), V.bl (decide (9 = i)), V.bl (decide (10 = i)), V.bl (decide (11 = i)), V.bl (decide (12 = i)), V.bl (decide (13 = i)), V.bl (decide (14 = i)), V.bl (decide (15 = i)), V.bl (decide (16 = i)), V.bl (decide (17 = i)), V.bl (decide (18 = i)), V.bl (decide (19 = i)), V.bl (decide (20 = i)), V.bl (decide (21 = i)), V.bl (decide (22 = i)), V.bl (decide (23 = i)), V.bl (decide (24 = i)), V.bl (decide (25 = i)), V.bl (decide (26 = i)), V.bl (decide (27 = i)), V.bl (decide (28 = i)), V.bl (decide (29 = i))] ++ [V.bl (decide (30 = i)), V.bl (decide (31 = i)), V.bl (decide (32 = i)), V.bl (decide (33 = i))])) dd = some (exd dd fs) := fun dd q => let ⟨fs, e⟩ := hd dd q; ⟨fs, u4 _ _ e⟩
    clear u4 f3 g3 s3
    generalize upd J3 L3 (.lst ([V.bl (decide (0 = i)), V.bl (decide (1 = i)), V.bl (decide (2 = i)), V.bl (decide (3 = i)), V.bl (decide (4 = i)), V.bl (decide (5 = i)), V.bl (decide (6 = i)), V.bl (decide (7 = i)), V.bl (decide (8 = i)), V.bl (decide (9 = i)), V.bl (decide (10 = i)), V.bl (decide (11 = i)), V.bl (decide (12 = i)), V.bl (decide (13 = i)), V.bl (decide (14 = i)), V.bl (decide (15 = i)), V.bl (decide (16 = i)), V.bl (decide (17 = i)), V.bl (decide (18 = i)), V.bl (decide (19 = i)), V.bl (decide (20 = i)), V.bl (decide (21 = i)), V.bl (decide (22 = i)), V.bl (decide (23 = i)), V.bl (decide (24 = i)), V.bl (decide (25 = i)), V.bl (decide (26 = i)), V.bl (decide (27 = i)), V.bl (decide (28 = i)), V.bl (decide (29 = i))] ++ [V.bl (decide (30 = i)), V.bl (decide (31 = i)), V.bl (decide (32 = i)), V.bl (decide (33 = i))])) = H4 at s4 f4 ea hd ⊢
    clear t3
    refine ⟨_, rfl, _, rfl, a, cA i, d, _, _, _, rfl, ea, hd, M.xf i hi, M.xk i hi, .own _, M.k i 34 hi (by decide), _, rfl, a, cA i, d, _, _, _, rfl, ea, hd, M.xf i hi, M.xk i hi, .own _, M.k i 35 hi (by decide), _, rfl, a, cA i, d, _, _, _, rfl, ea, hd, M.xf i hi, M.xk i hi, .own _, M.k i 36 hi (by decide), by show 3 ≤ sizeLine; decide, fun M4 m4 => ?_⟩
    have t4 := Ask.Same.made1 (o := .lst [V.bl (decide (34 = i)), V.bl (decide (35 = i)), V.bl (decide (36 = i))]) s4 m4
    have g4 : upd H4 M4 (.lst [V.bl (decide (34 = i)), V.bl (decide (35 = i)), V.bl (decide (36 = i))]) M4 = some (.lst [V.bl (decide (34 = i)), V.bl (decide (35 = i)), V.bl (decide (36 = i))]) := upd_same
    have u4 := Ask.Same.made1 (o := .lst [V.bl (decide (34 = i)), V.bl (decide (35 = i)), V.bl (decide (36 = i))]) (Same.refl H4) m4
    replace f4 := u4 _ _ f4
    replace ea := u4 _ _ ea
    replace hd : ∀ dd, d = some dd → ∃ fs, upd H4 M4 (.lst [V.bl (decide (34 = i)), V.bl (decide (35 = i)), V.bl (decide (36 = i))]) dd = some (exd dd fs) := fun dd q => let ⟨fs, e⟩ := hd dd q; ⟨fs, u4 _ _ e⟩
    clear u4
    generalize upd H4 M4 (.lst [V.bl (decide (34 = i)), V.bl (decide (35 = i)), V.bl (decide (36 = i))]) = J4 at t4 f4 g4 ea hd ⊢
    refine ⟨L3, M4, _, _, rfl, rfl, f4, g4, by show 37 ≤ sizeLine; decide, fun L4 n4 => ?_⟩
    have s5 := Ask.Same.made1 (o := .lst ([V.bl (decide (0 = i)), V.bl (decide (1 = i)), V.bl (decide (2 = i)), V.bl (decide (3 = i)), V.bl (decide (4 = i)), V.bl (decide (5 = i)), V.bl (decide (6 = i)), V.bl (decide (7 = i)), V.bl (decide (8 = i)), V.bl (decide (9 = i)), V.bl (decide (10 = i)), V.bl (decide (11 = i)), V.bl (decide (12 = i)), V.bl (decide (13 = i)), V.bl (decide (14 = i)), V.bl (decide (15 = i)), V.bl (decide (16 = i)), V.bl (decide (17 = i)), V.bl (decide (18 = i)), V.bl (decide (19 = i)), V.bl (decide (20 = i)), V.bl (decide (21 = i)), V.bl (decide (22 = i)), V.bl (decide (23 = i)), V.bl (decide (24 = i)), V.bl (decide (25 = i)), V.bl (decide (26 = i)), V.bl (decide (27 = i)), V.bl (decide (28 = i)), V.bl (decide (29 = i)), V.bl (decide (30 = i)), V.bl (decide (31 = i)), V.bl (decide (32 = i)), V.bl (decide (33 = i))] ++ [V.bl (decide (34 = i)), V.bl (decide (35 = i)), V.bl (decide (36 = i))])) t4 n4
    have f5 : upd J4 L4 (.lst ([V.bl (decide (0 = i)), V.bl (decide (1 = i)), V.bl (decide (2 = i)), V.bl (decide (3 = i)), V.bl (decide (4 = i)), V.bl (decide (5 = i)), V.bl (decide (6 = i)), V.bl (decide (7 = i)), V.bl (decide (8 = i)), V.bl (decide (9 = i)), V.bl (decide (10 = i)), V.bl (decide (11 = i)), V.bl (decide (12 = i)), V.bl (decide (13 = i)), V.bl (decide (14 = i)), V.bl (decide (15 = i)), V.bl (decide (16 = i)), V.bl (decide (17 = i)), V.bl (decide (18 = i)), V.bl (decide (19 = i)), V.bl (decide (20 = i)), V.bl (decide (21 = i)), V.bl (decide (22 = i)), V.bl (decide (23 = i)), V.bl (decide (24 = i)), V.bl (decide (25 = i)), V.bl (decide (26 = i)), V.bl (decide (27 = i)), V.bl (decide (28 = i)), V.bl (decide (29 = i)), V.bl (decide (30 = i)), V.bl (decide (31 = i)), V.bl (decide (32 = i)), V.bl (decide (33 = i))] ++ [V.bl (decide (34 = i)), V.bl (decide (35 = i)), V.bl (decide (36 = i))])) L4 = some (.lst [V.bl (decide (0 = i)), V.bl (decide (1 = i)), V.bl (decide (2 = i)), V.bl (decide (3 = i)), V.bl (decide (4 = i)), V.bl (decide (5 = i)), V.bl (decide (6 = i)), V.bl (decide (7 = i)), V.bl (decide (8 = i)), V.bl (decide (9 = i)), V.bl (decide (10 = i)), V.bl (decide (11 = i)), V.bl (decide (12 = i)), V.bl (decide (13 = i)), V.bl (decide (14 = i)), V.bl (decide (15 = i)), V.bl (decide (16 = i)), V.bl (decide (17 = i)), V.bl (decide (18 = i)), V.bl (decide (19 = i)), V.bl (decide (20 = i)), V.bl (decide (21 = i)), V.bl (decide (22 = i)), V.bl (decide (23 = i)), V.bl (decide (24 = i)), V.bl (decide (25 = i)), V.bl (decide (26 = i)), V.bl (decide (27 = i)), V.bl (decide (28 = i)), V.bl (decide (29 = i)), V.bl (decide (30 = i)), V.bl (decide (31 = i)), V.bl (decide (32 = i)), V.bl (decide (33 = i)), V.bl (decide (34 = i)), V.bl (decide (35 = i)), V.bl (decide (36 = i))]) := upd_same
    have u5 := Ask.Same.made1 (o := .lst ([V.bl (decide (0 = i)), V.bl (decide (1 = i)), V.bl (decide (2 = i)), V.bl (decide (3 = i)), V.bl (decide (4 = i)), V.bl (decide (5 = i)), V.bl (decide (6 = i)), V.bl (decide (7 = i)), V.bl (decide (8 = i)), V.bl (decide (9 = i)), V.bl (decide (10 = i)), V.bl (decide (11 = i)), V.bl (decide (12 = i)), V.bl (decide (13 = i)), V.bl (decide (14 = i)), V.bl (decide (15 = i)), V.bl (decide (16 = i)), V.bl (decide (17 = i)), V.bl (decide (18 = i)), V.bl (decide (19 = i)), V.bl (decide (20 = i)), V.bl (decide (21 = i)), V.bl (decide (22 = i)), V.bl (decide (23 = i)), V.bl (decide (24 = i)), V.bl (decide (25 = i)), V.bl (decide (26 = i)), V.bl (decide (27 = i)), V.bl (decide (28 = i)), V.bl (decide (29 = i)), V.bl (decide (30 = i)), V.bl (decide (31 = i)), V.bl (decide (32 = i)), V.bl (decide (33 = i))] ++ [V.bl (decide (34 = i)), V.bl (decide (35 = i)), V.bl (decide (36 = i))])) (Same.refl J4) n4
    replace ea := u5 _ _ ea
    replace hd : ∀ dd, d = some dd → ∃ fs, upd J4 L4 (.lst ([V.bl (decide (0 = i)), V.bl (decide (1 = i)), V.bl (decide (2 = i)), V.bl (decide (3 = i)), V.bl (decide (4 = i)), V.bl (decide (5 = i)), V.bl (decide (6 = i)), V.bl (decide (7 = i)), V.bl (decide (8 = i)), V.bl (decide (9 = i)), V.bl (decide (10 = i)), V.bl (decide (11 = i)), V.bl (decide (12 = i)), V.bl (decide (13 = i)), V.bl (decide (14 = i)), V.bl (decide (15 = i)), V.bl (decide (16 = i)), V.bl (decide (17 = i)), V.bl (decide (18 = i)), V.bl (decide (19 = i)), V.bl (decide (20 = i)), V.bl (decide (21 = i)), V.bl (decide (22 = i)), V.bl (decide (23 = i)), V.bl (decide (24 = i)), V.bl (decide (25 = i)), V.bl (decide (26 = i)), V.bl (decide (27 = i)), V.bl (decide (28 = i)), V.bl (decide (29 = i)), V.bl (decide (30 = i)), V.bl (decide (31 = i)), V.bl (decide (32 = i)), V.bl (decide (33 = i))] ++ [V.bl (decide (34 = i)), V.bl (decide (35 = i)), V.bl (decide (36 = i))])) dd = some (exd dd fs) := fun dd q => let ⟨fs, e⟩ := hd dd q; ⟨fs, u5 _ _ e⟩
    clear u5 f4 g4 s4
    generalize upd J4 L4 (.lst ([V.bl (decide (0 = i)), V.bl (decide (1 = i)), V.bl (decide (2 = i)), V.bl (decide (3 = i)), V.bl (decide (4 = i)), V.bl (decide (5 = i)), V.bl (decide (6 = i)), V.bl (decide (7 = i)), V.bl (decide (8 = i)), V.bl (decide (9 = i)), V.bl (decide (10 = i)), V.bl (decide (11 = i)), V.bl (decide (12 = i)), V.bl (decide (13 = i)), V.bl (decide (14 = i)), V.bl (decide (15 = i)), V.bl (decide (16 = i)), V.bl (decide (17 = i)), V.bl (decide (18 = i)), V.bl (decide (19 = i)), V.bl (decide (20 = i)), V.bl (decide (21 = i)), V.bl (decide (22 = i)), V.bl (decide (23 = i)), V.bl (decide (24 = i)), V.bl (decide (25 = i)), V.bl (decide (26 = i)), V.bl (decide (27 = i)), V.bl (decide (28 = i)), V.bl (decide (29 = i)), V.bl (decide (30 = i)), V.bl (decide (31 = i)), V.bl (decide (32 = i)), V.bl (decide (33 = i))] ++ [V.bl (decide (34 = i)), V.bl (decide (35 = i)), V.bl (decide (36 = i))])) = H5 at s5 f5 ea hd ⊢
    clear t4
    refine ⟨_, rfl, _, rfl, a, cA i, d, _, _, _, rfl, ea, hd, M.xf i hi, M.xk i hi, .own _, M.k i 37 hi (by decide), _, rfl, a, cA i, d, _, _, _, rfl, ea, hd, M.xf i hi, M.xk i hi, .own _, M.k i 38 hi (by decide), _, rfl, a, cA i, d, _, _, _, rfl, ea, hd, M.xf i hi, M.xk i hi, .own _, M.k i 39 hi (by decide), by show 3 ≤ sizeLine; decide, fun M5 m5 => ?_⟩
    have t5 := Ask.Same.made1 (o := .lst [V.bl (decide (37 = i)), V.bl (decide (38 = i)), V.bl (decide (39 = i))]) s5 m5
    have g5 : upd H5 M5 (.lst [V.bl (decide (37 = i)), V.bl (decide (38 = i)), V.bl (decide (39 = i))]) M5 = some (.lst [V.bl (decide (37 = i)), V.bl (decide (38 = i)), V.bl (decide (39 = i))]) := upd_same
    have u5 := Ask.Same.made1 (o := .lst [V.bl (decide (37 = i)), V.bl (decide (38 = i)), V.bl (decide (39 = i))]) (Same.refl H5) m5
    replace f5 := u5 _ _ f5
    replace ea := u5 _ _ ea
    replace hd : ∀ dd, d = some dd → ∃ fs, upd H5 M5 (.lst [V.bl (decide (37 = i)), V.bl (decide (38 = i)), V.bl (decide (39 = i))]) dd = some (exd dd fs) := fun dd q => let ⟨fs, e⟩ := hd dd q; ⟨fs, u5 _ _ e⟩
    clear u5
    generalize upd H5 M5 (.lst [V.bl (decide (37 = i)), V.bl (decide (38 = i)), V.bl (decide (39 = i))]) = J5 at t5 f5 g5 ea hd ⊢
    refine ⟨L4, M5, _, _, rfl, rfl, f5, g5, by show 40 ≤ sizeLine; decide, fun L5 n5 => ?_⟩
    exact kq _ L5 (Ask.Same.made1 t5 n5) (t5.free n5) upd_same
/-- where the kinds of the first errors stand -/
def PLs : List Nat := [0, 1, 3, 4, 8, 9, 10, 11, 15, 16, 17, 19, 20, 25, 32, 33]
def spPlaces : Sp := fun vs H Q _ => vs = [] ∧ ∀ (H' : Hp) (q : Addr), Same H H' → H' q = some (.lst (PLs.map fun (n : Nat) => V.int (n : Int))) → Q (.ref q) H'
abbrev s_places : Stmt := top 54
theorem sc_places : FnScope [] [] (defScope s_places) := ⟨rfl, rfl, rfl, by decide +kernel, rfl, by decide +kernel, by decide +kernel⟩
theorem ok_places {f : Addr} {fd : FuncData} (F : Fun K "_law_places" "_law_places" s_places f fd) : FnOk P w K mg base CX0 1 f fd [] spPlaces := by
  refine F.ok sc_places (fun vs H Q E h => ?_) (fun cdv A outer s H vs Q E hr h => ?_)
  · obtain ⟨rfl, _⟩ := h
    rfl
  · obtain ⟨rfl, kq⟩ := h
    refine ⟨_, (pss_one (ps_ret (pe_lst (pa_cons pe_int (pa_cons pe_int (pa_cons pe_int (pa_cons pe_int (pa_cons pe_int (pa_cons pe_int (pa_cons pe_int (pa_cons pe_int (pa_cons pe_int (pa_cons pe_int (pa_cons pe_int (pa_cons pe_int (pa_cons pe_int (pa_cons pe_int (pa_cons pe_int (pa_cons pe_int pa_nil))))))))))))))))))), ?_⟩
    exact ⟨by show 16 ≤ sizeLine; decide, fun q hq => kq _ q (Ask.Same.made1 (Same.refl H) hq) upd_same⟩
end
end Ask

/-! sum of a list of truth values -/
namespace PySem
open Sem (wp)
/-- 1 or 0 -/
def bitI (b : Bool) : Int := if b = true then 1 else 0
section
variable {prog : Program} {w : World} {A : Around} {R : Result → Shared → Prop} {I : Addr} {fp wr : List Addr} {n : Nat} {P : Nat → Value → Prop} {St : Nat → Heap → Prop}
theorem preSum_bits (bv : Nat → Bool) : ∀ i, 0 ≤ preSum (fun j => bitI (bv j)) i ∧ preSum (fun j => bitI (bv j)) i ≤ i
  | 0 => ⟨Int.le_refl 0, Int.le_refl 0⟩
  | i + 1 => by
    obtain ⟨h1, h2⟩ := preSum_bits bv i
    have e : preSum (fun j => bitI (bv j)) (i + 1) = preSum (fun j => bitI (bv j)) i + bitI (bv i) := rfl
    rw [e]
    have : 0 ≤ bitI (bv i) ∧ bitI (bv i) ≤ 1 := by
      unfold bitI
      split <;> omega
    omega
theorem codeAny_sum_loopB (W : Walks prog w A.in1 I fp wr n P St) (bv : Nat → Bool) (hval : ∀ i v, P i v → v = .bool (bv i)) (hn : n ≤ 1000) (S : Addr) (hSf : S ∉ fp) :
    ∀ (k i : Nat) (s : Shared) (tA : Tok) (c : Nat), n - i = k → i ≤ n → St i s.heap → s.heap.get? S = some { cls := .type "list", dict := none, data := .seq #[.int (preSum (fun j => bitI (bv j)) i) tA] c, slots := #[] } →
    (∀ h' tk t', (∀ b o, b ∉ wr → b ≠ S → s.heap.get? b = some o → h'.get? b = some o) → R (.ok (.ret (.int (preSum (fun j => bitI (bv j)) n) t'))) { s with heap := h', toks := tk }) →
    codeAny (model prog w) A (.builtin "sum.loop" ⟨[.ref I, .ref S, rawInt 0, rawInt 0], []⟩) R s := by
  have hSw : S ∉ wr := fun h => hSf (W.sub _ h)
  intro k
  induction k with
  | zero =>
    intro i s tA c hk hi hst hS hR
    have hin : i = n := by omega
    subst hin
    refine codeAny_builtin F.entry_sum_loop ?_
    rw [Around.under_plainId F.plain_sum_loop _]
    show wpAny _ A.in1 (seqItems? (.ref S) >>= _) _ _ s
    refine wpAny_bind (wpAny_seqItems hS rfl ?_)
    show wpAny _ A.in1 (tryCatch (pyNext (.ref I)) _ >>= _) _ _ s
    refine wpAny_bind (wpAny_tryCatch (W.done s _ _ hst fun h' tk hk' => ?_))
    exact wpAny_pure (hR h' tk tA fun b o hbw _ e => hk' b o hbw e)
  | succ k ih =>
    intro i s tA c hk hi hst hS hR
    have hlt : i < n := by omega
    refine codeAny_builtin F.entry_sum_loop ?_
    rw [Around.under_plainId F.plain_sum_loop _]
    show wpAny _ A.in1 (seqItems? (.ref S) >>= _) _ _ s
    refine wpAny_bind (wpAny_seqItems hS rfl ?_)
    show wpAny _ A.in1 (tryCatch (pyNext (.ref I)) _ >>= _) _ _ s
    refine wpAny_bind (wpAny_tryCatch (W.item i s _ _ hlt hst fun v h' tk hP hst' hk' => ?_))
    obtain rfl := hval i v hP
    have hS' := hk' S _ hSw hS
    have hb := preSum_bits bv i
    have hb1 : 0 ≤ bitI (bv i) ∧ bitI (bv i) ≤ 1 := by
      unfold bitI
      split <;> omega
    have key : ∀ (c : Bool) (x y : Sem Fin) (Q : Fin → Shared → Prop) (E : Value → Shared → Prop) (s : Shared), c = true → wpAny (model prog w) A.in1 x Q E s → wpAny (model prog w) A.in1 (if c = true then x else y) Q E s := by
      intro c x y Q E s h q
      rw [if_pos h]
      exact q
    show wpAny _ A.in1 (if (_ : Bool) = true then (mkInt (preSum (fun j => bitI (bv j)) i + bitI (bv i)) >>= _) else _) _ _ _
    refine key _ _ _ _ _ _ ?_ (wpAny_bind (wpAny_mkInt ?_))
    · show ((decide (-(2 ^ 63) ≤ bitI (bv i)) && decide (bitI (bv i) < 2 ^ 63)) && (decide (-(2 ^ 63) ≤ preSum (fun j => bitI (bv j)) i + bitI (bv i)) && decide (preSum (fun j => bitI (bv j)) i + bitI (bv i) < 2 ^ 63))) = true
      rw [decide_eq_true (by omega), decide_eq_true (by omega), decide_eq_true (by omega), decide_eq_true (by omega)]
      rfl
    · show wpAny _ A.in1 (updateSeq S (fun _ => #[.int (preSum (fun j => bitI (bv j)) i + bitI (bv i)) tk]) >>= _) _ _ _
      refine wpAny_bind ?_
      refine wpAny_updateSeq hS' rfl (wpAny_pure ⟨plainId_quiet F.plain_sum_loop _, ih (i + 1) _ tk _ (by omega) hlt (W.frame _ _ _ hst' fun b hb o e => ?_) (Heap.get?_update_self _ hS' rfl) fun h'' tk'' t'' hk'' => ?_⟩)
      · exact (Heap.get?_update_other _ _ (fun h : S = b => hSf (by rw [h]; exact hb))).trans e
      · exact hR h'' tk'' t'' fun b o hbw hbS e => hk'' b o hbw hbS ((Heap.get?_update_other _ _ (Ne.symm hbS)).trans (hk' b o hbw e))
end
section
variable {prog : Program} {w : World} {A : Around} {E : Value → Shared → Prop} {s : Shared}
theorem call_sum_walkB {x : Value} {Q : Value → Shared → Prop}
    (h : wpAny (model prog w) A.in1 (pyIter x) (fun it s₂ => ∃ I fp wr n P St, ∃ bv : Nat → Bool, it = Value.ref I ∧ Walks prog w A.in1 I fp wr n P St ∧ St 0 s₂.heap ∧ (∀ b ∈ fp, b < s₂.heap.objs.size) ∧
      (∀ i v, P i v → v = Value.bool (bv i)) ∧ n ≤ 1000 ∧
      ∀ h' tk t', (∀ b o, b ∉ wr → s₂.heap.get? b = some o → h'.get? b = some o) → Q (Value.int (preSum (fun j => bitI (bv j)) n) t') { s₂ with heap := h', toks := tk }) E s) :
    wpAny (model prog w) A (call (.builtin "sum") [x]) Q E s := by
  refine call_function_tree F.kind_sum F.plain_sum F.entry_sum (F.args_sum1 _) ?_
  unfold Builtin.«sum»
  simp only [List.length_cons, List.length_nil]
  rw [if_neg (by decide)]
  refine wpAny_bind (wpAny_of_eq (show Builtin.Builtins.bindParams "sum" ["start"] 0 { } = pure [none] from rfl) ?_)
  refine wpAny_bind (wpAny_mono h (fun it s₂ h₂ => ?_) fun _ _ e => e)
  obtain ⟨I, fp, wr, n, P, St, bv, rfl, W, hst, hfp, hval, hn, hQ⟩ := h₂
  refine wpAny_bind (wpAny_mkInt ?_)
  refine wpAny_bind (wpAny_pure ?_)
  simp only [List.forIn_cons, List.forIn_nil]
  refine wpAny_bind (wpAny_bind (wpAny_bind (wpAny_isInstance (T := "int") (b := false) (typeIs_int _ _ _) sub_int_str ?_)))
  simp only [Bool.false_eq_true, if_false]
  refine wpAny_pure (wpAny_bind (wpAny_bind (wpAny_isInstance (T := "int") (b := false) (typeIs_int _ _ _) sub_int_bytes ?_)))
  simp only [Bool.false_eq_true, if_false]
  refine wpAny_pure (wpAny_bind (wpAny_bind (wpAny_isInstance (T := "int") (b := false) (typeIs_int _ _ _) sub_int_bytearray ?_)))
  simp only [Bool.false_eq_true, if_false]
  refine wpAny_pure (wpAny_pure ?_)
  refine wpAny_bind (wpAny_newObj_type ?_)
  have hSf : s₂.heap.objs.size ∉ fp := fun hm => Nat.lt_irrefl _ (hfp _ hm)
  refine wpAny_pure ⟨plainId_quiet F.plain_sum_loop _, codeAny_sum_loopB W bv hval hn s₂.heap.objs.size hSf n 0 _ s₂.toks 0 rfl (Nat.zero_le _)
    (W.frame _ _ _ hst fun b _ o e => Heap.get?_push_of_some _ e) (Heap.get?_push_size _ rfl) fun h' tk t' hk => ?_⟩
  exact hQ h' tk t' fun b o hbw e => hk b o hbw (Nat.ne_of_lt (Heap.lt_size e)) (Heap.get?_push_of_some _ e)
theorem sum_boolList {l : Addr} {items : Array Value} {bv : Nat → Bool} {Q : Value → Shared → Prop} (hh : A.handled = none) (hl : s.heap.IsList l items) (hv : ∀ i v, items[i]? = some v → v = Value.bool (bv i)) (hn : items.size ≤ 1000)
    (h : ∀ h' tk t', (∀ b o, s.heap.get? b = some o → h'.get? b = some o) → Q (.int (preSum (fun j => bitI (bv j)) items.size) t') { s with heap := h', toks := tk }) :
    wpAny (model prog w) A (call (.builtin "sum") [.ref l]) Q E s := by
  have hlt : l < s.heap.objs.size := by obtain ⟨_, e, _⟩ := hl; exact Heap.lt_size e
  refine call_sum_walkB (wpAny_pyIter_list hl ?_)
  refine ⟨_, _, _, _, _, _, bv, rfl, Walks.list (A := A.in1) hh _ l (Nat.ne_of_lt hlt) items, ⟨⟨_, Heap.get?_push_size _ rfl, rfl, rfl⟩, hl.push _⟩, fun b hb => ?_, hv, hn, fun h' tk t' hk => ?_⟩
  · show b < (s.heap.push _).objs.size
    rw [Heap.size_push]
    rcases List.mem_cons.mp hb with rfl | hb
    · exact Nat.lt_succ_self _
    · rcases List.mem_cons.mp hb with rfl | hb
      · exact Nat.lt_succ_of_lt hlt
      · cases hb
  · exact h h' tk t' (old_kept hk)
end
end PySem
namespace Ask
open PySem PySem.Spec PyProof.Rows L2
/-- how many of them are true -/
def cntB (bs : List Bool) : Int := preSum (fun j => bitI (bs.getD j false)) bs.length
def rSumB (K : PySem.W.Frag) : List V → Hp → VK → Prop := fun vs H Q => ∃ (a : Addr) (bs : List Bool), vs = [V.ref a] ∧ SqL K H a (bs.map V.bl) ∧ bs.length ≤ 1000 ∧ Q (.int (cntB bs)) H
theorem cr_sumB {X : Cx} (hc : X.calm = true) : CallR X (.builtin "sum") (rSumB X.K) := by
  intro pins s σ H vs us Q I r h
  obtain ⟨a, bs, rfl, hs, hn, q⟩ := h
  obtain ⟨its, rv, hl, _⟩ := I.list hs
  rw [Vals.ref1 r]
  have e := Vals.bls rv
  subst e
  have hz : ((bs.map Value.bool).toArray).size = bs.length := by simp
  refine sum_boolList (bv := fun j => bs.getD j false) (I.ok.hd hc) hl.isList (fun i v hv => ?_) (by rw [hz]; exact hn) fun h' tk t' hk => ?_
  · have hv' : (bs.map Value.bool)[i]? = some v := by simpa using hv
    rw [List.getElem?_map] at hv'
    cases hb : bs[i]? with
    | none => rw [hb] at hv'; cases hv'
    | some b =>
      rw [hb] at hv'
      cases hv'
      rw [List.getD_eq_getElem?_getD, hb]
      rfl
  · rw [hz]
    exact ⟨.int _, H, I.kept hk, ⟨_, rfl⟩, q⟩
end Ask

/-! data that repr takes: how deep, how long -/
namespace Ask
open PySem L2 PySem.Spec PyProof.Rows StrLaws
structure Dk (d : PyData) (L : Nat) : Prop where
  lay : d.canLay0 = true
  dep : d.depth ≤ 5
  sho : d.showable = true
  len : d.shown.length ≤ L
structure DkAll (ds : List PyData) (L : Nat) : Prop where
  lay : PyData.canLayAll0 ds = true
  dep : PyData.depthAll ds ≤ 5
  sho : PyData.showableAll ds = true
  len : ((PyData.shownAll ds).map (·.length)).sum + 2 * ds.length ≤ L
theorem shownAll_len : ∀ ds : List PyData, (PyData.shownAll ds).length = ds.length
  | [] => rfl
  | d :: ds => by simp only [PyData.shownAll, List.length_cons, shownAll_len ds]
theorem Dk.mono {d : PyData} {L M : Nat} (h : Dk d L) (l : L ≤ M) : Dk d M := ⟨h.lay, h.dep, h.sho, Nat.le_trans h.len l⟩
theorem DkAll.nil : DkAll [] 0 := ⟨rfl, Nat.zero_le _, rfl, Nat.le_refl _⟩
theorem DkAll.cons {d : PyData} {ds : List PyData} {L M : Nat} (h : Dk d L) (k : DkAll ds M) : DkAll (d :: ds) (L + 2 + M) := by
  refine ⟨?_, Nat.max_le.mpr ⟨h.dep, k.dep⟩, ?_, ?_⟩
  · show (PyData.canLay0 d && PyData.canLayAll0 ds) = true
    rw [h.lay, k.lay] <;> rfl
  · show (PyData.showable d && PyData.showableAll ds) = true
    rw [h.sho, k.sho] <;> rfl
  · show ((PyData.shown d :: PyData.shownAll ds).map (·.length)).sum + 2 * (ds.length + 1) ≤ _
    rw [List.map_cons, List.sum_cons]
    have := h.len
    have := k.len
    omega
theorem DkAll.each {f : PyData → Prop} {L : Nat} : ∀ {ds : List PyData}, (∀ d ∈ ds, Dk d L) → DkAll ds ((L + 2) * ds.length)
  | [], _ => DkAll.nil
  | d :: ds, h => by
    have k := (h d (List.mem_cons_self ..))
    have r := DkAll.each (f := f) (ds := ds) fun x hx => h x (List.mem_cons_of_mem _ hx)
    have := DkAll.cons k r
    rw [List.length_cons, Nat.mul_succ, Nat.add_comm _ (L + 2)]
    exact this
theorem DkAll.tup {ds : List PyData} {L : Nat} (h : DkAll ds L) (d : PyData.depthAll ds ≤ 4) : Dk (.tuple ds) (L + 3) := by
  refine ⟨h.lay, Nat.succ_le_succ d, h.sho, ?_⟩
  have := tupleText_len_le (PyData.shownAll ds)
  have e := shownAll_len ds
  have := h.len
  show (tupleText (PyData.shownAll ds)).length ≤ _
  omega
theorem DkAll.lst {ds : List PyData} {L : Nat} (h : DkAll ds L) (d : PyData.depthAll ds ≤ 4) : Dk (.list ds) (L + 3) := by
  refine ⟨h.lay, Nat.succ_le_succ d, h.sho, ?_⟩
  have := listText_len_le (PyData.shownAll ds)
  have e := shownAll_len ds
  have := h.len
  show (listText (PyData.shownAll ds)).length ≤ _
  omega
theorem Dk.nod {d : PyData} {L : Nat} (h : Dk d L) : d.hasDict = false := PyData.hasDict_of_canLay d h.lay
theorem Dk.shaped {d : PyData} {L : Nat} (h : Dk d L) : SeqAt.shaped d = true := by
  unfold SeqAt.shaped
  rw [h.lay, decide_eq_true (Nat.le_trans h.dep (by decide))] <;> rfl
theorem dk_str {z : Str} (a : ∀ c ∈ z.cps.toList, c < 128) : Dk (.str z) (10 * z.length + 10) := by
  refine ⟨?_, Nat.zero_le _, rfl, ?_⟩
  · show PyData.strOk z = true
    unfold PyData.strOk
    rw [← Array.all_toList, List.all_eq_true]
    intro c hc
    have := a c hc
    exact decide_eq_true (by omega)
  · have l := StrLaws.reprText_len z (fun c hc => by have := a c hc; omega)
    show (reprText z).length ≤ _
    omega
theorem dk_int {i : Int} (h0 : 0 ≤ i) (h1 : i < 10 ^ 40) : Dk (.int i) 40 := by
  refine ⟨rfl, Nat.zero_le _, ?_, ?_⟩
  · show decide (i.natAbs.log2 < 1920) = true
    refine decide_eq_true ?_
    by_cases z : i.natAbs = 0
    · rw [z]
      decide
    · refine (Nat.log2_lt z).mpr ?_
      have : (10 : Int) ^ 40 < (2 : Int) ^ 1920 := by decide +kernel
      have : (i.natAbs : Int) < (2 : Int) ^ 1920 := by omega
      exact_mod_cast this
  · exact toString_length_le h0 (by decide) h1
theorem dk_non : Dk .none 4 := ⟨rfl, Nat.zero_le _, rfl, by decide⟩
theorem dk_bool (b : Bool) : Dk (.bool b) 5 := by cases b <;> exact ⟨rfl, Nat.zero_le _, rfl, by decide⟩
end Ask

namespace Ask
open PySem L2
/-- how an error of the class at C is made -/
structure MkE (P : Program) (w : World) (K : PySem.W.Frag) (mg : Str → Option Value) (base : Heap) (x : Str) (C : Addr) (ns : List Str) : Prop where
  ex : ∃ (f : Addr) (fd : FuncData), FnOk P w K mg base CX0 3 f fd ("self" :: ns) (spIni K C ns) ∧ ErrAt K mg x C f fd ("self" :: ns)
  nf : ∀ n ∈ ns, PySem.W.findIn K (.ref C) n = some none
/-- .. by keywords: n values are written -/
structure MkK (P : Program) (w : World) (K : PySem.W.Frag) (mg : Str → Option Value) (base : Heap) (x : Str) (C : Addr) (ns : List Str) (n : Nat) (ks : List Str) : Prop where
  ex : ∃ (f : Addr) (fd : FuncData), FnOk P w K mg base CX0 3 f fd ("self" :: ns) (spIni K C ns) ∧ ErrAt K mg x C f fd ("self" :: ns) ∧ KBn K fd ("self" :: ns) n ks (fun us ws => us ++ ws) (fun vs zs => vs ++ zs)
  nf : ∀ n ∈ ns, PySem.W.findIn K (.ref C) n = some none
/-- errors with an index -/
def AllE (K : PySem.W.Frag) (cA : Nat → Addr) (H : Hp) (vs : List V) (js : List Nat) (d : PyData) : Prop := vs.length = js.length ∧ ∀ (p : Nat) (v : V) (j : Nat), vs[p]? = some v → js[p]? = some j → ErrF K cA H v j ["index"] [d]
theorem AllE.nil {K : PySem.W.Frag} {cA : Nat → Addr} {H : Hp} {d : PyData} : AllE K cA H [] [] d := ⟨rfl, fun p v j e => by simp at e⟩
theorem AllE.same {K : PySem.W.Frag} {cA : Nat → Addr} {H H' : Hp} {vs : List V} {js : List Nat} {d : PyData} (h : AllE K cA H vs js d) (s : Same H H') : AllE K cA H' vs js d := ⟨h.1, fun p v j e1 e2 => (h.2 p v j e1 e2).same s⟩
theorem AllE.snoc {K : PySem.W.Frag} {cA : Nat → Addr} {H : Hp} {vs : List V} {js : List Nat} {d : PyData} {v : V} {j : Nat} (h : AllE K cA H vs js d) (e : ErrF K cA H v j ["index"] [d]) : AllE K cA H (vs ++ [v]) (js ++ [j]) d := by
  refine ⟨by rw [List.length_append, List.length_append, h.1]; rfl, fun p u k e1 e2 => ?_⟩
  rcases Nat.lt_or_ge p vs.length with hp | hp
  · rw [List.getElem?_append_left hp] at e1
    rw [List.getElem?_append_left (by rw [← h.1]; exact hp)] at e2
    exact h.2 p u k e1 e2
  · rw [List.getElem?_append_right hp] at e1
    rw [List.getElem?_append_right (by rw [← h.1]; exact hp), ← h.1] at e2
    have p0 : p - vs.length = 0 := by
      cases q : p - vs.length with
      | zero => rfl
      | succ n => rw [q] at e1; simp at e1
    rw [p0] at e1 e2
    cases e1
    cases e2
    exact e
section
variable {P : Program} {w : World} {K : PySem.W.Frag} {mg : Str → Option Value} {base : Heap} {cA : Nat → Addr} {CA : Addr}
/-! ### the errors with an index -/
def spIndexed (K : PySem.W.Frag) (cA : Nat → Addr) : Sp := fun vs H Q _ => ∃ n : Int, vs = [.int n] ∧ ∀ (H' : Hp) (q : Addr) (es : List V), Same H H' → H q = none → H' q = some (.lst es) → AllE K cA H' es PLs (.int n) → Q (.ref q) H'
abbrev s_indexed : Stmt := top 53
theorem sc_indexed : FnScope ["_law_one", "_law_found"] ["_law_one"] (defScope s_indexed) := ⟨rfl, rfl, rfl, by decide +kernel, rfl, by decide +kernel, by decide +kernel⟩
theorem ok_indexed {f : Addr} {fd : FuncData} (F : Fun K "_law_indexed" "_law_indexed" s_indexed f fd) (X0 : MkE P w K mg base "BadLetters" (cA 0) ["index"]) (X1 : MkE P w K mg base "BadLetter" (cA 1) ["index"]) (X3 : MkE P w K mg base "BadRuns" (cA 3) ["index"]) (X4 : MkE P w K mg base "BadCount" (cA 4) ["index"]) (X8 : MkE P w K mg base "BadAnswers" (cA 8) ["index"]) (X9 : MkE P w K mg base "BadTold" (cA 9) ["index"]) (X10 : MkE P w K mg base "BadStep" (cA 10) ["index"]) (X11 : MkE P w K mg base "NotLive" (cA 11) ["index"]) (X15 : MkE P w K mg base "BadRow" (cA 15) ["index"]) (X16 : MkE P w K mg base "TwiceTold" (cA 16) ["index"]) (X17 : MkE P w K mg base "BadEnd" (cA 17) ["index"]) (X19 : MkE P w K mg base "BadMenu" (cA 19) ["index"]) (X20 : MkE P w K mg base "BadState" (cA 20) ["index"]) (X25 : MkE P w K mg base "BadSpecial" (cA 25) ["index"]) (X32 : MkE P w K mg base "BadDeeds" (cA 32) ["index"]) (X33 : MkK P w K mg base "BadAsks" (cA 33) ["index"] 1 ["index"]) : FnOk P w K mg base CX0 5 f fd ["_law_one"] (spIndexed K cA) := by
  obtain ⟨f0, fd0, G0, E0⟩ := X0.ex
  obtain ⟨f1, fd1, G1, E1⟩ := X1.ex
  obtain ⟨f3, fd3, G3, E3⟩ := X3.ex
  obtain ⟨f4, fd4, G4, E4⟩ := X4.ex
  obtain ⟨f8, fd8, G8, E8⟩ := X8.ex
  obtain ⟨f9, fd9, G9, E9⟩ := X9.ex
  obtain ⟨f10, fd10, G10, E10⟩ := X10.ex
  obtain ⟨f11, fd11, G11, E11⟩ := X11.ex
  obtain ⟨f15, fd15, G15, E15⟩ := X15.ex
  obtain ⟨f16, fd16, G16, E16⟩ := X16.ex
  obtain ⟨f17, fd17, G17, E17⟩ := X17.ex
  obtain ⟨f19, fd19, G19, E19⟩ := X19.ex
  obtain ⟨f20, fd20, G20, E20⟩ := X20.ex
  obtain ⟨f25, fd25, G25, E25⟩ := X25.ex
  obtain ⟨f32, fd32, G32, E32⟩ := X32.ex
  obtain ⟨f33, fd33, G33, E33, B33⟩ := X33.ex
  refine F.ok sc_indexed (fun vs H Q E h => ?_) (fun cdv A outer s H vs Q E hr h => ?_)
  · obtain ⟨n, rfl, _⟩ := h
    rfl
  · obtain ⟨n, rfl, kq⟩ := h
    refine ⟨_, (pss_cons (ps_set (i := 1) sc_indexed.nd rfl (Or.inl rfl) (pe_lst (pa_cons (pe_oexV E0.o E0.i E0.t G0 hr E0.b pass0 (by rfl) E0.m (pa_cons (pv 0) pa_nil)) (pa_cons (pe_oexV E1.o E1.i E1.t G1 hr E1.b pass0 (by rfl) E1.m (pa_cons (pv 0) pa_nil)) (pa_cons (pe_oexV E3.o E3.i E3.t G3 hr E3.b pass0 (by rfl) E3.m (pa_cons (pv 0) pa_nil)) (pa_cons (pe_oexV E4.o E4.i E4.t G4 hr E4.b pass0 (by rfl) E4.m (pa_cons (pv 0) pa_nil)) (pa_cons (pe_oexV E8.o E8.i E8.t G8 hr E8.b pass0 (by rfl) E8.m (pa_cons (pv 0) pa_nil)) (pa_cons (pe_oexV E9.o E9.i E9.t G9 hr E9.b pass0 (by rfl) E9.m (pa_cons (pv 0) pa_nil)) (pa_cons (pe_oexV E10.o E10.i E10.t G10 hr E10.b pass0 (by rfl) E10.m (pa_cons (pv 0) pa_nil)) pa_nil)))))))))
      (pss_cons (ps_set (i := 1) sc_indexed.nd rfl (Or.inl rfl) (pe_op op_cat (pv 1) (pe_lst (pa_cons (pe_oexV E11.o E11.i E11.t G11 hr E11.b pass0 (by rfl) E11.m (pa_cons (pv 0) pa_nil)) (pa_cons (pe_oexV E15.o E15.i E15.t G15 hr E15.b pass0 (by rfl) E15.m (pa_cons (pv 0) pa_nil)) (pa_cons (pe_oexV E16.o E16.i E16.t G16 hr E16.b pass0 (by rfl) E16.m (pa_cons (pv 0) pa_nil)) (pa_cons (pe_oexV E17.o E17.i E17.t G17 hr E17.b pass0 (by rfl) E17.m (pa_cons (pv 0) pa_nil)) (pa_cons (pe_oexV E19.o E19.i E19.t G19 hr E19.b pass0 (by rfl) E19.m (pa_cons (pv 0) pa_nil)) (pa_cons (pe_oexV E20.o E20.i E20.t G20 hr E20.b pass0 (by rfl) E20.m (pa_cons (pv 0) pa_nil)) pa_nil)))))))))
      (pss_one (ps_ret (pe_op op_cat (pv 1) (pe_lst (pa_cons (pe_oexV E25.o E25.i E25.t G25 hr E25.b pass0 (by rfl) E25.m (pa_cons (pv 0) pa_nil)) (pa_cons (pe_oexV E32.o E32.i E32.t G32 hr E32.b pass0 (by rfl) E32.m (pa_cons (pv 0) pa_nil)) (pa_cons (pe_oexVK0 E33.o E33.i E33.t G33 hr B33 pass0 (by rfl) E33.m (pk_cons (pv 0) pk_nil)) pa_nil))))))))), ?_⟩
    have sm1 : ∀ d ∈ [PyData.int n], Smp d := fun d hd => by rw [List.mem_singleton] at hd; subst hd; exact .inl rfl
    have A0 : AllE K cA H [] [] (.int n) := .nil
    have S0 := Same.refl H
    refine ⟨_, rfl, err_val (K := K) (cA := cA) (C := cA 0) (H := H) (j := 0) (ns := ["index"]) (ws := [.int n]) (ds := [.int n]) rfl (.cons (.int n) .nil) rfl (by show 1 ≤ 1000; decide) sm1 fun H1 v0 s1 e0 => ?_⟩
    have A1 : AllE K cA H1 [.ref v0] [0] (.int n) := (A0.same s1).snoc e0
    have S1 := S0.trans s1
    clear A0 S0 e0
    refine ⟨_, rfl, err_val (K := K) (cA := cA) (C := cA 1) (H := H1) (j := 1) (ns := ["index"]) (ws := [.int n]) (ds := [.int n]) rfl (.cons (.int n) .nil) rfl (by show 1 ≤ 1000; decide) sm1 fun H2 v1 s2 e1 => ?_⟩
    have A2 : AllE K cA H2 [.ref v0, .ref v1] [0, 1] (.int n) := (A1.same s2).snoc e1
    have S2 := S1.trans s2
    clear A1 S1 e1
    refine ⟨_, rfl, err_val (K := K) (cA := cA) (C := cA 3) (H := H2) (j := 3) (ns := ["index"]) (ws := [.int n]) (ds := [.int n]) rfl (.cons (.int n) .nil) rfl (by show 1 ≤ 1000; decide) sm1 fun H3 v2 s3 e2 => ?_⟩
    have A3 : AllE K cA H3 [.ref v0, .ref v1, .ref v2] [0, 1, 3] (.int n) := (A2.same s3).snoc e2
    have S3 := S2.trans s3
    clear A2 S2 e2
    refine ⟨_, rfl, err_val (K := K) (cA := cA) (C := cA 4) (H := H3) (j := 4) (ns := ["index"]) (ws := [.int n]) (ds := [.int n]) rfl (.cons (.int n) .nil) rfl (by show 1 ≤ 1000; decide) sm1 fun H4 v3 s4 e3 => ?_⟩
    have A4 : AllE K cA H4 [.ref v0, .ref v1, .ref v2, .ref v3] [0, 1, 3, 4] (.int n) := (A3.same s4).snoc e3
    have S4 := S3.trans s4
    clear A3 S3 e3
    refine ⟨_, rfl, err_val (K := K) (cA := cA) (C := cA 8) (H := H4) (j := 8) (ns := ["index"]) (ws := [.int n]) (ds := [.int n]) rfl (.cons (.int n) .nil) rfl (by show 1 ≤ 1000; decide) sm1 fun H5 v4 s5 e4 => ?_⟩
    have A5 : AllE K cA H5 [.ref v0, .ref v1, .ref v2, .ref v3, .ref v4] [0, 1, 3, 4, 8] (.int n) := (A4.same s5).snoc e4
    have S5 := S4.trans s5
    clear A4 S4 e4
    refine ⟨_, rfl, err_val (K := K) (cA := cA) (C := cA 9) (H := H5) (j := 9) (ns := ["index"]) (ws := [.int n]) (ds := [.int n]) rfl (.cons (.int n) .nil) rfl (by show 1 ≤ 1000; decide) sm1 fun H6 v5 s6 e5 => ?_⟩
    have A6 : AllE K cA H6 [.ref v0, .ref v1, .ref v2, .ref v3, .ref v4, .ref v5] [0, 1, 3, 4, 8, 9] (.int n) := (A5.same s6).snoc e5
    have S6 := S5.trans s6
    clear A5 S5 e5
    refine ⟨_, rfl, err_val (K := K) (cA := cA) (C := cA 10) (H := H6) (j := 10) (ns := ["index"]) (ws := [.int n]) (ds := [.int n]) rfl (.cons (.int n) .nil) rfl (by show 1 ≤ 1000; decide) sm1 fun H7 v6 s7 e6 => ?_⟩
    have A7 : AllE K cA H7 [.ref v0, .ref v1, .ref v2, .ref v3, .ref v4, .ref v5, .ref v6] [0, 1, 3, 4, 8, 9, 10] (.int n) := (A6.same s7).snoc e6
    have S7 := S6.trans s7
    clear A6 S6 e6
    refine ⟨by show 7 ≤ sizeLine; decide, fun La nLa => ?_⟩
    have s8 := Ask.Same.made1 (o := .lst [.ref v0, .ref v1, .ref v2, .ref v3, .ref v4, .ref v5, .ref v6]) (Same.refl H7) nLa
    have fLa : upd H7 La (.lst [.ref v0, .ref v1, .ref v2, .ref v3, .ref v4, .ref v5, .ref v6]) La = some (.lst [.ref v0, .ref v1, .ref v2, .ref v3, .ref v4, .ref v5, .ref v6]) := upd_same
    have A8 := A7.same s8
    have S8 := S7.trans s8
    clear A7 S7 s8
    generalize upd H7 La (.lst [.ref v0, .ref v1, .ref v2, .ref v3, .ref v4, .ref v5, .ref v6]) = H8 at fLa A8 S8  ⊢
    refine ⟨_, rfl, ?_⟩
    refine ⟨_, rfl, err_val (K := K) (cA := cA) (C := cA 11) (H := H8) (j := 11) (ns := ["index"]) (ws := [.int n]) (ds := [.int n]) rfl (.cons (.int n) .nil) rfl (by show 1 ≤ 1000; decide) sm1 fun H9 v8 s9 e8 => ?_⟩
    have A9 : AllE K cA H9 [.ref v0, .ref v1, .ref v2, .ref v3, .ref v4, .ref v5, .ref v6, .ref v8] [0, 1, 3, 4, 8, 9, 10, 11] (.int n) := (A8.same s9).snoc e8
    replace fLa := s9 _ _ fLa
    have S9 := S8.trans s9
    clear A8 S8 e8
    refine ⟨_, rfl, err_val (K := K) (cA := cA) (C := cA 15) (H := H9) (j := 15) (ns := ["index"]) (ws := [.int n]) (ds := [.int n]) rfl (.cons (.int n) .nil) rfl (by show 1 ≤ 1000; decide) sm1 fun H10 v9 s10 e9 => ?_⟩
    have A10 : AllE K cA H10 [.ref v0, .ref v1, .ref v2, .ref v3, .ref v4, .ref v5, .ref v6, .ref v8, .ref v9] [0, 1, 3, 4, 8, 9, 10, 11, 15] (.int n) := (A9.same s10).snoc e9
    replace fLa := s10 _ _ fLa
    have S10 := S9.trans s10
    clear A9 S9 e9
    refine ⟨_, rfl, err_val (K := K) (cA := cA) (C := cA 16) (H := H10) (j := 16) (ns := ["index"]) (ws := [.int n]) (ds := [.int n]) rfl (.cons (.int n) .nil) rfl (by show 1 ≤ 1000; decide) sm1 fun H11 v10 s11 e10 => ?_⟩
    have A11 : AllE K cA H11 [.ref v0, .ref v1, .ref v2, .ref v3, .ref v4, .ref v5, .ref v6, .ref v8, .ref v9, .ref v10] [0, 1, 3, 4, 8, 9, 10, 11, 15, 16] (.int n) := (A10.same s11).snoc e10
    replace fLa := s11 _ _ fLa
    have S11 := S10.trans s11
    clear A10 S10 e10
    refine ⟨_, rfl, err_val (K := K) (cA := cA) (C := cA 17) (H := H11) (j := 17) (ns := ["index"]) (ws := [.int n]) (ds := [.int n]) rfl (.cons (.int n) .nil) rfl (by show 1 ≤ 1000; decide) sm1 fun H12 v11 s12 e11 => ?_⟩
    have A12 : AllE K cA H12 [.ref v0, .ref v1, .ref v2, .ref v3, .ref v4, .ref v5, .ref v6, .ref v8, .ref v9, .ref v10, .ref v11] [0, 1, 3, 4, 8, 9, 10, 11, 15, 16, 17] (.int n) := (A11.same s12).snoc e11
    replace fLa := s12 _ _ fLa
    have S12 := S11.trans s12
    clear A11 S11 e11
    refine ⟨_, rfl, err_val (K := K) (cA := cA) (C := cA 19) (H := H12) (j := 19) (ns := ["index"]) (ws := [.int n]) (ds := [.int n]) rfl (.cons (.int n) .nil) rfl (by show 1 ≤ 1000; decide) sm1 fun H13 v12 s13 e12 => ?_⟩
    have A13 : AllE K cA H13 [.ref v0, .ref v1, .ref v2, .ref v3, .ref v4, .ref v5, .ref v6, .ref v8, .ref v9, .ref v10, .ref v11, .ref v12] [0, 1, 3, 4, 8, 9, 10, 11, 15, 16, 17, 19] (.int n) := (A12.same s13).snoc e12
    replace fLa := s13 _ _ fLa
    have S13 := S12.trans s13
    clear A12 S12 e12
    refine ⟨_, rfl, err_val (K := K) (cA := cA) (C := cA 20) (H := H13) (j := 20) (ns := ["index"]) (ws := [.int n]) (ds := [.int n]) rfl (.cons (.int n) .nil) rfl (by show 1 ≤ 1000; decide) sm1 fun H14 v13 s14 e13 => ?_⟩
    have A14 : AllE K cA H14 [.ref v0, .ref v1, .ref v2, .ref v3, .ref v4, .ref v5, .ref v6, .ref v8, .ref v9, .ref v10, .ref v11, .ref v12, .ref v13] [0, 1, 3, 4, 8, 9, 10, 11, 15, 16, 17, 19, 20] (.int n) := (A13.same s14).snoc e13
    replace fLa := s14 _ _ fLa
    have S14 := S13.trans s14
    clear A13 S13 e13
    refine ⟨by show 6 ≤ sizeLine; decide, fun Lb nLb => ?_⟩
    have s15 := Ask.Same.made1 (o := .lst [.ref v8, .ref v9, .ref v10, .ref v11, .ref v12, .ref v13]) (Same.refl H14) nLb
    have fLb : upd H14 Lb (.lst [.ref v8, .ref v9, .ref v10, .ref v11, .ref v12, .ref v13]) Lb = some (.lst [.ref v8, .ref v9, .ref v10, .ref v11, .ref v12, .ref v13]) := upd_same
    have A15 := A14.same s15
    have S15 := S14.trans s15
    replace fLa := s15 _ _ fLa
    clear A14 S14 s15
    generalize upd H14 Lb (.lst [.ref v8, .ref v9, .ref v10, .ref v11, .ref v12, .ref v13]) = H15 at fLb A15 S15 fLa ⊢
    refine ⟨La, Lb, _, _, rfl, rfl, fLa, fLb, by show 13 ≤ sizeLine; decide, fun Lc nLc => ?_⟩
    have s16 := Ask.Same.made1 (o := .lst ([.ref v0, .ref v1, .ref v2, .ref v3, .ref v4, .ref v5, .ref v6] ++ [.ref v8, .ref v9, .ref v10, .ref v11, .ref v12, .ref v13])) (Same.refl H15) nLc
    have fLc : upd H15 Lc (.lst ([.ref v0, .ref v1, .ref v2, .ref v3, .ref v4, .ref v5, .ref v6] ++ [.ref v8, .ref v9, .ref v10, .ref v11, .ref v12, .ref v13])) Lc = some (.lst [.ref v0, .ref v1, .ref v2, .ref v3, .ref v4, .ref v5, .ref v6, .ref v8, .ref v9, .ref v10, .ref v11, .ref v12, .ref v13]) := upd_same
    have A16 := A15.same s16
    have S16 := S15.trans s16
    replace fLa := s16 _ _ fLa
    replace fLb := s16 _ _ fLb
    clear A15 S15 s16
    generalize upd H15 Lc (.lst ([.ref v0, .ref v1, .ref v2, .ref v3, .ref v4, .ref v5, .ref v6] ++ [.ref v8, .ref v9, .ref v10, .ref v11, .ref v12, .ref v13])) = H16 at fLc A16 S16 fLa fLb ⊢
    refine ⟨_, rfl, ?_⟩
    refine ⟨_, rfl, err_val (K := K) (cA := cA) (C := cA 25) (H := H16) (j := 25) (ns := ["index"]) (ws := [.int n]) (ds := [.int n]) rfl (.cons (.int n) .nil) rfl (by show 1 ≤ 1000; decide) sm1 fun H17 v16 s17 e16 => ?_⟩
    have A17 : AllE K cA H17 [.ref v0, .ref v1, .ref v2, .ref v3, .ref v4, .ref v5, .ref v6, .ref v8, .ref v9, .ref v10, .ref v11, .ref v12, .ref v13, .ref v16] [0, 1, 3, 4, 8, 9, 10, 11, 15, 16, 17, 19, 20, 25] (.int n) := (A16.same s17).snoc e16
    replace fLa := s17 _ _ fLa
    replace fLb := s17 _ _ fLb
    replace fLc := s17 _ _ fLc
    have S17 := S16.trans s17
    clear A16 S16 e16
    refine ⟨_, rfl, err_val (K := K) (cA := cA) (C := cA 32) (H := H17) (j := 32) (ns := ["index"]) (ws := [.int n]) (ds := [.int n]) rfl (.cons (.int n) .nil) rfl (by show 1 ≤ 1000; decide) sm1 fun H18 v17 s18 e17 => ?_⟩
    have A18 : AllE K cA H18 [.ref v0, .ref v1, .ref v2, .ref v3, .ref v4, .ref v5, .ref v6, .ref v8, .ref v9, .ref v10, .ref v11, .ref v12, .ref v13, .ref v16, .ref v17] [0, 1, 3, 4, 8, 9, 10, 11, 15, 16, 17, 19, 20, 25, 32] (.int n) := (A17.same s18).snoc e17
    replace fLa := s18 _ _ fLa
    replace fLb := s18 _ _ fLb
    replace fLc := s18 _ _ fLc
    have S18 := S17.trans s18
    clear A17 S17 e17
    refine ⟨_, rfl, rfl, rfl, Nat.zero_le _, (err_val (K := K) (cA := cA) (C := cA 33) (H := H18) (j := 33) (ns := ["index"]) (ws := [.int n]) (ds := [.int n]) rfl (.cons (.int n) .nil) rfl (by show 1 ≤ 1000; decide) sm1 fun H19 v18 s19 e18 => ?_).2⟩
    have A19 : AllE K cA H19 [.ref v0, .ref v1, .ref v2, .ref v3, .ref v4, .ref v5, .ref v6, .ref v8, .ref v9, .ref v10, .ref v11, .ref v12, .ref v13, .ref v16, .ref v17, .ref v18] [0, 1, 3, 4, 8, 9, 10, 11, 15, 16, 17, 19, 20, 25, 32, 33] (.int n) := (A18.same s19).snoc e18
    replace fLa := s19 _ _ fLa
    replace fLb := s19 _ _ fLb
    replace fLc := s19 _ _ fLc
    have S19 := S18.trans s19
    clear A18 S18 e18
    refine ⟨by show 3 ≤ sizeLine; decide, fun Ld nLd => ?_⟩
    have s20 := Ask.Same.made1 (o := .lst [.ref v16, .ref v17, .ref v18]) (Same.refl H19) nLd
    have fLd : upd H19 Ld (.lst [.ref v16, .ref v17, .ref v18]) Ld = some (.lst [.ref v16, .ref v17, .ref v18]) := upd_same
    have A20 := A19.same s20
    have S20 := S19.trans s20
    replace fLa := s20 _ _ fLa
    replace fLb := s20 _ _ fLb
    replace fLc := s20 _ _ fLc
    clear A19 S19 s20
    generalize upd H19 Ld (.lst [.ref v16, .ref v17, .ref v18]) = H20 at fLd A20 S20 fLa fLb fLc ⊢
    refine ⟨Lc, Ld, _, _, rfl, rfl, fLc, fLd, by show 16 ≤ sizeLine; decide, fun Le nLe => ?_⟩
    exact kq _ Le [.ref v0, .ref v1, .ref v2, .ref v3, .ref v4, .ref v5, .ref v6, .ref v8, .ref v9, .ref v10, .ref v11, .ref v12, .ref v13, .ref v16, .ref v17, .ref v18] (Ask.Same.made1 S20 nLe) (S20.free nLe) upd_same (A20.same (Ask.Same.made1 (Same.refl H20) nLe))
end
end Ask

namespace Ask
open PySem L2
theorem dk_neg {i : Int} (h0 : i < 0) (h1 : -(10 ^ 40) < i) : Dk (.int i) 41 := by
  obtain ⟨m, rfl⟩ : ∃ m : Nat, i = Int.negSucc m := ⟨(-i - 1).toNat, by omega⟩
  refine ⟨rfl, Nat.zero_le _, ?_, ?_⟩
  · show decide ((m + 1).log2 < 1920) = true
    refine decide_eq_true ((Nat.log2_lt (by omega)).mpr ?_)
    have a : (10 : Int) ^ 40 < (2 : Int) ^ 1920 := by decide +kernel
    have b : ((m + 1 : Nat) : Int) < (2 : Int) ^ 1920 := by omega
    exact_mod_cast b
  · show (Str.ofString (toString (Int.negSucc m))).length ≤ 41
    have e : (toString (Int.negSucc m)).toList = '-' :: (toString ((m + 1 : Nat) : Int)).toList := by
      show ("-" ++ toString (m + 1)).toList = _
      rw [String.toList_append]
      rfl
    have q := PyProof.Rows.toString_length_le (v := ((m + 1 : Nat) : Int)) (by omega) (k := 40) (by decide) (by omega)
    rw [PyProof.Rows.ofString_length] at q ⊢
    rw [e, List.length_cons]
    omega
theorem Dk.cons' {d : PyData} {ds : List PyData} {L M : Nat} (h : Dk d L) (k : DkAll ds M) : DkAll (d :: ds) (L + 2 + M) := DkAll.cons h k
/-- data that may be shown -/
def DkS (d : PyData) : Prop := Dk d 400
section
variable {P : Program} {w : World} {K : PySem.W.Frag} {mg : Str → Option Value} {base : Heap}
/-! ### a great number -/
def spGreat : Sp := fun vs H Q _ => ∃ (p c : Addr) (ns : List Int) (B : Nat), vs = [.ref p] ∧ Pen c ns H p B ∧ B ≤ 500000000 ∧ ∀ (H' : Hp) (r : Int), Go p c ns H H' (B + 30) → 1 ≤ r → r ≤ 1000000000000000000000000000000 → Q (.int r) H'
abbrev s__law_great : Stmt := top 49
theorem sc__law_great : FnScope ["_law_pen_here", "_law_found", "_law_k"] ["_law_pen_here"] (defScope s__law_great) := ⟨rfl, rfl, rfl, by decide +kernel, rfl, by decide +kernel, by decide +kernel⟩
theorem ok_great {f fD : Addr} {fd fdD : FuncData} (F : Fun K "_law_great" "_law_great" s__law_great f fd) (T : Blt mg)
    (GD : FnOk P w K mg base CX0 1 fD fdD ["_law_pen_here", "_law_many"] spDraw) (D : At K mg "_law_draw" fD fdD ["_law_pen_here", "_law_many"]) : FnOk P w K mg base CX0 2 f fd ["_law_pen_here"] spGreat := by
  refine F.ok sc__law_great (fun vs H Q E h => ?_) (fun cdv A outer s H vs Q E hr h => ?_)
  · obtain ⟨p, c, ns, B, rfl, _⟩ := h
    rfl
  · obtain ⟨p, c, ns, B, rfl, hp, hB, k⟩ := h
    refine ⟨_, (pss_cons (ps_set (i := 1) sc__law_great.nd rfl (Or.inl rfl) pe_int)
      (pss_cons (ps_for PassesOwn.never rfl (pi_range1 rfl T.n_range (pa_cons pe_int pa_nil)) (pg_name (i := 2) sc__law_great.nd rfl (Or.inl rfl)) (pss_one (ps_set (i := 1) sc__law_great.nd rfl (Or.inl rfl) (pe_op op_add (pe_op op_mul pe_int (pv 1)) (pe_call GD hr (by rfl) D.m D.k D.b .nil pass0 (pa_cons (pv 0) (pa_cons pe_int pa_nil)))))))
      (pss_one (ps_ret (pe_op op_add pe_int (pv 1)))))), ?_⟩
    refine ⟨30, rfl, by decide, by decide, for_range (lo := 0) (n := 30) (fun i σ' H' => ∃ (x : Int) (o2 : Option V), σ' = [some (.ref p), some (.int x), o2] ∧ Go p c ns H H' (B + i) ∧ 0 ≤ x ∧ x < 10 ^ i) ⟨0, none, rfl, Go.refl hp, by decide, by decide⟩ ?_ ?_⟩
    · rintro i σ' H1 hi ⟨x, o2, rfl, g1, x0, x1⟩
      refine ⟨_, rfl, _, _, rfl, rfl, .inl ⟨by decide, by decide⟩, _, rfl, p, c, ns, 10, B + i, rfl, g1.pen, by omega, by decide, by decide, fun H2 r g2 r0 r1 => ⟨_, _, rfl, rfl, _, _, rfl, g1.step g2, by omega, ?_⟩⟩
      rw [Int.pow_succ]
      omega
    · rintro σ' H1 ⟨x, o2, rfl, g1, x0, x1⟩
      have x1 : x < 1000000000000000000000000000000 := x1
      exact ⟨_, rfl, _, _, rfl, rfl, k H1 _ g1 (by omega) (by omega)⟩
/-! ### a value of any kind -/
def spValue (K : PySem.W.Frag) : Sp := fun vs H Q _ => ∃ (p c : Addr) (ns : List Int) (B : Nat), vs = [.ref p] ∧ Pen c ns H p B ∧ B ≤ 400000000 ∧ ∀ (H' : Hp) (v : V) (d : PyData), Go p c ns H H' (B + 40) → Dp K H' v d → Smp d → DkS d → Q v H'
abbrev s__law_value : Stmt := top 50
theorem sc__law_value : FnScope ["_law_pen_here", "_law_way", "_law_far"] ["_law_pen_here"] (defScope s__law_value) := ⟨rfl, rfl, rfl, by decide +kernel, rfl, by decide +kernel, by decide +kernel⟩
theorem ok_value {f fD fG : Addr} {fd fdD fdG : FuncData} (F : Fun K "_law_value" "_law_value" s__law_value f fd)
    (GD : FnOk P w K mg base CX0 1 fD fdD ["_law_pen_here", "_law_many"] spDraw) (D : At K mg "_law_draw" fD fdD ["_law_pen_here", "_law_many"])
    (GG : FnOk P w K mg base CX0 2 fG fdG ["_law_pen_here"] spGreat) (AG : At K mg "_law_great" fG fdG ["_law_pen_here"]) : FnOk P w K mg base CX0 3 f fd ["_law_pen_here"] (spValue K) := by
  refine F.ok sc__law_value (fun vs H Q E h => ?_) (fun cdv A outer s H vs Q E hr h => ?_)
  · obtain ⟨p, c, ns, B, rfl, _⟩ := h
    rfl
  · obtain ⟨p, c, ns, B, rfl, hp, hB, k⟩ := h
    have hr1 := hr.mono (j := 1) (by decide)
    refine ⟨_, (pss_cons (ps_par (i := 1) (j := 2) rfl sc__law_value.nd rfl rfl (by decide) rfl rfl (pa_cons (pe_call GD hr1 (by rfl) D.m D.k D.b .nil pass0 (pa_cons (pv 0) (pa_cons pe_int pa_nil))) (pa_cons (pe_call GG hr (by rfl) AG.m AG.k AG.b .nil pass0 (pa_cons (pv 0) pa_nil)) pa_nil)) (by rfl))
      (pss_one (ps_ret (pe_ix ix_list (pe_lst (pa_cons (pv 2) (pa_cons (pe_un un_neg (pv 2)) (pa_cons pe_int (pa_cons pe_non (pa_cons pe_bl (pa_cons pe_str (pa_cons (pe_tup (pa_cons (pv 2) (pa_cons pe_str pa_nil))) (pa_cons (pe_lst (pa_cons pe_str (pa_cons pe_non pa_nil))) pa_nil))))))))) (pv 1) (fun _ _ => rfl))))), ?_⟩
    refine ⟨_, rfl, p, c, ns, 8, B, rfl, hp, by omega, by decide, by decide, fun H1 r g1 r0 r1 => ⟨_, rfl, p, c, ns, B + 1, rfl, g1.pen, by omega, fun H2 m g2 m0 m1 => ⟨_, _, rfl, ?_⟩⟩⟩
    have g12 := g1.step g2
    have two : (2 : Nat) ≤ sizeLine := by decide
    refine ⟨_, rfl, _, rfl, _, rfl, _, rfl, two, fun t ht => ⟨two, fun l hl => ⟨by show 8 ≤ sizeLine; decide, fun L hL => ?_⟩⟩⟩
    have g3 := g12.new (o := .tup [.int m, .str "a"]) ht
    have g4 := g3.new (o := .lst [.str "~a", .non]) hl
    have g5 := g4.new (o := .lst [.int m, .int (-m), .int 0, .non, .bl true, .str "new", .ref t, .ref l]) hL
    have ft : upd (upd (upd H2 t (.tup [.int m, .str "a"])) l (.lst [.str "~a", .non])) L (.lst [.int m, .int (-m), .int 0, .non, .bl true, .str "new", .ref t, .ref l]) t = some (.tup [.int m, .str "a"]) := by
      rw [upd_ne (ne_of_none (by rw [upd_ne (ne_of_none upd_same hl)]; exact upd_same) hL), upd_ne (ne_of_none upd_same hl)]
      exact upd_same
    have fl : upd (upd (upd H2 t (.tup [.int m, .str "a"])) l (.lst [.str "~a", .non])) L (.lst [.int m, .int (-m), .int 0, .non, .bl true, .str "new", .ref t, .ref l]) l = some (.lst [.str "~a", .non]) := by
      rw [upd_ne (ne_of_none upd_same hL)]
      exact upd_same
    have fL : upd (upd (upd H2 t (.tup [.int m, .str "a"])) l (.lst [.str "~a", .non])) L (.lst [.int m, .int (-m), .int 0, .non, .bl true, .str "new", .ref t, .ref l]) L = some (.lst [.int m, .int (-m), .int 0, .non, .bl true, .str "new", .ref t, .ref l]) := upd_same
    generalize upd (upd (upd H2 t (.tup [.int m, .str "a"])) l (.lst [.str "~a", .non])) L (.lst [.int m, .int (-m), .int 0, .non, .bl true, .str "new", .ref t, .ref l]) = H5 at g5 ft fl fL ⊢
    have da : Dk (.str "a") 40 := (dk_str (z := "a") (by decide)).mono (by decide)
    have dta : Dk (.str "~a") 40 := (dk_str (z := "~a") (by decide)).mono (by decide)
    have dm : Dk (.int m) 40 := dk_int (by omega) (by omega)
    obtain ⟨v, d, h1, h2, h3, h4⟩ : ∃ (v : V) (d : PyData), atI [V.int m, .int (-m), .int 0, .non, .bl true, .str "new", .ref t, .ref l] r = some v ∧ Dp K H5 v d ∧ Smp d ∧ DkS d := by
      have : r = 0 ∨ r = 1 ∨ r = 2 ∨ r = 3 ∨ r = 4 ∨ r = 5 ∨ r = 6 ∨ r = 7 := by omega
      rcases this with rfl | rfl | rfl | rfl | rfl | rfl | rfl | rfl
      · exact ⟨_, (.int m), at_by (j := 0) rfl rfl, (.int _), (.inl rfl), (dm.mono (by decide))⟩
      · exact ⟨_, (.int (-m)), at_by (j := 1) rfl rfl, (.int _), (.inl rfl), ((dk_neg (by omega) (by omega)).mono (by decide))⟩
      · exact ⟨_, (.int 0), at_by (j := 2) rfl rfl, (.int _), (.inl rfl), ((dk_int (by decide) (by decide)).mono (by decide))⟩
      · exact ⟨_, .none, at_by (j := 3) rfl rfl, .non, (.inl rfl), (dk_non.mono (by decide))⟩
      · exact ⟨_, (.bool true), at_by (j := 4) rfl rfl, (.bl _), (.inl rfl), ((dk_bool true).mono (by decide))⟩
      · exact ⟨_, (.str "new"), at_by (j := 5) rfl rfl, (.str _), (.inl rfl), ((dk_str (z := "new") (by decide)).mono (by decide))⟩
      · exact ⟨_, (.tuple [.int m, .str "a"]), at_by (j := 6) rfl rfl, (.tup (SqT.of ft) (.cons (.int _) (.cons (.str _) .nil))), (.inr ⟨_, .inr rfl, Nat.le_refl _, fun x hx => by simp only [List.mem_cons, List.not_mem_nil, or_false] at hx; rcases hx with rfl | rfl <;> rfl⟩), ((((dm.cons' (da.cons' .nil)).tup (by show max 0 (max 0 0) ≤ 4; decide))).mono (by decide))⟩
      · exact ⟨_, (.list [.str "~a", .none]), at_by (j := 7) rfl rfl, (.lst (SqL.of fl) (.cons (.str _) (.cons .non .nil))), (.inr ⟨_, .inl rfl, Nat.le_refl _, fun x hx => by simp only [List.mem_cons, List.not_mem_nil, or_false] at hx; rcases hx with rfl | rfl <;> rfl⟩), ((((dta.cons' (dk_non.cons' .nil)).lst (by show max 0 (max 0 0) ≤ 4; decide))).mono (by decide))⟩
    exact ⟨_, rfl, L, _, _, _, rfl, rfl, SqL.of fL, h1, k H5 v d (g5.mono (by omega)) h2 h3 h4⟩
end
end Ask

/-! C(), C an own error without __init__ -/
namespace Ask
open PySem PySem.Spec PyProof.Rows L2
theorem pmk_own0 {X : Cx} {C : Addr} {bmB : List Value} {B newId initId : String} {x : Str} {p pos : Pos} (F : ExcBaseFacts B newId initId bmB) (q : PySem.W.excIn X.K C bmB newId = true) (gC : X.mg x = some (.ref C)) (kC : PySem.W.keepIn X.K (.ref C) = true) (r : Raises X (.ref C)) (hg : Gl X x)
    (hdb : (x == ("__debug__" : Str)) = false := by decide) : PMk X (.Call (.Name x p) [] [] pos) (fun _ H Q => Q (.ref C) none H) := by
  intro pins s σ H Q I h
  refine wpAny_Call_Name_kw (ld_glob I hg gC ?_ hdb)
  refine PySem.W.callWith_K0 (first := []) I.kIn kC ?_
  show wpAny _ _ (call (.ref C) []) _ _ _
  obtain ⟨bm, N, nm, qn, bs, hdct, sn, sub, ab, col, dd, k0, k1, k2, k3, k5, mN, hC, hN, hni, T⟩ := exc_obj I.kIn q
  refine wpAny_call_exc_subT F T hC hN hni (fun h' e hm => ?_) (Nat.zero_le _)
  exact mk_of I hm r h (I.hok.gone hm.new)
/-- an own error class without __init__ -/
structure Err0 (K : PySem.W.Frag) (mg : Str → Option Value) (x : Str) (C : Addr) : Prop where
  m : mg x = some (.ref C)
  e : PySem.W.excIn K C [Value.type "ValueError", Value.type "Exception", Value.type "BaseException", Value.type "object"] "ValueError.__new__" = true
  k : PySem.W.keepIn K (.ref C) = true
  b : PySem.W.subIn K (.ref C) (.type "BaseException") = some true
  t : PySem.W.typeIn K (.ref C) = some (.type "type")
end Ask

namespace Ask
open PySem L2
/-- an error, what is due, what is told: both alike -/
def RowE (K : PySem.W.Frag) (cA : Nat → Addr) (H : Hp) (v : V) (j : Nat) : Prop := ∃ (t : Addr) (e x y : V) (D : PyData), v = .ref t ∧ H t = some (.tup [e, x, y]) ∧ ErrI cA H e j ∧ Dp K H x D ∧ Dp K H y D ∧ DkS D
theorem RowE.same {K : PySem.W.Frag} {cA : Nat → Addr} {H H' : Hp} {v : V} {j : Nat} (h : RowE K cA H v j) (s : Same H H') : RowE K cA H' v j := by
  obtain ⟨t, e, x, y, D, h1, h2, h3, h4, h5, h6⟩ := h
  exact ⟨t, e, x, y, D, h1, s _ _ h2, h3.same s, Dp.same s h4, Dp.same s h5, h6⟩
/-- two lists in step -/
def AllP (R : V → Nat → Prop) (vs : List V) (js : List Nat) : Prop := vs.length = js.length ∧ ∀ (p : Nat) (v : V) (j : Nat), vs[p]? = some v → js[p]? = some j → R v j
section
variable {R R' : V → Nat → Prop} {vs us : List V} {js ks : List Nat} {v : V} {j : Nat}
theorem AllP.nil : AllP R [] [] := ⟨rfl, fun p v j e => by simp at e⟩
theorem AllP.imp (h : AllP R vs js) (f : ∀ v j, R v j → R' v j) : AllP R' vs js := ⟨h.1, fun p v j e1 e2 => f _ _ (h.2 p v j e1 e2)⟩
theorem AllP.cons (r : R v j) (h : AllP R vs js) : AllP R (v :: vs) (j :: js) := by
  refine ⟨congrArg Nat.succ h.1, fun p u k e1 e2 => ?_⟩
  match p, e1, e2 with
  | 0, e1, e2 => cases e1; cases e2; exact r
  | p + 1, e1, e2 => exact h.2 p u k e1 e2
theorem AllP.app (h : AllP R vs js) (g : AllP R us ks) : AllP R (vs ++ us) (js ++ ks) := by
  refine ⟨by rw [List.length_append, List.length_append, h.1, g.1], fun p u k e1 e2 => ?_⟩
  rcases Nat.lt_or_ge p vs.length with hp | hp
  · rw [List.getElem?_append_left hp] at e1
    rw [List.getElem?_append_left (by rw [← h.1]; exact hp)] at e2
    exact h.2 p u k e1 e2
  · rw [List.getElem?_append_right hp] at e1
    rw [List.getElem?_append_right (by rw [← h.1]; exact hp), ← h.1] at e2
    exact g.2 _ u k e1 e2
end
def AllR (K : PySem.W.Frag) (cA : Nat → Addr) (H : Hp) (vs : List V) (js : List Nat) : Prop := AllP (fun v j => RowE K cA H v j) vs js
def AllI (cA : Nat → Addr) (H : Hp) (vs : List V) (js : List Nat) : Prop := AllP (fun v j => ErrI cA H v j) vs js
/-- a row of an error without fields -/
def RowZ (cA : Nat → Addr) (H : Hp) (v : V) (j : Nat) : Prop := ∃ (t : Addr) (e : V), v = .ref t ∧ H t = some (.tup [e, .int 0, .int 0]) ∧ ErrI cA H e j
section
variable {K : PySem.W.Frag} {cA : Nat → Addr} {H H' : Hp} {vs us : List V} {js ks : List Nat} {v : V} {j : Nat}
theorem AllR.same (h : AllR K cA H vs js) (s : Same H H') : AllR K cA H' vs js := AllP.imp h fun _ _ r => RowE.same r s
theorem AllI.same (h : AllI cA H vs js) (s : Same H H') : AllI cA H' vs js := AllP.imp h fun _ _ r => ErrI.same r s
theorem ErrI.mut {D : Addr} {xs : List V} {o : HO} (h : ErrI cA H v j) (hD : H D = some (.lst xs)) : ErrI cA (upd H D o) v j := by
  obtain ⟨a, d, e, h1, h2⟩ := h
  have n : ∀ {b : Addr} {φ : Heap → Prop}, H b = some (.ext φ) → b ≠ D := fun q z => by
    rw [z, hD] at q
    cases q
  exact ⟨a, d, e, by rw [upd_ne (n h1)]; exact h1, fun dd q => let ⟨fs, h3⟩ := h2 dd q; ⟨fs, by rw [upd_ne (n h3)]; exact h3⟩⟩
theorem RowZ.same (h : RowZ cA H v j) (s : Same H H') : RowZ cA H' v j := by
  obtain ⟨t, e, h1, h2, h3⟩ := h
  exact ⟨t, e, h1, s _ _ h2, h3.same s⟩
theorem RowZ.mut {D : Addr} {xs : List V} {o : HO} (h : RowZ cA H v j) (hD : H D = some (.lst xs)) : RowZ cA (upd H D o) v j := by
  obtain ⟨t, e, h1, h2, h3⟩ := h
  have n : t ≠ D := fun z => by
    rw [z, hD] at h2
    cases h2
  exact ⟨t, e, h1, by rw [upd_ne n]; exact h2, h3.mut hD⟩
theorem RowZ.row (h : RowZ cA H v j) : RowE K cA H v j := by
  obtain ⟨t, e, h1, h2, h3⟩ := h
  exact ⟨t, e, _, _, .int 0, h1, h2, h3, .int _, .int _, (dk_int (by decide) (by decide)).mono (by decide)⟩
end
section
variable {K : PySem.W.Frag} {cA : Nat → Addr}
/-! ### readings that may be used at any later heap -/
def RowT (K : PySem.W.Frag) (cA : Nat → Addr) (te : TE) (σ : L2.St) (H : Hp) (j : Nat) : Prop := ∀ (H1 : Hp) (Q : VK), Same H H1 → (∀ (H' : Hp) (v : V), Same H1 H' → RowE K cA H' v j → Q v H') → te σ H1 Q
def RowsT (K : PySem.W.Frag) (cA : Nat → Addr) (ts : TA) (σ : L2.St) (H : Hp) (js : List Nat) : Prop := ∀ (H1 : Hp) (Q : List V → Hp → Prop), Same H H1 → (∀ (H' : Hp) (vs : List V), Same H1 H' → AllR K cA H' vs js → Q vs H') → ts σ H1 Q
theorem rows_nil {σ : L2.St} {H : Hp} : RowsT K cA tNil σ H [] := fun H1 Q s k => k H1 [] (Same.refl _) AllP.nil
theorem rows_cons {te : TE} {ts : TA} {σ : L2.St} {H : Hp} {j : Nat} {js : List Nat} (h : RowT K cA te σ H j) (g : RowsT K cA ts σ H js) : RowsT K cA (tCons te ts) σ H (j :: js) := fun H1 Q s k =>
  h H1 _ s fun H2 v s2 r => g H2 _ (s.trans s2) fun H3 vs s3 rs => k H3 (v :: vs) (s2.trans s3) (AllP.cons (r.same s3) rs)
/-- found = found + [rows] -/
theorem found_add {ts : TA} {σ : L2.St} {H : Hp} {acc js : List Nat} {q : Addr} {vs : List V} {i : Nat} {Q : VK} (g : RowsT K cA ts σ H js) (hi : σ[i]? = some (some (.ref q))) (hq : H q = some (.lst vs)) (hv : AllR K cA H vs acc) (hl : acc.length + js.length ≤ 1000)
    (k : ∀ (H' : Hp) (q' : Addr) (vs' : List V), Same H H' → H q' = none → H' q' = some (.lst vs') → AllR K cA H' vs' (acc ++ js) → Q (.ref q') H') : tOp rCat (tVar i) (tLst ts) σ H Q := by
  refine ⟨_, hi, g H _ (Same.refl _) fun H1 ws s1 rs => ?_⟩
  have z1 : (1000 : Nat) ≤ sizeLine := by decide
  have l1 := rs.1
  have l2 := hv.1
  refine ⟨by omega, fun L nL => ?_⟩
  have s2 := Ask.Same.made1 (o := .lst ws) (Same.refl H1) nL
  refine ⟨q, L, vs, ws, rfl, rfl, s2 _ _ (s1 _ _ hq), upd_same, by omega, fun M nM => ?_⟩
  have s3 := Ask.Same.made1 (o := .lst (vs ++ ws)) (Same.refl (upd H1 L (.lst ws))) nM
  have s23 := s2.trans s3
  exact k _ M _ (s1.trans s23) ((s1.trans s2).free nM) upd_same (AllP.app (hv.same (s1.trans s23)) (rs.same s23))
/-! ### rows -/
variable {σ : L2.St} {H : Hp} {a : Addr} {j i l : Nat} {ns : List Str} {ds : List PyData}
/-- a field is read -/
theorem oget_at {H1 : Hp} {f : Str} {D : PyData} {k : Nat} {Q : VK} (h : ErrF K cA H1 (.ref a) j ns ds) (X : XfC K (cA j)) (N : ∀ n ∈ ns, PySem.W.findIn K (.ref (cA j)) n = some none) (hi : σ[i]? = some (some (.ref a))) (hn : ns[k]? = some f) (hd : ds[k]? = some D)
    (q : ∀ v, Dp K H1 v D → Q v H1) : tOget K f (tVar i) σ H1 Q := by
  obtain ⟨_, dd, fs, ea, h1, h2, fl⟩ := h
  cases ea
  obtain ⟨v, lv, dv⟩ := fl.2 k f D hn hd
  exact ⟨_, hi, a, cA j, dd, fs, v, rfl, h1, h2, X, N f (List.mem_of_getElem? hn), lv, q v dv⟩
/-- (x, d, x.f) -/
theorem row_one {f : Str} {D : PyData} {v : V} {k : Nat} (h : ErrF K cA H (.ref a) j ns ds) (X : XfC K (cA j)) (N : ∀ n ∈ ns, PySem.W.findIn K (.ref (cA j)) n = some none) (hi : σ[i]? = some (some (.ref a))) (hl : σ[l]? = some (some v)) (hv : Dp K H v D) (kD : DkS D) (hn : ns[k]? = some f) (hd : ds[k]? = some D) :
    RowT K cA (tTup (tCons (tVar i) (tCons (tVar l) (tCons (tOget K f (tVar i)) tNil)))) σ H j := fun H1 Q s1 q => by
  refine ⟨_, hi, _, hl, oget_at (h.same s1) X N hi hn hd fun w dw => ?_⟩
  refine ⟨by show 3 ≤ sizeLine; decide, fun t nt => ?_⟩
  have s2 := Ask.Same.made1 (o := .tup [.ref a, v, w]) (Same.refl H1) nt
  exact q _ _ s2 ⟨t, _, _, _, D, rfl, upd_same, ((h.same s1).same s2).i, Dp.same (s1.trans s2) hv, Dp.same s2 dw, kD⟩
/-- parts of a list that may be read at any later heap -/
def PartT (K : PySem.W.Frag) (te : TE) (σ : L2.St) (H : Hp) (D : PyData) : Prop := ∀ (H1 : Hp) (Q : VK), Same H H1 → (∀ v, Dp K H1 v D → Q v H1) → te σ H1 Q
theorem part_var {v : V} {D : PyData} (hl : σ[l]? = some (some v)) (hv : Dp K H v D) : PartT K (tVar l) σ H D := fun H1 Q s q => ⟨v, hl, q v (Dp.same s hv)⟩
theorem part_get {f : Str} {D : PyData} {k : Nat} (h : ErrF K cA H (.ref a) j ns ds) (X : XfC K (cA j)) (N : ∀ n ∈ ns, PySem.W.findIn K (.ref (cA j)) n = some none) (hi : σ[i]? = some (some (.ref a))) (hn : ns[k]? = some f) (hd : ds[k]? = some D) :
    PartT K (tOget K f (tVar i)) σ H D := fun H1 Q s q => oget_at (h.same s) X N hi hn hd q
def PartsT (K : PySem.W.Frag) (ts : TA) (σ : L2.St) (H : Hp) (Ds : List PyData) : Prop := ∀ (H1 : Hp) (Q : List V → Hp → Prop), Same H H1 → (∀ vs, DpAll K H1 vs Ds → Q vs H1) → ts σ H1 Q
theorem parts_nil : PartsT K tNil σ H [] := fun H1 Q s q => q [] .nil
theorem parts_cons {te : TE} {ts : TA} {D : PyData} {Ds : List PyData} (h : PartT K te σ H D) (g : PartsT K ts σ H Ds) : PartsT K (tCons te ts) σ H (D :: Ds) := fun H1 Q s q =>
  h H1 _ s fun v hv => g H1 _ s fun vs hs => q (v :: vs) (.cons hv hs)
/-- (x, [..], [x.f, ..]) -/
theorem row_lists {ts us : TA} {Ds : List PyData} (h : ErrF K cA H (.ref a) j ns ds) (hi : σ[i]? = some (some (.ref a))) (g1 : PartsT K ts σ H Ds) (g2 : PartsT K us σ H Ds) (kD : DkS (.list Ds)) (ln : Ds.length ≤ 100) :
    RowT K cA (tTup (tCons (tVar i) (tCons (tLst ts) (tCons (tLst us) tNil)))) σ H j := fun H1 Q s1 q => by
  have z1 : (1000 : Nat) ≤ sizeLine := by decide
  refine ⟨_, hi, g1 H1 _ s1 fun vs hv => ?_⟩
  have lv := DpAll.len hv
  refine ⟨by omega, fun L nL => ?_⟩
  have s2 := Ask.Same.made1 (o := .lst vs) (Same.refl H1) nL
  refine g2 _ _ (s1.trans s2) fun us' hu => ?_
  have lu := DpAll.len hu
  refine ⟨by omega, fun M nM => ?_⟩
  have s3 := Ask.Same.made1 (o := .lst us') (Same.refl (upd H1 L (.lst vs))) nM
  refine ⟨by show 3 ≤ sizeLine; decide, fun t nt => ?_⟩
  have s4 := Ask.Same.made1 (o := .tup [.ref a, .ref L, .ref M]) (Same.refl (upd (upd H1 L (.lst vs)) M (.lst us'))) nt
  have s34 := s3.trans s4
  exact q _ _ (s2.trans s34) ⟨t, _, _, _, .list Ds, rfl, upd_same, (h.same (s1.trans (s2.trans s34))).i, .lst (SqL.of (s34 _ _ upd_same)) (DpAll.same (s2.trans s34) hv), .lst (SqL.of (s4 _ _ upd_same)) (DpAll.same s34 hu), kD⟩
/-! ### errors are made -/
def MkT (K : PySem.W.Frag) (cA : Nat → Addr) (te : TE) (σ : L2.St) (H : Hp) (j : Nat) (ns : List Str) (ds : List PyData) : Prop := ∀ (H1 : Hp) (Q : VK), Same H H1 → (∀ (H' : Hp) (a : Addr), Same H1 H' → ErrF K cA H' (.ref a) j ns ds → Q (.ref a) H') → te σ H1 Q
theorem mk_pos {ta : TA} {ws : List V} (ha : ∀ (H1 : Hp) (Q : List V → Hp → Prop), Same H H1 → Q ws H1 → ta σ H1 Q) (hd : DpAll K H ws ds) (l : ws.length = ns.length) (l2 : ws.length ≤ 1000) (sm : ∀ d ∈ ds, Smp d) :
    MkT K cA (tMkV (cA j) (spIni K (cA j) ns) [] ta) σ H j ns ds := fun H1 Q s k =>
  ha H1 _ s (err_val rfl (DpAll.same s hd) l l2 sm fun H' a s' e => k H' a s' e)
theorem mk_kw {ta tk : TA} {ws zs : List V} {n m : Nat} (ha : ∀ (H1 : Hp) (Q : List V → Hp → Prop), Same H H1 → Q ws H1 → ta σ H1 Q) (hk : ∀ (H1 : Hp) (Q : List V → Hp → Prop), Same H H1 → Q zs H1 → tk σ H1 Q) (e1 : ws.length = n) (e2 : zs.length = m) (hd : DpAll K H (ws ++ zs) ds) (l : (ws ++ zs).length = ns.length) (l2 : (ws ++ zs).length ≤ 1000) (sm : ∀ d ∈ ds, Smp d) :
    MkT K cA (tMkVK (cA j) n m (spIni K (cA j) ns) (fun vs zs => vs ++ zs) ta tk) σ H j ns ds := fun H1 Q s k => by
  refine ha H1 _ s (hk H1 _ s ⟨e1, e2, by rw [List.length_append] at l2; omega, ?_⟩)
  have q := (err_val (K := K) (cA := cA) (C := cA j) (j := j) (G := fun a H' => Q (.ref a) H') rfl (DpAll.same s hd) l l2 sm fun H' a s' e => k H' a s' e).2
  intro a na
  have q := q a na
  rw [List.append_nil] at q
  exact q
theorem made4 {o0 o1 o2 o3 o4 o5 o6 o7 o8 o9 o10 : Option V} {m1 m2 m3 m4 : TE} {U : L2.St → Hp → Prop} {j1 j2 j3 j4 : Nat} {n1 n2 n3 n4 : List Str} {d1 d2 d3 d4 : List PyData} (h1 : MkT K cA m1 [o0, o1, o2, o3, o4, o5, o6, o7, o8, o9, o10] H j1 n1 d1) (h2 : MkT K cA m2 [o0, o1, o2, o3, o4, o5, o6, o7, o8, o9, o10] H j2 n2 d2) (h3 : MkT K cA m3 [o0, o1, o2, o3, o4, o5, o6, o7, o8, o9, o10] H j3 n3 d3) (h4 : MkT K cA m4 [o0, o1, o2, o3, o4, o5, o6, o7, o8, o9, o10] H j4 n4 d4)
    (k : ∀ (H' : Hp) (a1 a2 a3 a4 : Addr), Same H H' → ErrF K cA H' (.ref a1) j1 n1 d1 → ErrF K cA H' (.ref a2) j2 n2 d2 → ErrF K cA H' (.ref a3) j3 n3 d3 → ErrF K cA H' (.ref a4) j4 n4 d4 → U [o0, o1, o2, o3, o4, o5, some (.ref a1), some (.ref a2), some (.ref a3), some (.ref a4), o10] H') :
    tTup (tCons m1 (tCons m2 (tCons m3 (tCons m4 tNil)))) [o0, o1, o2, o3, o4, o5, o6, o7, o8, o9, o10] H (fun x H1 => gTup K 4 (gCons (gName 6) (gCons (gName 7) (gCons (gName 8) (gCons (gName 9) gNil)))) x [o0, o1, o2, o3, o4, o5, o6, o7, o8, o9, o10] H1 U) := by
  refine h1 H _ (Same.refl _) fun H1 a1 s1 e1 => h2 H1 _ s1 fun H2 a2 s2 e2 => h3 H2 _ (s1.trans s2) fun H3 a3 s3 e3 => h4 H3 _ ((s1.trans s2).trans s3) fun H4 a4 s4 e4 => ?_
  refine ⟨by show 4 ≤ sizeLine; decide, fun T nT => ?_⟩
  have s5 := Ask.Same.made1 (o := .tup [.ref a1, .ref a2, .ref a3, .ref a4]) (Same.refl H4) nT
  refine ⟨T, _, rfl, SqT.of upd_same, rfl, _, _, rfl, _, _, rfl, _, _, rfl, _, _, rfl, rfl, ?_⟩
  exact k _ a1 a2 a3 a4 ((((s1.trans s2).trans s3).trans s4).trans s5) (((e1.same s2).same s3).same (s4.trans s5)) ((e2.same s3).same (s4.trans s5)) (e3.same (s4.trans s5)) (e4.same s5)
theorem made3 {o0 o1 o2 o3 o4 o5 o6 o7 o8 o9 o10 : Option V} {m1 m2 m3 : TE} {U : L2.St → Hp → Prop} {j1 j2 j3 : Nat} {n1 n2 n3 : List Str} {d1 d2 d3 : List PyData} (h1 : MkT K cA m1 [o0, o1, o2, o3, o4, o5, o6, o7, o8, o9, o10] H j1 n1 d1) (h2 : MkT K cA m2 [o0, o1, o2, o3, o4, o5, o6, o7, o8, o9, o10] H j2 n2 d2) (h3 : MkT K cA m3 [o0, o1, o2, o3, o4, o5, o6, o7, o8, o9, o10] H j3 n3 d3)
    (k : ∀ (H' : Hp) (a1 a2 a3 : Addr), Same H H' → ErrF K cA H' (.ref a1) j1 n1 d1 → ErrF K cA H' (.ref a2) j2 n2 d2 → ErrF K cA H' (.ref a3) j3 n3 d3 → U [o0, o1, o2, o3, o4, o5, some (.ref a1), some (.ref a2), some (.ref a3), o9, o10] H') :
    tCons m1 (tCons m2 (tCons m3 tNil)) [o0, o1, o2, o3, o4, o5, o6, o7, o8, o9, o10] H (fun vs H1 => ∃ u v w, vs = [u, v, w] ∧ U [o0, o1, o2, o3, o4, o5, some u, some v, some w, o9, o10] H1) := by
  refine h1 H _ (Same.refl _) fun H1 a1 s1 e1 => h2 H1 _ s1 fun H2 a2 s2 e2 => h3 H2 _ (s1.trans s2) fun H3 a3 s3 e3 => ⟨_, _, _, rfl, ?_⟩
  exact k _ a1 a2 a3 ((s1.trans s2).trans s3) ((e1.same s2).same s3) (e2.same s3) e3
theorem st_asg {σ : L2.St} {H : Hp} {te : TE} {g : TG} {u : TS} {D : Ends} (h : te σ H fun x H1 => g x σ H1 (u D)) : tSeq (tAsg te g) u D σ H := h
theorem st_par3 {o0 o1 o2 o3 o4 o5 o6 o7 o8 o9 o10 : Option V} {H : Hp} {ta : TA} {u : TS} {D : Ends} (h : ta [o0, o1, o2, o3, o4, o5, o6, o7, o8, o9, o10] H fun vs H1 => ∃ x y z, vs = [x, y, z] ∧ u D [o0, o1, o2, o3, o4, o5, some x, some y, some z, o9, o10] H1) : tSeq (tPar3 6 7 8 ta) u D [o0, o1, o2, o3, o4, o5, o6, o7, o8, o9, o10] H := h
theorem nm_4 {o0 o1 o2 o3 o4 o5 o6 o7 o8 o9 o10 : Option V} {v : V} {H : Hp} {U : L2.St → Hp → Prop} (h : U [o0, o1, o2, o3, some v, o5, o6, o7, o8, o9, o10] H) : gName 4 v [o0, o1, o2, o3, o4, o5, o6, o7, o8, o9, o10] H U := h
theorem nm_5 {o0 o1 o2 o3 o4 o5 o6 o7 o8 o9 o10 : Option V} {v : V} {H : Hp} {U : L2.St → Hp → Prop} (h : U [o0, o1, o2, o3, o4, some v, o6, o7, o8, o9, o10] H) : gName 5 v [o0, o1, o2, o3, o4, o5, o6, o7, o8, o9, o10] H U := h
/-! ### errors without fields -/
def tBare (C : Addr) : TE := fun σ H Q => ∀ a, H a = none → Q (.ref a) (upd H a (exo a C none))
def BaresT (cA : Nat → Addr) (ts : TA) (σ : L2.St) (H : Hp) (js : List Nat) : Prop := ∀ (H1 : Hp) (Q : List V → Hp → Prop), Same H H1 → (∀ (H' : Hp) (vs : List V), Same H1 H' → AllI cA H' vs js → Q vs H') → ts σ H1 Q
theorem bares_nil : BaresT cA tNil σ H [] := fun H1 Q s k => k H1 [] (Same.refl _) AllP.nil
theorem bares_cons {ts : TA} {js : List Nat} (g : BaresT cA ts σ H js) : BaresT cA (tCons (tBare (cA j)) ts) σ H (j :: js) := fun H1 Q s k a na => by
  have s2 := Ask.Same.made1 (o := exo a (cA j) none) (Same.refl H1) na
  refine g _ _ (s.trans s2) fun H3 vs s3 rs => k H3 (.ref a :: vs) (s2.trans s3) (AllP.cons ⟨a, none, rfl, s3 _ _ upd_same, fun _ z => by cases z⟩ rs)
theorem bare_lst {ts : TA} {js : List Nat} {Q : VK} (g : BaresT cA ts σ H js) (hl : js.length ≤ 1000) (k : ∀ (H' : Hp) (q : Addr) (vs : List V), Same H H' → H' q = some (.lst vs) → AllI cA H' vs js → Q (.ref q) H') : tLst ts σ H Q := by
  refine g H _ (Same.refl _) fun H1 vs s1 rs => ?_
  have z1 : (1000 : Nat) ≤ sizeLine := by decide
  have l1 := rs.1
  refine ⟨by omega, fun L nL => ?_⟩
  have s2 := Ask.Same.made1 (o := .lst vs) (Same.refl H1) nL
  exact k _ L vs (s1.trans s2) upd_same (rs.same s2)
theorem bare_add {ts : TA} {js acc : List Nat} {q : Addr} {vs : List V} {Q : VK} (g : BaresT cA ts σ H js) (hi : σ[i]? = some (some (.ref q))) (hq : H q = some (.lst vs)) (hv : AllI cA H vs acc) (hl : acc.length + js.length ≤ 1000)
    (k : ∀ (H' : Hp) (q' : Addr) (vs' : List V), Same H H' → H' q' = some (.lst vs') → AllI cA H' vs' (acc ++ js) → Q (.ref q') H') : tOp rCat (tVar i) (tLst ts) σ H Q := by
  refine ⟨_, hi, bare_lst g (by omega) fun H1 L ws s1 hL rs => ?_⟩
  have z1 : (1000 : Nat) ≤ sizeLine := by decide
  have l1 := rs.1
  have l2 := hv.1
  refine ⟨q, L, vs, ws, rfl, rfl, s1 _ _ hq, hL, by omega, fun M nM => ?_⟩
  have s3 := Ask.Same.made1 (o := .lst (vs ++ ws)) (Same.refl H1) nM
  exact k _ M _ (s1.trans s3) upd_same (AllP.app (hv.same (s1.trans s3)) (rs.same s3))
end
end Ask

set_option maxHeartbeats 600000
namespace Ask
open PySem L2
section
variable {P : Program} {w : World} {K : PySem.W.Frag} {mg : Str → Option Value} {base : Heap} {cA : Nat → Addr} {CA : Addr}
/-- the kinds of the other errors, in their order -/
def OLs : List Nat := [2, 6, 7, 12, 29, 30, 31, 35, 39, 5, 13, 14, 18, 21, 22, 24, 23, 26, 27, 28, 34, 36, 37, 38]
def spOthers (K : PySem.W.Frag) (cA : Nat → Addr) : Sp := fun vs H Q _ => ∃ (a b : Int) (c : Str) (v : V) (D : PyData), vs = [.int a, .int b, .str c, v] ∧ 0 ≤ a ∧ a ≤ 1000000 ∧ 0 ≤ b ∧ b ≤ 1000000 ∧ Asc c ∧ c.length ≤ 13 ∧ Dp K H v D ∧ Smp D ∧ DkS D ∧
  ∀ (H' : Hp) (q : Addr) (vs' : List V), Same H H' → H q = none → H' q = some (.lst vs') → AllR K cA H' vs' OLs → Q (.ref q) H'
def nOth : List Str := [("_law_a" : Str), ("_law_b" : Str), ("_law_c" : Str), ("_law_d" : Str), ("_law_bare" : Str), ("_law_found" : Str), ("_law_one" : Str), ("_law_two" : Str), ("_law_three" : Str), ("_law_four" : Str), ("_law_e" : Str)]
abbrev s_others : Stmt := top 55
theorem sc_others : FnScope nOth ["_law_a", "_law_b", "_law_c", "_law_d"] (defScope s_others) := ⟨rfl, rfl, rfl, by decide +kernel, rfl, by decide +kernel, by decide +kernel⟩
theorem ok_others {f : Addr} {fd : FuncData} (F : Fun K "_law_others" "_law_others" s_others f fd) (X38 : MkE P w K mg base "Overasked" (cA 38) ["name"]) (X37 : MkK P w K mg base "Refused" (cA 37) ["ask", "name"] 2 ["name"]) (X36 : MkE P w K mg base "BadText" (cA 36) ["line", "place"]) (X34 : MkE P w K mg base "BadProgram" (cA 34) ["ask"]) (X28 : MkK P w K mg base "Known" (cA 28) ["name"] 1 ["name"]) (X27 : MkE P w K mg base "Unknown" (cA 27) ["name"]) (X26 : MkE P w K mg base "BadName" (cA 26) ["name"]) (X24 : MkE P w K mg base "BadStand" (cA 24) ["stand"]) (X23 : MkE P w K mg base "BadWord" (cA 23) ["which", "index"]) (X22 : MkE P w K mg base "BadTop" (cA 22) ["top"]) (X21 : MkE P w K mg base "Uneven" (cA 21) ["have", "want"]) (X18 : MkK P w K mg base "BadNumber" (cA 18) ["number"] 1 ["number"]) (X14 : MkE P w K mg base "TooMany" (cA 14) ["what", "many", "most"]) (X13 : MkE P w K mg base "TooLong" (cA 13) ["size"]) (X5 : MkE P w K mg base "BadPlace" (cA 5) ["place"]) (Z39 : Err0 K mg "NothingLeft" (cA 39)) (Z35 : Err0 K mg "OtherDeeds" (cA 35)) (Z31 : Err0 K mg "NoFact" (cA 31)) (Z30 : Err0 K mg "Unfair" (cA 30)) (Z29 : Err0 K mg "Impossible" (cA 29)) (Z12 : Err0 K mg "OtherLetters" (cA 12)) (Z7 : Err0 K mg "SaysNothing" (cA 7)) (Z6 : Err0 K mg "BadKind" (cA 6)) (Z2 : Err0 K mg "BadBeginning" (cA 2)) : FnOk P w K mg base CX0 5 f fd ["_law_a", "_law_b", "_law_c", "_law_d"] (spOthers K cA) := by
  obtain ⟨⟨f38, fd38, G38, E38⟩, N38⟩ := X38
  obtain ⟨⟨f37, fd37, G37, E37, B37⟩, N37⟩ := X37
  obtain ⟨⟨f36, fd36, G36, E36⟩, N36⟩ := X36
  obtain ⟨⟨f34, fd34, G34, E34⟩, N34⟩ := X34
  obtain ⟨⟨f28, fd28, G28, E28, B28⟩, N28⟩ := X28
  obtain ⟨⟨f27, fd27, G27, E27⟩, N27⟩ := X27
  obtain ⟨⟨f26, fd26, G26, E26⟩, N26⟩ := X26
  obtain ⟨⟨f24, fd24, G24, E24⟩, N24⟩ := X24
  obtain ⟨⟨f23, fd23, G23, E23⟩, N23⟩ := X23
  obtain ⟨⟨f22, fd22, G22, E22⟩, N22⟩ := X22
  obtain ⟨⟨f21, fd21, G21, E21⟩, N21⟩ := X21
  obtain ⟨⟨f18, fd18, G18, E18, B18⟩, N18⟩ := X18
  obtain ⟨⟨f14, fd14, G14, E14⟩, N14⟩ := X14
  obtain ⟨⟨f13, fd13, G13, E13⟩, N13⟩ := X13
  obtain ⟨⟨f5, fd5, G5, E5⟩, N5⟩ := X5
  refine F.ok sc_others (fun vs H Q E h => ?_) (fun cdv A outer s H vs Q E hr h => ?_)
  · obtain ⟨a, b, c, v, D, rfl, _⟩ := h
    rfl
  · obtain ⟨a, b, c, v, D, rfl, a0, a1, b0, b1, hc, lc, hD, hS, kD, kq⟩ := h
    refine ⟨_, pss_cons (ps_set (i := 4) sc_others.nd rfl (Or.inl rfl) (pe_lst (pa_cons (pe_exc0V PySem.F.excBase_ValueError Z2.e Z2.m Z2.k (by rfl)) (pa_cons (pe_exc0V PySem.F.excBase_ValueError Z6.e Z6.m Z6.k (by rfl)) (pa_cons (pe_exc0V PySem.F.excBase_ValueError Z7.e Z7.m Z7.k (by rfl)) (pa_cons (pe_exc0V PySem.F.excBase_ValueError Z12.e Z12.m Z12.k (by rfl)) (pa_cons (pe_exc0V PySem.F.excBase_ValueError Z29.e Z29.m Z29.k (by rfl)) (pa_cons (pe_exc0V PySem.F.excBase_ValueError Z30.e Z30.m Z30.k (by rfl)) (pa_cons (pe_exc0V PySem.F.excBase_ValueError Z31.e Z31.m Z31.k (by rfl)) (pa_cons (pe_exc0V PySem.F.excBase_ValueError Z35.e Z35.m Z35.k (by rfl)) pa_nil))))))))))
      (pss_cons (ps_setLc (i := 5) (own := [("_law_e", 10)]) rfl sc_others.nd rfl rfl (sw_true rfl rfl rfl (by decide +kernel)) (pi_list (pe_op op_cat (pv 4) (pe_lst (pa_cons (pe_exc0V PySem.F.excBase_ValueError Z39.e Z39.m Z39.k (by rfl)) pa_nil)))) (blkOk_by (N := nOth) (sc := defScope s_others) (by decide +kernel)) (fun _ _ _ _ _ => (pg_name (i := 10) sc_others.nd rfl (Or.inl rfl))) (fun _ _ _ _ _ => pts_nil) (fun _ _ _ _ _ => (pe_tup (pa_cons (pv 10) (pa_cons pe_int (pa_cons pe_int pa_nil))))))
      (pss_cons (ps_asg (pe_tup (pa_cons (pe_oexV E5.o E5.i E5.t G5 hr E5.b pass0 (by rfl) E5.m (pa_cons (pv 3) pa_nil)) (pa_cons (pe_oexV E13.o E13.i E13.t G13 hr E13.b pass0 (by rfl) E13.m (pa_cons (pv 0) pa_nil)) (pa_cons (pe_oexV E14.o E14.i E14.t G14 hr E14.b pass0 (by rfl) E14.m (pa_cons (pv 2) (pa_cons (pv 0) (pa_cons (pv 1) pa_nil)))) (pa_cons (pe_oexVK0 E18.o E18.i E18.t G18 hr B18 pass0 (by rfl) E18.m (pk_cons (pv 3) pk_nil)) pa_nil))))) (pg_tup rfl (pgs_cons (pg_name (i := 6) sc_others.nd rfl (Or.inl rfl)) (pgs_cons (pg_name (i := 7) sc_others.nd rfl (Or.inl rfl)) (pgs_cons (pg_name (i := 8) sc_others.nd rfl (Or.inl rfl)) (pgs_cons (pg_name (i := 9) sc_others.nd rfl (Or.inl rfl)) pgs_nil))))))
      (pss_cons (ps_set (i := 5) sc_others.nd rfl (Or.inl rfl) (pe_op op_cat (pv 5) (pe_lst (pa_cons (pe_tup (pa_cons (pv 6) (pa_cons (pv 3) (pa_cons (pe_oget (pv 6)) pa_nil)))) (pa_cons (pe_tup (pa_cons (pv 7) (pa_cons (pv 0) (pa_cons (pe_oget (pv 7)) pa_nil)))) (pa_cons (pe_tup (pa_cons (pv 8) (pa_cons (pe_lst (pa_cons (pv 2) (pa_cons (pv 0) (pa_cons (pv 1) pa_nil)))) (pa_cons (pe_lst (pa_cons (pe_oget (pv 8)) (pa_cons (pe_oget (pv 8)) (pa_cons (pe_oget (pv 8)) pa_nil)))) pa_nil)))) pa_nil))))))
      (pss_cons (ps_set (i := 5) sc_others.nd rfl (Or.inl rfl) (pe_op op_cat (pv 5) (pe_lst (pa_cons (pe_tup (pa_cons (pv 9) (pa_cons (pv 3) (pa_cons (pe_oget (pv 9)) pa_nil)))) pa_nil))))
      (pss_cons (ps_asg (pe_tup (pa_cons (pe_oexV E21.o E21.i E21.t G21 hr E21.b pass0 (by rfl) E21.m (pa_cons (pv 0) (pa_cons (pv 1) pa_nil))) (pa_cons (pe_oexV E22.o E22.i E22.t G22 hr E22.b pass0 (by rfl) E22.m (pa_cons (pv 3) pa_nil)) (pa_cons (pe_oexV E23.o E23.i E23.t G23 hr E23.b pass0 (by rfl) E23.m (pa_cons (pv 0) (pa_cons (pv 1) pa_nil))) (pa_cons (pe_oexV E24.o E24.i E24.t G24 hr E24.b pass0 (by rfl) E24.m (pa_cons (pv 3) pa_nil)) pa_nil))))) (pg_tup rfl (pgs_cons (pg_name (i := 6) sc_others.nd rfl (Or.inl rfl)) (pgs_cons (pg_name (i := 7) sc_others.nd rfl (Or.inl rfl)) (pgs_cons (pg_name (i := 8) sc_others.nd rfl (Or.inl rfl)) (pgs_cons (pg_name (i := 9) sc_others.nd rfl (Or.inl rfl)) pgs_nil))))))
      (pss_cons (ps_set (i := 5) sc_others.nd rfl (Or.inl rfl) (pe_op op_cat (pv 5) (pe_lst (pa_cons (pe_tup (pa_cons (pv 6) (pa_cons (pe_lst (pa_cons (pv 0) (pa_cons (pv 1) pa_nil))) (pa_cons (pe_lst (pa_cons (pe_oget (pv 6)) (pa_cons (pe_oget (pv 6)) pa_nil))) pa_nil)))) (pa_cons (pe_tup (pa_cons (pv 7) (pa_cons (pv 3) (pa_cons (pe_oget (pv 7)) pa_nil)))) (pa_cons (pe_tup (pa_cons (pv 9) (pa_cons (pv 3) (pa_cons (pe_oget (pv 9)) pa_nil)))) pa_nil))))))
      (pss_cons (ps_set (i := 5) sc_others.nd rfl (Or.inl rfl) (pe_op op_cat (pv 5) (pe_lst (pa_cons (pe_tup (pa_cons (pv 8) (pa_cons (pe_lst (pa_cons (pv 0) (pa_cons (pv 1) pa_nil))) (pa_cons (pe_lst (pa_cons (pe_oget (pv 8)) (pa_cons (pe_oget (pv 8)) pa_nil))) pa_nil)))) pa_nil))))
      (pss_cons (ps_asg (pe_tup (pa_cons (pe_oexV E26.o E26.i E26.t G26 hr E26.b pass0 (by rfl) E26.m (pa_cons (pv 3) pa_nil)) (pa_cons (pe_oexV E27.o E27.i E27.t G27 hr E27.b pass0 (by rfl) E27.m (pa_cons (pv 2) pa_nil)) (pa_cons (pe_oexVK0 E28.o E28.i E28.t G28 hr B28 pass0 (by rfl) E28.m (pk_cons (pv 2) pk_nil)) (pa_cons (pe_oexV E34.o E34.i E34.t G34 hr E34.b pass0 (by rfl) E34.m (pa_cons (pv 2) pa_nil)) pa_nil))))) (pg_tup rfl (pgs_cons (pg_name (i := 6) sc_others.nd rfl (Or.inl rfl)) (pgs_cons (pg_name (i := 7) sc_others.nd rfl (Or.inl rfl)) (pgs_cons (pg_name (i := 8) sc_others.nd rfl (Or.inl rfl)) (pgs_cons (pg_name (i := 9) sc_others.nd rfl (Or.inl rfl)) pgs_nil))))))
      (pss_cons (ps_set (i := 5) sc_others.nd rfl (Or.inl rfl) (pe_op op_cat (pv 5) (pe_lst (pa_cons (pe_tup (pa_cons (pv 6) (pa_cons (pv 3) (pa_cons (pe_oget (pv 6)) pa_nil)))) (pa_cons (pe_tup (pa_cons (pv 7) (pa_cons (pv 2) (pa_cons (pe_oget (pv 7)) pa_nil)))) (pa_cons (pe_tup (pa_cons (pv 8) (pa_cons (pv 2) (pa_cons (pe_oget (pv 8)) pa_nil)))) (pa_cons (pe_tup (pa_cons (pv 9) (pa_cons (pv 2) (pa_cons (pe_oget (pv 9)) pa_nil)))) pa_nil)))))))
      (pss_cons (ps_par3 (i := 6) (j := 7) (l := 8) rfl sc_others.nd rfl rfl rfl (by decide) (by decide) (by decide) rfl rfl rfl (pa_cons (pe_oexV E36.o E36.i E36.t G36 hr E36.b pass0 (by rfl) E36.m (pa_cons (pv 0) (pa_cons (pv 1) pa_nil))) (pa_cons (pe_oexVK E37.o E37.i E37.t G37 hr B37 pass0 (by rfl) E37.m (pa_cons (pv 2) pa_nil) (pk_cons (pe_op op_add_str (pv 2) pe_str) pk_nil)) (pa_cons (pe_oexV E38.o E38.i E38.t G38 hr E38.b pass0 (by rfl) E38.m (pa_cons (pv 2) pa_nil)) pa_nil))) (by rfl))
      (pss_cons (ps_set (i := 5) sc_others.nd rfl (Or.inl rfl) (pe_op op_cat (pv 5) (pe_lst (pa_cons (pe_tup (pa_cons (pv 6) (pa_cons (pe_lst (pa_cons (pv 0) (pa_cons (pv 1) pa_nil))) (pa_cons (pe_lst (pa_cons (pe_oget (pv 6)) (pa_cons (pe_oget (pv 6)) pa_nil))) pa_nil)))) (pa_cons (pe_tup (pa_cons (pv 7) (pa_cons (pe_lst (pa_cons (pv 2) (pa_cons (pe_op op_add_str (pv 2) pe_str) pa_nil))) (pa_cons (pe_lst (pa_cons (pe_oget (pv 7)) (pa_cons (pe_oget (pv 7)) pa_nil))) pa_nil)))) pa_nil)))))
      (pss_one (ps_ret (pe_op op_cat (pv 5) (pe_lst (pa_cons (pe_tup (pa_cons (pv 8) (pa_cons (pv 2) (pa_cons (pe_oget (pv 8)) pa_nil)))) pa_nil)))))))))))))))), ?_⟩
    have ka : Dk (.int a) 40 := dk_int a0 (by omega)
    have kb : Dk (.int b) 40 := dk_int b0 (by omega)
    have kc : Dk (.str c) 140 := (dk_str hc).mono (by omega)
    have lcx : (c ++ ("x" : Str)).length = c.length + 1 := by
      show (c ++ ("x" : Str)).cps.size = _
      rw [Str.cps_append, Array.size_append]
      rfl
    have acx : Asc (c ++ ("x" : Str)) := by
      intro i hi
      rw [Str.cps_append, Array.toList_append] at hi
      rcases List.mem_append.mp hi with hi | hi
      · exact hc i hi
      · have e : (("x" : Str).cps.toList) = [120] := rfl
        rw [e, List.mem_singleton] at hi
        omega
    have kcx : Dk (.str (c ++ ("x" : Str))) 150 := (dk_str acx).mono (by omega)
    have cxl : c.length + ("x" : Str).length ≤ sizeLine := by
      have z1 : (1000 : Nat) ≤ sizeLine := by decide
      have e : ("x" : Str).length = 1 := rfl
      rw [e]
      omega
    refine st_asg ?_
    refine bare_lst (cA := cA) (js := [2, 6, 7, 12, 29, 30, 31, 35]) (bares_cons (j := 2) (bares_cons (j := 6) (bares_cons (j := 7) (bares_cons (j := 12) (bares_cons (j := 29) (bares_cons (j := 30) (bares_cons (j := 31) (bares_cons (j := 35) bares_nil)))))))) (by decide) fun H1 q4 vs4 s1 f4 r4 => ?_
    refine nm_4 ?_
    refine st_asg ?_
    refine bare_add (cA := cA) (i := 4) (js := [39]) (acc := [2, 6, 7, 12, 29, 30, 31, 35]) (bares_cons (j := 39) bares_nil) rfl f4 r4 (by decide) fun H2 q5 vs5 s2 f5 r5 => ⟨q5, rfl, ⟨_, SqL.of f5⟩, fun LD hLD => ?_⟩
    replace r5 : AllI cA H2 vs5 [2, 6, 7, 12, 29, 30, 31, 35, 39] := r5
    have l5 : vs5.length = 9 := r5.1
    refine lc_it (walk_list (xs := vs5)) (fun i H' => Same H2 H' ∧ ∃ vs, H' LD = some (.lst vs) ∧ AllP (RowZ cA H') vs (([2, 6, 7, 12, 29, 30, 31, 35, 39] : List Nat).take i)) ⟨Ask.Same.upd_new (Same.refl _) hLD, [], upd_same, AllP.nil⟩ (fun i H' _ hh => hh.1.seq (SqL.of f5)) ?_ ?_
    · rintro i x H9 H4 hi ⟨s3, vs, eD, hR⟩ ⟨rfl, hv⟩
      obtain ⟨j, hj⟩ : ∃ j, ([2, 6, 7, 12, 29, 30, 31, 35, 39] : List Nat)[i]? = some j := ⟨_, List.getElem?_eq_getElem (by rw [← r5.1]; exact hi)⟩
      have lv := hR.1
      rw [List.length_take] at lv
      have z1 : (1000 : Nat) ≤ sizeLine := by decide
      have eI := (r5.2 i x j hv hj).same s3
      refine ⟨rfl, _, rfl, by show 3 ≤ sizeLine; decide, fun t ht => ⟨vs, ?_, ?_, Ask.Same.upd_new (Ask.Same.made1 s3 ht) hLD, vs ++ [.ref t], upd_same, ?_⟩⟩
      · rw [upd_ne (ne_of_none eD ht)]
        exact eD
      · omega
      · rw [List.take_add_one, hj]
        have s4 := Ask.Same.made1 (o := .tup [x, .int 0, .int 0]) (Same.refl H4) ht
        have r : RowZ cA (upd H4 t (.tup [x, .int 0, .int 0])) (.ref t) j := ⟨t, x, rfl, upd_same, eI.same s4⟩
        have eD' : upd H4 t (.tup [x, .int 0, .int 0]) LD = some (.lst vs) := by rw [upd_ne (ne_of_none eD ht)]; exact eD
        exact (hR.imp fun _ _ z => (z.same s4).mut eD').app (AllP.cons (r.mut eD') AllP.nil)
    rintro H3 ⟨s3, vs, fd, hR⟩
    rw [l5, show ([2, 6, 7, 12, 29, 30, 31, 35, 39] : List Nat).take 9 = [2, 6, 7, 12, 29, 30, 31, 35, 39] from rfl] at hR
    replace hR : AllR K cA H3 vs [2, 6, 7, 12, 29, 30, 31, 35, 39] := hR.imp fun _ _ z => z.row
    have S3 := (s1.trans s2).trans s3
    replace hD := Dp.same S3 hD
    clear s1 s2 s3 f4 r4 f5 r5 l5

    skip
    refine nm_5 ?_
    refine st_asg ?_
    refine made4 (mk_pos (K := K) (cA := cA) (j := 5) (ns := ["place"]) (ds := [D]) (ws := [v]) (fun H1 Q s q => ⟨_, rfl, q⟩) (.cons hD .nil) rfl (by show 1 ≤ 1000; decide) (fun d hd => by simp only [List.mem_cons, List.not_mem_nil, or_false] at hd; subst hd; exact hS)) (mk_pos (K := K) (cA := cA) (j := 13) (ns := ["size"]) (ds := [(.int a)]) (ws := [.int a]) (fun H1 Q s q => ⟨_, rfl, q⟩) (.cons (.int _) .nil) rfl (by show 1 ≤ 1000; decide) (fun d hd => by simp only [List.mem_cons, List.not_mem_nil, or_false] at hd; subst hd; exact .inl rfl)) (mk_pos (K := K) (cA := cA) (j := 14) (ns := ["what", "many", "most"]) (ds := [(.str c), (.int a), (.int b)]) (ws := [.str c, .int a, .int b]) (fun H1 Q s q => ⟨_, rfl, _, rfl, _, rfl, q⟩) (.cons (.str _) (.cons (.int _) (.cons (.int _) .nil))) rfl (by show 3 ≤ 1000; decide) (fun d hd => by simp only [List.mem_cons, List.not_mem_nil, or_false] at hd; rcases hd with rfl | rfl | rfl <;> exact .inl rfl)) (mk_kw (K := K) (cA := cA) (j := 18) (ns := ["number"]) (ds := [D]) (ws := []) (zs := [v]) (fun H1 Q s q => q) (fun H1 Q s q => ⟨_, rfl, q⟩) rfl rfl (.cons hD .nil) rfl (by show 1 ≤ 1000; decide) (fun d hd => by simp only [List.mem_cons, List.not_mem_nil, or_false] at hd; subst hd; exact hS)) fun H4 a4_0 a4_1 a4_2 a4_3 s4 e4_0 e4_1 e4_2 e4_3 => ?_
    have S4 := S3.trans s4
    replace hD := Dp.same s4 hD
    replace hR := hR.same s4
    replace fd := s4 _ _ fd
    clear s4 S3
    refine st_asg ?_
    refine found_add (K := K) (cA := cA) (i := 5) (js := [5, 13, 14]) (acc := [2, 6, 7, 12, 29, 30, 31, 35, 39]) (rows_cons (row_one (K := K) (cA := cA) (i := 6) (l := 3) (f := "place") (D := D) (k := 0) e4_0 E5.xf N5 rfl rfl hD kD rfl rfl) (rows_cons (row_one (K := K) (cA := cA) (i := 7) (l := 0) (f := "size") (D := (.int a)) (k := 0) e4_1 E13.xf N13 rfl rfl (.int _) (ka.mono (by decide)) rfl rfl) (rows_cons (row_lists (K := K) (cA := cA) (i := 8) (Ds := [(.str c), (.int a), (.int b)]) e4_2 rfl (parts_cons (part_var (l := 2) (D := (.str c)) rfl (.str _)) (parts_cons (part_var (l := 0) (D := (.int a)) rfl (.int _)) (parts_cons (part_var (l := 1) (D := (.int b)) rfl (.int _)) parts_nil))) (parts_cons (part_get (i := 8) (f := "what") (k := 0) e4_2 E14.xf N14 rfl rfl rfl) (parts_cons (part_get (i := 8) (f := "many") (k := 1) e4_2 E14.xf N14 rfl rfl rfl) (parts_cons (part_get (i := 8) (f := "most") (k := 2) e4_2 E14.xf N14 rfl rfl rfl) parts_nil))) ((DkAll.lst (Dk.cons' kc (Dk.cons' ka (Dk.cons' kb DkAll.nil))) (by show max 0 (max 0 (max 0 (0))) ≤ 4; decide)).mono (by decide)) (by show 3 ≤ 100; decide)) rows_nil))) rfl fd hR (by decide) fun H5 q5 vs5 s5 n5 fd5 hR5 => ?_
    replace hR : AllR K cA H5 vs5 [2, 6, 7, 12, 29, 30, 31, 35, 39, 5, 13, 14] := hR5
    clear hR5
    replace fd := fd5
    clear fd5
    have S5 := S4.trans s5
    replace hD := Dp.same s5 hD
    replace e4_0 := e4_0.same s5
    replace e4_1 := e4_1.same s5
    replace e4_2 := e4_2.same s5
    replace e4_3 := e4_3.same s5
    clear s5 S4 n5
    refine nm_5 ?_
    refine st_asg ?_
    refine found_add (K := K) (cA := cA) (i := 5) (js := [18]) (acc := [2, 6, 7, 12, 29, 30, 31, 35, 39, 5, 13, 14]) (rows_cons (row_one (K := K) (cA := cA) (i := 9) (l := 3) (f := "number") (D := D) (k := 0) e4_3 E18.xf N18 rfl rfl hD kD rfl rfl) rows_nil) rfl fd hR (by decide) fun H6 q6 vs6 s6 n6 fd6 hR6 => ?_
    replace hR : AllR K cA H6 vs6 [2, 6, 7, 12, 29, 30, 31, 35, 39, 5, 13, 14, 18] := hR6
    clear hR6
    replace fd := fd6
    clear fd6
    have S6 := S5.trans s6
    replace hD := Dp.same s6 hD
    replace e4_0 := e4_0.same s6
    replace e4_1 := e4_1.same s6
    replace e4_2 := e4_2.same s6
    replace e4_3 := e4_3.same s6
    clear s6 S5 n6
    clear e4_0 e4_1 e4_2 e4_3
    refine nm_5 ?_
    refine st_asg ?_
    refine made4 (mk_pos (K := K) (cA := cA) (j := 21) (ns := ["have", "want"]) (ds := [(.int a), (.int b)]) (ws := [.int a, .int b]) (fun H1 Q s q => ⟨_, rfl, _, rfl, q⟩) (.cons (.int _) (.cons (.int _) .nil)) rfl (by show 2 ≤ 1000; decide) (fun d hd => by simp only [List.mem_cons, List.not_mem_nil, or_false] at hd; rcases hd with rfl | rfl <;> exact .inl rfl)) (mk_pos (K := K) (cA := cA) (j := 22) (ns := ["top"]) (ds := [D]) (ws := [v]) (fun H1 Q s q => ⟨_, rfl, q⟩) (.cons hD .nil) rfl (by show 1 ≤ 1000; decide) (fun d hd => by simp only [List.mem_cons, List.not_mem_nil, or_false] at hd; subst hd; exact hS)) (mk_pos (K := K) (cA := cA) (j := 23) (ns := ["which", "index"]) (ds := [(.int a), (.int b)]) (ws := [.int a, .int b]) (fun H1 Q s q => ⟨_, rfl, _, rfl, q⟩) (.cons (.int _) (.cons (.int _) .nil)) rfl (by show 2 ≤ 1000; decide) (fun d hd => by simp only [List.mem_cons, List.not_mem_nil, or_false] at hd; rcases hd with rfl | rfl <;> exact .inl rfl)) (mk_pos (K := K) (cA := cA) (j := 24) (ns := ["stand"]) (ds := [D]) (ws := [v]) (fun H1 Q s q => ⟨_, rfl, q⟩) (.cons hD .nil) rfl (by show 1 ≤ 1000; decide) (fun d hd => by simp only [List.mem_cons, List.not_mem_nil, or_false] at hd; subst hd; exact hS)) fun H7 a7_0 a7_1 a7_2 a7_3 s7 e7_0 e7_1 e7_2 e7_3 => ?_
    have S7 := S6.trans s7
    replace hD := Dp.same s7 hD
    replace hR := hR.same s7
    replace fd := s7 _ _ fd
    clear s7 S6
    refine st_asg ?_
    refine found_add (K := K) (cA := cA) (i := 5) (js := [21, 22, 24]) (acc := [2, 6, 7, 12, 29, 30, 31, 35, 39, 5, 13, 14, 18]) (rows_cons (row_lists (K := K) (cA := cA) (i := 6) (Ds := [(.int a), (.int b)]) e7_0 rfl (parts_cons (part_var (l := 0) (D := (.int a)) rfl (.int _)) (parts_cons (part_var (l := 1) (D := (.int b)) rfl (.int _)) parts_nil)) (parts_cons (part_get (i := 6) (f := "have") (k := 0) e7_0 E21.xf N21 rfl rfl rfl) (parts_cons (part_get (i := 6) (f := "want") (k := 1) e7_0 E21.xf N21 rfl rfl rfl) parts_nil)) ((DkAll.lst (Dk.cons' ka (Dk.cons' kb DkAll.nil)) (by show max 0 (max 0 (0)) ≤ 4; decide)).mono (by decide)) (by show 2 ≤ 100; decide)) (rows_cons (row_one (K := K) (cA := cA) (i := 7) (l := 3) (f := "top") (D := D) (k := 0) e7_1 E22.xf N22 rfl rfl hD kD rfl rfl) (rows_cons (row_one (K := K) (cA := cA) (i := 9) (l := 3) (f := "stand") (D := D) (k := 0) e7_3 E24.xf N24 rfl rfl hD kD rfl rfl) rows_nil))) rfl fd hR (by decide) fun H8 q8 vs8 s8 n8 fd8 hR8 => ?_
    replace hR : AllR K cA H8 vs8 [2, 6, 7, 12, 29, 30, 31, 35, 39, 5, 13, 14, 18, 21, 22, 24] := hR8
    clear hR8
    replace fd := fd8
    clear fd8
    have S8 := S7.trans s8
    replace hD := Dp.same s8 hD
    replace e7_0 := e7_0.same s8
    replace e7_1 := e7_1.same s8
    replace e7_2 := e7_2.same s8
    replace e7_3 := e7_3.same s8
    clear s8 S7 n8
    refine nm_5 ?_
    refine st_asg ?_
    refine found_add (K := K) (cA := cA) (i := 5) (js := [23]) (acc := [2, 6, 7, 12, 29, 30, 31, 35, 39, 5, 13, 14, 18, 21, 22, 24]) (rows_cons (row_lists (K := K) (cA := cA) (i := 8) (Ds := [(.int a), (.int b)]) e7_2 rfl (parts_cons (part_var (l := 0) (D := (.int a)) rfl (.int _)) (parts_cons (part_var (l := 1) (D := (.int b)) rfl (.int _)) parts_nil)) (parts_cons (part_get (i := 8) (f := "which") (k := 0) e7_2 E23.xf N23 rfl rfl rfl) (parts_cons (part_get (i := 8) (f := "index") (k := 1) e7_2 E23.xf N23 rfl rfl rfl) parts_nil)) ((DkAll.lst (Dk.cons' ka (Dk.cons' kb DkAll.nil)) (by show max 0 (max 0 (0)) ≤ 4; decide)).mono (by decide)) (by show 2 ≤ 100; decide)) rows_nil) rfl fd hR (by decide) fun H9 q9 vs9 s9 n9 fd9 hR9 => ?_
    replace hR : AllR K cA H9 vs9 [2, 6, 7, 12, 29, 30, 31, 35, 39, 5, 13, 14, 18, 21, 22, 24, 23] := hR9
    clear hR9
    replace fd := fd9
    clear fd9
    have S9 := S8.trans s9
    replace hD := Dp.same s9 hD
    replace e7_0 := e7_0.same s9
    replace e7_1 := e7_1.same s9
    replace e7_2 := e7_2.same s9
    replace e7_3 := e7_3.same s9
    clear s9 S8 n9
    clear e7_0 e7_1 e7_2 e7_3
    refine nm_5 ?_
    refine st_asg ?_
    refine made4 (mk_pos (K := K) (cA := cA) (j := 26) (ns := ["name"]) (ds := [D]) (ws := [v]) (fun H1 Q s q => ⟨_, rfl, q⟩) (.cons hD .nil) rfl (by show 1 ≤ 1000; decide) (fun d hd => by simp only [List.mem_cons, List.not_mem_nil, or_false] at hd; subst hd; exact hS)) (mk_pos (K := K) (cA := cA) (j := 27) (ns := ["name"]) (ds := [(.str c)]) (ws := [.str c]) (fun H1 Q s q => ⟨_, rfl, q⟩) (.cons (.str _) .nil) rfl (by show 1 ≤ 1000; decide) (fun d hd => by simp only [List.mem_cons, List.not_mem_nil, or_false] at hd; subst hd; exact .inl rfl)) (mk_kw (K := K) (cA := cA) (j := 28) (ns := ["name"]) (ds := [(.str c)]) (ws := []) (zs := [.str c]) (fun H1 Q s q => q) (fun H1 Q s q => ⟨_, rfl, q⟩) rfl rfl (.cons (.str _) .nil) rfl (by show 1 ≤ 1000; decide) (fun d hd => by simp only [List.mem_cons, List.not_mem_nil, or_false] at hd; subst hd; exact .inl rfl)) (mk_pos (K := K) (cA := cA) (j := 34) (ns := ["ask"]) (ds := [(.str c)]) (ws := [.str c]) (fun H1 Q s q => ⟨_, rfl, q⟩) (.cons (.str _) .nil) rfl (by show 1 ≤ 1000; decide) (fun d hd => by simp only [List.mem_cons, List.not_mem_nil, or_false] at hd; subst hd; exact .inl rfl)) fun H10 a10_0 a10_1 a10_2 a10_3 s10 e10_0 e10_1 e10_2 e10_3 => ?_
    have S10 := S9.trans s10
    replace hD := Dp.same s10 hD
    replace hR := hR.same s10
    replace fd := s10 _ _ fd
    clear s10 S9
    refine st_asg ?_
    refine found_add (K := K) (cA := cA) (i := 5) (js := [26, 27, 28, 34]) (acc := [2, 6, 7, 12, 29, 30, 31, 35, 39, 5, 13, 14, 18, 21, 22, 24, 23]) (rows_cons (row_one (K := K) (cA := cA) (i := 6) (l := 3) (f := "name") (D := D) (k := 0) e10_0 E26.xf N26 rfl rfl hD kD rfl rfl) (rows_cons (row_one (K := K) (cA := cA) (i := 7) (l := 2) (f := "name") (D := (.str c)) (k := 0) e10_1 E27.xf N27 rfl rfl (.str _) (kc.mono (by decide)) rfl rfl) (rows_cons (row_one (K := K) (cA := cA) (i := 8) (l := 2) (f := "name") (D := (.str c)) (k := 0) e10_2 E28.xf N28 rfl rfl (.str _) (kc.mono (by decide)) rfl rfl) (rows_cons (row_one (K := K) (cA := cA) (i := 9) (l := 2) (f := "ask") (D := (.str c)) (k := 0) e10_3 E34.xf N34 rfl rfl (.str _) (kc.mono (by decide)) rfl rfl) rows_nil)))) rfl fd hR (by decide) fun H11 q11 vs11 s11 n11 fd11 hR11 => ?_
    replace hR : AllR K cA H11 vs11 [2, 6, 7, 12, 29, 30, 31, 35, 39, 5, 13, 14, 18, 21, 22, 24, 23, 26, 27, 28, 34] := hR11
    clear hR11
    replace fd := fd11
    clear fd11
    have S11 := S10.trans s11
    replace hD := Dp.same s11 hD
    replace e10_0 := e10_0.same s11
    replace e10_1 := e10_1.same s11
    replace e10_2 := e10_2.same s11
    replace e10_3 := e10_3.same s11
    clear s11 S10 n11
    clear e10_0 e10_1 e10_2 e10_3
    refine nm_5 ?_
    refine st_par3 ?_
    refine made3 (mk_pos (K := K) (cA := cA) (j := 36) (ns := ["line", "place"]) (ds := [(.int a), (.int b)]) (ws := [.int a, .int b]) (fun H1 Q s q => ⟨_, rfl, _, rfl, q⟩) (.cons (.int _) (.cons (.int _) .nil)) rfl (by show 2 ≤ 1000; decide) (fun d hd => by simp only [List.mem_cons, List.not_mem_nil, or_false] at hd; rcases hd with rfl | rfl <;> exact .inl rfl)) (mk_kw (K := K) (cA := cA) (j := 37) (ns := ["ask", "name"]) (ds := [(.str c), (.str (c ++ "x"))]) (ws := [.str c]) (zs := [.str (c ++ "x")]) (fun H1 Q s q => ⟨_, rfl, q⟩) (fun H1 Q s q => ⟨_, rfl, c, "x", rfl, rfl, cxl, q⟩) rfl rfl (.cons (.str _) (.cons (.str _) .nil)) rfl (by show 2 ≤ 1000; decide) (fun d hd => by simp only [List.mem_cons, List.not_mem_nil, or_false] at hd; rcases hd with rfl | rfl <;> exact .inl rfl)) (mk_pos (K := K) (cA := cA) (j := 38) (ns := ["name"]) (ds := [(.str c)]) (ws := [.str c]) (fun H1 Q s q => ⟨_, rfl, q⟩) (.cons (.str _) .nil) rfl (by show 1 ≤ 1000; decide) (fun d hd => by simp only [List.mem_cons, List.not_mem_nil, or_false] at hd; subst hd; exact .inl rfl)) fun H12 a12_0 a12_1 a12_2 s12 e12_0 e12_1 e12_2 => ?_
    have S12 := S11.trans s12
    replace hD := Dp.same s12 hD
    replace hR := hR.same s12
    replace fd := s12 _ _ fd
    clear s12 S11
    refine st_asg ?_
    refine found_add (K := K) (cA := cA) (i := 5) (js := [36, 37]) (acc := [2, 6, 7, 12, 29, 30, 31, 35, 39, 5, 13, 14, 18, 21, 22, 24, 23, 26, 27, 28, 34]) (rows_cons (row_lists (K := K) (cA := cA) (i := 6) (Ds := [(.int a), (.int b)]) e12_0 rfl (parts_cons (part_var (l := 0) (D := (.int a)) rfl (.int _)) (parts_cons (part_var (l := 1) (D := (.int b)) rfl (.int _)) parts_nil)) (parts_cons (part_get (i := 6) (f := "line") (k := 0) e12_0 E36.xf N36 rfl rfl rfl) (parts_cons (part_get (i := 6) (f := "place") (k := 1) e12_0 E36.xf N36 rfl rfl rfl) parts_nil)) ((DkAll.lst (Dk.cons' ka (Dk.cons' kb DkAll.nil)) (by show max 0 (max 0 (0)) ≤ 4; decide)).mono (by decide)) (by show 2 ≤ 100; decide)) (rows_cons (row_lists (K := K) (cA := cA) (i := 7) (Ds := [(.str c), (.str (c ++ "x"))]) e12_1 rfl (parts_cons (part_var (l := 2) (D := (.str c)) rfl (.str _)) (parts_cons (fun H1 Q s q => ⟨_, rfl, c, "x", rfl, rfl, cxl, q _ (.str _)⟩) parts_nil)) (parts_cons (part_get (i := 7) (f := "ask") (k := 0) e12_1 E37.xf N37 rfl rfl rfl) (parts_cons (part_get (i := 7) (f := "name") (k := 1) e12_1 E37.xf N37 rfl rfl rfl) parts_nil)) ((DkAll.lst (Dk.cons' kc (Dk.cons' kcx DkAll.nil)) (by show max 0 (max 0 (0)) ≤ 4; decide)).mono (by decide)) (by show 2 ≤ 100; decide)) rows_nil)) rfl fd hR (by decide) fun H13 q13 vs13 s13 n13 fd13 hR13 => ?_
    replace hR : AllR K cA H13 vs13 [2, 6, 7, 12, 29, 30, 31, 35, 39, 5, 13, 14, 18, 21, 22, 24, 23, 26, 27, 28, 34, 36, 37] := hR13
    clear hR13
    replace fd := fd13
    clear fd13
    have S13 := S12.trans s13
    replace hD := Dp.same s13 hD
    replace e12_0 := e12_0.same s13
    replace e12_1 := e12_1.same s13
    replace e12_2 := e12_2.same s13
    clear s13 S12 n13
    refine nm_5 ?_
    delta tRet
    dsimp only
    refine found_add (K := K) (cA := cA) (i := 5) (js := [38]) (acc := [2, 6, 7, 12, 29, 30, 31, 35, 39, 5, 13, 14, 18, 21, 22, 24, 23, 26, 27, 28, 34, 36, 37]) (rows_cons (row_one (K := K) (cA := cA) (i := 8) (l := 2) (f := "name") (D := (.str c)) (k := 0) e12_2 E38.xf N38 rfl rfl (.str _) (kc.mono (by decide)) rfl rfl) rows_nil) rfl fd hR (by decide) fun H14 q14 vs14 s14 n14 fd14 hR14 => ?_
    exact kq H14 q14 vs14 (S13.trans s14) (S13.free n14) fd14 hR14
end
end Ask

set_option maxHeartbeats 1000000
namespace Ask
open PySem L2
section
variable {P : Program} {w : World} {K : PySem.W.Frag} {mg : Str → Option Value} {base : Heap} {cA : Nat → Addr} {CA : Addr}
/-- a test that fails -/
theorem st_no {A B : TE} {r : R2} {t : TS} {u : TS} {D : Ends} {σ : L2.St} {H : Hp} (h : A σ H fun x H1 => B σ H1 fun y H2 => r x y H2 fun v H3 => ∃ k, v = .bl k ∧ if k = true then t { D with nx := u D } σ H3 else u D σ H3) : tSeq (tIfS (tTest (tOp r A B)) t tNext) u D σ H := h
/-- an empty list != [] -/
theorem nil_ne {σ : L2.St} {H : Hp} {D : Addr} {t u : L2.St → Hp → Prop} (hD : H D = some (.lst [])) (k : ∀ H', Same H H' → u σ H') : tLst tNil σ H fun y H2 => rNeD K (.ref D) y H2 fun v H3 => ∃ b, v = .bl b ∧ if b = true then t σ H3 else u σ H3 := by
  refine ⟨by show 0 ≤ sizeLine; decide, fun L nL => ?_⟩
  have s := Ask.Same.made1 (o := .lst []) (Same.refl H) nL
  refine ⟨.list [], .list [], .lst (SqL.of (s _ _ hD)) .nil, .lst (SqL.of upd_same) .nil, rfl, rfl, false, rfl, ?_⟩
  rw [if_neg Bool.false_ne_true]
  exact k _ s
theorem kindsB_at {n i k : Nat} (h : k < n) : (kindsB n i)[k]? = some (.bl (decide (k = i))) := by
  unfold kindsB
  rw [List.getElem?_map, List.getElem?_range h]
  rfl
theorem pls_at {i j : Nat} (h : PLs[i]? = some j) : j < 40 ∧ i < 16 := by
  have hi : i < 16 := (List.getElem?_eq_some_iff.mp h).1
  have : ∀ i, i < 16 → ∀ j, PLs[i]? = some j → j < 40 := by decide +kernel
  exact ⟨this i hi j h, hi⟩
/-! ### the errors with an index have it -/
theorem lc_s3 {o0 o1 o2 o4 o5 o7 o8 o9 o10 o11 o12 o13 o14 o15 : Option V} {q : Addr} {es : List V} {n : Int} {H : Hp} {Q : VK} (hq : H q = some (.lst es)) (hE : AllE K cA H es PLs (.int n)) (M : Kinds K mg cA CA) (N : ∀ j ∈ PLs, PySem.W.findIn K (.ref (cA j)) "index" = some none) (kn : Dk (.int n) 40) (k : ∀ (H' : Hp) (D : Addr), Same H H' → H' D = some (.lst []) → Q (.ref D) H') :
    tLc (iList K (tVar 6)) (gName 8) (tTest (tOp rNe (tCB (rReprV K) (tCons (tOget K "index" (tVar 8)) tNil)) (tCB (rReprV K) (tCons (tVar 3) tNil)))) (tVar 8) [8] [o0, o1, o2, some (.int n), o4, o5, some (.ref q), o7, o8, o9, o10, o11, o12, o13, o14, o15] H Q := by
  refine ⟨_, rfl, q, rfl, ⟨_, SqL.of hq⟩, fun D hD => ?_⟩
  refine lc_it (walk_list (xs := es)) (fun i H' => Same H H' ∧ H' D = some (.lst [])) ⟨Ask.Same.upd_new (Same.refl _) hD, upd_same⟩ (fun i H' _ hh => hh.1.seq (SqL.of hq)) ?_ (fun H' hh => k H' D hh.1 hh.2)
  rintro i v H9 H2 hi ⟨s2, hD2⟩ ⟨rfl, hv⟩
  obtain ⟨j, hj⟩ : ∃ j, PLs[i]? = some j := ⟨_, List.getElem?_eq_getElem (by rw [← hE.1]; exact hi)⟩
  have z1 : (1000 : Nat) ≤ sizeLine := by decide
  obtain ⟨a, dd, fs, rfl, h1, h2, fl⟩ := (hE.2 i v j hv hj).same s2
  obtain ⟨w, lw, dw⟩ := fl.2 0 _ _ rfl rfl
  cases dw
  have ks := kn.sho
  have kl := kn.len
  refine ⟨rfl, _, rfl, a, cA j, dd, fs, _, rfl, h1, h2, M.xf j (pls_at hj).1, N j (List.mem_of_getElem? hj), lw, _, .int n, rfl, .int _, kn.sho, kn.nod, Nat.le_trans kn.dep (by decide), by omega, _, rfl, _, .int n, rfl, .int _, kn.sho, kn.nod, Nat.le_trans kn.dep (by decide), by omega, rfl, _, rfl, ?_⟩
  rw [decide_eq_true rfl]
  exact iteF ⟨s2, hD2⟩
/-! ### the kinds of the first errors -/
theorem lc_s4 {o0 o1 o2 o3 o4 o5 o7 o8 o9 o10 o11 o12 o13 o14 o15 : Option V} {q : Addr} {es : List V} {n : PyData} {H : Hp} {Q : VK} (hq : H q = some (.lst es)) (hE : AllE K cA H es PLs n) (k : ∀ (H' : Hp) (D : Addr), Same H H' → H' D = some (.lst []) → Q (.ref D) H') :
    tLc (iRng1 (tCons (tC (.int 16)) tNil)) (gName 12) (tNot (tB (tOp (rIxL K) (tCall (spKinds cA 40) [] E0 (tCons (tOp (rIxL K) (tVar 6) (tVar 12)) tNil)) (tOp (rIxL K) (tCall spPlaces [] E0 tNil) (tVar 12))))) (tVar 12) [12] [o0, o1, o2, o3, o4, o5, some (.ref q), o7, o8, o9, o10, o11, o12, o13, o14, o15] H Q := by
  refine ⟨16, rfl, by decide, by decide, fun D hD => ?_⟩
  refine lc_range (lo := 0) (n := 16) (fun i H' => Same H H' ∧ H' D = some (.lst [])) ⟨Ask.Same.upd_new (Same.refl _) hD, upd_same⟩ (fun i H2 hi hs => ?_) (fun H' hh => k H' D hh.1 hh.2)
  obtain ⟨s2, hD2⟩ := hs
  have hl : es.length = 16 := hE.1
  obtain ⟨j, hj⟩ : ∃ j, PLs[i]? = some j := ⟨_, List.getElem?_eq_getElem hi⟩
  obtain ⟨v, hv⟩ : ∃ v, es[i]? = some v := ⟨_, List.getElem?_eq_getElem (by omega)⟩
  have eI := ((hE.2 i v j hv hj).same s2).i
  have pl : (PLs.map fun (n : Nat) => V.int (n : Int))[i]? = some (.int j) := by rw [List.getElem?_map, hj]; rfl
  refine ⟨rfl, _, rfl, _, rfl, q, es, _, v, rfl, rfl, SqL.of (s2 _ _ hq), at_by (j := i) (by omega) hv, v, j, rfl, (pls_at hj).1, eI, fun H3 q3 s3 _ hq3 => ?_⟩
  refine ⟨rfl, fun H4 q4 s4 hq4 => ⟨_, rfl, q4, _, _, _, rfl, rfl, SqL.of hq4, at_by (j := i) (by omega) pl, q3, _, _, _, rfl, rfl, SqL.of (s4 _ _ hq3), at_by (j := j) rfl (kindsB_at (pls_at hj).1), _, rfl, ?_⟩⟩
  rw [decide_eq_true rfl]
  exact iteF ⟨(s2.trans s3).trans s4, s4 _ _ (s3 _ _ hD2)⟩
/-! ### what is due is told -/
theorem for_s5 {o0 o1 o2 o3 o4 o5 o6 o11 o12 o13 o14 o15 : Option V} {x8 x9 x10 : Option V} {n : Nat} {q : Addr} {vs : List V} {js : List Nat} {H : Hp} {t u : TS} {D : Ends} (hn : n = 3) (hq : H q = some (.lst vs)) (hR : AllR K cA H vs js)
    (k : ∀ (H' : Hp) (o8 o9 o10 : Option V), Same H H' → u D [o0, o1, o2, o3, o4, o5, o6, some (.ref q), o8, o9, o10, o11, o12, o13, o14, o15] H') :
    tSeq (tFor (iList K (tVar 7)) (gTup K n (gCons (gName 8) (gCons (gName 9) (gCons (gName 10) gNil)))) (tIfS (tTest (tOp rNe (tCB (rReprV K) (tCons (tVar 9) tNil)) (tCB (rReprV K) (tCons (tVar 10) tNil)))) t tNext)) u D [o0, o1, o2, o3, o4, o5, o6, some (.ref q), x8, x9, x10, o11, o12, o13, o14, o15] H := by
  subst hn
  refine ⟨_, rfl, q, rfl, ⟨_, SqL.of hq⟩, ?_⟩
  refine for_it (D := { D with nx := u D }) (walk_list (xs := vs)) (fun i σ' H' => ∃ o8 o9 o10 : Option V, σ' = [o0, o1, o2, o3, o4, o5, o6, some (.ref q), o8, o9, o10, o11, o12, o13, o14, o15] ∧ Same H H') ⟨x8, x9, x10, rfl, Same.refl _⟩ (fun i σ' H' _ ⟨_, _, _, _, e⟩ => e.seq (SqL.of hq)) ?_ (fun σ' H' ⟨_, _, _, e1, e2⟩ => by subst e1; exact k H' _ _ _ e2)
  rintro i v σ' H9 H2 hi ⟨y8, y9, y10, rfl, s2⟩ ⟨rfl, hv⟩
  obtain ⟨j, hj⟩ : ∃ j, js[i]? = some j := ⟨_, List.getElem?_eq_getElem (by rw [← hR.1]; exact hi)⟩
  obtain ⟨tt, e, x, y, dt, rfl, ht, _, d1, d2, kd⟩ := (hR.2 i v j hv hj).same s2
  have z1 : (1000 : Nat) ≤ sizeLine := by decide
  have kl := kd.len
  refine ⟨tt, _, rfl, SqT.of ht, rfl, _, _, rfl, _, _, rfl, _, _, rfl, rfl, ?_⟩
  refine ⟨_, rfl, x, dt, rfl, d1, kd.sho, kd.nod, Nat.le_trans kd.dep (by decide), by omega, _, rfl, y, dt, rfl, d2, kd.sho, kd.nod, Nat.le_trans kd.dep (by decide), by omega, rfl, _, rfl, ?_⟩
  rw [decide_eq_true rfl]
  exact iteF ⟨_, _, _, rfl, s2⟩
/-! ### all errors -/
theorem lc_s6 {o0 o1 o2 o3 o4 o5 o6 o8 o9 o10 o11 o12 o13 o14 o15 : Option V} {q : Addr} {vs : List V} {js : List Nat} {H : Hp} {Q : VK} (hq : H q = some (.lst vs)) (hR : AllR K cA H vs js) (lj : js.length ≤ 100) (k : ∀ (H' : Hp) (D : Addr) (es : List V), Same H H' → H' D = some (.lst es) → AllI cA H' es js → Q (.ref D) H') :
    tLc (iList K (tVar 7)) (gName 15) tYes (tOp (rIxT K) (tVar 15) (tC (.int 0))) [15] [o0, o1, o2, o3, o4, o5, o6, some (.ref q), o8, o9, o10, o11, o12, o13, o14, o15] H Q := by
  refine ⟨_, rfl, q, rfl, ⟨_, SqL.of hq⟩, fun D hD => ?_⟩
  have lv := hR.1
  refine lc_it (walk_list (xs := vs)) (fun i H' => Same H H' ∧ ∃ es, H' D = some (.lst es) ∧ AllI cA H' es (js.take i)) ⟨Ask.Same.upd_new (Same.refl _) hD, [], upd_same, AllP.nil⟩ (fun i H' _ hh => hh.1.seq (SqL.of hq)) ?_ ?_
  · rintro i v H9 H2 hi ⟨s2, es, hD2, hI⟩ ⟨rfl, hv⟩
    obtain ⟨j, hj⟩ : ∃ j, js[i]? = some j := ⟨_, List.getElem?_eq_getElem (by rw [← lv]; exact hi)⟩
    obtain ⟨tt, e, x, y, dt, rfl, ht, eI, _⟩ := (hR.2 i v j hv hj).same s2
    have z1 : (1000 : Nat) ≤ sizeLine := by decide
    have le := hI.1
    rw [List.length_take] at le
    refine ⟨rfl, _, rfl, tt, _, _, e, rfl, rfl, SqT.of ht, at_by (j := 0) rfl rfl, es, hD2, by omega, Ask.Same.upd_new s2 hD, es ++ [e], upd_same, ?_⟩
    rw [List.take_add_one, hj]
    exact AllP.app (AllP.imp hI fun _ _ z => ErrI.mut z hD2) (AllP.cons (eI.mut hD2) AllP.nil)
  · rintro H2 ⟨s2, es, hD2, hI⟩
    rw [lv, List.take_length] at hI
    exact k H2 D es s2 hD2 hI
theorem add_s6 {o0 o1 o2 o3 o4 o5 o8 o9 o10 o11 o12 o13 o14 o15 : Option V} {q6 q7 : Addr} {ws vs : List V} {ks js : List Nat} {H : Hp} {Q : VK} (h6 : H q6 = some (.lst ws)) (hW : AllI cA H ws ks) (hq : H q7 = some (.lst vs)) (hR : AllR K cA H vs js) (lj : js.length ≤ 100) (lk : ks.length ≤ 100)
    (k : ∀ (H' : Hp) (D : Addr) (es : List V), Same H H' → H' D = some (.lst es) → AllI cA H' es (ks ++ js) → Q (.ref D) H') :
    tOp rCat (tVar 6) (tLc (iList K (tVar 7)) (gName 15) tYes (tOp (rIxT K) (tVar 15) (tC (.int 0))) [15]) [o0, o1, o2, o3, o4, o5, some (.ref q6), some (.ref q7), o8, o9, o10, o11, o12, o13, o14, o15] H Q := by
  refine ⟨_, rfl, lc_s6 hq hR lj fun H1 D es s1 hD hI => ?_⟩
  have z1 : (1000 : Nat) ≤ sizeLine := by decide
  have l1 := hW.1
  have l2 := hI.1
  refine ⟨q6, D, ws, es, rfl, rfl, s1 _ _ h6, hD, by omega, fun M nM => ?_⟩
  have s2 := Ask.Same.made1 (o := .lst (ws ++ es)) (Same.refl H1) nM
  exact k _ M _ (s1.trans s2) upd_same (AllP.app (AllI.same hW (s1.trans s2)) (AllI.same hI s2))
theorem cnt40 : ∀ j, j < 40 → cntB ((List.range 40).map fun k => decide (k = j)) = 1 := by decide +kernel
/-- isinstance of an error of ours -/
theorem iso_at {σ : L2.St} {H : Hp} {q : Addr} {es : List V} {i j : Nat} {v c : V} {cv : Value} {b : Bool} {Q : VK} (e11 : σ[11]? = some (some (.ref q))) (e12 : σ[12]? = some (some (.int (0 + (i : Int))))) (hq : H q = some (.lst es)) (hv : es[i]? = some v) (eI : ErrI cA H v j) (hj : j < 40) (M : Kinds K mg cA CA)
    (hc : ClsV c cv) (hk : PySem.W.kitOne K (.ref (cA j)) cv = some b) (k : Q (.bl b) H) : tCB (rIsO K) (tCons (tOp (rIxL K) (tVar 11) (tVar 12)) (tCons (tC c) tNil)) σ H Q := by
  obtain ⟨a, d, rfl, h1, h2⟩ := eI
  exact ⟨_, e11, _, e12, q, es, _, .ref a, rfl, rfl, SqL.of hq, at_by (j := i) (by omega) hv, a, cA j, d, c, cv, b, rfl, h1, h2, M.xf j hj, M.xk j hj, hc, hk, k⟩
/-! ### each error is of its kind alone -/
theorem for_s7 {o0 o1 o2 o3 o4 o5 o6 o7 o8 o9 o10 o14 o15 : Option V} {x12 x13 : Option V} {q : Addr} {es : List V} {js : List Nat} {H : Hp} {t1 t2 u : TS} {D : Ends} (hq : H q = some (.lst es)) (hI : AllI cA H es js) (lj : js.length ≤ 100) (jj : ∀ j ∈ js, j < 40) (M : Kinds K mg cA CA)
    (k : ∀ (H' : Hp) (o12 o13 : Option V), Same H H' → u D [o0, o1, o2, o3, o4, o5, o6, o7, o8, o9, o10, some (.ref q), o12, o13, o14, o15] H') :
    tSeq (tFor (iRng1 (tCons (tCB (fun xs H_1 Q => ∃ x n, xs = [x] ∧ LenV K x H_1 n ∧ Q (V.int (n : Nat)) H_1) (tCons (tVar 11) tNil)) tNil)) (gName 12)
      (tSeq (tAsg (tCall (spKinds cA 40) [] E0 (tCons (tOp (rIxL K) (tVar 11) (tVar 12)) tNil)) (gName 13))
        (tSeq (tIfS (tOr (tNot (tB (tCB (rIsO K) (tCons (tOp (rIxL K) (tVar 11) (tVar 12)) (tCons (tC (V.ref CA)) tNil))))) (tOr (tNot (tB (tCB (rIsO K) (tCons (tOp (rIxL K) (tVar 11) (tVar 12)) (tCons (tC (V.ty "ValueError")) tNil))))) (tTest (tOp rNe (tCB (rSumB K) (tCons (tVar 13) tNil)) (tC (V.int 1)))))) t1 tNext)
          (tIfS (tOr (tB (tCB (rIsO K) (tCons (tOp (rIxL K) (tVar 11) (tVar 12)) (tCons (tC (V.ty "LookupError")) tNil)))) (tB (tCB (rIsO K) (tCons (tOp (rIxL K) (tVar 11) (tVar 12)) (tCons (tC (V.ty "ArithmeticError")) tNil))))) t2 tNext)))) u D [o0, o1, o2, o3, o4, o5, o6, o7, o8, o9, o10, some (.ref q), x12, x13, o14, o15] H := by
  have le := hI.1
  refine ⟨_, rfl, .ref q, es.length, rfl, .inl ⟨es, SqL.of hq, rfl⟩, (es.length : Nat), rfl, by omega, by omega, ?_⟩
  rw [Int.toNat_natCast]
  refine for_range (lo := 0) (n := es.length) (D := { D with nx := u D }) (fun i σ' H' => ∃ o12 o13 : Option V, σ' = [o0, o1, o2, o3, o4, o5, o6, o7, o8, o9, o10, some (.ref q), o12, o13, o14, o15] ∧ Same H H') ⟨x12, x13, rfl, Same.refl _⟩ ?_ (fun σ' H' ⟨_, _, e1, e2⟩ => by subst e1; exact k H' _ _ e2)
  rintro i σ' H2 hi ⟨y12, y13, rfl, s2⟩
  obtain ⟨v, hv⟩ : ∃ v, es[i]? = some v := ⟨_, List.getElem?_eq_getElem hi⟩
  obtain ⟨j, hj⟩ : ∃ j, js[i]? = some j := ⟨_, List.getElem?_eq_getElem (by omega)⟩
  have j40 := jj j (List.mem_of_getElem? hj)
  have eI := (hI.2 i v j hv hj).same s2
  refine ⟨_, rfl, _, rfl, q, es, _, v, rfl, rfl, SqL.of (s2 _ _ hq), at_by (j := i) (by omega) hv, v, j, rfl, j40, eI, fun H3 q3 s3 _ hq3 => ?_⟩
  have eI3 := eI.same s3
  have hq' := s3 _ _ (s2 _ _ hq)
  refine iso_at rfl rfl hq' hv eI3 j40 M (.own CA) (M.ka j j40) ⟨_, rfl, ?_⟩
  refine iteF (iso_at rfl rfl hq' hv eI3 j40 M (.ty _) (M.kv j j40) ⟨_, rfl, ?_⟩)
  refine iteF ⟨_, rfl, q3, (List.range 40).map (fun k => decide (k = j)), rfl, SqL.of (by rw [hq3]; unfold kindsB; rw [List.map_map]; rfl), by rw [List.length_map, List.length_range]; decide, rfl, _, rfl, ?_⟩
  rw [cnt40 j j40, decide_eq_true rfl]
  refine iteF ?_
  refine iso_at rfl rfl hq' hv eI3 j40 M (.ty _) (M.kl j j40) ⟨_, rfl, ?_⟩
  refine iteF (iso_at rfl rfl hq' hv eI3 j40 M (.ty _) (M.kr j j40) ⟨_, rfl, ?_⟩)
  exact iteF ⟨_, _, rfl, s2.trans s3⟩
/-! ### the places of the kinds -/
theorem lc_s8 {o0 o1 o2 o3 o4 o5 o6 o7 o8 o9 o10 o12 o13 o14 o15 : Option V} {q : Addr} {es : List V} {js : List Nat} {H : Hp} {Q : VK} (hq : H q = some (.lst es)) (hI : AllI cA H es js) (lj : js.length ≤ 100) (jj : ∀ j ∈ js, j < 40)
    (k : ∀ (H' : Hp) (D : Addr), Same H H' → H' D = some (.lst (js.map fun (n : Nat) => V.int (n : Int))) → Q (.ref D) H') :
    tLc (iList K (tVar 11)) (gName 8) tYes (tOp (rIxL K) (tLc (iRng1 (tCons (tC (.int 40)) tNil)) (gName 12) (tB (tOp (rIxL K) (tCall (spKinds cA 40) [] E0 (tCons (tVar 8) tNil)) (tVar 12))) (tVar 12) [12]) (tC (.int 0))) [8] [o0, o1, o2, o3, o4, o5, o6, o7, o8, o9, o10, some (.ref q), o12, o13, o14, o15] H Q := by
  have le := hI.1
  have z1 : (1000 : Nat) ≤ sizeLine := by decide
  refine ⟨_, rfl, q, rfl, ⟨_, SqL.of hq⟩, fun D hD => ?_⟩
  refine lc_it (walk_list (xs := es)) (fun i H' => Same H H' ∧ H' D = some (.lst ((js.take i).map fun (n : Nat) => V.int (n : Int)))) ⟨Ask.Same.upd_new (Same.refl _) hD, upd_same⟩ (fun i H' _ hh => hh.1.seq (SqL.of hq)) ?_ ?_
  · rintro i v H9 H2 hi ⟨s2, hD2⟩ ⟨rfl, hv⟩
    obtain ⟨j, hj⟩ : ∃ j, js[i]? = some j := ⟨_, List.getElem?_eq_getElem (by omega)⟩
    have j40 := jj j (List.mem_of_getElem? hj)
    have eI := (hI.2 i v j hv hj).same s2
    refine ⟨rfl, 40, rfl, by decide, by decide, fun D2 hD2' => ?_⟩
    refine lc_range (lo := 0) (n := 40) (fun m H' => Same H2 H' ∧ H' D2 = some (.lst (if j < m then [.int (j : Int)] else []))) ⟨Ask.Same.upd_new (Same.refl _) hD2', upd_same⟩ (fun m H3 hm hs => ?_) (fun H3 hh => ?_)
    · obtain ⟨s3, f3⟩ := hs
      refine ⟨rfl, _, rfl, v, j, rfl, j40, eI.same s3, fun H4 q4 s4 n4 hq4 => ⟨_, rfl, q4, _, _, _, rfl, rfl, SqL.of hq4, at_by (j := m) (by omega) (kindsB_at hm), _, rfl, ?_⟩⟩
      have f4 := s4 _ _ f3
      refine ite2 (fun e => ?_) (fun e => ?_)
      · have e : m = j := of_decide_eq_true e
        subst e
        rw [if_neg (Nat.lt_irrefl _)] at f4
        refine ⟨_, rfl, [], f4, by decide, Ask.Same.upd_new (s3.trans s4) hD2', ?_⟩
        rw [upd_same, if_pos (Nat.lt_succ_self _)]
        show some (HO.lst [V.int (0 + (m : Int))]) = _
        rw [Int.zero_add]
      · have e : ¬ m = j := fun z => e (decide_eq_true z)
        refine ⟨s3.trans s4, ?_⟩
        rw [f4]
        by_cases q1 : j < m
        · rw [if_pos q1, if_pos (by omega)]
        · rw [if_neg q1, if_neg (by omega)]
    · obtain ⟨s3, f3⟩ := hh
      rw [if_pos j40] at f3
      refine ⟨D2, _, _, _, rfl, rfl, SqL.of f3, at_by (j := 0) rfl rfl, _, s3 _ _ hD2, ?_, Ask.Same.upd_new (s2.trans s3) hD, ?_⟩
      · rw [List.length_map, List.length_take]
        omega
      · rw [upd_same, List.take_add_one, hj, List.map_append]
        rfl
  · rintro H2 ⟨s2, hD2⟩
    rw [le, List.take_length] at hD2
    exact k H2 D s2 hD2
/-! ### they are all of them -/
def JS : List Nat := PLs ++ OLs
theorem js_perm : (JS.map fun (n : Nat) => (n : Int)).Perm ((List.range 40).map fun (n : Nat) => (n : Int)) := by
  refine List.Perm.map _ ?_
  exact List.isPerm_iff.mp (by decide +kernel)
theorem js_40 : ∀ j ∈ JS, j < 40 := by decide +kernel
theorem all_int {H0 : Hp} (n : Nat) : DpAll K H0 ((List.range n).map fun (k : Nat) => V.int (k : Int)) ((List.range n).map fun (k : Nat) => PyData.int (k : Int)) := by
  have : ∀ l : List Nat, DpAll K H0 (l.map fun (k : Nat) => V.int (k : Int)) (l.map fun (k : Nat) => PyData.int (k : Int)) := fun l => by
    induction l with
    | nil => exact .nil
    | cons a l ih => exact .cons (.int _) ih
  exact this _
theorem ne_s9 {o0 o1 o2 o3 o4 o5 o6 o7 o8 o9 o10 o11 o12 o13 o15 : Option V} {q : Addr} {H : Hp} {t u : L2.St → Hp → Prop} (hq : H q = some (.lst (JS.map fun (n : Nat) => V.int (n : Int)))) (k : ∀ H', Same H H' → u [o0, o1, o2, o3, o4, o5, o6, o7, o8, o9, o10, o11, o12, o13, some (.ref q), o15] H') :
    tCB (rSorted K) (tCons (tVar 14) tNil) [o0, o1, o2, o3, o4, o5, o6, o7, o8, o9, o10, o11, o12, o13, some (.ref q), o15] H fun x H1 => tLstRg (tRg1 (tC (.int 40))) [o0, o1, o2, o3, o4, o5, o6, o7, o8, o9, o10, o11, o12, o13, some (.ref q), o15] H1 fun y H2 => rNeD K x y H2 fun v H3 => ∃ b, v = .bl b ∧ if b = true then t [o0, o1, o2, o3, o4, o5, o6, o7, o8, o9, o10, o11, o12, o13, some (.ref q), o15] H3 else u [o0, o1, o2, o3, o4, o5, o6, o7, o8, o9, o10, o11, o12, o13, some (.ref q), o15] H3 := by
  have e0 : (JS.map fun (n : Nat) => V.int (n : Int)) = (JS.map fun (n : Nat) => (n : Int)).map V.int := by rw [List.map_map]; rfl
  refine ⟨_, rfl, q, JS.map fun (n : Nat) => (n : Int), rfl, SqL.of (by rw [hq, e0]), by decide, fun ns' p pm pw np => ?_⟩
  have es : ns' = (List.range 40).map fun (n : Nat) => (n : Int) := by
    refine List.Perm.eq_of_pairwise (le := (· ≤ ·)) (fun a b _ _ h1 h2 => Int.le_antisymm h1 h2) pw (by decide +kernel) (pm.trans js_perm)
  subst es
  have s1 := Ask.Same.made1 (o := .lst (((List.range 40).map fun (n : Nat) => (n : Int)).map V.int)) (Same.refl H) np
  have f1 : upd H p (.lst (((List.range 40).map fun (n : Nat) => (n : Int)).map V.int)) p = some (.lst ((List.range 40).map fun (n : Nat) => V.int (n : Int))) := by rw [upd_same, List.map_map]; rfl
  generalize upd H p (.lst (((List.range 40).map fun (n : Nat) => (n : Int)).map V.int)) = H1 at s1 f1 ⊢
  refine ⟨40, rfl, RgOk.of_le (by decide) (by decide) (by decide) (by decide), fun r nr => ?_⟩
  have s2 := Ask.Same.made1 (o := .lst (rgV 0 40)) (Same.refl H1) nr
  have f2 : upd H1 r (.lst (rgV 0 40)) r = some (.lst ((List.range 40).map fun (n : Nat) => V.int (n : Int))) := by
    rw [upd_same]
    have : rgV 0 40 = (List.range 40).map fun (n : Nat) => V.int (n : Int) := by decide +kernel
    rw [this]
  have sh : SeqAt.shaped (.list ((List.range 40).map fun (k : Nat) => PyData.int (k : Int))) = true := by decide +kernel
  refine ⟨.list ((List.range 40).map fun (k : Nat) => PyData.int (k : Int)), .list ((List.range 40).map fun (k : Nat) => PyData.int (k : Int)), .lst (SqL.of (s2 _ _ f1)) (all_int 40), .lst (SqL.of f2) (all_int 40), sh, sh, false, ?_, ?_⟩
  · rw [show PyData.eqv (.list ((List.range 40).map fun (k : Nat) => PyData.int (k : Int))) (.list ((List.range 40).map fun (k : Nat) => PyData.int (k : Int))) = true by decide +kernel]
    rfl
  · rw [if_neg Bool.false_ne_true]
    exact k _ (s1.trans s2)
end
end Ask

set_option maxHeartbeats 1000000
namespace Ask
open PySem L2
def nLaw : List Str := [("_law_script" : Str), ("_law_pen_here" : Str), ("_law_turn" : Str), ("_law_a" : Str), ("_law_b" : Str), ("_law_c" : Str), ("_law_indexed_here" : Str), ("_law_others_here" : Str), ("_law_e" : Str), ("_law_due" : Str), ("_law_told" : Str), ("_law_errors" : Str), ("_law_k" : Str), ("_law_kinds_here" : Str), ("_law_places_here" : Str), ("_law_other" : Str)]
/-- the names of a comprehension that holds another one -/
def scE : Scope := { kind := ScopeKind.function, names := [((".0" : Str), NameKind.local), (("_law_e" : Str), NameKind.cell), (("range" : Str), NameKind.globalImplicit)], isGenerator := false, isCoroutine := false }
theorem ErrF.go {K : PySem.W.Frag} {cA : Nat → Addr} {H H' : Hp} {v : V} {j : Nat} {n : Int} {p c : Addr} {ns : List Int} {B : Nat} (h : ErrF K cA H v j ["index"] [.int n]) (g : Go p c ns H H' B) : ErrF K cA H' v j ["index"] [.int n] := by
  obtain ⟨a, dd, fs, e, h1, h2, fl⟩ := h
  refine ⟨a, dd, fs, e, g.at h1 (by intro _ z; unfold exo at z; cases z), g.at h2 (by intro _ z; unfold exd at z; cases z), rfl, fun i m d e1 e2 => ?_⟩
  obtain ⟨w, lw, dw⟩ := fl.2 i m d e1 e2
  have hd : d = .int n := by
    match i, e2 with
    | 0, e2 => cases e2; rfl
    | i + 1, e2 => simp at e2
  subst hd
  exact ⟨w, lw, flat_same dw rfl⟩
theorem AllE.go {K : PySem.W.Frag} {cA : Nat → Addr} {H H' : Hp} {vs : List V} {js : List Nat} {n : Int} {p c : Addr} {ns : List Int} {B : Nat} (h : AllE K cA H vs js (.int n)) (g : Go p c ns H H' B) : AllE K cA H' vs js (.int n) := ⟨h.1, fun q v j e1 e2 => ErrF.go (h.2 q v j e1 e2) g⟩
theorem AllE.i {K : PySem.W.Frag} {cA : Nat → Addr} {H : Hp} {vs : List V} {js : List Nat} {d : PyData} (h : AllE K cA H vs js d) : AllI cA H vs js := ⟨h.1, fun q v j e1 e2 => (h.2 q v j e1 e2).i⟩
theorem st_no1 {A B : TE} {r : R2} {t : TS} {D : Ends} {σ : L2.St} {H : Hp} (h : A σ H fun x H1 => B σ H1 fun y H2 => r x y H2 fun v H3 => ∃ k, v = .bl k ∧ if k = true then t D σ H3 else D.nx σ H3) : tIfS (tTest (tOp r A B)) t tNext D σ H := h
section
variable {P : Program} {w : World} {K : PySem.W.Frag} {mg : Str → Option Value} {base : Heap} {cA : Nat → Addr} {CA : Addr}
abbrev s_law : Stmt := top 56
theorem sc_law : FnScope nLaw ["_law_script"] (defScope s_law) := ⟨rfl, rfl, rfl, by decide +kernel, rfl, by decide +kernel, by decide +kernel⟩
theorem run_law {f a f0 f1 f2 f3 f4 f5 f6 f7 : Addr} {fd fd0 fd1 fd2 fd3 fd4 fd5 fd6 fd7 : FuncData} {A : Around} {outer : List Env} {s : Shared} {H : Hp} {ns : List Int}
    (F : Fun K "law" "law" s_law f fd) (T : Blt mg) (M : Kinds K mg cA CA) (nSo : mg "sorted" = none) (nSu : mg "sum" = none) (nV : mg "ValueError" = none) (nL : mg "LookupError" = none) (nA : mg "ArithmeticError" = none) (N : ∀ j ∈ PLs, PySem.W.findIn K (.ref (cA j)) "index" = some none)
    (G0 : FnOk P w K mg base CX0 1 f0 fd0 ["_law_script"] (spPen K)) (A0 : At K mg "_law_pen" f0 fd0 ["_law_script"])
    (G1 : FnOk P w K mg base CX0 1 f1 fd1 ["_law_pen_here", "_law_many"] spDraw) (A1 : At K mg "_law_draw" f1 fd1 ["_law_pen_here", "_law_many"])
    (G2 : FnOk P w K mg base CX0 3 f2 fd2 ["_law_pen_here", "_law_many"] spLettersD) (A2 : At K mg "_law_letters" f2 fd2 ["_law_pen_here", "_law_many"])
    (G3 : FnOk P w K mg base CX0 5 f3 fd3 ["_law_one"] (spIndexed K cA)) (A3 : At K mg "_law_indexed" f3 fd3 ["_law_one"])
    (G4 : FnOk P w K mg base CX0 5 f4 fd4 ["_law_a", "_law_b", "_law_c", "_law_d"] (spOthers K cA)) (A4 : At K mg "_law_others" f4 fd4 ["_law_a", "_law_b", "_law_c", "_law_d"])
    (G5 : FnOk P w K mg base CX0 3 f5 fd5 ["_law_pen_here"] (spValue K)) (A5 : At K mg "_law_value" f5 fd5 ["_law_pen_here"])
    (G6 : FnOk P w K mg base CX0 2 f6 fd6 ["_law_e"] (spKinds cA 40)) (A6 : At K mg "_law_kinds" f6 fd6 ["_law_e"])
    (G7 : FnOk P w K mg base CX0 1 f7 fd7 [] spPlaces) (A7 : At K mg "_law_places" f7 fd7 [])
    (hg : A.guards = some []) (hr : Room 8 A) (e0 : Env0 P w K mg base A outer s H) (bind : BindsTo s fd ⟨[.ref a], []⟩ [("_law_script", .ref a)]) (hS : SqL K H a (ns.map V.int)) (hl : ns.length ≤ 63) :
    codeAny (model P w) A (.call (.ref f) ⟨[.ref a], []⟩) (CR CX0 outer P w H s (fun v _ => v = .bl true) E0) s := by
  refine fn_run (us := [.ref a]) (vs := [.ref a]) F sc_law hr e0 bind (.cons rfl .nil) rfl fun cdv h7 => ?_
  have h1 := h7.mono (j := 1) (by decide)
  have h2 := h7.mono (j := 2) (by decide)
  have h3 := h7.mono (j := 3) (by decide)
  have h5 := h7.mono (j := 5) (by decide)
  refine ⟨_, PSs.nox ((pss_cons (ps_set (i := 1) sc_law.nd rfl (Or.inl rfl) (pe_call G0 (by exact h1) (by rfl) A0.m A0.k A0.b .nil pass0 (pa_cons (pv 0) pa_nil)))
    (pss_cons (ps_for PassesOwn.never rfl (pi_range1 rfl T.n_range (pa_cons pe_int pa_nil)) (pg_name (i := 2) sc_law.nd rfl (Or.inl rfl))
      (pss_cons (ps_asg (pe_tup (pa_cons (pe_call G1 (by exact h1) (by rfl) A1.m A1.k A1.b .nil pass0 (pa_cons (pv 1) (pa_cons (pe_op op_pow pe_int pe_int) pa_nil))) (pa_cons (pe_op op_add pe_int (pe_call G1 (by exact h1) (by rfl) A1.m A1.k A1.b .nil pass0 (pa_cons (pv 1) (pa_cons pe_int pa_nil)))) (pa_cons (pe_ix ix_list (pe_call G2 (by exact h3) (by rfl) A2.m A2.k A2.b .nil pass0 (pa_cons (pv 1) (pa_cons pe_int pa_nil))) pe_int (fun _ _ => rfl)) pa_nil)))) (pg_tup rfl (pgs_cons (pg_name (i := 3) sc_law.nd rfl (by first | exact Or.inl rfl | exact Or.inr rfl)) (pgs_cons (pg_name (i := 4) sc_law.nd rfl (Or.inl rfl)) (pgs_cons (pg_name (i := 5) sc_law.nd rfl (Or.inl rfl)) pgs_nil)))))
      (pss_cons (ps_asg (pe_tup (pa_cons (pe_call G3 (by exact h5) (by rfl) A3.m A3.k A3.b .nil pass0 (pa_cons (pv 3) pa_nil)) (pa_cons (pe_call G4 (by exact h5) (by rfl) A4.m A4.k A4.b .nil pass0 (pa_cons (pv 3) (pa_cons (pv 4) (pa_cons (pv 5) (pa_cons (pe_call G5 (by exact h3) (by rfl) A5.m A5.k A5.b .nil pass0 (pa_cons (pv 1) pa_nil)) pa_nil))))) pa_nil))) (pg_tup rfl (pgs_cons (pg_name (i := 6) sc_law.nd rfl (by first | exact Or.inl rfl | exact Or.inr rfl)) (pgs_cons (pg_name (i := 7) sc_law.nd rfl (Or.inl rfl)) pgs_nil))))
      (pss_cons (ps_if (pt_cmpR (op_neD h7.units) (pe_lc (own := [("_law_e", 8)]) rfl sc_law.nd (pi_list (pv 6)) (blkOk_by (N := nLaw) (sc := defScope s_law) (by decide +kernel)) (fun _ _ _ _ _ => (pg_name (i := 8) sc_law.nd rfl (by first | exact Or.inl rfl | exact Or.inr rfl))) (fun _ _ _ _ _ => pts_one (pt_cmpR op_ne (pe_callB (show CallR _ _ (rReprV K) from call_reprV (by exact hg) (by exact h7.units)) (by rfl) T.n_repr (by decide +kernel) (pa_cons (show PE _ _ (tOget K "index" (tVar 8)) from pe_oget (pv 8)) pa_nil)) (pe_callB (show CallR _ _ (rReprV K) from call_reprV (by exact hg) (by exact h7.units)) (by rfl) T.n_repr (by decide +kernel) (pa_cons (pv 3) pa_nil)) (nomark _))) (fun _ _ _ _ _ => (pv 8))) (pe_lst pa_nil) (nomark _)) (pss_one (ps_ret pe_bl)) pss_nil)
      (pss_cons (ps_if (pt_cmpR (op_neD h7.units) (pe_lc (own := [("_law_k", 12)]) rfl sc_law.nd (pi_range1 rfl T.n_range (pa_cons pe_int pa_nil)) (blkOk_by (N := nLaw) (sc := defScope s_law) (by decide +kernel)) (fun _ _ _ _ _ => (pg_name (i := 12) sc_law.nd rfl (by first | exact Or.inl rfl | exact Or.inr rfl))) (fun _ _ _ _ _ => pts_one (pt_not (pt_val (pe_ix (show IxR _ (rIxL K) from ix_list) (pe_call G6 (by exact h2) (by rfl) A6.m A6.k A6.b .nil pass0 (pa_cons (pe_ix (show IxR _ (rIxL K) from ix_list) (pv 6) (pv 12) (fun _ _ => rfl)) pa_nil)) (pe_ix (show IxR _ (rIxL K) from ix_list) (pe_call0 G7 (by exact h1) (by rfl) A7.m A7.k A7.b .nil pass0) (pv 12) (fun _ _ => rfl)) (fun _ _ => rfl))))) (fun _ _ _ _ _ => (pv 12))) (pe_lst pa_nil) (nomark _)) (pss_one (ps_ret pe_bl)) pss_nil)
      (pss_cons (ps_for PassesOwn.never rfl (pi_list (pv 7)) (pg_tup rfl (pgs_cons (pg_name (i := 8) sc_law.nd rfl (by first | exact Or.inl rfl | exact Or.inr rfl)) (pgs_cons (pg_name (i := 9) sc_law.nd rfl (Or.inl rfl)) (pgs_cons (pg_name (i := 10) sc_law.nd rfl (Or.inl rfl)) pgs_nil)))) (pss_one (ps_if (pt_cmpR op_ne (pe_callB (call_reprV (by exact hg) (by exact h7.units)) (by rfl) T.n_repr (by decide +kernel) (pa_cons (pv 9) pa_nil)) (pe_callB (call_reprV (by exact hg) (by exact h7.units)) (by rfl) T.n_repr (by decide +kernel) (pa_cons (pv 10) pa_nil)) (nomark _)) (pss_one (ps_ret pe_bl)) pss_nil)))
      (pss_cons (ps_set (i := 11) sc_law.nd rfl (Or.inl rfl) (pe_op op_cat (pv 6) (pe_lc (own := [("_law_other", 15)]) rfl sc_law.nd (pi_list (pv 7)) (blkOk_by (N := nLaw) (sc := defScope s_law) (by decide +kernel)) (fun _ _ _ _ _ => (pg_name (i := 15) sc_law.nd rfl (by first | exact Or.inl rfl | exact Or.inr rfl))) (fun _ _ _ _ _ => pts_nil) (fun _ _ _ _ _ => (pe_ix (show IxR _ (rIxT K) from ix_tup) (pv 15) pe_int (fun _ _ => rfl))))))
      (pss_cons (ps_for PassesOwn.never rfl (pi_range1 rfl T.n_range (pa_cons (pe_callB call_len (by rfl) T.n_len (by decide +kernel) (pa_cons (pv 11) pa_nil)) pa_nil)) (pg_name (i := 12) sc_law.nd rfl (by first | exact Or.inl rfl | exact Or.inr rfl))
        (pss_cons (ps_set (i := 13) sc_law.nd rfl (Or.inl rfl) (pe_call G6 (by exact h2) (by rfl) A6.m A6.k A6.b .nil pass0 (pa_cons (pe_ix ix_list (pv 11) (pv 12) (fun _ _ => rfl)) pa_nil)))
        (pss_cons (ps_if (PW.pt (pw_or (pt_not (pt_val (pe_callB call_isO (by rfl) T.n_isinstance (by decide +kernel) (pa_cons (pe_ix ix_list (pv 11) (pv 12) (fun _ _ => rfl)) (pa_cons (pe_gv (v := .ref CA) rfl ⟨_, M.ma, rfl⟩) pa_nil))))) (pw_or (pt_not (pt_val (pe_callB call_isO (by rfl) T.n_isinstance (by decide +kernel) (pa_cons (pe_ix ix_list (pv 11) (pv 12) (fun _ _ => rfl)) (pa_cons (pe_bltn (v := .ty "ValueError") (u := .type "ValueError") rfl nV (by decide +kernel) rfl) pa_nil))))) (pw_or1 (pt_cmpR op_ne (pe_callB (cr_sumB rfl) (by rfl) nSu (by decide +kernel) (pa_cons (pv 13) pa_nil)) pe_int (nomark _)))))) (pss_one (ps_ret pe_bl)) pss_nil)
        (pss_one (ps_if (PW.pt (pw_or (pt_val (pe_callB call_isO (by rfl) T.n_isinstance (by decide +kernel) (pa_cons (pe_ix ix_list (pv 11) (pv 12) (fun _ _ => rfl)) (pa_cons (pe_bltn (v := .ty "LookupError") (u := .type "LookupError") rfl nL (by decide +kernel) rfl) pa_nil)))) (pw_or1 (pt_val (pe_callB call_isO (by rfl) T.n_isinstance (by decide +kernel) (pa_cons (pe_ix ix_list (pv 11) (pv 12) (fun _ _ => rfl)) (pa_cons (pe_bltn (v := .ty "ArithmeticError") (u := .type "ArithmeticError") rfl nA (by decide +kernel) rfl) pa_nil))))))) (pss_one (ps_ret pe_bl)) pss_nil)))))
      (pss_cons (ps_setLc (i := 14) (own := [("_law_e", 8)]) rfl sc_law.nd rfl rfl (sw_true rfl rfl rfl (by decide +kernel)) (pi_list (pv 11)) (blkOk_by (N := nLaw) (sc := defScope s_law) (by decide +kernel)) (fun _ _ _ _ _ => (pg_name (i := 8) sc_law.nd rfl (by first | exact Or.inl rfl | exact Or.inr rfl))) (fun _ _ _ _ _ => pts_nil) (fun _ _ _ _ _ => (pe_ix (show IxR _ (rIxL K) from ix_list) (pe_lc (own := [("_law_k", 12)]) rfl sc_law.nd (pi_range1 rfl T.n_range (pa_cons pe_int pa_nil)) (blkOk_by (N := nLaw) (sc := scE) (by decide +kernel)) (fun _ _ _ _ _ => (pg_name (i := 12) sc_law.nd rfl (by first | exact Or.inl rfl | exact Or.inr rfl))) (fun _ _ _ _ _ => pts_one (pt_val (pe_ix (show IxR _ (rIxL K) from ix_list) (pe_call G6 (by exact h2) (by rfl) A6.m A6.k A6.b .nil pass0 (pa_cons (pv 8) pa_nil)) (pv 12) (fun _ _ => rfl)))) (fun _ _ _ _ _ => (pv 12))) pe_int (fun _ _ => rfl))))
      (pss_one (ps_if (pt_cmpR (op_neD h7.units) (pe_callB cr_sorted (by rfl) nSo (by decide +kernel) (pa_cons (pv 14) pa_nil)) (pe_listRg rfl (by rfl) T.n_list (prg_1 (by rfl) T.n_range pe_int)) (nomark _)) (pss_one (ps_ret pe_bl)) pss_nil)))))))))))
    (pss_one (ps_ret pe_bl))))), ?_⟩
  have z1 : (1000000 : Nat) ≤ sizeLine := by decide
  refine ⟨_, rfl, a, ns, rfl, hS, hl, fun H0 p c s0 hp0 hpen => ?_⟩
  refine ⟨3, rfl, by decide, by decide, for_range (lo := 0) (n := 3) (fun i σ' H' => ∃ o2 o3 o4 o5 o6 o7 o8 o9 o10 o11 o12 o13 o14 o15 : Option V, σ' = [some (.ref a), some (.ref p), o2, o3, o4, o5, o6, o7, o8, o9, o10, o11, o12, o13, o14, o15] ∧ Go p c ns H0 H' (1000 * i))
    ⟨none, none, none, none, none, none, none, none, none, none, none, none, none, none, rfl, Go.refl hpen⟩ ?_ (fun σ' H1 hh => rfl)⟩
  rintro i σ' H1 hi ⟨o2, o3, o4, o5, o6, o7, o8, o9, o10, o11, o12, o13, o14, o15, rfl, g1⟩
  -- a, b, c
  refine ⟨_, rfl, _, _, rfl, rfl, ⟨by decide, by decide, by decide⟩, p, c, ns, _, 1000 * i, rfl, g1.pen, by omega, by decide, by decide, fun H2 r g2 r0 r1 => ?_⟩
  replace r1 : r < 1000000 := r1
  replace g2 := g1.step g2
  refine ⟨_, rfl, p, c, ns, 999, 1000 * i + 1, rfl, g2.pen, by omega, by decide, by decide, fun H3 b g3 b0 b1 => ⟨_, _, rfl, rfl, ?_⟩⟩
  replace g3 := g2.step g3
  refine ⟨_, rfl, p, c, ns, 1, 1000 * i + 1 + 1, rfl, g3.pen, by omega, by decide, by decide, fun H4 L ys g4 nL hL hlen nd ok => ?_⟩
  replace g4 := g3.step g4
  obtain ⟨c0, rfl⟩ : ∃ c0, ys = [c0] := by
    match ys, hlen with
    | [c0], _ => exact ⟨c0, rfl⟩
    | [], h => exact absurd h (by decide)
    | _ :: _ :: _, h => simp at h; omega
  obtain ⟨_, cl, ca⟩ := ok c0 (List.mem_singleton.mpr rfl)
  refine ⟨L, _, _, _, rfl, rfl, SqL.of hL, at_by (j := 0) rfl rfl, ?_⟩
  refine ⟨by show 3 ≤ sizeLine; decide, fun t ht => ⟨t, _, rfl, SqT.of upd_same, rfl, _, _, rfl, _, _, rfl, _, _, rfl, rfl, ?_⟩⟩
  have g5 := g4.new (o := .tup [.int r, .int (1 + b), .str c0]) ht
  generalize upd H4 t (.tup [.int r, .int (1 + b), .str c0]) = H5 at g5 ⊢
  refine (show tSeq _ _ _ [some (.ref a), some (.ref p), some (.int (0 + (i : Int))), some (.int r), some (.int (1 + b)), some (.str c0), o6, o7, o8, o9, o10, o11, o12, o13, o14, o15] H5 from ?_)
  clear g1 g2 g3 g4 hL ht nL hlen nd
  -- the errors
  refine ⟨_, rfl, r, rfl, fun H6 qi es s6 _ hqi hE => ?_⟩
  have g6 := g5.same s6
  refine ⟨_, rfl, _, rfl, _, rfl, _, rfl, p, c, ns, _, rfl, g6.pen, by omega, fun H7 v D g7 dv sm kd => ?_⟩
  replace hE := hE.go g7
  replace hqi := g7.lst hqi
  replace g7 := g6.step g7
  refine ⟨r, 1 + b, c0, v, D, rfl, r0, by omega, by omega, by omega, ca, cl, dv, sm, kd, fun H8 qo vs s8 _ hqo hR => ?_⟩
  refine ⟨by show 2 ≤ sizeLine; decide, fun t ht => ⟨t, _, rfl, SqT.of upd_same, rfl, _, _, rfl, _, _, rfl, rfl, ?_⟩⟩
  have s9 := Ask.Same.made1 (o := .tup [.ref qi, .ref qo]) (Same.refl H8) ht
  generalize upd H8 t (.tup [.ref qi, .ref qo]) = H9 at s9 ⊢
  have s89 := s8.trans s9
  have g9 := g7.same s89
  replace hE := hE.same s89
  replace hqi := s89 _ _ hqi
  replace hqo := s9 _ _ hqo
  replace hR := AllR.same hR s9
  clear g5 g6 g7 s6 s8 s9 s89 dv sm kd
  refine (show tSeq _ _ _ [some (.ref a), some (.ref p), some (.int (0 + (i : Int))), some (.int r), some (.int (1 + b)), some (.str c0), some (.ref qi), some (.ref qo), o8, o9, o10, o11, o12, o13, o14, o15] H9 from ?_)
  have kn : Dk (.int r) 40 := dk_int r0 (by omega)
  refine st_no (lc_s3 hqi hE M N kn fun H10 D3 s10 hD => nil_ne hD fun H11 s11 => ?_)
  have t11 := s10.trans s11
  refine st_no (lc_s4 (t11 _ _ hqi) (hE.same t11) fun H12 D4 s12 hD' => nil_ne hD' fun H13 s13 => ?_)
  have t13 := t11.trans (s12.trans s13)
  refine for_s5 rfl (t13 _ _ hqo) (AllR.same hR t13) fun H14 y8 y9 y10 s14 => ?_
  have t14 := t13.trans s14
  refine st_asg (add_s6 (ks := PLs) (js := OLs) (t14 _ _ hqi) (AllE.i (hE.same t14)) (t14 _ _ hqo) (AllR.same hR t14) (by decide) (by decide) fun H15 q11 es15 s15 f15 hI => ?_)
  refine (show tSeq _ _ _ [some (.ref a), some (.ref p), some (.int (0 + (i : Int))), some (.int r), some (.int (1 + b)), some (.str c0), some (.ref qi), some (.ref qo), y8, y9, y10, some (.ref q11), o12, o13, o14, o15] H15 from ?_)
  refine for_s7 f15 hI (by decide) js_40 M fun H16 y12 y13 s16 => ?_
  refine st_asg (lc_s8 (js := JS) (s16 _ _ f15) (AllI.same hI s16) (by decide) js_40 fun H17 q14 s17 f17 => ?_)
  refine (show tIfS _ _ _ _ [some (.ref a), some (.ref p), some (.int (0 + (i : Int))), some (.int r), some (.int (1 + b)), some (.str c0), some (.ref qi), some (.ref qo), y8, y9, y10, some (.ref q11), y12, y13, some (.ref q14), o15] H17 from ?_)
  refine st_no1 (ne_s9 f17 fun H18 s18 => ?_)
  exact ⟨_, _, _, _, _, _, _, _, _, _, _, _, _, _, rfl, (g9.same ((((t14.trans s15).trans s16).trans s17).trans s18)).mono (by omega)⟩
end
end Ask

namespace Ask
open PySem L2 PySem.Spec PyProof.Rows
theorem exm_of {K : PySem.W.Frag} {S T : Addr} {b : Bool} (h1 : PySem.W.subIn K (.ref T) (.type "BaseException") = some true) (h2 : PySem.W.isClsIn K T = true) (h3 : PySem.W.typeIn K (.ref T) = some (.type "type")) (h4 : PySem.W.subIn K (.ref S) (.ref T) = some b) :
    PySem.W.exmOne K (.ref S) (.ref T) = some b := by
  have e1 : (PySem.W.subIn K (.ref T) (.type "BaseException") == some true) = true := by rw [h1] <;> rfl
  have e2 : ((PySem.W.clsIn K T).isSome && PySem.W.typeIn K (.ref T) == some (.type "type")) = true := by
    have h2' : (PySem.W.clsIn K T).isSome = true := h2
    rw [h2', h3] <;> rfl
  show (if (PySem.W.subIn K (.ref T) (.type "BaseException") == some true) = true then (if ((PySem.W.clsIn K T).isSome && PySem.W.typeIn K (.ref T) == some (.type "type")) = true then PySem.W.subIn K (.ref S) (.ref T) else none) else none) = some b
  rw [if_pos e1, if_pos e2]
  exact h4
theorem strKeys_of {es : Array DictEntry} (h : (es.toList.all fun e => match e.key with | .str _ _ => true | _ => false) = true) : StrKeys es := fun e he => by
  have q := List.all_eq_true.mp h e (by simpa using he)
  cases k : e.key <;> rw [k] at q <;> first | exact ⟨_, _, rfl⟩ | cases q
/-- what the top says of an error class: C's mro is C, CA, then ValueError's -/
structure ErrK (K : PySem.W.Frag) (x : Str) (C CA : Addr) : Prop where
  a : PySem.W.nsIn K mainGlobals x = some (some (.ref C))
  kc : PySem.W.keepIn K (.ref C) = true
  tC : PySem.W.typeIn K (.ref C) = some (.type "type")
  ic : PySem.W.isClsIn K C = true
  eC : PySem.W.subIn K (.ref C) (.type "BaseException") = some true
  xf : XfC K C
  xk : XkC K C
  mro : ∀ b, PySem.W.subIn K (.ref C) b = some ((Value.ref C :: Value.ref CA :: PySem.HandSPX.veTail).contains b)
theorem errK_mk {K : PySem.W.Frag} {x : Str} {C CA : Addr} {nm q : Str} {N : Addr} {bs bm : List Value} {sn : List Str} {sub : List Value} {ab : Bool} {col : Option Bool} {dd : Option Addr} {m0 m1 m2 m3 m5 : Option Value}
    (hn : PySem.W.specialIn K (.builtin "object.__class__") "__get__" = some (some (.builtin "getset_descriptor.__get__"))) (ht : PySem.W.takesIn K (.builtin "object.__class__") = some true)
    (a : PySem.W.nsIn K mainGlobals x = some (some (.ref C))) (kc : PySem.W.keepIn K (.ref C) = true) (tC : PySem.W.typeIn K (.ref C) = some (.type "type")) (ic : PySem.W.isClsIn K C = true) (eC : PySem.W.subIn K (.ref C) (.type "BaseException") = some true)
    (ga : PySem.W.findIn K (.ref C) "__getattribute__" = some (some (.builtin "BaseException.__getattribute__"))) (gg : PySem.W.findIn K (.ref C) "__getattr__" = some none) (hC : PySem.W.hasDictIn K C = true)
    (ha : PySem.W.findIn K (.ref C) "__class__" = some (some (.builtin "object.__class__"))) (hm : PySem.W.mroIn K C (.type "object") = some true)
    (xc : K.lookup C = some (excClassObj nm q C N bs bm true sn sub ab col dd m0 m1 m2 m3 m5 "ValueError.__new__")) (v : bm = Value.ref CA :: PySem.HandSPX.veTail) : ErrK K x C CA :=
  ⟨a, kc, tC, ic, eC, ⟨ga, gg, eC, hC⟩, ⟨ic, ha, hn, ht, hm⟩, fun b => by
    subst v
    show PySem.W.mroIn K C b = _
    unfold PySem.W.mroIn PySem.W.clsIn
    rw [xc]
    rfl⟩
/-- .. with its own __init__ -/
structure ErrN (K : PySem.W.Frag) (qual : Str) (C f : Addr) (st : Stmt) (ns : List Str) : Prop where
  o : OexC K C
  i : PySem.W.findIn K (.ref C) "__init__" = some (some (.ref f))
  t : PySem.W.typeIn K (.ref f) = some (.type "function")
  F : ∃ fd, Fun K "__init__" qual st f fd
  n : ∀ n ∈ ns, PySem.W.findIn K (.ref C) n = some none
theorem errN_mk {K : PySem.W.Frag} {qual : Str} {C f : Addr} {st : Stmt} {ns : List Str} {od an : Option Addr} {sl : Array (Option Value)} {oc kV dc pm cd ct : Value} {nm q : Str} {N : Addr} {bs bm : List Value} {sn : List Str} {sub : List Value} {ab : Bool} {col : Option Bool} {dd : Option Addr} {m0 m1 m2 m3 m5 : Option Value}
    (i : PySem.W.findIn K (.ref C) "__init__" = some (some (.ref f)))
    (l : K.lookup f = some ⟨oc, od, .func (PySem.W.fnOf "__init__" qual (defArgs st) (defBody st) (defScope st) .none kV dc pm an cd ct), sl⟩) (c : PySem.W.codeIn K cd qual = true) (k : PySem.W.keepIn K (.ref f) = true)
    (kc : PySem.W.keepIn K (.ref C) = true) (sa : PySem.W.findIn K (.ref C) "__setattr__" = some (some (.builtin "object.__setattr__")))
    (xc : K.lookup C = some (excClassObj nm q C N bs bm true sn sub ab col dd m0 m1 m2 m3 m5 "ValueError.__new__")) (v : PySem.HandSPX.refsVE bm = true)
    (eC : PySem.W.subIn K (.ref C) (.type "BaseException") = some true) (tC : PySem.W.typeIn K (.ref C) = some (.type "type")) (tf : PySem.W.typeIn K (.ref f) = some (.type "function"))
    (n : ∀ n ∈ ns, PySem.W.findIn K (.ref C) n = some none) : ErrN K qual C f st ns :=
  ⟨⟨⟨_, _, _, _, _, _, _, _, _, _, _, _, _, _, _, xc, v⟩, sa, eC, tC, kc⟩, i, tf, ⟨_, fun_mk l c k⟩, n⟩
theorem n_one {K : PySem.W.Frag} {C : Addr} {x : Str} (h : PySem.W.findIn K (.ref C) x = some none) : ∀ n ∈ [x], PySem.W.findIn K (.ref C) n = some none := fun n hn => by
  rw [List.mem_singleton] at hn
  rw [hn]
  exact h
theorem n_cons {K : PySem.W.Frag} {C : Addr} {x : Str} {xs : List Str} (h : PySem.W.findIn K (.ref C) x = some none) (g : ∀ n ∈ xs, PySem.W.findIn K (.ref C) n = some none) : ∀ n ∈ x :: xs, PySem.W.findIn K (.ref C) n = some none := fun n hn => by
  rcases List.mem_cons.mp hn with e | e
  · rw [e]; exact h
  · exact g n e
theorem kit_at {K : PySem.W.Frag} {x y : Str} {C D CA : Addr} {b : Bool} (h : ErrK K x C CA) (g : ErrK K y D CA) (n : D ≠ CA) (hb : b = decide (D = C)) : PySem.W.kitOne K (.ref C) (.ref D) = some b := by
  have e2 : ((PySem.W.clsIn K D).isSome && PySem.W.typeIn K (.ref D) == some (.type "type")) = true := by
    have h2' : (PySem.W.clsIn K D).isSome = true := g.ic
    rw [h2', g.tC] <;> rfl
  unfold PySem.W.kitOne
  by_cases q : D = C
  · subst q
    rw [if_pos (by simp), hb, decide_eq_true rfl]
  · rw [if_neg (fun z => q (Value.ref.inj (beq_iff_eq.mp z)).symm), hb, decide_eq_false q]
    show (if ((PySem.W.clsIn K D).isSome && PySem.W.typeIn K (.ref D) == some (.type "type")) = true then PySem.W.subIn K (.ref C) (.ref D) else none) = some false
    rw [if_pos e2, h.mro]
    refine congrArg some ?_
    rw [List.contains_cons, List.contains_cons]
    have q1 : (Value.ref D == Value.ref C) = false := Bool.eq_false_iff.mpr fun z => q (Value.ref.inj (beq_iff_eq.mp z))
    have q2 : (Value.ref D == Value.ref CA) = false := Bool.eq_false_iff.mpr fun z => n (Value.ref.inj (beq_iff_eq.mp z))
    rw [q1, q2]
    first | rfl | simp [PySem.HandSPX.veTail]
theorem kit_asks {K : PySem.W.Frag} {x : Str} {C CA : Addr} (h : ErrK K x C CA) (n : C ≠ CA) (ic : PySem.W.isClsIn K CA = true) (tc : PySem.W.typeIn K (.ref CA) = some (.type "type")) : PySem.W.kitOne K (.ref C) (.ref CA) = some true := by
  have e2 : ((PySem.W.clsIn K CA).isSome && PySem.W.typeIn K (.ref CA) == some (.type "type")) = true := by
    have h2' : (PySem.W.clsIn K CA).isSome = true := ic
    rw [h2', tc] <;> rfl
  unfold PySem.W.kitOne
  rw [if_neg (fun z => n (Value.ref.inj (beq_iff_eq.mp z)))]
  show (if ((PySem.W.clsIn K CA).isSome && PySem.W.typeIn K (.ref CA) == some (.type "type")) = true then PySem.W.subIn K (.ref C) (.ref CA) else none) = some true
  rw [if_pos e2, h.mro]
  refine congrArg some ?_
  rw [List.contains_cons, List.contains_cons]
  simp
theorem kit_bltn {K : PySem.W.Frag} {x : Str} {C CA : Addr} {T : String} {b : Bool} (h : ErrK K x C CA) (k : PySem.W.kitMeta T = true) (e : PySem.HandSPX.veTail.contains (.type T) = b) : PySem.W.kitOne K (.ref C) (.type T) = some b := by
  unfold PySem.W.kitOne PySem.W.kitCls
  rw [if_neg (by simp)]
  show (if PySem.W.kitMeta T = true then PySem.W.subIn K (.ref C) (.type T) else none) = some b
  rw [if_pos k, h.mro]
  refine congrArg some ?_
  have q1 : (Value.type T == Value.ref C) = false := Bool.eq_false_iff.mpr fun z => by have := beq_iff_eq.mp z; cases this
  have q2 : (Value.type T == Value.ref CA) = false := Bool.eq_false_iff.mpr fun z => by have := beq_iff_eq.mp z; cases this
  rw [List.contains_cons, List.contains_cons, e, q1, q2]
  rfl
theorem all_mk {P : Program} {w : World} {K : PySem.W.Frag} {h : Heap} {mg : Str → Option Value} {fa : Addr} (X : K.In h) (G : h.Ns mainGlobals mg) (hfa : mg "law" = some (.ref fa))
    {f1 : Addr} {od1 an1 : Option Addr} {sl1 : Array (Option Value)} {oc1 kV1 dc1 pm1 cd1 ct1 : Value}
    {f3 : Addr} {od3 an3 : Option Addr} {sl3 : Array (Option Value)} {oc3 kV3 dc3 pm3 cd3 ct3 : Value}
    {f4 : Addr} {od4 an4 : Option Addr} {sl4 : Array (Option Value)} {oc4 kV4 dc4 pm4 cd4 ct4 : Value}
    {f5 : Addr} {od5 an5 : Option Addr} {sl5 : Array (Option Value)} {oc5 kV5 dc5 pm5 cd5 ct5 : Value}
    {f6 : Addr} {od6 an6 : Option Addr} {sl6 : Array (Option Value)} {oc6 kV6 dc6 pm6 cd6 ct6 : Value}
    {fg : Addr} {odg ang : Option Addr} {slg : Array (Option Value)} {ocg kVg dcg pmg cdg ctg : Value}
    {fv : Addr} {odv anv : Option Addr} {slv : Array (Option Value)} {ocv kVv dcv pmv cdv ctv : Value}
    {ff : Addr} {odf anf : Option Addr} {slf : Array (Option Value)} {ocf kVf dcf pmf cdf ctf : Value}
    {fk : Addr} {odk ank : Option Addr} {slk : Array (Option Value)} {ock kVk dck pmk cdk ctk : Value}
    {fi : Addr} {odi ani : Option Addr} {sli : Array (Option Value)} {oci kVi dci pmi cdi cti : Value}
    {fp : Addr} {odp anp : Option Addr} {slp : Array (Option Value)} {ocp kVp dcp pmp cdp ctp : Value}
    {fo : Addr} {odo ano : Option Addr} {slo : Array (Option Value)} {oco kVo dco pmo cdo cto : Value}
    {f9 : Addr} {od9 an9 : Option Addr} {sl9 : Array (Option Value)} {oc9 kV9 dc9 pm9 cd9 ct9 : Value}
    {CA : Addr} {C0 : Addr} {C1 : Addr} {C2 : Addr} {C3 : Addr} {C4 : Addr} {C5 : Addr} {C6 : Addr} {C7 : Addr} {C8 : Addr} {C9 : Addr} {C10 : Addr} {C11 : Addr} {C12 : Addr} {C13 : Addr} {C14 : Addr} {C15 : Addr} {C16 : Addr} {C17 : Addr} {C18 : Addr} {C19 : Addr} {C20 : Addr} {C21 : Addr} {C22 : Addr} {C23 : Addr} {C24 : Addr} {C25 : Addr} {C26 : Addr} {C27 : Addr} {C28 : Addr} {C29 : Addr} {C30 : Addr} {C31 : Addr} {C32 : Addr} {C33 : Addr} {C34 : Addr} {C35 : Addr} {C36 : Addr} {C37 : Addr} {C38 : Addr} {C39 : Addr} {e0 : Addr} {e1 : Addr} {e3 : Addr} {e4 : Addr} {e5 : Addr} {e8 : Addr} {e9 : Addr} {e10 : Addr} {e11 : Addr} {e13 : Addr} {e14 : Addr} {e15 : Addr} {e16 : Addr} {e17 : Addr} {e18 : Addr} {e19 : Addr} {e20 : Addr} {e21 : Addr} {e22 : Addr} {e23 : Addr} {e24 : Addr} {e25 : Addr} {e26 : Addr} {e27 : Addr} {e28 : Addr} {e32 : Addr} {e33 : Addr} {e34 : Addr} {e36 : Addr} {e37 : Addr} {e38 : Addr}
    (hn : PySem.W.specialIn K (.builtin "object.__class__") "__get__" = some (some (.builtin "getset_descriptor.__get__")))
    (ht : PySem.W.takesIn K (.builtin "object.__class__") = some true)
    (a1 : PySem.W.nsIn K mainGlobals "copied" = some (some (.ref f1)))
    (l1 : K.lookup f1 = some ⟨oc1, od1, .func (PySem.W.fnOf "copied" "copied" (defArgs s_copied) (defBody s_copied) (defScope s_copied) .none kV1 dc1 pm1 an1 cd1 ct1), sl1⟩)
    (c1 : PySem.W.codeIn K cd1 "copied" = true)
    (k1 : PySem.W.keepIn K (.ref f1) = true)
    (a3 : PySem.W.nsIn K mainGlobals "_law_pen" = some (some (.ref f3)))
    (l3 : K.lookup f3 = some ⟨oc3, od3, .func (PySem.W.fnOf "_law_pen" "_law_pen" (defArgs s__law_pen) (defBody s__law_pen) (defScope s__law_pen) .none kV3 dc3 pm3 an3 cd3 ct3), sl3⟩)
    (c3 : PySem.W.codeIn K cd3 "_law_pen" = true)
    (k3 : PySem.W.keepIn K (.ref f3) = true)
    (a4 : PySem.W.nsIn K mainGlobals "_law_draw" = some (some (.ref f4)))
    (l4 : K.lookup f4 = some ⟨oc4, od4, .func (PySem.W.fnOf "_law_draw" "_law_draw" (defArgs s__law_draw) (defBody s__law_draw) (defScope s__law_draw) .none kV4 dc4 pm4 an4 cd4 ct4), sl4⟩)
    (c4 : PySem.W.codeIn K cd4 "_law_draw" = true)
    (k4 : PySem.W.keepIn K (.ref f4) = true)
    (a5 : PySem.W.nsIn K mainGlobals "_law_pick" = some (some (.ref f5)))
    (l5 : K.lookup f5 = some ⟨oc5, od5, .func (PySem.W.fnOf "_law_pick" "_law_pick" (defArgs s__law_pick) (defBody s__law_pick) (defScope s__law_pick) .none kV5 dc5 pm5 an5 cd5 ct5), sl5⟩)
    (c5 : PySem.W.codeIn K cd5 "_law_pick" = true)
    (k5 : PySem.W.keepIn K (.ref f5) = true)
    (a6 : PySem.W.nsIn K mainGlobals "_law_letters" = some (some (.ref f6)))
    (l6 : K.lookup f6 = some ⟨oc6, od6, .func (PySem.W.fnOf "_law_letters" "_law_letters" (defArgs s__law_letters) (defBody s__law_letters) (defScope s__law_letters) .none kV6 dc6 pm6 an6 cd6 ct6), sl6⟩)
    (c6 : PySem.W.codeIn K cd6 "_law_letters" = true)
    (k6 : PySem.W.keepIn K (.ref f6) = true)
    (ag : PySem.W.nsIn K mainGlobals "_law_great" = some (some (.ref fg)))
    (lg : K.lookup fg = some ⟨ocg, odg, .func (PySem.W.fnOf "_law_great" "_law_great" (defArgs s__law_great) (defBody s__law_great) (defScope s__law_great) .none kVg dcg pmg ang cdg ctg), slg⟩)
    (cg : PySem.W.codeIn K cdg "_law_great" = true)
    (kg : PySem.W.keepIn K (.ref fg) = true)
    (av : PySem.W.nsIn K mainGlobals "_law_value" = some (some (.ref fv)))
    (lv : K.lookup fv = some ⟨ocv, odv, .func (PySem.W.fnOf "_law_value" "_law_value" (defArgs s__law_value) (defBody s__law_value) (defScope s__law_value) .none kVv dcv pmv anv cdv ctv), slv⟩)
    (cv : PySem.W.codeIn K cdv "_law_value" = true)
    (kv : PySem.W.keepIn K (.ref fv) = true)
    (af : PySem.W.nsIn K mainGlobals "_law_first_kinds" = some (some (.ref ff)))
    (lf : K.lookup ff = some ⟨ocf, odf, .func (PySem.W.fnOf "_law_first_kinds" "_law_first_kinds" (defArgs s_first) (defBody s_first) (defScope s_first) .none kVf dcf pmf anf cdf ctf), slf⟩)
    (cf : PySem.W.codeIn K cdf "_law_first_kinds" = true)
    (kf : PySem.W.keepIn K (.ref ff) = true)
    (ak : PySem.W.nsIn K mainGlobals "_law_kinds" = some (some (.ref fk)))
    (lk : K.lookup fk = some ⟨ock, odk, .func (PySem.W.fnOf "_law_kinds" "_law_kinds" (defArgs s_kinds) (defBody s_kinds) (defScope s_kinds) .none kVk dck pmk ank cdk ctk), slk⟩)
    (ck : PySem.W.codeIn K cdk "_law_kinds" = true)
    (kk : PySem.W.keepIn K (.ref fk) = true)
    (ai : PySem.W.nsIn K mainGlobals "_law_indexed" = some (some (.ref fi)))
    (li : K.lookup fi = some ⟨oci, odi, .func (PySem.W.fnOf "_law_indexed" "_law_indexed" (defArgs s_indexed) (defBody s_indexed) (defScope s_indexed) .none kVi dci pmi ani cdi cti), sli⟩)
    (ci : PySem.W.codeIn K cdi "_law_indexed" = true)
    (ki : PySem.W.keepIn K (.ref fi) = true)
    (ap : PySem.W.nsIn K mainGlobals "_law_places" = some (some (.ref fp)))
    (lp : K.lookup fp = some ⟨ocp, odp, .func (PySem.W.fnOf "_law_places" "_law_places" (defArgs s_places) (defBody s_places) (defScope s_places) .none kVp dcp pmp anp cdp ctp), slp⟩)
    (cp : PySem.W.codeIn K cdp "_law_places" = true)
    (kp : PySem.W.keepIn K (.ref fp) = true)
    (ao : PySem.W.nsIn K mainGlobals "_law_others" = some (some (.ref fo)))
    (lo : K.lookup fo = some ⟨oco, odo, .func (PySem.W.fnOf "_law_others" "_law_others" (defArgs s_others) (defBody s_others) (defScope s_others) .none kVo dco pmo ano cdo cto), slo⟩)
    (co : PySem.W.codeIn K cdo "_law_others" = true)
    (ko : PySem.W.keepIn K (.ref fo) = true)
    (a9 : PySem.W.nsIn K mainGlobals "law" = some (some (.ref f9)))
    (l9 : K.lookup f9 = some ⟨oc9, od9, .func (PySem.W.fnOf "law" "law" (defArgs s_law) (defBody s_law) (defScope s_law) .none kV9 dc9 pm9 an9 cd9 ct9), sl9⟩)
    (c9 : PySem.W.codeIn K cd9 "law" = true)
    (k9 : PySem.W.keepIn K (.ref f9) = true)
    (aA : PySem.W.nsIn K mainGlobals "AsksError" = some (some (.ref CA)))
    (icA : PySem.W.isClsIn K CA = true)
    (tcA : PySem.W.typeIn K (.ref CA) = some (.type "type"))
    (hK0 : ErrK K "BadLetters" C0 CA)
    (hN0 : ErrN K "BadLetters.__init__" C0 e0 s_BadLetters_init ["index"])
    (hK1 : ErrK K "BadLetter" C1 CA)
    (hN1 : ErrN K "BadLetter.__init__" C1 e1 s_BadLetter_init ["index"])
    (hK2 : ErrK K "BadBeginning" C2 CA)
    (ex2 : PySem.W.excIn K C2 [Value.type "ValueError", Value.type "Exception", Value.type "BaseException", Value.type "object"] "ValueError.__new__" = true)
    (hK3 : ErrK K "BadRuns" C3 CA)
    (hN3 : ErrN K "BadRuns.__init__" C3 e3 s_BadRuns_init ["index"])
    (hK4 : ErrK K "BadCount" C4 CA)
    (hN4 : ErrN K "BadCount.__init__" C4 e4 s_BadCount_init ["index"])
    (hK5 : ErrK K "BadPlace" C5 CA)
    (hN5 : ErrN K "BadPlace.__init__" C5 e5 s_BadPlace_init ["place"])
    (hK6 : ErrK K "BadKind" C6 CA)
    (ex6 : PySem.W.excIn K C6 [Value.type "ValueError", Value.type "Exception", Value.type "BaseException", Value.type "object"] "ValueError.__new__" = true)
    (hK7 : ErrK K "SaysNothing" C7 CA)
    (ex7 : PySem.W.excIn K C7 [Value.type "ValueError", Value.type "Exception", Value.type "BaseException", Value.type "object"] "ValueError.__new__" = true)
    (hK8 : ErrK K "BadAnswers" C8 CA)
    (hN8 : ErrN K "BadAnswers.__init__" C8 e8 s_BadAnswers_init ["index"])
    (hK9 : ErrK K "BadTold" C9 CA)
    (hN9 : ErrN K "BadTold.__init__" C9 e9 s_BadTold_init ["index"])
    (hK10 : ErrK K "BadStep" C10 CA)
    (hN10 : ErrN K "BadStep.__init__" C10 e10 s_BadStep_init ["index"])
    (hK11 : ErrK K "NotLive" C11 CA)
    (hN11 : ErrN K "NotLive.__init__" C11 e11 s_NotLive_init ["index"])
    (hK12 : ErrK K "OtherLetters" C12 CA)
    (ex12 : PySem.W.excIn K C12 [Value.type "ValueError", Value.type "Exception", Value.type "BaseException", Value.type "object"] "ValueError.__new__" = true)
    (hK13 : ErrK K "TooLong" C13 CA)
    (hN13 : ErrN K "TooLong.__init__" C13 e13 s_TooLong_init ["size"])
    (hK14 : ErrK K "TooMany" C14 CA)
    (hN14 : ErrN K "TooMany.__init__" C14 e14 s_TooMany_init ["what", "many", "most"])
    (hK15 : ErrK K "BadRow" C15 CA)
    (hN15 : ErrN K "BadRow.__init__" C15 e15 s_BadRow_init ["index"])
    (hK16 : ErrK K "TwiceTold" C16 CA)
    (hN16 : ErrN K "TwiceTold.__init__" C16 e16 s_TwiceTold_init ["index"])
    (hK17 : ErrK K "BadEnd" C17 CA)
    (hN17 : ErrN K "BadEnd.__init__" C17 e17 s_BadEnd_init ["index"])
    (hK18 : ErrK K "BadNumber" C18 CA)
    (hN18 : ErrN K "BadNumber.__init__" C18 e18 s_BadNumber_init ["number"])
    (hK19 : ErrK K "BadMenu" C19 CA)
    (hN19 : ErrN K "BadMenu.__init__" C19 e19 s_BadMenu_init ["index"])
    (hK20 : ErrK K "BadState" C20 CA)
    (hN20 : ErrN K "BadState.__init__" C20 e20 s_BadState_init ["index"])
    (hK21 : ErrK K "Uneven" C21 CA)
    (hN21 : ErrN K "Uneven.__init__" C21 e21 s_Uneven_init ["have", "want"])
    (hK22 : ErrK K "BadTop" C22 CA)
    (hN22 : ErrN K "BadTop.__init__" C22 e22 s_BadTop_init ["top"])
    (hK23 : ErrK K "BadWord" C23 CA)
    (hN23 : ErrN K "BadWord.__init__" C23 e23 s_BadWord_init ["which", "index"])
    (hK24 : ErrK K "BadStand" C24 CA)
    (hN24 : ErrN K "BadStand.__init__" C24 e24 s_BadStand_init ["stand"])
    (hK25 : ErrK K "BadSpecial" C25 CA)
    (hN25 : ErrN K "BadSpecial.__init__" C25 e25 s_BadSpecial_init ["index"])
    (hK26 : ErrK K "BadName" C26 CA)
    (hN26 : ErrN K "BadName.__init__" C26 e26 s_BadName_init ["name"])
    (hK27 : ErrK K "Unknown" C27 CA)
    (hN27 : ErrN K "Unknown.__init__" C27 e27 s_Unknown_init ["name"])
    (hK28 : ErrK K "Known" C28 CA)
    (hN28 : ErrN K "Known.__init__" C28 e28 s_Known_init ["name"])
    (hK29 : ErrK K "Impossible" C29 CA)
    (ex29 : PySem.W.excIn K C29 [Value.type "ValueError", Value.type "Exception", Value.type "BaseException", Value.type "object"] "ValueError.__new__" = true)
    (hK30 : ErrK K "Unfair" C30 CA)
    (ex30 : PySem.W.excIn K C30 [Value.type "ValueError", Value.type "Exception", Value.type "BaseException", Value.type "object"] "ValueError.__new__" = true)
    (hK31 : ErrK K "NoFact" C31 CA)
    (ex31 : PySem.W.excIn K C31 [Value.type "ValueError", Value.type "Exception", Value.type "BaseException", Value.type "object"] "ValueError.__new__" = true)
    (hK32 : ErrK K "BadDeeds" C32 CA)
    (hN32 : ErrN K "BadDeeds.__init__" C32 e32 s_BadDeeds_init ["index"])
    (hK33 : ErrK K "BadAsks" C33 CA)
    (hN33 : ErrN K "BadAsks.__init__" C33 e33 s_BadAsks_init ["index"])
    (hK34 : ErrK K "BadProgram" C34 CA)
    (hN34 : ErrN K "BadProgram.__init__" C34 e34 s_BadProgram_init ["ask"])
    (hK35 : ErrK K "OtherDeeds" C35 CA)
    (ex35 : PySem.W.excIn K C35 [Value.type "ValueError", Value.type "Exception", Value.type "BaseException", Value.type "object"] "ValueError.__new__" = true)
    (hK36 : ErrK K "BadText" C36 CA)
    (hN36 : ErrN K "BadText.__init__" C36 e36 s_BadText_init ["line", "place"])
    (hK37 : ErrK K "Refused" C37 CA)
    (hN37 : ErrN K "Refused.__init__" C37 e37 s_Refused_init ["ask", "name"])
    (hK38 : ErrK K "Overasked" C38 CA)
    (hN38 : ErrN K "Overasked.__init__" C38 e38 s_Overasked_init ["name"])
    (hK39 : ErrK K "NothingLeft" C39 CA)
    (ex39 : PySem.W.excIn K C39 [Value.type "ValueError", Value.type "Exception", Value.type "BaseException", Value.type "object"] "ValueError.__new__" = true)
    (nd : ([C0, C1, C2, C3, C4, C5, C6, C7, C8, C9, C10, C11, C12, C13, C14, C15, C16, C17, C18, C19, C20, C21, C22, C23, C24, C25, C26, C27, C28, C29, C30, C31, C32, C33, C34, C35, C36, C37, C38, C39, CA] : List Addr).Nodup)
    (z0 : PySem.W.nsIn K mainGlobals "int" = some none)
    (z1 : PySem.W.nsIn K mainGlobals "len" = some none)
    (z2 : PySem.W.nsIn K mainGlobals "abs" = some none)
    (z3 : PySem.W.nsIn K mainGlobals "list" = some none)
    (z4 : PySem.W.nsIn K mainGlobals "range" = some none)
    (z5 : PySem.W.nsIn K mainGlobals "min" = some none)
    (z6 : PySem.W.nsIn K mainGlobals "str" = some none)
    (z7 : PySem.W.nsIn K mainGlobals "isinstance" = some none)
    (z8 : PySem.W.nsIn K mainGlobals "all" = some none)
    (z9 : PySem.W.nsIn K mainGlobals "enumerate" = some none)
    (z10 : PySem.W.nsIn K mainGlobals "tuple" = some none)
    (z11 : PySem.W.nsIn K mainGlobals "repr" = some none)
    (z12 : PySem.W.nsIn K mainGlobals "dict" = some none)
    (z13 : PySem.W.nsIn K mainGlobals "sum" = some none)
    (z14 : PySem.W.nsIn K mainGlobals "sorted" = some none)
    (z15 : PySem.W.nsIn K mainGlobals "ValueError" = some none)
    (z16 : PySem.W.nsIn K mainGlobals "LookupError" = some none)
    (z17 : PySem.W.nsIn K mainGlobals "ArithmeticError" = some none)
    (base : Heap) (kb : K.In base) (gb : base.Ns mainGlobals mg) (s₁ : Shared) (H : Hp) (a : Addr) (ns : List Int) (e0 : Env0 P w K mg base callerA [] s₁ H) (hS : SqL K H a (ns.map V.int)) (hl : ns.length ≤ 63) :
    codeAny (model P w) callerA (.call (.ref fa) ⟨[.ref a], []⟩) (CR CX0 [] P w H s₁ (fun v _ => v = .bl true) E0) s₁ := by
  have e := hfa.symm.trans (PySem.W.mg_of X G a9)
  cases e
  have T : Blt mg := ⟨PySem.W.mg_none_of X G z0, PySem.W.mg_none_of X G z1, PySem.W.mg_none_of X G z2, PySem.W.mg_none_of X G z3, PySem.W.mg_none_of X G z4, PySem.W.mg_none_of X G z5, PySem.W.mg_none_of X G z6, PySem.W.mg_none_of X G z7, PySem.W.mg_none_of X G z8, PySem.W.mg_none_of X G z9, PySem.W.mg_none_of X G z10, PySem.W.mg_none_of X G z11⟩
  have F1 := fun_mk (st := s_copied) l1 c1 k1
  have b1 := F1.binds (ps := ["value"]) fun _ _ _ _ _ _ us hl => match us, hl with | [_], _ => rfl
  have A1 : At K mg "copied" f1 _ ["value"] := ⟨PySem.W.mg_of X G a1, k1, b1⟩
  have F3 := fun_mk (st := s__law_pen) l3 c3 k3
  have b3 := F3.binds (ps := ["_law_script"]) fun _ _ _ _ _ _ us hl => match us, hl with | [_], _ => rfl
  have A3 : At K mg "_law_pen" f3 _ ["_law_script"] := ⟨PySem.W.mg_of X G a3, k3, b3⟩
  have F4 := fun_mk (st := s__law_draw) l4 c4 k4
  have b4 := F4.binds (ps := ["_law_pen_here", "_law_many"]) fun _ _ _ _ _ _ us hl => match us, hl with | [_, _], _ => rfl
  have A4 : At K mg "_law_draw" f4 _ ["_law_pen_here", "_law_many"] := ⟨PySem.W.mg_of X G a4, k4, b4⟩
  have F5 := fun_mk (st := s__law_pick) l5 c5 k5
  have b5 := F5.binds (ps := ["_law_pen_here", "_law_options"]) fun _ _ _ _ _ _ us hl => match us, hl with | [_, _], _ => rfl
  have A5 : At K mg "_law_pick" f5 _ ["_law_pen_here", "_law_options"] := ⟨PySem.W.mg_of X G a5, k5, b5⟩
  have F6 := fun_mk (st := s__law_letters) l6 c6 k6
  have b6 := F6.binds (ps := ["_law_pen_here", "_law_many"]) fun _ _ _ _ _ _ us hl => match us, hl with | [_, _], _ => rfl
  have A6 : At K mg "_law_letters" f6 _ ["_law_pen_here", "_law_many"] := ⟨PySem.W.mg_of X G a6, k6, b6⟩
  have Fg := fun_mk (st := s__law_great) lg cg kg
  have bg := Fg.binds (ps := ["_law_pen_here"]) fun _ _ _ _ _ _ us hl => match us, hl with | [_], _ => rfl
  have Ag : At K mg "_law_great" fg _ ["_law_pen_here"] := ⟨PySem.W.mg_of X G ag, kg, bg⟩
  have Fv := fun_mk (st := s__law_value) lv cv kv
  have bv := Fv.binds (ps := ["_law_pen_here"]) fun _ _ _ _ _ _ us hl => match us, hl with | [_], _ => rfl
  have Av : At K mg "_law_value" fv _ ["_law_pen_here"] := ⟨PySem.W.mg_of X G av, kv, bv⟩
  have Ff := fun_mk (st := s_first) lf cf kf
  have bf := Ff.binds (ps := ["_law_e"]) fun _ _ _ _ _ _ us hl => match us, hl with | [_], _ => rfl
  have Af : At K mg "_law_first_kinds" ff _ ["_law_e"] := ⟨PySem.W.mg_of X G af, kf, bf⟩
  have Fk := fun_mk (st := s_kinds) lk ck kk
  have bk := Fk.binds (ps := ["_law_e"]) fun _ _ _ _ _ _ us hl => match us, hl with | [_], _ => rfl
  have Ak : At K mg "_law_kinds" fk _ ["_law_e"] := ⟨PySem.W.mg_of X G ak, kk, bk⟩
  have Fi := fun_mk (st := s_indexed) li ci ki
  have bi := Fi.binds (ps := ["_law_one"]) fun _ _ _ _ _ _ us hl => match us, hl with | [_], _ => rfl
  have Ai : At K mg "_law_indexed" fi _ ["_law_one"] := ⟨PySem.W.mg_of X G ai, ki, bi⟩
  have Fp := fun_mk (st := s_places) lp cp kp
  have bp := Fp.binds (ps := []) fun _ _ _ _ _ _ us hl => match us, hl with | [], _ => rfl
  have Ap : At K mg "_law_places" fp _ [] := ⟨PySem.W.mg_of X G ap, kp, bp⟩
  have Fo := fun_mk (st := s_others) lo co ko
  have bo := Fo.binds (ps := ["_law_a", "_law_b", "_law_c", "_law_d"]) fun _ _ _ _ _ _ us hl => match us, hl with | [_, _, _, _], _ => rfl
  have Ao : At K mg "_law_others" fo _ ["_law_a", "_law_b", "_law_c", "_law_d"] := ⟨PySem.W.mg_of X G ao, ko, bo⟩
  have F9 := fun_mk (st := s_law) l9 c9 k9
  have nD := PySem.W.mg_none_of X G z12
  obtain ⟨cA, ecA⟩ : ∃ cA : Nat → Addr, cA = fun j => ([C0, C1, C2, C3, C4, C5, C6, C7, C8, C9, C10, C11, C12, C13, C14, C15, C16, C17, C18, C19, C20, C21, C22, C23, C24, C25, C26, C27, C28, C29, C30, C31, C32, C33, C34, C35, C36, C37, C38, C39] : List Addr).getD j 0 := ⟨_, rfl⟩
  have c0' : cA 0 = C0 := by rw [ecA]; rfl
  have c1' : cA 1 = C1 := by rw [ecA]; rfl
  have c2' : cA 2 = C2 := by rw [ecA]; rfl
  have c3' : cA 3 = C3 := by rw [ecA]; rfl
  have c4' : cA 4 = C4 := by rw [ecA]; rfl
  have c5' : cA 5 = C5 := by rw [ecA]; rfl
  have c6' : cA 6 = C6 := by rw [ecA]; rfl
  have c7' : cA 7 = C7 := by rw [ecA]; rfl
  have c8' : cA 8 = C8 := by rw [ecA]; rfl
  have c9' : cA 9 = C9 := by rw [ecA]; rfl
  have c10' : cA 10 = C10 := by rw [ecA]; rfl
  have c11' : cA 11 = C11 := by rw [ecA]; rfl
  have c12' : cA 12 = C12 := by rw [ecA]; rfl
  have c13' : cA 13 = C13 := by rw [ecA]; rfl
  have c14' : cA 14 = C14 := by rw [ecA]; rfl
  have c15' : cA 15 = C15 := by rw [ecA]; rfl
  have c16' : cA 16 = C16 := by rw [ecA]; rfl
  have c17' : cA 17 = C17 := by rw [ecA]; rfl
  have c18' : cA 18 = C18 := by rw [ecA]; rfl
  have c19' : cA 19 = C19 := by rw [ecA]; rfl
  have c20' : cA 20 = C20 := by rw [ecA]; rfl
  have c21' : cA 21 = C21 := by rw [ecA]; rfl
  have c22' : cA 22 = C22 := by rw [ecA]; rfl
  have c23' : cA 23 = C23 := by rw [ecA]; rfl
  have c24' : cA 24 = C24 := by rw [ecA]; rfl
  have c25' : cA 25 = C25 := by rw [ecA]; rfl
  have c26' : cA 26 = C26 := by rw [ecA]; rfl
  have c27' : cA 27 = C27 := by rw [ecA]; rfl
  have c28' : cA 28 = C28 := by rw [ecA]; rfl
  have c29' : cA 29 = C29 := by rw [ecA]; rfl
  have c30' : cA 30 = C30 := by rw [ecA]; rfl
  have c31' : cA 31 = C31 := by rw [ecA]; rfl
  have c32' : cA 32 = C32 := by rw [ecA]; rfl
  have c33' : cA 33 = C33 := by rw [ecA]; rfl
  have c34' : cA 34 = C34 := by rw [ecA]; rfl
  have c35' : cA 35 = C35 := by rw [ecA]; rfl
  have c36' : cA 36 = C36 := by rw [ecA]; rfl
  have c37' : cA 37 = C37 := by rw [ecA]; rfl
  have c38' : cA 38 = C38 := by rw [ecA]; rfl
  have c39' : cA 39 = C39 := by rw [ecA]; rfl
  have hall : ∀ j, j < 40 → ErrK K (nmE j) (cA j) CA := by
    intro j hj
    match j, hj with
    | 0, _ => rw [c0']; exact hK0
    | 1, _ => rw [c1']; exact hK1
    | 2, _ => rw [c2']; exact hK2
    | 3, _ => rw [c3']; exact hK3
    | 4, _ => rw [c4']; exact hK4
    | 5, _ => rw [c5']; exact hK5
    | 6, _ => rw [c6']; exact hK6
    | 7, _ => rw [c7']; exact hK7
    | 8, _ => rw [c8']; exact hK8
    | 9, _ => rw [c9']; exact hK9
    | 10, _ => rw [c10']; exact hK10
    | 11, _ => rw [c11']; exact hK11
    | 12, _ => rw [c12']; exact hK12
    | 13, _ => rw [c13']; exact hK13
    | 14, _ => rw [c14']; exact hK14
    | 15, _ => rw [c15']; exact hK15
    | 16, _ => rw [c16']; exact hK16
    | 17, _ => rw [c17']; exact hK17
    | 18, _ => rw [c18']; exact hK18
    | 19, _ => rw [c19']; exact hK19
    | 20, _ => rw [c20']; exact hK20
    | 21, _ => rw [c21']; exact hK21
    | 22, _ => rw [c22']; exact hK22
    | 23, _ => rw [c23']; exact hK23
    | 24, _ => rw [c24']; exact hK24
    | 25, _ => rw [c25']; exact hK25
    | 26, _ => rw [c26']; exact hK26
    | 27, _ => rw [c27']; exact hK27
    | 28, _ => rw [c28']; exact hK28
    | 29, _ => rw [c29']; exact hK29
    | 30, _ => rw [c30']; exact hK30
    | 31, _ => rw [c31']; exact hK31
    | 32, _ => rw [c32']; exact hK32
    | 33, _ => rw [c33']; exact hK33
    | 34, _ => rw [c34']; exact hK34
    | 35, _ => rw [c35']; exact hK35
    | 36, _ => rw [c36']; exact hK36
    | 37, _ => rw [c37']; exact hK37
    | 38, _ => rw [c38']; exact hK38
    | 39, _ => rw [c39']; exact hK39
    | n + 40, h => exact absurd h (by omega)
  have hat : ∀ j, j < 40 → ([C0, C1, C2, C3, C4, C5, C6, C7, C8, C9, C10, C11, C12, C13, C14, C15, C16, C17, C18, C19, C20, C21, C22, C23, C24, C25, C26, C27, C28, C29, C30, C31, C32, C33, C34, C35, C36, C37, C38, C39, CA] : List Addr)[j]? = some (cA j) := by
    intro j hj
    match j, hj with
    | 0, _ => rw [c0']; rfl
    | 1, _ => rw [c1']; rfl
    | 2, _ => rw [c2']; rfl
    | 3, _ => rw [c3']; rfl
    | 4, _ => rw [c4']; rfl
    | 5, _ => rw [c5']; rfl
    | 6, _ => rw [c6']; rfl
    | 7, _ => rw [c7']; rfl
    | 8, _ => rw [c8']; rfl
    | 9, _ => rw [c9']; rfl
    | 10, _ => rw [c10']; rfl
    | 11, _ => rw [c11']; rfl
    | 12, _ => rw [c12']; rfl
    | 13, _ => rw [c13']; rfl
    | 14, _ => rw [c14']; rfl
    | 15, _ => rw [c15']; rfl
    | 16, _ => rw [c16']; rfl
    | 17, _ => rw [c17']; rfl
    | 18, _ => rw [c18']; rfl
    | 19, _ => rw [c19']; rfl
    | 20, _ => rw [c20']; rfl
    | 21, _ => rw [c21']; rfl
    | 22, _ => rw [c22']; rfl
    | 23, _ => rw [c23']; rfl
    | 24, _ => rw [c24']; rfl
    | 25, _ => rw [c25']; rfl
    | 26, _ => rw [c26']; rfl
    | 27, _ => rw [c27']; rfl
    | 28, _ => rw [c28']; rfl
    | 29, _ => rw [c29']; rfl
    | 30, _ => rw [c30']; rfl
    | 31, _ => rw [c31']; rfl
    | 32, _ => rw [c32']; rfl
    | 33, _ => rw [c33']; rfl
    | 34, _ => rw [c34']; rfl
    | 35, _ => rw [c35']; rfl
    | 36, _ => rw [c36']; rfl
    | 37, _ => rw [c37']; rfl
    | 38, _ => rw [c38']; rfl
    | 39, _ => rw [c39']; rfl
    | n + 40, h => exact absurd h (by omega)
  have inj : ∀ i j, i < 40 → j < 40 → cA i = cA j → i = j := fun i j hi hj e => (List.getElem?_inj (by show i < 41; omega) nd).mp (by rw [hat i hi, hat j hj, e])
  have nCA : ∀ j, j < 40 → cA j ≠ CA := fun j hj e => by
    have q : j = 40 := (List.getElem?_inj (i := j) (j := 40) (by show j < 41; omega) nd).mp (by rw [hat j hj, e]; rfl)
    omega
  have M : Kinds K mg cA CA := by
    refine ⟨fun j hj => PySem.W.mg_of X G (hall j hj).a, fun i j hi hj => kit_at (hall i hi) (hall j hj) (nCA j hj) ?_, fun j hj => (hall j hj).xf, fun j hj => (hall j hj).xk, PySem.W.mg_of X G aA, fun j hj => kit_asks (hall j hj) (nCA j hj) icA tcA, fun j hj => kit_bltn (hall j hj) (by decide +kernel) (by decide +kernel), fun j hj => kit_bltn (hall j hj) (by decide +kernel) (by decide +kernel), fun j hj => kit_bltn (hall j hj) (by decide +kernel) (by decide +kernel)⟩
    by_cases q : j = i
    · subst q
      rw [decide_eq_true rfl, decide_eq_true rfl]
    · rw [decide_eq_false q, decide_eq_false (fun z => q (inj j i hj hi z))]
  have Gc := ok_copied1 (P := P) (w := w) (base := base) F1 T nD
  have GC := ok_copiedD (P := P) (w := w) (base := base) F1 T nD Gc A1
  have G3 := ok_pen (P := P) (w := w) (base := base) F3 T
  have G4 := ok_draw (P := P) (w := w) (base := base) F4 T
  have G5 := ok_pick (P := P) (w := w) (base := base) F5 T G4 A4
  have G6 := ok_lettersD (P := P) (w := w) (base := base) F6 T G4 A4 G5 A5
  have Gg := ok_great (P := P) (w := w) (base := base) Fg T G4 A4
  have Gv := ok_value (P := P) (w := w) (base := base) Fv G4 A4 Gg Ag
  have Gf := ok_first (P := P) (w := w) (base := base) Ff T M
  have Gk := ok_kinds (P := P) (w := w) (base := base) Fk T M Gf Af
  have Gp := ok_places (P := P) (w := w) (base := base) (mg := mg) Fp
  obtain ⟨fd0, FF0⟩ := hN0.F
  have bb0 := FF0.binds (ps := ["self", "index"]) fun _ _ _ _ _ _ us hl => match us, hl with | [_, _], _ => rfl
  have X0 : MkE P w K mg base "BadLetters" (cA 0) ["index"] := by rw [c0']; exact ⟨⟨_, _, ini_BadLetters FF0 hN0.o (hN0.n _ (by decide)) GC A1, ⟨PySem.W.mg_of X G hK0.a, hN0.o, hN0.i, hN0.t, bb0, hK0.xf⟩⟩, hN0.n⟩
  obtain ⟨fd1, FF1⟩ := hN1.F
  have bb1 := FF1.binds (ps := ["self", "index"]) fun _ _ _ _ _ _ us hl => match us, hl with | [_, _], _ => rfl
  have X1 : MkE P w K mg base "BadLetter" (cA 1) ["index"] := by rw [c1']; exact ⟨⟨_, _, ini_BadLetter FF1 hN1.o (hN1.n _ (by decide)) GC A1, ⟨PySem.W.mg_of X G hK1.a, hN1.o, hN1.i, hN1.t, bb1, hK1.xf⟩⟩, hN1.n⟩
  have Z2 : Err0 K mg "BadBeginning" (cA 2) := by rw [c2']; exact ⟨PySem.W.mg_of X G hK2.a, ex2, hK2.kc, hK2.eC, hK2.tC⟩
  obtain ⟨fd3, FF3⟩ := hN3.F
  have bb3 := FF3.binds (ps := ["self", "index"]) fun _ _ _ _ _ _ us hl => match us, hl with | [_, _], _ => rfl
  have X3 : MkE P w K mg base "BadRuns" (cA 3) ["index"] := by rw [c3']; exact ⟨⟨_, _, ini_BadRuns FF3 hN3.o (hN3.n _ (by decide)) GC A1, ⟨PySem.W.mg_of X G hK3.a, hN3.o, hN3.i, hN3.t, bb3, hK3.xf⟩⟩, hN3.n⟩
  obtain ⟨fd4, FF4⟩ := hN4.F
  have bb4 := FF4.binds (ps := ["self", "index"]) fun _ _ _ _ _ _ us hl => match us, hl with | [_, _], _ => rfl
  have X4 : MkE P w K mg base "BadCount" (cA 4) ["index"] := by rw [c4']; exact ⟨⟨_, _, ini_BadCount FF4 hN4.o (hN4.n _ (by decide)) GC A1, ⟨PySem.W.mg_of X G hK4.a, hN4.o, hN4.i, hN4.t, bb4, hK4.xf⟩⟩, hN4.n⟩
  obtain ⟨fd5, FF5⟩ := hN5.F
  have bb5 := FF5.binds (ps := ["self", "place"]) fun _ _ _ _ _ _ us hl => match us, hl with | [_, _], _ => rfl
  have X5 : MkE P w K mg base "BadPlace" (cA 5) ["place"] := by rw [c5']; exact ⟨⟨_, _, ini_BadPlace FF5 hN5.o (hN5.n _ (by decide)) GC A1, ⟨PySem.W.mg_of X G hK5.a, hN5.o, hN5.i, hN5.t, bb5, hK5.xf⟩⟩, hN5.n⟩
  have Z6 : Err0 K mg "BadKind" (cA 6) := by rw [c6']; exact ⟨PySem.W.mg_of X G hK6.a, ex6, hK6.kc, hK6.eC, hK6.tC⟩
  have Z7 : Err0 K mg "SaysNothing" (cA 7) := by rw [c7']; exact ⟨PySem.W.mg_of X G hK7.a, ex7, hK7.kc, hK7.eC, hK7.tC⟩
  obtain ⟨fd8, FF8⟩ := hN8.F
  have bb8 := FF8.binds (ps := ["self", "index"]) fun _ _ _ _ _ _ us hl => match us, hl with | [_, _], _ => rfl
  have X8 : MkE P w K mg base "BadAnswers" (cA 8) ["index"] := by rw [c8']; exact ⟨⟨_, _, ini_BadAnswers FF8 hN8.o (hN8.n _ (by decide)) GC A1, ⟨PySem.W.mg_of X G hK8.a, hN8.o, hN8.i, hN8.t, bb8, hK8.xf⟩⟩, hN8.n⟩
  obtain ⟨fd9, FF9⟩ := hN9.F
  have bb9 := FF9.binds (ps := ["self", "index"]) fun _ _ _ _ _ _ us hl => match us, hl with | [_, _], _ => rfl
  have X9 : MkE P w K mg base "BadTold" (cA 9) ["index"] := by rw [c9']; exact ⟨⟨_, _, ini_BadTold FF9 hN9.o (hN9.n _ (by decide)) GC A1, ⟨PySem.W.mg_of X G hK9.a, hN9.o, hN9.i, hN9.t, bb9, hK9.xf⟩⟩, hN9.n⟩
  obtain ⟨fd10, FF10⟩ := hN10.F
  have bb10 := FF10.binds (ps := ["self", "index"]) fun _ _ _ _ _ _ us hl => match us, hl with | [_, _], _ => rfl
  have X10 : MkE P w K mg base "BadStep" (cA 10) ["index"] := by rw [c10']; exact ⟨⟨_, _, ini_BadStep FF10 hN10.o (hN10.n _ (by decide)) GC A1, ⟨PySem.W.mg_of X G hK10.a, hN10.o, hN10.i, hN10.t, bb10, hK10.xf⟩⟩, hN10.n⟩
  obtain ⟨fd11, FF11⟩ := hN11.F
  have bb11 := FF11.binds (ps := ["self", "index"]) fun _ _ _ _ _ _ us hl => match us, hl with | [_, _], _ => rfl
  have X11 : MkE P w K mg base "NotLive" (cA 11) ["index"] := by rw [c11']; exact ⟨⟨_, _, ini_NotLive FF11 hN11.o (hN11.n _ (by decide)) GC A1, ⟨PySem.W.mg_of X G hK11.a, hN11.o, hN11.i, hN11.t, bb11, hK11.xf⟩⟩, hN11.n⟩
  have Z12 : Err0 K mg "OtherLetters" (cA 12) := by rw [c12']; exact ⟨PySem.W.mg_of X G hK12.a, ex12, hK12.kc, hK12.eC, hK12.tC⟩
  obtain ⟨fd13, FF13⟩ := hN13.F
  have bb13 := FF13.binds (ps := ["self", "size"]) fun _ _ _ _ _ _ us hl => match us, hl with | [_, _], _ => rfl
  have X13 : MkE P w K mg base "TooLong" (cA 13) ["size"] := by rw [c13']; exact ⟨⟨_, _, ini_TooLong FF13 hN13.o (hN13.n _ (by decide)) GC A1, ⟨PySem.W.mg_of X G hK13.a, hN13.o, hN13.i, hN13.t, bb13, hK13.xf⟩⟩, hN13.n⟩
  obtain ⟨fd14, FF14⟩ := hN14.F
  have bb14 := FF14.binds (ps := ["self", "what", "many", "most"]) fun _ _ _ _ _ _ us hl => match us, hl with | [_, _, _, _], _ => rfl
  have X14 : MkE P w K mg base "TooMany" (cA 14) ["what", "many", "most"] := by rw [c14']; exact ⟨⟨_, _, ini_TooMany FF14 hN14.o (hN14.n _ (by decide)) (hN14.n _ (by decide)) (hN14.n _ (by decide)) GC A1, ⟨PySem.W.mg_of X G hK14.a, hN14.o, hN14.i, hN14.t, bb14, hK14.xf⟩⟩, hN14.n⟩
  obtain ⟨fd15, FF15⟩ := hN15.F
  have bb15 := FF15.binds (ps := ["self", "index"]) fun _ _ _ _ _ _ us hl => match us, hl with | [_, _], _ => rfl
  have X15 : MkE P w K mg base "BadRow" (cA 15) ["index"] := by rw [c15']; exact ⟨⟨_, _, ini_BadRow FF15 hN15.o (hN15.n _ (by decide)) GC A1, ⟨PySem.W.mg_of X G hK15.a, hN15.o, hN15.i, hN15.t, bb15, hK15.xf⟩⟩, hN15.n⟩
  obtain ⟨fd16, FF16⟩ := hN16.F
  have bb16 := FF16.binds (ps := ["self", "index"]) fun _ _ _ _ _ _ us hl => match us, hl with | [_, _], _ => rfl
  have X16 : MkE P w K mg base "TwiceTold" (cA 16) ["index"] := by rw [c16']; exact ⟨⟨_, _, ini_TwiceTold FF16 hN16.o (hN16.n _ (by decide)) GC A1, ⟨PySem.W.mg_of X G hK16.a, hN16.o, hN16.i, hN16.t, bb16, hK16.xf⟩⟩, hN16.n⟩
  obtain ⟨fd17, FF17⟩ := hN17.F
  have bb17 := FF17.binds (ps := ["self", "index"]) fun _ _ _ _ _ _ us hl => match us, hl with | [_, _], _ => rfl
  have X17 : MkE P w K mg base "BadEnd" (cA 17) ["index"] := by rw [c17']; exact ⟨⟨_, _, ini_BadEnd FF17 hN17.o (hN17.n _ (by decide)) GC A1, ⟨PySem.W.mg_of X G hK17.a, hN17.o, hN17.i, hN17.t, bb17, hK17.xf⟩⟩, hN17.n⟩
  obtain ⟨fd18, FF18⟩ := hN18.F
  have bb18 := FF18.binds (ps := ["self", "number"]) fun _ _ _ _ _ _ us hl => match us, hl with | [_, _], _ => rfl
  have kb18 : KBn K fd18 ["self", "number"] 1 ["number"] (fun us ws => us ++ ws) (fun vs zs => vs ++ zs) := fun_kbn FF18 (fun r1 r2 => r1.append r2) fun kV doc pm an cdv ct us ws l1 l2 => match us, l1, ws, l2 with | [_], _, [_], _ => rfl
  have X18 : MkK P w K mg base "BadNumber" (cA 18) ["number"] 1 ["number"] := by rw [c18']; exact ⟨⟨_, _, ini_BadNumber FF18 hN18.o (hN18.n _ (by decide)) GC A1, ⟨PySem.W.mg_of X G hK18.a, hN18.o, hN18.i, hN18.t, bb18, hK18.xf⟩, kb18⟩, hN18.n⟩
  obtain ⟨fd19, FF19⟩ := hN19.F
  have bb19 := FF19.binds (ps := ["self", "index"]) fun _ _ _ _ _ _ us hl => match us, hl with | [_, _], _ => rfl
  have X19 : MkE P w K mg base "BadMenu" (cA 19) ["index"] := by rw [c19']; exact ⟨⟨_, _, ini_BadMenu FF19 hN19.o (hN19.n _ (by decide)) GC A1, ⟨PySem.W.mg_of X G hK19.a, hN19.o, hN19.i, hN19.t, bb19, hK19.xf⟩⟩, hN19.n⟩
  obtain ⟨fd20, FF20⟩ := hN20.F
  have bb20 := FF20.binds (ps := ["self", "index"]) fun _ _ _ _ _ _ us hl => match us, hl with | [_, _], _ => rfl
  have X20 : MkE P w K mg base "BadState" (cA 20) ["index"] := by rw [c20']; exact ⟨⟨_, _, ini_BadState FF20 hN20.o (hN20.n _ (by decide)) GC A1, ⟨PySem.W.mg_of X G hK20.a, hN20.o, hN20.i, hN20.t, bb20, hK20.xf⟩⟩, hN20.n⟩
  obtain ⟨fd21, FF21⟩ := hN21.F
  have bb21 := FF21.binds (ps := ["self", "have", "want"]) fun _ _ _ _ _ _ us hl => match us, hl with | [_, _, _], _ => rfl
  have X21 : MkE P w K mg base "Uneven" (cA 21) ["have", "want"] := by rw [c21']; exact ⟨⟨_, _, ini_Uneven FF21 hN21.o (hN21.n _ (by decide)) (hN21.n _ (by decide)) GC A1, ⟨PySem.W.mg_of X G hK21.a, hN21.o, hN21.i, hN21.t, bb21, hK21.xf⟩⟩, hN21.n⟩
  obtain ⟨fd22, FF22⟩ := hN22.F
  have bb22 := FF22.binds (ps := ["self", "top"]) fun _ _ _ _ _ _ us hl => match us, hl with | [_, _], _ => rfl
  have X22 : MkE P w K mg base "BadTop" (cA 22) ["top"] := by rw [c22']; exact ⟨⟨_, _, ini_BadTop FF22 hN22.o (hN22.n _ (by decide)) GC A1, ⟨PySem.W.mg_of X G hK22.a, hN22.o, hN22.i, hN22.t, bb22, hK22.xf⟩⟩, hN22.n⟩
  obtain ⟨fd23, FF23⟩ := hN23.F
  have bb23 := FF23.binds (ps := ["self", "which", "index"]) fun _ _ _ _ _ _ us hl => match us, hl with | [_, _, _], _ => rfl
  have X23 : MkE P w K mg base "BadWord" (cA 23) ["which", "index"] := by rw [c23']; exact ⟨⟨_, _, ini_BadWord FF23 hN23.o (hN23.n _ (by decide)) (hN23.n _ (by decide)) GC A1, ⟨PySem.W.mg_of X G hK23.a, hN23.o, hN23.i, hN23.t, bb23, hK23.xf⟩⟩, hN23.n⟩
  obtain ⟨fd24, FF24⟩ := hN24.F
  have bb24 := FF24.binds (ps := ["self", "stand"]) fun _ _ _ _ _ _ us hl => match us, hl with | [_, _], _ => rfl
  have X24 : MkE P w K mg base "BadStand" (cA 24) ["stand"] := by rw [c24']; exact ⟨⟨_, _, ini_BadStand FF24 hN24.o (hN24.n _ (by decide)) GC A1, ⟨PySem.W.mg_of X G hK24.a, hN24.o, hN24.i, hN24.t, bb24, hK24.xf⟩⟩, hN24.n⟩
  obtain ⟨fd25, FF25⟩ := hN25.F
  have bb25 := FF25.binds (ps := ["self", "index"]) fun _ _ _ _ _ _ us hl => match us, hl with | [_, _], _ => rfl
  have X25 : MkE P w K mg base "BadSpecial" (cA 25) ["index"] := by rw [c25']; exact ⟨⟨_, _, ini_BadSpecial FF25 hN25.o (hN25.n _ (by decide)) GC A1, ⟨PySem.W.mg_of X G hK25.a, hN25.o, hN25.i, hN25.t, bb25, hK25.xf⟩⟩, hN25.n⟩
  obtain ⟨fd26, FF26⟩ := hN26.F
  have bb26 := FF26.binds (ps := ["self", "name"]) fun _ _ _ _ _ _ us hl => match us, hl with | [_, _], _ => rfl
  have X26 : MkE P w K mg base "BadName" (cA 26) ["name"] := by rw [c26']; exact ⟨⟨_, _, ini_BadName FF26 hN26.o (hN26.n _ (by decide)) GC A1, ⟨PySem.W.mg_of X G hK26.a, hN26.o, hN26.i, hN26.t, bb26, hK26.xf⟩⟩, hN26.n⟩
  obtain ⟨fd27, FF27⟩ := hN27.F
  have bb27 := FF27.binds (ps := ["self", "name"]) fun _ _ _ _ _ _ us hl => match us, hl with | [_, _], _ => rfl
  have X27 : MkE P w K mg base "Unknown" (cA 27) ["name"] := by rw [c27']; exact ⟨⟨_, _, ini_Unknown FF27 hN27.o (hN27.n _ (by decide)) GC A1, ⟨PySem.W.mg_of X G hK27.a, hN27.o, hN27.i, hN27.t, bb27, hK27.xf⟩⟩, hN27.n⟩
  obtain ⟨fd28, FF28⟩ := hN28.F
  have bb28 := FF28.binds (ps := ["self", "name"]) fun _ _ _ _ _ _ us hl => match us, hl with | [_, _], _ => rfl
  have kb28 : KBn K fd28 ["self", "name"] 1 ["name"] (fun us ws => us ++ ws) (fun vs zs => vs ++ zs) := fun_kbn FF28 (fun r1 r2 => r1.append r2) fun kV doc pm an cdv ct us ws l1 l2 => match us, l1, ws, l2 with | [_], _, [_], _ => rfl
  have X28 : MkK P w K mg base "Known" (cA 28) ["name"] 1 ["name"] := by rw [c28']; exact ⟨⟨_, _, ini_Known FF28 hN28.o (hN28.n _ (by decide)) GC A1, ⟨PySem.W.mg_of X G hK28.a, hN28.o, hN28.i, hN28.t, bb28, hK28.xf⟩, kb28⟩, hN28.n⟩
  have Z29 : Err0 K mg "Impossible" (cA 29) := by rw [c29']; exact ⟨PySem.W.mg_of X G hK29.a, ex29, hK29.kc, hK29.eC, hK29.tC⟩
  have Z30 : Err0 K mg "Unfair" (cA 30) := by rw [c30']; exact ⟨PySem.W.mg_of X G hK30.a, ex30, hK30.kc, hK30.eC, hK30.tC⟩
  have Z31 : Err0 K mg "NoFact" (cA 31) := by rw [c31']; exact ⟨PySem.W.mg_of X G hK31.a, ex31, hK31.kc, hK31.eC, hK31.tC⟩
  obtain ⟨fd32, FF32⟩ := hN32.F
  have bb32 := FF32.binds (ps := ["self", "index"]) fun _ _ _ _ _ _ us hl => match us, hl with | [_, _], _ => rfl
  have X32 : MkE P w K mg base "BadDeeds" (cA 32) ["index"] := by rw [c32']; exact ⟨⟨_, _, ini_BadDeeds FF32 hN32.o (hN32.n _ (by decide)) GC A1, ⟨PySem.W.mg_of X G hK32.a, hN32.o, hN32.i, hN32.t, bb32, hK32.xf⟩⟩, hN32.n⟩
  obtain ⟨fd33, FF33⟩ := hN33.F
  have bb33 := FF33.binds (ps := ["self", "index"]) fun _ _ _ _ _ _ us hl => match us, hl with | [_, _], _ => rfl
  have kb33 : KBn K fd33 ["self", "index"] 1 ["index"] (fun us ws => us ++ ws) (fun vs zs => vs ++ zs) := fun_kbn FF33 (fun r1 r2 => r1.append r2) fun kV doc pm an cdv ct us ws l1 l2 => match us, l1, ws, l2 with | [_], _, [_], _ => rfl
  have X33 : MkK P w K mg base "BadAsks" (cA 33) ["index"] 1 ["index"] := by rw [c33']; exact ⟨⟨_, _, ini_BadAsks FF33 hN33.o (hN33.n _ (by decide)) GC A1, ⟨PySem.W.mg_of X G hK33.a, hN33.o, hN33.i, hN33.t, bb33, hK33.xf⟩, kb33⟩, hN33.n⟩
  obtain ⟨fd34, FF34⟩ := hN34.F
  have bb34 := FF34.binds (ps := ["self", "ask"]) fun _ _ _ _ _ _ us hl => match us, hl with | [_, _], _ => rfl
  have X34 : MkE P w K mg base "BadProgram" (cA 34) ["ask"] := by rw [c34']; exact ⟨⟨_, _, ini_BadProgram FF34 hN34.o (hN34.n _ (by decide)) GC A1, ⟨PySem.W.mg_of X G hK34.a, hN34.o, hN34.i, hN34.t, bb34, hK34.xf⟩⟩, hN34.n⟩
  have Z35 : Err0 K mg "OtherDeeds" (cA 35) := by rw [c35']; exact ⟨PySem.W.mg_of X G hK35.a, ex35, hK35.kc, hK35.eC, hK35.tC⟩
  obtain ⟨fd36, FF36⟩ := hN36.F
  have bb36 := FF36.binds (ps := ["self", "line", "place"]) fun _ _ _ _ _ _ us hl => match us, hl with | [_, _, _], _ => rfl
  have X36 : MkE P w K mg base "BadText" (cA 36) ["line", "place"] := by rw [c36']; exact ⟨⟨_, _, ini_BadText FF36 hN36.o (hN36.n _ (by decide)) (hN36.n _ (by decide)) GC A1, ⟨PySem.W.mg_of X G hK36.a, hN36.o, hN36.i, hN36.t, bb36, hK36.xf⟩⟩, hN36.n⟩
  obtain ⟨fd37, FF37⟩ := hN37.F
  have bb37 := FF37.binds (ps := ["self", "ask", "name"]) fun _ _ _ _ _ _ us hl => match us, hl with | [_, _, _], _ => rfl
  have kb37 : KBn K fd37 ["self", "ask", "name"] 2 ["name"] (fun us ws => us ++ ws) (fun vs zs => vs ++ zs) := fun_kbn FF37 (fun r1 r2 => r1.append r2) fun kV doc pm an cdv ct us ws l1 l2 => match us, l1, ws, l2 with | [_, _], _, [_], _ => rfl
  have X37 : MkK P w K mg base "Refused" (cA 37) ["ask", "name"] 2 ["name"] := by rw [c37']; exact ⟨⟨_, _, ini_Refused FF37 hN37.o (hN37.n _ (by decide)) (hN37.n _ (by decide)) GC A1, ⟨PySem.W.mg_of X G hK37.a, hN37.o, hN37.i, hN37.t, bb37, hK37.xf⟩, kb37⟩, hN37.n⟩
  obtain ⟨fd38, FF38⟩ := hN38.F
  have bb38 := FF38.binds (ps := ["self", "name"]) fun _ _ _ _ _ _ us hl => match us, hl with | [_, _], _ => rfl
  have X38 : MkE P w K mg base "Overasked" (cA 38) ["name"] := by rw [c38']; exact ⟨⟨_, _, ini_Overasked FF38 hN38.o (hN38.n _ (by decide)) GC A1, ⟨PySem.W.mg_of X G hK38.a, hN38.o, hN38.i, hN38.t, bb38, hK38.xf⟩⟩, hN38.n⟩
  have Z39 : Err0 K mg "NothingLeft" (cA 39) := by rw [c39']; exact ⟨PySem.W.mg_of X G hK39.a, ex39, hK39.kc, hK39.eC, hK39.tC⟩
  have Gi := ok_indexed (P := P) (w := w) (base := base) Fi X0 X1 X3 X4 X8 X9 X10 X11 X15 X16 X17 X19 X20 X25 X32 X33
  have Go := ok_others (P := P) (w := w) (base := base) Fo X38 X37 X36 X34 X28 X27 X26 X24 X23 X22 X21 X18 X14 X13 X5 Z39 Z35 Z31 Z30 Z29 Z12 Z7 Z6 Z2
  have N : ∀ j ∈ PLs, PySem.W.findIn K (.ref (cA j)) "index" = some none := by
    intro j hj
    simp only [PLs, List.mem_cons, List.not_mem_nil, or_false] at hj
    rcases hj with rfl | rfl | rfl | rfl | rfl | rfl | rfl | rfl | rfl | rfl | rfl | rfl | rfl | rfl | rfl | rfl
    · rw [c0']; exact hN0.n _ (by decide)
    · rw [c1']; exact hN1.n _ (by decide)
    · rw [c3']; exact hN3.n _ (by decide)
    · rw [c4']; exact hN4.n _ (by decide)
    · rw [c8']; exact hN8.n _ (by decide)
    · rw [c9']; exact hN9.n _ (by decide)
    · rw [c10']; exact hN10.n _ (by decide)
    · rw [c11']; exact hN11.n _ (by decide)
    · rw [c15']; exact hN15.n _ (by decide)
    · rw [c16']; exact hN16.n _ (by decide)
    · rw [c17']; exact hN17.n _ (by decide)
    · rw [c19']; exact hN19.n _ (by decide)
    · rw [c20']; exact hN20.n _ (by decide)
    · rw [c25']; exact hN25.n _ (by decide)
    · rw [c32']; exact hN32.n _ (by decide)
    · rw [c33']; exact hN33.n _ (by decide)
  exact run_law (P := P) (w := w) (base := base) F9 T M (PySem.W.mg_none_of X G z14) (PySem.W.mg_none_of X G z13) (PySem.W.mg_none_of X G z15) (PySem.W.mg_none_of X G z16) (PySem.W.mg_none_of X G z17) N G3 A3 G4 A4 G6 A6 Gi Ai Go Ao Gv Av Gk Ak Gp Ap rfl ⟨rfl, by decide, by decide⟩ e0 (.of_eq rfl) hS hl
theorem walk {l : PySem.W.OpenLaw} {q : Program} {loose : List Str} {XP : (Str → Option Value) → Heap → Prop} {YP : World → Heap → Prop} {d : DefRec} {K : Params → PySem.W.Frag} (hn : l.most = some 63) (hdf : d.params.defaults = [])
    (hY : ∀ (w : World) (h : Heap), YP w h → (K w.params).In h)
    (F : ∀ (w : World) (mg : Str → Option Value) (fa : Addr) (h : Heap), (K w.params).In h → h.Ns mainGlobals mg → mg d.name = some (.ref fa) → ∀ (base : Heap), (K w.params).In base → base.Ns mainGlobals mg →
      ∀ (s₁ : Shared) (H : Hp) (a : Addr) (ns : List Int), Env0 l.prog w (K w.params) mg base callerA [] s₁ H → SqL (K w.params) H a (ns.map V.int) → ns.length ≤ 63 →
        codeAny (model l.prog w) callerA (.call (.ref fa) ⟨[.ref a], []⟩) (CR CX0 [] l.prog w H s₁ (fun v _ => v = .bl true) E0) s₁) :
    PySem.W.WalkO q loose XP YP l.row.toRowW d [] (fun f vs => PySem.call f vs) := by
  refine Att.attach_call hn hdf fun w s₀ s₁ mg mb fa o pm cd doc a vs ns G Y ho hd hcd hmg hobj hints hlen hg => ?_
  have KX := hY w _ Y
  exact law_at KX G.T.g G.T.b G.T.builtins G.T.nolimit hg hobj hints (Nat.le_trans hlen (by decide)) fun base H kb gb e0 hS => F w mg fa _ KX G.T.g hmg base kb gb s₁ H a ns e0 hS hlen
end Ask

open PySem PySem.W PyProof.Rows
set_option maxRecDepth 100000
set_option maxHeartbeats 0
set_option maxRecDepth 100000 in
set_option maxHeartbeats 0 in
theorem PySem.Challenge.cw_asksmore_k00_errors_holds : PySem.Challenge.rw_asksmore_k00_errors.Holds := by
  refine headK00 ?_
  k_fill
  refine Ask.walk (l := PySem.Challenge.rw_asksmore_k00_errors) rfl rfl (fun w h Y => PySem.W.kIn_of Y) ?F
  case F =>
    intro w mg fa h KX G hmg
    refine' Ask.all_mk KX G hmg ?hn ?ht ?a1 ?l1 ?c1 ?k1 ?a3 ?l3 ?c3 ?k3 ?a4 ?l4 ?c4 ?k4 ?a5 ?l5 ?c5 ?k5 ?a6 ?l6 ?c6 ?k6 ?ag ?lg ?cg ?kg ?av ?lv ?cv ?kv ?af ?lf ?cf ?kf ?ak ?lk ?ck ?kk ?ai ?li ?ci ?ki ?ap ?lp ?cp ?kp ?ao ?lo ?co ?ko ?a9 ?l9 ?c9 ?k9 ?aA ?icA ?tcA ?hK0 ?hN0 ?hK1 ?hN1 ?hK2 ?ex2 ?hK3 ?hN3 ?hK4 ?hN4 ?hK5 ?hN5 ?hK6 ?ex6 ?hK7 ?ex7 ?hK8 ?hN8 ?hK9 ?hN9 ?hK10 ?hN10 ?hK11 ?hN11 ?hK12 ?ex12 ?hK13 ?hN13 ?hK14 ?hN14 ?hK15 ?hN15 ?hK16 ?hN16 ?hK17 ?hN17 ?hK18 ?hN18 ?hK19 ?hN19 ?hK20 ?hN20 ?hK21 ?hN21 ?hK22 ?hN22 ?hK23 ?hN23 ?hK24 ?hN24 ?hK25 ?hN25 ?hK26 ?hN26 ?hK27 ?hN27 ?hK28 ?hN28 ?hK29 ?ex29 ?hK30 ?ex30 ?hK31 ?ex31 ?hK32 ?hN32 ?hK33 ?hN33 ?hK34 ?hN34 ?hK35 ?ex35 ?hK36 ?hN36 ?hK37 ?hN37 ?hK38 ?hN38 ?hK39 ?ex39 ?nd ?z0 ?z1 ?z2 ?z3 ?z4 ?z5 ?z6 ?z7 ?z8 ?z9 ?z10 ?z11 ?z12 ?z13 ?z14 ?z15 ?z16 ?z17
    (case hn => k_is)
    (case ht => k_is)
    (case a1 => k_is)
    (case l1 => k_is)
    (case c1 => k_is)
    (case k1 => k_is)
    (case a3 => k_is)
    (case l3 => k_is)
    (case c3 => k_is)
    (case k3 => k_is)
    (case a4 => k_is)
    (case l4 => k_is)
    (case c4 => k_is)
    (case k4 => k_is)
    (case a5 => k_is)
    (case l5 => k_is)
    (case c5 => k_is)
    (case k5 => k_is)
    (case a6 => k_is)
    (case l6 => k_is)
    (case c6 => k_is)
    (case k6 => k_is)
    (case ag => k_is)
    (case lg => k_is)
    (case cg => k_is)
    (case kg => k_is)
    (case av => k_is)
    (case lv => k_is)
    (case cv => k_is)
    (case kv => k_is)
    (case af => k_is)
    (case lf => k_is)
    (case cf => k_is)
    (case kf => k_is)
    (case ak => k_is)
    (case lk => k_is)
    (case ck => k_is)
    (case kk => k_is)
    (case ai => k_is)
    (case li => k_is)
    (case ci => k_is)
    (case ki => k_is)
    (case ap => k_is)
    (case lp => k_is)
    (case cp => k_is)
    (case kp => k_is)
    (case ao => k_is)
    (case lo => k_is)
    (case co => k_is)
    (case ko => k_is)
    (case a9 => k_is)
    (case l9 => k_is)
    (case c9 => k_is)
    (case k9 => k_is)
    (case aA => k_is)
    (case icA => k_is)
    (case tcA => k_is)
    (case hK0 => (refine' Ask.errK_mk ?q1 ?q2 ?q3 ?q4 ?q5 ?q6 ?q7 ?q8 ?q9 ?q10 ?q11 ?q12 ?q13 ?q14; (case q1 => k_is); (case q2 => k_is); (case q3 => k_is); (case q4 => k_is); (case q5 => k_is); (case q6 => k_is); (case q7 => k_is); (case q8 => k_is); (case q9 => k_is); (case q10 => k_is); (case q11 => k_is); (case q12 => k_is); (case q13 => k_is); (case q14 => rfl)))
    (case hN0 => (refine' Ask.errN_mk ?q1 ?q2 ?q3 ?q4 ?q5 ?q6 ?q7 ?q8 ?q9 ?q10 ?q11 (Ask.n_one ?n0); (case q1 => k_is); (case q2 => k_is); (case q3 => k_is); (case q4 => k_is); (case q5 => k_is); (case q6 => k_is); (case q7 => k_is); (case q8 => rfl); (case q9 => k_is); (case q10 => k_is); (case q11 => k_is); (case n0 => k_is)))
    (case hK1 => (refine' Ask.errK_mk ?q1 ?q2 ?q3 ?q4 ?q5 ?q6 ?q7 ?q8 ?q9 ?q10 ?q11 ?q12 ?q13 ?q14; (case q1 => k_is); (case q2 => k_is); (case q3 => k_is); (case q4 => k_is); (case q5 => k_is); (case q6 => k_is); (case q7 => k_is); (case q8 => k_is); (case q9 => k_is); (case q10 => k_is); (case q11 => k_is); (case q12 => k_is); (case q13 => k_is); (case q14 => rfl)))
    (case hN1 => (refine' Ask.errN_mk ?q1 ?q2 ?q3 ?q4 ?q5 ?q6 ?q7 ?q8 ?q9 ?q10 ?q11 (Ask.n_one ?n0); (case q1 => k_is); (case q2 => k_is); (case q3 => k_is); (case q4 => k_is); (case q5 => k_is); (case q6 => k_is); (case q7 => k_is); (case q8 => rfl); (case q9 => k_is); (case q10 => k_is); (case q11 => k_is); (case n0 => k_is)))
    (case hK2 => (refine' Ask.errK_mk ?q1 ?q2 ?q3 ?q4 ?q5 ?q6 ?q7 ?q8 ?q9 ?q10 ?q11 ?q12 ?q13 ?q14; (case q1 => k_is); (case q2 => k_is); (case q3 => k_is); (case q4 => k_is); (case q5 => k_is); (case q6 => k_is); (case q7 => k_is); (case q8 => k_is); (case q9 => k_is); (case q10 => k_is); (case q11 => k_is); (case q12 => k_is); (case q13 => k_is); (case q14 => rfl)))
    (case ex2 => k_exc)
    (case hK3 => (refine' Ask.errK_mk ?q1 ?q2 ?q3 ?q4 ?q5 ?q6 ?q7 ?q8 ?q9 ?q10 ?q11 ?q12 ?q13 ?q14; (case q1 => k_is); (case q2 => k_is); (case q3 => k_is); (case q4 => k_is); (case q5 => k_is); (case q6 => k_is); (case q7 => k_is); (case q8 => k_is); (case q9 => k_is); (case q10 => k_is); (case q11 => k_is); (case q12 => k_is); (case q13 => k_is); (case q14 => rfl)))
    (case hN3 => (refine' Ask.errN_mk ?q1 ?q2 ?q3 ?q4 ?q5 ?q6 ?q7 ?q8 ?q9 ?q10 ?q11 (Ask.n_one ?n0); (case q1 => k_is); (case q2 => k_is); (case q3 => k_is); (case q4 => k_is); (case q5 => k_is); (case q6 => k_is); (case q7 => k_is); (case q8 => rfl); (case q9 => k_is); (case q10 => k_is); (case q11 => k_is); (case n0 => k_is)))
    (case hK4 => (refine' Ask.errK_mk ?q1 ?q2 ?q3 ?q4 ?q5 ?q6 ?q7 ?q8 ?q9 ?q10 ?q11 ?q12 ?q13 ?q14; (case q1 => k_is); (case q2 => k_is); (case q3 => k_is); (case q4 => k_is); (case q5 => k_is); (case q6 => k_is); (case q7 => k_is); (case q8 => k_is); (case q9 => k_is); (case q10 => k_is); (case q11 => k_is); (case q12 => k_is); (case q13 => k_is); (case q14 => rfl)))
    (case hN4 => (refine' Ask.errN_mk ?q1 ?q2 ?q3 ?q4 ?q5 ?q6 ?q7 ?q8 ?q9 ?q10 ?q11 (Ask.n_one ?n0); (case q1 => k_is); (case q2 => k_is); (case q3 => k_is); (case q4 => k_is); (case q5 => k_is); (case q6 => k_is); (case q7 => k_is); (case q8 => rfl); (case q9 => k_is); (case q10 => k_is); (case q11 => k_is); (case n0 => k_is)))
    (case hK5 => (refine' Ask.errK_mk ?q1 ?q2 ?q3 ?q4 ?q5 ?q6 ?q7 ?q8 ?q9 ?q10 ?q11 ?q12 ?q13 ?q14; (case q1 => k_is); (case q2 => k_is); (case q3 => k_is); (case q4 => k_is); (case q5 => k_is); (case q6 => k_is); (case q7 => k_is); (case q8 => k_is); (case q9 => k_is); (case q10 => k_is); (case q11 => k_is); (case q12 => k_is); (case q13 => k_is); (case q14 => rfl)))
    (case hN5 => (refine' Ask.errN_mk ?q1 ?q2 ?q3 ?q4 ?q5 ?q6 ?q7 ?q8 ?q9 ?q10 ?q11 (Ask.n_one ?n0); (case q1 => k_is); (case q2 => k_is); (case q3 => k_is); (case q4 => k_is); (case q5 => k_is); (case q6 => k_is); (case q7 => k_is); (case q8 => rfl); (case q9 => k_is); (case q10 => k_is); (case q11 => k_is); (case n0 => k_is)))
    (case hK6 => (refine' Ask.errK_mk ?q1 ?q2 ?q3 ?q4 ?q5 ?q6 ?q7 ?q8 ?q9 ?q10 ?q11 ?q12 ?q13 ?q14; (case q1 => k_is); (case q2 => k_is); (case q3 => k_is); (case q4 => k_is); (case q5 => k_is); (case q6 => k_is); (case q7 => k_is); (case q8 => k_is); (case q9 => k_is); (case q10 => k_is); (case q11 => k_is); (case q12 => k_is); (case q13 => k_is); (case q14 => rfl)))
    (case ex6 => k_exc)
    (case hK7 => (refine' Ask.errK_mk ?q1 ?q2 ?q3 ?q4 ?q5 ?q6 ?q7 ?q8 ?q9 ?q10 ?q11 ?q12 ?q13 ?q14; (case q1 => k_is); (case q2 => k_is); (case q3 => k_is); (case q4 => k_is); (case q5 => k_is); (case q6 => k_is); (case q7 => k_is); (case q8 => k_is); (case q9 => k_is); (case q10 => k_is); (case q11 => k_is); (case q12 => k_is); (case q13 => k_is); (case q14 => rfl)))
    (case ex7 => k_exc)
    (case hK8 => (refine' Ask.errK_mk ?q1 ?q2 ?q3 ?q4 ?q5 ?q6 ?q7 ?q8 ?q9 ?q10 ?q11 ?q12 ?q13 ?q14; (case q1 => k_is); (case q2 => k_is); (case q3 => k_is); (case q4 => k_is); (case q5 => k_is); (case q6 => k_is); (case q7 => k_is); (case q8 => k_is); (case q9 => k_is); (case q10 => k_is); (case q11 => k_is); (case q12 => k_is); (case q13 => k_is); (case q14 => rfl)))
    (case hN8 => (refine' Ask.errN_mk ?q1 ?q2 ?q3 ?q4 ?q5 ?q6 ?q7 ?q8 ?q9 ?q10 ?q11 (Ask.n_one ?n0); (case q1 => k_is); (case q2 => k_is); (case q3 => k_is); (case q4 => k_is); (case q5 => k_is); (case q6 => k_is); (case q7 => k_is); (case q8 => rfl); (case q9 => k_is); (case q10 => k_is); (case q11 => k_is); (case n0 => k_is)))
    (case hK9 => (refine' Ask.errK_mk ?q1 ?q2 ?q3 ?q4 ?q5 ?q6 ?q7 ?q8 ?q9 ?q10 ?q11 ?q12 ?q13 ?q14; (case q1 => k_is); (case q2 => k_is); (case q3 => k_is); (case q4 => k_is); (case q5 => k_is); (case q6 => k_is); (case q7 => k_is); (case q8 => k_is); (case q9 => k_is); (case q10 => k_is); (case q11 => k_is); (case q12 => k_is); (case q13 => k_is); (case q14 => rfl)))
    (case hN9 => (refine' Ask.errN_mk ?q1 ?q2 ?q3 ?q4 ?q5 ?q6 ?q7 ?q8 ?q9 ?q10 ?q11 (Ask.n_one ?n0); (case q1 => k_is); (case q2 => k_is); (case q3 => k_is); (case q4 => k_is); (case q5 => k_is); (case q6 => k_is); (case q7 => k_is); (case q8 => rfl); (case q9 => k_is); (case q10 => k_is); (case q11 => k_is); (case n0 => k_is)))
    (case hK10 => (refine' Ask.errK_mk ?q1 ?q2 ?q3 ?q4 ?q5 ?q6 ?q7 ?q8 ?q9 ?q10 ?q11 ?q12 ?q13 ?q14; (case q1 => k_is); (case q2 => k_is); (case q3 => k_is); (case q4 => k_is); (case q5 => k_is); (case q6 => k_is); (case q7 => k_is); (case q8 => k_is); (case q9 => k_is); (case q10 => k_is); (case q11 => k_is); (case q12 => k_is); (case q13 => k_is); (case q14 => rfl)))
    (case hN10 => (refine' Ask.errN_mk ?q1 ?q2 ?q3 ?q4 ?q5 ?q6 ?q7 ?q8 ?q9 ?q10 ?q11 (Ask.n_one ?n0); (case q1 => k_is); (case q2 => k_is); (case q3 => k_is); (case q4 => k_is); (case q5 => k_is); (case q6 => k_is); (case q7 => k_is); (case q8 => rfl); (case q9 => k_is); (case q10 => k_is); (case q11 => k_is); (case n0 => k_is)))
    (case hK11 => (refine' Ask.errK_mk ?q1 ?q2 ?q3 ?q4 ?q5 ?q6 ?q7 ?q8 ?q9 ?q10 ?q11 ?q12 ?q13 ?q14; (case q1 => k_is); (case q2 => k_is); (case q3 => k_is); (case q4 => k_is); (case q5 => k_is); (case q6 => k_is); (case q7 => k_is); (case q8 => k_is); (case q9 => k_is); (case q10 => k_is); (case q11 => k_is); (case q12 => k_is); (case q13 => k_is); (case q14 => rfl)))
    (case hN11 => (refine' Ask.errN_mk ?q1 ?q2 ?q3 ?q4 ?q5 ?q6 ?q7 ?q8 ?q9 ?q10 ?q11 (Ask.n_one ?n0); (case q1 => k_is); (case q2 => k_is); (case q3 => k_is); (case q4 => k_is); (case q5 => k_is); (case q6 => k_is); (case q7 => k_is); (case q8 => rfl); (case q9 => k_is); (case q10 => k_is); (case q11 => k_is); (case n0 => k_is)))
    (case hK12 => (refine' Ask.errK_mk ?q1 ?q2 ?q3 ?q4 ?q5 ?q6 ?q7 ?q8 ?q9 ?q10 ?q11 ?q12 ?q13 ?q14; (case q1 => k_is); (case q2 => k_is); (case q3 => k_is); (case q4 => k_is); (case q5 => k_is); (case q6 => k_is); (case q7 => k_is); (case q8 => k_is); (case q9 => k_is); (case q10 => k_is); (case q11 => k_is); (case q12 => k_is); (case q13 => k_is); (case q14 => rfl)))
    (case ex12 => k_exc)
    (case hK13 => (refine' Ask.errK_mk ?q1 ?q2 ?q3 ?q4 ?q5 ?q6 ?q7 ?q8 ?q9 ?q10 ?q11 ?q12 ?q13 ?q14; (case q1 => k_is); (case q2 => k_is); (case q3 => k_is); (case q4 => k_is); (case q5 => k_is); (case q6 => k_is); (case q7 => k_is); (case q8 => k_is); (case q9 => k_is); (case q10 => k_is); (case q11 => k_is); (case q12 => k_is); (case q13 => k_is); (case q14 => rfl)))
    (case hN13 => (refine' Ask.errN_mk ?q1 ?q2 ?q3 ?q4 ?q5 ?q6 ?q7 ?q8 ?q9 ?q10 ?q11 (Ask.n_one ?n0); (case q1 => k_is); (case q2 => k_is); (case q3 => k_is); (case q4 => k_is); (case q5 => k_is); (case q6 => k_is); (case q7 => k_is); (case q8 => rfl); (case q9 => k_is); (case q10 => k_is); (case q11 => k_is); (case n0 => k_is)))
    (case hK14 => (refine' Ask.errK_mk ?q1 ?q2 ?q3 ?q4 ?q5 ?q6 ?q7 ?q8 ?q9 ?q10 ?q11 ?q12 ?q13 ?q14; (case q1 => k_is); (case q2 => k_is); (case q3 => k_is); (case q4 => k_is); (case q5 => k_is); (case q6 => k_is); (case q7 => k_is); (case q8 => k_is); (case q9 => k_is); (case q10 => k_is); (case q11 => k_is); (case q12 => k_is); (case q13 => k_is); (case q14 => rfl)))
    (case hN14 => (refine' Ask.errN_mk ?q1 ?q2 ?q3 ?q4 ?q5 ?q6 ?q7 ?q8 ?q9 ?q10 ?q11 (Ask.n_cons ?n0 (Ask.n_cons ?n1 (Ask.n_one ?n2))); (case q1 => k_is); (case q2 => k_is); (case q3 => k_is); (case q4 => k_is); (case q5 => k_is); (case q6 => k_is); (case q7 => k_is); (case q8 => rfl); (case q9 => k_is); (case q10 => k_is); (case q11 => k_is); (case n0 => k_is); (case n1 => k_is); (case n2 => k_is)))
    (case hK15 => (refine' Ask.errK_mk ?q1 ?q2 ?q3 ?q4 ?q5 ?q6 ?q7 ?q8 ?q9 ?q10 ?q11 ?q12 ?q13 ?q14; (case q1 => k_is); (case q2 => k_is); (case q3 => k_is); (case q4 => k_is); (case q5 => k_is); (case q6 => k_is); (case q7 => k_is); (case q8 => k_is); (case q9 => k_is); (case q10 => k_is); (case q11 => k_is); (case q12 => k_is); (case q13 => k_is); (case q14 => rfl)))
    (case hN15 => (refine' Ask.errN_mk ?q1 ?q2 ?q3 ?q4 ?q5 ?q6 ?q7 ?q8 ?q9 ?q10 ?q11 (Ask.n_one ?n0); (case q1 => k_is); (case q2 => k_is); (case q3 => k_is); (case q4 => k_is); (case q5 => k_is); (case q6 => k_is); (case q7 => k_is); (case q8 => rfl); (case q9 => k_is); (case q10 => k_is); (case q11 => k_is); (case n0 => k_is)))
    (case hK16 => (refine' Ask.errK_mk ?q1 ?q2 ?q3 ?q4 ?q5 ?q6 ?q7 ?q8 ?q9 ?q10 ?q11 ?q12 ?q13 ?q14; (case q1 => k_is); (case q2 => k_is); (case q3 => k_is); (case q4 => k_is); (case q5 => k_is); (case q6 => k_is); (case q7 => k_is); (case q8 => k_is); (case q9 => k_is); (case q10 => k_is); (case q11 => k_is); (case q12 => k_is); (case q13 => k_is); (case q14 => rfl)))
    (case hN16 => (refine' Ask.errN_mk ?q1 ?q2 ?q3 ?q4 ?q5 ?q6 ?q7 ?q8 ?q9 ?q10 ?q11 (Ask.n_one ?n0); (case q1 => k_is); (case q2 => k_is); (case q3 => k_is); (case q4 => k_is); (case q5 => k_is); (case q6 => k_is); (case q7 => k_is); (case q8 => rfl); (case q9 => k_is); (case q10 => k_is); (case q11 => k_is); (case n0 => k_is)))
    (case hK17 => (refine' Ask.errK_mk ?q1 ?q2 ?q3 ?q4 ?q5 ?q6 ?q7 ?q8 ?q9 ?q10 ?q11 ?q12 ?q13 ?q14; (case q1 => k_is); (case q2 => k_is); (case q3 => k_is); (case q4 => k_is); (case q5 => k_is); (case q6 => k_is); (case q7 => k_is); (case q8 => k_is); (case q9 => k_is); (case q10 => k_is); (case q11 => k_is); (case q12 => k_is); (case q13 => k_is); (case q14 => rfl)))
    (case hN17 => (refine' Ask.errN_mk ?q1 ?q2 ?q3 ?q4 ?q5 ?q6 ?q7 ?q8 ?q9 ?q10 ?q11 (Ask.n_one ?n0); (case q1 => k_is); (case q2 => k_is); (case q3 => k_is); (case q4 => k_is); (case q5 => k_is); (case q6 => k_is); (case q7 => k_is); (case q8 => rfl); (case q9 => k_is); (case q10 => k_is); (case q11 => k_is); (case n0 => k_is)))
    (case hK18 => (refine' Ask.errK_mk ?q1 ?q2 ?q3 ?q4 ?q5 ?q6 ?q7 ?q8 ?q9 ?q10 ?q11 ?q12 ?q13 ?q14; (case q1 => k_is); (case q2 => k_is); (case q3 => k_is); (case q4 => k_is); (case q5 => k_is); (case q6 => k_is); (case q7 => k_is); (case q8 => k_is); (case q9 => k_is); (case q10 => k_is); (case q11 => k_is); (case q12 => k_is); (case q13 => k_is); (case q14 => rfl)))
    (case hN18 => (refine' Ask.errN_mk ?q1 ?q2 ?q3 ?q4 ?q5 ?q6 ?q7 ?q8 ?q9 ?q10 ?q11 (Ask.n_one ?n0); (case q1 => k_is); (case q2 => k_is); (case q3 => k_is); (case q4 => k_is); (case q5 => k_is); (case q6 => k_is); (case q7 => k_is); (case q8 => rfl); (case q9 => k_is); (case q10 => k_is); (case q11 => k_is); (case n0 => k_is)))
    (case hK19 => (refine' Ask.errK_mk ?q1 ?q2 ?q3 ?q4 ?q5 ?q6 ?q7 ?q8 ?q9 ?q10 ?q11 ?q12 ?q13 ?q14; (case q1 => k_is); (case q2 => k_is); (case q3 => k_is); (case q4 => k_is); (case q5 => k_is); (case q6 => k_is); (case q7 => k_is); (case q8 => k_is); (case q9 => k_is); (case q10 => k_is); (case q11 => k_is); (case q12 => k_is); (case q13 => k_is); (case q14 => rfl)))
    (case hN19 => (refine' Ask.errN_mk ?q1 ?q2 ?q3 ?q4 ?q5 ?q6 ?q7 ?q8 ?q9 ?q10 ?q11 (Ask.n_one ?n0); (case q1 => k_is); (case q2 => k_is); (case q3 => k_is); (case q4 => k_is); (case q5 => k_is); (case q6 => k_is); (case q7 => k_is); (case q8 => rfl); (case q9 => k_is); (case q10 => k_is); (case q11 => k_is); (case n0 => k_is)))
    (case hK20 => (refine' Ask.errK_mk ?q1 ?q2 ?q3 ?q4 ?q5 ?q6 ?q7 ?q8 ?q9 ?q10 ?q11 ?q12 ?q13 ?q14; (case q1 => k_is); (case q2 => k_is); (case q3 => k_is); (case q4 => k_is); (case q5 => k_is); (case q6 => k_is); (case q7 => k_is); (case q8 => k_is); (case q9 => k_is); (case q10 => k_is); (case q11 => k_is); (case q12 => k_is); (case q13 => k_is); (case q14 => rfl)))
    (case hN20 => (refine' Ask.errN_mk ?q1 ?q2 ?q3 ?q4 ?q5 ?q6 ?q7 ?q8 ?q9 ?q10 ?q11 (Ask.n_one ?n0); (case q1 => k_is); (case q2 => k_is); (case q3 => k_is); (case q4 => k_is); (case q5 => k_is); (case q6 => k_is); (case q7 => k_is); (case q8 => rfl); (case q9 => k_is); (case q10 => k_is); (case q11 => k_is); (case n0 => k_is)))
    (case hK21 => (refine' Ask.errK_mk ?q1 ?q2 ?q3 ?q4 ?q5 ?q6 ?q7 ?q8 ?q9 ?q10 ?q11 ?q12 ?q13 ?q14; (case q1 => k_is); (case q2 => k_is); (case q3 => k_is); (case q4 => k_is); (case q5 => k_is); (case q6 => k_is); (case q7 => k_is); (case q8 => k_is); (case q9 => k_is); (case q10 => k_is); (case q11 => k_is); (case q12 => k_is); (case q13 => k_is); (case q14 => rfl)))
    (case hN21 => (refine' Ask.errN_mk ?q1 ?q2 ?q3 ?q4 ?q5 ?q6 ?q7 ?q8 ?q9 ?q10 ?q11 (Ask.n_cons ?n0 (Ask.n_one ?n1)); (case q1 => k_is); (case q2 => k_is); (case q3 => k_is); (case q4 => k_is); (case q5 => k_is); (case q6 => k_is); (case q7 => k_is); (case q8 => rfl); (case q9 => k_is); (case q10 => k_is); (case q11 => k_is); (case n0 => k_is); (case n1 => k_is)))
    (case hK22 => (refine' Ask.errK_mk ?q1 ?q2 ?q3 ?q4 ?q5 ?q6 ?q7 ?q8 ?q9 ?q10 ?q11 ?q12 ?q13 ?q14; (case q1 => k_is); (case q2 => k_is); (case q3 => k_is); (case q4 => k_is); (case q5 => k_is); (case q6 => k_is); (case q7 => k_is); (case q8 => k_is); (case q9 => k_is); (case q10 => k_is); (case q11 => k_is); (case q12 => k_is); (case q13 => k_is); (case q14 => rfl)))
    (case hN22 => (refine' Ask.errN_mk ?q1 ?q2 ?q3 ?q4 ?q5 ?q6 ?q7 ?q8 ?q9 ?q10 ?q11 (Ask.n_one ?n0); (case q1 => k_is); (case q2 => k_is); (case q3 => k_is); (case q4 => k_is); (case q5 => k_is); (case q6 => k_is); (case q7 => k_is); (case q8 => rfl); (case q9 => k_is); (case q10 => k_is); (case q11 => k_is); (case n0 => k_is)))
    (case hK23 => (refine' Ask.errK_mk ?q1 ?q2 ?q3 ?q4 ?q5 ?q6 ?q7 ?q8 ?q9 ?q10 ?q11 ?q12 ?q13 ?q14; (case q1 => k_is); (case q2 => k_is); (case q3 => k_is); (case q4 => k_is); (case q5 => k_is); (case q6 => k_is); (case q7 => k_is); (case q8 => k_is); (case q9 => k_is); (case q10 => k_is); (case q11 => k_is); (case q12 => k_is); (case q13 => k_is); (case q14 => rfl)))
    (case hN23 => (refine' Ask.errN_mk ?q1 ?q2 ?q3 ?q4 ?q5 ?q6 ?q7 ?q8 ?q9 ?q10 ?q11 (Ask.n_cons ?n0 (Ask.n_one ?n1)); (case q1 => k_is); (case q2 => k_is); (case q3 => k_is); (case q4 => k_is); (case q5 => k_is); (case q6 => k_is); (case q7 => k_is); (case q8 => rfl); (case q9 => k_is); (case q10 => k_is); (case q11 => k_is); (case n0 => k_is); (case n1 => k_is)))
    (case hK24 => (refine' Ask.errK_mk ?q1 ?q2 ?q3 ?q4 ?q5 ?q6 ?q7 ?q8 ?q9 ?q10 ?q11 ?q12 ?q13 ?q14; (case q1 => k_is); (case q2 => k_is); (case q3 => k_is); (case q4 => k_is); (case q5 => k_is); (case q6 => k_is); (case q7 => k_is); (case q8 => k_is); (case q9 => k_is); (case q10 => k_is); (case q11 => k_is); (case q12 => k_is); (case q13 => k_is); (case q14 => rfl)))
    (case hN24 => (refine' Ask.errN_mk ?q1 ?q2 ?q3 ?q4 ?q5 ?q6 ?q7 ?q8 ?q9 ?q10 ?q11 (Ask.n_one ?n0); (case q1 => k_is); (case q2 => k_is); (case q3 => k_is); (case q4 => k_is); (case q5 => k_is); (case q6 => k_is); (case q7 => k_is); (case q8 => rfl); (case q9 => k_is); (case q10 => k_is); (case q11 => k_is); (case n0 => k_is)))
    (case hK25 => (refine' Ask.errK_mk ?q1 ?q2 ?q3 ?q4 ?q5 ?q6 ?q7 ?q8 ?q9 ?q10 ?q11 ?q12 ?q13 ?q14; (case q1 => k_is); (case q2 => k_is); (case q3 => k_is); (case q4 => k_is); (case q5 => k_is); (case q6 => k_is); (case q7 => k_is); (case q8 => k_is); (case q9 => k_is); (case q10 => k_is); (case q11 => k_is); (case q12 => k_is); (case q13 => k_is); (case q14 => rfl)))
    (case hN25 => (refine' Ask.errN_mk ?q1 ?q2 ?q3 ?q4 ?q5 ?q6 ?q7 ?q8 ?q9 ?q10 ?q11 (Ask.n_one ?n0); (case q1 => k_is); (case q2 => k_is); (case q3 => k_is); (case q4 => k_is); (case q5 => k_is); (case q6 => k_is); (case q7 => k_is); (case q8 => rfl); (case q9 => k_is); (case q10 => k_is); (case q11 => k_is); (case n0 => k_is)))
    (case hK26 => (refine' Ask.errK_mk ?q1 ?q2 ?q3 ?q4 ?q5 ?q6 ?q7 ?q8 ?q9 ?q10 ?q11 ?q12 ?q13 ?q14; (case q1 => k_is); (case q2 => k_is); (case q3 => k_is); (case q4 => k_is); (case q5 => k_is); (case q6 => k_is); (case q7 => k_is); (case q8 => k_is); (case q9 => k_is); (case q10 => k_is); (case q11 => k_is); (case q12 => k_is); (case q13 => k_is); (case q14 => rfl)))
    (case hN26 => (refine' Ask.errN_mk ?q1 ?q2 ?q3 ?q4 ?q5 ?q6 ?q7 ?q8 ?q9 ?q10 ?q11 (Ask.n_one ?n0); (case q1 => k_is); (case q2 => k_is); (case q3 => k_is); (case q4 => k_is); (case q5 => k_is); (case q6 => k_is); (case q7 => k_is); (case q8 => rfl); (case q9 => k_is); (case q10 => k_is); (case q11 => k_is); (case n0 => k_is)))
    (case hK27 => (refine' Ask.errK_mk ?q1 ?q2 ?q3 ?q4 ?q5 ?q6 ?q7 ?q8 ?q9 ?q10 ?q11 ?q12 ?q13 ?q14; (case q1 => k_is); (case q2 => k_is); (case q3 => k_is); (case q4 => k_is); (case q5 => k_is); (case q6 => k_is); (case q7 => k_is); (case q8 => k_is); (case q9 => k_is); (case q10 => k_is); (case q11 => k_is); (case q12 => k_is); (case q13 => k_is); (case q14 => rfl)))
    (case hN27 => (refine' Ask.errN_mk ?q1 ?q2 ?q3 ?q4 ?q5 ?q6 ?q7 ?q8 ?q9 ?q10 ?q11 (Ask.n_one ?n0); (case q1 => k_is); (case q2 => k_is); (case q3 => k_is); (case q4 => k_is); (case q5 => k_is); (case q6 => k_is); (case q7 => k_is); (case q8 => rfl); (case q9 => k_is); (case q10 => k_is); (case q11 => k_is); (case n0 => k_is)))
    (case hK28 => (refine' Ask.errK_mk ?q1 ?q2 ?q3 ?q4 ?q5 ?q6 ?q7 ?q8 ?q9 ?q10 ?q11 ?q12 ?q13 ?q14; (case q1 => k_is); (case q2 => k_is); (case q3 => k_is); (case q4 => k_is); (case q5 => k_is); (case q6 => k_is); (case q7 => k_is); (case q8 => k_is); (case q9 => k_is); (case q10 => k_is); (case q11 => k_is); (case q12 => k_is); (case q13 => k_is); (case q14 => rfl)))
    (case hN28 => (refine' Ask.errN_mk ?q1 ?q2 ?q3 ?q4 ?q5 ?q6 ?q7 ?q8 ?q9 ?q10 ?q11 (Ask.n_one ?n0); (case q1 => k_is); (case q2 => k_is); (case q3 => k_is); (case q4 => k_is); (case q5 => k_is); (case q6 => k_is); (case q7 => k_is); (case q8 => rfl); (case q9 => k_is); (case q10 => k_is); (case q11 => k_is); (case n0 => k_is)))
    (case hK29 => (refine' Ask.errK_mk ?q1 ?q2 ?q3 ?q4 ?q5 ?q6 ?q7 ?q8 ?q9 ?q10 ?q11 ?q12 ?q13 ?q14; (case q1 => k_is); (case q2 => k_is); (case q3 => k_is); (case q4 => k_is); (case q5 => k_is); (case q6 => k_is); (case q7 => k_is); (case q8 => k_is); (case q9 => k_is); (case q10 => k_is); (case q11 => k_is); (case q12 => k_is); (case q13 => k_is); (case q14 => rfl)))
    (case ex29 => k_exc)
    (case hK30 => (refine' Ask.errK_mk ?q1 ?q2 ?q3 ?q4 ?q5 ?q6 ?q7 ?q8 ?q9 ?q10 ?q11 ?q12 ?q13 ?q14; (case q1 => k_is); (case q2 => k_is); (case q3 => k_is); (case q4 => k_is); (case q5 => k_is); (case q6 => k_is); (case q7 => k_is); (case q8 => k_is); (case q9 => k_is); (case q10 => k_is); (case q11 => k_is); (case q12 => k_is); (case q13 => k_is); (case q14 => rfl)))
    (case ex30 => k_exc)
    (case hK31 => (refine' Ask.errK_mk ?q1 ?q2 ?q3 ?q4 ?q5 ?q6 ?q7 ?q8 ?q9 ?q10 ?q11 ?q12 ?q13 ?q14; (case q1 => k_is); (case q2 => k_is); (case q3 => k_is); (case q4 => k_is); (case q5 => k_is); (case q6 => k_is); (case q7 => k_is); (case q8 => k_is); (case q9 => k_is); (case q10 => k_is); (case q11 => k_is); (case q12 => k_is); (case q13 => k_is); (case q14 => rfl)))
    (case ex31 => k_exc)
    (case hK32 => (refine' Ask.errK_mk ?q1 ?q2 ?q3 ?q4 ?q5 ?q6 ?q7 ?q8 ?q9 ?q10 ?q11 ?q12 ?q13 ?q14; (case q1 => k_is); (case q2 => k_is); (case q3 => k_is); (case q4 => k_is); (case q5 => k_is); (case q6 => k_is); (case q7 => k_is); (case q8 => k_is); (case q9 => k_is); (case q10 => k_is); (case q11 => k_is); (case q12 => k_is); (case q13 => k_is); (case q14 => rfl)))
    (case hN32 => (refine' Ask.errN_mk ?q1 ?q2 ?q3 ?q4 ?q5 ?q6 ?q7 ?q8 ?q9 ?q10 ?q11 (Ask.n_one ?n0); (case q1 => k_is); (case q2 => k_is); (case q3 => k_is); (case q4 => k_is); (case q5 => k_is); (case q6 => k_is); (case q7 => k_is); (case q8 => rfl); (case q9 => k_is); (case q10 => k_is); (case q11 => k_is); (case n0 => k_is)))
    (case hK33 => (refine' Ask.errK_mk ?q1 ?q2 ?q3 ?q4 ?q5 ?q6 ?q7 ?q8 ?q9 ?q10 ?q11 ?q12 ?q13 ?q14; (case q1 => k_is); (case q2 => k_is); (case q3 => k_is); (case q4 => k_is); (case q5 => k_is); (case q6 => k_is); (case q7 => k_is); (case q8 => k_is); (case q9 => k_is); (case q10 => k_is); (case q11 => k_is); (case q12 => k_is); (case q13 => k_is); (case q14 => rfl)))
    (case hN33 => (refine' Ask.errN_mk ?q1 ?q2 ?q3 ?q4 ?q5 ?q6 ?q7 ?q8 ?q9 ?q10 ?q11 (Ask.n_one ?n0); (case q1 => k_is); (case q2 => k_is); (case q3 => k_is); (case q4 => k_is); (case q5 => k_is); (case q6 => k_is); (case q7 => k_is); (case q8 => rfl); (case q9 => k_is); (case q10 => k_is); (case q11 => k_is); (case n0 => k_is)))
    (case hK34 => (refine' Ask.errK_mk ?q1 ?q2 ?q3 ?q4 ?q5 ?q6 ?q7 ?q8 ?q9 ?q10 ?q11 ?q12 ?q13 ?q14; (case q1 => k_is); (case q2 => k_is); (case q3 => k_is); (case q4 => k_is); (case q5 => k_is); (case q6 => k_is); (case q7 => k_is); (case q8 => k_is); (case q9 => k_is); (case q10 => k_is); (case q11 => k_is); (case q12 => k_is); (case q13 => k_is); (case q14 => rfl)))
    (case hN34 => (refine' Ask.errN_mk ?q1 ?q2 ?q3 ?q4 ?q5 ?q6 ?q7 ?q8 ?q9 ?q10 ?q11 (Ask.n_one ?n0); (case q1 => k_is); (case q2 => k_is); (case q3 => k_is); (case q4 => k_is); (case q5 => k_is); (case q6 => k_is); (case q7 => k_is); (case q8 => rfl); (case q9 => k_is); (case q10 => k_is); (case q11 => k_is); (case n0 => k_is)))
    (case hK35 => (refine' Ask.errK_mk ?q1 ?q2 ?q3 ?q4 ?q5 ?q6 ?q7 ?q8 ?q9 ?q10 ?q11 ?q12 ?q13 ?q14; (case q1 => k_is); (case q2 => k_is); (case q3 => k_is); (case q4 => k_is); (case q5 => k_is); (case q6 => k_is); (case q7 => k_is); (case q8 => k_is); (case q9 => k_is); (case q10 => k_is); (case q11 => k_is); (case q12 => k_is); (case q13 => k_is); (case q14 => rfl)))
    (case ex35 => k_exc)
    (case hK36 => (refine' Ask.errK_mk ?q1 ?q2 ?q3 ?q4 ?q5 ?q6 ?q7 ?q8 ?q9 ?q10 ?q11 ?q12 ?q13 ?q14; (case q1 => k_is); (case q2 => k_is); (case q3 => k_is); (case q4 => k_is); (case q5 => k_is); (case q6 => k_is); (case q7 => k_is); (case q8 => k_is); (case q9 => k_is); (case q10 => k_is); (case q11 => k_is); (case q12 => k_is); (case q13 => k_is); (case q14 => rfl)))
    (case hN36 => (refine' Ask.errN_mk ?q1 ?q2 ?q3 ?q4 ?q5 ?q6 ?q7 ?q8 ?q9 ?q10 ?q11 (Ask.n_cons ?n0 (Ask.n_one ?n1)); (case q1 => k_is); (case q2 => k_is); (case q3 => k_is); (case q4 => k_is); (case q5 => k_is); (case q6 => k_is); (case q7 => k_is); (case q8 => rfl); (case q9 => k_is); (case q10 => k_is); (case q11 => k_is); (case n0 => k_is); (case n1 => k_is)))
    (case hK37 => (refine' Ask.errK_mk ?q1 ?q2 ?q3 ?q4 ?q5 ?q6 ?q7 ?q8 ?q9 ?q10 ?q11 ?q12 ?q13 ?q14; (case q1 => k_is); (case q2 => k_is); (case q3 => k_is); (case q4 => k_is); (case q5 => k_is); (case q6 => k_is); (case q7 => k_is); (case q8 => k_is); (case q9 => k_is); (case q10 => k_is); (case q11 => k_is); (case q12 => k_is); (case q13 => k_is); (case q14 => rfl)))
    (case hN37 => (refine' Ask.errN_mk ?q1 ?q2 ?q3 ?q4 ?q5 ?q6 ?q7 ?q8 ?q9 ?q10 ?q11 (Ask.n_cons ?n0 (Ask.n_one ?n1)); (case q1 => k_is); (case q2 => k_is); (case q3 => k_is); (case q4 => k_is); (case q5 => k_is); (case q6 => k_is); (case q7 => k_is); (case q8 => rfl); (case q9 => k_is); (case q10 => k_is); (case q11 => k_is); (case n0 => k_is); (case n1 => k_is)))
    (case hK38 => (refine' Ask.errK_mk ?q1 ?q2 ?q3 ?q4 ?q5 ?q6 ?q7 ?q8 ?q9 ?q10 ?q11 ?q12 ?q13 ?q14; (case q1 => k_is); (case q2 => k_is); (case q3 => k_is); (case q4 => k_is); (case q5 => k_is); (case q6 => k_is); (case q7 => k_is); (case q8 => k_is); (case q9 => k_is); (case q10 => k_is); (case q11 => k_is); (case q12 => k_is); (case q13 => k_is); (case q14 => rfl)))
    (case hN38 => (refine' Ask.errN_mk ?q1 ?q2 ?q3 ?q4 ?q5 ?q6 ?q7 ?q8 ?q9 ?q10 ?q11 (Ask.n_one ?n0); (case q1 => k_is); (case q2 => k_is); (case q3 => k_is); (case q4 => k_is); (case q5 => k_is); (case q6 => k_is); (case q7 => k_is); (case q8 => rfl); (case q9 => k_is); (case q10 => k_is); (case q11 => k_is); (case n0 => k_is)))
    (case hK39 => (refine' Ask.errK_mk ?q1 ?q2 ?q3 ?q4 ?q5 ?q6 ?q7 ?q8 ?q9 ?q10 ?q11 ?q12 ?q13 ?q14; (case q1 => k_is); (case q2 => k_is); (case q3 => k_is); (case q4 => k_is); (case q5 => k_is); (case q6 => k_is); (case q7 => k_is); (case q8 => k_is); (case q9 => k_is); (case q10 => k_is); (case q11 => k_is); (case q12 => k_is); (case q13 => k_is); (case q14 => rfl)))
    (case ex39 => k_exc)
    (case nd => decide)
    (case z0 => k_is)
    (case z1 => k_is)
    (case z2 => k_is)
    (case z3 => k_is)
    (case z4 => k_is)
    (case z5 => k_is)
    (case z6 => k_is)
    (case z7 => k_is)
    (case z8 => k_is)
    (case z9 => k_is)
    (case z10 => k_is)
    (case z11 => k_is)
    (case z12 => k_is)
    (case z13 => k_is)
    (case z14 => k_is)
    (case z15 => k_is)
    (case z16 => k_is)
    (case z17 => k_is)
