import PyProof.Rows.All
import Wide.All
import OpenK.AllK
import Wide.FinOn
import HandS.ForMost
import HandS.Exc
import HandS.TryOnly
import HandS.ExcInit
import HandS.IsInst
import HandS.Style
import HandS.Wide
import HandS.Deep
import HandS.Walk
import HandS.ExcField
import HandS.WordsExc
import HandS.Flow
import KE.GoesEnum
import PyProof.ReprRoads
import HandS.ExcOwn
import HandS.List
import HandS.OwnEq
import PyProof.InstNe
import PyProof.EqKinds
import KE.KExcIs
import HandS.Strs
import HandS.TupLe
import HandS.TupAny
import HandS.Defaults
import HandS.Base
import HandS.Call
import HandS.More
import HandS.Zip
import PySem.Challenge.RW_asksmore_k80_the_menu
set_option Elab.async false
set_option linter.all false
set_option maxRecDepth 100000
set_option maxHeartbeats 4000000
namespace Ask
open PySem L2
def top (i : Nat) : Stmt := PySem.Challenge.pw_asksmore_k80_the_menu.main.body.getD i (.Pass ⟨0, 0, 0, 0⟩)
/-- the built-in names that the text calls -/
structure Blt (mg : Str → Option Value) : Prop where
  n_int : mg "int" = none
  n_len : mg "len" = none
  n_abs : mg "abs" = none
  n_list : mg "list" = none
  n_range : mg "range" = none
  n_min : mg "min" = none
  n_str : mg "str" = none
  n_isinstance : mg "isinstance" = none
  n_all : mg "all" = none
  n_enumerate : mg "enumerate" = none
  n_tuple : mg "tuple" = none
  n_repr : mg "repr" = none
/-- all but what stands at p is as it was -/
def Kp (p : Addr) (H H' : Hp) : Prop := ∀ b o, b ≠ p → H b = some o → H' b = some o
theorem Kp.refl (p : Addr) (H : Hp) : Kp p H H := fun _ _ _ h => h
theorem Kp.trans {p : Addr} {H H1 H2 : Hp} (a : Kp p H H1) (b : Kp p H1 H2) : Kp p H H2 := fun c o n h => b c o n (a c o n h)
theorem Kp.upd (p : Addr) (H : Hp) (o : HO) : Kp p H (upd H p o) := fun b u n h => by rw [upd_ne n]; exact h
theorem Kp.of {p : Addr} {H H' : Hp} (s : Same H H') : Kp p H H' := fun b o _ h => s b o h
theorem Kp.new {p q : Addr} {H H' : Hp} {o : HO} (k : Kp p H H') (h : H' q = none) : Kp p H (L2.upd H' q o) := fun b u n e => by
  rw [upd_ne (ne_of_none (k b u n e) h)]
  exact k b u n e
theorem kLC : ¬ ((Sum.inr ("rest" : Str) : Key) = Sum.inr ("cells" : Str)) := by decide +kernel
theorem kLB : ¬ ((Sum.inr ("rest" : Str) : Key) = Sum.inr ("at" : Str)) := by decide +kernel
theorem kBC : ¬ ((Sum.inr ("at" : Str) : Key) = Sum.inr ("cells" : Str)) := by decide +kernel
/-- what a pen holds -/
def pk (c : Addr) (b l : Int) : List (Key × V) := [(Sum.inr ("cells" : Str), .ref c), (Sum.inr ("at" : Str), .int b), (Sum.inr ("rest" : Str), .int l)]
theorem pk_cells (c : Addr) (b l : Int) : valV (pk c b l) (Sum.inr ("cells" : Str)) = some (.ref c) := valV_pos rfl
theorem pk_begun (c : Addr) (b l : Int) : valV (pk c b l) (Sum.inr ("at" : Str)) = some (.int b) :=
  (valV_neg (fun z => kBC z.symm)).trans (valV_pos rfl)
theorem pk_left (c : Addr) (b l : Int) : valV (pk c b l) (Sum.inr ("rest" : Str)) = some (.int l) :=
  (valV_neg (fun z => kLC z.symm)).trans ((valV_neg (fun z => kLB z.symm)).trans (valV_pos rfl))
theorem pk_putL (c : Addr) (b l m : Int) : putK (pk c b l) (Sum.inr ("rest" : Str)) (.int m) = pk c b m := by
  unfold putK pk
  have e : (([(Sum.inr ("cells" : Str), .ref c), (Sum.inr ("at" : Str), .int b), (Sum.inr ("rest" : Str), .int l)] : List (Key × V)).any fun kv => decide (kv.1 = Sum.inr ("rest" : Str))) = true := by simp
  rw [if_pos e]
  simp only [List.map_cons, List.map_nil]
  rw [if_neg (fun z => kLC z.symm), if_neg (fun z => kLB z.symm)]
  rfl
theorem pk_putB (c : Addr) (b l m : Int) : putK (pk c b l) (Sum.inr ("at" : Str)) (.int m) = pk c m l := by
  unfold putK pk
  have e : (([(Sum.inr ("cells" : Str), .ref c), (Sum.inr ("at" : Str), .int b), (Sum.inr ("rest" : Str), .int l)] : List (Key × V)).any fun kv => decide (kv.1 = Sum.inr ("at" : Str))) = true := by simp
  rw [if_pos e]
  simp only [List.map_cons, List.map_nil]
  rw [if_neg (fun z => kBC z.symm), if_neg kLB]
  rfl
/-- at p a pen over the cells ns at c, of which at most B were begun -/
def Pen (c : Addr) (ns : List Int) (H : Hp) (p : Addr) (B : Nat) : Prop := ∃ (b l : Int), H p = some (.dK (pk c b l)) ∧ H c = some (.lst (ns.map V.int)) ∧ ns.length ≤ 63 ∧ 0 ≤ b ∧ b ≤ (B : Int)
/-- from H0 to H all but the pen stands as it stood, and the pen is a pen -/
structure Go (p c : Addr) (ns : List Int) (H0 H : Hp) (B : Nat) : Prop where
  kp : Kp p H0 H
  pen : Pen c ns H p B
  base : ∃ A, Pen c ns H0 p A
section
variable {p c q a : Addr} {ns : List Int} {H0 H H' : Hp} {A B : Nat} {o : HO} {xs : List V} {K : PySem.W.Frag}
theorem Pen.mono (h : Pen c ns H p A) (le : A ≤ B) : Pen c ns H p B := by
  obtain ⟨b, l, h1, h2, h3, h4, h5⟩ := h
  exact ⟨b, l, h1, h2, h3, h4, by omega⟩
theorem Pen.at (h : Pen c ns H p A) : ∃ o, H p = some o := by
  obtain ⟨b, l, h1, _⟩ := h
  exact ⟨_, h1⟩
theorem Pen.upd (h : Pen c ns H p A) (h1 : q ≠ p) (h2 : q ≠ c) : Pen c ns (L2.upd H q o) p A := by
  obtain ⟨b, l, e1, e2, e3⟩ := h
  exact ⟨b, l, by rw [upd_ne h1.symm]; exact e1, by rw [upd_ne h2.symm]; exact e2, e3⟩
theorem Go.refl (h : Pen c ns H p B) : Go p c ns H H B := ⟨Kp.refl p H, h, B, h⟩
theorem Go.step (g : Go p c ns H0 H A) (g' : Go p c ns H H' B) : Go p c ns H0 H' B := ⟨g.kp.trans g'.kp, g'.pen, g.base⟩
theorem Go.mono (g : Go p c ns H0 H A) (le : A ≤ B) : Go p c ns H0 H B := ⟨g.kp, g.pen.mono le, g.base⟩
/-- fresh later is fresh before -/
theorem Go.free (g : Go p c ns H0 H B) (n : H q = none) : H0 q = none := by
  by_cases e : q = p
  · subst e
    obtain ⟨o, z⟩ := g.pen.at
    rw [z] at n
    cases n
  · cases z : H0 q with
    | none => rfl
    | some o =>
      rw [g.kp q o e z] at n
      cases n
theorem Go.ne (g : Go p c ns H0 H B) (n : H0 q = none) : q ≠ p ∧ q ≠ c := by
  obtain ⟨A, b, l, h1, h2, _⟩ := g.base
  refine ⟨fun e => ?_, fun e => ?_⟩
  · rw [e, h1] at n
    cases n
  · rw [e, h2] at n
    cases n
/-- what H0 did not know may change -/
theorem Go.mut (g : Go p c ns H0 H B) (n : H0 q = none) : Go p c ns H0 (upd H q o) B :=
  ⟨fun b u e z => by
    rw [upd_ne (ne_of_none z n)]
    exact g.kp b u e z, g.pen.upd (g.ne n).1 (g.ne n).2, g.base⟩
theorem Go.new (g : Go p c ns H0 H B) (n : H q = none) : Go p c ns H0 (upd H q o) B := g.mut (g.free n)
theorem Go.same (g : Go p c ns H0 H B) (s : Same H H') : Go p c ns H0 H' B := by
  obtain ⟨b, l, h1, h2, h3⟩ := g.pen
  exact ⟨g.kp.trans (Kp.of s), ⟨b, l, s _ _ h1, s _ _ h2, h3⟩, g.base⟩
theorem Go.at (g : Go p c ns H0 H B) (e : H0 a = some o) (d : ∀ kvs, o ≠ .dK kvs) : H a = some o := by
  obtain ⟨A, b, l, h1, _⟩ := g.base
  exact g.kp _ _ (ne_of e h1 (d _)) e
theorem Go.lst (g : Go p c ns H0 H B) (e : H0 a = some (.lst xs)) : H a = some (.lst xs) := g.at e (by intro _ z; cases z)
theorem Go.tup (g : Go p c ns H0 H B) (e : H0 a = some (.tup xs)) : H a = some (.tup xs) := g.at e (by intro _ z; cases z)
theorem Go.seq (g : Go p c ns H0 H B) (q : SqL K H0 a xs) : SqL K H a xs := by
  rcases q with (q | ⟨o, q⟩) | q
  · exact .inl (.inl (g.lst q))
  · exact .inl (.inr ⟨o, g.at q (by intro _ z; cases z)⟩)
  · exact .inr q
end

/-- x = a if c else b, its two ways met -/
theorem seqIf_cut {t : TT} {ta tb : TE} {g : TG} {u : TS} {D : Ends} {σ : L2.St} {H : Hp} (Pv : V → Hp → Prop) (h : ∀ Q' : VK, (∀ v H', Pv v H' → Q' v H') → tIf t ta tb σ H Q') (hq : ∀ v H', Pv v H' → g v σ H' (u D)) :
    tSeq (tAsg (tIf t ta tb) g) u D σ H := h _ hq
/-- if c: body, the ways past it met -/
theorem seqIfS_cut {c : TT} {t v u : TS} {D : Ends} {σ : L2.St} {H : Hp} (hn : u D σ H) (h : ∀ N : L2.St → Hp → Prop, N σ H → tIfS c t v { D with nx := N } σ H) : tSeq (tIfS c t v) u D σ H := h (u D) hn

/-- if c: body else: other, its ways met in Mid -/
theorem seqIf_mid {c : TT} {t v u : TS} {D : Ends} {σ : L2.St} {H : Hp} (Mid : L2.St → Hp → Prop) (h : ∀ N : L2.St → Hp → Prop, (∀ σ' H', Mid σ' H' → N σ' H') → tIfS c t v { D with nx := N } σ H) (hq : ∀ σ' H', Mid σ' H' → u D σ' H') :
    tSeq (tIfS c t v) u D σ H := h (u D) hq
/-- what is made new leaves the rest -/
theorem Same.made1 {H H' : Hp} {a : Addr} {o : HO} (s : Same H H') (h : H' a = none) : Same H (upd H' a o) := fun b u e => by
  have q := s b u e
  rw [upd_ne (ne_of_none q h)]
  exact q
/-! ### the draw -/
def spDraw : Sp := fun vs H Q _ => ∃ (p c : Addr) (ns : List Int) (m : Int) (B : Nat), vs = [.ref p, .int m] ∧ Pen c ns H p B ∧ B ≤ 1000000000 ∧ 0 < m ∧ m < 1073741824 ∧
  ∀ (H' : Hp) (r : Int), Go p c ns H H' (B + 1) → 0 ≤ r → r < m → Q (.int r) H'
section
variable {P : Program} {w : World} {K : PySem.W.Frag} {mg : Str → Option Value} {base : Heap}
abbrev s__law_draw : Stmt := top 30
theorem sc__law_draw : FnScope ["_law_pen_here", "_law_many", "_law_digit", "_law_at", "_law_cell", "_law_mixed"] ["_law_pen_here", "_law_many"] (defScope s__law_draw) := ⟨rfl, rfl, rfl, by decide +kernel, rfl, by decide +kernel, by decide +kernel⟩
theorem data_ints {K : PySem.W.Frag} {H : Hp} : ∀ ns : List Int, DpAll K H (ns.map V.int) (ns.map PyData.int)
  | [] => .nil
  | n :: ns => .cons (.int n) (data_ints ns)
theorem lay_ints : ∀ ns : List Int, PyData.canLayAll0 (ns.map PyData.int) = true ∧ PyData.depthAll (ns.map PyData.int) = 0
  | [] => ⟨rfl, rfl⟩
  | n :: ns => by
    obtain ⟨h1, h2⟩ := lay_ints ns
    refine ⟨?_, ?_⟩
    · show (true && PyData.canLayAll0 (ns.map PyData.int)) = true
      rw [h1]
      rfl
    · show max 0 (PyData.depthAll (ns.map PyData.int)) = 0
      rw [h2]
      rfl
theorem shaped_ints (ns : List Int) : SeqAt.shaped (.list (ns.map PyData.int)) = true := by
  obtain ⟨h1, h2⟩ := lay_ints ns
  have a : PyData.canLay0 (.list (ns.map PyData.int)) = true := h1
  have b : (PyData.list (ns.map PyData.int)).depth ≤ 64 := by
    show PyData.depthAll (ns.map PyData.int) + 1 ≤ 64
    rw [h2]
    decide
  unfold SeqAt.shaped
  simp [a, b]
theorem eqv_none (ds : List PyData) : PyData.eqv (.list ds) (.list []) = ds.isEmpty := by
  cases ds with
  | nil => simp [PyData.eqv, PyData.eqvAll]
  | cons d ds => simp [PyData.eqv, PyData.eqvAll]
theorem div_ok {i j : Int} (h : 0 < j) (h2 : j < 1073741824) : CDivW i j := wide_div (b := 30) h (by omega) (by decide) (by decide)
theorem mul_small {i j : Int} (h : -(2 ^ 64) < i ∧ i < 2 ^ 64) : CMul i j := .inl h
theorem ok_draw {f : Addr} {fd : FuncData} (F : Fun K "_law_draw" "_law_draw" s__law_draw f fd) (T : Blt mg) : FnOk P w K mg base CX0 1 f fd ["_law_pen_here", "_law_many"] spDraw := by
  refine F.ok sc__law_draw (fun vs H Q E h => ?_) (fun cdv A outer s H vs Q E hr h => ?_)
  · obtain ⟨p, c, ns, m, B, rfl, _⟩ := h
    rfl
  · obtain ⟨p, c, ns, m, B, rfl, hpen, hB, hm0, hm1, k⟩ := h
    obtain ⟨b, l, hp, hc, hl, hb0, hbB⟩ := id hpen
    have hu := hu_of hr
    refine ⟨_, (pss_cons (ps_if (pt_cmpR op_gt (pe_dget hu (pv 0) pe_str (fun _ _ => rfl)) pe_int (nomark _)) (pss_cons (ps_set (i := 2) sc__law_draw.nd rfl (Or.inl rfl) (pe_op op_mod (pe_callTy call_int1 (by rfl) T.n_int (by decide +kernel) (pa_cons (pe_dget hu (pv 0) pe_str (fun _ _ => rfl)) pa_nil)) (pv 1)))
      (pss_cons (ps_dput hu (pv 0) pe_str (pe_op op_fdivW (pe_dget hu (pv 0) pe_str (fun _ _ => rfl)) (pv 1)) rfl)
      (pss_one (ps_ret (pv 2))))) pss_nil)
      (pss_cons (ps_set (i := 3) sc__law_draw.nd rfl (Or.inl rfl) (pe_dget hu (pv 0) pe_str (fun _ _ => rfl)))
      (pss_cons (ps_dput hu (pv 0) pe_str (pe_op op_add (pv 3) pe_int) rfl)
      (pss_cons (ps_set (i := 4) sc__law_draw.nd rfl (Or.inl rfl) (pe_op op_add (pe_op op_mul pe_int (pv 3)) pe_int))
      (pss_cons (ps_if (pt_cmpR (op_neD hr.units) (pe_dget hu (pv 0) pe_str (fun _ _ => rfl)) (pe_lst pa_nil) (nomark _)) (pss_one (ps_set (i := 4) sc__law_draw.nd rfl (Or.inl rfl) (pe_ix ix_list (pe_dget hu (pv 0) pe_str (fun _ _ => rfl)) (pe_op op_mod (pe_callTy call_int1 (by rfl) T.n_int (by decide +kernel) (pa_cons (pv 3) pa_nil)) (pe_callB call_len_seq (by rfl) T.n_len (by decide +kernel) (pa_cons (pe_dget hu (pv 0) pe_str (fun _ _ => rfl)) pa_nil))) (fun _ _ => rfl)))) pss_nil)
      (pss_cons (ps_if (PW.pt (pw_and (pt_cmpR op_lt (pv 3) (pe_callB call_len_seq (by rfl) T.n_len (by decide +kernel) (pa_cons (pe_dget hu (pv 0) pe_str (fun _ _ => rfl)) pa_nil)) (nomark _)) (pw_and1 (pt_cmpR op_ge (pe_callB call_abs (by rfl) T.n_abs (by decide +kernel) (pa_cons (pv 4) pa_nil)) (pe_op op_pow pe_int pe_int) (nomark _))))) (pss_cons (ps_dput hu (pv 0) pe_str (pe_op op_fdivW (pe_op op_sub (pe_callB call_abs (by rfl) T.n_abs (by decide +kernel) (pa_cons (pv 4) pa_nil)) (pe_op op_pow pe_int pe_int)) (pv 1)) rfl)
      (pss_one (ps_ret (pe_op op_mod (pe_callTy call_int1 (by rfl) T.n_int (by decide +kernel) (pa_cons (pe_op op_sub (pe_callB call_abs (by rfl) T.n_abs (by decide +kernel) (pa_cons (pv 4) pa_nil)) (pe_op op_pow pe_int pe_int)) pa_nil)) (pv 1))))) pss_nil)
      (pss_cons (ps_set (i := 5) sc__law_draw.nd rfl (Or.inl rfl) (pe_op op_add (pe_op op_mul (pe_op op_mod (pe_callTy call_int1 (by rfl) T.n_int (by decide +kernel) (pa_cons (pv 4) pa_nil)) pe_int) pe_int) (pe_op op_mul (pe_op op_mul pe_int (pv 3)) (pv 3))))
      (pss_cons (ps_set (i := 5) sc__law_draw.nd rfl (Or.inl rfl) (pe_op op_mod (pe_callTy call_int1 (by rfl) T.n_int (by decide +kernel) (pa_cons (pe_op op_add (pe_op op_add (pv 5) (pe_op op_mul pe_int (pv 3))) pe_int) pa_nil)) pe_int))
      (pss_cons (ps_set (i := 5) sc__law_draw.nd rfl (Or.inl rfl) (pe_op op_mod (pe_callTy call_int1 (by rfl) T.n_int (by decide +kernel) (pa_cons (pe_op op_add (pe_op op_add (pe_op op_add (pe_op op_mul (pv 5) (pv 5)) (pe_op op_mul pe_int (pv 5))) (pe_op op_mul pe_int (pv 3))) pe_int) pa_nil)) pe_int))
      (pss_one (ps_ret (pe_op op_mod (pe_callTy call_int1 (by rfl) T.n_int (by decide +kernel) (pa_cons (pe_op op_fdivW (pe_op op_mod (pe_callTy call_int1 (by rfl) T.n_int (by decide +kernel) (pa_cons (pe_op op_mul (pv 5) (pe_op op_add (pv 5) pe_int)) pa_nil)) pe_int) pe_int) pa_nil)) (pv 1))))))))))))), ?_⟩
    have gL : ∀ {H : Hp} {b l : Int}, H p = some (.dK (pk c b l)) → DGet H p (.str "rest") (some (.int l)) := fun e => by
      have z := DGet.k (k := Sum.inr ("rest" : Str)) e
      rw [pk_left] at z
      exact z
    have gB : ∀ {H : Hp} {b l : Int}, H p = some (.dK (pk c b l)) → DGet H p (.str "at") (some (.int b)) := fun e => by
      have z := DGet.k (k := Sum.inr ("at" : Str)) e
      rw [pk_begun] at z
      exact z
    have gC : ∀ {H : Hp} {b l : Int}, H p = some (.dK (pk c b l)) → DGet H p (.str "cells") (some (.ref c)) := fun e => by
      have z := DGet.k (k := Sum.inr ("cells" : Str)) e
      rw [pk_cells] at z
      exact z
    have three : ∀ b l : Int, (pk c b l).length < sizeLine := fun b l => by show 3 < sizeLine; decide
    have pL : ∀ {H : Hp} {b l : Int} (m : Int), H p = some (.dK (pk c b l)) → DPut H p (.str "rest") (.int m) (upd H p (.dK (pk c b m))) := fun m e => by
      have z := DPut.k (k := Sum.inr ("rest" : Str)) (v := .int m) e (three _ _)
      rw [pk_putL] at z
      exact z
    have pB : ∀ {H : Hp} {b l : Int} (m : Int), H p = some (.dK (pk c b l)) → DPut H p (.str "at") (.int m) (upd H p (.dK (pk c m l))) := fun m e => by
      have z := DPut.k (k := Sum.inr ("at" : Str)) (v := .int m) e (three _ _)
      rw [pk_putB] at z
      exact z
    have ncp : c ≠ p := ne_of hc hp (by intro z; cases z)
    -- if pen['left'] > 0
    refine ⟨_, rfl, p, _, rfl, gL hp, _, _, rfl, rfl, _, rfl, ?_⟩
    refine ite2 (fun h0 => ?_) (fun h0 => ?_)
    · -- digit = int(left) % many; left = left // many; return digit
      refine ⟨_, rfl, p, _, rfl, gL hp, .inl ⟨_, rfl, _, rfl, _, _, rfl, rfl, hm0, ?_⟩⟩
      refine ⟨_, rfl, p, _, rfl, gL hp, _, rfl, _, _, rfl, rfl, div_ok hm0 hm1, _, rfl, p, _, rfl, pL _ hp, ?_⟩
      refine ⟨_, rfl, ?_⟩
      refine k _ _ ⟨Kp.upd _ _ _, ⟨b, _, upd_same, by rw [upd_ne ncp]; exact hc, hl, hb0, by omega⟩, B, hpen⟩ (Int.emod_nonneg _ (by omega)) (Int.emod_lt_of_pos _ hm0)
    · -- at = pen['at']; pen['at'] = at + 1
      refine ⟨_, rfl, p, _, rfl, gB hp, ?_⟩
      refine ⟨_, rfl, _, _, rfl, rfl, _, rfl, p, _, rfl, pB _ hp, ?_⟩
      have hp1 : upd H p (.dK (pk c (b + 1) l)) p = some (.dK (pk c (b + 1) l)) := upd_same
      have hc1 : upd H p (.dK (pk c (b + 1) l)) c = some (.lst (ns.map V.int)) := by rw [upd_ne ncp]; exact hc
      have k1 : Kp p H (upd H p (.dK (pk c (b + 1) l))) := Kp.upd _ _ _
      have pen1 : Pen c ns (upd H p (.dK (pk c (b + 1) l))) p (B + 1) := ⟨b + 1, l, hp1, hc1, hl, by omega, by omega⟩
      generalize upd H p (.dK (pk c (b + 1) l)) = H1 at hp1 hc1 k1 pen1 ⊢
      -- cell: some int
      refine ⟨_, rfl, _, _, rfl, rfl, mul_small (by omega), _, _, rfl, rfl, ?_⟩
      try dsimp only
      refine seqIf_mid (fun σ' H' => ∃ z : Int, σ' = [some (.ref p), some (.int m), none, some (.int b), some (.int z), none] ∧ Same H1 H') (fun N hN => ?_) (fun σ' H2 hm => ?_)
      · refine ⟨_, rfl, p, _, rfl, gC hp1, Nat.zero_le _, fun u hu0 => ?_⟩
        have s1 := Ask.Same.made1 (o := .lst []) (Same.refl H1) hu0
        have fu : upd H1 u (.lst []) u = some (.lst []) := upd_same
        generalize upd H1 u (.lst []) = H2 at s1 fu ⊢
        refine ⟨.list (ns.map PyData.int), .list [], .lst (SqL.of (s1 _ _ hc1)) (data_ints ns), .lst (SqL.of fu) .nil, shaped_ints ns, by decide, _, rfl, ?_⟩
        rw [eqv_none]
        cases ns with
        | nil => exact iteF (hN _ _ ⟨_, rfl, s1⟩)
        | cons n0 ns0 =>
          refine iteT ?_
          have h1 : (0 : Int) < ((n0 :: ns0).length : Nat) := by rw [List.length_cons]; omega
          have e0 : 0 ≤ b % ((n0 :: ns0).length : Int) := Int.emod_nonneg _ (by omega)
          have e1 : b % ((n0 :: ns0).length : Int) < ((n0 :: ns0).length : Int) := Int.emod_lt_of_pos _ h1
          have e2 : (b % ((n0 :: ns0).length : Int)).toNat < (n0 :: ns0).length := by omega
          refine ⟨_, rfl, p, _, rfl, gC (s1 _ _ hp1), _, rfl, ?_⟩
          refine .inl ⟨_, rfl, _, rfl, p, _, rfl, gC (s1 _ _ hp1), c, _, rfl, .inl (SqL.of (s1 _ _ hc1)), _, _, rfl, rfl, (by rw [List.length_map]; exact h1), c, (n0 :: ns0).map V.int, _, V.int (n0 :: ns0)[(b % ((n0 :: ns0).length : Int)).toNat], rfl, rfl, SqL.of (s1 _ _ hc1), ?_, hN _ _ ⟨_, rfl, s1⟩⟩
          rw [List.length_map]
          refine at_of (j := (b % ((n0 :: ns0).length : Int)).toNat) (by omega) ?_
          rw [List.getElem?_map, List.getElem?_eq_getElem e2]
          rfl
      obtain ⟨z, rfl, s2⟩ := hm
      replace hp1 := s2 _ _ hp1
      replace hc1 := s2 _ _ hc1
      replace k1 := k1.trans (Kp.of s2)
      replace pen1 : Pen c ns H2 p (B + 1) := ⟨b + 1, l, hp1, hc1, hl, by omega, by omega⟩
      clear s2
      refine seqIfS_cut ?_ (fun N q => ?_)
      · have m0 := Int.emod_nonneg z (show (4294967231 : Int) ≠ 0 by decide)
        have m1 := Int.emod_lt_of_pos z (show (0 : Int) < 4294967231 by decide)
        refine ⟨_, rfl, .inl ⟨_, rfl, _, _, rfl, rfl, (by show (0 : Int) < _; decide), _, _, rfl, rfl, mul_small (by omega), ?_⟩⟩
        refine ⟨_, rfl, _, _, rfl, rfl, mul_small (by omega), _, rfl, _, _, rfl, rfl, mul_small (by omega), _, _, rfl, rfl, ?_⟩
        generalize z % 4294967231 * 40503 + 12011 * b * b = w0
        refine ⟨_, rfl, _, rfl, _, _, rfl, rfl, mul_small (by omega), _, _, rfl, rfl, _, _, rfl, rfl, .inl ⟨_, rfl, _, _, rfl, rfl, (by show (0 : Int) < _; decide), ?_⟩⟩
        generalize hx : (w0 + 977 * b + 7) % 4294967197 = x
        have x0 : 0 ≤ x := by rw [← hx]; exact Int.emod_nonneg _ (by decide)
        have x1 : x < 4294967197 := by rw [← hx]; exact Int.emod_lt_of_pos _ (by decide)
        clear hx
        refine ⟨_, rfl, _, rfl, _, _, rfl, rfl, mul_small (by omega), _, rfl, _, _, rfl, rfl, mul_small (by omega), _, _, rfl, rfl, _, rfl, _, _, rfl, rfl, mul_small (by omega), _, _, rfl, rfl, _, _, rfl, rfl, .inl ⟨_, rfl, _, _, rfl, rfl, (by show (0 : Int) < _; decide), ?_⟩⟩
        generalize hy : (x * x + 25214903 * x + 19 * b + 3) % 4294967189 = y
        have y0 : 0 ≤ y := by rw [← hy]; exact Int.emod_nonneg _ (by decide)
        have y1 : y < 4294967189 := by rw [← hy]; exact Int.emod_lt_of_pos _ (by decide)
        clear hy
        refine ⟨_, rfl, _, rfl, _, _, rfl, rfl, _, _, rfl, rfl, mul_small (by omega), .inl ⟨_, rfl, _, _, rfl, rfl, (by show (0 : Int) < _; decide), _, _, rfl, rfl, div_ok (by decide) (by decide), .inl ⟨_, rfl, _, rfl, _, _, rfl, rfl, hm0, ?_⟩⟩⟩
        exact k _ _ ⟨k1, pen1, B, hpen⟩ (Int.emod_nonneg _ (by omega)) (Int.emod_lt_of_pos _ hm0)
      · refine ⟨_, rfl, _, rfl, p, _, rfl, gC hp1, c, _, rfl, .inl (SqL.of hc1), _, _, rfl, rfl, _, rfl, ?_⟩
        refine ite2 (fun h1 => ?_) (fun h1 => ?_)
        · refine ⟨_, rfl, _, rfl, _, _, rfl, rfl, (by refine ⟨by decide, by decide, by decide⟩), _, _, rfl, rfl, _, rfl, ?_⟩
          refine ite2 (fun h2 => ?_) (fun h2 => q)
          refine ⟨_, rfl, _, rfl, _, _, rfl, rfl, (by refine ⟨by decide, by decide, by decide⟩), _, _, rfl, rfl, _, rfl, _, _, rfl, rfl, div_ok hm0 hm1, _, rfl, p, _, rfl, pL _ hp1, ?_⟩
          refine ⟨_, rfl, _, rfl, _, _, rfl, rfl, (by refine ⟨by decide, by decide, by decide⟩), _, _, rfl, rfl, .inl ⟨_, rfl, _, rfl, _, _, rfl, rfl, hm0, ?_⟩⟩
          refine k _ _ ⟨k1.trans (Kp.upd _ _ _), ⟨b + 1, _, upd_same, by rw [upd_ne ncp]; exact hc1, hl, by omega, by omega⟩, B, hpen⟩ (Int.emod_nonneg _ (by omega)) (Int.emod_lt_of_pos _ hm0)
        · exact iteF q
end
end Ask

namespace Ask
open PySem L2
section
variable {P : Program} {w : World} {K : PySem.W.Frag} {mg : Str → Option Value} {base : Heap}
/-! ### the pen -/
def spPen (K : PySem.W.Frag) : Sp := fun vs H Q _ => ∃ (a : Addr) (ns : List Int), vs = [.ref a] ∧ SqL K H a (ns.map V.int) ∧ ns.length ≤ 63 ∧
  ∀ (H' : Hp) (p c : Addr), Same H H' → H p = none → Pen c ns H' p 0 → Q (.ref p) H'
abbrev s__law_pen : Stmt := top 29
theorem sc__law_pen : FnScope ["_law_script"] ["_law_script"] (defScope s__law_pen) := ⟨rfl, rfl, rfl, by decide +kernel, rfl, by decide +kernel, by decide +kernel⟩
theorem pk_made (c : Addr) (b l : Int) : mergeK [] [(Sum.inr ("cells" : Str), .ref c), (Sum.inr ("at" : Str), .int b), (Sum.inr ("rest" : Str), .int l)] = pk c b l := by
  have e1 : putK ([] : List (Key × V)) (Sum.inr ("cells" : Str)) (.ref c) = [(Sum.inr ("cells" : Str), .ref c)] := putK_new _ rfl
  have e2 : putK [((Sum.inr ("cells" : Str) : Key), V.ref c)] (Sum.inr ("at" : Str)) (.int b) = [(Sum.inr ("cells" : Str), .ref c), (Sum.inr ("at" : Str), .int b)] :=
    putK_new _ ((valV_neg (fun z => kBC z.symm)).trans rfl)
  have e3 : putK [((Sum.inr ("cells" : Str) : Key), V.ref c), (Sum.inr ("at" : Str), .int b)] (Sum.inr ("rest" : Str)) (.int l) = pk c b l :=
    putK_new _ ((valV_neg (fun z => kLC z.symm)).trans ((valV_neg (fun z => kLB z.symm)).trans rfl))
  unfold mergeK
  simp only [List.foldl_cons, List.foldl_nil]
  rw [e1, e2, e3]
theorem at_by {α : Type} {xs : List α} {z : Int} {j : Nat} {v : α} (e : z = (j : Int)) (h : xs[j]? = some v) : atI xs z = some v := by
  subst e
  exact atI_nat h
theorem cutV_whole (xs : List V) (n : Nat) (h : xs.length ≤ n) : cutV xs none (some (n : Int)) = xs := by
  unfold cutV
  rw [HT.sIx_none, HT.sIx_nat, List.drop_zero, Nat.sub_zero, Nat.min_eq_right h, List.take_length]
theorem ok_pen {f : Addr} {fd : FuncData} (F : Fun K "_law_pen" "_law_pen" s__law_pen f fd) (T : Blt mg) : FnOk P w K mg base CX0 1 f fd ["_law_script"] (spPen K) := by
  refine F.ok sc__law_pen (fun vs H Q E h => ?_) (fun cdv A outer s H vs Q E hr h => ?_)
  · obtain ⟨a, ns, rfl, _⟩ := h
    rfl
  · obtain ⟨a, ns, rfl, hS, hl, k⟩ := h
    refine ⟨_, (pss_one (ps_ret (pe_disp (pps_cons pe_str (pe_callTy call_list_of (by rfl) T.n_list (by decide +kernel) (pa_cons (pe_slice sl_list (pv 0) po_none (po_some pe_int)) pa_nil)) (pps_cons pe_str pe_int (pps_cons pe_str pe_int pps_nil))) (by rfl) (by rfl) (fun z => by cases z) (by decide)))), ?_⟩
    intro p hp
    have s0 : Same H (upd H p (.dK [])) := fun b o e => by rw [upd_ne (ne_of_none e hp)]; exact e
    refine ⟨_, rfl, _, rfl, a, _, rfl, s0.seq hS, fun q hq => ?_⟩
    rw [show cutV (ns.map V.int) none (some 63) = ns.map V.int from cutV_whole _ 63 (by rw [List.length_map]; exact hl)]
    refine ⟨q, _, rfl, .inl (SqL.of upd_same), fun c hc => ?_⟩
    have npq : p ≠ q := ne_of_none upd_same hq
    have hq0 : H q = none := by
      rw [upd_ne npq.symm] at hq
      exact hq
    have ncq : c ≠ q := fun e => by
      rw [e, upd_same] at hc
      cases hc
    have hc1 : upd H p (.dK []) c = none := by
      rw [upd_ne ncq] at hc
      exact hc
    have npc : p ≠ c := ne_of_none upd_same hc1
    have hc0 : H c = none := by
      rw [upd_ne npc.symm] at hc1
      exact hc1
    refine ⟨by rw [upd_ne npc, upd_ne npq, upd_same], [(Sum.inr ("cells" : Str), .ref c), (Sum.inr ("at" : Str), .int 0), (Sum.inr ("rest" : Str), .int 0)], rfl, (by show 3 ≤ 15; decide), ?_⟩
    rw [pk_made]
    refine k _ p c (fun b o e => ?_) hp ⟨0, 0, upd_same, by rw [upd_ne npc.symm, upd_same], hl, Int.le_refl _, Int.le_refl _⟩
    rw [upd_ne (ne_of_none e hp), upd_ne (ne_of_none e hc0), upd_ne (ne_of_none e hq0), upd_ne (ne_of_none e hp)]
    exact e

/-! ### the pick -/
def spPick (K : PySem.W.Frag) : Sp := fun vs H Q _ => ∃ (p c : Addr) (ns : List Int) (x : V) (B : Nat), vs = [.ref p, x] ∧ Pen c ns H p B ∧ B ≤ 1000000000 ∧
  ((∃ a xs, x = .ref a ∧ SqL K H a xs ∧ 0 < xs.length ∧ xs.length ≤ 1000 ∧ ∀ (H' : Hp) (v : V), Go p c ns H H' (B + 1) → v ∈ xs → Q v H') ∨
    (∃ z : Str, x = .str z ∧ 0 < z.length ∧ z.length ≤ 1000 ∧ ∀ (H' : Hp) (i : Nat), Go p c ns H H' (B + 1) → i ∈ z.cps.toList → Q (.str ⟨#[i]⟩) H'))
abbrev s__law_pick : Stmt := top 31
theorem sc__law_pick : FnScope ["_law_pen_here", "_law_items"] ["_law_pen_here", "_law_items"] (defScope s__law_pick) := ⟨rfl, rfl, rfl, by decide +kernel, rfl, by decide +kernel, by decide +kernel⟩
/-- a def of the text called by its name: where it stands, that it stays, how its arguments bind -/
structure At (K : PySem.W.Frag) (mg : Str → Option Value) (x : Str) (f : Addr) (fd : FuncData) (ps : List Str) : Prop where
  m : mg x = some (.ref f)
  k : PySem.W.keepIn K (.ref f) = true
  b : Binds K fd ps []
theorem ok_pick {f fD : Addr} {fd fdD : FuncData} (F : Fun K "_law_pick" "_law_pick" s__law_pick f fd) (T : Blt mg) (GD : FnOk P w K mg base CX0 1 fD fdD ["_law_pen_here", "_law_many"] spDraw) (D : At K mg "_law_draw" fD fdD ["_law_pen_here", "_law_many"]) :
    FnOk P w K mg base CX0 2 f fd ["_law_pen_here", "_law_items"] (spPick K) := by
  refine F.ok sc__law_pick (fun vs H Q E h => ?_) (fun cdv A outer s H vs Q E hr h => ?_)
  · obtain ⟨p, c, ns, x, B, rfl, _⟩ := h
    rfl
  · obtain ⟨p, c, ns, x, B, rfl, hpen, hB, h⟩ := h
    refine ⟨_, (pss_one (ps_ret (pe_ix ix_seq (pv 1) (pe_call GD hr (by rfl) D.m D.k D.b .nil pass0 (pa_cons (pv 0) (pa_cons (pe_callB call_len (by rfl) T.n_len (by decide +kernel) (pa_cons (pv 1) pa_nil)) pa_nil))) (fun _ _ => rfl)))), ?_⟩
    have sl : (1000 : Nat) ≤ sizeLine := by decide
    rcases h with ⟨a, xs, rfl, hS, h0, h1, k⟩ | ⟨z, rfl, h0, h1, k⟩
    · refine ⟨_, rfl, _, rfl, _, rfl, _, xs.length, rfl, .inl ⟨xs, hS, rfl⟩, p, c, ns, _, B, rfl, hpen, hB, by omega, by omega, fun H' r g r0 r1 => ?_⟩
      have hi : r.toNat < xs.length := by omega
      exact .inl ⟨a, xs, r, xs[r.toNat], rfl, rfl, g.seq hS, at_of (j := r.toNat) (by omega) (List.getElem?_eq_getElem hi), k H' _ g (List.getElem_mem hi)⟩
    · refine ⟨_, rfl, _, rfl, _, rfl, _, z.length, rfl, ⟨by omega, rfl⟩, p, c, ns, _, B, rfl, hpen, hB, by omega, by omega, fun H' r g r0 r1 => ?_⟩
      have hi : r.toNat < z.cps.toList.length := by
        have e : z.cps.toList.length = z.length := by simp [Str.length]
        omega
      exact .inr (.inr ⟨z, r, z.cps.toList[r.toNat], rfl, rfl, by omega, at_by (j := r.toNat) (by omega) (List.getElem?_eq_getElem hi), k H' _ g (List.getElem_mem hi)⟩)
end
end Ask

namespace Ask
open PySem L2
theorem len_sum1 : ∀ ys : List Str, (∀ y ∈ ys, y.length = 1) → (ys.map (·.length)).sum = ys.length
  | [], _ => rfl
  | y :: r, h => by
    rw [List.map_cons, List.sum_cons, List.length_cons, len_sum1 r (fun z hz => h z (List.mem_cons_of_mem _ hz)), h y (List.mem_cons_self ..)]
    omega
theorem join_len1 (ys : List Str) (h : ∀ y ∈ ys, y.length = 1) : (Txt.join (Str.ofString "") ys).length = ys.length := by
  rw [TL.join_eq]
  cases ys with
  | nil => rfl
  | cons a r =>
    rw [PyProof.Rows.len_join_cons, len_sum1 _ h]
    show _ + r.length * 0 = _
    omega
/-- all signs below 128 -/
def Asc (z : Str) : Prop := ∀ c ∈ z.cps.toList, c < 128
theorem Asc.app {a b : Str} (h : Asc a) (k : Asc b) : Asc (a ++ b) := fun c hc => by
  have e : (a ++ b).cps.toList = a.cps.toList ++ b.cps.toList := by
    rw [Str.cps_append, Array.toList_append]
  rw [e] at hc
  rcases List.mem_append.mp hc with z | z
  · exact h c z
  · exact k c z
theorem Asc.cut {a : Str} (h : Asc a) (lo hi : Option Int) : Asc (cutS a lo hi) := fun c hc => h c (List.mem_of_mem_drop (List.mem_of_mem_take hc))
theorem Asc.one {c : Nat} (h : c < 128) : Asc ⟨#[c]⟩ := fun d hd => by
  have e : d = c := by simpa using hd
  rw [e]
  exact h
theorem Asc.lit {s : String} (h : ((Str.ofString s).cps.toList.all fun c => decide (c < 128)) = true) : Asc (Str.ofString s) := fun c hc => of_decide_eq_true (List.all_eq_true.mp h c hc)
theorem Asc.joined : ∀ ys : List Str, (∀ y ∈ ys, Asc y) → Asc (Str.join (Str.ofString "") ys)
  | [], _ => fun c hc => by cases hc
  | [y], h => h y (List.mem_cons_self ..)
  | y :: z :: r, h => ((h y (List.mem_cons_self ..)).app (.lit rfl)).app (Asc.joined (z :: r) fun x hx => h x (List.mem_cons_of_mem _ hx))
theorem Asc.join (ys : List Str) (h : ∀ y ∈ ys, Asc y) : Asc (Txt.join (Str.ofString "") ys) := by
  rw [TL.join_eq]
  exact Asc.joined ys h
def small : Str := "abcdefghijklmnopqrstuvwxyz"
def signs : Str := "abcdefghijklmnopqrstuvwxyz0123456789"
theorem small_len : small.length = 26 := by decide +kernel
theorem signs_len : signs.length = 36 := by decide +kernel
theorem small_asc : Asc small := .lit (by decide +kernel)
theorem signs_asc : Asc signs := .lit (by decide +kernel)
end Ask

/-! enumerate(t), t a tuple (or a list): the layer has it for lists alone -/
namespace PySem
open Sem (wp)
theorem ask_enum_new {v : Value} {o : Obj} {Hh : Heap → Prop} (B : Begins v o Hh) :
    Meets (Builtin.«enumerate.__new__» ⟨[.type "enumerate", v], []⟩) (fun _ R s => Hh s.heap ∧
      R (.ok (.ret (.ref (s.heap.push o).objs.size)))
        { s with heap := (s.heap.push o).push { cls := .type "enumerate", data := .fields #[.none, .bool false, .ref s.heap.objs.size, rawInt 0, .none, .none] } }) :=
  .of_wp fun prog w A R s z => by
    obtain ⟨h0, g0, d0, t0, os0⟩ := s
    obtain ⟨z1, z⟩ := z
    have subE := sub_enumerate
    have begins : ∀ {A' : Around} {E' : Value → Shared → Prop} {Q' : Value → Shared → Prop}, Q' (.ref h0.objs.size) ⟨h0.push o, g0, d0, t0, os0⟩ → wpAny (model prog w) A' (pyIter v) Q' E' ⟨h0, g0, d0, t0, os0⟩ :=
      fun q => B.iter prog w _ _ ⟨h0, g0, d0, t0, os0⟩ _ z1 q
    wp_walk using begins
    refine wpAny_stack_any fun _ => wpAny_pure ?_
    split
    · rename_i cl _ _ _ _ _
      cases (cl == Value.type "enumerate") <;> (wp_walk using begins; exact ⟨_, rfl, z⟩)
    · wp_walk using begins; exact ⟨_, rfl, z⟩
end PySem
namespace Ask
open PySem L2 PySem.Spec PyProof.Rows
/-- enumerate(v): its two new cells -/
theorem enum_made {prog : Program} {w : World} {A : Around} {E : Value → Shared → Prop} {s : Shared} {v : Value} {o : Obj} {Hh : Heap → Prop} {Q : Value → Shared → Prop} (B : Begins v o Hh) (h1 : Hh s.heap)
    (h : ∀ h', IsEnum h' (s.heap.objs.size + 1) s.heap.objs.size 0 .none → h'.get? s.heap.objs.size = some o → (∀ b u, s.heap.get? b = some u → h'.get? b = some u) → Q (.ref (s.heap.objs.size + 1)) { s with heap := h' }) :
    wpAny (model prog w) A (call (.type "enumerate") [v]) Q E s := by
  refine callType_new F.called_enumerate (by decide) (F.typeCall_enumerate_1 _) (F.newCall_enumerate_1 _) (fun obj => F.args_object_init_2 obj _) F.entry_enumerate_new (ask_enum_new B) ⟨h1, ?_⟩
  have z : (s.heap.push o).objs.size = s.heap.objs.size + 1 := Heap.size_push ..
  show _ ∧ _
  rw [z]
  have e : IsEnum ((s.heap.push o).push { cls := .type "enumerate", data := .fields #[.none, .bool false, .ref s.heap.objs.size, rawInt 0, .none, .none] }) (s.heap.objs.size + 1) s.heap.objs.size 0 .none := by
    have q := Heap.get?_push_size (s.heap.push o) (o := { cls := .type "enumerate", data := .fields #[.none, .bool false, .ref s.heap.objs.size, rawInt 0, .none, .none] }) rfl
    rw [z] at q
    exact q
  exact ⟨⟨_, e, rfl⟩, h _ e (Heap.get?_push_of_some _ (Heap.get?_push_size _ B.free)) fun b u q => Heap.get?_push_of_some _ (Heap.get?_push_of_some _ q)⟩
/-- the tuple at a, each item in a new pair with its place -/
def IteT (K : PySem.W.Frag) (a : Addr) : It :=
  ⟨fun i H => ∃ xs, SqT K H a xs ∧ i < xs.length, fun i H v H' => ∃ T x, v = .ref T ∧ H T = none ∧ H' = upd H T (.tup [.int (i : Nat), x]) ∧ ∀ xs, SqT K H a xs → xs[i]? = some x, fun i H => ∃ xs, SqT K H a xs ∧ xs.length = i⟩
theorem turn_enumT {P : Program} {w : World} {K : PySem.W.Frag} {elts : List Expr} {kk : Nat} {tpos : Pos} (a e it : Addr) (hne : e ≠ it) (hat : a ≠ it) :
    Turn P w K (.Tuple elts kk tpos) (IteT K a) [e, it] e (fun i h => (∃ old, IsEnum h e it ((i : Nat) : Int) old) ∧ h.IsTupleIter it a i) where
  mem := by simp
  obj := fun i h st b hb => by
    obtain ⟨⟨old, he⟩, o, ho, _, hd⟩ := st
    rcases (by simpa using hb : b = e ∨ b = it) with z | z
    · rw [z]; exact ⟨_, he, fun v q => nomatch q⟩
    · rw [z]; exact ⟨o, ho, fun v q => by rw [hd] at q; cases q⟩
  keep := fun i h h' st k => ⟨⟨_, k e (by simp) _ st.1.choose_spec⟩, st.2.at fun o q => k it (by simp) o q⟩
  item := by
    intro X hP hw hK hc i pins s σ H E I hf st hg
    subst hP hw hK
    obtain ⟨⟨old, he⟩, hit⟩ := st
    obtain ⟨xs, hq, hi⟩ := hg
    obtain ⟨its, rv, p, hz⟩ := I.tuple hq
    have hl := rv.length
    have hel : e < s.heap.objs.size := Heap.lt_size he
    have hil : it < s.heap.objs.size := by obtain ⟨_, q, _⟩ := hit; exact Heap.lt_size q
    have aE : a ≠ e := fun z => by
      obtain ⟨o, ho, ct, _⟩ := p
      have he2 : s.heap.get? e = some _ := he
      rw [z, he2] at ho
      have z2 := Option.some.inj ho
      rw [← z2] at ct
      injection ct with ct
      exact absurd ct (by decide)
    have Dr := Draws.tuple (prog := X.prog) (w := X.w) (A := X.A.in1) (show X.A.in1.handled = none from I.ok.hd hc) it a hat its.toArray
    refine wpAny_pyNext_enum_itemD Dr he ⟨hit, p⟩ (by simp; omega) hne (by intro z; rcases (by simpa using z : e = it ∨ e = a) with q | q; exact hne q; exact aE q.symm) fun x h' tk hx ho hs' hT hsz hk => ?_
    refine ⟨_, rfl, wpAny_letOwnedTupleGo_enum (s := { s with heap := h', toks := tk + 1 }) ho fun h'' he' sb => ?_⟩
    have hT2 : h''.get? s.heap.objs.size = some { cls := .type "tuple", data := .seq #[.int i tk, x] } := (sb.2 _ (Nat.ne_of_gt hel)).trans hT
    have hit2 : h''.IsTupleIter it a (i + 1) := hs'.1.at fun o q => (sb.2 it (Ne.symm hne)).trans q
    obtain ⟨y, hy, ry⟩ : ∃ y, xs[i]? = some y ∧ RelV y x := by
      obtain ⟨u, hu, ru⟩ := rv.get (List.getElem?_eq_getElem hi)
      have hx' : its[i]? = some x := by simpa using hx
      rw [hu] at hx'
      cases hx'
      exact ⟨_, List.getElem?_eq_getElem hi, ru⟩
    have new : ObjOk X.prog X.w (upd H s.heap.objs.size (.tup [.int (i : Nat), y])) h'' s.heap.objs.size (.tup [.int (i : Nat), y]) :=
      ⟨by show 2 ≤ sizeLine; decide, [.int i tk, x], .cons ⟨_, rfl⟩ (.cons ry .nil), ⟨_, hT2, rfl, _, rfl⟩⟩
    have I1 : Inv X pins σ (upd H s.heap.objs.size (.tup [.int (i : Nat), y])) { s with heap := h'', toks := tk + 1 } :=
      I.turnedNew (ch := [e, it]) (fun b ob hb q => (sb.2 b (fun z => hb (by simp [z]))).trans (hk b ob (fun z => hb (by simp [z])) (fun z => hb (by simp [z])) q)) hf (Nat.le_refl _) new
    refine ⟨.ref s.heap.objs.size, _, I1, rfl, ⟨_, y, rfl, I.hok.fresh (Nat.le_refl _), rfl, fun ys h2 => by rw [I.tuple_inj h2 hq]; exact hy⟩, ⟨⟨x, ?_⟩, hit2⟩, fun b hb => ?_⟩
    · have e1 : ((i + 1 : Nat) : Int) = (i : Int) + 1 := by omega
      rw [e1]
      exact he'
    · have hb' : b < s.heap.objs.size := by
        rcases (by simpa using hb : b = e ∨ b = it) with z | z
        · rw [z]; exact hel
        · rw [z]; exact hil
      rw [upd_ne (Nat.ne_of_lt hb')]
      exact (hf b hb).1
  done := by
    intro X hP hw hK hc i pins s σ H E I hf st hg
    subst hP hw hK
    obtain ⟨⟨old, he⟩, hit⟩ := st
    obtain ⟨xs, hq, hx⟩ := hg
    obtain ⟨its, rv, p, hz⟩ := I.tuple hq
    obtain ⟨f0, f1, f2, f3, f4, f5⟩ := hf it (by simp)
    have hl := rv.length
    have ei : i = its.toArray.size := by simp; omega
    subst ei
    have Dr := Draws.tuple (prog := X.prog) (w := X.w) (A := X.A.in1) (show X.A.in1.handled = none from I.ok.hd hc) it a hat its.toArray
    exact wpAny_pyNext_enum_endD Dr he ⟨hit, p⟩ fun h' eb => ⟨rfl, I.turned (t' := s.toks) (fun b o hb q => eb b o hb q) f0 f1 f3 f4 f5⟩
  self := fun A i s Q E st h => let ⟨⟨_, he⟩, _⟩ := st; wpAny_pyIter_enum he h
/-- enumerate(e), e a list or a tuple -/
def iEnumA (K : PySem.W.Frag) (ta : TA) : TI := fun σ H R => ta σ H fun vs H1 => ∃ a xs, vs = [.ref a] ∧ ((SqL K H1 a xs ∧ R (Ite K a) H1) ∨ (SqT K H1 a xs ∧ R (IteT K a) H1))
theorem pi_enumA {X : Cx} {e : Expr} {ta : TA} {p pos tpos : Pos} {elts : List Expr} {kk : Nat} (hg : Gl X "enumerate") (hm : X.mg "enumerate" = none) (ha : PA X [e] ta) (hs : starEach [e] X.env = [(false, eval e X.env)] := by rfl) :
    PI X (.Tuple elts kk tpos) (.Call (.Name "enumerate" p) [e] [] pos) (iEnumA X.K ta) := by
  refine ⟨fun pins s σ H R I h => ?_⟩
  refine Call_ (ld_blt I hg hm boot_enumerate (PyProof.Rows.callWith_type1 (thn (ha.run pos pins s σ H _ I h) fun us s1 ⟨vs, H1, I1, r1, a, xs, ex, q1⟩ => ?_) hs rfl))
  subst ex
  cases r1 with
  | cons r rr =>
    cases rr
    cases r
    have low : ∀ b : Addr, b ∈ [s1.heap.objs.size + 1, s1.heap.objs.size] → s1.heap.objs.size ≤ b := fun b hb => by
      rcases (by simpa using hb : b = s1.heap.objs.size + 1 ∨ b = s1.heap.objs.size) with z | z
      · rw [z]; exact Nat.le_add_right _ _
      · rw [z]; exact Nat.le_refl _
    rcases q1 with ⟨hq, q⟩ | ⟨hq, q⟩
    · obtain ⟨its, rv, p', hz⟩ := I1.list hq
      refine enum_made (begins_list a its.toArray) p'.isList fun h' he hit hk => wpAny_pyIter_enum he ?_
      exact ⟨s1.heap.objs.size + 1, [s1.heap.objs.size + 1, s1.heap.objs.size], _, _, H1, rfl, I1.kept (t' := s1.toks) hk, turn_enum a (s1.heap.objs.size + 1) s1.heap.objs.size, ⟨⟨.none, he⟩, ⟨_, hit, rfl, rfl⟩, Nat.succ_ne_self _⟩, fun b hb => I1.fpOk (low b hb) (I1.hok.fresh (low b hb)), q⟩
    · obtain ⟨its, rv, p', hz⟩ := I1.tuple hq
      have hal : a < s1.heap.objs.size := by obtain ⟨_, z, _⟩ := p'; exact Heap.lt_size z
      refine enum_made (begins_tuple a its.toArray) p' fun h' he hit hk => wpAny_pyIter_enum he ?_
      exact ⟨s1.heap.objs.size + 1, [s1.heap.objs.size + 1, s1.heap.objs.size], _, _, H1, rfl, I1.kept (t' := s1.toks) hk, turn_enumT a (s1.heap.objs.size + 1) s1.heap.objs.size (Nat.succ_ne_self _) (Nat.ne_of_lt hal), ⟨⟨.none, he⟩, ⟨_, hit, rfl, rfl⟩⟩, fun b hb => I1.fpOk (low b hb) (I1.hok.fresh (low b hb)), q⟩
theorem walk_enumT {K : PySem.W.Frag} {a : Addr} {xs : List V} : Walk (IteT K a) xs.length (fun H => SqT K H a xs) (YPair (fun i => some (.int (i : Nat))) (fun i => xs[i]?)) := by
  refine ⟨fun i H hi q => ⟨xs, q, hi⟩, fun H q => ⟨xs, q, rfl⟩, fun i H v H' _ q y => ?_⟩
  obtain ⟨T, x, h1, h2, h3, h4⟩ := y
  exact ⟨T, .int (i : Nat), x, h1, h2, h3, rfl, h4 xs q⟩
end Ask

/-! several clauses «except X as n» behind one try -/
namespace Ask
open PySem L2 PySem.Spec PyProof.Rows
/-- an error a that the frame of X has caught, with all that stood -/
structure Down (X : Cx) (pins : List (Addr × Obj)) (σ : L2.St) (H : Hp) (sI : Shared) (B : Heap) (a : Addr) (cls : Value) (d : Option Addr) (s : Shared) : Prop where
  fl : HandSPX.FlyingZ B (X.env :: X.outer) a (Zc cls d) s.heap
  inv : Inv X pins σ H sI
  nb : ∀ b o, sI.heap.get? b = some o → b ∉ frs X.stack → B.get? b = some o
  up : sI.heap.UpToSlots s.heap
  os : s.os = sI.os
  ag : AllBare s.gens
  na : H a = none
section
variable {X : Cx} {pins : List (Addr × Obj)} {σ : L2.St} {H : Hp} {sI s : Shared} {B : Heap} {a : Addr} {cls : Value} {d : Option Addr}
theorem Down.now (w : Down X pins σ H sI B a cls d s) : Inv X pins σ H s := w.inv.landed w.nb w.fl.1 w.up w.os w.ag
theorem Down.apart (w : Down X pins σ H sI B a cls d s) (hf : X.env.frame = some X.env.locals) : ∃ oe vs, s.heap.get? a = some oe ∧ Zc cls d oe ∧ oe.data = .fields vs ∧ a ≠ X.env.locals ∧ a ∉ X.fs := by
  obtain ⟨oe, vs, e, z, dd⟩ := w.fl.there
  have out : a ∉ frs (X.env :: X.outer) := fun hm => by
    obtain ⟨_, o2, e2, no⟩ := w.fl.2.2.1.mem hm
    rw [e] at e2
    cases e2
    exact no _ dd
  refine ⟨oe, vs, e, z, dd, fun q => out (List.mem_filterMap.mpr ⟨X.env, List.mem_cons_self, by rw [hf, q]⟩), fun hm => ?_⟩
  obtain ⟨v, hv, q⟩ := List.mem_filterMap.mp hm
  exact out (List.mem_filterMap.mpr ⟨v, List.mem_cons_of_mem _ hv, q⟩)
end
/-- what the clauses hds make of it, if W is wished for -/
def Hands (X : Cx) (D : Ends) (hds : List ExceptHandler) (W : WX) : Prop := ∀ (pins : List (Addr × Obj)) (σ : L2.St) (H : Hp) (sI s : Shared) (B : Heap) (a : Addr) (cls : Value) (d : Option Addr),
  Down X pins σ H sI B a cls d s → W cls d σ H → wpAny (model X.prog X.w) X.A (handleBy (.ref a) X.env hds) (SP X pins D) X.xe s
section
variable {X : Cx} {D : Ends} {hds : List ExceptHandler} {W : WX}
theorem hands_nil (hs : X.stack = X.env :: X.outer) (hf : X.env.frame = some X.env.locals) (tk : Takes X W) : Hands X D [] W := by
  intro pins σ H sI s B a cls d w q
  refine wpAny_handleBy_nil ?_
  obtain ⟨_, _, _, _, _, T, _, _, e, _, dd, e1, _⟩ := id w.fl
  unfold PySem.passOn
  refine wpAny_bind (wpAny_field e dd e1 ?_)
  rw [if_neg (show ¬ ((Value.ref T == Value.none) = true) from by simp)]
  have on : wpAny (model X.prog X.w) X.A (setFlight (.ref a) X.env.frame) (fun _ s4 => wpAny (model X.prog X.w) X.A (throw (.ref a) : Sem Flow) (SP X pins D) X.xe s4) X.xe s := by
    rw [hf]
    exact HandSPX.setFlight_upZ w.fl fun h4 held up4 => wpAny_throw (tk _ _ ⟨a, B, sI, pins, σ, H, cls, d, rfl, w.inv, w.nb, w.up.trans up4, .inr (.inr (by rw [hs]; exact held)), w.na, w.os, w.ag, q⟩)
  first
    | exact wpAny_bind (wpAny_pure (wpAny_bind on))
    | exact wpAny_bind on
theorem hands_as {x n : Str} {c : Value} {i : Nat} {suite : List Stmt} {b₀ : Stmt} {np pos' : Pos} {ts : Addr → Value → Option Addr → TS}
    (hf : X.env.frame = some X.env.locals) (hN : X.N.Nodup) (hi : X.N[i]? = some n) (hl : X.env.kindOf n = some .local) (hc : Names X x c)
    (su : ∀ (a : Addr) (oe : Obj) (cls : Value) (d : Option Addr) (pn : List (Addr × Obj)), Zc cls d oe → (∃ vs, oe.data = .fields vs) → PSs (X.suite a ((a, oe) :: pn)) (b₀ :: suite) (ts a cls d))
    (rest : Hands X D hds W) : Hands X D (.ExceptHandler (some (.Name x np)) (some n) (b₀ :: suite) pos' :: hds) (wAs X.K c i ts W D) := by
  intro pins σ H sI s B a cls d w q
  obtain ⟨b, hb, yes, no⟩ := q
  have J := w.now
  have ok := J.ok
  obtain ⟨oe, vs, he, hz, hd, nL, nF⟩ := w.apart hf
  have S := J.suite he hd w.na nL nF
  refine wpAny_handleBy_cons (codeAny_handlers_test ?_) (by intro z; cases z)
  have ty : PySem.W.Looks (model X.prog X.w) s.heap (typeOf (.ref a)) cls := fun A Q E s' k z => wpAny_typeOf_ref (k _ _ he) (by rw [hz.1]; exact z)
  have isIt := PySem.W.exm_one (M := model X.prog X.w) J.kIn ty hb
  have named : ∀ {Q : Value → Shared → Prop} {E : Value → Shared → Prop}, Q c s → wpAny (model X.prog X.w) (X.A.mark (some (.ref a))) (eval (.Name x np) X.env) Q E s := fun {Q E} z => by
    obtain ⟨g, dbg, m | ⟨m, bt, nn⟩⟩ := hc
    · exact ld_glob (X := X.suite a ((a, oe) :: (X.pn ++ pins))) S g m z dbg
    · exact ld_blt (X := X.suite a ((a, oe) :: (X.pn ++ pins))) S g m bt z nn dbg
  refine named (isIt.here ?_)
  cases b with
  | false => exact rest pins σ H sI s B a cls d w (no rfl)
  | true =>
    refine codeAny_handlers_suite_as (HandSPX.lands_againZ w.fl fun h4 fl4 up4 => ?_)
    have w4 : Down X pins σ H sI B a cls d { s with heap := h4 } := ⟨fl4, w.inv, w.nb, w.up.trans up4, w.os, w.ag, w.na⟩
    obtain ⟨oe4, vs4, he4, hz4, hd4, nL4, nF4⟩ := w4.apart hf
    have S4 := w4.now.suite he4 hd4 w.na nL4 nF4
    refine store_ok (X := X.suite a ((a, oe4) :: (X.pn ++ pins))) (v := .ref a) S4 hN hi (.inl hl) rfl (fun s5 S5 => ?_) (.inr hl)
    refine wpAny_mono ((su a oe4 cls d (X.pn ++ pins) hz4 ⟨_, hd4⟩).run [] s5 _ H _ S5 (yes rfl a w.na)) (fun f s6 got => ?_) (fun _ _ z => False.elim z)
    have away : ∀ {σ6 : L2.St} {H6 : Hp} {Q : Shared → Prop}, Inv (X.suite a ((a, oe4) :: (X.pn ++ pins))) [] σ6 H6 s6 → (∀ s7, Inv X pins (σ6.set i none) H6 s7 → Q s7) →
        wpAny (model X.prog X.w) X.A (do bindName X.env n .none; unbindBehindTheSuite X.env n pos') (fun _ s7 => Q s7) X.xe s6 := fun {σ6 H6 Q} S6 z => gone_ok (S6.unsuite ok) hN hi hl z
    cases f with
    | ret u => obtain ⟨v, σ6, H6, S6, r, z⟩ := got; exact away S6 fun s7 J7 => ⟨_, _, _, J7, r, z⟩
    | next => obtain ⟨σ6, H6, S6, z⟩ := got; exact away S6 fun s7 J7 => ⟨_, _, J7, z⟩
    | brk => obtain ⟨σ6, H6, S6, z⟩ := got; exact away S6 fun s7 J7 => ⟨_, _, J7, z⟩
    | cont => obtain ⟨σ6, H6, S6, z⟩ := got; exact away S6 fun s7 J7 => ⟨_, _, J7, z⟩
/-- try: body / the clauses -/
theorem ps_try_hands {body : List Stmt} {h₀ : ExceptHandler} {pos : Pos} {tb : WX → TS} {Wf : Ends → WX} (hs : X.stack = X.env :: X.outer) (hf : X.env.frame = some X.env.locals)
    (hb : ∀ (W : WX) (pn : List (Addr × Obj)) (xe : Value → Shared → Prop), Takes (X.tr pn xe) W → PassesOwn (model X.prog X.w) X.A X.env xe → PSs (X.tr pn xe) body (tb W))
    (hh : ∀ D, Hands X D (h₀ :: hds) (Wf D)) : PS X (.Try body (h₀ :: hds) [] [] pos) (fun D σ H => tb (Wf D) D σ H) := by
  refine ⟨fun pins s σ H D I h => ?_⟩
  have ok := I.ok
  have fr : X.A.frames = some (X.env :: X.outer) := by rw [ok.frames, hs]
  let after : Value → Shared → Prop := fun e s1 => wpAny (model X.prog X.w) X.A (noteFrame e X.env) (fun _ s2 => wpAny (model X.prog X.w) X.A (setFlight e none) (fun _ s3 => wpAny (model X.prog X.w) X.A (handleBy e X.env (h₀ :: hds)) (SP X pins D) X.xe s3) X.xe s2) X.xe s1
  have taken : Takes (X.tr (X.pn ++ pins) after) (Wf D) := fun u s1 xx => by
    obtain ⟨a, B, sI, pins1, σ1, H1, cls, d, rfl, J, nb, up, sky, na, os, ag, q⟩ := xx
    have sky1 : Sky B (X.env :: X.outer) a (Zc cls d) X.env.locals s1.heap := by rw [← hs]; exact sky
    exact Sky.land Zc.steady fr hf sky1 fun h3 fl3 up3 => hh D pins σ1 H1 sI { s1 with heap := h3 } B a cls d ⟨fl3, J.ofTry ok, nb, up.trans up3, os, ag, na⟩ q
  refine wpAny_Try_except (wpAny_mono ((hb (Wf D) (X.pn ++ pins) after taken PassesOwn.looking).run [] s σ H D (I.toTry _) h) (fun f s1 got => ?_) fun _ _ z => z)
  cases f with
  | ret u => obtain ⟨v, σ1, H1, J, r, z⟩ := got; exact ⟨v, σ1, H1, J.ofTry ok, r, z⟩
  | next => obtain ⟨σ1, H1, J, z⟩ := got; exact wpAny_execs_nil ⟨σ1, H1, J.ofTry ok, z⟩
  | brk => obtain ⟨σ1, H1, J, z⟩ := got; exact ⟨σ1, H1, J.ofTry ok, z⟩
  | cont => obtain ⟨σ1, H1, J, z⟩ := got; exact ⟨σ1, H1, J.ofTry ok, z⟩
end
end Ask

namespace Ask
open PySem L2 PySem.Spec PyProof.Rows
/-! ### repr of a list or tuple of data; a text times a number -/
def rRepr (K : PySem.W.Frag) : List V → Hp → VK → Prop := fun xs H Q => ∃ (a : Addr) (d : PyData), xs = [.ref a] ∧ Dp K H (.ref a) d ∧ d.showable = true ∧ d.hasDict = false ∧ d.depth ≤ 30 ∧ d.shown.length ≤ sizeLine ∧ Q (.str d.shown) H
theorem call_reprD {X : Cx} (hg : X.A.guards = some []) (hu : X.A.units + 64 < cLine) : CallR X (.builtin "repr") (rRepr X.K) := by
  intro pins s σ H xs us Q I r h
  obtain ⟨a, d, rfl, hd, sh, nd, dp, sz, q⟩ := h
  obtain ⟨u, rfl, ra⟩ := vals1 r
  obtain rfl : u = Value.ref a := ra
  obtain ⟨as, rd⟩ := Dp.reads I d _ _ hd rfl
  refine repr_of_reads' rd sh (fun z => by rw [nd] at z; cases z) hg (by omega) (fun _ _ e => e) (fun h' t tk k => ?_) sz
  exact ⟨.str d.shown, H, I.kept (t' := tk) k, ⟨t, rfl⟩, q⟩
def repS (x : Str) (n : Nat) : Str := ⟨(List.replicate n x.cps).foldl (· ++ ·) #[]⟩
theorem rep_size (x : Array Nat) : ∀ (n : Nat) (acc : Array Nat), ((List.replicate n x).foldl (· ++ ·) acc).size = acc.size + n * x.size
  | 0, acc => by simp
  | n + 1, acc => by
    rw [List.replicate_succ, List.foldl_cons, rep_size x n, Array.size_append, Nat.succ_mul]
    omega
theorem repS_len (x : Str) (n : Nat) : (repS x n).length = n * x.length := by
  show ((List.replicate n x.cps).foldl (· ++ ·) #[]).size = _
  rw [rep_size]
  show 0 + n * x.length = _
  omega
theorem op_mul_str {X : Cx} : OpR X (binaryOp .Mult) (fun x y H Q => ∃ (z : Str) (n : Int), x = .str z ∧ y = .int n ∧ 2 ≤ n ∧ n ≤ 1000 ∧ 1 ≤ z.length ∧ z.length ≤ 1000 ∧ Q (.str (repS z n.toNat)) H) := by
  intro pins s σ H x y v u Q I rx ry h
  obtain ⟨z, n, rfl, rfl, n0, n1, z0, z1, q⟩ := h
  obtain ⟨t, rfl⟩ := rx
  obtain ⟨t2, rfl⟩ := ry
  have zl : (z.length == 0) = false := by
    have : z.length ≠ 0 := by omega
    simpa using this
  have nl : (n == 1) = false := by
    have : n ≠ 1 := by omega
    simpa using this
  refine P.mul_str (by rw [decide_eq_false (by omega), decide_eq_false (by omega)]; rfl) (fun _ _ z => ?_) (fun _ _ => ?_) ?_
  · have e : (2 ^ 63 - 1) / (1000 : Int) ≤ (2 ^ 63 - 1) / n := by
      refine Int.le_ediv_of_mul_le (by omega) ?_
      have h1 : (2 ^ 63 - 1) / (1000 : Int) * n ≤ (2 ^ 63 - 1) / (1000 : Int) * 1000 := Int.mul_le_mul_of_nonneg_left n1 (by decide)
      have h2 : (2 ^ 63 - 1) / (1000 : Int) * 1000 ≤ 2 ^ 63 - 1 := by decide
      omega
    have e2 : (1000 : Int) ≤ (2 ^ 63 - 1) / (1000 : Int) := by decide
    omega
  · have e : z.length * n.toNat ≤ 1000 * 1000 := Nat.mul_le_mul z1 (by omega)
    have e2 : 1000 * 1000 ≤ sizeLine := by decide
    show decide (z.length * n.toNat > sizeLine) = false
    exact decide_eq_false (by omega)
  · rw [if_neg (by omega), if_neg (by rw [nl, zl]; exact Bool.false_ne_true)]
    refine ⟨?_, ?_⟩
    · show (repS z n.toNat).length ≤ sizeLine
      rw [repS_len]
      have e : z.length * n.toNat ≤ 1000 * 1000 := Nat.mul_le_mul z1 (by omega)
      have e2 : 1000 * 1000 ≤ sizeLine := by decide
      rw [Nat.mul_comm]
      omega
    · exact ⟨.str (repS z n.toNat), H, I.tok _, ⟨_, rfl⟩, q⟩
end Ask

namespace Ask
open PySem L2 PySem.Spec PyProof.Rows
/-! ### a def's body at one surrounding, the law's call from the outside (where it is known that no repr is under way) -/
theorem fn_run {CX : CXT} {P : Program} {w : World} {K : PySem.W.Frag} {mg : Str → Option Value} {base : Heap} {k : Nat} {f : Addr} {x qual : Str} {st : Stmt} {fd : FuncData} {N ps : List Str} {A : Around} {outer : List Env} {s : Shared} {H : Hp} {args : Args} {us : List Value} {vs : List V} {Q : VK} {E : XK}
    (F : Fun K x qual st f fd) (S : FnScope N ps (defScope st)) (hr : Room (k + 1) A) (e0 : Env0 P w K mg base A outer s H) (bind : BindsTo s fd args (ps.zip us)) (r : Vals vs us) (hl : vs.length = ps.length)
    (body : ∀ cdv : Value, Room k (A.deeper (envOfC qual (defScope st) s.heap.objs.size f cdv)) → ∃ t, PSs (cxOf CX P w K mg base N qual (defScope st) f cdv A outer s H E) (defBody st) t ∧ t { nx := fun _ H' => Q .non H', rt := Q } (start N vs) H) :
    codeAny (model P w) A (.call (.ref f) args) (CR CX outer P w H s Q E) s := by
  obtain ⟨oc, od, kV, doc, pm, an, cdv, ct, osl, rfl, lk, hcd⟩ := F.ex
  have here : ∀ b o, base.get? b = some o → s.heap.get? b = some o := fun b o e => (e0.bs b o e).1
  have inK : K.In s.heap := e0.mod.kin.keeps here
  refine codeAny_call_function hr.depth (inK _ _ lk) rfl S.co S.gen rfl (PySem.W.codeRec_of inK hcd) (bind _ _ _ _ ?_)
  refine wpAny_newFunctionEnv_cells S.kind (fun ⟨n, v⟩ hy => ?_) fun env he s1 x1 => ?_
  · rcases S.par n (List.of_mem_zip hy).1 with q | q
    · exact .inl q
    · exact .inr ⟨q, PySem.W.cellsFrom_some _ _ _ (.inl q)⟩
  subst he
  refine ⟨(e0.mod.nolimit.keeps here).keeps x1.toInCall.keep, codeAny_func ?_⟩
  obtain ⟨t, ht, hq⟩ := body cdv (hr.deeper _)
  refine wpAny_mono (ht.run [] s1 (start N vs) H _ (inv_start S hr.hd e0 hl r x1) hq) (fun fl s' got => ?_) fun _ _ z => z
  cases fl with
  | ret u => obtain ⟨v, _, H', J, rv, z⟩ := got; exact ⟨v, H', J.os, J.bare, J.base, J.hok, rv, z⟩
  | next => obtain ⟨_, H', J, z⟩ := got; exact ⟨V.non, H', J.os, J.bare, J.base, J.hok, rfl, z⟩
  | brk => obtain ⟨_, _, _, z⟩ := got; exact False.elim z
  | cont => obtain ⟨_, _, _, z⟩ := got; exact False.elim z
/-- the script's own cell, locked; nothing else is tracked -/
def lone (a : Addr) (vs : List Value) (ns : List Int) : Hp := fun b => if b = a then some (.frz { cls := .type "list", data := .seq vs.toArray } (.lst (ns.map V.int))) else none
theorem law_at {P : Program} {w : World} {K : PySem.W.Frag} {mg mb : Str → Option Value} {fa a : Addr} {s₁ : Shared} {vs : List Value} {ns : List Int}
    (inK : K.In s₁.heap) (gl : s₁.heap.Ns mainGlobals mg) (bl : s₁.heap.Ns builtinsNs mb) (bt : ∀ x : Str, x ≠ "__name__" → mb x = bootBuiltins x) (lim : s₁.heap.NoLimit) (gs : s₁.gens = #[])
    (ha : s₁.heap.get? a = some { cls := .type "list", data := .seq vs.toArray }) (hi : IntsAre vs ns) (hl : ns.length ≤ sizeLine)
    (run : ∀ (base : Heap) (H : Hp), K.In base → base.Ns mainGlobals mg → Env0 P w K mg base callerA [] s₁ H → SqL K H a (ns.map V.int) →
      codeAny (model P w) callerA (.call (.ref fa) ⟨[.ref a], []⟩) (CR CX0 [] P w H s₁ (fun v _ => v = .bl true) E0) s₁) :
    codeAny (model P w) callerA (.call (.ref fa) ⟨[.ref a], []⟩) (fun r s' => r = .ok (.ret (.bool true)) ∧ OldK s₁.heap s'.heap ∧ s'.os = s₁.os ∧ AllBare s'.gens) s₁ := by
  have nums : Vals (ns.map V.int) vs := vals_ints hi
  have from_ : ∀ H : Hp, (∀ b, H b = none ∨ ∃ o xs, H b = some (.frz o (.lst xs))) → (∀ b u, H b = some u → b = a ∧ K.lookup a = none) → SqL K H a (ns.map V.int) → HOk P w H s₁.heap →
      codeAny (model P w) callerA (.call (.ref fa) ⟨[.ref a], []⟩) (fun r s' => r = .ok (.ret (.bool true)) ∧ OldK s₁.heap s'.heap ∧ s'.os = s₁.os ∧ AllBare s'.gens) s₁ := by
    intro H frz atA sq ok
    have free : ∀ {b : Addr}, b ≠ a → H b = none := fun {b} ne => by
      cases q : H b with
      | none => rfl
      | some u => exact absurd (atA b u q).1 ne
    have nsB : ∀ {b : Addr} {m : Str → Option Value}, s₁.heap.Ns b m → (hidT s₁.heap H).Ns b m := fun {b m} ⟨o, es, ep, e, dd, z⟩ => ⟨o, es, ep, hidT_get e (free fun q => by
      rw [q, ha] at e
      cases e
      have dd' : Data.seq vs.toArray _ = Data.dict es ep := dd
      cases dd'), dd, z⟩
    have kB : K.In (hidT s₁.heap H) := fun b o e => hidT_get (inK b o e) (by
      cases q : H b with
      | none => rfl
      | some u =>
        obtain ⟨rfl, no⟩ := atA b u q
        rw [no] at e
        cases e)
    obtain ⟨mc, l1, l2⟩ := lim
    have e0 : Env0 P w K mg (hidT s₁.heap H) callerA [] s₁ H :=
      ⟨rfl, ⟨kB, nsB gl, ⟨mb, nsB bl, bt⟩, ⟨mc, nsB l1, l2⟩⟩, fun b o e => of_hidT e, Nat.le_of_eq (hidT_size _ _), trivial, (fun b hb => absurd (show b ∈ ([] : List Addr) from hb) (by simp)), ok, .of_eq gs⟩
    refine codeAny_mono (run _ H kB (nsB gl) e0 sq) fun r s' z => ?_
    match r, z with
    | .error e, z => exact False.elim z
    | .ok .next, z => exact False.elim z
    | .ok .brk, z => exact False.elim z
    | .ok .cont, z => exact False.elim z
    | .ok (.ret u), z =>
      obtain ⟨v, H', os, bare, un, ok', rv, q⟩ := z
      have q : v = .bl true := q
      subst q
      obtain rfl : u = Value.bool true := rv
      refine ⟨rfl, OldK.of_keep fun b o e => ?_, os, bare⟩
      rcases frz b with n | ⟨ob, xs, y⟩
      · exact un.keep b o e n (by intro z; exact absurd (show b ∈ ([] : List Addr) from z) (by simp)) (by simp)
      · obtain ⟨e1, _⟩ := ok b _ y
        obtain ⟨e2, _⟩ := ok' b _ (un.frzs b ob _ y)
        rw [e] at e1
        cases e1
        exact e2
  cases hk : K.lookup a with
  | none =>
    have at_ : lone a vs ns a = some (.frz { cls := .type "list", data := .seq vs.toArray } (.lst (ns.map V.int))) := if_pos rfl
    have off : ∀ {b : Addr}, b ≠ a → lone a vs ns b = none := fun {b} ne => if_neg ne
    refine from_ (lone a vs ns) (fun b => ?_) (fun b u z => ?_) (.inl (.inr ⟨_, at_⟩)) (fun b u z => ?_)
    · by_cases h : b = a
      · exact .inr ⟨_, _, by rw [h]; exact at_⟩
      · exact .inl (off h)
    · by_cases h : b = a
      · exact ⟨h, hk⟩
      · rw [off h] at z
        cases z
    · by_cases h : b = a
      · subst h
        rw [at_] at z
        cases z
        exact ⟨ha, by rw [List.length_map]; exact hl, vs, _, nums, ha⟩
      · rw [off h] at z
        cases z
  | some o =>
    have e := inK a o hk
    rw [ha] at e
    cases e
    refine from_ (fun _ => none) (fun _ => .inl rfl) (fun b u z => by cases z) (.inr ⟨_, vs.toArray, _, hk, rfl, rfl, rfl, ?_, by simpa using nums⟩) (fun b u z => by cases z)
    rw [List.size_toArray, hi.length]
    exact hl
end Ask

namespace Ask
open PySem L2
theorem pe_gv {X : Cx} {x : Str} {v : V} {pos : Pos} (hg : Gl X x) (h : ∃ u, X.mg x = some u ∧ RelV v u) (hd : (x == ("__debug__" : Str)) = false := by decide) : PE X (.Name x pos) (tC v) := by
  obtain ⟨u, hm, r⟩ := h
  exact pe_glob hg hm r hd
theorem Same.upd_new {H H' : Hp} {p : Addr} {o : HO} (s : Same H H') (h : H p = none) : Same H (upd H' p o) := fun b u e => by
  rw [upd_ne (ne_of_none e h)]
  exact s b u e

/-! ### letters, by their signs -/
def smallL : List Nat := small.cps.toList
def signsL : List Nat := signs.cps.toList
def shortL (l : List Nat) : Bool := decide (1 ≤ l.length ∧ l.length ≤ 12) && (match l.head? with | some c => decide (c ∈ smallL) | none => false) && l.all (fun c => decide (c ∈ signsL))
def wordOf (l : List Nat) : List Nat := if l.head? = some 126 then l.drop 1 else l
def newW : Str := "new"
def foundW : Str := "found"
def goodW (z : Str) : Bool := shortL z.cps.toList && !(decide (newW = z) || decide (foundW = z))
def wordS (z : Str) : Str := ⟨(wordOf z.cps.toList).toArray⟩
def isLs (z : Str) : Bool := goodW (wordS z)
def isL : PyData → Bool
  | .str z => isLs z
  | _ => false
/-- the values that the lists of the law hold -/
def Itm (d : PyData) : Prop := d = .none ∨ d = .bool true ∨ d = .int 7 ∨ ∃ z : Str, z.length ≤ 500 ∧ Asc z ∧ (d = .str z ∨ d = .list [.str z] ∨ d = .tuple [.str z])
def isStrD : PyData → Bool
  | .str _ => true
  | _ => false
section
variable {K : PySem.W.Frag} {H : Hp} {v : V} {d : PyData}
theorem ty_list {a : Addr} {xs : List V} (h : SqL K H a xs) : TyX K H (.ref a) (.type "list") := by
  rcases h with (h | ⟨o, h⟩) | ⟨o, _, _, h, c, _⟩
  · exact .base (.lst h)
  · exact .base (.frz h)
  · exact .kList h c
theorem ty_tup {a : Addr} {xs : List V} (h : SqT K H a xs) : TyX K H (.ref a) (.type "tuple") := by
  rcases h with (h | ⟨o, h⟩) | ⟨o, _, _, h, c, _⟩
  · exact .base (.tup h)
  · exact .fTuple h
  · exact .kTuple h c
/-- isinstance(value, str) -/
theorem isi_str (h : Dp K H v d) (hi : Itm d) : ∃ t : Value, TyX K H v t ∧ PySem.W.kitOne K t (.type "str") = some (isStrD d) := by
  rcases hi with rfl | rfl | rfl | ⟨z, _, _, rfl | rfl | rfl⟩
  · cases h
    exact ⟨_, .base .non, kit_ty (by decide +kernel)⟩
  · cases h
    exact ⟨_, .base (.bl _), kit_ty (by decide +kernel)⟩
  · cases h
    exact ⟨_, .base (.int _), kit_ty (by decide +kernel)⟩
  · cases h
    exact ⟨_, .base (.str _), kit_ty (by show kitB "str" "str" = some true; decide +kernel)⟩
  · cases h with
    | lst hs _ => exact ⟨_, ty_list hs, kit_ty (by show kitB "list" "str" = some false; decide +kernel)⟩
  · cases h with
    | tup hs _ => exact ⟨_, ty_tup hs, kit_ty (by show kitB "tuple" "str" = some false; decide +kernel)⟩
end
theorem tl_len (z : Str) : z.cps.toList.length = z.length := by simp [Str.length]
/-- the constants of the package's text -/
structure Gv (K : PySem.W.Frag) (mg : Str → Option Value) : Prop where
  small : ∃ u, mg "SMALL_LETTERS" = some u ∧ RelV (.str small) u
  signs : ∃ u, mg "WORD_SIGNS" = some u ∧ RelV (.str signs) u
  most : ∃ u, mg "MOST_SIGNS" = some u ∧ RelV (.int 12) u
  begins : ∃ (t : Addr) (u : Value), mg "BEGINNINGS" = some u ∧ RelV (.ref t) u ∧ ∀ H, SqT K H t [.str newW, .str foundW]
  mostL : ∃ u, mg "MOST_LETTERS" = some u ∧ RelV (.int 12) u
section
variable {P : Program} {w : World} {K : PySem.W.Frag} {mg : Str → Option Value} {base : Heap}
/-! ### is_short_word -/
def spShort : Sp := fun vs H Q _ => ∃ z : Str, vs = [.str z] ∧ z.length ≤ 500 ∧ ∀ H', Same H H' → Q (.bl (shortL z.cps.toList)) H'
abbrev s_is_short_word : Stmt := top 5
theorem sc_is_short_word : FnScope ["value", "sign"] ["value"] (defScope s_is_short_word) := ⟨rfl, rfl, rfl, by decide +kernel, rfl, by decide +kernel, by decide +kernel⟩
theorem ok_short {f : Addr} {fd : FuncData} (F : Fun K "is_short_word" "is_short_word" s_is_short_word f fd) (T : Blt mg) (C : Gv K mg) : FnOk P w K mg base CX0 1 f fd ["value"] spShort := by
  refine F.ok sc_is_short_word (fun vs H Q E h => ?_) (fun cdv A outer s H vs Q E hr h => ?_)
  · obtain ⟨z, rfl, _⟩ := h
    rfl
  · obtain ⟨z, rfl, hz, k⟩ := h
    refine ⟨_, (pss_cons (ps_if (PW.pt (pw_or (pt_not (pt_val (pe_callB call_isi (by rfl) T.n_isinstance (by decide +kernel) (pa_cons (pv 0) (pa_cons (pe_bltn (v := .ty "str") (u := .type "str") rfl T.n_str (by decide +kernel) rfl) pa_nil))))) (pw_or1 (pt_not (pt_chain op_le op_le pe_int (pe_callB call_len_str (by rfl) T.n_len (by decide +kernel) (pa_cons (pv 0) pa_nil)) (pe_gv rfl C.most)))))) (pss_one (ps_ret pe_bl)) pss_nil)
      (pss_one (ps_ret (pe_and (pe_cmpR op_in_sign (pe_ix ix_str (pv 0) pe_int (fun _ _ => rfl)) (pe_gv rfl C.small) rfl) (pe_one (pe_callB (cr_all rfl) (by rfl) T.n_all (by decide +kernel) (pa_cons (pe_lc (own := [("sign", 1)]) rfl sc_is_short_word.nd (pi_str (pv 0)) (blkOk_by (N := ["value", "sign"]) (sc := defScope s_is_short_word) (by decide +kernel)) (fun _ _ _ _ _ => (pg_name (i := 1) sc_is_short_word.nd rfl (Or.inl rfl))) (fun _ _ _ _ _ => pts_nil) (fun _ _ _ _ _ => (pe_cmpR op_in_sign (pv 1) (pe_gv rfl C.signs) rfl))) pa_nil))))))), ?_⟩
    have z1 : (1000 : Nat) ≤ sizeLine := by decide
    have hl := tl_len z
    refine ⟨_, rfl, _, _, _, _, true, rfl, .ty _, .base (.str _), kit_ty (by decide +kernel), _, rfl, ?_⟩
    refine iteF ⟨_, rfl, z, rfl, by omega, _, _, rfl, rfl, _, rfl, ite2 (fun h1 => ?_) (fun h1 => ?_)⟩
    · have h1 : (1 : Int) ≤ (z.length : Nat) := of_decide_eq_true h1
      refine ⟨_, _, rfl, rfl, _, rfl, ite2 (fun h2 => ?_) (fun h2 => ?_)⟩
      · have h2 : ¬ ((z.length : Nat) : Int) ≤ 12 := fun q => by
          rw [decide_eq_true q] at h2
          cases h2
        have e : shortL z.cps.toList = false := by
          unfold shortL
          rw [decide_eq_false (by omega)]
          rfl
        have := k H (Same.refl H)
        rw [e] at this
        exact this
      · have h2 : ((z.length : Nat) : Int) ≤ 12 := Decidable.byContradiction fun q => h2 (by rw [decide_eq_false q]; rfl)
        obtain ⟨c, r, ec⟩ : ∃ c r, z.cps.toList = c :: r := by
          cases e : z.cps.toList with
          | nil =>
            rw [e] at hl
            have : (0 : Nat) = z.length := hl
            omega
          | cons c r => exact ⟨c, r, rfl⟩
        refine ⟨_, rfl, z, 0, c, rfl, rfl, by omega, by rw [ec]; exact at_by (j := 0) rfl rfl, c, small, rfl, rfl, _, rfl, ite2 (fun h3 => ?_) (fun h3 => ?_)⟩
        · refine ⟨_, rfl, z, rfl, fun L hL => ?_⟩
          refine lc_it walk_str (fun i H' => Same H H' ∧ H' L = some (.lst (((z.cps.toList.take i).map fun c => decide (c ∈ signsL)).map V.bl))) ⟨Ask.Same.upd_new (Same.refl H) hL, upd_same⟩ (fun _ _ _ _ => trivial) (fun i x H1 H2 hi h1 y => ?_) (fun H1 h1 => ?_)
          · obtain ⟨rfl, c', hc', rfl⟩ := y
            obtain ⟨sm, hLL⟩ := h1
            refine ⟨rfl, _, rfl, c', signs, rfl, rfl, _, hLL, ?_, Ask.Same.upd_new sm hL, ?_⟩
            · rw [List.length_map, List.length_map, List.length_take]
              omega
            · rw [upd_same]
              have hc2 : z.cps.toList[i]? = some c' := by rw [Array.getElem?_toList]; exact hc'
              rw [List.take_add_one, hc2]
              simp only [Option.toList_some, List.map_append, List.map_cons, List.map_nil]
              rfl
          · obtain ⟨sm, hLL⟩ := h1
            refine ⟨L, _, rfl, SqL.of hLL, ?_⟩
            have e0 : z.cps.toList.take z.cps.size = z.cps.toList := List.take_of_length_le (by simp)
            rw [e0]
            have e : shortL z.cps.toList = (z.cps.toList.map fun c => decide (c ∈ signsL)).all id := by
              unfold shortL
              rw [decide_eq_true (by omega), ec]
              simp only [List.head?_cons, Bool.true_and]
              rw [show decide (c ∈ smallL) = true from h3, Bool.true_and, List.all_map]
              rfl
            have := k H1 sm
            rw [e] at this
            exact this
        · have e : shortL z.cps.toList = false := by
            unfold shortL
            rw [ec]
            simp only [List.head?_cons]
            rw [show decide (c ∈ smallL) = false from (Bool.not_eq_true _).mp h3, Bool.and_false, Bool.false_and]
          have := k H (Same.refl H)
          rw [e] at this
          exact this
    · have h1 : ¬ (1 : Int) ≤ (z.length : Nat) := fun q => h1 (decide_eq_true q)
      have e : shortL z.cps.toList = false := by
        unfold shortL
        rw [decide_eq_false (by omega)]
        rfl
      refine ⟨_, rfl, ite2 (fun _ => ?_) (fun q => absurd rfl q)⟩
      have := k H (Same.refl H)
      rw [e] at this
      exact this
end
end Ask

namespace Ask
open PySem L2
theorem str_ext {a b : Str} (h : a.cps.toList = b.cps.toList) : a = b := by
  obtain ⟨a⟩ := a
  obtain ⟨b⟩ := b
  have h : a.toList = b.toList := h
  rw [Array.toList_inj.mp h]
theorem starts_tilde (z : Str) : Txt.startswith z (Str.ofString "~") = decide (z.cps.toList.head? = some 126) := by
  obtain ⟨⟨l⟩⟩ := z
  unfold Txt.startswith Builtin.Str.subAt
  have e1 : (Str.ofString "~").cps = #[126] := by decide +kernel
  have e2 : (Str.ofString "~").length = 1 := by decide +kernel
  rw [e1, e2]
  cases l with
  | nil => rfl
  | cons c r =>
    have e3 : (⟨(c :: r)⟩ : Array Nat).extract 0 (0 + 1) = #[c] := by simp
    show (decide (0 + 1 ≤ (c :: r).length) && ((⟨(c :: r)⟩ : Array Nat).extract 0 (0 + 1) == #[126])) = decide (some c = some 126)
    rw [e3, decide_eq_true (by simp), Bool.true_and]
    by_cases h : c = 126
    · subst h
      rfl
    · rw [decide_eq_false (by intro q; exact h (Option.some.inj q))]
      simpa using h
theorem cut_rest (z : Str) : cutS z (some 1) none = ⟨(z.cps.toList.drop 1).toArray⟩ := by
  unfold cutS
  rw [show (some (1 : Int)) = some ((1 : Nat) : Int) from rfl, HT.sIx_nat, HT.sIx_none]
  have hl := tl_len z
  by_cases h : z.length = 0
  · have e : z.cps.toList = [] := List.length_eq_zero_iff.mp (by omega)
    rw [e]
    simp
  · have e : min 1 z.length = 1 := by omega
    rw [e, List.take_of_length_le (by rw [List.length_drop]; omega)]
theorem cut_head (z : Str) : cutS z none (some 1) = ⟨(z.cps.toList.take 1).toArray⟩ := by
  unfold cutS
  rw [show (some (1 : Int)) = some ((1 : Nat) : Int) from rfl, HT.sIx_nat, HT.sIx_none]
  have hl := tl_len z
  by_cases h : z.length = 0
  · have e : z.cps.toList = [] := List.length_eq_zero_iff.mp (by omega)
    rw [e]
    simp
  · have e : min 1 z.length = 1 := by omega
    rw [e, List.drop_zero]
theorem head_tilde (z : Str) : decide (V.str (cutS z none (some 1)) = V.str (Str.ofString "~")) = decide (z.cps.toList.head? = some 126) := by
  rw [cut_head]
  have e1 : (Str.ofString "~").cps.toList = [126] := by decide +kernel
  refine decide_eq_decide.mpr ⟨fun h => ?_, fun h => ?_⟩
  · have h2 : (⟨(z.cps.toList.take 1).toArray⟩ : Str) = Str.ofString "~" := V.str.inj h
    have h3 : z.cps.toList.take 1 = [126] := by
      have := congrArg (fun s : Str => s.cps.toList) h2
      rw [e1] at this
      simpa using this
    cases e : z.cps.toList with
    | nil =>
      rw [e] at h3
      cases h3
    | cons c r =>
      rw [e] at h3
      simp at h3
      rw [h3]
      rfl
  · congr 1
    refine str_ext ?_
    rw [e1]
    cases e : z.cps.toList with
    | nil =>
      rw [e] at h
      cases h
    | cons c r =>
      rw [e] at h
      cases h
      simp
theorem word_tilde {z : Str} (h : decide (z.cps.toList.head? = some 126) = true) : cutS z (some 1) none = wordS z := by
  rw [cut_rest]
  unfold wordS wordOf
  rw [if_pos (of_decide_eq_true h)]
theorem word_plain {z : Str} (h : ¬ decide (z.cps.toList.head? = some 126) = true) : z = wordS z := by
  unfold wordS wordOf
  rw [if_neg fun q => h (decide_eq_true q)]
theorem word_len (z : Str) : (wordS z).length ≤ z.length := by
  unfold wordS wordOf
  have hl := tl_len z
  split
  · show (z.cps.toList.drop 1).toArray.size ≤ _
    rw [List.size_toArray, List.length_drop]
    omega
  · show z.cps.toList.toArray.size ≤ _
    rw [List.size_toArray]
    omega
theorem eq_V (a b : Str) : eqV (.str a) (.str b) = decide (a = b) := by
  show (a == b) = _
  by_cases h : a = b
  · subst h; simp
  · rw [decide_eq_false h]
    simpa using h
section
variable {P : Program} {w : World} {K : PySem.W.Frag} {mg : Str → Option Value} {base : Heap}
def spIsL (K : PySem.W.Frag) : Sp := fun vs H Q _ => ∃ (v : V) (d : PyData), vs = [v] ∧ Dp K H v d ∧ Itm d ∧ ∀ H', Same H H' → Q (.bl (isL d)) H'
theorem itm_str {d : PyData} (hi : Itm d) (h : isStrD d = true) : ∃ z : Str, d = .str z ∧ z.length ≤ 500 ∧ Asc z := by
  rcases hi with rfl | rfl | rfl | ⟨z, h1, h2, rfl | rfl | rfl⟩
  · cases h
  · cases h
  · cases h
  · exact ⟨z, rfl, h1, h2⟩
  · cases h
  · cases h
theorem not_str {d : PyData} (h : ¬ isStrD d = true) : isL d = false := by
  cases d <;> first | rfl | exact absurd rfl h
/-! ### is_letter, the package's -/
abbrev s_is_letter : Stmt := top 17
theorem sc_is_letter : FnScope ["value", "word"] ["value"] (defScope s_is_letter) := ⟨rfl, rfl, rfl, by decide +kernel, rfl, by decide +kernel, by decide +kernel⟩
theorem ok_is_letter {f fS : Addr} {fd fdS : FuncData} (F : Fun K "is_letter" "is_letter" s_is_letter f fd) (T : Blt mg) (C : Gv K mg) (GS : FnOk P w K mg base CX0 1 fS fdS ["value"] spShort) (S : At K mg "is_short_word" fS fdS ["value"]) :
    FnOk P w K mg base CX0 2 f fd ["value"] (spIsL K) := by
  refine F.ok sc_is_letter (fun vs H Q E h => ?_) (fun cdv A outer s H vs Q E hr h => ?_)
  · obtain ⟨v, d, rfl, _⟩ := h
    rfl
  · obtain ⟨v, d, rfl, hd, hi, k⟩ := h
    obtain ⟨tB, uB, mB, rB, qB⟩ := C.begins
    refine ⟨_, (pss_cons (ps_if (pt_not (pt_val (pe_callB call_isi (by rfl) T.n_isinstance (by decide +kernel) (pa_cons (pv 0) (pa_cons (pe_bltn (v := .ty "str") (u := .type "str") rfl T.n_str (by decide +kernel) rfl) pa_nil))))) (pss_one (ps_ret pe_bl)) pss_nil)
      (pss_cons (ps_set (i := 1) sc_is_letter.nd rfl (Or.inl rfl) (pe_ifExp (pt_val (pe_m1 PySem.F.slot_str_startswith PySem.F.type_str_startswith mt_startswith (pv 0) pe_str)) (pe_slice sl_str (pv 0) (po_some pe_int) po_none) (pv 0)))
      (pss_one (ps_ret (pe_and (pe_call GS hr (by rfl) S.m S.k S.b .nil pass0 (pa_cons (pv 1) pa_nil)) (pe_one (pe_cmpR op_notIn_seq (pv 1) (pe_glob rfl mB rB) rfl))))))), ?_⟩
    obtain ⟨ty, hty, hkt⟩ := isi_str hd hi
    refine ⟨_, rfl, v, _, ty, _, isStrD d, rfl, .ty _, hty, hkt, _, rfl, ite2 (fun h1 => ?_) (fun h1 => ?_)⟩
    · have h1 : ¬ isStrD d = true := by intro q; rw [q] at h1; cases h1
      have := k H (Same.refl H)
      rw [not_str h1] at this
      exact this
    · have h1 : isStrD d = true := by
        cases q : isStrD d with
        | true => rfl
        | false => rw [q] at h1; exact absurd rfl h1
      obtain ⟨z, rfl, hz, az⟩ := itm_str hi h1
      cases hd
      have z1 : (1000 : Nat) ≤ sizeLine := by decide
      try dsimp only [tNext]
      refine seqIf_cut (fun v H' => v = .str (wordS z) ∧ H' = H) (fun Q' q' => ?_) (fun v H' hv => ?_)
      · refine ⟨_, rfl, ⟨_, rfl⟩, z, _, rfl, rfl, _, rfl, ?_⟩
        rw [starts_tilde]
        refine ite2 (fun h => ?_) (fun h => ?_)
        · exact ⟨_, rfl, _, rfl, z, rfl, by omega, q' _ _ ⟨by rw [word_tilde h], rfl⟩⟩
        · exact ⟨_, rfl, q' _ _ ⟨by rw [← word_plain h], rfl⟩⟩
      · obtain ⟨rfl, rfl⟩ := hv
        have hw := word_len z
        refine ⟨_, rfl, wordS z, rfl, by omega, fun H1 s1 => ⟨_, rfl, ite2 (fun h => ?_) (fun h => ?_)⟩⟩
        · refine ⟨_, rfl, tB, _, rfl, .inr (qB H1), rfl, rfl, ?_⟩
          have e : isL (.str z) = !inV (.str (wordS z)) [.str newW, .str foundW] := by
            show goodW (wordS z) = _
            unfold goodW
            rw [h, Bool.true_and]
            unfold inV
            simp only [List.any_cons, List.any_nil, Bool.or_false, eq_V]
          have := k H1 s1
          rw [e] at this
          exact this
        · have e : isL (.str z) = false := by
            show goodW (wordS z) = _
            unfold goodW
            rw [(Bool.not_eq_true _).mp h, Bool.false_and]
          have := k H1 s1
          rw [e] at this
          exact this
end
end Ask

namespace Ask
open PySem L2
/-! ### what the library asks of data -/
theorem asc_ok {z : Str} (h : Asc z) : PyData.strOk z = true := by
  unfold PyData.strOk
  rw [← Array.all_toList, List.all_eq_true]
  intro c hc
  have := h c hc
  exact decide_eq_true (by omega)
structure Fit (d : PyData) : Prop where
  lay : d.canLay0 = true
  dep : d.depth ≤ 1
  sho : d.showable = true
  nod : d.hasDict = false
  len : d.shown.length ≤ 6000
theorem fit_str {z : Str} (h1 : z.length ≤ 500) (h2 : Asc z) : Fit (.str z) ∧ (PyData.shown (.str z)).length ≤ 5100 := by
  have l := StrLaws.reprText_len z (fun c hc => by have := h2 c hc; omega)
  have l2 : (PyData.shown (.str z)).length ≤ 5100 := by
    show (reprText z).length ≤ 5100
    omega
  exact ⟨⟨asc_ok h2, Nat.zero_le _, rfl, rfl, by omega⟩, l2⟩
theorem itm_fit {d : PyData} (h : Itm d) : Fit d := by
  rcases h with rfl | rfl | rfl | ⟨z, h1, h2, rfl | rfl | rfl⟩
  · exact ⟨rfl, by decide, rfl, rfl, by decide⟩
  · exact ⟨rfl, by decide, rfl, rfl, by decide⟩
  · exact ⟨rfl, by decide, by decide, rfl, by decide⟩
  · exact (fit_str h1 h2).1
  · obtain ⟨f, l⟩ := fit_str h1 h2
    refine ⟨?_, by show max 0 0 + 1 ≤ 1; decide, rfl, rfl, ?_⟩
    · show (PyData.canLay0 (.str z) && true) = true
      rw [f.lay] <;> rfl
    · have := listText_len_le [PyData.shown (.str z)]
      show (listText [PyData.shown (.str z)]).length ≤ 6000
      simp only [List.map_cons, List.map_nil, List.sum_cons, List.sum_nil, List.length_cons, List.length_nil] at this
      omega
  · obtain ⟨f, l⟩ := fit_str h1 h2
    refine ⟨?_, by show max 0 0 + 1 ≤ 1; decide, rfl, rfl, ?_⟩
    · show (PyData.canLay0 (.str z) && true) = true
      rw [f.lay] <;> rfl
    · have := tupleText_len_le [PyData.shown (.str z)]
      show (tupleText [PyData.shown (.str z)]).length ≤ 6000
      simp only [List.map_cons, List.map_nil, List.sum_cons, List.sum_nil, List.length_cons, List.length_nil] at this
      omega
structure FitAll (ds : List PyData) : Prop where
  lay : PyData.canLayAll0 ds = true
  dep : PyData.depthAll ds ≤ 1
  sho : PyData.showableAll ds = true
  nod : PyData.hasDictAll ds = false
  len : ((PyData.shownAll ds).map (·.length)).sum ≤ 6000 * ds.length
  cnt : (PyData.shownAll ds).length = ds.length
theorem fit_all : ∀ {ds : List PyData}, (∀ d ∈ ds, Fit d) → FitAll ds
  | [], _ => ⟨rfl, Nat.zero_le _, rfl, rfl, Nat.le_refl _, rfl⟩
  | d :: r, h => by
    have f := h d (List.mem_cons_self ..)
    have g := fit_all (ds := r) fun x hx => h x (List.mem_cons_of_mem _ hx)
    refine ⟨?_, ?_, ?_, ?_, ?_, ?_⟩
    · show (PyData.canLay0 d && PyData.canLayAll0 r) = true
      rw [f.lay, g.lay] <;> rfl
    · show max (PyData.depth d) (PyData.depthAll r) ≤ 1
      exact Nat.max_le.mpr ⟨f.dep, g.dep⟩
    · show (PyData.showable d && PyData.showableAll r) = true
      rw [f.sho, g.sho] <;> rfl
    · show (PyData.hasDict d || PyData.hasDictAll r) = false
      rw [f.nod, g.nod] <;> rfl
    · show ((PyData.shown d :: PyData.shownAll r).map (·.length)).sum ≤ 6000 * (r.length + 1)
      rw [List.map_cons, List.sum_cons]
      have := f.len
      have := g.len
      omega
    · show (PyData.shown d :: PyData.shownAll r).length = r.length + 1
      rw [List.length_cons, g.cnt]
theorem shaped_of {d : PyData} (h : d.canLay0 = true) (k : d.depth ≤ 64) : SeqAt.shaped d = true := by
  unfold SeqAt.shaped
  rw [h, decide_eq_true k] <;> rfl
theorem FitAll.shapedL {ds : List PyData} (f : FitAll ds) : SeqAt.shaped (.list ds) = true :=
  shaped_of f.lay (by show PyData.depthAll ds + 1 ≤ 64; have := f.dep; omega)
theorem FitAll.shapedT {ds : List PyData} (f : FitAll ds) : SeqAt.shaped (.tuple ds) = true :=
  shaped_of f.lay (by show PyData.depthAll ds + 1 ≤ 64; have := f.dep; omega)
theorem Fit.shaped {d : PyData} (f : Fit d) : SeqAt.shaped d = true := shaped_of f.lay (by have := f.dep; omega)
theorem dp_strs {K : PySem.W.Frag} {H : Hp} : ∀ ys : List Str, DpAll K H (ys.map V.str) (ys.map PyData.str)
  | [] => .nil
  | y :: r => .cons (.str y) (dp_strs r)
theorem fit_strs {ys : List Str} (h : ∀ y ∈ ys, y.length ≤ 500 ∧ Asc y) : FitAll (ys.map PyData.str) := fit_all fun d hd => by
  obtain ⟨y, hy, rfl⟩ := List.mem_map.mp hd
  exact (fit_str (h y hy).1 (h y hy).2).1
theorem eqv_nil : ∀ ds : List PyData, PyData.eqv (.list ds) (.list []) = ds.isEmpty
  | [] => by simp [PyData.eqv, PyData.eqvAll]
  | _ :: _ => by simp [PyData.eqv, PyData.eqvAll]
theorem asc_word {z : Str} (h : Asc z) : Asc (wordS z) := fun c hc => by
  have hc : c ∈ wordOf z.cps.toList := by simpa [wordS] using hc
  unfold wordOf at hc
  split at hc
  · exact h c (List.mem_of_mem_drop hc)
  · exact h c hc
end Ask

namespace Ask
open PySem L2
/-! ### the letters that the laws make are letters, and different ones -/
def fixS (z : Str) : Str := if z = newW ∨ z = foundW then z ++ ("0" : Str) else z
def tildeS : Str := "~"
structure Wds (wd : Nat → Str) (M : Nat) : Prop where
  good : ∀ k, k < M → goodW (wd k) = true
  inj : ∀ j k, j < M → k < M → wd j = wd k → j = k
theorem app_list (a b : Str) : (a ++ b).cps.toList = a.cps.toList ++ b.cps.toList := by rw [Str.cps_append, Array.toList_append]
theorem good_short {z : Str} (h : goodW z = true) : shortL z.cps.toList = true := by
  unfold goodW at h
  exact (Bool.and_eq_true_iff.mp h).1
theorem short_len {l : List Nat} (h : shortL l = true) : 1 ≤ l.length ∧ l.length ≤ 12 := by
  unfold shortL at h
  exact of_decide_eq_true (Bool.and_eq_true_iff.mp (Bool.and_eq_true_iff.mp h).1).1
theorem short_signs {l : List Nat} (h : shortL l = true) : ∀ c ∈ l, c ∈ signsL := by
  unfold shortL at h
  exact fun c hc => of_decide_eq_true (List.all_eq_true.mp (Bool.and_eq_true_iff.mp h).2 c hc)
theorem short_head {l : List Nat} (h : shortL l = true) : ∃ c r, l = c :: r ∧ c ∈ smallL := by
  unfold shortL at h
  have h2 := (Bool.and_eq_true_iff.mp (Bool.and_eq_true_iff.mp h).1).2
  cases l with
  | nil => cases h2
  | cons c r => exact ⟨c, r, rfl, of_decide_eq_true h2⟩
theorem short_mk {c : Nat} {r : List Nat} (h1 : (c :: r).length ≤ 12) (h2 : c ∈ smallL) (h3 : ∀ d ∈ c :: r, d ∈ signsL) : shortL (c :: r) = true := by
  unfold shortL
  rw [decide_eq_true ⟨by simp, h1⟩]
  simp only [List.head?_cons, decide_eq_true h2, Bool.true_and]
  exact List.all_eq_true.mpr fun d hd => decide_eq_true (h3 d hd)
theorem signs_asc' : ∀ c ∈ signsL, c < 128 := signs_asc
theorem small_no : ¬ 126 ∈ smallL := by decide +kernel
theorem small_signs : ∀ c ∈ smallL, c ∈ signsL := by
  have h : smallL.all (fun c => decide (c ∈ signsL)) = true := by decide +kernel
  exact fun c hc => of_decide_eq_true (List.all_eq_true.mp h c hc)
theorem good_asc {z : Str} (h : goodW z = true) : Asc z := fun c hc => signs_asc' c (short_signs (good_short h) c hc)
theorem good_len {z : Str} (h : goodW z = true) : z.length ≤ 12 := by
  have := short_len (good_short h)
  rw [tl_len] at this
  exact this.2
theorem good_no {z : Str} (h : goodW z = true) : z.cps.toList.head? ≠ some 126 := by
  obtain ⟨c, r, e, hc⟩ := short_head (good_short h)
  rw [e]
  intro q
  cases q
  exact small_no hc
theorem word_same {z : Str} (h : z.cps.toList.head? ≠ some 126) : wordS z = z := by
  refine str_ext ?_
  show (wordOf z.cps.toList).toArray.toList = _
  unfold wordOf
  rw [if_neg h]
theorem good_is {z : Str} (h : goodW z = true) : isLs z = true := by
  unfold isLs
  rw [word_same (good_no h)]
  exact h
theorem tilde_is {z : Str} (h : goodW z = true) : isLs (tildeS ++ z) = true := by
  unfold isLs
  have e : wordS (tildeS ++ z) = z := by
    refine str_ext ?_
    show (wordOf (tildeS ++ z).cps.toList).toArray.toList = _
    have e2 : (tildeS ++ z).cps.toList = 126 :: z.cps.toList := by
      rw [app_list]
      have : tildeS.cps.toList = [126] := by decide +kernel
      rw [this]
      rfl
    rw [e2]
    rfl
  rw [e]
  exact h
theorem fix_good {z : Str} (h : shortL z.cps.toList = true) : goodW (fixS z) = true := by
  unfold fixS
  split
  · rename_i q
    rcases q with rfl | rfl <;> decide +kernel
  · rename_i q
    unfold goodW
    rw [h, decide_eq_false (fun e => q (.inl e.symm)), decide_eq_false (fun e => q (.inr e.symm))]
    rfl
theorem fix_at {z : Str} {a : Nat} (h : a < z.cps.toList.length) : (fixS z).cps.toList[a]? = z.cps.toList[a]? := by
  unfold fixS
  split
  · rw [app_list, List.getElem?_append_left h]
  · rfl
theorem wds_mk {wd : Nat → Str} {M : Nat} {S : List Nat} {a : Nat} {sg : Nat → Nat} {T : Nat → List Nat} (ha : a ≤ S.length) (hl : S.length ≤ 11) (hs : ∀ c ∈ S, c ∈ signsL) (hh : ∀ c, S.head? = some c → c ∈ smallL)
    (h1 : ∀ k, k < M → sg k ∈ signsL) (h0 : a = 0 → ∀ k, k < M → sg k ∈ smallL) (inj : ∀ j k, j < M → k < M → sg j = sg k → j = k) (hT : ∀ k, (∀ c ∈ T k, c ∈ signsL) ∧ (T k).length ≤ S.length - a)
    (e : ∀ k, k < M → ∃ z, wd k = fixS z ∧ z.cps.toList = S.take a ++ sg k :: T k) : Wds wd M := by
  refine ⟨fun k hk => ?_, fun j k hj hk q => ?_⟩
  · obtain ⟨z, e1, e2⟩ := e k hk
    rw [e1]
    refine fix_good ?_
    rw [e2]
    have len : (S.take a ++ sg k :: T k).length ≤ 12 := by
      rw [List.length_append, List.length_cons, List.length_take]
      have := (hT k).2
      omega
    have mem : ∀ c ∈ S.take a ++ sg k :: T k, c ∈ signsL := fun c hc => by
      rcases List.mem_append.mp hc with q | q
      · exact hs c (List.mem_of_mem_take q)
      · rcases List.mem_cons.mp q with rfl | q
        · exact h1 k hk
        · exact (hT k).1 c q
    cases a with
    | zero =>
      rw [List.take_zero, List.nil_append] at len mem ⊢
      exact short_mk len (h0 rfl k hk) mem
    | succ a =>
      cases S with
      | nil => simp at ha
      | cons c r =>
        rw [List.take_succ_cons, List.cons_append] at len mem ⊢
        exact short_mk len (hh c rfl) mem
  · obtain ⟨y, e1, e2⟩ := e j hj
    obtain ⟨z, e3, e4⟩ := e k hk
    have l1 : (S.take a).length = a := by rw [List.length_take]; omega
    have p1 : y.cps.toList[a]? = some (sg j) := by
      rw [e2, List.getElem?_append_right (by omega), l1, Nat.sub_self]
      rfl
    have p2 : z.cps.toList[a]? = some (sg k) := by
      rw [e4, List.getElem?_append_right (by omega), l1, Nat.sub_self]
      rfl
    have a1 : a < y.cps.toList.length := by rw [e2, List.length_append, List.length_cons]; omega
    have a2 : a < z.cps.toList.length := by rw [e4, List.length_append, List.length_cons]; omega
    have q2 : (fixS y).cps.toList[a]? = (fixS z).cps.toList[a]? := by rw [← e1, ← e3, q]
    rw [fix_at a1, fix_at a2, p1, p2] at q2
    exact inj j k hj hk (Option.some.inj q2)
/-- the signs of a row of different places -/
theorem step_inj {n f s j k : Nat} (hn : n = 26 ∨ n = 36) (hs : s ∈ [1, 5, 7, 11, 17, 19, 23, 25]) (hj : j < 26) (hk : k < 26) (h : (f + s * j) % n = (f + s * k) % n) : j = k := by
  simp only [List.mem_cons, List.not_mem_nil, or_false] at hs
  rcases hn with rfl | rfl <;> rcases hs with rfl | rfl | rfl | rfl | rfl | rfl | rfl | rfl <;> omega
theorem nodup_at {l : List Nat} (h : l.Nodup) {i j : Nat} {c : Nat} (h1 : l[i]? = some c) (h2 : l[j]? = some c) : i = j := by
  exact (List.getElem?_inj (List.getElem?_eq_some_iff.mp h1).1 h).mp (h1.trans h2.symm)
theorem small_nodup : smallL.Nodup := by decide +kernel
theorem signs_nodup : signsL.Nodup := by decide +kernel
/-! ### what stands behind i turns -/
structure Iv (wd : Nat → Str) (ys : List Str) (i : Nat) : Prop where
  len : ys.length = i
  from_ : ∀ y ∈ ys, ∃ j, j < i ∧ (y = wd j ∨ y = tildeS ++ wd j)
  nd : ys.Nodup
  last : ∀ l, ys.getLast? = some l → l.cps.toList.head? ≠ some 126 → ¬ (tildeS ++ l) ∈ ys
section
variable {wd : Nat → Str} {M i : Nat} {ys : List Str}
theorem tilde_inj {a b : Str} (h : tildeS ++ a = tildeS ++ b) : a = b := by
  have h2 := congrArg (fun z : Str => z.cps.toList) h
  simp only [app_list] at h2
  exact str_ext (List.append_cancel_left h2)
theorem tilde_head (a : Str) : (tildeS ++ a).cps.toList.head? = some 126 := by
  rw [app_list]
  have : tildeS.cps.toList = [126] := by decide +kernel
  rw [this]
  rfl
theorem Iv.nil : Iv wd [] 0 := ⟨rfl, fun _ h => by simp at h, List.nodup_nil, fun _ h => by simp at h⟩
theorem Iv.fresh (v : Iv wd ys i) (w : Wds wd M) (hi : i < M) : ¬ wd i ∈ ys ∧ ¬ (tildeS ++ wd i) ∈ ys := by
  refine ⟨fun h => ?_, fun h => ?_⟩
  · obtain ⟨j, hj, e | e⟩ := v.from_ _ h
    · have := w.inj i j hi (by omega) e
      omega
    · exact good_no (w.good i hi) (by rw [e]; exact tilde_head _)
  · obtain ⟨j, hj, e | e⟩ := v.from_ _ h
    · exact good_no (w.good j (by omega)) (by rw [← e]; exact tilde_head _)
    · have := w.inj i j hi (by omega) (tilde_inj e)
      omega
theorem nodup_app {ys : List Str} {y : Str} (h : ys.Nodup) (n : ¬ y ∈ ys) : (ys ++ [y]).Nodup := by
  rw [List.nodup_append]
  refine ⟨h, by simp, fun a ha b hb q => ?_⟩
  rw [List.mem_singleton.mp hb] at q
  rw [q] at ha
  exact n ha
theorem Iv.plain (v : Iv wd ys i) (w : Wds wd M) (hi : i < M) : Iv wd (ys ++ [wd i]) (i + 1) := by
  obtain ⟨f1, f2⟩ := v.fresh w hi
  refine ⟨by rw [List.length_append, v.len]; rfl, fun y hy => ?_, nodup_app v.nd f1, fun l hl hn => ?_⟩
  · rcases List.mem_append.mp hy with q | q
    · obtain ⟨j, hj, e⟩ := v.from_ y q
      exact ⟨j, by omega, e⟩
    · exact ⟨i, by omega, .inl (List.mem_singleton.mp q)⟩
  · rw [List.getLast?_concat] at hl
    cases hl
    intro q
    rcases List.mem_append.mp q with q | q
    · exact f2 q
    · exact good_no (w.good i hi) (by rw [← List.mem_singleton.mp q]; exact tilde_head _)
theorem Iv.tilde (v : Iv wd ys i) (w : Wds wd M) (hi : i < M) : Iv wd (ys ++ [tildeS ++ wd i]) (i + 1) := by
  obtain ⟨f1, f2⟩ := v.fresh w hi
  refine ⟨by rw [List.length_append, v.len]; rfl, fun y hy => ?_, nodup_app v.nd f2, fun l hl hn => ?_⟩
  · rcases List.mem_append.mp hy with q | q
    · obtain ⟨j, hj, e⟩ := v.from_ y q
      exact ⟨j, by omega, e⟩
    · exact ⟨i, by omega, .inr (List.mem_singleton.mp q)⟩
  · rw [List.getLast?_concat] at hl
    cases hl
    exact absurd (tilde_head _) hn
theorem Iv.again (v : Iv wd ys i) {l : Str} (hl : ys.getLast? = some l) (hn : l.cps.toList.head? ≠ some 126) : Iv wd (ys ++ [tildeS ++ l]) (i + 1) := by
  have ml : l ∈ ys := List.mem_of_getLast? hl
  refine ⟨by rw [List.length_append, v.len]; rfl, fun y hy => ?_, nodup_app v.nd (v.last l hl hn), fun k hk hn' => ?_⟩
  · rcases List.mem_append.mp hy with q | q
    · obtain ⟨j, hj, e⟩ := v.from_ y q
      exact ⟨j, by omega, e⟩
    · obtain ⟨j, hj, e | e⟩ := v.from_ l ml
      · exact ⟨j, by omega, .inr (by rw [List.mem_singleton.mp q, e])⟩
      · exact absurd (by rw [e]; exact tilde_head _) hn
  · rw [List.getLast?_concat] at hk
    cases hk
    exact absurd (tilde_head _) hn'
/-- at the end: letters, different ones -/
theorem Iv.ends (v : Iv wd ys i) (w : Wds wd M) (hi : i ≤ M) : ys.length = i ∧ ys.Nodup ∧ ∀ y ∈ ys, isLs y = true ∧ y.length ≤ 13 ∧ Asc y := by
  refine ⟨v.len, v.nd, fun y hy => ?_⟩
  obtain ⟨j, hj, e⟩ := v.from_ y hy
  have g := w.good j (by omega)
  rcases e with rfl | rfl
  · exact ⟨good_is g, by have := good_len g; omega, good_asc g⟩
  · refine ⟨tilde_is g, ?_, Asc.app (.lit (by decide +kernel)) (good_asc g)⟩
    rw [Str.length_append]
    have := good_len g
    show 1 + _ ≤ 13
    omega
end
end Ask

namespace Ask
open PySem L2
theorem join_ones : ∀ cs : List Nat, (Str.join (Str.ofString "") (cs.map fun c => (⟨#[c]⟩ : Str))).cps.toList = cs
  | [] => rfl
  | [c] => rfl
  | c :: d :: r => by
    show (((⟨#[c]⟩ : Str) ++ Str.ofString "") ++ Str.join (Str.ofString "") ((d :: r).map fun c => (⟨#[c]⟩ : Str))).cps.toList = _
    rw [app_list, app_list, join_ones (d :: r)]
    rfl
theorem joinT_ones (cs : List Nat) : (Txt.join (Str.ofString "") (cs.map fun c => (⟨#[c]⟩ : Str))).cps.toList = cs := by
  rw [TL.join_eq]
  exact join_ones cs
theorem cut_pre (z : Str) (n : Nat) : (cutS z none (some (n : Int))).cps.toList = z.cps.toList.take n := by
  unfold cutS
  rw [HT.sIx_none, HT.sIx_nat, List.drop_zero, Nat.sub_zero]
  have hl := tl_len z
  by_cases h : n ≤ z.length
  · rw [Nat.min_eq_left h]
  · rw [Nat.min_eq_right (by omega), List.take_of_length_le (by omega), List.take_of_length_le (by omega)]
theorem cut_suf (z : Str) (n : Nat) : (cutS z (some (n : Int)) none).cps.toList = z.cps.toList.drop n := by
  unfold cutS
  rw [HT.sIx_none, HT.sIx_nat]
  have hl := tl_len z
  by_cases h : n ≤ z.length
  · rw [Nat.min_eq_left h, List.take_of_length_le (by rw [List.length_drop]; omega)]
  · rw [Nat.min_eq_right (by omega), List.drop_of_length_le (by omega), List.drop_of_length_le (by omega)]
    simp
theorem cut_mem {z : Str} {lo hi : Option Int} {c : Nat} (h : c ∈ (cutS z lo hi).cps.toList) : c ∈ z.cps.toList := List.mem_of_mem_drop (List.mem_of_mem_take h)
/-- the sign of turn k -/
def sgN (zc : Str) (fr s k : Nat) : Nat := (zc.cps.toList[(fr + s * k) % zc.length]?).getD 0
theorem sgN_at (zc : Str) (fr s k : Nat) (h : 0 < zc.length) : zc.cps.toList[(fr + s * k) % zc.length]? = some (sgN zc fr s k) := by
  have hl := tl_len zc
  have lt : (fr + s * k) % zc.length < zc.cps.toList.length := by
    rw [hl]
    exact Nat.mod_lt _ h
  unfold sgN
  rw [List.getElem?_eq_getElem lt]
  rfl
theorem sgN_mem (zc : Str) (fr s k : Nat) (h : 0 < zc.length) : sgN zc fr s k ∈ zc.cps.toList := List.mem_of_getElem? (sgN_at zc fr s k h)
/-- the word of turn k -/
def wdN (stem zc : Str) (at_ fr s : Nat) (k : Nat) : Str :=
  fixS ((cutS stem none (some (at_ : Int)) ++ (⟨#[sgN zc fr s k]⟩ : Str)) ++ cutS (cutS stem (some (at_ : Int)) none) none (some (((cutS stem (some (at_ : Int)) none).length : Int) - (0 + (k : Int)) * (if decide (0 + (k : Int) < 2) = true then 1 else 0))))
theorem wdN_ok {stem zc : Str} {at_ fr s : Nat} (ha : at_ ≤ stem.length) (hl : stem.length ≤ 11) (hs : ∀ c ∈ stem.cps.toList, c ∈ signsL) (hh : ∀ c, stem.cps.toList.head? = some c → c ∈ smallL)
    (hz : zc = if 0 < at_ then signs else small) (hst : s ∈ [1, 5, 7, 11, 17, 19, 23, 25]) : Wds (wdN stem zc at_ fr s) 26 := by
  have hL := tl_len stem
  have hn : zc.length = 26 ∨ zc.length = 36 := by
    rw [hz]
    split
    · exact .inr signs_len
    · exact .inl small_len
  have pos : 0 < zc.length := by omega
  have nd : zc.cps.toList.Nodup := by
    rw [hz]
    split
    · exact signs_nodup
    · exact small_nodup
  refine wds_mk (S := stem.cps.toList) (a := at_) (sg := sgN zc fr s) (T := fun k => (cutS (cutS stem (some (at_ : Int)) none) none (some (((cutS stem (some (at_ : Int)) none).length : Int) - (0 + (k : Int)) * (if decide (0 + (k : Int) < 2) = true then 1 else 0)))).cps.toList)
    (by omega) (by omega) hs hh (fun k hk => ?_) (fun e k hk => ?_) (fun j k hj hk q => ?_) (fun k => ⟨fun c hc => hs c (cut_mem (cut_mem hc)), ?_⟩) (fun k hk => ⟨_, rfl, ?_⟩)
  · have := sgN_mem zc fr s k pos
    generalize sgN zc fr s k = x at this ⊢
    rw [hz] at this
    split at this
    · exact this
    · exact small_signs _ this
  · have := sgN_mem zc fr s k pos
    generalize sgN zc fr s k = x at this ⊢
    rw [hz, e] at this
    exact this
  · have e1 := sgN_at zc fr s j pos
    have e2 := sgN_at zc fr s k pos
    rw [q] at e1
    exact step_inj hn hst hj hk (nodup_at nd e1 e2)
  · rw [tl_len]
    refine Nat.le_trans (cutS_length _ _ _) ?_
    have := tl_len (cutS stem (some (at_ : Int)) none)
    rw [cut_suf, List.length_drop] at this
    omega
  · rw [app_list, app_list, cut_pre]
    show (_ ++ [sgN zc fr s k]) ++ _ = _
    rw [List.append_assoc]
    rfl
/-- what the block of the n signs leaves -/
def SgL (L : List Nat) (p c : Addr) (ns : List Int) (H0 : Hp) (D : Addr) (B i : Nat) (H : Hp) : Prop := ∃ cs : List Nat, Go p c ns H0 H (B + i) ∧ H D = some (.lst ((cs.map fun c => (⟨#[c]⟩ : Str)).map V.str)) ∧ cs.length = i ∧ ∀ c ∈ cs, c ∈ L
theorem SgL.next {L : List Nat} {p c D : Addr} {ns : List Int} {H0 H H' : Hp} {B i j : Nat} (h : SgL L p c ns H0 D B i H) (h0 : H0 D = none) (g : Go p c ns H H' (B + i + 1)) (hi : i ≤ 1000) (hj : j ∈ L) :
    ∃ acc, H' D = some (.lst acc) ∧ acc.length < sizeLine ∧ SgL L p c ns H0 D B (i + 1) (upd H' D (.lst (acc ++ [.str ⟨#[j]⟩]))) := by
  obtain ⟨cs, g0, hD, hl, h1⟩ := h
  refine ⟨_, g.lst hD, ?_, cs ++ [j], ((g0.step g).mut h0).mono (by omega), ?_, ?_, ?_⟩
  · rw [List.length_map, List.length_map]
    exact small1000 (by omega)
  · rw [upd_same, List.map_append, List.map_append]
    rfl
  · rw [List.length_append, hl]
    rfl
  · intro y hy
    rcases List.mem_append.mp hy with z | z
    · exact h1 y z
    · rw [List.mem_singleton.mp z]
      exact hj
theorem in_mem {x : Str} {ys : List Str} (h : x ∈ ys) : inV (.str x) (ys.map V.str) = true := by
  unfold inV
  rw [List.any_eq_true]
  refine ⟨.str x, List.mem_map.mpr ⟨x, h, rfl⟩, ?_⟩
  exact decide_eq_true rfl
end Ask

namespace Ask
open PySem L2
/-- an item of the law's lists, its list or tuple at a place of N -/
def ItV (N : Addr → Prop) (H : Hp) (v : V) (d : PyData) : Prop :=
  (v = .non ∧ d = .none) ∨ (v = .bl true ∧ d = .bool true) ∨ (v = .int 7 ∧ d = .int 7) ∨ ∃ z : Str, (z.length ≤ 500 ∧ Asc z) ∧
    ((v = .str z ∧ d = .str z) ∨ ∃ a, v = .ref a ∧ N a ∧ ((H a = some (.lst [.str z]) ∧ d = .list [.str z]) ∨ (H a = some (.tup [.str z]) ∧ d = .tuple [.str z])))
section
variable {K : PySem.W.Frag} {N N' : Addr → Prop} {H H' H0 : Hp} {v : V} {d : PyData} {p c q : Addr} {ns : List Int} {B : Nat} {o : HO}
theorem ItV.itm (h : ItV N H v d) : Itm d := by
  rcases h with ⟨_, e⟩ | ⟨_, e⟩ | ⟨_, e⟩ | ⟨z, ⟨h1, h2⟩, ⟨_, e⟩ | ⟨a, _, _, ⟨_, e⟩ | ⟨_, e⟩⟩⟩
  · exact .inl e
  · exact .inr (.inl e)
  · exact .inr (.inr (.inl e))
  · exact .inr (.inr (.inr ⟨z, h1, h2, .inl e⟩))
  · exact .inr (.inr (.inr ⟨z, h1, h2, .inr (.inl e)⟩))
  · exact .inr (.inr (.inr ⟨z, h1, h2, .inr (.inr e)⟩))
theorem ItV.dp (h : ItV N H v d) : Dp K H v d := by
  rcases h with ⟨e, e'⟩ | ⟨e, e'⟩ | ⟨e, e'⟩ | ⟨z, _, ⟨e, e'⟩ | ⟨a, e, _, ⟨ea, e'⟩ | ⟨ea, e'⟩⟩⟩ <;> rw [e, e']
  · exact .non
  · exact .bl _
  · exact .int _
  · exact .str _
  · exact .lst (SqL.of ea) (.cons (.str _) .nil)
  · exact .tup (SqT.of ea) (.cons (.str _) .nil)
theorem ItV.mp (h : ItV N H v d) (k : ∀ a o, N a → H a = some o → (∀ kvs, o ≠ .dK kvs) → N' a ∧ H' a = some o) : ItV N' H' v d := by
  rcases h with h | h | h | ⟨z, hz, h | ⟨a, e, n, ⟨ea, e'⟩ | ⟨ea, e'⟩⟩⟩
  · exact .inl h
  · exact .inr (.inl h)
  · exact .inr (.inr (.inl h))
  · exact .inr (.inr (.inr ⟨z, hz, .inl h⟩))
  · obtain ⟨n', ea'⟩ := k a _ n ea (by intro _ z; cases z)
    exact .inr (.inr (.inr ⟨z, hz, .inr ⟨a, e, n', .inl ⟨ea', e'⟩⟩⟩))
  · obtain ⟨n', ea'⟩ := k a _ n ea (by intro _ z; cases z)
    exact .inr (.inr (.inr ⟨z, hz, .inr ⟨a, e, n', .inr ⟨ea', e'⟩⟩⟩))
theorem ItV.go (h : ItV N H v d) (g : Go p c ns H H' B) : ItV N H' v d := h.mp fun a o n e k => ⟨n, g.at e k⟩
theorem ItV.same (h : ItV N H v d) (s : Same H H') : ItV N H' v d := h.mp fun a o n e _ => ⟨n, s a o e⟩
theorem ItV.mut (h : ItV N H v d) (n : ∀ a, N a → a ≠ q) : ItV N (upd H q o) v d := h.mp fun a u m e _ => ⟨m, by rw [upd_ne (n a m)]; exact e⟩
theorem ItV.wk (h : ItV N H v d) (n : ∀ a, N a → N' a) : ItV N' H v d := h.mp fun a u m e _ => ⟨n a m, e⟩
def ItS (N : Addr → Prop) (H : Hp) (xs : List V) : Prop := ∀ v ∈ xs, ∃ d, ItV N H v d
theorem ItS.nil : ItS N H [] := fun _ h => by cases h
theorem ItS.cons {xs : List V} (h : ∃ d, ItV N H v d) (r : ItS N H xs) : ItS N H (v :: xs) := fun x hx => by
  rcases List.mem_cons.mp hx with rfl | hx
  · exact h
  · exact r x hx
theorem ItS.app {xs ys : List V} (h : ItS N H xs) (r : ItS N H ys) : ItS N H (xs ++ ys) := fun x hx => by
  rcases List.mem_append.mp hx with hx | hx
  · exact h x hx
  · exact r x hx
theorem itStr {z : Str} (h : z.length ≤ 500 ∧ Asc z) : ∃ d, ItV N H (.str z) d := ⟨_, .inr (.inr (.inr ⟨z, h, .inl ⟨rfl, rfl⟩⟩))⟩
end
theorem asc_upper {z : Str} (h : Asc z) : Asc (Txt.upper z) ∧ (Txt.upper z).length = z.length := by
  rw [PyProof.Rows.upper_ascii h]
  refine ⟨fun c hc => ?_, by simp [Str.length]⟩
  have hc : c ∈ (z.cps.map PyProof.Rows.up1).toList := hc
  rw [Array.toList_map] at hc
  obtain ⟨b, hb, rfl⟩ := List.mem_map.mp hc
  have := h b hb
  unfold PyProof.Rows.up1
  split <;> omega
theorem asc_rep {z : Str} (h : Asc z) (n : Nat) : Asc (repS z n) := by
  have : ∀ (n : Nat) (acc : Array Nat), (∀ c ∈ acc.toList, c < 128) → ∀ c ∈ ((List.replicate n z.cps).foldl (· ++ ·) acc).toList, c < 128 := by
    intro n
    induction n with
    | zero => intro acc ha; simpa using ha
    | succ n ih =>
      intro acc ha
      rw [List.replicate_succ, List.foldl_cons]
      refine ih _ fun c hc => ?_
      rw [Array.toList_append] at hc
      rcases List.mem_append.mp hc with q | q
      · exact ha c q
      · exact h c q
  exact this n #[] (fun c hc => by cases hc)
end Ask

namespace Ask
open PySem L2
/-! ### the answers, by the mirror -/
def badAt (ds : List PyData) (k : Nat) : Bool := match ds[k]? with
  | some d => !isL d || (ds.take k).any fun z => PyData.eqv z d
  | none => false
def bads (ds : List PyData) : List Nat := (List.range ds.length).filter (badAt ds)
def res (ds : List PyData) : PyData :=
  if 12 < ds.length then .tuple [.str "many", .str "letters", .int (ds.length : Nat), .int 12]
  else match bads ds with
    | k :: _ => .tuple [.str "letters", .int (k : Nat)]
    | [] => if ds.length = 0 then .tuple [.str "letters", .int 0] else .none
theorem res_many {ds : List PyData} (h : 12 < ds.length) : res ds = .tuple [.str "many", .str "letters", .int (ds.length : Nat), .int 12] := if_pos h
theorem res_none {ds : List PyData} (h : ds.length = 0) : res ds = .tuple [.str "letters", .int 0] := by
  have e : ds = [] := List.eq_nil_of_length_eq_zero h
  subst e
  rfl
theorem bads_at {ds : List PyData} {k : Nat} (h1 : k < ds.length) (h2 : badAt ds k = true) (h3 : ∀ j < k, badAt ds j = false) : ∃ r, bads ds = k :: r := by
  unfold bads
  have e : ds.length = k + (1 + (ds.length - k - 1)) := by omega
  rw [e, List.range_add, List.filter_append]
  have e1 : (List.range k).filter (badAt ds) = [] := List.filter_eq_nil_iff.mpr fun x hx => by
    rw [h3 x (List.mem_range.mp hx)]
    exact Bool.false_ne_true
  rw [e1, List.nil_append, Nat.add_comm 1, List.range_succ_eq_map, List.map_cons, List.filter_cons, if_pos (by simpa using h2)]
  exact ⟨_, rfl⟩
theorem res_at {ds : List PyData} {k : Nat} (h0 : ¬ 12 < ds.length) (h1 : k < ds.length) (h2 : badAt ds k = true) (h3 : ∀ j < k, badAt ds j = false) : res ds = .tuple [.str "letters", .int (k : Nat)] := by
  obtain ⟨r, e⟩ := bads_at h1 h2 h3
  unfold res
  rw [if_neg h0, e]
theorem res_good {ds : List PyData} (h0 : ¬ 12 < ds.length) (h1 : 0 < ds.length) (h3 : ∀ j < ds.length, badAt ds j = false) : res ds = .none := by
  have e : bads ds = [] := List.filter_eq_nil_iff.mpr fun x hx => by
    rw [h3 x (List.mem_range.mp hx)]
    exact Bool.false_ne_true
  unfold res
  rw [if_neg h0, e]
  exact if_neg (by omega)
/-- an answer of the law's -/
def Rs (H : Hp) (v : V) (d : PyData) : Prop := (v = .non ∧ d = .none) ∨ ∃ a xs ds, v = .ref a ∧ d = .tuple ds ∧ H a = some (.tup xs) ∧ ∀ (K : PySem.W.Frag) (H' : Hp), DpAll K H' xs ds
/-- the items of a list -/
def ItL (N : Addr → Prop) (H : Hp) : List V → List PyData → Prop
  | [], [] => True
  | v :: xs, d :: ds => ItV N H v d ∧ ItL N H xs ds
  | _, _ => False
section
variable {K : PySem.W.Frag} {N N' : Addr → Prop} {H H' H0 : Hp} {v : V} {d : PyData} {p c q : Addr} {ns : List Int} {B : Nat} {o : HO}
theorem Rs.dp (h : Rs H v d) : Dp K H v d := by
  rcases h with ⟨rfl, rfl⟩ | ⟨a, xs, ds, rfl, rfl, e, k⟩
  · exact .non
  · exact .tup (SqT.of e) (k K H)
theorem Rs.same (h : Rs H v d) (s : Same H H') : Rs H' v d := by
  rcases h with h | ⟨a, xs, ds, h1, h2, e, k⟩
  · exact .inl h
  · exact .inr ⟨a, xs, ds, h1, h2, s _ _ e, k⟩
theorem ItL.len : ∀ {xs : List V} {ds : List PyData}, ItL N H xs ds → xs.length = ds.length
  | [], [], _ => rfl
  | _ :: _, _ :: _, h => by rw [List.length_cons, List.length_cons, ItL.len h.2]
  | [], _ :: _, h => h.elim
  | _ :: _, [], h => h.elim
theorem ItL.mp : ∀ {xs : List V} {ds : List PyData}, ItL N H xs ds → (∀ v d, ItV N H v d → ItV N' H' v d) → ItL N' H' xs ds
  | [], [], _, _ => trivial
  | _ :: _, _ :: _, h, k => ⟨k _ _ h.1, ItL.mp h.2 k⟩
  | [], _ :: _, h, _ => h.elim
  | _ :: _, [], h, _ => h.elim
theorem ItL.dp : ∀ {xs : List V} {ds : List PyData}, ItL N H xs ds → DpAll K H xs ds
  | [], [], _ => .nil
  | _ :: _, _ :: _, h => .cons h.1.dp (ItL.dp h.2)
  | [], _ :: _, h => h.elim
  | _ :: _, [], h => h.elim
theorem ItL.itm : ∀ {xs : List V} {ds : List PyData}, ItL N H xs ds → ∀ d ∈ ds, Itm d
  | [], [], _, _, h => by cases h
  | _ :: _, _ :: _, h, d, hd => by
    rcases List.mem_cons.mp hd with rfl | hd
    · exact h.1.itm
    · exact ItL.itm h.2 d hd
  | [], _ :: _, h, _, _ => h.elim
  | _ :: _, [], h, _, _ => h.elim
theorem ItL.fit {xs : List V} {ds : List PyData} (h : ItL N H xs ds) : FitAll ds := fit_all fun d hd => itm_fit (h.itm d hd)
theorem ItL.get : ∀ {xs : List V} {ds : List PyData} (k : Nat), ItL N H xs ds → k < xs.length → ∃ v d, xs[k]? = some v ∧ ds[k]? = some d ∧ ItV N H v d
  | [], _, _, _, h => absurd h (Nat.not_lt_zero _)
  | _ :: _, [], _, h, _ => h.elim
  | v :: _, d :: _, 0, h, _ => ⟨v, d, rfl, rfl, h.1⟩
  | _ :: _, _ :: _, k + 1, h, hk => by
    obtain ⟨v, d, h1, h2, h3⟩ := ItL.get k h.2 (Nat.lt_of_succ_lt_succ hk)
    exact ⟨v, d, by simpa using h1, by simpa using h2, h3⟩
theorem ItL.take : ∀ {xs : List V} {ds : List PyData} (k : Nat), ItL N H xs ds → ItL N H (xs.take k) (ds.take k)
  | [], [], _, _ => by rw [List.take_nil, List.take_nil]; trivial
  | _ :: _, _ :: _, 0, _ => trivial
  | _ :: _, _ :: _, k + 1, h => ⟨h.1, ItL.take k h.2⟩
  | [], _ :: _, _, h => h.elim
  | _ :: _, [], _, h => h.elim
theorem ItL.set : ∀ {xs : List V} {ds : List PyData} (k : Nat), ItL N H xs ds → ItV N H v d → ItL N H (xs.set k v) (ds.set k d)
  | [], [], _, _, _ => trivial
  | _ :: _, _ :: _, 0, h, hv => ⟨hv, h.2⟩
  | _ :: _, _ :: _, k + 1, h, hv => ⟨h.1, ItL.set k h.2 hv⟩
  | [], _ :: _, _, h, _ => h.elim
  | _ :: _, [], _, h, _ => h.elim
theorem ItL.app1 : ∀ {xs : List V} {ds : List PyData}, ItL N H xs ds → ItV N H v d → ItL N H (xs ++ [v]) (ds ++ [d])
  | [], [], _, hv => ⟨hv, trivial⟩
  | _ :: _, _ :: _, h, hv => ⟨h.1, ItL.app1 h.2 hv⟩
  | [], _ :: _, h, _ => h.elim
  | _ :: _, [], h, _ => h.elim
theorem itl_strs : ∀ {ys : List Str}, (∀ y ∈ ys, y.length ≤ 500 ∧ Asc y) → ItL N H (ys.map V.str) (ys.map PyData.str)
  | [], _ => trivial
  | y :: r, h => ⟨.inr (.inr (.inr ⟨y, h y (List.mem_cons_self ..), .inl ⟨rfl, rfl⟩⟩)), itl_strs fun z hz => h z (List.mem_cons_of_mem _ hz)⟩
end
theorem ints_lay : ∀ ks : List Nat, (∀ k ∈ ks, k ≤ 1000) → PyData.canLayAll0 (ks.map fun k : Nat => PyData.int k) = true ∧ PyData.depthAll (ks.map fun k : Nat => PyData.int k) = 0
  | [], _ => ⟨rfl, rfl⟩
  | k :: r, h => by
    obtain ⟨h1, h2⟩ := ints_lay r fun z hz => h z (List.mem_cons_of_mem _ hz)
    have hk := h k (List.mem_cons_self ..)
    refine ⟨?_, ?_⟩
    · show (PyData.canLay0 (.int (k : Nat)) && PyData.canLayAll0 (r.map fun k : Nat => PyData.int k)) = true
      rw [h1, Bool.and_true]
      rfl
    · show max 0 (PyData.depthAll (r.map fun k : Nat => PyData.int k)) = 0
      rw [h2]
      rfl
theorem ints_shaped {ks : List Nat} (h : ∀ k ∈ ks, k ≤ 1000) : SeqAt.shaped (.list (ks.map fun k : Nat => PyData.int k)) = true := by
  obtain ⟨h1, h2⟩ := ints_lay ks h
  exact shaped_of h1 (by show PyData.depthAll _ + 1 ≤ 64; omega)
theorem dp_ints {K : PySem.W.Frag} {H : Hp} : ∀ ks : List Nat, DpAll K H (ks.map fun k : Nat => V.int k) (ks.map fun k : Nat => PyData.int k)
  | [] => .nil
  | k :: r => .cons (.int _) (dp_ints r)
theorem cutV_take (xs : List V) (k : Nat) (h : k ≤ xs.length) : cutV xs none (some (k : Int)) = xs.take k := by
  unfold cutV
  rw [HT.sIx_none, HT.sIx_nat, List.drop_zero, Nat.sub_zero, Nat.min_eq_left h]
end Ask

/-! C(e, ..), what its __init__ raises wished for at the caller's slots -/
namespace Ask
open PySem L2 PySem.Spec PyProof.Rows
def tMakeS (C : Addr) (sp : Sp) (E : L2.St → XK) (t : TA) : TE := fun σ H Q => t σ H fun vs H1 => ∀ x dx, H1 x = none → H1 dx = none → dx ≠ x →
  sp (.ref x :: vs) (upd (upd H1 dx (.own x)) x (.ins C dx [])) (fun v H2 => v = .non ∧ Q (.ref x) H2) (E σ)
theorem pe_makeS {X : Cx} {CX : CXT} {k : Nat} {f C : Addr} {fd : FuncData} {ps : List Str} {sp : Sp} {E : L2.St → XK} {x : Str} {p pos : Pos} {e : Expr} {es : List Expr} {t : TA}
    (M : Mk X.K C f) (F : FnOk X.prog X.w X.K X.mg X.base CX k f fd ps sp) (hr : Room (k + 1) X.A) (hg : Gl X x) (hm : X.mg x = some (.ref C)) (hb : Binds X.K fd ps []) (hx : ∀ σ, PassesAt CX X σ (E σ)) (ha : PA X (e :: es) t)
    (hdb : (x == ("__debug__" : Str)) = false := by decide) (he : starEach (e :: es) X.env = (false, eval e X.env) :: starEach es X.env := by rfl) (hpl : (backTo pos (starEach es X.env)).any (·.1) = false := by rfl) :
    PE X (.Call (.Name x p) (e :: es) [] pos) (tMakeS C sp E t) := by
  refine ⟨fun pins s σ H Q I h => wpAny_Call_Name_kw (ld_glob I hg hm ?_ hdb)⟩
  refine PySem.W.callWith_K (h₀ := X.base) I.ok.mod.kin M.kp (thn (ha.run pos pins s σ H _ I h) fun us s1 ⟨vs, H1, I1, r, q⟩ => ⟨I1.kIn, ?_⟩) he hpl
  have w := q (s1.heap.objs.size + 1) s1.heap.objs.size (I1.hok.fresh (Nat.le_succ _)) (I1.hok.fresh (Nat.le_refl _)) (Nat.ne_of_lt (Nat.lt_succ_self _))
  have I2 := Inv.made (C := C) I1
  have r2 : Vals (V.ref (s1.heap.objs.size + 1) :: vs) (Value.ref (s1.heap.objs.size + 1) :: us) := .cons rfl r
  have len : (Value.ref (s1.heap.objs.size + 1) :: us).length = ps.length := by
    rw [← r2.length]
    exact F.len _ _ _ _ w
  have len2 : (Value.ref (s1.heap.objs.size + 1) :: us ++ []).length = ps.length := by
    rw [List.append_nil]
    exact len
  have bound := hb _ (Value.ref (s1.heap.objs.size + 1) :: us) I2.kIn len2
  rw [List.append_nil] at bound
  refine wpAny_call (make_map (f := f) I1.kIn M.makes M.init (beq_iff_eq.mp M.fn) (codeAny_mono (F.run _ X.stack _ _ ⟨Value.ref (s1.heap.objs.size + 1) :: us, []⟩ _ _ _ (E σ) (hr.make C us []) (I2.env0.make C us []) bound r2 w) fun r s' got => ?_))
  match r, got with
  | .error e, got => exact hx σ pins _ _ e s' I2 got
  | .ok .next, got => exact False.elim got
  | .ok .brk, got => exact False.elim got
  | .ok .cont, got => exact False.elim got
  | .ok (.ret u), got =>
    obtain ⟨v, H', I3, rv, ev, z⟩ := I2.after got
    subst ev
    exact ⟨rv, ⟨V.ref (s1.heap.objs.size + 1), H', I3, rfl, z⟩⟩
end Ask

namespace Ask
open PySem L2
section
variable {P : Program} {w : World} {K : PySem.W.Frag} {mg : Str → Option Value} {base : Heap}
/-! ### copied, of a number or a text -/
def spCopy : Sp := fun vs H Q _ => ∃ x : V, vs = [x] ∧ ((∃ i, x = .int i) ∨ ∃ z, x = .str z) ∧ Q x H
abbrev s_copied : Stmt := top 6
theorem sc_copied : FnScope ["value"] ["value"] (defScope s_copied) := ⟨rfl, rfl, rfl, by decide +kernel, rfl, by decide +kernel, by decide +kernel⟩
theorem ok_copied {f : Addr} {fd : FuncData} (F : Fun K "copied" "copied" s_copied f fd) (T : Blt mg) (nD : mg "dict" = none) : FnOk P w K mg base CX0 1 f fd ["value"] spCopy := by
  refine F.ok sc_copied (fun vs H Q E h => ?_) (fun cdv A outer s H vs Q E hr h => ?_)
  · obtain ⟨x, rfl, _⟩ := h
    rfl
  · obtain ⟨x, rfl, hx, k⟩ := h
    refine ⟨_, (pss_cons (ps_if (pt_val (pe_callB call_isi (by rfl) T.n_isinstance (by decide +kernel) (pa_cons (pv 0) (pa_cons (pe_bltn (v := .ty "list") (u := .type "list") rfl T.n_list (by decide +kernel) rfl) pa_nil)))) pss_never pss_nil)
      (pss_cons (ps_if (pt_val (pe_callB call_isi (by rfl) T.n_isinstance (by decide +kernel) (pa_cons (pv 0) (pa_cons (pe_bltn (v := .ty "tuple") (u := .type "tuple") rfl T.n_tuple (by decide +kernel) rfl) pa_nil)))) pss_never pss_nil)
      (pss_cons (ps_if (pt_val (pe_callB call_isi (by rfl) T.n_isinstance (by decide +kernel) (pa_cons (pv 0) (pa_cons (pe_bltn (v := .ty "dict") (u := .type "dict") rfl nD (by decide +kernel) rfl) pa_nil)))) pss_never pss_nil)
      (pss_one (ps_ret (pv 0)))))), ?_⟩
    rcases hx with ⟨i, rfl⟩ | ⟨z, rfl⟩
    · refine ⟨_, rfl, _, _, _, _, false, rfl, .ty _, .base (.int _), kit_ty (by decide +kernel), _, rfl, iteF ?_⟩
      refine ⟨_, rfl, _, _, _, _, false, rfl, .ty _, .base (.int _), kit_ty (by decide +kernel), _, rfl, iteF ?_⟩
      refine ⟨_, rfl, _, _, _, _, false, rfl, .ty _, .base (.int _), kit_ty (by decide +kernel), _, rfl, iteF ?_⟩
      exact ⟨_, rfl, k⟩
    · refine ⟨_, rfl, _, _, _, _, false, rfl, .ty _, .base (.str _), kit_ty (by decide +kernel), _, rfl, iteF ?_⟩
      refine ⟨_, rfl, _, _, _, _, false, rfl, .ty _, .base (.str _), kit_ty (by decide +kernel), _, rfl, iteF ?_⟩
      refine ⟨_, rfl, _, _, _, _, false, rfl, .ty _, .base (.str _), kit_ty (by decide +kernel), _, rfl, iteF ?_⟩
      exact ⟨_, rfl, k⟩
/-! ### the errors -/
def spErr (C : Addr) (ok : List V → Prop) (fs : List V → List (Str × V)) : Sp := fun vs H Q _ => ∃ (a : Addr) (ws : List V), vs = .ref a :: ws ∧ ok ws ∧ H a = some (exo a C none) ∧
  ∀ (H' : Hp) (dx : Addr), H dx = none → dx ≠ a → H' a = some (exo a C (some dx)) → H' dx = some (exd dx (fs ws)) → (∀ b o, b ≠ a → H b = some o → H' b = some o) → Q .non H'
def okBad : List V → Prop := fun ws => ∃ i : Int, ws = [.int i]
def fsBad : List V → List (Str × V) := fun ws => match ws with
  | [v] => [("index", v)]
  | _ => []
def okMany : List V → Prop := fun ws => ∃ n : Int, ws = [.str "letters", .int n, .int 12]
def fsMany : List V → List (Str × V) := fun ws => match ws with
  | [v, n, m] => [("most", m), ("many", n), ("what", v)]
  | _ => []
abbrev s_BadLetters_init : Stmt := inClass (top 9) 0
theorem sc_BadLetters_init : FnScope ["self", "index"] ["self", "index"] (defScope s_BadLetters_init) := ⟨rfl, rfl, rfl, by decide +kernel, rfl, by decide +kernel, by decide +kernel⟩
abbrev s_TooMany_init : Stmt := inClass (top 13) 0
theorem sc_TooMany_init : FnScope ["self", "what", "many", "most"] ["self", "what", "many", "most"] (defScope s_TooMany_init) := ⟨rfl, rfl, rfl, by decide +kernel, rfl, by decide +kernel, by decide +kernel⟩
theorem ok_badInit {f fC C : Addr} {fd fdC : FuncData} (F : Fun K "__init__" "BadLetters.__init__" s_BadLetters_init f fd) (T : OexC K C) (h1 : PySem.W.findIn K (.ref C) "index" = some none)
    (GC : FnOk P w K mg base CX0 1 fC fdC ["value"] spCopy) (CP : At K mg "copied" fC fdC ["value"]) : FnOk P w K mg base CX0 2 f fd ["self", "index"] (spErr C okBad fsBad) := by
  refine F.ok sc_BadLetters_init (fun vs H Q E h => ?_) (fun cdv A outer s H vs Q E hr h => ?_)
  · obtain ⟨a, ws, rfl, ⟨i, rfl⟩, _⟩ := h
    rfl
  · obtain ⟨a, ws, rfl, ⟨i, rfl⟩, ha, k⟩ := h
    refine ⟨_, pss_one (ps_ost (pv 0) (pe_call GC hr (by rfl) CP.m CP.k CP.b .nil pass0 (pa_cons (pv 1) pa_nil))), ?_⟩
    refine ⟨_, rfl, _, rfl, .inl ⟨i, rfl⟩, _, rfl, a, C, rfl, T, h1, .inl ⟨ha, fun dx hdx hne => ?_⟩⟩
    refine k _ dx hdx hne upd_same (by rw [upd_ne hne]; exact upd_same) fun b o hb e => ?_
    rw [upd_ne hb, upd_ne (ne_of_none e hdx)]
    exact e
theorem ok_manyInit {f fC C : Addr} {fd fdC : FuncData} (F : Fun K "__init__" "TooMany.__init__" s_TooMany_init f fd) (T : OexC K C) (h1 : PySem.W.findIn K (.ref C) "what" = some none) (h2 : PySem.W.findIn K (.ref C) "many" = some none) (h3 : PySem.W.findIn K (.ref C) "most" = some none)
    (GC : FnOk P w K mg base CX0 1 fC fdC ["value"] spCopy) (CP : At K mg "copied" fC fdC ["value"]) : FnOk P w K mg base CX0 2 f fd ["self", "what", "many", "most"] (spErr C okMany fsMany) := by
  refine F.ok sc_TooMany_init (fun vs H Q E h => ?_) (fun cdv A outer s H vs Q E hr h => ?_)
  · obtain ⟨a, ws, rfl, ⟨i, rfl⟩, _⟩ := h
    rfl
  · obtain ⟨a, ws, rfl, ⟨i, rfl⟩, ha, k⟩ := h
    refine ⟨_, pss_cons (ps_ost (pv 0) (pe_call GC hr (by rfl) CP.m CP.k CP.b .nil pass0 (pa_cons (pv 1) pa_nil))) (pss_cons (ps_ost (pv 0) (pe_call GC hr (by rfl) CP.m CP.k CP.b .nil pass0 (pa_cons (pv 2) pa_nil))) (pss_one (ps_ost (pv 0) (pe_call GC hr (by rfl) CP.m CP.k CP.b .nil pass0 (pa_cons (pv 3) pa_nil))))), ?_⟩
    refine ⟨_, rfl, _, rfl, .inr ⟨_, rfl⟩, _, rfl, a, C, rfl, T, h1, .inl ⟨ha, fun dx hdx hne => ?_⟩⟩
    have e1 : upd (upd H dx (exd dx [("what", .str "letters")])) a (exo a C (some dx)) a = some (exo a C (some dx)) := upd_same
    have e2 : upd (upd H dx (exd dx [("what", .str "letters")])) a (exo a C (some dx)) dx = some (exd dx [("what", .str "letters")]) := by rw [upd_ne hne]; exact upd_same
    have k1 : ∀ b o, b ≠ a → H b = some o → upd (upd H dx (exd dx [("what", .str "letters")])) a (exo a C (some dx)) b = some o := fun b o hb e => by
      rw [upd_ne hb, upd_ne (ne_of_none e hdx)]
      exact e
    generalize upd (upd H dx (exd dx [("what", .str "letters")])) a (exo a C (some dx)) = H1 at e1 e2 k1 ⊢
    refine ⟨_, rfl, _, rfl, .inl ⟨_, rfl⟩, _, rfl, a, C, rfl, T, h2, .inr ⟨dx, _, e1, e2, by show 1 ≤ 900; decide, ?_⟩⟩
    refine ⟨_, rfl, _, rfl, .inl ⟨_, rfl⟩, _, rfl, a, C, rfl, T, h3, .inr ⟨dx, _, (by rw [upd_ne hne.symm]; exact e1), upd_same, by show 2 ≤ 900; decide, ?_⟩⟩
    refine k _ dx hdx hne (by rw [upd_ne hne.symm, upd_ne hne.symm]; exact e1) upd_same fun b o hb e => ?_
    have nb := ne_of_none e hdx
    rw [upd_ne nb, upd_ne nb]
    exact k1 b o hb e
end
end Ask

/-! tuple(list), frozen: its object has no dict, so that its methods can be called -/
namespace Ask
open PySem L2 PySem.Spec PyProof.Rows
section
variable {X : Cx}
theorem call_tuple_frz : CallR X (.type "tuple") (fun xs H Q => ∃ p ys, xs = [.ref p] ∧ SqL X.K H p ys ∧ ∀ (l : Addr) (o : Obj), H l = none → o.dict = none → Q (.ref l) (upd H l (.frz o (.tup ys)))) := by
  intro pins s σ H xs us Q I r h
  obtain ⟨p, ys, rfl, hq, q⟩ := h
  obtain ⟨u, rfl, rx⟩ := vals1 r
  cases rx
  obtain ⟨its, r', pl, hz⟩ := I.list hq
  have hlen := r'.length
  refine call_tuple_list pl.isList (fun h' kp => ?_) (by simp only [List.size_toArray] <;> omega)
  have I1 : Inv X pins σ H { s with heap := h' } := I.kept (t' := s.toks) kp
  have I2 : Inv X pins σ (upd H h'.objs.size (.frz { cls := .type "tuple", data := .seq its.toArray } (.tup ys))) { s with heap := h'.push { cls := .type "tuple", data := .seq its.toArray } } :=
    I1.laid (t' := s.toks) (fun b o e => Heap.get?_push_of_some _ e) (Nat.le_refl _) (show ObjOk X.prog X.w _ _ _ (.frz _ (.tup ys)) from ⟨Heap.get?_push_size _ rfl, hz, its, r', IsTup.new _ _⟩)
  exact ⟨.ref h'.objs.size, _, I2, rfl, q _ _ (I1.hok.fresh (Nat.le_refl _)) rfl⟩
def tBMT (r : V → List V → Hp → VK → Prop) (to : TE) (t : TA) : TE := fun σ H Q => to σ H fun x H1 => (∃ (p : Addr) (o : Obj) (xs : List V), x = .ref p ∧ H1 p = some (.frz o (.tup xs)) ∧ o.dict = none) ∧ t σ H1 fun xs H2 => r x xs H2 Q
variable {o e : Expr} {es : List Expr} {to : TE} {t : TA} {name : Str} {apos cpos : Pos} {id : String} {r : V → List V → Hp → VK → Prop}
theorem pe_bmT (slot : Slot "tuple" name id) (hty : typeOf (.builtin id) = pure (.type "method_descriptor")) (hm : MtR X id r) (ho : PE X o to) (ha : PA X (e :: es) t)
    (hbase : attributeBase o name X.env (eval o X.env) = eval o X.env := by rfl)
    (hfew : ((backTo cpos (starEach (e :: es) X.env)).all (fun x => !x.1) && (backToKw cpos (keywordEach [] X.env)).all (fun x => x.1.isSome)
      && decide ((e :: es).length + ([] : List Keyword).length + (if ([] : List Keyword).isEmpty then 0 else 1) < 30)) = true := by rfl)
    (hline : (apos.endLine == cpos.line) = true := by rfl) (hs : starEach (e :: es) X.env = (false, eval e X.env) :: starEach es X.env := by rfl) (hplain : (backTo cpos (starEach es X.env)).any (·.1) = false := by rfl) :
    PE X (.Call (.Attribute o name apos) (e :: es) [] cpos) (tBMT r to t) := by
  refine ⟨fun pins s σ H Q I h => ?_⟩
  refine wpAny_Call_method_late hbase hfew hline rfl (thn (ho.run pins s σ H _ I h) fun v s1 ⟨x, H1, I1, r1, ⟨p, ob, xs, ex, hp, hd⟩, q1⟩ => ?_)
  subst ex
  obtain rfl : v = Value.ref p := r1
  obtain ⟨its, rv, pl, _⟩ := I1.tuple (.inl (.inr ⟨ob, hp⟩))
  have ho := (show ObjOk X.prog X.w H1 s1.heap p (.frz ob (.tup xs)) from I1.hok p _ hp).1
  refine ⟨"tuple", id, PySem.F.plainAttrs_tuple, slot, hty, ?_, fun a ea => ?_, ?_⟩
  · obtain ⟨o1, h1, h2, _⟩ := pl
    exact ⟨o1, h1, h2⟩
  · cases ea
    exact ⟨ob, ho, hd⟩
  · have hA := ha.run cpos pins s1 σ H1 _ I1 q1
    rw [hs] at hA ⊢
    refine Calls.callWith_builtin (by show (false || (backTo cpos (starEach es X.env)).any (·.1)) = false; rw [hplain] <;> rfl) (Calls.evalArgs_plain ?_)
    exact thn hA fun us s2 ⟨vs, H2, I2, r2, q2⟩ => hm pins s2 σ H2 (.ref p) vs _ us Q I2 rfl r2 q2
end
end Ask

namespace Ask
open PySem L2
/-- an own error class of the text, its __init__ at f -/
structure ErrAt (K : PySem.W.Frag) (mg : Str → Option Value) (x : Str) (C f : Addr) (fd : FuncData) (ps : List Str) : Prop where
  m : mg x = some (.ref C)
  o : OexC K C
  i : PySem.W.findIn K (.ref C) "__init__" = some (some (.ref f))
  t : PySem.W.typeIn K (.ref f) = some (.type "function")
  b : Binds K fd ps []
  xf : XfC K C
theorem err_made {C : Addr} {ok : List V → Prop} {fs : List V → List (Str × V)} {H0 H1 : Hp} {ws : List V} {Qx : XK} (s : Same H0 H1) (hok : ok ws) (hl : ws.length ≤ 1000)
    (k : ∀ (H' : Hp) (d : Addr), Same H0 H' → H' d = some (.xd (fs ws)) → Qx (.ref C) (some d) H') :
    ws.length ≤ 1000 ∧ ∀ a, H1 a = none → spErr C ok fs (.ref a :: (ws ++ [])) (upd H1 a (exo a C none))
      (fun v H2 => v = .non ∧ ∃ (d : Addr) (fs' : List (Str × V)), H2 a = some (exo a C (some d)) ∧ H2 d = some (exd d fs') ∧ H1 d = none ∧ Qx (.ref C) (some d) (upd (del H2 a) d (.xd fs'))) (fun _ _ _ => False) := by
  refine ⟨hl, fun a ha => ⟨a, ws, by rw [List.append_nil], hok, upd_same, fun H' dx hdx hne e1 e2 kk => ?_⟩⟩
  have h1 : H1 dx = none := by
    rw [upd_ne hne] at hdx
    exact hdx
  refine ⟨rfl, dx, _, e1, e2, h1, k _ dx (fun b o e => ?_) upd_same⟩
  have e' := s b o e
  have nb : b ≠ a := ne_of_none e' ha
  rw [upd_ne (ne_of_none e' h1), del_ne nb]
  exact kk b o nb (by rw [upd_ne nb]; exact e')
theorem for_enum {K : PySem.W.Frag} {ta : TA} {g : TG} {tb u : TS} {D : Ends} {σ : L2.St} {H : Hp} {J : It} {n : Nat} {G : Hp → Prop} {Y : Nat → Hp → V → Hp → Prop} (f : ∀ R : It → Hp → Prop, R J H → iEnumA K ta σ H R)
    (wk : Walk J n G Y) (Pv : Nat → L2.St → Hp → Prop) (h0 : Pv 0 σ H) (hG : ∀ i σ H, i ≤ n → Pv i σ H → G H)
    (hs : ∀ i x σ H H', i < n → Pv i σ H → Y i H x H' → g x σ H' fun σ2 H2 => tb { D with nx := Pv (i + 1), ct := Pv (i + 1), bk := u D } σ2 H2) (hd : ∀ σ H, Pv n σ H → u D σ H) :
    tSeq (tFor (iEnumA K ta) g tb) u D σ H := by
  delta tSeq tFor
  exact f _ (for_it (D := { D with nx := u D }) wk Pv h0 hG hs hd)
theorem seqT_same {K : PySem.W.Frag} {H H' : Hp} {a : Addr} {xs : List V} (e : Same H H') (h : SqT K H a xs) : SqT K H' a xs := by
  rcases h with (h | ⟨o, h⟩) | h
  · exact .inl (.inl (e _ _ h))
  · exact .inl (.inr ⟨o, e _ _ h⟩)
  · exact .inr h
section
variable {P : Program} {w : World} {K : PySem.W.Frag} {mg : Str → Option Value} {base : Heap}
/-! ### Letters(words) -/
def spLet (K : PySem.W.Frag) (CL CB CM : Addr) : Sp := fun vs H Q E => ∃ (p dx a : Addr) (xs : List V) (ds : List PyData) (N : Addr → Prop), vs = [.ref p, .ref a] ∧ H p = some (.ins CL dx []) ∧ (SqL K H a xs ∨ SqT K H a xs) ∧ ItL N H xs ds ∧ xs.length ≤ 100 ∧
  (∀ (H' : Hp) (d : Addr) (i : Int), res ds = .tuple [.str "letters", .int i] → Same H H' → H' d = some (.xd (fsBad [.int i])) → E (.ref CB) (some d) H') ∧
  (∀ (H' : Hp) (d : Addr), 12 < ds.length → Same H H' → H' d = some (.xd (fsMany [.str "letters", .int (ds.length : Nat), .int 12])) → E (.ref CM) (some d) H') ∧
  (∀ (H' : Hp) (t : Addr) (o : Obj), res ds = .none → o.dict = none → H' p = some (.ins CL dx [("words", .ref t)]) → H' t = some (.frz o (.tup xs)) → (∀ b o, b ≠ p → H b = some o → H' b = some o) → Q .non H')
abbrev s_Letters_init : Stmt := inClass (top 18) 0
theorem sc_Letters_init : FnScope ["self", "words", "many", "kept", "index", "word"] ["self", "words"] (defScope s_Letters_init) := ⟨rfl, rfl, rfl, by decide +kernel, rfl, by decide +kernel, by decide +kernel⟩
theorem ok_letInit {f fI fB fM CL CB CM : Addr} {fd fdI fdB fdM : FuncData} (F : Fun K "__init__" "Letters.__init__" s_Letters_init f fd) (T : Blt mg) (C : Gv K mg) (hC : Cls K CL) (hA : NoAttr K CL "words")
    (GI : FnOk P w K mg base CX0 2 fI fdI ["value"] (spIsL K)) (I : At K mg "is_letter" fI fdI ["value"])
    (FB : FnOk P w K mg base CX0 2 fB fdB ["self", "index"] (spErr CB okBad fsBad)) (EB : ErrAt K mg "BadLetters" CB fB fdB ["self", "index"])
    (FM : FnOk P w K mg base CX0 2 fM fdM ["self", "what", "many", "most"] (spErr CM okMany fsMany)) (EM : ErrAt K mg "TooMany" CM fM fdM ["self", "what", "many", "most"]) :
    FnOk P w K mg base (L2.CX P w) 4 f fd ["self", "words"] (spLet K CL CB CM) := by
  refine F.okX sc_Letters_init (fun vs H Q E h => ?_) (fun cdv A outer s H vs Q E hr h => ?_)
  · obtain ⟨p, dx, a, xs, ds, N, rfl, _⟩ := h
    rfl
  · obtain ⟨p, dx, a, xs, ds, N, rfl, hp, hS, hI, hn, kB, kM, kQ⟩ := h
    have hu65 : A.units + 3 + 65 < cLine := by have := hr.un; have e : (A.deeper (PyProof.Rows.envOfC (Str.ofString "Letters.__init__") (defScope s_Letters_init) s.heap.objs.size f cdv)).units = A.units + 3 := rfl; omega
    have hr2 := hr.mono (j := 2) (by decide)
    refine ⟨_, (pss_cons (ps_set (i := 2) sc_Letters_init.nd rfl (Or.inl rfl) (pe_callB call_len_seq (by rfl) T.n_len (by decide +kernel) (pa_cons (pv 1) pa_nil)))
      (pss_cons (ps_if (pt_cmpR op_gt (pv 2) (pe_gv rfl C.mostL) (nomark _)) (pss_one (ps_raise rfl (takes_of rfl rfl rfl rfl) (pmk_oex EM.o EM.i EM.t FM hr EM.b .nil pass0 (by rfl) EM.m (pa_cons pe_str (pa_cons (pv 2) (pa_cons (pe_gv rfl C.mostL) pa_nil)))))) pss_nil)
      (pss_cons (ps_if (pt_cmpR op_eq (pv 2) pe_int (nomark _)) (pss_one (ps_raise rfl (takes_of rfl rfl rfl rfl) (pmk_oex EB.o EB.i EB.t FB hr EB.b .nil pass0 (by rfl) EB.m (pa_cons pe_int pa_nil)))) pss_nil)
      (pss_cons (ps_set (i := 3) sc_Letters_init.nd rfl (Or.inl rfl) (pe_lst pa_nil))
      (pss_cons (ps_for (passes_of rfl) rfl (pi_enumA (by rfl) T.n_enumerate (pa_cons (pv 1) pa_nil)) (pg_tup rfl (pgs_cons (pg_name (i := 4) sc_Letters_init.nd rfl (Or.inl rfl)) (pgs_cons (pg_name (i := 5) sc_Letters_init.nd rfl (Or.inl rfl)) pgs_nil))) (pss_cons (ps_if (PW.pt (pw_or (pt_not (pt_val (pe_call GI hr2 (by rfl) I.m I.k I.b .nil pass0 (pa_cons (pv 5) pa_nil)))) (pw_or1 (pt_cmpR (op_inD hu65) (pv 5) (pv 3) rfl)))) (pss_one (ps_raise rfl (takes_of rfl rfl rfl rfl) (pmk_oex EB.o EB.i EB.t FB hr EB.b .nil pass0 (by rfl) EB.m (pa_cons (pv 4) pa_nil)))) pss_nil)
      (pss_one (ps_expr (pe_bm PySem.F.plainAttrs_list PySem.F.slot_list_append PySem.F.type_list_append mt_append (pv 3) (pa_cons (pv 5) pa_nil))))))
      (pss_one (ps_fld (pv 0) (pe_callTy call_tuple_frz (by rfl) T.n_tuple (by decide +kernel) (pa_cons (pv 3) pa_nil)) rfl))))))), ?_⟩
    have hlen := hI.len
    have z1 : (1000 : Nat) ≤ sizeLine := by decide
    have fit := hI.fit
    refine ⟨_, rfl, a, xs, rfl, hS, _, rfl, _, _, rfl, rfl, _, rfl, ite2 (fun h1 => ?_) (fun h1 => ?_)⟩
    · have h1 : (12 : Int) < (xs.length : Nat) := of_decide_eq_true h1
      refine ⟨_, rfl, err_made (Same.refl H) ⟨_, rfl⟩ (by show 3 ≤ 1000; decide) (fun H' d s' e => kM H' d (by omega) s' ?_)⟩
      rw [← hlen]
      exact e
    have h1 : ¬ 12 < ds.length := fun q => h1 (decide_eq_true (by omega))
    refine ⟨_, rfl, rfl, _, rfl, ite2 (fun h2 => ?_) (fun h2 => ?_)⟩
    · have h2 : V.int ((xs.length : Nat) : Int) = V.int 0 := of_decide_eq_true h2
      injection h2 with h2
      exact err_made (Same.refl H) ⟨_, rfl⟩ (by show 1 ≤ 1000; decide) (fun H' d s' e => kB H' d 0 (res_none (by omega)) s' e)
    have h2 : 0 < ds.length := by
      have : ¬ ((xs.length : Nat) : Int) = 0 := fun q => h2 (decide_eq_true (congrArg V.int q))
      omega
    refine ⟨Nat.zero_le _, fun L hL => ?_⟩
    have s1 := Ask.Same.made1 (o := .lst []) (Same.refl H) hL
    have hL1 : upd H L (.lst []) L = some (.lst (xs.take 0)) := upd_same
    generalize upd H L (.lst []) = H1 at s1 hL1 ⊢
    obtain ⟨J, G, wk, hG, fits⟩ : ∃ (J : It) (G : Hp → Prop), Walk J xs.length G (YPair (fun i => some (.int (i : Nat))) (fun i => xs[i]?)) ∧ (∀ H', Same H H' → G H') ∧
        ∀ (R : It → Hp → Prop), R J H1 → iEnumA K (tCons (tVar 1) tNil) [some (.ref p), some (.ref a), some (.int (xs.length : Nat)), some (.ref L), none, none] H1 R := by
      rcases hS with hS | hS
      · exact ⟨Ite K a, _, walk_enum, fun H' s' => s'.seq hS, fun R r => ⟨_, rfl, a, xs, rfl, .inl ⟨s1.seq hS, r⟩⟩⟩
      · exact ⟨IteT K a, _, walk_enumT, fun H' s' => seqT_same s' hS, fun R r => ⟨_, rfl, a, xs, rfl, .inr ⟨seqT_same s1 hS, r⟩⟩⟩
    refine for_enum fits wk (fun i σ' H' => ∃ o4 o5 : Option V, σ' = [some (.ref p), some (.ref a), some (.int (xs.length : Nat)), some (.ref L), o4, o5] ∧ Same H H' ∧ H' L = some (.lst (xs.take i)) ∧ ∀ j < i, badAt ds j = false)
      ⟨none, none, rfl, s1, hL1, fun j hj => absurd hj (Nat.not_lt_zero _)⟩ (fun i σ' H' _ ⟨_, _, _, s', _⟩ => hG H' s') ?_ ?_
    · rintro i x σ' H2 H3 hi ⟨o4, o5, rfl, s2, hL2, hno⟩ ⟨t, x0, y0, rfl, ht, rfl, ex, ey⟩
      cases ex
      obtain ⟨v, d, hv, hd, hvd⟩ := hI.get i hi
      replace ey : xs[i]? = some y0 := ey
      obtain rfl : v = y0 := Option.some.inj (hv.symm.trans ey)
      clear ey
      have s3 := Ask.Same.made1 (o := .tup [.int (i : Nat), v]) s2 ht
      have hL3 : upd H2 t (.tup [.int (i : Nat), v]) L = some (.lst (xs.take i)) := by rw [upd_ne (ne_of_none hL2 ht)]; exact hL2
      have ht3 : upd H2 t (.tup [.int (i : Nat), v]) t = some (.tup [.int (i : Nat), v]) := upd_same
      generalize upd H2 t (.tup [.int (i : Nat), v]) = H4 at s3 hL3 ht3 ⊢
      have e0 : badAt ds i = (!isL d || (ds.take i).any fun z => PyData.eqv z d) := by
        unfold badAt
        rw [hd]
      have bad : ∀ H5, Same H H5 → badAt ds i = true → tMkO CB (spErr CB okBad fsBad) [] (tCons (tVar 4) tNil) [some (.ref p), some (.ref a), some (.int (xs.length : Nat)), some (.ref L), some (.int (i : Nat)), some v] H5 fun cls d H' => E cls d H' := fun H5 s5 q =>
        ⟨_, rfl, err_made s5 ⟨_, rfl⟩ (by show 1 ≤ 1000; decide) (fun H' d s' e => kB H' d i (res_at h1 (by omega) q hno) s' e)⟩
      refine ⟨t, _, rfl, SqT.of ht3, rfl, _, _, rfl, _, _, rfl, rfl, ?_⟩
      have hvd4 := hvd.same s3
      refine ⟨_, rfl, v, d, rfl, hvd4.dp, hvd4.itm, fun H5 s5 => ⟨_, rfl, ?_⟩⟩
      have s35 := s3.trans s5
      have hL5 := s5 _ _ hL3
      refine ite2 (fun q => ?_) (fun q => ?_)
      · exact iteT (bad H5 s35 (by rw [e0]; have q : (!isL d) = true := q; rw [q]; rfl))
      · have q : (!isL d) = false := (Bool.not_eq_true _).mp q
        have hT := (hI.mp fun v d h => h.same s35).take i
        refine ⟨_, rfl, _, rfl, d, ds.take i, (hvd.same s35).dp, .lst (SqL.of hL5) hT.dp, (itm_fit hvd.itm).shaped, hT.fit.shapedL, _, rfl, ?_⟩
        have e1 : badAt ds i = (ds.take i).any fun z => PyData.eqv z d := by rw [e0, q, Bool.false_or]
        refine ite2 (fun q => bad H5 s35 (by rw [e1]; exact q)) (fun q => ?_)
        have q : badAt ds i = false := by rw [e1]; exact (Bool.not_eq_true _).mp q
        refine ⟨_, rfl, .inl ⟨rfl, _, SqL.of hL5⟩, _, rfl, L, _, _, rfl, rfl, hL5, ?_, ?_⟩
        · rw [List.length_take]
          omega
        · refine ⟨_, _, rfl, Ask.Same.upd_new s35 hL, ?_, fun j hj => ?_⟩
          · rw [upd_same, List.take_add_one, hv]
            rfl
          · rcases Nat.lt_succ_iff_lt_or_eq.mp hj with hj | rfl
            · exact hno j hj
            · exact q
    · rintro σ' H2 ⟨o4, o5, rfl, s2, hL2, hno⟩
      rw [List.take_length] at hL2
      refine ⟨_, rfl, L, xs, rfl, SqL.of hL2, fun t ob ht hob => ?_⟩
      have npt : p ≠ t := ne_of_none (s2 _ _ hp) ht
      refine ⟨_, rfl, p, CL, dx, [], rfl, (by rw [upd_ne npt]; exact s2 _ _ hp), hC, hA, (by show 0 < 1000; decide), ?_⟩
      refine kQ _ t ob (res_good h1 h2 (by rw [← hlen]; exact hno)) hob upd_same (by rw [upd_ne npt.symm]; exact upd_same) fun b o hb e => ?_
      have e' := s2 _ _ e
      rw [upd_ne hb, upd_ne (ne_of_none e' ht)]
      exact e'
end
end Ask

/-! a loop over a list or a tuple, a pair that is a list or a tuple -/
namespace Ask
open PySem L2 PySem.Spec PyProof.Rows
theorem pg_or {X : Cx} {tg : Expr} {g1 g2 : TG} (h1 : PG X tg g1) (h2 : PG X tg g2) : PG X tg (fun v σ H Q => g1 v σ H Q ∨ g2 v σ H Q) :=
  ⟨fun pins s σ H v u Q I r h => h.elim (h1.run pins s σ H v u Q I r) (h2.run pins s σ H v u Q I r)⟩
theorem pi_or {X : Cx} {tg e : Expr} {w1 w2 : TI} (h1 : PI X tg e w1) (h2 : PI X tg e w2) : PI X tg e (fun σ H R => w1 σ H R ∨ w2 σ H R) :=
  ⟨fun pins s σ H R I h => h.elim (h1.run pins s σ H R I) (h2.run pins s σ H R I)⟩
end Ask

namespace Ask
open PySem L2
/-! ### runs, joined: the mirror -/
abbrev Run := Str × Int
def jstep (st : List Run × Option Run) (r : Run) : List Run × Option Run := match st.2 with
  | some l => if l.1 = r.1 then (st.1, some (l.1, l.2 + r.2)) else (st.1 ++ [l], some r)
  | none => (st.1, some r)
def jrun (rs : List Run) : List Run × Option Run := rs.foldl jstep ([], none)
def joinR (rs : List Run) : List Run := (jrun rs).1 ++ (jrun rs).2.toList
theorem jstep_eq {st1 : List Run} {l r : Run} (e : l.1 = r.1) : jstep (st1, some l) r = (st1, some (l.1, l.2 + r.2)) := if_pos e
theorem jstep_ne {st1 : List Run} {l r : Run} (e : ¬ l.1 = r.1) : jstep (st1, some l) r = (st1 ++ [l], some r) := if_neg e
theorem jrun_more {rs : List Run} {i : Nat} {r : Run} (h : rs[i]? = some r) : jrun (rs.take (i + 1)) = jstep (jrun (rs.take i)) r := by
  unfold jrun
  rw [List.take_add_one, h, List.foldl_append]
  rfl
theorem jrun_len (rs : List Run) : (jrun rs).1.length ≤ rs.length := by
  have : ∀ (rs : List Run) (st : List Run × Option Run), (rs.foldl jstep st).1.length ≤ st.1.length + rs.length := by
    intro rs
    induction rs with
    | nil => intro st; simp
    | cons r rs ih =>
      intro st
      rw [List.foldl_cons]
      refine Nat.le_trans (ih _) ?_
      have : (jstep st r).1.length ≤ st.1.length + 1 := by
        unfold jstep
        split
        · split
          · exact Nat.le_succ _
          · rw [List.length_append]; exact Nat.le_refl _
        · exact Nat.le_succ _
      rw [List.length_cons]
      omega
  have := this rs ([], none)
  simpa [jrun] using this
/-- a run as a value: a list or a tuple of a text and a number -/
def RunV (K : PySem.W.Frag) (H : Hp) (v : V) (r : Run) : Prop := ∃ b, v = .ref b ∧ (SqL K H b [.str r.1, .int r.2] ∨ SqT K H b [.str r.1, .int r.2])
def RunsV (K : PySem.W.Frag) (H : Hp) (xs : List V) (rs : List Run) : Prop := xs.length = rs.length ∧ ∀ (i : Nat) (v : V) (r : Run), xs[i]? = some v → rs[i]? = some r → RunV K H v r
/-- made pairs -/
def PairsV (H : Hp) (xs : List V) (rs : List Run) : Prop := xs.length = rs.length ∧ ∀ (i : Nat) (v : V) (r : Run), xs[i]? = some v → rs[i]? = some r → ∃ b, v = .ref b ∧ H b = some (.tup [.str r.1, .int r.2])
theorem RunV.same {K : PySem.W.Frag} {H H' : Hp} {v : V} {r : Run} (h : RunV K H v r) (s : Same H H') : RunV K H' v r := by
  obtain ⟨b, e, h | h⟩ := h
  · exact ⟨b, e, .inl (s.seq h)⟩
  · exact ⟨b, e, .inr (seqT_same s h)⟩
theorem PairsV.same {H H' : Hp} {xs : List V} {rs : List Run} (h : PairsV H xs rs) (s : Same H H') : PairsV H' xs rs :=
  ⟨h.1, fun i v r h1 h2 => let ⟨b, e, h3⟩ := h.2 i v r h1 h2; ⟨b, e, s _ _ h3⟩⟩
theorem PairsV.nil {H : Hp} : PairsV H [] [] := ⟨rfl, fun i v r h _ => by simp at h⟩
theorem PairsV.app {H : Hp} {xs : List V} {rs : List Run} {b : Addr} {r : Run} (h : PairsV H xs rs) (hb : H b = some (.tup [.str r.1, .int r.2])) : PairsV H (xs ++ [.ref b]) (rs ++ [r]) := by
  refine ⟨by rw [List.length_append, List.length_append, h.1]; rfl, fun i v r' h1 h2 => ?_⟩
  by_cases hi : i < xs.length
  · rw [List.getElem?_append_left hi] at h1
    rw [List.getElem?_append_left (by rw [← h.1]; exact hi)] at h2
    exact h.2 i v r' h1 h2
  · rw [List.getElem?_append_right (by omega)] at h1
    rw [List.getElem?_append_right (by rw [← h.1]; omega), ← h.1] at h2
    have e : i - xs.length = 0 := by
      have := (List.getElem?_eq_some_iff.mp h1).1
      have : i - xs.length < 1 := this
      omega
    rw [e] at h1 h2
    cases h1
    cases h2
    exact ⟨b, rfl, hb⟩
/-- PairsV stands where only what is no pair of it is written -/
theorem PairsV.mut {H : Hp} {xs ys : List V} {rs : List Run} {L : Addr} {o : HO} (h : PairsV H xs rs) (hL : H L = some (.lst ys)) : PairsV (upd H L o) xs rs :=
  ⟨h.1, fun i v r h1 h2 => let ⟨b, e, h3⟩ := h.2 i v r h1 h2; ⟨b, e, by rw [upd_ne (ne_of h3 hL (by intro z; cases z))]; exact h3⟩⟩
theorem for_any {wi : TI} {g : TG} {tb u : TS} {D : Ends} {σ : L2.St} {H : Hp} {J : It} {n : Nat} {G : Hp → Prop} {Y : Nat → Hp → V → Hp → Prop} (f : ∀ R : It → Hp → Prop, R J H → wi σ H R)
    (wk : Walk J n G Y) (Pv : Nat → L2.St → Hp → Prop) (h0 : Pv 0 σ H) (hG : ∀ i σ H, i ≤ n → Pv i σ H → G H)
    (hs : ∀ i x σ H H', i < n → Pv i σ H → Y i H x H' → g x σ H' fun σ2 H2 => tb { D with nx := Pv (i + 1), ct := Pv (i + 1), bk := u D } σ2 H2) (hd : ∀ σ H, Pv n σ H → u D σ H) :
    tSeq (tFor wi g tb) u D σ H := by
  delta tSeq tFor
  exact f _ (for_it (D := { D with nx := u D }) wk Pv h0 hG hs hd)
def lastV : Option Run → V
  | some r => .str r.1
  | none => .non
def totV : Option Run → V
  | some r => .int r.2
  | none => .int 0
section
variable {P : Program} {w : World} {K : PySem.W.Frag} {mg : Str → Option Value} {base : Heap}
def spJoined (K : PySem.W.Frag) : Sp := fun vs H Q _ => ∃ (a : Addr) (xs : List V) (rs : List Run), vs = [.ref a] ∧ (SqL K H a xs ∨ SqT K H a xs) ∧ RunsV K H xs rs ∧ rs.length ≤ 10000 ∧
  ∀ (H' : Hp) (t : Addr) (ks : List V), Same H H' → H' t = some (.tup ks) → PairsV H' ks (joinR rs) → Q (.ref t) H'
end
end Ask

namespace Ask
open PySem L2
theorem RunsV.same {K : PySem.W.Frag} {H H' : Hp} {xs : List V} {rs : List Run} (h : RunsV K H xs rs) (s : Same H H') : RunsV K H' xs rs := ⟨h.1, fun i v r h1 h2 => (h.2 i v r h1 h2).same s⟩
theorem PairsV.runs {K : PySem.W.Frag} {H : Hp} {xs : List V} {rs : List Run} (h : PairsV H xs rs) : RunsV K H xs rs := ⟨h.1, fun i v r h1 h2 => let ⟨b, e, h3⟩ := h.2 i v r h1 h2; ⟨b, e, .inr (SqT.of h3)⟩⟩
/-- how many letters runs tell -/
def sizeR (rs : List Run) : Int := (rs.map (·.2)).sum
theorem ret_cb {r : List V → Hp → VK → Prop} {t : TE} {D : Ends} {σ : L2.St} {H : Hp} (h : t σ H fun x H1 => r [x] H1 D.rt) : tRet (tCB r (tCons t tNil)) D σ H := h
theorem lc_any {wi : TI} {g : TG} {tt : TT} {te : TE} {vs : List Nat} {σ : L2.St} {H : Hp} {Q : VK} {J : It} {n : Nat} {G : Hp → Prop} {Y : Nat → Hp → V → Hp → Prop} (f : ∀ R : It → Hp → Prop, R J H → wi σ H R) (wk : Walk J n G Y)
    (h : ∀ D, H D = none → ∃ Pv : Nat → Hp → Prop, Pv 0 (upd H D (.lst [])) ∧ (∀ i H, i ≤ n → Pv i H → G H) ∧
      (∀ i x H H', i < n → Pv i H → Y i H x H' → g x (wipe σ vs) H' fun σ2 H2 => wipe σ2 vs = wipe σ vs ∧ tt σ2 H2 fun b H3 =>
        if b = true then te σ2 H3 fun y H4 => ∃ acc, H4 D = some (.lst acc) ∧ acc.length < sizeLine ∧ Pv (i + 1) (upd H4 D (.lst (acc ++ [y]))) else Pv (i + 1) H3) ∧ (∀ H, Pv n H → Q (.ref D) H)) :
    tLc wi g tt te vs σ H Q := by
  delta tLc
  exact f _ fun D hD => let ⟨Pv, h0, hG, hs, hd⟩ := h D hD; lc_it wk Pv h0 hG hs hd
section
variable {P : Program} {w : World} {K : PySem.W.Frag} {mg : Str → Option Value} {base : Heap}
def spSize (K : PySem.W.Frag) : Sp := fun vs H Q _ => ∃ (a : Addr) (xs : List V) (rs : List Run), vs = [.ref a] ∧ (SqL K H a xs ∨ SqT K H a xs) ∧ RunsV K H xs rs ∧ rs.length ≤ 10000 ∧ ∀ H', Same H H' → Q (.int (sizeR rs)) H'
end
end Ask

namespace Ask
open PySem L2
section
variable {P : Program} {w : World} {K : PySem.W.Frag} {mg : Str → Option Value} {base : Heap}
/-! ### is_whole, of any value whose kind is known -/
def spWhole (K : PySem.W.Frag) : Sp := fun vs H Q _ => ∃ (v : V) (t : Value) (b c : Bool), vs = [v] ∧ TyX K H v t ∧ PySem.W.kitOne K t (.type "int") = some b ∧ PySem.W.kitOne K t (.type "bool") = some c ∧ Q (.bl (b && !c)) H
/-! ### is_list_of -/
def spListOf (K : PySem.W.Frag) : Sp := fun vs H Q _ => ∃ (v : V) (t : Value) (m : Int), vs = [v, .int m] ∧ TyX K H v t ∧
  ((PySem.W.kitAny K t [.type "list", .type "tuple"] = some false ∧ ∀ H', Same H H' → Q (.bl false) H') ∨
    (PySem.W.kitAny K t [.type "list", .type "tuple"] = some true ∧ ∃ (a : Addr) (xs : List V), v = .ref a ∧ (SqL K H a xs ∨ SqT K H a xs) ∧ ∀ H', Same H H' → Q (.bl (decide ((xs.length : Int) = m))) H'))
theorem tyx_same {H H' : Hp} {v : V} {t : Value} (h : TyX K H v t) (s : Same H H') : TyX K H' v t := by
  cases h with
  | base b =>
    cases b with
    | non => exact .base .non
    | bl y => exact .base (.bl y)
    | int i => exact .base (.int i)
    | str y => exact .base (.str y)
    | flt y => exact .base (.flt y)
    | lst e => exact .base (.lst (s _ _ e))
    | frz e => exact .base (.frz (s _ _ e))
    | tup e => exact .base (.tup (s _ _ e))
    | dK e => exact .base (.dK (s _ _ e))
    | dT e => exact .base (.dT (s _ _ e))
    | ins e cl ha hn ht hm => exact .base (.ins (s _ _ e) cl ha hn ht hm)
  | byt b => exact .byt b
  | set e => exact .set (s _ _ e)
  | kList e c => exact .kList e c
  | kTuple e c => exact .kTuple e c
  | kDict e c => exact .kDict e c
  | fTuple e => exact .fTuple (s _ _ e)
  | fDict e => exact .fDict (s _ _ e)
end
end Ask

/-! an instance's own __contains__, __len__, __eq__, each by what its def promises -/
namespace Ask
open PySem L2 PySem.Spec PyProof.Rows
section
variable {X : Cx} {CX : CXT} {k : Nat} {C f : Addr} {fd : FuncData} {ps : List Str} {sp : Sp} {E : XK}
theorem run_at {A : Around} {pins : List (Addr × Obj)} {σ : L2.St} {H : Hp} {s : Shared} {Q : VK} {us : List Value} {vs : List V} (F : FnOk X.prog X.w X.K X.mg X.base CX k f fd ps sp) (hr : Room k A) (hfr : A.frames = X.A.frames) (hb : Binds X.K fd ps []) (hx : Passes CX X E)
    (I : Inv X pins σ H s) (r : Vals vs us) (h : sp vs H Q E) : wpAny (model X.prog X.w) A (call (.ref f) us) (EP X pins σ Q) X.xe s := by
  have hl : us.length = ps.length := by rw [← r.length]; exact F.len _ _ _ _ h
  have b := hb s us I.kIn (by rw [List.append_nil]; exact hl)
  rw [List.append_nil] at b
  have e0 : Env0 X.prog X.w X.K X.mg X.base A X.stack s H := by
    have e := I.env0
    exact ⟨by rw [hfr]; exact e.frames, e.mod, e.bs, e.bsz, e.funs, e.frf, e.hok, e.bare⟩
  refine wpAny_call (codeAny_mono (F.run A X.stack s H ⟨us, []⟩ us vs Q E hr e0 b r h) fun r s' hq => ?_)
  cases r with
  | error e => exact hx pins σ H s e s' I hq
  | ok fl =>
    cases fl with
    | ret u => exact I.after hq
    | next => exact False.elim hq
    | brk => exact False.elim hq
    | cont => exact False.elim hq
/-- x in y, y an instance of C -/
def rInI (C : Addr) (sp : Sp) (E : XK) (neg : Bool) : R2 := fun x y H Q => ∃ (a dx : Addr) (fs : List (Str × V)), y = .ref a ∧ H a = some (.ins C dx fs) ∧ sp [.ref a, x] H (fun v H' => ∃ b : Bool, v = .bl b ∧ Q (.bl (if neg then !b else b)) H') E
theorem op_inI (F : FnOk X.prog X.w X.K X.mg X.base CX k f fd ps sp) (hr : Room k X.A) (hb : Binds X.K fd ps []) (hx : Passes CX X E) (hs : PySem.W.findIn X.K (.ref C) "__contains__" = some (some (.ref f))) (hf : PySem.W.isFn X.K (.ref f) = true) :
    OpR X (compareOp .In) (rInI C sp E false) := by
  intro pins s σ H x y v u Q I rx ry h
  obtain ⟨a, dx, fs, rfl, ha, q⟩ := h
  cases ry
  obtain ⟨mA, J, _⟩ := ins_get I.hok ha
  obtain ⟨od, J, _⟩ := J.look
  obtain ⟨m, hF⟩ := I.fr
  refine PySem.W.in_K hF I.ok.mod.kin J hs hf (thn (run_at (vs := [.ref a, x]) F hr rfl hb hx I (.cons rfl (.cons rx .nil)) q) fun r s' ⟨z, H', I', rz, b, ez, q'⟩ => ?_)
  subst ez
  cases rz
  exact wpAny_truthy_bool ⟨.bl b, H', I', rfl, q'⟩
theorem op_notInI (F : FnOk X.prog X.w X.K X.mg X.base CX k f fd ps sp) (hr : Room k X.A) (hb : Binds X.K fd ps []) (hx : Passes CX X E) (hs : PySem.W.findIn X.K (.ref C) "__contains__" = some (some (.ref f))) (hf : PySem.W.isFn X.K (.ref f) = true) :
    OpR X (compareOp .NotIn) (rInI C sp E true) := by
  intro pins s σ H x y v u Q I rx ry h
  obtain ⟨a, dx, fs, rfl, ha, q⟩ := h
  cases ry
  obtain ⟨mA, J, _⟩ := ins_get I.hok ha
  obtain ⟨od, J, _⟩ := J.look
  obtain ⟨m, hF⟩ := I.fr
  refine PySem.W.notIn_K hF I.ok.mod.kin J hs hf (thn (run_at (vs := [.ref a, x]) F hr rfl hb hx I (.cons rfl (.cons rx .nil)) q) fun r s' ⟨z, H', I', rz, b, ez, q'⟩ => ?_)
  subst ez
  cases rz
  exact wpAny_truthy_bool ⟨.bl (!b), H', I', rfl, q'⟩
/-- len(x), x an instance of C -/
theorem call_lenI (F : FnOk X.prog X.w X.K X.mg X.base CX k f fd ps sp) (hr : Room (k + 1) X.A) (hb : Binds X.K fd ps []) (hx : Passes CX X E) (hs : PySem.W.findIn X.K (.ref C) "__len__" = some (some (.ref f))) (hf : PySem.W.isFn X.K (.ref f) = true) :
    CallR X (.builtin "len") (fun xs H Q => ∃ (a dx : Addr) (fs : List (Str × V)), xs = [.ref a] ∧ H a = some (.ins C dx fs) ∧ sp [.ref a] H (fun v H' => ∃ n : Nat, v = .int n ∧ n ≤ 16777216 ∧ Q (.int n) H') E) := by
  intro pins s σ H xs us Q I r h
  obtain ⟨a, dx, fs, rfl, ha, q⟩ := h
  obtain ⟨u, rfl, ra⟩ := vals1 r
  obtain rfl : u = Value.ref a := ra
  obtain ⟨mA, J, _⟩ := ins_get I.hok ha
  obtain ⟨od, J, _⟩ := J.look
  obtain ⟨m, hF⟩ := I.fr
  refine PySem.W.len_K hF I.ok.mod.kin J hs hf (thn (run_at (vs := [.ref a]) F hr.in1 rfl hb hx I (.cons rfl .nil) q) fun r s' ⟨z, H', I', rz, n, ez, hn, q'⟩ => ?_)
  subst ez
  obtain ⟨t, rfl⟩ := rz
  exact ⟨⟨by omega, by omega⟩, ⟨.int n, H', I'.tok _, ⟨_, rfl⟩, q'⟩⟩
/-- x == y, both instances of C -/
theorem op_eqI (F : FnOk X.prog X.w X.K X.mg X.base CX k f fd ps sp) (hr : Room k X.A) (hb : Binds X.K fd ps []) (hx : Passes CX X E) (hs : PySem.W.findIn X.K (.ref C) "__eq__" = some (some (.ref f))) (hf : PySem.W.isFn X.K (.ref f) = true) :
    OpR X (compareOp .Eq) (fun x y H Q => ∃ (a b dx dy : Addr) (fs gs : List (Str × V)), x = .ref a ∧ y = .ref b ∧ H a = some (.ins C dx fs) ∧ H b = some (.ins C dy gs) ∧ sp [.ref a, .ref b] H (fun v H' => ∃ c : Bool, v = .bl c ∧ Q (.bl c) H') E) := by
  intro pins s σ H x y v u Q I rx ry h
  obtain ⟨a, b, dx, dy, fs, gs, rfl, rfl, ha, hb', q⟩ := h
  cases rx
  cases ry
  obtain ⟨mA, J, _⟩ := ins_get I.hok ha
  obtain ⟨mB, J', _⟩ := ins_get I.hok hb'
  obtain ⟨od, J, _⟩ := J.look
  obtain ⟨od', J', _⟩ := J'.look
  obtain ⟨m, hF⟩ := I.fr
  show wpAny (model X.prog X.w) X.A (richCompare .Eq (.ref a) (.ref b)) (EP X pins σ Q) X.xe s
  refine PySem.W.cmp_K (op := .Eq) (tb := .ref C) hr.units0 hF I.ok.mod.kin J J'.type (by simp [PySem.W.notFirst]) hs hf (thn (run_at (vs := [.ref a, .ref b]) F hr rfl hb hx I (.cons rfl (.cons rfl .nil)) q) fun r s' ⟨z, H', I', rz, c, ez, q'⟩ => ?_)
  subst ez
  cases rz
  exact ⟨.bl c, H', I', rfl, q'⟩
/-- a class over object with its own __eq__ at f and no __ne__ -/
def OwnNe (K : PySem.W.Frag) (C f : Addr) : Prop :=
  ∃ (nm q : Str) (N : Addr) (bs : List Value) (hdct : Bool) (sn : List Str) (sub : List Value) (ab : Bool) (col : Option Bool) (dd : Option Addr) (k0 k1 k2 k3 k5 : Option Value) (newId : String) (oN : Obj) (es : Array DictEntry) (ep : Nat) (of : Obj),
    K.lookup C = some (excClassObj nm q C N bs [.type "object"] hdct sn sub ab col dd k0 k1 k2 k3 k5 newId) ∧ K.lookup N = some oN ∧ oN.data = .dict es ep ∧ StrKeys es ∧ nsFind es "__eq__" = some (.ref f) ∧ nsFind es "__ne__" = none ∧
    K.lookup f = some of ∧ of.cls = .type "function"
/-- x != y, both instances of C -/
theorem op_neI (F : FnOk X.prog X.w X.K X.mg X.base CX k f fd ps sp) (hr : Room (k + 1) X.A) (hb : Binds X.K fd ps []) (hx : Passes CX X E) (cl : OwnNe X.K C f) :
    OpR X (compareOp .NotEq) (fun x y H Q => ∃ (a b dx dy : Addr) (fs gs : List (Str × V)), x = .ref a ∧ y = .ref b ∧ H a = some (.ins C dx fs) ∧ H b = some (.ins C dy gs) ∧ sp [.ref a, .ref b] H (fun v H' => ∃ c : Bool, v = .bl c ∧ Q (.bl (!c)) H') E) := by
  intro pins s σ H x y v u Q I rx ry h
  obtain ⟨a, b, dx, dy, fs, gs, rfl, rfl, ha, hb', q⟩ := h
  cases rx
  cases ry
  obtain ⟨mA, J, _⟩ := ins_get I.hok ha
  obtain ⟨mB, J', _⟩ := ins_get I.hok hb'
  obtain ⟨od, J, _⟩ := J.look
  obtain ⟨od', J', _⟩ := J'.look
  obtain ⟨nm, qn, N, bs, hdct, sn, sub, ab, col, dd, k0, k1, k2, k3, k5, newId, oN, es, ep, of, lC, lN, dN, sk, fe, fn, lf, cf⟩ := cl
  have kin := I.kIn
  obtain ⟨hp, g, d, t, os⟩ := s
  have own : hp.OwnEqNoNe a C f "object" [.type "object"] :=
    ⟨_, of, nm, qn, N, bs, hdct, sn, sub, ab, col, dd, k0, k1, k2, k3, k5, newId, nsFind es, _, J.1, J.cls, kin _ _ lC, ⟨oN, es, ep, kin _ _ lN, dN, sk, fun _ => rfl⟩, fe, kin _ _ lf, cf, PySem.F.cmp_object.mro, PySem.F.cmp_object.eq.lookup, fn⟩
  refine compareOp_ne_ownEq PySem.F.cmp_object own J'.1 J'.cls (by have := hr.un; omega) (thn (run_at (vs := [.ref a, .ref b]) F hr.in1 rfl hb hx I (.cons rfl (.cons rfl .nil)) q) fun r s' ⟨z, H', I', rz, c, ez, q'⟩ => ?_)
  subst ez
  cases rz
  exact ⟨c, rfl, ⟨.bl (!c), H', I', rfl, q'⟩⟩
end
end Ask

/-! a text against a dict; a dict in a tuple or list of texts -/
namespace Ask
open PySem L2 PySem.Spec PyProof.Rows PySem.SeqAt
theorem sub_sd : isSubtype (.type "str") (.type "dict") = pure false := by rw [isSubtype_type]; kernel_rfl
theorem sub_ds : isSubtype (.type "dict") (.type "str") = pure false := by rw [isSubtype_type]; kernel_rfl
theorem dict_declines (l : Addr) (o : Obj) (b : Str) (u : Tok) (hc : o.cls = .type "dict") :
    Meets (Builtin.«dict.__eq__» ⟨[.ref l, .str b u], []⟩) (fun _ R s => s.heap.get? l = some o ∧ R (.ok (.ret .notImplemented)) s) :=
  .of_wp fun prog w A R s h => by
    obtain ⟨hp, g, d, tk, os⟩ := s
    obtain ⟨cls, dd, data, sl⟩ := o
    obtain rfl : cls = .type "dict" := hc
    obtain ⟨hl, h⟩ := h
    have f1 := sub_sd
    wp_walk using wpAny_loadPart' hl
    exact ⟨_, rfl, h⟩
theorem str_declines (l : Addr) (o : Obj) (b : Str) (u : Tok) (hc : o.cls = .type "dict") {es : Array DictEntry} {ep : Nat} (hd : o.data = .dict es ep) :
    Meets (Builtin.«str.__eq__» ⟨[.str b u, .ref l], []⟩) (fun _ R s => s.heap.get? l = some o ∧ R (.ok (.ret .notImplemented)) s) :=
  .of_wp fun prog w A R s h => by
    obtain ⟨hp, g, d, tk, os⟩ := s
    obtain ⟨cls, dd, data, sl⟩ := o
    obtain rfl : cls = .type "dict" := hc
    obtain rfl : data = .dict es ep := hd
    obtain ⟨hl, h⟩ := h
    wp_walk using wpAny_loadPart' hl, wpAny_load hl
    exact ⟨_, rfl, h⟩
section
variable {A : Around} {s : Shared}
theorem rcAt_sd {l : Addr} {o : Obj} (b : Str) (u : Tok) (ho : s.heap.get? l = some o) (hc : o.cls = .type "dict") {es : Array DictEntry} {ep : Nat} (hd : o.data = .dict es ep) (hu : A.units < cLine) : RcAt A s (.str b u) (.ref l) false := fun prog w E Q h =>
  rc_eq_decline_or (k := false) (typeIs_str s b u) ⟨o, ho, hc⟩ (by decide) sub_ds PySem.F.slot_str_eq PySem.F.slot_dict_eq_refl
    (fun _ hq => call_meets PySem.F.slot_str_eq (typeIs_str s b u) PySem.F.entry_str_eq (PySem.F.args_str_eq_2 _ _) (str_declines l o b u hc hd) ⟨ho, hq⟩)
    (fun _ hq => call_meets PySem.F.slot_dict_eq_refl ⟨o, ho, hc⟩ PySem.F.entry_dict_eq (PySem.F.args_dict_eq_2 _ _) (dict_declines l o b u hc) ⟨ho, hq⟩)
    (fun _ hq => wpAny_of_eq (rfl : isSame (.str b u) (.ref l) = pure false) hq) (.inr hu) h
theorem eqAt_sd {l : Addr} {o : Obj} (b : Str) (u : Tok) (ho : s.heap.get? l = some o) (hc : o.cls = .type "dict") {es : Array DictEntry} {ep : Nat} (hd : o.data = .dict es ep) (hu : A.units < cLine) : EqAt A s (.str b u) (.ref l) false := fun prog w E Q h => by
  unfold eqBool
  refine wpAny_holding ?_
  refine wpAny_ite_split (fun hab => absurd (eq_of_beq hab) nofun) (fun _ => ?_)
  exact wpAny_bind (rcAt_sd b u ho hc hd hu prog w E _ (wpAny_truthy_bool h))
end
section
variable {X : Cx}
/-- a dict in a tuple of texts -/
def rInSD (K : PySem.W.Frag) (neg : Bool) : R2 := fun x y H Q => ∃ (d p : Addr) (kvs : List (Key × V)) (ys : List Str), x = .ref d ∧ y = .ref p ∧ H d = some (.dK kvs) ∧ SqT K H p (ys.map V.str) ∧ Q (.bl neg) H
theorem strs_eqAt {A : Around} {s : Shared} {l : Addr} {o : Obj} (ho : s.heap.get? l = some o) (hc : o.cls = .type "dict") {es : Array DictEntry} {ep : Nat} (hd : o.data = .dict es ep) (hu : A.units < cLine) : ∀ (ys : List Str) (us : List Value), Vals (ys.map V.str) us → ∀ w ∈ us, EqAt A s w (.ref l) false
  | [], us, r => by
    cases r
    exact fun w hw => by cases hw
  | y :: ys, us, r => by
    cases r with
    | cons r t =>
      intro w hw
      rcases List.mem_cons.mp hw with rfl | hw
      · obtain ⟨tk, rfl⟩ := r
        exact eqAt_sd y tk ho hc hd hu
      · exact strs_eqAt ho hc hd hu ys _ t w hw
theorem op_inSD (hu : X.A.units + 1 < cLine) : OpR X (compareOp .In) (rInSD X.K false) := by
  intro pins s σ H x y v u Q I rx ry h
  obtain ⟨d, p, kvs, ys, rfl, rfl, hd, hq, q⟩ := h
  cases rx
  cases ry
  obtain ⟨_, _, vs, _, o, es, ep, ho, hx, hdd, _⟩ := I.hok d _ hd
  obtain ⟨its, r, pl, hz⟩ := I.tuple hq
  refine in_tupleAt (fun _ => false) pl (fun w hw => strs_eqAt (A := X.A.in1) ho hx.1 hdd hu ys _ r w (by simpa using hw)) ⟨.bl false, H, I, ?_, q⟩
  show Value.bool _ = Value.bool false
  simp
theorem op_notInSD (hu : X.A.units + 1 < cLine) : OpR X (compareOp .NotIn) (rInSD X.K true) := by
  intro pins s σ H x y v u Q I rx ry h
  obtain ⟨d, p, kvs, ys, rfl, rfl, hd, hq, q⟩ := h
  cases rx
  cases ry
  obtain ⟨_, _, vs, _, o, es, ep, ho, hx, hdd, _⟩ := I.hok d _ hd
  obtain ⟨its, r, pl, hz⟩ := I.tuple hq
  refine notIn_tupleAt (fun _ => false) pl (fun w hw => strs_eqAt (A := X.A.in1) ho hx.1 hdd hu ys _ r w (by simpa using hw)) ⟨.bl true, H, I, ?_, q⟩
  show Value.bool _ = Value.bool true
  simp
end
end Ask

/-! isinstance(e, c) in a suite, e an own error with fields -/
namespace Ask
open PySem L2 PySem.Spec PyProof.Rows
/-- what the class says of __class__ -/
structure XkC (K : PySem.W.Frag) (C : Addr) : Prop where
  ic : PySem.W.isClsIn K C = true
  ha : PySem.W.findIn K (.ref C) "__class__" = some (some (.builtin "object.__class__"))
  hn : PySem.W.specialIn K (.builtin "object.__class__") "__get__" = some (some (.builtin "getset_descriptor.__get__"))
  ht : PySem.W.takesIn K (.builtin "object.__class__") = some true
  hm : PySem.W.mroIn K C (.type "object") = some true
def rIsX (K : PySem.W.Frag) (C a : Addr) (cls : Value) (d : Option Addr) : List V → Hp → VK → Prop := fun xs H Q => ∃ (c : V) (cv : Value) (b : Bool) (dd : Addr) (fs : List (Str × V)), xs = [.ref a, c] ∧ cls = .ref C ∧ d = some dd ∧ H dd = some (.xd fs) ∧ ClsV c cv ∧ PySem.W.kitOne K (.ref C) cv = some b ∧ Q (.bl b) H
theorem call_isX {X : Cx} {a C : Addr} {oe : Obj} {cls : Value} {d : Option Addr} {pn : List (Addr × Obj)} (T : XfC X.K C) (Y : XkC X.K C) (hz : Zc cls d oe) (hf : ∃ vs, oe.data = .fields vs) :
    CallR (X.suite a ((a, oe) :: pn)) (.builtin "isinstance") (rIsX X.K C a cls d) := by
  intro pins s σ H xs us Q I r h
  obtain ⟨c, cv, b, dd, fs, rfl, rfl, rfl, ed, hcv, e, q⟩ := h
  obtain ⟨u1, u2, rfl, r1, r2⟩ := vals2 r
  obtain rfl : u1 = Value.ref a := r1
  have ec := hcv.eq r2
  subst ec
  obtain ⟨ha, _⟩ := I.pin (a, oe) (List.mem_append_left _ List.mem_cons_self)
  obtain ⟨vs, hd⟩ := hf
  obtain ⟨mA, hns, hr⟩ := (show ObjOk X.prog X.w H s.heap dd (.xd fs) from I.hok dd _ ed)
  obtain ⟨od, ho, hl⟩ := lookIn_ns hns
  have J : PySem.W.InstAt s.heap a oe C (some od) := ⟨ha, hz.1, by unfold PySem.W.notCls; rw [hd] <;> rfl, by rw [hz.2]; exact ho⟩
  exact PySem.W.kia_one (PySem.W.kitx_exc Y.ic T.ga T.gg T.exC Y.ha Y.hn Y.ht Y.hm) I.kIn J e (fun z => nomatch z) fun tk => ⟨.bl b, H, I.kept (t' := tk) fun _ _ z => z, rfl, q⟩
end Ask

namespace Ask
open PySem L2
open PySem.SeqAt (in_tupleAt EqAt)
/-- whether x is in the texts: by value, or a list, tuple or dict that is none -/
def InW (H : Hp) (x : V) (ys : List Str) (b : Bool) : Prop := (flatV x = true ∧ b = inV x (ys.map V.str)) ∨
  (b = false ∧ ∃ d, x = .ref d ∧ ((∃ kvs, H d = some (.dK kvs)) ∨ (∃ xs, H d = some (.lst xs)) ∨ (∃ xs, H d = some (.tup xs))))
theorem strs_eqAtR {A : Around} {s : Shared} {l : Addr} (h : ∀ (y : Str) (t : Tok), EqAt A s (.str y t) (.ref l) false) : ∀ (ys : List Str) (us : List Value), Vals (ys.map V.str) us → ∀ w ∈ us, EqAt A s w (.ref l) false
  | [], us, r => by
    cases r
    exact fun w hw => by cases hw
  | y :: ys, us, r => by
    cases r with
    | cons r t =>
      intro w hw
      rcases List.mem_cons.mp hw with rfl | hw
      · obtain ⟨tk, rfl⟩ := r
        exact h y tk
      · exact strs_eqAtR h ys _ t w hw
section
variable {X : Cx}
theorem op_inW (hu : X.A.units + 1 < cLine) : OpR X (compareOp .In) (fun x y H Q => ∃ (p : Addr) (ys : List Str) (b : Bool), y = .ref p ∧ SqT X.K H p (ys.map V.str) ∧ InW H x ys b ∧ Q (.bl b) H) := by
  intro pins s σ H x y v u Q I rx ry h
  obtain ⟨p, ys, b, rfl, hq, hw, q⟩ := h
  rcases hw with ⟨fx, rfl⟩ | ⟨rfl, d, rfl, hd⟩
  · refine op_in_seq pins s σ H x (.ref p) v u Q I rx ry ⟨p, _, rfl, .inr hq, fx, ?_, q⟩
    rw [List.all_eq_true]
    intro y hy
    obtain ⟨z, _, rfl⟩ := List.mem_map.mp hy
    rfl
  · cases rx
    cases ry
    obtain ⟨its, r, pl, hz⟩ := I.tuple hq
    have at_ : ∀ (y : Str) (t : Tok), EqAt X.A.in1 s (.str y t) (.ref d) false := fun y t => by
      rcases hd with ⟨kvs, hd⟩ | ⟨xs, hd⟩ | ⟨xs, hd⟩
      · obtain ⟨_, _, vs, _, o, es, ep, ho, hx, hdd, _⟩ := I.hok d _ hd
        exact eqAt_sd y t ho hx.1 hdd hu
      · obtain ⟨its2, r2, pl2, _⟩ := I.list (.inl (.inl hd))
        exact PySem.SeqAt.EqAt.str_list y t pl2.isList hu
      · obtain ⟨its2, r2, pl2, _⟩ := I.tuple (.inl (.inl hd))
        exact PySem.SeqAt.EqAt.str_tuple y t pl2 hu
    refine in_tupleAt (fun _ => false) pl (fun w hw => strs_eqAtR at_ ys _ r w (by simpa using hw)) ⟨.bl false, H, I, ?_, q⟩
    show Value.bool _ = Value.bool false
    simp
end
/-- letters ys at p, their tuple at t -/
def Mde (CL : Addr) (H : Hp) (p t : Addr) (ys : List Str) : Prop := ∃ (dx : Addr) (o : Obj), H p = some (.ins CL dx [("words", .ref t)]) ∧ H t = some (.frz o (.tup (ys.map V.str))) ∧ o.dict = none
def spHas (CL : Addr) : Sp := fun vs H Q _ => ∃ (p t : Addr) (ys : List Str) (x : V) (b : Bool), vs = [.ref p, x] ∧ Mde CL H p t ys ∧ InW H x ys b ∧ Q (.bl b) H
def spLen (CL : Addr) : Sp := fun vs H Q _ => ∃ (p t : Addr) (ys : List Str), vs = [.ref p] ∧ Mde CL H p t ys ∧ ys.length ≤ 1000 ∧ Q (.int (ys.length : Nat)) H
def spEq2 (CL : Addr) : Sp := fun vs H Q _ => ∃ (p t p' t' : Addr) (ys zs : List Str), vs = [.ref p, .ref p'] ∧ Mde CL H p t ys ∧ Mde CL H p' t' zs ∧ (∀ y ∈ ys, y.length ≤ 500 ∧ Asc y) ∧ (∀ y ∈ zs, y.length ≤ 500 ∧ Asc y) ∧
  Q (.bl (PyData.eqv (.tuple (ys.map PyData.str)) (.tuple (zs.map PyData.str)))) H
def spRank (CL CE : Addr) : Sp := fun vs H Q E => ∃ (p t : Addr) (ys : List Str) (x : V), vs = [.ref p, x] ∧ Mde CL H p t ys ∧ ys.Nodup ∧
  ((∃ (i : Nat) (z : Str), x = .str z ∧ ys[i]? = some z ∧ ∀ H', Same H H' → Q (.int (i : Nat)) H') ∨ (InW H x ys false ∧ ∀ (H' : Hp) (d : Addr), Same H H' → H' d = some (.xd (fsBad [.int 0])) → E (.ref CE) (some d) H'))
abbrev s_Has : Stmt := inClass (top 18) 2
theorem sc_Has : FnScope ["self", "x"] ["self", "x"] (defScope s_Has) := ⟨rfl, rfl, rfl, by decide +kernel, rfl, by decide +kernel, by decide +kernel⟩
abbrev s_Len : Stmt := inClass (top 18) 3
theorem sc_Len : FnScope ["self"] ["self"] (defScope s_Len) := ⟨rfl, rfl, rfl, by decide +kernel, rfl, by decide +kernel, by decide +kernel⟩
abbrev s_Eq : Stmt := inClass (top 18) 4
theorem sc_Eq : FnScope ["self", "other"] ["self", "other"] (defScope s_Eq) := ⟨rfl, rfl, rfl, by decide +kernel, rfl, by decide +kernel, by decide +kernel⟩
abbrev s_Rank : Stmt := inClass (top 18) 1
theorem sc_Rank : FnScope ["self", "x", "place", "word"] ["self", "x"] (defScope s_Rank) := ⟨rfl, rfl, rfl, by decide +kernel, rfl, by decide +kernel, by decide +kernel⟩
theorem passE {X : Cx} : Passes (L2.CX X.prog X.w) X E0 := fun _ _ _ _ _ _ _ h => by
  obtain ⟨_, _, _, _, _, _, _, _, _, _, _, _, e⟩ := h
  exact e.elim
section
variable {P : Program} {w : World} {K : PySem.W.Frag} {mg : Str → Option Value} {base : Heap}
theorem ok_has {f CL : Addr} {fd : FuncData} (F : Fun K "__contains__" "Letters.__contains__" s_Has f fd) (hC : Cls K CL) (hA : NoAttr K CL "words") : FnOk P w K mg base CX0 1 f fd ["self", "x"] (spHas CL) := by
  refine F.ok sc_Has (fun vs H Q E h => ?_) (fun cdv A outer s H vs Q E hr h => ?_)
  · obtain ⟨p, t, ys, x, b, rfl, _⟩ := h
    rfl
  · obtain ⟨p, t, ys, x, b, rfl, ⟨dx, ob, hp, ht, hob⟩, hw, k⟩ := h
    exact ⟨_, pss_one (ps_ret (pe_cmpR (op_inW (hu_of hr)) (pv 1) (pe_fld (pv 0) rfl) rfl)), _, rfl, _, rfl, p, CL, dx, _, _, rfl, hp, hC, hA, rfl, t, ys, b, rfl, (.inl (.inr ⟨ob, ht⟩)), hw, k⟩
theorem ok_len {f CL : Addr} {fd : FuncData} (F : Fun K "__len__" "Letters.__len__" s_Len f fd) (T : Blt mg) (hC : Cls K CL) (hA : NoAttr K CL "words") : FnOk P w K mg base CX0 1 f fd ["self"] (spLen CL) := by
  refine F.ok sc_Len (fun vs H Q E h => ?_) (fun cdv A outer s H vs Q E hr h => ?_)
  · obtain ⟨p, t, ys, rfl, _⟩ := h
    rfl
  · obtain ⟨p, t, ys, rfl, ⟨dx, ob, hp, ht, hob⟩, hl, k⟩ := h
    refine ⟨_, pss_one (ps_ret (pe_callB call_len_seq (by rfl) T.n_len (by decide +kernel) (pa_cons (pe_fld (pv 0) rfl) pa_nil))), _, rfl, p, CL, dx, _, _, rfl, hp, hC, hA, rfl, t, _, rfl, .inr ((.inl (.inr ⟨ob, ht⟩))), ?_⟩
    rw [List.length_map]
    exact k
theorem ok_eq {f CL : Addr} {fd : FuncData} (F : Fun K "__eq__" "Letters.__eq__" s_Eq f fd) (T : Blt mg) (hC : Cls K CL) (hA : NoAttr K CL "words") (Y : XkC K CL) (mL : mg "Letters" = some (.ref CL)) : FnOk P w K mg base CX0 1 f fd ["self", "other"] (spEq2 CL) := by
  refine F.ok sc_Eq (fun vs H Q E h => ?_) (fun cdv A outer s H vs Q E hr h => ?_)
  · obtain ⟨p, t, p', t', ys, zs, rfl, _⟩ := h
    rfl
  · obtain ⟨p, t, p', t', ys, zs, rfl, ⟨dx, ob, hp, ht, hob⟩, ⟨dx', ob', hp', ht', hob'⟩, hy, hz, k⟩ := h
    refine ⟨_, (pss_one (ps_ret (pe_and (pe_callB call_isi (by rfl) T.n_isinstance (by decide +kernel) (pa_cons (pv 1) (pa_cons (pe_gv (v := .ref CL) rfl ⟨_, mL, rfl⟩) pa_nil))) (pe_one (pe_cmpR (op_eqD hr.units) (pe_fld (pv 0) rfl) (pe_fld (pv 1) rfl) (nomark _)))))), ?_⟩
    have kk : PySem.W.kitOne K (.ref CL) (.ref CL) = some true := by
      unfold PySem.W.kitOne
      rw [if_pos (by simp)]
    refine ⟨_, rfl, _, _, _, _, true, rfl, .own CL, .base (.ins hp' hC Y.ha Y.hn Y.ht Y.hm), kk, _, rfl, ite2 (fun _ => ?_) (fun q => absurd rfl q)⟩
    exact ⟨_, rfl, p, CL, dx, _, _, rfl, hp, hC, hA, rfl, _, rfl, p', CL, dx', _, _, rfl, hp', hC, hA, rfl, _, _, .tup ((.inl (.inr ⟨ob, ht⟩))) (dp_strs _), .tup ((.inl (.inr ⟨ob', ht'⟩))) (dp_strs _), (fit_strs hy).shapedT, (fit_strs hz).shapedT, k⟩
end
end Ask

namespace Ask
open PySem L2
theorem kitAny_l {K : PySem.W.Frag} : PySem.W.kitAny K (.type "list") [.type "list", .type "tuple"] = some true := kitAny_cons (b := true) (kit_ty (by show kitB "list" "list" = some true; decide +kernel)) (fun z => by cases z) (fun _ => rfl)
theorem kitAny_t {K : PySem.W.Frag} : PySem.W.kitAny K (.type "tuple") [.type "list", .type "tuple"] = some true := kitAny_cons (kit_ty (by show kitB "tuple" "list" = some false; decide +kernel)) (fun _ => kitAny_cons (kit_ty (by show kitB "tuple" "tuple" = some true; decide +kernel)) (fun z => by cases z) (fun _ => rfl)) (fun z => by cases z)
theorem Mde.same {CL m t : Addr} {H H' : Hp} {ys : List Str} (h : Mde CL H m t ys) (s : Same H H') : Mde CL H' m t ys := by
  obtain ⟨dx, ob, h1, h2, h3⟩ := h
  exact ⟨dx, ob, s _ _ h1, s _ _ h2, h3⟩
theorem for_any1 {wi : TI} {g : TG} {tb : TS} {D : Ends} {σ : L2.St} {H : Hp} {J : It} {n : Nat} {G : Hp → Prop} {Y : Nat → Hp → V → Hp → Prop} (f : ∀ R : It → Hp → Prop, R J H → wi σ H R)
    (wk : Walk J n G Y) (Pv : Nat → L2.St → Hp → Prop) (h0 : Pv 0 σ H) (hG : ∀ i σ H, i ≤ n → Pv i σ H → G H)
    (hs : ∀ i x σ H H', i < n → Pv i σ H → Y i H x H' → g x σ H' fun σ2 H2 => tb { D with nx := Pv (i + 1), ct := Pv (i + 1), bk := D.nx } σ2 H2) (hd : ∀ σ H, Pv n σ H → D.nx σ H) :
    tFor wi g tb D σ H := by
  delta tFor
  exact f _ (for_it (D := D) wk Pv h0 hG hs hd)
section
variable {P : Program} {w : World} {K : PySem.W.Frag} {mg : Str → Option Value} {base : Heap}
/-! ### require_runs, where nothing is wrong -/
def spReqOk (K : PySem.W.Frag) (CL : Addr) : Sp := fun vs H Q _ => ∃ (m t : Addr) (ys : List Str) (a : Addr) (xs : List V) (rs : List Run), vs = [.ref m, .ref a] ∧ Mde CL H m t ys ∧ (SqL K H a xs ∨ SqT K H a xs) ∧ RunsV K H xs rs ∧ rs.length ≤ 10000 ∧
  (∀ r ∈ rs, r.1 ∈ ys ∧ 1 ≤ r.2 ∧ r.2 ≤ 1000000000000000000000000000000) ∧ ∀ H', Same H H' → Q .non H'
/-! ### require_count, where nothing is wrong -/
def spReqCnt : Sp := fun vs H Q _ => ∃ (x : V) (n : Int), vs = [x, .int n] ∧ 1 ≤ n ∧ n ≤ 1000000000000000000000000000000 ∧ Q .non H
end
end Ask

namespace Ask
open PySem L2
theorem eqv_str1 (a b : Str) : PyData.eqv (.str a) (.str b) = decide (a = b) := by
  simp only [PyData.eqv]
  by_cases h : a = b
  · subst h; simp
  · rw [decide_eq_false h]; simpa using h
theorem eqvAll_strs : ∀ ys zs : List Str, PyData.eqvAll (ys.map PyData.str) (zs.map PyData.str) = decide (ys = zs)
  | [], [] => by simp [PyData.eqvAll]
  | [], _ :: _ => by simp [PyData.eqvAll]
  | _ :: _, [] => by simp [PyData.eqvAll]
  | y :: ys, z :: zs => by
    rw [List.map_cons, List.map_cons, PyData.eqvAll, eqv_str1, eqvAll_strs ys zs]
    by_cases h : y = z
    · subst h
      by_cases h2 : ys = zs
      · subst h2; simp
      · simp [h2]
    · simp [h]
theorem eqv_strs (ys zs : List Str) : PyData.eqv (.tuple (ys.map PyData.str)) (.tuple (zs.map PyData.str)) = decide (ys = zs) := by
  rw [PyData.eqv]
  exact eqvAll_strs ys zs
/-- letters that Letters takes -/
structure Lts (ys : List Str) : Prop where
  nd : ys.Nodup
  ok : ∀ y ∈ ys, isLs y = true ∧ y.length ≤ 13 ∧ Asc y
  l0 : 1 ≤ ys.length
  l1 : ys.length ≤ 12
theorem Lts.fit {ys : List Str} (h : Lts ys) : ∀ y ∈ ys, y.length ≤ 500 ∧ Asc y := fun y hy => ⟨by have := (h.ok y hy).2.1; omega, (h.ok y hy).2.2⟩
theorem Lts.res {ys : List Str} (h : Lts ys) : res (ys.map PyData.str) = .none := by
  have l0 := h.l0
  have l1 := h.l1
  refine res_good (by rw [List.length_map]; omega) (by rw [List.length_map]; omega) fun j hj => ?_
  rw [List.length_map] at hj
  unfold badAt
  rw [List.getElem?_map, List.getElem?_eq_getElem hj]
  show (!isLs ys[j] || ((ys.map PyData.str).take j).any fun z => PyData.eqv z (.str ys[j])) = false
  rw [(h.ok _ (List.getElem_mem hj)).1, Bool.not_true, Bool.false_or, List.any_eq_false]
  intro x hx
  rw [← List.map_take] at hx
  obtain ⟨y, hy, rfl⟩ := List.mem_map.mp hx
  rw [eqv_str1]
  intro e
  have e : y = ys[j] := of_decide_eq_true e
  obtain ⟨i, hi⟩ := List.mem_iff_getElem?.mp hy
  have hij : i < j := by
    have := (List.getElem?_eq_some_iff.mp hi).1
    rw [List.length_take] at this
    omega
  rw [List.getElem?_take_of_lt hij] at hi
  have : i = j := (List.getElem?_inj (List.getElem?_eq_some_iff.mp hi).1 h.nd).mp (hi.trans (by rw [e, List.getElem?_eq_getElem hj]))
  omega
theorem cutV_init (xs : List V) : cutV xs none (some (-1)) = xs.take (xs.length - 1) := by
  have e : HT.sIx xs.length xs.length (some (-1)) = xs.length - 1 := by
    show (if (-1 : Int) < 0 then ((-1 : Int) + (xs.length : Int)).toNat else min (-1 : Int).toNat xs.length) = _
    rw [if_pos (by decide)]
    omega
  unfold cutV
  rw [HT.sIx_none, List.drop_zero, Nat.sub_zero, e]
/-- a text none or one time -/
theorem op_mul_str01 {X : Cx} : OpR X (binaryOp .Mult) (fun x y H Q => ∃ (z : Str) (n : Int), x = .str z ∧ y = .int n ∧ (n = 0 ∨ n = 1) ∧ z.length ≤ 1000 ∧ ∀ z' : Str, z'.length ≤ z.length → Q (.str z') H) := by
  intro pins s σ H x y v u Q I rx ry h
  obtain ⟨z, n, rfl, rfl, hn, z1, q⟩ := h
  obtain ⟨t, rfl⟩ := rx
  obtain ⟨t2, rfl⟩ := ry
  rcases hn with rfl | rfl
  · exact P.mul_str_none (by decide) (by decide) ⟨.str Str.empty, H, I.tok _, ⟨_, rfl⟩, q _ (Nat.zero_le _)⟩
  · refine P.mul_str (by decide) (fun _ e => by simp at e) (fun _ e => by simp at e) ?_
    rw [if_neg (by decide), if_pos (by simp)]
    exact ⟨.str z, H, I, ⟨_, rfl⟩, q _ (Nat.le_refl _)⟩
theorem cutV_tail (xs : List V) : cutV xs (some 1) none = xs.drop 1 := by
  unfold cutV
  rw [HT.sIx_none, show (some (1 : Int)) = some ((1 : Nat) : Int) from rfl, HT.sIx_nat]
  by_cases h : 1 ≤ xs.length
  · rw [Nat.min_eq_left h, List.take_of_length_le (by rw [List.length_drop]; omega)]
  · have : xs = [] := List.eq_nil_of_length_eq_zero (by omega)
    subst this
    rfl
section
variable {p c CL q m t m' t' l : Addr} {ns : List Int} {H0 H H' : Hp} {ys zs : List Str} {B B' : Nat} {o : HO} {xs : List V}
theorem Mde.go (h : Mde CL H m t ys) (g : Go p c ns H H' B) : Mde CL H' m t ys := by
  obtain ⟨dx, ob, h1, h2, h3⟩ := h
  exact ⟨dx, ob, g.at h1 (by intro _ z; cases z), g.at h2 (by intro _ z; cases z), h3⟩
theorem Mde.mut (h : Mde CL H m t ys) (hl : H l = some (.lst xs)) : Mde CL (upd H l o) m t ys := by
  obtain ⟨dx, ob, h1, h2, h3⟩ := h
  exact ⟨dx, ob, by rw [upd_ne (ne_of h1 hl (by intro z; cases z))]; exact h1, by rw [upd_ne (ne_of h2 hl (by intro z; cases z))]; exact h2, h3⟩
theorem Mde.seq {K : PySem.W.Frag} (h : Mde CL H m t ys) : SqT K H t (ys.map V.str) := by
  obtain ⟨dx, ob, h1, h2, h3⟩ := h
  exact .inl (.inr ⟨ob, h2⟩)
end
end Ask

namespace Ask
open PySem L2
/-! ### spliced: the mirror -/
def spliceR (h t : List Run) : List Run := match h.getLast?, t with
  | some l, r :: t' => if l.1 = r.1 then h.dropLast ++ [(l.1, l.2 + r.2)] ++ t' else h ++ t
  | _, _ => h ++ t
theorem splice_nil (t : List Run) : spliceR [] t = t := rfl
theorem PairsV.get {H : Hp} {xs : List V} {rs : List Run} (h : PairsV H xs rs) {i : Nat} {r : Run} (e : rs[i]? = some r) : ∃ b, xs[i]? = some (.ref b) ∧ H b = some (.tup [.str r.1, .int r.2]) := by
  have hi : i < xs.length := by rw [h.1]; exact (List.getElem?_eq_some_iff.mp e).1
  obtain ⟨b, e2, e3⟩ := h.2 i _ r (List.getElem?_eq_getElem hi) e
  exact ⟨b, by rw [List.getElem?_eq_getElem hi, e2], e3⟩
theorem PairsV.cat {H : Hp} {xs ys : List V} {rs ss : List Run} (h : PairsV H xs rs) (k : PairsV H ys ss) : PairsV H (xs ++ ys) (rs ++ ss) := by
  refine ⟨by rw [List.length_append, List.length_append, h.1, k.1], fun i v r h1 h2 => ?_⟩
  by_cases hi : i < xs.length
  · rw [List.getElem?_append_left hi] at h1
    rw [List.getElem?_append_left (by rw [← h.1]; exact hi)] at h2
    exact h.2 i v r h1 h2
  · rw [List.getElem?_append_right (by omega)] at h1
    rw [List.getElem?_append_right (by rw [← h.1]; omega), ← h.1] at h2
    exact k.2 _ v r h1 h2
theorem PairsV.take {H : Hp} {xs : List V} {rs : List Run} (h : PairsV H xs rs) (n : Nat) : PairsV H (xs.take n) (rs.take n) := by
  refine ⟨by rw [List.length_take, List.length_take, h.1], fun i v r h1 h2 => ?_⟩
  have hi : i < n := by
    have := (List.getElem?_eq_some_iff.mp h1).1
    rw [List.length_take] at this
    omega
  rw [List.getElem?_take_of_lt hi] at h1 h2
  exact h.2 i v r h1 h2
theorem PairsV.drop {H : Hp} {xs : List V} {rs : List Run} (h : PairsV H xs rs) (n : Nat) : PairsV H (xs.drop n) (rs.drop n) := by
  refine ⟨by rw [List.length_drop, List.length_drop, h.1], fun i v r h1 h2 => ?_⟩
  rw [List.getElem?_drop] at h1 h2
  exact h.2 _ v r h1 h2
theorem PairsV.one {H : Hp} {b : Addr} {r : Run} (h : H b = some (.tup [.str r.1, .int r.2])) : PairsV H [.ref b] [r] := by
  refine ⟨rfl, fun i v r' h1 h2 => ?_⟩
  cases i with
  | zero =>
    cases h1
    cases h2
    exact ⟨b, rfl, h⟩
  | succ i => simp at h1
theorem sIx_init {n : Nat} : HT.sIx n n (some (-1)) = n - 1 := by
  show (if (-1 : Int) < 0 then ((-1 : Int) + (n : Int)).toNat else min (-1 : Int).toNat n) = _
  rw [if_pos (by decide)]
  omega
theorem sIx_one {n : Nat} (h : 1 ≤ n) : HT.sIx n 0 (some 1) = 1 := by
  show (if (1 : Int) < 0 then ((1 : Int) + (n : Int)).toNat else min (1 : Int).toNat n) = _
  rw [if_neg (by decide)]
  show min 1 n = 1
  omega
theorem atI_back {α : Type} {xs : List α} {v : α} (h : xs[xs.length - 1]? = some v) : atI xs (-1) = some v := by
  have ln := (List.getElem?_eq_some_iff.mp h).1
  have e : xs = xs.take (xs.length - 1) ++ [v] := by
    have h2 := List.take_append_getElem (l := xs) (i := xs.length - 1) ln
    rw [(List.getElem?_eq_some_iff.mp h).2] at h2
    rw [h2, List.take_of_length_le (by omega)]
  have k := atI_last (xs.take (xs.length - 1)) v
  rw [← e] at k
  exact k
section
variable {P : Program} {w : World} {K : PySem.W.Frag} {mg : Str → Option Value} {base : Heap}
def spSpliced (K : PySem.W.Frag) : Sp := fun vs H Q _ => ∃ (a b : Addr) (hs ts : List V) (h t : List Run), vs = [.ref a, .ref b] ∧ SqT K H a hs ∧ SqT K H b ts ∧ PairsV H hs h ∧ PairsV H ts t ∧ h.length ≤ 10000 ∧ t.length ≤ 10000 ∧
  ∀ (H' : Hp) (c : Addr) (ks : List V), Same H H' → SqT K H' c ks → PairsV H' ks (spliceR h t) → Q (.ref c) H'
end
end Ask

namespace Ask
open PySem L2
theorem seqA_same {K : PySem.W.Frag} {H H' : Hp} {a : Addr} {xs : List V} (h : SqL K H a xs ∨ SqT K H a xs) (s : Same H H') : SqL K H' a xs ∨ SqT K H' a xs := by
  rcases h with h | h
  · exact .inl (s.seq h)
  · exact .inr (seqT_same s h)
theorem joinR_len (rs : List Run) : (joinR rs).length ≤ rs.length + 1 := by
  unfold joinR
  rw [List.length_append]
  have := jrun_len rs
  have : (jrun rs).2.toList.length ≤ 1 := by cases (jrun rs).2 <;> simp
  omega
/-- what comes last: a letter or the beginning -/
def lastR (b : Str) (rs : List Run) : Str := ((rs.getLast?.map (·.1)).getD b)
/-- the attributes of a history -/
def hf (m c : Addr) (b : Str) (rs : List Run) : List (Str × V) := [("letters", .ref m), ("beginning", .str b), ("runs", .ref c), ("size", .int (sizeR rs)), ("last", .str (lastR b rs))]
/-- a history of the runs rs at p -/
def HistAt (K : PySem.W.Frag) (CL CH : Addr) (H : Hp) (p : Addr) (ys : List Str) (b : Str) (rs : List Run) : Prop := ∃ (dx m t c : Addr) (ks : List V), H p = some (.ins CH dx (hf m c b rs)) ∧ Mde CL H m t ys ∧ SqT K H c ks ∧ PairsV H ks rs
theorem HistAt.same {K : PySem.W.Frag} {CL CH p : Addr} {H H' : Hp} {ys : List Str} {b : Str} {rs : List Run} (h : HistAt K CL CH H p ys b rs) (s : Same H H') : HistAt K CL CH H' p ys b rs := by
  obtain ⟨dx, m, t, c, ks, h1, h2, h3, h4⟩ := h
  exact ⟨dx, m, t, c, ks, s _ _ h1, h2.same s, seqT_same s h3, h4.same s⟩
section
variable {P : Program} {w : World} {K : PySem.W.Frag} {mg : Str → Option Value} {base : Heap}
/-! ### is_beginning, of a text -/
def spIsBeg (K : PySem.W.Frag) : Sp := fun vs H Q _ => ∃ b : Str, vs = [.str b] ∧ (b = "new" ∨ b = "found") ∧ Q (.bl true) H
/-! ### extended, where nothing is wrong -/
def spExtOk (K : PySem.W.Frag) (CL : Addr) : Sp := fun vs H Q _ => ∃ (m t e : Addr) (ys : List Str) (a : Addr) (hs xs : List V) (h rs : List Run), vs = [.ref m, .ref e, .ref a] ∧ Mde CL H m t ys ∧ SqT K H e hs ∧ PairsV H hs h ∧ h.length ≤ 1000 ∧ (SqL K H a xs ∨ SqT K H a xs) ∧ RunsV K H xs rs ∧ rs.length ≤ 1000 ∧
  (∀ r ∈ rs, r.1 ∈ ys ∧ 1 ≤ r.2 ∧ r.2 ≤ 1000000000000000000000000000000) ∧ (spliceR h (joinR rs)).length ≤ 400 ∧ ∀ (H' : Hp) (c : Addr) (ks : List V), Same H H' → SqT K H' c ks → PairsV H' ks (spliceR h (joinR rs)) → Q (.ref c) H'
end
end Ask

namespace Ask
open PySem L2
theorem kit_other {K : PySem.W.Frag} {T : String} {C : Addr} (h1 : PySem.W.isClsIn K C = true) (h2 : PySem.W.typeIn K (.ref C) = some (.type "type")) (h3 : PySem.W.subIn K (.type T) (.ref C) = some false) : PySem.W.kitOne K (.type T) (.ref C) = some false := by
  unfold PySem.W.kitOne
  rw [if_neg (by simp)]
  have e2 : ((PySem.W.clsIn K C).isSome && PySem.W.typeIn K (.ref C) == some (.type "type")) = true := by
    have h2' : (PySem.W.clsIn K C).isSome = true := h1
    rw [h2', h2] <;> rfl
  show (if ((PySem.W.clsIn K C).isSome && PySem.W.typeIn K (.ref C) == some (.type "type")) = true then PySem.W.subIn K (.type T) (.ref C) else none) = some false
  rw [if_pos e2]
  exact h3
theorem sub_list {K : PySem.W.Frag} {C : Addr} : PySem.W.subIn K (.type "list") (.ref C) = some false := by
  show (fastBuiltinMro "list").map (·.contains (.ref C)) = some false
  have e : fastBuiltinMro "list" = some [.type "list", .type "object"] := by decide +kernel
  rw [e]
  rfl
theorem sub_tuple {K : PySem.W.Frag} {C : Addr} : PySem.W.subIn K (.type "tuple") (.ref C) = some false := by
  show (fastBuiltinMro "tuple").map (·.contains (.ref C)) = some false
  have e : fastBuiltinMro "tuple" = some [.type "tuple", .type "object"] := by decide +kernel
  rw [e]
  rfl
/-- a class that is another one than list and tuple -/
structure OnC (K : PySem.W.Frag) (mg : Str → Option Value) (x : Str) (C : Addr) : Prop where
  m : mg x = some (.ref C)
  i : PySem.W.isClsIn K C = true
  t : PySem.W.typeIn K (.ref C) = some (.type "type")
theorem ty_seqA {K : PySem.W.Frag} {mg : Str → Option Value} {x : Str} {C a : Addr} {H : Hp} {xs : List V} (h : SqL K H a xs ∨ SqT K H a xs) (o : OnC K mg x C) : ∃ ty, TyX K H (.ref a) ty ∧ PySem.W.kitOne K ty (.ref C) = some false := by
  rcases h with h | h
  · exact ⟨_, ty_list h, kit_other o.i o.t sub_list⟩
  · exact ⟨_, ty_tup h, kit_other o.i o.t sub_tuple⟩
/-- the attributes that a history is given -/
structure HsC (K : PySem.W.Frag) (C : Addr) : Prop where
  c : Cls K C
  a1 : NoAttr K C "letters"
  a2 : NoAttr K C "beginning"
  a3 : NoAttr K C "runs"
  a4 : NoAttr K C "size"
  a5 : NoAttr K C "last"
section
variable {K : PySem.W.Frag} {H H' : Hp} {p a m t CL C dx : Addr} {ys : List Str} {fs : List (Str × V)} {xs : List V} {rs : List Run}
theorem Mde.but (h : Mde CL H m t ys) (k : ∀ b o, b ≠ p → H b = some o → H' b = some o) (hp : H p = some (.ins C dx fs)) (n : fs ≠ ([("words", V.ref t)] : List (Str × V)) := by intro z; cases z) : Mde CL H' m t ys := by
  obtain ⟨dx', ob, h1, h2, h3⟩ := h
  refine ⟨dx', ob, k _ _ ?_ h1, k _ _ ?_ h2, h3⟩
  · refine ne_of h1 hp ?_
    intro z
    injection z with z1 z2 z3
    exact n z3.symm
  · exact ne_of h2 hp (by intro z; cases z)
theorem seqL_but (h : SqL K H a xs) (k : ∀ b o, b ≠ p → H b = some o → H' b = some o) (hp : H p = some (.ins C dx fs)) : SqL K H' a xs := by
  rcases h with (h | ⟨o, h⟩) | h
  · exact .inl (.inl (k _ _ (ne_of h hp (by intro z; cases z)) h))
  · exact .inl (.inr ⟨o, k _ _ (ne_of h hp (by intro z; cases z)) h⟩)
  · exact .inr h
theorem seqT_but (h : SqT K H a xs) (k : ∀ b o, b ≠ p → H b = some o → H' b = some o) (hp : H p = some (.ins C dx fs)) : SqT K H' a xs := by
  rcases h with (h | ⟨o, h⟩) | h
  · exact .inl (.inl (k _ _ (ne_of h hp (by intro z; cases z)) h))
  · exact .inl (.inr ⟨o, k _ _ (ne_of h hp (by intro z; cases z)) h⟩)
  · exact .inr h
theorem seqA_but (h : SqL K H a xs ∨ SqT K H a xs) (k : ∀ b o, b ≠ p → H b = some o → H' b = some o) (hp : H p = some (.ins C dx fs)) : SqL K H' a xs ∨ SqT K H' a xs := by
  rcases h with h | h
  · exact .inl (seqL_but h k hp)
  · exact .inr (seqT_but h k hp)
theorem RunsV.but (h : RunsV K H xs rs) (k : ∀ b o, b ≠ p → H b = some o → H' b = some o) (hp : H p = some (.ins C dx fs)) : RunsV K H' xs rs := by
  refine ⟨h.1, fun i v r h1 h2 => ?_⟩
  obtain ⟨b, e, h3⟩ := h.2 i v r h1 h2
  exact ⟨b, e, seqA_but h3 k hp⟩
theorem PairsV.but (h : PairsV H xs rs) (k : ∀ b o, b ≠ p → H b = some o → H' b = some o) (hp : H p = some (.ins C dx fs)) : PairsV H' xs rs :=
  ⟨h.1, fun i v r h1 h2 => let ⟨b, e, h3⟩ := h.2 i v r h1 h2; ⟨b, e, k _ _ (ne_of h3 hp (by intro z; cases z)) h3⟩⟩
end
section
variable {P : Program} {w : World} {K : PySem.W.Frag} {mg : Str → Option Value} {base : Heap}
/-! ### require_beginning, where nothing is wrong -/
def spReqBeg : Sp := fun vs H Q _ => ∃ (b : Str), vs = [.str b] ∧ (b = "new" ∨ b = "found") ∧ Q .non H
def spHist (K : PySem.W.Frag) (CL CH : Addr) : Sp := fun vs H Q _ => ∃ (p dx m t a : Addr) (b : Str) (ys : List Str) (xs : List V) (rs : List Run), vs = [.ref p, .ref m, .str b, .ref a] ∧ H p = some (.ins CH dx []) ∧ Mde CL H m t ys ∧ (b = "new" ∨ b = "found") ∧
  (SqL K H a xs ∨ SqT K H a xs) ∧ RunsV K H xs rs ∧ rs.length ≤ 1000 ∧ (∀ r ∈ rs, r.1 ∈ ys ∧ 1 ≤ r.2 ∧ r.2 ≤ 1000000000000000000000000000000) ∧ (joinR rs).length ≤ 400 ∧
  ∀ (H' : Hp) (c : Addr) (ks : List V), H' p = some (.ins CH dx (hf m c b (joinR rs))) → Mde CL H' m t ys → SqT K H' c ks → PairsV H' ks (joinR rs) → (∀ b o, b ≠ p → H b = some o → H' b = some o) → Q .non H'
end
end Ask

/-! a text == a flat value, a list, a tuple or a dict -/
namespace Ask
open PySem L2 PySem.Spec PyProof.Rows PySem.SeqAt
def Any1 (H : Hp) (x : V) : Prop := flatV x = true ∨ ∃ d, x = .ref d ∧ ((∃ kvs, H d = some (.dK kvs)) ∨ (∃ xs, H d = some (.lst xs)) ∨ (∃ xs, H d = some (.tup xs)))
theorem Any1.same {H H' : Hp} {x : V} (h : Any1 H x) (s : Same H H') : Any1 H' x := by
  rcases h with h | ⟨d, e, h⟩
  · exact .inl h
  · refine .inr ⟨d, e, ?_⟩
    rcases h with ⟨k, h⟩ | ⟨k, h⟩ | ⟨k, h⟩
    · exact .inl ⟨k, s _ _ h⟩
    · exact .inr (.inl ⟨k, s _ _ h⟩)
    · exact .inr (.inr ⟨k, s _ _ h⟩)
section
variable {X : Cx}
theorem op_eqW (hu : X.A.units < cLine) : OpR X (compareOp .Eq) (fun x y H Q => ∃ z : Str, x = .str z ∧ Any1 H y ∧ Q (.bl (decide (V.str z = y))) H) := by
  intro pins s σ H x y v u Q I rx ry h
  obtain ⟨z, rfl, hy, q⟩ := h
  rcases hy with fy | ⟨d, rfl, hd⟩
  · cases y with
    | non => exact op_eq pins s σ H _ _ v u Q I rx ry ⟨rfl, q⟩
    | bl j => exact op_eq pins s σ H _ _ v u Q I rx ry ⟨rfl, q⟩
    | int j => exact op_eq pins s σ H _ _ v u Q I rx ry ⟨rfl, q⟩
    | str j => exact op_eq pins s σ H _ _ v u Q I rx ry ⟨rfl, q⟩
    | _ => cases fy
  · obtain ⟨t, rfl⟩ := id rx
    cases ry
    have fin : EP X pins σ Q (.bool false) s := fin_bl I q (decide_eq_false (fun z => by cases z))
    show wpAny (model X.prog X.w) X.A (richCompare .Eq (.str z t) (.ref d)) (EP X pins σ Q) X.xe s
    rcases hd with ⟨kvs, hd⟩ | ⟨xs, hd⟩ | ⟨xs, hd⟩
    · obtain ⟨_, _, vs, _, o, es, ep, ho, hx, hdd, _⟩ := I.hok d _ hd
      exact rcAt_sd z t ho hx.1 hdd hu _ _ _ _ fin
    · obtain ⟨its2, r2, pl2, _⟩ := I.list (.inl (.inl hd))
      exact RcAt.str_list z t pl2.isList hu _ _ _ _ fin
    · obtain ⟨its2, r2, pl2, _⟩ := I.tuple (.inl (.inl hd))
      exact RcAt.str_tuple z t pl2 hu _ _ _ _ fin
end
end Ask

/-! C(), C an own error without __init__ -/
namespace Ask
open PySem PySem.Spec PyProof.Rows L2
theorem pmk_own0 {X : Cx} {C : Addr} {bmB : List Value} {B newId initId : String} {x : Str} {p pos : Pos} (F : ExcBaseFacts B newId initId bmB) (q : PySem.W.excIn X.K C bmB newId = true) (gC : X.mg x = some (.ref C)) (kC : PySem.W.keepIn X.K (.ref C) = true) (r : Raises X (.ref C)) (hg : Gl X x)
    (hdb : (x == ("__debug__" : Str)) = false := by decide) : PMk X (.Call (.Name x p) [] [] pos) (fun _ H Q => Q (.ref C) none H) := by
  intro pins s σ H Q I h
  refine wpAny_Call_Name_kw (ld_glob I hg gC ?_ hdb)
  refine PySem.W.callWith_K0 (first := []) I.kIn kC ?_
  show wpAny _ _ (call (.ref C) []) _ _ _
  obtain ⟨bm, N, nm, qn, bs, hdct, sn, sub, ab, col, dd, k0, k1, k2, k3, k5, mN, hC, hN, hni, T⟩ := exc_obj I.kIn q
  refine wpAny_call_exc_subT F T hC hN hni (fun h' e hm => ?_) (Nat.zero_le _)
  exact mk_of I hm r h (I.hok.gone hm.new)
/-- an own error class without __init__ -/
structure Err0 (K : PySem.W.Frag) (mg : Str → Option Value) (x : Str) (C : Addr) : Prop where
  m : mg x = some (.ref C)
  e : PySem.W.excIn K C [Value.type "ValueError", Value.type "Exception", Value.type "BaseException", Value.type "object"] "ValueError.__new__" = true
  k : PySem.W.keepIn K (.ref C) = true
  b : PySem.W.subIn K (.ref C) (.type "BaseException") = some true
  t : PySem.W.typeIn K (.ref C) = some (.type "type")
end Ask

/-! a clause «except X» without a name, among several -/
namespace Ask
open PySem L2 PySem.Spec PyProof.Rows
def wNo (K : PySem.W.Frag) (c : Value) (ts : TS) (W : WX) (D : Ends) : WX := fun cls d σ H =>
  ∃ b, PySem.W.exmOne K cls c = some b ∧ (b = true → ts D σ H) ∧ (b = false → W cls d σ H)
theorem hands_no {X : Cx} {D : Ends} {hds : List ExceptHandler} {W : WX} {x : Str} {c : Value} {suite : List Stmt} {b₀ : Stmt} {np pos' : Pos} {ts : TS}
    (hf : X.env.frame = some X.env.locals) (hc : Names X x c)
    (su : ∀ (a : Addr) (oe : Obj) (pn : List (Addr × Obj)), PSs (X.suite a ((a, oe) :: pn)) (b₀ :: suite) ts)
    (rest : Hands X D hds W) : Hands X D (.ExceptHandler (some (.Name x np)) none (b₀ :: suite) pos' :: hds) (wNo X.K c ts W D) := by
  intro pins σ H sI s B a cls d w q
  obtain ⟨b, hb, yes, no⟩ := q
  have J := w.now
  have ok := J.ok
  obtain ⟨oe, vs, he, hz, hd, nL, nF⟩ := w.apart hf
  have S := J.suite he hd w.na nL nF
  refine wpAny_handleBy_cons (codeAny_handlers_test ?_) (by intro z; cases z)
  have ty : PySem.W.Looks (model X.prog X.w) s.heap (typeOf (.ref a)) cls := fun A Q E s' k z => wpAny_typeOf_ref (k _ _ he) (by rw [hz.1]; exact z)
  have isIt := PySem.W.exm_one (M := model X.prog X.w) J.kIn ty hb
  have named : ∀ {Q : Value → Shared → Prop} {E : Value → Shared → Prop}, Q c s → wpAny (model X.prog X.w) (X.A.mark (some (.ref a))) (eval (.Name x np) X.env) Q E s := fun {Q E} z => by
    obtain ⟨g, dbg, m | ⟨m, bt, nn⟩⟩ := hc
    · exact ld_glob (X := X.suite a ((a, oe) :: (X.pn ++ pins))) S g m z dbg
    · exact ld_blt (X := X.suite a ((a, oe) :: (X.pn ++ pins))) S g m bt z nn dbg
  refine named (isIt.here ?_)
  cases b with
  | false => exact rest pins σ H sI s B a cls d w (no rfl)
  | true =>
    refine codeAny_handlers_suite (HandSPX.lands_againZ w.fl fun h4 fl4 up4 => ?_)
    have w4 : Down X pins σ H sI B a cls d { s with heap := h4 } := ⟨fl4, w.inv, w.nb, w.up.trans up4, w.os, w.ag, w.na⟩
    obtain ⟨oe4, vs4, he4, hz4, hd4, nL4, nF4⟩ := w4.apart hf
    have S4 := w4.now.suite he4 hd4 w.na nL4 nF4
    refine wpAny_mono ((su a oe4 (X.pn ++ pins)).run [] _ σ H _ S4 (yes rfl)) (fun f s6 got => ?_) (fun _ _ z => False.elim z)
    cases f with
    | ret u => obtain ⟨v, σ6, H6, S6, r, z⟩ := got; exact ⟨v, σ6, H6, S6.unsuite ok, r, z⟩
    | next => obtain ⟨σ6, H6, S6, z⟩ := got; exact ⟨σ6, H6, S6.unsuite ok, z⟩
    | brk => obtain ⟨σ6, H6, S6, z⟩ := got; exact ⟨σ6, H6, S6.unsuite ok, z⟩
    | cont => obtain ⟨σ6, H6, S6, z⟩ := got; exact ⟨σ6, H6, S6.unsuite ok, z⟩
end Ask

/-! o.f as a target among several -/
namespace Ask
open PySem PySem.Spec PyProof.Rows L2
def gFld (K : PySem.W.Frag) (to : TE) (f : Str) : TG := fun y σ H Q => to σ H fun x H2 => ∃ a C dx fs, x = .ref a ∧ H2 a = some (.ins C dx fs) ∧ Cls K C ∧ NoAttr K C f ∧ fs.length < 1000 ∧ Q σ (upd H2 a (.ins C dx (putF f y fs)))
theorem pg_fld {X : Cx} {o : Expr} {f : Str} {pos : Pos} {to : TE} (ho : PE X o to) : PG X (.Attribute o f pos) (gFld X.K to f) := by
  refine ⟨fun pins s σ H v u Q I r h => ?_⟩
  rw [assign_Attribute]
  refine wpAny_bind (wpAny_holding (thn (ho.run pins s σ H _ I h) fun ov s1 ⟨x, H1, I1, r1, a, C, dx, fs, ex, ea, c, n, l, q⟩ => ?_))
  subst ex
  obtain rfl : ov = Value.ref a := r1
  refine wpAny_bind (wpAny_standAt (wpAny_bind (wpAny_holding ?_)))
  exact setattr_ok I1 ea c n l r fun s3 I3 => wpAny_release ⟨σ, _, I3, q⟩
end Ask

namespace Ask
open PySem L2
theorem inW_any {H : Hp} {x : V} {ys : List Str} {b : Bool} (h : InW H x ys b) : Any1 H x := by
  rcases h with ⟨h, _⟩ | ⟨_, h⟩
  · exact .inl h
  · exact .inr h
theorem inW_ne {H : Hp} {x : V} {ys : List Str} {y : Str} (h : InW H x ys false) (hy : y ∈ ys) : V.str y ≠ x := by
  rcases h with ⟨_, h⟩ | ⟨_, d, rfl, _⟩
  · rintro rfl
    have e := in_mem hy
    rw [e] at h
    cases h
  · intro z
    cases z
section
variable {P : Program} {w : World} {K : PySem.W.Frag} {mg : Str → Option Value} {base : Heap}
abbrev s_BadLetter_init : Stmt := inClass (top 10) 0
theorem sc_BadLetter_init : FnScope ["self", "index"] ["self", "index"] (defScope s_BadLetter_init) := ⟨rfl, rfl, rfl, by decide +kernel, rfl, by decide +kernel, by decide +kernel⟩
theorem ok_initBadLetter {f fC C : Addr} {fd fdC : FuncData} (F : Fun K "__init__" "BadLetter.__init__" s_BadLetter_init f fd) (T : OexC K C) (h1 : PySem.W.findIn K (.ref C) "index" = some none)
    (GC : FnOk P w K mg base CX0 1 fC fdC ["value"] spCopy) (CP : At K mg "copied" fC fdC ["value"]) : FnOk P w K mg base CX0 2 f fd ["self", "index"] (spErr C okBad fsBad) := by
  refine F.ok sc_BadLetter_init (fun vs H Q E h => ?_) (fun cdv A outer s H vs Q E hr h => ?_)
  · obtain ⟨a, ws, rfl, ⟨i, rfl⟩, _⟩ := h
    rfl
  · obtain ⟨a, ws, rfl, ⟨i, rfl⟩, ha, k⟩ := h
    refine ⟨_, pss_one (ps_ost (pv 0) (pe_call GC hr (by rfl) CP.m CP.k CP.b .nil pass0 (pa_cons (pv 1) pa_nil))), ?_⟩
    refine ⟨_, rfl, _, rfl, .inl ⟨i, rfl⟩, _, rfl, a, C, rfl, T, h1, .inl ⟨ha, fun dx hdx hne => ?_⟩⟩
    refine k _ dx hdx hne upd_same (by rw [upd_ne hne]; exact upd_same) fun b o hb e => ?_
    rw [upd_ne hb, upd_ne (ne_of_none e hdx)]
    exact e
theorem ok_rank {f fE CL CE : Addr} {fd fdE : FuncData} (F : Fun K "rank" "Letters.rank" s_Rank f fd) (T : Blt mg) (hC : Cls K CL) (hA : NoAttr K CL "words")
    (FE : FnOk P w K mg base CX0 2 fE fdE ["self", "index"] (spErr CE okBad fsBad)) (EE : ErrAt K mg "BadLetter" CE fE fdE ["self", "index"]) :
    FnOk P w K mg base (L2.CX P w) 4 f fd ["self", "x"] (spRank CL CE) := by
  refine F.okX sc_Rank (fun vs H Q E h => ?_) (fun cdv A outer s H vs Q E hr h => ?_)
  · obtain ⟨p, t, ys, x, rfl, _⟩ := h
    rfl
  · obtain ⟨p, t, ys, x, rfl, ⟨dx, ob, hp, ht, hob⟩, nd, h⟩ := h
    refine ⟨_, (pss_cons (ps_for (passes_of rfl) rfl (pi_enumA (by rfl) T.n_enumerate (pa_cons (pe_fld (pv 0) rfl) pa_nil)) (pg_tup rfl (pgs_cons (pg_name (i := 2) sc_Rank.nd rfl (Or.inl rfl)) (pgs_cons (pg_name (i := 3) sc_Rank.nd rfl (Or.inl rfl)) pgs_nil)))
        (pss_one (ps_if (pt_cmpR (op_eqW hr.units0) (pv 3) (pv 1) (nomark _)) (pss_one (ps_ret (pv 2))) pss_nil)))
      (pss_one (ps_raise rfl (takes_of rfl rfl rfl rfl) (pmk_oex EE.o EE.i EE.t FE hr EE.b .nil pass0 (by rfl) EE.m (pa_cons pe_int pa_nil))))), ?_⟩
    have hq : SqT K H t (ys.map V.str) := .inl (.inr ⟨ob, ht⟩)
    have hx : Any1 H x := by
      rcases h with ⟨i0, z, rfl, hi, k⟩ | ⟨hw, k⟩
      · exact .inl rfl
      · exact inW_any hw
    have hn : (ys.map V.str).length = ys.length := List.length_map ..
    refine for_enum (fun R r => ⟨_, rfl, p, CL, dx, _, _, rfl, hp, hC, hA, rfl, t, _, rfl, .inr ⟨hq, r⟩⟩) walk_enumT
      (fun i σ' H' => (∀ (j : Nat) (y : Str), j < i → ys[j]? = some y → V.str y ≠ x) ∧ ∃ o2 o3 : Option V, σ' = [some (.ref p), some x, o2, o3] ∧ Same H H')
      ⟨fun j y hj => absurd hj (Nat.not_lt_zero j), none, none, rfl, Same.refl H⟩ (fun i σ' H' _ ⟨_, _, _, _, s'⟩ => seqT_same s' hq) ?_ ?_
    · rintro i e σ' H2 H3 hi ⟨hne, o2, o3, rfl, s2⟩ ⟨t2, x0, y0, rfl, ht2, rfl, ex, ey⟩
      cases ex
      rw [hn] at hi
      obtain ⟨y, hy⟩ : ∃ y, ys[i]? = some y := ⟨_, List.getElem?_eq_getElem hi⟩
      replace ey : (ys.map V.str)[i]? = some y0 := ey
      rw [List.getElem?_map, hy] at ey
      injection ey with ey
      subst ey
      have s3 := Ask.Same.made1 (o := .tup [.int (i : Nat), .str y]) s2 ht2
      have ht3 : upd H2 t2 (.tup [.int (i : Nat), .str y]) t2 = some (.tup [.int (i : Nat), .str y]) := upd_same
      generalize upd H2 t2 (.tup [.int (i : Nat), .str y]) = H4 at s3 ht3 ⊢
      refine ⟨t2, _, rfl, SqT.of ht3, rfl, _, _, rfl, _, _, rfl, rfl, ?_⟩
      refine ⟨_, rfl, _, rfl, y, rfl, hx.same s3, _, rfl, ite2 (fun hd => ?_) (fun hd => ?_)⟩
      · have hd : V.str y = x := of_decide_eq_true hd
        subst hd
        rcases h with ⟨i0, z, hz, hi0, k⟩ | ⟨hw, k⟩
        · injection hz with hz
          subst hz
          obtain rfl : i = i0 := (List.getElem?_inj hi nd).mp (hy.trans hi0.symm)
          exact ⟨_, rfl, k _ s3⟩
        · exact absurd rfl (inW_ne hw (List.mem_of_getElem? hy))
      · have hd : V.str y ≠ x := fun q => hd (decide_eq_true q)
        refine ⟨fun j z hj hz => ?_, _, _, rfl, s3⟩
        rcases Nat.lt_succ_iff_lt_or_eq.mp hj with hj | rfl
        · exact hne j z hj hz
        · rw [hy] at hz
          injection hz with hz
          subst hz
          exact hd
    · rintro σ' H' ⟨hne, o2, o3, rfl, s'⟩
      rw [hn] at hne
      rcases h with ⟨i0, z, rfl, hi0, k⟩ | ⟨hw, k⟩
      · exact absurd rfl (hne i0 z (List.getElem?_eq_some_iff.mp hi0).1 hi0)
      · exact err_made s' ⟨_, rfl⟩ (by show 1 ≤ 1000; decide) (fun H' d s' e => k H' d s' e)
end
end Ask

namespace Ask
open PySem L2
open PySem.SeqAt (notIn_tupleAt EqAt)
section
variable {X : Cx}
theorem op_notInW (hu : X.A.units + 1 < cLine) : OpR X (compareOp .NotIn) (fun x y H Q => ∃ (p : Addr) (ys : List Str) (b : Bool), y = .ref p ∧ SqT X.K H p (ys.map V.str) ∧ InW H x ys b ∧ Q (.bl (!b)) H) := by
  intro pins s σ H x y v u Q I rx ry h
  obtain ⟨p, ys, b, rfl, hq, hw, q⟩ := h
  rcases hw with ⟨fx, rfl⟩ | ⟨rfl, d, rfl, hd⟩
  · refine op_notIn_seq pins s σ H x (.ref p) v u Q I rx ry ⟨p, _, rfl, .inr hq, fx, ?_, q⟩
    rw [List.all_eq_true]
    intro y hy
    obtain ⟨z, _, rfl⟩ := List.mem_map.mp hy
    rfl
  · cases rx
    cases ry
    obtain ⟨its, r, pl, hz⟩ := I.tuple hq
    have at_ : ∀ (y : Str) (t : Tok), EqAt X.A.in1 s (.str y t) (.ref d) false := fun y t => by
      rcases hd with ⟨kvs, hd⟩ | ⟨xs, hd⟩ | ⟨xs, hd⟩
      · obtain ⟨_, _, vs, _, o, es, ep, ho, hx, hdd, _⟩ := I.hok d _ hd
        exact eqAt_sd y t ho hx.1 hdd hu
      · obtain ⟨its2, r2, pl2, _⟩ := I.list (.inl (.inl hd))
        exact PySem.SeqAt.EqAt.str_list y t pl2.isList hu
      · obtain ⟨its2, r2, pl2, _⟩ := I.tuple (.inl (.inl hd))
        exact PySem.SeqAt.EqAt.str_tuple y t pl2 hu
    refine notIn_tupleAt (fun _ => false) pl (fun w hw => strs_eqAtR at_ ys _ r w (by simpa using hw)) ⟨.bl true, H, I, ?_, q⟩
    show Value.bool _ = Value.bool true
    simp
end
theorem inV_str (z : Str) (ys : List Str) : inV (.str z) (ys.map V.str) = decide (z ∈ ys) := by
  by_cases h : z ∈ ys
  · rw [in_mem h, decide_eq_true h]
  · rw [decide_eq_false h]
    unfold inV
    rw [List.any_eq_false]
    intro y hy
    obtain ⟨x, hx, rfl⟩ := List.mem_map.mp hy
    intro e
    have e : decide (x = z) = true := e
    exact h (of_decide_eq_true e ▸ hx)
theorem inV_other {x : V} (h : ∀ z, eqV (.str z) x = false) (ys : List Str) : inV x (ys.map V.str) = false := by
  unfold inV
  rw [List.any_eq_false]
  intro y hy
  obtain ⟨z, hz, rfl⟩ := List.mem_map.mp hy
  rw [h z]
  exact Bool.false_ne_true
/-- a value of the law's: flat, or a list, a tuple, a dict -/
def Val (p : Addr) (H : Hp) (v : V) : Prop := flatV v = true ∨ ∃ d, v = .ref d ∧ d ≠ p ∧ ((∃ kvs, H d = some (.dK kvs)) ∨ (∃ xs, H d = some (.lst xs)) ∨ (∃ xs, H d = some (.tup xs)))
def inB (ys : List Str) : V → Bool
  | .str z => decide (z ∈ ys)
  | _ => false
def isN : V → Bool
  | .non => true
  | _ => false
section
variable {p : Addr} {H H' : Hp} {v : V} {ys : List Str} {K : PySem.W.Frag}
theorem Val.kp (h : Val p H v) (k : Kp p H H') : Val p H' v := by
  rcases h with h | ⟨d, e, n, h⟩
  · exact .inl h
  · refine .inr ⟨d, e, n, ?_⟩
    rcases h with ⟨z, h⟩ | ⟨z, h⟩ | ⟨z, h⟩
    · exact .inl ⟨z, k _ _ n h⟩
    · exact .inr (.inl ⟨z, k _ _ n h⟩)
    · exact .inr (.inr ⟨z, k _ _ n h⟩)
theorem Val.same (h : Val p H v) (s : Same H H') : Val p H' v := h.kp (Kp.of s)
theorem Val.inw (h : Val p H v) (ys : List Str) : InW H v ys (inB ys v) := by
  rcases h with h | ⟨d, rfl, n, h⟩
  · cases v with
    | str z => exact .inl ⟨rfl, (inV_str z ys).symm⟩
    | non => exact .inl ⟨rfl, (inV_other (fun _ => rfl) ys).symm⟩
    | bl b => exact .inl ⟨rfl, (inV_other (fun _ => rfl) ys).symm⟩
    | int i => exact .inl ⟨rfl, (inV_other (fun _ => rfl) ys).symm⟩
    | _ => cases h
  · exact .inr ⟨rfl, d, rfl, h⟩
/-- what isinstance(v, str) tells -/
theorem Val.isi (h : Val p H v) : ∃ ty b, TyX K H v ty ∧ PySem.W.kitOne K ty (.type "str") = some b ∧ (b = true → ∃ z, v = .str z) ∧ (b = false → ∀ ys, inB ys v = false) := by
  rcases h with h | ⟨d, rfl, n, ⟨z, h⟩ | ⟨z, h⟩ | ⟨z, h⟩⟩
  · cases v with
    | str z => exact ⟨.type "str", true, .base (.str z), kit_ty (by decide +kernel), fun _ => ⟨z, rfl⟩, fun h => by cases h⟩
    | non => exact ⟨.type "NoneType", false, .base .non, kit_ty (by decide +kernel), fun h => (by cases h), fun _ _ => rfl⟩
    | bl b => exact ⟨.type "bool", false, .base (.bl b), kit_ty (by decide +kernel), fun h => (by cases h), fun _ _ => rfl⟩
    | int i => exact ⟨.type "int", false, .base (.int i), kit_ty (by decide +kernel), fun h => (by cases h), fun _ _ => rfl⟩
    | _ => cases h
  · exact ⟨.type "dict", false, .base (.dK h), kit_ty (by decide +kernel), fun h => (by cases h), fun _ _ => rfl⟩
  · exact ⟨.type "list", false, ty_list (SqL.of h), kit_ty (by decide +kernel), fun h => (by cases h), fun _ _ => rfl⟩
  · exact ⟨.type "tuple", false, ty_tup (SqT.of h), kit_ty (by decide +kernel), fun h => (by cases h), fun _ _ => rfl⟩
theorem inB_some (h : inB ys v = true) : ∃ z, v = .str z ∧ z ∈ ys := by
  cases v with
  | str z => exact ⟨z, rfl, of_decide_eq_true h⟩
  | _ => cases h
end
def KL : List Str := ["idle", "kept", "still", "over", "undone", "alike"]
def LK : List Str := ["idle", "still"]
/-- the constants of sentences -/
structure GvK (K : PySem.W.Frag) (mg : Str → Option Value) : Prop where
  kinds : ∃ (t : Addr) (u : Value), mg "KINDS" = some u ∧ RelV (.ref t) u ∧ ∀ H, SqT K H t (KL.map V.str)
  lone : ∃ (t : Addr) (u : Value), mg "LONE_KINDS" = some u ∧ RelV (.ref t) u ∧ ∀ H, SqT K H t (LK.map V.str)
section
variable {P : Program} {w : World} {K : PySem.W.Frag} {mg : Str → Option Value} {base : Heap}
/-! ### is_due -/
def spIsDue (CL : Addr) : Sp := fun vs H Q _ => ∃ (m t : Addr) (ys : List Str) (v : V) (h b : Bool), vs = [.ref m, v, .bl h] ∧ Mde CL H m t ys ∧ InW H v ys b ∧ Q (.bl (if h = true then b else decide (v = .non))) H
abbrev s_is_due : Stmt := top 22
theorem sc_is_due : FnScope ["letters", "value", "has_letter"] ["letters", "value", "has_letter"] (defScope s_is_due) := ⟨rfl, rfl, rfl, by decide +kernel, rfl, by decide +kernel, by decide +kernel⟩
theorem ok_isDue {f fH CL : Addr} {fd fdH : FuncData} (F : Fun K "is_due" "is_due" s_is_due f fd)
    (GH : FnOk P w K mg base CX0 1 fH fdH ["self", "x"] (spHas CL)) (bH : Binds K fdH ["self", "x"] []) (hH : PySem.W.findIn K (.ref CL) "__contains__" = some (some (.ref fH))) (iH : PySem.W.isFn K (.ref fH) = true) :
    FnOk P w K mg base CX0 2 f fd ["letters", "value", "has_letter"] (spIsDue CL) := by
  refine F.ok sc_is_due (fun vs H Q E h => ?_) (fun cdv A outer s H vs Q E hr h => ?_)
  · obtain ⟨m, t, ys, v, h, b, rfl, _⟩ := h
    rfl
  · obtain ⟨m, t, ys, v, h, b, rfl, hM, hw, k⟩ := h
    obtain ⟨dx, ob, m1, _⟩ := id hM
    refine ⟨_, (pss_one (ps_ret (pe_ifExp (pt_val (pv 2)) (pe_cmpR (op_inI (C := CL) (E := E0) GH hr bH pass0 hH iH) (pv 1) (pv 0) rfl) (pe_cmpR op_isN (pv 1) pe_non (nomark _))))), ?_⟩
    refine ⟨_, rfl, _, rfl, ?_⟩
    cases h with
    | true => exact iteT ⟨_, rfl, _, rfl, m, dx, _, rfl, m1, m, t, ys, v, b, rfl, hM, hw, b, rfl, k⟩
    | false => exact iteF ⟨_, rfl, rfl, k⟩
/-! ### sides -/
def yOf : V → Str
  | .str y => y
  | _ => ""
def sdL (k x : Str) (s : V) : List Run := if k ∈ LK then [(x, 1)] else if k = "alike" then [(x, 1)] else [(x, 1), (yOf s, 1)]
def sdR (k x : Str) (s : V) : List Run := if k ∈ LK then [] else if k = "alike" then [(yOf s, 1)] else if k = "kept" then [(x, 1)] else if k = "over" then [(yOf s, 1)] else []

def spSides (K : PySem.W.Frag) : Sp := fun vs H Q _ => ∃ (ys : List Str) (k x : Str) (s : V), vs = [.str k, .str x, s, .int 1] ∧ k ∈ KL ∧ x ∈ ys ∧ (k ∉ LK → ∃ y, s = .str y ∧ y ∈ ys) ∧
  ∀ (H' : Hp) (q l r : Addr) (ls rs : List V) (a b : List Run), Same H H' → H' q = some (.tup [.ref l, .ref r]) → SqT K H' l ls → PairsV H' ls a → SqT K H' r rs → PairsV H' rs b → a.length ≤ 2 → b.length ≤ 2 → (∀ z ∈ a, z.1 ∈ ys ∧ z.2 = 1) → (∀ z ∈ b, z.1 ∈ ys ∧ z.2 = 1) → a = sdL k x s → b = sdR k x s → Q (.ref q) H'
end
end Ask

namespace Ask
open PySem L2
def ixOf : List Str → Str → Nat
  | [], _ => 0
  | y :: ys, x => if y = x then 0 else ixOf ys x + 1
theorem ixOf_at : ∀ {ys : List Str} {x : Str}, x ∈ ys → ys[ixOf ys x]? = some x ∧ ∀ m < ixOf ys x, ys[m]? ≠ some x
  | [], _, h => by cases h
  | y :: ys, x, h => by
    unfold ixOf
    by_cases e : y = x
    · rw [if_pos e]
      exact ⟨congrArg some e, fun m hm => absurd hm (Nat.not_lt_zero _)⟩
    · rw [if_neg e]
      have h' : x ∈ ys := by
        rcases List.mem_cons.mp h with h | h
        · exact absurd h.symm e
        · exact h
      obtain ⟨h1, h2⟩ := ixOf_at h'
      refine ⟨h1, fun m hm => ?_⟩
      cases m with
      | zero => exact fun z => e (Option.some.inj z)
      | succ m => exact h2 m (Nat.lt_of_succ_lt_succ hm)
/-- whether x stands ahead of s -/
def ahead (ys : List Str) (x : Str) : V → Bool
  | .str y => decide (ixOf ys x < ixOf ys y)
  | _ => false
/-- the one form -/
def nfT (ys : List Str) (k x : Str) (s : V) : List V := if k = "over" ∧ V.str x = s then [.str "kept", .str x, s] else if k = "alike" ∧ ahead ys x s = true then [.str k, s, .str x] else [.str k, .str x, s]
section
variable {P : Program} {w : World} {K : PySem.W.Frag} {mg : Str → Option Value} {base : Heap}
/-! ### one_form -/
def spForm (CL : Addr) : Sp := fun vs H Q _ => ∃ (m t : Addr) (ys : List Str) (k x : Str) (s : V), vs = [.ref m, .str k, .str x, s] ∧ Mde CL H m t ys ∧ ys.Nodup ∧ x ∈ ys ∧ (k ∉ LK → ∃ y, s = .str y ∧ y ∈ ys) ∧ (k ∈ LK → s = .non) ∧
  ∀ (H' : Hp) (q : Addr), Same H H' → H' q = some (.tup (nfT ys k x s)) → Q (.ref q) H'
abbrev s_one_form : Stmt := top 23
theorem sc_one_form : FnScope ["letters", "kind", "first", "second"] ["letters", "kind", "first", "second"] (defScope s_one_form) := ⟨rfl, rfl, rfl, by decide +kernel, rfl, by decide +kernel, by decide +kernel⟩
theorem ok_form {f fR CL CE : Addr} {fd fdR : FuncData} (F : Fun K "one_form" "one_form" s_one_form f fd) (hC : Cls K CL) (mR : Meth K CL "rank" fR) (bR : Binds K fdR ["self", "x"] []) (GR : FnOk P w K mg base (L2.CX P w) 4 fR fdR ["self", "x"] (spRank CL CE)) :
    FnOk P w K mg base CX0 5 f fd ["letters", "kind", "first", "second"] (spForm CL) := by
  refine F.ok sc_one_form (fun vs H Q E h => ?_) (fun cdv A outer s H vs Q E hr h => ?_)
  · obtain ⟨m, t, ys, k, x, s, rfl, _⟩ := h
    rfl
  · obtain ⟨m, t, ys, k, x, s', rfl, hM, nd, hx, hs1, hs2, kq⟩ := h
    refine ⟨_, (pss_cons (ps_if (PW.pt (pw_and (pt_cmpR op_eq (pv 1) pe_str (nomark _)) (pw_and1 (pt_cmpR op_eq (pv 2) (pv 3) (nomark _))))) (pss_one (ps_ret (pe_tup (pa_cons pe_str (pa_cons (pv 2) (pa_cons (pv 3) pa_nil)))))) pss_nil)
      (pss_cons (ps_if (PW.pt (pw_and (pt_cmpR op_eq (pv 1) pe_str (nomark _)) (pw_and1 (pt_cmpR op_lt (pe_meth (pv 0) hC mR GR hr bR .nil passE (pa_cons (pv 2) pa_nil)) (pe_meth (pv 0) hC mR GR hr bR .nil passE (pa_cons (pv 3) pa_nil)) (nomark _))))) (pss_one (ps_ret (pe_tup (pa_cons (pv 1) (pa_cons (pv 3) (pa_cons (pv 2) pa_nil)))))) pss_nil)
      (pss_one (ps_ret (pe_tup (pa_cons (pv 1) (pa_cons (pv 2) (pa_cons (pv 3) pa_nil)))))))), ?_⟩
    obtain ⟨dx, ob, m1, _⟩ := id hM
    have sc : scal (.str x) s' = true := by
      by_cases l : k ∈ LK
      · rw [hs2 l]; rfl
      · obtain ⟨y, rfl, _⟩ := hs1 l; rfl
    have three : (3 : Nat) ≤ sizeLine := by decide
    -- behind the first look
    have rest : ¬ (k = "over" ∧ V.str x = s') → ∀ (tt : TS), True → True := fun _ _ _ => trivial
    refine ⟨_, rfl, rfl, _, rfl, ite2 (fun q1 => ?_) (fun q1 => ?_)⟩
    · have q1 : k = "over" := V.str.inj (of_decide_eq_true q1)
      refine ⟨_, rfl, _, rfl, sc, _, rfl, ite2 (fun q2 => ?_) (fun q2 => ?_)⟩
      · have q2 := of_decide_eq_true q2
        exact ⟨_, rfl, _, rfl, three, fun q hq => kq _ q (Ask.Same.made1 (Same.refl H) hq) (by unfold nfT; rw [if_pos ⟨q1, q2⟩]; exact upd_same)⟩
      · have q2 : ¬ V.str x = s' := fun z => q2 (decide_eq_true z)
        have n2 : ¬ k = "alike" := by rw [q1]; decide
        refine ⟨_, rfl, rfl, _, rfl, ?_⟩
        rw [decide_eq_false (fun z => n2 (V.str.inj z))]
        refine iteF ⟨_, rfl, _, rfl, _, rfl, three, fun q hq => kq _ q (Ask.Same.made1 (Same.refl H) hq) (by unfold nfT; rw [if_neg (fun z => q2 z.2), if_neg (fun z => n2 z.1)]; exact upd_same)⟩
    · have q1 : ¬ k = "over" := fun z => q1 (decide_eq_true (congrArg V.str z))
      refine ⟨_, rfl, rfl, _, rfl, ite2 (fun q2 => ?_) (fun q2 => ?_)⟩
      · have q2 : k = "alike" := V.str.inj (of_decide_eq_true q2)
        obtain ⟨y, rfl, hy⟩ := hs1 (by rw [q2]; decide)
        refine ⟨_, rfl, m, dx, _, rfl, m1, rfl, _, rfl, m, t, ys, _, rfl, hM, nd, .inl ⟨ixOf ys x, x, rfl, (ixOf_at hx).1, fun H2 s2 => ?_⟩⟩
        refine ⟨_, rfl, m, dx, _, rfl, s2 _ _ m1, rfl, _, rfl, m, t, ys, _, rfl, hM.same s2, nd, .inl ⟨ixOf ys y, y, rfl, (ixOf_at hy).1, fun H3 s3 => ?_⟩⟩
        refine ⟨_, _, rfl, rfl, _, rfl, ite2 (fun q3 => ?_) (fun q3 => ?_)⟩
        · have q3 : (ixOf ys x : Int) < (ixOf ys y : Int) := of_decide_eq_true q3
          exact ⟨_, rfl, _, rfl, _, rfl, three, fun q hq => kq _ q (Ask.Same.made1 (s2.trans s3) hq) (by unfold nfT; rw [if_neg (fun z => q1 z.1), if_pos ⟨q2, decide_eq_true (by omega)⟩]; exact upd_same)⟩
        · have q3 : ¬ (ixOf ys x : Int) < (ixOf ys y : Int) := fun z => q3 (decide_eq_true z)
          exact ⟨_, rfl, _, rfl, _, rfl, three, fun q hq => kq _ q (Ask.Same.made1 (s2.trans s3) hq) (by unfold nfT; rw [if_neg (fun z => q1 z.1), if_neg (fun z => by have := of_decide_eq_true z.2; omega)]; exact upd_same)⟩
      · have q2 : ¬ k = "alike" := fun z => q2 (decide_eq_true (congrArg V.str z))
        exact ⟨_, rfl, _, rfl, _, rfl, three, fun q hq => kq _ q (Ask.Same.made1 (Same.refl H) hq) (by unfold nfT; rw [if_neg (fun z => q1 z.1), if_neg (fun z => q2 z.1)]; exact upd_same)⟩
end
end Ask

namespace Ask
open PySem L2
/-- what stands but at p -/
def But (p : Addr) (H H' : Hp) : Prop := ∀ b o, b ≠ p → H b = some o → H' b = some o
theorem But.same {p : Addr} {H H1 H2 : Hp} (k : But p H H1) (s : Same H1 H2) : But p H H2 := fun b o n e => s _ _ (k b o n e)
theorem But.upd {p : Addr} {H H1 : Hp} {o : HO} (k : But p H H1) : But p H (upd H1 p o) := fun b u n e => by rw [upd_ne n]; exact k b u n e
/-- what comes of a sentence: 0 the kind, 1 and 2 the letters, 3 nothing said, 4 a sentence -/
def outS (ys : List Str) (kd f s : V) : Nat := if inB KL kd = false then 0 else if inB ys f = false then 1 else if (if inB LK kd = true then isN s else inB ys s) = false then 2 else if kd = .str "alike" ∧ f = s then 3 else 4
/-- where a sentence's sides begin -/
def bgR (k : Str) : Str := if k = "still" then "new" else "found"
/-- the attributes that a sentence is given -/
structure SnC (K : PySem.W.Frag) (C : Addr) : Prop where
  c : Cls K C
  a1 : NoAttr K C "letters"
  a2 : NoAttr K C "kind"
  a3 : NoAttr K C "first"
  a4 : NoAttr K C "second"
section
variable {P : Program} {w : World} {K : PySem.W.Frag} {mg : Str → Option Value} {base : Heap}
def spSen (K : PySem.W.Frag) (CL CS CK CT CN : Addr) : Sp := fun vs H Q E => ∃ (p dx m t pp : Addr) (kd f s : V) (ys : List Str), vs = [.ref p, .ref m, kd, f, s] ∧ H p = some (.ins CS dx []) ∧ Mde CL H m t ys ∧ ys.Nodup ∧ Val pp H kd ∧ Val pp H f ∧ Val pp H s ∧
  (outS ys kd f s = 0 → E (.ref CK) none H) ∧
  (∀ i : Nat, outS ys kd f s = i + 1 → i ≤ 1 → ∀ (H' : Hp) (d : Addr), Same H H' → H' d = some (.xd (fsBad [.int (i : Nat)])) → E (.ref CT) (some d) H') ∧
  (outS ys kd f s = 3 → E (.ref CN) none H) ∧
  (outS ys kd f s = 4 → ∀ (k x : Str), kd = .str k → f = .str x → k ∈ KL → x ∈ ys → (k ∉ LK → ∃ y, s = .str y ∧ y ∈ ys) → (k ∈ LK → s = .non) → ∀ (H' : Hp) (k' x' : Str) (s' : V), H' p = some (.ins CS dx [("letters", .ref m), ("kind", .str k'), ("first", .str x'), ("second", s')]) → But p H H' → nfT ys k x s = [.str k', .str x', s'] → Q .non H')
abbrev s_Sen_init : Stmt := inClass (top 24) 0
theorem sc_Sen_init : FnScope ["self", "letters", "kind", "first", "second"] ["self", "letters", "kind", "first", "second"] (defScope s_Sen_init) := ⟨rfl, rfl, rfl, by decide +kernel, rfl, by decide +kernel, by decide +kernel⟩
theorem nfT_three (ys : List Str) (k x : Str) (s : V) : ∃ a b c, nfT ys k x s = [a, b, c] := by
  unfold nfT
  split
  · exact ⟨_, _, _, rfl⟩
  · split
    · exact ⟨_, _, _, rfl⟩
    · exact ⟨_, _, _, rfl⟩
/-- what the one form is, where the parts are right -/
theorem nfT_ok {ys : List Str} {k x : Str} {s : V} (hk : k ∈ KL) (hx : x ∈ ys) (h1 : k ∉ LK → ∃ y, s = .str y ∧ y ∈ ys) (h2 : k ∈ LK → s = .non) :
    ∃ (k' x' : Str) (s' : V), nfT ys k x s = [.str k', .str x', s'] ∧ k' ∈ KL ∧ x' ∈ ys ∧ (k' ∉ LK → ∃ y, s' = .str y ∧ y ∈ ys) ∧ (k' ∈ LK → s' = .non) := by
  unfold nfT
  split
  · rename_i h
    refine ⟨"kept", x, s, rfl, by decide, hx, fun _ => ⟨x, h.2.symm, hx⟩, fun z => absurd z (by decide)⟩
  · split
    · rename_i _ h
      obtain ⟨y, rfl, hy⟩ := h1 (by rw [h.1]; decide)
      exact ⟨k, y, .str x, rfl, hk, hy, fun _ => ⟨x, rfl, hx⟩, fun z => by rw [h.1] at z; exact absurd z (by decide)⟩
    · exact ⟨k, x, s, rfl, hk, hx, h1, h2⟩
theorem ok_senInit {dvs : List V} {f fD fO fT fH CL CS CK CT CN : Addr} {fd fdD fdO fdT fdH : FuncData} (F : FunD K "__init__" "Sentence.__init__" (defArgs s_Sen_init) (defBody s_Sen_init) (defScope s_Sen_init) dvs [] f fd) (hC : SnC K CS) (Gk : GvK K mg)
    (GH : FnOk P w K mg base CX0 1 fH fdH ["self", "x"] (spHas CL)) (bH : Binds K fdH ["self", "x"] []) (hH : PySem.W.findIn K (.ref CL) "__contains__" = some (some (.ref fH))) (iH : PySem.W.isFn K (.ref fH) = true)
    (GD : FnOk P w K mg base CX0 2 fD fdD ["letters", "value", "has_letter"] (spIsDue CL)) (AD : At K mg "is_due" fD fdD ["letters", "value", "has_letter"])
    (GO : FnOk P w K mg base CX0 5 fO fdO ["letters", "kind", "first", "second"] (spForm CL)) (AO : At K mg "one_form" fO fdO ["letters", "kind", "first", "second"])
    (EK : Err0 K mg "BadKind" CK) (EN : Err0 K mg "SaysNothing" CN)
    (GT : FnOk P w K mg base CX0 2 fT fdT ["self", "index"] (spErr CT okBad fsBad)) (ET : ErrAt K mg "BadLetter" CT fT fdT ["self", "index"])  :
    FnOk P w K mg base (L2.CX P w) 7 f fd ["self", "letters", "kind", "first", "second"] (spSen K CL CS CK CT CN) := by
  refine F.ok sc_Sen_init (fun vs H Q E h => ?_) (fun cdv A outer s H vs Q E hr h => ?_)
  · obtain ⟨p, dx, m, t, pp, kd, f, s, ys, rfl, _⟩ := h
    rfl
  · obtain ⟨p, dx, m, t, pp, kd, f, s', ys, rfl, hp, hM, nd, vk, vf, vs, k0, k12, k3, k4⟩ := h
    obtain ⟨tK, uK, mK, rK, sK⟩ := Gk.kinds
    obtain ⟨tL, uL, mL, rL, sL⟩ := Gk.lone
    have hr1 := hr.mono (j := 1) (by decide)
    have hr2 := hr.mono (j := 2) (by decide)
    have hr3 := hr.mono (j := 3) (by decide)
    refine ⟨_, (pss_cons (ps_if (pt_cmpR (op_notInW (hu_of hr)) (pv 2) (pe_gv (v := .ref tK) rfl ⟨uK, mK, rK⟩) rfl) (pss_one (ps_raise rfl (takes_of rfl rfl rfl rfl) (pmk_own0 PySem.F.excBase_ValueError EK.e EK.m EK.k (raises_own EK.b EK.t) (by rfl)))) pss_nil)
      (pss_cons (ps_if (pt_cmpR (op_notInI (C := CL) (E := E0) GH hr1 bH pass0 hH iH) (pv 3) (pv 1) rfl) (pss_one (ps_raise rfl (takes_of rfl rfl rfl rfl) (pmk_oex ET.o ET.i ET.t GT hr3 ET.b .nil pass0 (by rfl) ET.m (pa_cons pe_int pa_nil)))) pss_nil)
      (pss_cons (ps_if (pt_not (pt_val (pe_call GD hr2 (by rfl) AD.m AD.k AD.b .nil pass0 (pa_cons (pv 1) (pa_cons (pv 4) (pa_cons (pe_cmpR op_notIn_seq (pv 2) (pe_gv (v := .ref tL) rfl ⟨uL, mL, rL⟩) rfl) pa_nil)))))) (pss_one (ps_raise rfl (takes_of rfl rfl rfl rfl) (pmk_oex ET.o ET.i ET.t GT hr3 ET.b .nil pass0 (by rfl) ET.m (pa_cons pe_int pa_nil)))) pss_nil)
      (pss_cons (ps_if (PW.pt (pw_and (pt_cmpR op_eq (pv 2) pe_str (nomark _)) (pw_and1 (pt_cmpR op_eq (pv 3) (pv 4) (nomark _))))) (pss_one (ps_raise rfl (takes_of rfl rfl rfl rfl) (pmk_own0 PySem.F.excBase_ValueError EN.e EN.m EN.k (raises_own EN.b EN.t) (by rfl)))) pss_nil)
      (pss_cons (ps_fld (pv 0) (pv 1) rfl)
      (pss_one (ps_asg (pe_call GO (hr.mono (by decide)) (by rfl) AO.m AO.k AO.b .nil pass0 (pa_cons (pv 1) (pa_cons (pv 2) (pa_cons (pv 3) (pa_cons (pv 4) pa_nil))))) (pg_tup rfl (pgs_cons (pg_fld (pv 0)) (pgs_cons (pg_fld (pv 0)) (pgs_cons (pg_fld (pv 0)) pgs_nil))))))))))), ?_⟩
    refine ⟨_, rfl, tK, KL, _, rfl, sK H, vk.inw KL, _, rfl, ?_⟩
    cases bk : inB KL kd with
    | false => exact iteT (k0 (by unfold outS; rw [if_pos bk]))
    | true =>
    refine iteF ?_
    obtain ⟨k, rfl, hk⟩ := inB_some bk
    obtain ⟨dm, ob, m1, _⟩ := id hM
    refine ⟨_, rfl, _, rfl, m, dm, _, rfl, m1, m, t, ys, _, _, rfl, hM, vf.inw ys, _, rfl, _, rfl, ?_⟩
    cases bf : inB ys f with
    | false => exact iteT (err_made (Same.refl H) ⟨_, rfl⟩ (by show 1 ≤ 1000; decide) (fun H' d s' e => k12 0 (by unfold outS; rw [if_neg (by rw [bk]; decide), if_pos bf]) (by decide) H' d s' e))
    | true =>
    refine iteF ?_
    obtain ⟨x, rfl, hx⟩ := inB_some bf
    refine ⟨_, rfl, _, rfl, _, rfl, tL, _, rfl, .inr (sL H), rfl, rfl, m, t, ys, s', _, _, rfl, hM, vs.inw ys, _, rfl, ?_⟩
    have isn : isN s' = decide (s' = V.non) := by
      cases s' <;> first | rfl | exact (decide_eq_false (fun z => by cases z)).symm
    have ec : (if (if true = true then !inV (V.str k) (List.map V.str LK) else inV (V.str k) (List.map V.str LK)) = true then inB ys s' else decide (s' = V.non)) = (if inB LK (.str k) = true then isN s' else inB ys s') := by
      rw [inV_str, isn, if_pos rfl]
      show (if (!decide (k ∈ LK)) = true then _ else _) = (if decide (k ∈ LK) = true then _ else _)
      by_cases l : k ∈ LK
      · rw [decide_eq_true l]; rfl
      · rw [decide_eq_false l]; rfl
    rw [ec]
    cases b2 : (if inB LK (.str k) = true then isN s' else inB ys s') with
    | false => exact iteT (err_made (Same.refl H) ⟨_, rfl⟩ (by show 1 ≤ 1000; decide) (fun H' d s' e => k12 1 (by unfold outS; rw [if_neg (by rw [bk]; decide), if_neg (by rw [bf]; decide), if_pos b2]) (by decide) H' d s' e))
    | true =>
    refine iteF ?_
    have hs1 : k ∉ LK → ∃ y, s' = .str y ∧ y ∈ ys := fun l => by
      have e : inB LK (.str k) = false := decide_eq_false l
      rw [e, if_neg Bool.false_ne_true] at b2
      exact inB_some b2
    have hs2 : k ∈ LK → s' = .non := fun l => by
      have e : inB LK (.str k) = true := decide_eq_true l
      rw [e, if_pos rfl, isn] at b2
      exact of_decide_eq_true b2
    have sc : scal (.str x) s' = true := by
      by_cases l : k ∈ LK
      · rw [hs2 l]; rfl
      · obtain ⟨y, rfl, _⟩ := hs1 l; rfl
    have o34 : outS ys (.str k) (.str x) s' = if V.str k = .str "alike" ∧ V.str x = s' then 3 else 4 := by
      unfold outS
      rw [if_neg (by rw [bk]; decide), if_neg (by rw [bf]; decide), if_neg (by rw [b2]; decide)]
    refine ⟨_, rfl, rfl, _, rfl, ?_⟩
    by_cases qa : V.str k = .str "alike"
    · rw [decide_eq_true qa]
      refine iteT ⟨_, rfl, _, rfl, sc, _, rfl, ?_⟩
      by_cases qb : V.str x = s'
      · rw [decide_eq_true qb]
        exact iteT (k3 (by rw [o34, if_pos ⟨qa, qb⟩]))
      · rw [decide_eq_false qb]
        have o4 : outS ys (.str k) (.str x) s' = 4 := by rw [o34, if_neg (fun z => qb z.2)]
        refine iteF ?_
        refine ⟨_, rfl, _, rfl, p, CS, dx, [], rfl, hp, hC.c, hC.a1, (by show 0 < 1000; decide), ?_⟩
        have p1 : upd H p (.ins CS dx (putF "letters" (.ref m) [])) p = some (.ins CS dx [("letters", .ref m)]) := upd_same
        have b1 : But p H (upd H p (.ins CS dx (putF "letters" (.ref m) []))) := But.upd fun _ _ _ e => e
        generalize upd H p (.ins CS dx (putF "letters" (.ref m) [])) = H1 at p1 b1 ⊢
        have hM1 : Mde CL H1 m t ys := hM.but b1 hp
        refine ⟨_, rfl, _, rfl, _, rfl, _, rfl, m, t, ys, k, x, s', rfl, hM1, nd, hx, hs1, hs2, fun H2 q s2 hq => ?_⟩
        obtain ⟨k', x', s2', enf, hk', hx', hs1', hs2'⟩ := nfT_ok hk hx hs1 hs2
        rw [enf] at hq
        have p2 := s2 _ _ p1
        refine ⟨q, _, rfl, SqT.of hq, rfl, _, _, rfl, _, rfl, p, CS, dx, _, rfl, p2, hC.c, hC.a2, (by show 1 < 1000; decide), _, _, rfl, _, rfl, p, CS, dx, _, rfl, upd_same, hC.c, hC.a3, (by show 2 < 1000; decide), _, _, rfl, _, rfl, p, CS, dx, _, rfl, upd_same, hC.c, hC.a4, (by show 3 < 1000; decide), rfl, ?_⟩
        exact k4 o4 k x rfl rfl hk hx hs1 hs2 _ k' x' s2' upd_same (((b1.same s2).upd.upd).upd) enf
    · rw [decide_eq_false qa]
      have o4 : outS ys (.str k) (.str x) s' = 4 := by rw [o34, if_neg (fun z => qa z.1)]
      refine iteF ?_
      refine ⟨_, rfl, _, rfl, p, CS, dx, [], rfl, hp, hC.c, hC.a1, (by show 0 < 1000; decide), ?_⟩
      have p1 : upd H p (.ins CS dx (putF "letters" (.ref m) [])) p = some (.ins CS dx [("letters", .ref m)]) := upd_same
      have b1 : But p H (upd H p (.ins CS dx (putF "letters" (.ref m) []))) := But.upd fun _ _ _ e => e
      generalize upd H p (.ins CS dx (putF "letters" (.ref m) [])) = H1 at p1 b1 ⊢
      have hM1 : Mde CL H1 m t ys := hM.but b1 hp
      refine ⟨_, rfl, _, rfl, _, rfl, _, rfl, m, t, ys, k, x, s', rfl, hM1, nd, hx, hs1, hs2, fun H2 q s2 hq => ?_⟩
      obtain ⟨k', x', s2', enf, hk', hx', hs1', hs2'⟩ := nfT_ok hk hx hs1 hs2
      rw [enf] at hq
      have p2 := s2 _ _ p1
      refine ⟨q, _, rfl, SqT.of hq, rfl, _, _, rfl, _, rfl, p, CS, dx, _, rfl, p2, hC.c, hC.a2, (by show 1 < 1000; decide), _, _, rfl, _, rfl, p, CS, dx, _, rfl, upd_same, hC.c, hC.a3, (by show 2 < 1000; decide), _, _, rfl, _, rfl, p, CS, dx, _, rfl, upd_same, hC.c, hC.a4, (by show 3 < 1000; decide), rfl, ?_⟩
      exact k4 o4 k x rfl rfl hk hx hs1 hs2 _ k' x' s2' upd_same (((b1.same s2).upd.upd).upd) enf
end
end Ask

/-! a comprehension with two for, by two walks -/
namespace Ask
open PySem L2 PySem.Spec PyProof.Rows
section
variable {J J1 : It} {n n1 : Nat} {G G1 : Hp → Prop} {Y Y1 : Nat → Hp → V → Hp → Prop} {wi wi1 : TI} {g g1 : TG} {tt tt1 : TT} {te : TE} {vs vs1 : List Nat} {σ : L2.St} {H : Hp} {Q : VK}
/-- the inner turns, behind which M holds -/
def In2 (J1 : It) (g1 : TG) (tt1 : TT) (te : TE) (vs1 : List Nat) (D : Addr) (σ2 : L2.St) (M : Hp → Prop) (H4 : Hp) : Prop := ∃ W1 : Nat → Nat → Hp → Prop, (∃ m, W1 0 m H4) ∧ ∀ j k H, W1 j k H → (J1.stop j H ∧ M H) ∨ (J1.go j H ∧ ∃ Nx1 : Hp → Prop, (∀ H', Nx1 H' → ∃ k', k' < k ∧ W1 (j + 1) k' H') ∧
  ∀ x H', J1.yld j H x H' → g1 x (wipe σ2 vs1) H' fun σ3 H5 => wipe σ3 vs1 = wipe σ2 vs1 ∧ tt1 σ3 H5 fun b H6 => if b = true then te σ3 H6 fun y H7 => ∃ acc, H7 D = some (.lst acc) ∧ acc.length < sizeLine ∧ Nx1 (upd H7 D (.lst (acc ++ [y]))) else Nx1 H6)
theorem in2_it (w1 : Walk J1 n1 G1 Y1) {D : Addr} {σ2 : L2.St} {M : Hp → Prop} {H4 : Hp} (Pw : Nat → Hp → Prop) (h0 : Pw 0 H4) (hG : ∀ j H, j ≤ n1 → Pw j H → G1 H)
    (hs : ∀ j x H H', j < n1 → Pw j H → Y1 j H x H' → g1 x (wipe σ2 vs1) H' fun σ3 H5 => wipe σ3 vs1 = wipe σ2 vs1 ∧ tt1 σ3 H5 fun b H6 => if b = true then te σ3 H6 fun y H7 => ∃ acc, H7 D = some (.lst acc) ∧ acc.length < sizeLine ∧ Pw (j + 1) (upd H7 D (.lst (acc ++ [y]))) else Pw (j + 1) H6)
    (hd : ∀ H, Pw n1 H → M H) : In2 J1 g1 tt1 te vs1 D σ2 M H4 := by
  refine ⟨fun j k H => k = n1 - j ∧ j ≤ n1 ∧ Pw j H, ⟨n1, by simp, Nat.zero_le _, h0⟩, ?_⟩
  rintro j k H ⟨rfl, hj, p⟩
  have q := hG j H hj p
  rcases Nat.lt_or_ge j n1 with lt | ge
  · exact .inr ⟨w1.goes j H lt q, Pw (j + 1), fun H' p' => ⟨n1 - (j + 1), by omega, rfl, lt, p'⟩, fun x H' y => hs j x H H' lt p (w1.yields j H x H' lt q y)⟩
  · obtain rfl : j = n1 := by omega
    exact .inl ⟨w1.stops H q, hd H p⟩
theorem lc2_it (f : ∀ R : It → Hp → Prop, R J H → wi σ H R) (wk : Walk J n G Y)
    (h : ∀ D, H D = none → ∃ Pv : Nat → Hp → Prop, Pv 0 (upd H D (.lst [])) ∧ (∀ i H, i ≤ n → Pv i H → G H) ∧
      (∀ i x H H', i < n → Pv i H → Y i H x H' → g x (wipe σ vs) H' fun σ2 H2 => wipe σ2 vs = wipe σ vs ∧ tt σ2 H2 fun b H3 => if b = true then wi1 σ2 H3 fun J1 H4 => In2 J1 g1 tt1 te vs1 D σ2 (Pv (i + 1)) H4 else Pv (i + 1) H3) ∧ (∀ H, Pv n H → Q (.ref D) H)) :
    tLc2 wi g tt wi1 g1 tt1 te vs vs1 σ H Q := by
  delta tLc2
  refine f _ fun D hD => ?_
  obtain ⟨Pv, h0, hG, hs, hd⟩ := h D hD
  refine ⟨fun i m H => m = n - i ∧ i ≤ n ∧ Pv i H, ⟨n, by simp, Nat.zero_le _, h0⟩, ?_⟩
  rintro i m H ⟨rfl, hi, p⟩
  have q := hG i H hi p
  rcases Nat.lt_or_ge i n with lt | ge
  · exact .inr ⟨wk.goes i H lt q, Pv (i + 1), fun H' p' => ⟨n - (i + 1), by omega, rfl, lt, p'⟩, fun x H' y => hs i x H H' lt p (wk.yields i H x H' lt q y)⟩
  · obtain rfl : i = n := by omega
    exact .inl ⟨wk.stops H q, hd H p⟩
end
end Ask

namespace Ask
open PySem L2
/-- the letters of runs, one by one -/
def plainR (rs : List Run) : List Str := rs.flatMap fun r => List.replicate r.2.toNat r.1
theorem plainR_app (rs ss : List Run) : plainR (rs ++ ss) = plainR rs ++ plainR ss := List.flatMap_append ..
theorem plainR_more {rs : List Run} {i : Nat} {r : Run} (h : rs[i]? = some r) : plainR (rs.take (i + 1)) = plainR (rs.take i) ++ List.replicate r.2.toNat r.1 := by
  rw [List.take_add_one, h, plainR_app]
  unfold plainR
  simp
theorem sizeR_cons (r : Run) (rs : List Run) : sizeR (r :: rs) = r.2 + sizeR rs := by
  unfold sizeR
  rw [List.map_cons, List.sum_cons]
theorem sizeR_app (rs ss : List Run) : sizeR (rs ++ ss) = sizeR rs + sizeR ss := by
  induction rs with
  | nil => simp [sizeR]
  | cons r rs ih => rw [List.cons_append, sizeR_cons, sizeR_cons, ih, Int.add_assoc]
theorem sizeR_nonneg {rs : List Run} (h : ∀ r ∈ rs, 0 ≤ r.2) : 0 ≤ sizeR rs := by
  induction rs with
  | nil => exact Int.le_refl 0
  | cons r rs ih =>
    rw [sizeR_cons]
    have := h r (List.mem_cons_self ..)
    have := ih fun x hx => h x (List.mem_cons_of_mem _ hx)
    omega
theorem plainR_len {rs : List Run} (h : ∀ r ∈ rs, 0 ≤ r.2) : ((plainR rs).length : Int) = sizeR rs := by
  induction rs with
  | nil => rfl
  | cons r rs ih =>
    have h1 := h r (List.mem_cons_self ..)
    have h2 := ih fun x hx => h x (List.mem_cons_of_mem _ hx)
    rw [sizeR_cons]
    unfold plainR at h2 ⊢
    rw [List.flatMap_cons, List.length_append, List.length_replicate]
    omega
theorem count_le {rs : List Run} (h : ∀ r ∈ rs, 0 ≤ r.2) {r : Run} (hr : r ∈ rs) : r.2 ≤ sizeR rs := by
  induction rs with
  | nil => cases hr
  | cons a rs ih =>
    rw [sizeR_cons]
    have h1 := h a (List.mem_cons_self ..)
    have h2 := sizeR_nonneg fun x hx => h x (List.mem_cons_of_mem _ hx)
    rcases List.mem_cons.mp hr with rfl | hr
    · omega
    · have := ih (fun x hx => h x (List.mem_cons_of_mem _ hx)) hr
      omega
theorem sizeR_take {rs : List Run} (h : ∀ r ∈ rs, 0 ≤ r.2) (i : Nat) : sizeR (rs.take i) ≤ sizeR rs := by
  have e : sizeR rs = sizeR (rs.take i) + sizeR (rs.drop i) := by rw [← sizeR_app, List.take_append_drop]
  have := sizeR_nonneg (rs := rs.drop i) fun x hx => h x (List.mem_of_mem_drop hx)
  omega
section
variable {P : Program} {w : World} {K : PySem.W.Frag} {mg : Str → Option Value} {base : Heap}
def spWord (K : PySem.W.Frag) (CL CH : Addr) : Sp := fun vs H Q _ => ∃ (p : Addr) (ys : List Str) (b : Str) (rs : List Run), vs = [.ref p] ∧ HistAt K CL CH H p ys b rs ∧ (∀ r ∈ rs, 0 ≤ r.2) ∧ sizeR rs ≤ 2000 ∧ ∀ (H' : Hp) (l : Addr), Same H H' → H' l = some (.tup ((plainR rs).map V.str)) → Q (.ref l) H'
end
end Ask

namespace Ask
open PySem L2
/-! ### runs as data -/
def runD (r : Run) : PyData := .tuple [.str r.1, .int r.2]
def runsD (rs : List Run) : PyData := .tuple (rs.map runD)
theorem dp_runs {K : PySem.W.Frag} {H : Hp} : ∀ {xs : List V} {rs : List Run}, PairsV H xs rs → DpAll K H xs (rs.map runD)
  | [], [], _ => .nil
  | [], _ :: _, h => by have := h.1; simp at this
  | _ :: _, [], h => by have := h.1; simp at this
  | x :: xs, r :: rs, h => by
    obtain ⟨b, rfl, hb⟩ := h.2 0 x r rfl rfl
    refine .cons (.tup (SqT.of hb) (.cons (.str _) (.cons (.int _) .nil))) (dp_runs ⟨Nat.succ.inj h.1, fun i v r' h1 h2 => h.2 (i + 1) v r' h1 h2⟩)
theorem eqv_int1 (a b : Int) : PyData.eqv (.int a) (.int b) = decide (a = b) := by
  simp only [PyData.eqv]
  by_cases h : a = b
  · subst h; simp
  · rw [decide_eq_false h]; simpa using h
theorem eqv_run (r s : Run) : PyData.eqv (runD r) (runD s) = decide (r = s) := by
  unfold runD
  rw [PyData.eqv, PyData.eqvAll, PyData.eqvAll, PyData.eqvAll, eqv_str1, eqv_int1, Bool.and_true]
  by_cases h : r = s
  · subst h; simp
  · rw [decide_eq_false h]
    by_cases h1 : r.1 = s.1
    · have h2 : ¬ r.2 = s.2 := fun z => h (Prod.ext h1 z)
      rw [decide_eq_false h2, Bool.and_false]
    · rw [decide_eq_false h1, Bool.false_and]
theorem eqvAll_runs : ∀ rs ss : List Run, PyData.eqvAll (rs.map runD) (ss.map runD) = decide (rs = ss)
  | [], [] => by simp [PyData.eqvAll]
  | [], _ :: _ => by simp [PyData.eqvAll]
  | _ :: _, [] => by simp [PyData.eqvAll]
  | r :: rs, s :: ss => by
    rw [List.map_cons, List.map_cons, PyData.eqvAll, eqv_run, eqvAll_runs rs ss]
    by_cases h : r = s
    · subst h
      by_cases h2 : rs = ss
      · subst h2; simp
      · simp [h2]
    · simp [h]
theorem eqv_runs (rs ss : List Run) : PyData.eqv (runsD rs) (runsD ss) = decide (rs = ss) := by
  unfold runsD
  rw [PyData.eqv]
  exact eqvAll_runs rs ss
theorem lay_runs : ∀ {rs : List Run}, (∀ r ∈ rs, Asc r.1) → PyData.canLayAll0 (rs.map runD) = true ∧ PyData.depthAll (rs.map runD) ≤ 1 ∧ PyData.hasDictAll (rs.map runD) = false
  | [], _ => ⟨rfl, Nat.zero_le _, rfl⟩
  | r :: rs, h => by
    obtain ⟨h1, h2, h3⟩ := lay_runs (rs := rs) fun x hx => h x (List.mem_cons_of_mem _ hx)
    have a := asc_ok (h r (List.mem_cons_self ..))
    refine ⟨?_, ?_, ?_⟩
    · show (((PyData.canLay0 (.str r.1)) && (PyData.canLay0 (.int r.2) && true)) && PyData.canLayAll0 (rs.map runD)) = true
      rw [h1]
      show (((PyData.strOk r.1) && (true && true)) && true) = true
      rw [a] <;> rfl
    · show max (PyData.depth (runD r)) (PyData.depthAll (rs.map runD)) ≤ 1
      refine Nat.max_le.mpr ⟨?_, h2⟩
      show max 0 (max 0 0) + 1 ≤ 1
      decide
    · show ((false || (false || false)) || PyData.hasDictAll (rs.map runD)) = false
      rw [h3] <;> rfl
theorem shaped_runs {rs : List Run} (h : ∀ r ∈ rs, Asc r.1) : SeqAt.shaped (runsD rs) = true := by
  obtain ⟨h1, h2, _⟩ := lay_runs h
  exact shaped_of h1 (by show PyData.depthAll (rs.map runD) + 1 ≤ 64; omega)
/-- letters whose signs are plain ones -/
def Plain (ys : List Str) : Prop := ∀ y ∈ ys, y.length ≤ 500 ∧ Asc y
def OfL (ys : List Str) (rs : List Run) : Prop := ∀ r ∈ rs, r.1 ∈ ys
theorem OfL.asc {ys : List Str} {rs : List Run} (h : OfL ys rs) (p : Plain ys) : ∀ r ∈ rs, Asc r.1 := fun r hr => (p _ (h r hr)).2
section
variable {P : Program} {w : World} {K : PySem.W.Frag} {mg : Str → Option Value} {base : Heap}
/-! ### History.__eq__ -/
def spHEq (K : PySem.W.Frag) (CL CH : Addr) : Sp := fun vs H Q _ => ∃ (p q : Addr) (ys zs : List Str) (b c : Str) (rs ss : List Run), vs = [.ref p, .ref q] ∧ HistAt K CL CH H p ys b rs ∧ HistAt K CL CH H q zs c ss ∧ Plain ys ∧ Plain zs ∧ OfL ys rs ∧ OfL zs ss ∧
  Q (.bl (decide (ys = zs) && (decide (b = c) && decide (rs = ss)))) H
end
end Ask

namespace Ask
open PySem L2
/-- a letter or nothing, as the kind wants it -/
def SOk (ys : List Str) (k : Str) (s : V) : Prop := (k ∉ LK → ∃ y, s = .str y ∧ y ∈ ys) ∧ (k ∈ LK → s = .non)
/-- a triple that is a sentence -/
def DrOk (ys : List Str) (k x : Str) (s : V) : Prop := k ∈ KL ∧ x ∈ ys ∧ SOk ys k s ∧ ¬ (k = "alike" ∧ V.str x = s)
theorem DrOk.lone {ys : List Str} {k x : Str} (h : k ∈ LK) (hk : k ∈ KL) (hx : x ∈ ys) : DrOk ys k x .non := ⟨hk, hx, ⟨fun z => absurd h z, fun _ => rfl⟩, fun z => by cases z.2⟩
theorem DrOk.two {ys : List Str} {k x y : Str} (h : k ∉ LK) (hk : k ∈ KL) (hx : x ∈ ys) (hy : y ∈ ys) (n : ¬ (k = "alike" ∧ x = y)) : DrOk ys k x (.str y) := ⟨hk, hx, ⟨fun _ => ⟨y, rfl, hy⟩, fun z => absurd z h⟩, fun z => n ⟨z.1, V.str.inj z.2⟩⟩
theorem SOk.cases {ys : List Str} {k : Str} {s : V} (h : SOk ys k s) : s = .non ∨ ∃ y, s = .str y ∧ y ∈ ys := by
  by_cases l : k ∈ LK
  · exact .inl (h.2 l)
  · exact .inr (h.1 l)
/-- a sentence in its one form at p -/
def SenAt (K : PySem.W.Frag) (CL CS : Addr) (H : Hp) (p : Addr) (ys : List Str) (k x : Str) (s : V) : Prop := ∃ (dx m t : Addr), H p = some (.ins CS dx [("letters", .ref m), ("kind", .str k), ("first", .str x), ("second", s)]) ∧ Mde CL H m t ys
theorem SenAt.same {K : PySem.W.Frag} {CL CS p : Addr} {H H' : Hp} {ys : List Str} {k x : Str} {s : V} (h : SenAt K CL CS H p ys k x s) (e : Same H H') : SenAt K CL CS H' p ys k x s := by
  obtain ⟨dx, m, t, h1, h2⟩ := h
  exact ⟨dx, m, t, e _ _ h1, h2.same e⟩
section
variable {P : Program} {w : World} {K : PySem.W.Frag} {mg : Str → Option Value} {base : Heap}
/-! ### equality of sentences -/
def spSEq (K : PySem.W.Frag) (CL CS : Addr) : Sp := fun vs H Q _ => ∃ (p : Addr) (v : V) (ys : List Str) (k x : Str) (s : V), vs = [.ref p, v] ∧ SenAt K CL CS H p ys k x s ∧ SOk ys k s ∧ Plain ys ∧
  ((∃ (q : Addr) (zs : List Str) (k2 x2 : Str) (s2 : V), v = .ref q ∧ SenAt K CL CS H q zs k2 x2 s2 ∧ SOk zs k2 s2 ∧ Plain zs ∧ Q (.bl (decide (ys = zs ∧ k = k2 ∧ x = x2 ∧ s = s2))) H) ∨
    (∃ ty, TyX K H v ty ∧ PySem.W.kitOne K ty (.ref CS) = some false ∧ Q (.bl false) H))
abbrev s_SEq : Stmt := inClass (top 24) 3
theorem sc_SEq : FnScope ["self", "other"] ["self", "other"] (defScope s_SEq) := ⟨rfl, rfl, rfl, by decide +kernel, rfl, by decide +kernel, by decide +kernel⟩
theorem ok_seq {f fQ CL CS : Addr} {fd fdQ : FuncData} (F : Fun K "__eq__" "Sentence.__eq__" s_SEq f fd) (T : Blt mg) (hC : SnC K CS) (Y : XkC K CS) (mS : mg "Sentence" = some (.ref CS))
    (GQ : FnOk P w K mg base CX0 1 fQ fdQ ["self", "other"] (spEq2 CL)) (bQ : Binds K fdQ ["self", "other"] []) (hQ : PySem.W.findIn K (.ref CL) "__eq__" = some (some (.ref fQ))) (iQ : PySem.W.isFn K (.ref fQ) = true) :
    FnOk P w K mg base CX0 2 f fd ["self", "other"] (spSEq K CL CS) := by
  refine F.ok sc_SEq (fun vs H Q E h => ?_) (fun cdv A outer s H vs Q E hr h => ?_)
  · obtain ⟨p, v, ys, k, x, s, rfl, _⟩ := h
    rfl
  · obtain ⟨p, v, ys, k, x, s', rfl, ⟨dx, m, t, hp, hM⟩, so, py, h⟩ := h
    refine ⟨_, (pss_one (ps_ret (pe_and (pe_callB call_isi (by rfl) T.n_isinstance (by decide +kernel) (pa_cons (pv 1) (pa_cons (pe_gv (v := .ref CS) rfl ⟨_, mS, rfl⟩) pa_nil))) (pe_and (pe_cmpR (op_eqI (C := CL) (E := E0) GQ hr bQ pass0 hQ iQ) (pe_fld (pv 0) rfl) (pe_fld (pv 1) rfl) (nomark _)) (pe_and (pe_cmpR op_eq (pe_fld (pv 0) rfl) (pe_fld (pv 1) rfl) (nomark _)) (pe_and (pe_cmpR op_eq (pe_fld (pv 0) rfl) (pe_fld (pv 1) rfl) (nomark _)) (pe_one (pe_cmpR op_eq (pe_fld (pv 0) rfl) (pe_fld (pv 1) rfl) (nomark _))))))))), ?_⟩
    rcases h with ⟨q, zs, k2, x2, s2, rfl, ⟨dx', m', t', hq, hM'⟩, so2, pz, kq⟩ | ⟨ty, hty, hkt, kq⟩
    · have kk : PySem.W.kitOne K (.ref CS) (.ref CS) = some true := by
        unfold PySem.W.kitOne
        rw [if_pos (by simp)]
      refine ⟨_, rfl, _, _, _, _, true, rfl, .own CS, .base (.ins hq hC.c Y.ha Y.hn Y.ht Y.hm), kk, _, rfl, ite2 (fun _ => ?_) (fun q => absurd rfl q)⟩
      obtain ⟨d1, o1, e1, e2, e3⟩ := id hM
      obtain ⟨d2, o2, g1, g2, g3⟩ := id hM'
      refine ⟨_, rfl, p, CS, dx, _, _, rfl, hp, hC.c, hC.a1, rfl, _, rfl, q, CS, dx', _, _, rfl, hq, hC.c, hC.a1, rfl, m, m', d1, d2, _, _, rfl, rfl, e1, g1, m, t, m', t', ys, zs, rfl, hM, hM', py, pz, _, rfl, _, rfl, ?_⟩
      rw [eqv_strs]
      by_cases e1 : ys = zs
      case neg =>
        rw [decide_eq_false (fun z => e1 z.1)] at kq
        rw [decide_eq_false e1]
        exact iteF kq
      rw [decide_eq_true e1]
      refine iteT ⟨_, rfl, p, CS, dx, _, _, rfl, hp, hC.c, hC.a2, rfl, _, rfl, q, CS, dx', _, _, rfl, hq, hC.c, hC.a2, rfl, rfl, _, rfl, ?_⟩
      by_cases e2 : k = k2
      case neg =>
        rw [decide_eq_false (fun z => e2 z.2.1)] at kq
        rw [decide_eq_false (fun z => e2 (V.str.inj z))]
        exact iteF kq
      rw [decide_eq_true (congrArg V.str e2)]
      refine iteT ⟨_, rfl, p, CS, dx, _, _, rfl, hp, hC.c, hC.a3, rfl, _, rfl, q, CS, dx', _, _, rfl, hq, hC.c, hC.a3, rfl, rfl, _, rfl, ?_⟩
      by_cases e3 : x = x2
      case neg =>
        rw [decide_eq_false (fun z => e3 z.2.2.1)] at kq
        rw [decide_eq_false (fun z => e3 (V.str.inj z))]
        exact iteF kq
      rw [decide_eq_true (congrArg V.str e3)]
      have sc : scal s' s2 = true := by
        rcases so.cases with rfl | ⟨y, rfl, _⟩ <;> rcases so2.cases with rfl | ⟨z, rfl, _⟩ <;> rfl
      refine iteT ⟨_, rfl, p, CS, dx, _, _, rfl, hp, hC.c, hC.a4, rfl, _, rfl, q, CS, dx', _, _, rfl, hq, hC.c, hC.a4, rfl, sc, ?_⟩
      have e : decide (s' = s2) = decide (ys = zs ∧ k = k2 ∧ x = x2 ∧ s' = s2) := by
        by_cases q : s' = s2
        · rw [decide_eq_true q, decide_eq_true ⟨e1, e2, e3, q⟩]
        · rw [decide_eq_false q, decide_eq_false (fun z => q z.2.2.2)]
      rw [e]
      exact kq
    · exact ⟨_, rfl, _, _, _, _, false, rfl, .own CS, hty, hkt, _, rfl, iteF kq⟩
end
end Ask

namespace Ask
open PySem L2
theorem let_made {CL CB CM : Addr} {K : PySem.W.Frag} {H : Hp} {a : Addr} {ys : List Str} {Q : VK} {E : XK} (lts : Lts ys) (ha : SqL K H a (ys.map V.str) ∨ SqT K H a (ys.map V.str)) {x dx : Addr} (hx : H x = none) (hdx : H dx = none) (hne : dx ≠ x) (k : ∀ (H' : Hp) (t : Addr), Same H H' → Mde CL H' x t ys → Q .non H') :
    spLet K CL CB CM [.ref x, .ref a] (upd (upd H dx (.own x)) x (.ins CL dx [])) Q E := by
  have sm : Same H (upd (upd H dx (.own x)) x (.ins CL dx [])) := Ask.Same.made1 (Ask.Same.made1 (Same.refl H) hdx) (by rw [upd_ne hne.symm]; exact hx)
  refine ⟨x, dx, a, _, _, (fun _ => True), rfl, upd_same, seqA_same ha sm, itl_strs lts.fit, (by rw [List.length_map]; have := lts.l1; omega), fun _ _ _ e => ?_, fun _ _ e => ?_, fun H5 t o5 _ ho e1 e2 kk => ?_⟩
  · rw [lts.res] at e
    cases e
  · rw [List.length_map] at e
    have := lts.l1
    omega
  · exact k H5 t (Same.made hx hdx fun b o e hb => kk b o hb e) ⟨dx, o5, e1, e2, ho⟩
theorem DrOk.out {ys : List Str} {k x : Str} {s : V} (h : DrOk ys k x s) : outS ys (.str k) (.str x) s = 4 := by
  obtain ⟨hk, hx, so, n⟩ := h
  have b2 : (if inB LK (.str k) = true then isN s else inB ys s) = true := by
    by_cases l : k ∈ LK
    · rw [if_pos (show inB LK (.str k) = true from decide_eq_true l), so.2 l]
      rfl
    · rw [if_neg (show ¬ inB LK (.str k) = true from fun z => l (of_decide_eq_true z))]
      obtain ⟨y, rfl, hy⟩ := so.1 l
      exact decide_eq_true hy
  unfold outS
  rw [if_neg (by rw [show inB KL (.str k) = true from decide_eq_true hk]; decide), if_neg (by rw [show inB ys (.str x) = true from decide_eq_true hx]; decide), if_neg (by rw [b2]; decide), if_neg (fun z => n ⟨V.str.inj z.1, z.2⟩)]
theorem DrOk.flat {ys : List Str} {k x : Str} {s : V} (h : DrOk ys k x s) : flatV s = true := by
  rcases h.2.2.1.cases with rfl | ⟨y, rfl, _⟩ <;> rfl
theorem DrOk.mono {ys zs : List Str} {k x : Str} {s : V} (h : DrOk ys k x s) (m : ∀ y ∈ ys, y ∈ zs) : DrOk zs k x s :=
  ⟨h.1, m _ h.2.1, ⟨fun l => let ⟨y, e, hy⟩ := h.2.2.1.1 l; ⟨y, e, m _ hy⟩, h.2.2.1.2⟩, h.2.2.2⟩
/-- the one form is one, too -/
theorem DrOk.nf {ys : List Str} {k x : Str} {s : V} (h : DrOk ys k x s) : ∃ (k' x' : Str) (s' : V), nfT ys k x s = [.str k', .str x', s'] ∧ k' ∈ KL ∧ x' ∈ ys ∧ SOk ys k' s' := by
  obtain ⟨k', x', s', e, a, b, c, d⟩ := nfT_ok h.1 h.2.1 h.2.2.1.1 h.2.2.1.2
  exact ⟨k', x', s', e, a, b, c, d⟩
section
variable {P : Program} {w : World} {K : PySem.W.Frag} {mg : Str → Option Value} {base : Heap}
/-- Sentence(m, k, x, s) is made -/
theorem sen_made {CL CS CK CT CN : Addr} {H : Hp} {m t pp : Addr} {ys : List Str} {k x : Str} {s : V} {Q : VK} {E : XK} (hM : Mde CL H m t ys) (nd : ys.Nodup) (dr : DrOk ys k x s) {p dx : Addr} (hp : H p = none) (hdx : H dx = none) (hne : dx ≠ p)
    (kq : ∀ (H' : Hp) (k' x' : Str) (s' : V), Same H H' → nfT ys k x s = [.str k', .str x', s'] → SenAt K CL CS H' p ys k' x' s' → Q .non H') :
    spSen K CL CS CK CT CN [.ref p, .ref m, .str k, .str x, s] (upd (upd H dx (.own p)) p (.ins CS dx [])) Q E := by
  have sm : Same H (upd (upd H dx (.own p)) p (.ins CS dx [])) := Ask.Same.made1 (Ask.Same.made1 (Same.refl H) hdx) (by rw [upd_ne hne.symm]; exact hp)
  have o := dr.out
  refine ⟨p, dx, m, t, m, .str k, .str x, s, ys, rfl, upd_same, hM.same sm, nd, .inl rfl, .inl rfl, .inl dr.flat, fun z => absurd (o.symm.trans z) (by decide), fun j z hj H' d sd e => absurd (o.symm.trans z) (by omega), fun z => absurd (o.symm.trans z) (by decide), fun _ k0 x0 ek ex hk hx h1 h2 H' k' x' s' hp' kk enf => ?_⟩
  cases ek
  cases ex
  have s1 : Same H H' := Same.made hp hdx fun b o e hb => kk b o hb e
  exact kq H' k' x' s' s1 enf ⟨dx, m, t, hp', hM.same s1⟩
end
end Ask

namespace Ask
open PySem L2
theorem ty_pop : typeOf (.builtin "list.pop") = pure (.type "method_descriptor") := by show builtinType _ = _; rw [builtinType_eq_fast]; kernel_rfl
theorem ty_insert : typeOf (.builtin "list.insert") = pure (.type "method_descriptor") := by show builtinType _ = _; rw [builtinType_eq_fast]; kernel_rfl
theorem perm_take {α : Type} {ls : List α} {k : Nat} {y : α} (h : ls[k]? = some y) : (y :: ls.eraseIdx k).Perm ls := by
  induction ls generalizing k with
  | nil => cases h
  | cons z zs ih =>
    cases k with
    | zero =>
      cases h
      exact List.Perm.refl _
    | succ k =>
      have h : zs[k]? = some y := h
      exact (List.Perm.swap z y _).trans ((ih h).cons z)
theorem erase_map {α β : Type} (g : α → β) : ∀ (ls : List α) (k : Nat), (ls.map g).eraseIdx k = (ls.eraseIdx k).map g
  | [], _ => rfl
  | l :: ls, 0 => rfl
  | l :: ls, k + 1 => by
    show g l :: (ls.map g).eraseIdx k = g l :: (ls.eraseIdx k).map g
    rw [erase_map g ls k]
section
variable {P : Program} {w : World} {K : PySem.W.Frag} {mg : Str → Option Value} {base : Heap}
/-! ### the shuffle -/
def spShuf (K : PySem.W.Frag) : Sp := fun vs H Q _ => ∃ (p c a : Addr) (ns : List Int) (B : Nat) (ys : List Str), vs = [.ref p, .ref a] ∧ Pen c ns H p B ∧ B ≤ 500000000 ∧ SqL K H a (ys.map V.str) ∧ ys.length ≤ 100 ∧ (∀ y ∈ ys, y.length ≤ 500 ∧ Asc y) ∧
  ∀ (H' : Hp) (q : Addr) (zs : List Str), Go p c ns H H' (B + 100) → H q = none → H' q = some (.lst (zs.map V.str)) → zs.Perm ys → Q (.ref q) H'
abbrev s__law_shuffled : Stmt := top 32
theorem sc__law_shuffled : FnScope ["_law_pen_here", "_law_items", "_law_left", "_law_gained"] ["_law_pen_here", "_law_items"] (defScope s__law_shuffled) := ⟨rfl, rfl, rfl, by decide +kernel, rfl, by decide +kernel, by decide +kernel⟩
theorem ok_shuf {f fD : Addr} {fd fdD : FuncData} (F : Fun K "_law_shuffled" "_law_shuffled" s__law_shuffled f fd) (T : Blt mg)
    (GD : FnOk P w K mg base CX0 1 fD fdD ["_law_pen_here", "_law_many"] spDraw) (D : At K mg "_law_draw" fD fdD ["_law_pen_here", "_law_many"]) :
    FnOk P w K mg base CX0 2 f fd ["_law_pen_here", "_law_items"] (spShuf K) := by
  refine F.ok sc__law_shuffled (fun vs H Q E h => ?_) (fun cdv A outer s H vs Q E hr h => ?_)
  · obtain ⟨p, c, a, ns, B, ys, rfl, _⟩ := h
    rfl
  · obtain ⟨p, c, a, ns, B, ys, rfl, hpen, hB, hS, hl, hy, kq⟩ := h
    refine ⟨_, (pss_cons (ps_par (i := 2) (j := 3) rfl sc__law_shuffled.nd rfl rfl (by decide) rfl rfl (pa_cons (pe_callTy call_list_of (by rfl) T.n_list (by decide +kernel) (pa_cons (pv 1) pa_nil)) (pa_cons (pe_lst pa_nil) pa_nil)) (by rfl))
      (pss_cons (ps_while PassesOwn.never (pt_cmpR (op_neD hr.units) (pv 2) (pe_lst pa_nil) (nomark _))
        (pss_one (ps_expr (pe_bm PySem.F.plainAttrs_list PySem.F.slot_list_append PySem.F.type_list_append mt_append (pv 3) (pa_cons (pe_bm PySem.F.plainAttrs_list PySem.F.slot_list_pop ty_pop mt_popAt (pv 2) (pa_cons (pe_call GD (by exact hr) (by rfl) D.m D.k D.b .nil pass0 (pa_cons (pv 0) (pa_cons (pe_callB call_len_seq (by rfl) T.n_len (by decide +kernel) (pa_cons (pv 2) pa_nil)) pa_nil))) pa_nil)) pa_nil)))))
      (pss_one (ps_ret (pv 3))))), ?_⟩
    have z1 : (1000 : Nat) ≤ sizeLine := by decide
    refine ⟨_, rfl, a, _, rfl, .inl hS, fun L hL => ?_⟩
    have g1 := (Go.refl hpen).new (o := .lst (ys.map V.str)) hL
    have hL0 := hL
    have eL : upd H L (.lst (ys.map V.str)) L = some (.lst (ys.map V.str)) := upd_same
    generalize upd H L (.lst (ys.map V.str)) = H1 at g1 eL ⊢
    refine ⟨Nat.zero_le _, fun G hG => ⟨_, _, rfl, ?_⟩⟩
    have hG0 := g1.free hG
    have neL : L ≠ G := ne_of_none eL hG
    replace g1 := g1.new (o := .lst []) hG
    replace eL : upd H1 G (.lst []) L = some (.lst (ys.map V.str)) := by rw [upd_ne neL]; exact eL
    have eG : upd H1 G (.lst []) G = some (.lst []) := upd_same
    generalize upd H1 G (.lst []) = H2 at g1 eL eG ⊢
    refine ⟨fun m σ' H' => ∃ ls gs : List Str, m = ls.length ∧ σ' = [some (.ref p), some (.ref a), some (.ref L), some (.ref G)] ∧ Go p c ns H H' (B + gs.length) ∧ H' L = some (.lst (ls.map V.str)) ∧ H' G = some (.lst (gs.map V.str)) ∧ (gs ++ ls).Perm ys,
      ⟨_, ys, [], rfl, rfl, g1, eL, eG, List.Perm.refl _⟩, ?_⟩
    rintro m σ' H3 ⟨ls, gs, rfl, rfl, g3, e3, f3, pm⟩
    have len := pm.length_eq
    rw [List.length_append] at len
    refine ⟨_, rfl, Nat.zero_le _, fun u hu => ?_⟩
    have st := Ask.Same.made1 (o := .lst []) (Same.refl H3) hu
    replace g3 := g3.new (o := .lst []) hu
    replace e3 := st _ _ e3
    replace f3 := st _ _ f3
    have fu : upd H3 u (.lst []) u = some (.lst []) := upd_same
    generalize upd H3 u (.lst []) = H4 at g3 e3 f3 fu ⊢
    clear st hu
    have fit : ∀ y ∈ ls, y.length ≤ 500 ∧ Asc y := fun y h => hy y (pm.mem_iff.mp (List.mem_append_right _ h))
    refine ⟨.list (ls.map PyData.str), .list [], .lst (SqL.of e3) (dp_strs ls), .lst (SqL.of fu) .nil, (fit_strs fit).shapedL, by decide, _, rfl, ?_⟩
    rw [eqv_nil]
    cases ls with
    | nil =>
      show (if (!true) = true then _ else _)
      rw [if_neg (by decide)]
      rw [List.append_nil] at pm
      exact ⟨_, rfl, kq H4 G gs (g3.mono (by omega)) hG0 f3 pm⟩
    | cons l0 ls0 =>
      show (if (!false) = true then _ else _)
      rw [if_pos (by decide)]
      refine ⟨_, fun σ' H' h => h, ?_⟩
      refine ⟨_, rfl, .inl ⟨rfl, _, SqL.of f3⟩, _, rfl, .inl ⟨rfl, _, SqL.of e3⟩, _, rfl, _, rfl, L, _, rfl, .inl (SqL.of e3), p, c, ns, _, _, rfl, g3.pen, by omega, by rw [List.length_map, List.length_cons]; omega, by rw [List.length_map]; omega, fun H5 r g5 r0 r1 => ?_⟩
      rw [List.length_map] at r1
      have e5 := g5.lst e3
      have f5 := g5.lst f3
      replace g5 := g3.step g5
      obtain ⟨k, rfl⟩ : ∃ k : Nat, r = (k : Int) := ⟨r.toNat, by omega⟩
      have hk : k < (l0 :: ls0).length := by omega
      have lc : (l0 :: ls0).length = ls0.length + 1 := rfl
      obtain ⟨y, hy'⟩ : ∃ y, (l0 :: ls0)[k]? = some y := ⟨_, List.getElem?_eq_getElem hk⟩
      refine ⟨L, _, (k : Int), k, .str y, rfl, rfl, e5, by omega, by omega, ?_, by rw [List.getElem?_map, hy']; rfl, ?_⟩
      · unfold seqIndex?
        rw [List.length_map]
        simp only [if_neg (show ¬ ((k : Int) < 0) by omega)]
        rw [if_pos (by simp; omega)]
        rfl
      refine ⟨G, _, _, rfl, rfl, by rw [upd_ne neL.symm]; exact f5, by rw [List.length_map]; omega, ?_⟩
      have pm2 := perm_take hy'
      have lz : ((l0 :: ls0).eraseIdx k).length = ls0.length := by rw [List.length_eraseIdx, if_pos hk]; rfl
      refine ⟨_, ?_, (l0 :: ls0).eraseIdx k, gs ++ [y], rfl, rfl, ((g5.mut hL0).mut hG0).mono (by rw [List.length_append]; show B + gs.length + 1 ≤ B + (gs.length + 1); omega), ?_, ?_, ?_⟩
      · rw [lz]
        exact Nat.lt_succ_self _
      · rw [upd_ne neL, upd_same, erase_map]
      · rw [upd_same, List.map_append]
        rfl
      · rw [List.append_assoc]
        exact ((List.Perm.append_left gs pm2)).trans pm
end
end Ask

/-! text * int(test) -/
namespace Ask
open PySem L2 PySem.Spec PyProof.Rows
theorem op_mulB {X : Cx} : OpR X (binaryOp .Mult) (fun x y H Q => ∃ (z : Str) (b : Bool), x = .str z ∧ y = .int (if b = true then 1 else 0) ∧ z.length ≤ 1000 ∧ Q (.str (if b = true then z else Str.empty)) H) := by
  intro pins s σ H x y v u Q I rx ry h
  obtain ⟨z, b, rfl, rfl, z1, q⟩ := h
  obtain ⟨t, rfl⟩ := rx
  obtain ⟨t2, rfl⟩ := ry
  cases b with
  | false => exact P.mul_str_none (by decide) (by decide) ⟨.str Str.empty, H, I.tok _, ⟨_, rfl⟩, q⟩
  | true =>
    refine P.mul_str (by decide) (fun _ e => by simp at e) (fun _ e => by simp at e) ?_
    rw [if_neg (by decide), if_pos (by simp)]
    exact ⟨.str z, H, I, ⟨_, rfl⟩, q⟩
theorem app_empty (z : Str) : z ++ Str.empty = z := by
  have h : (z ++ Str.empty).cps = z.cps := by
    rw [Str.cps_append]
    show z.cps ++ #[] = z.cps
    rw [Array.append_empty]
  cases z
  cases hz : (_ : Str) ++ Str.empty
  rw [hz] at h
  cases h
  rfl
theorem empty_app (z : Str) : Str.empty ++ z = z := by
  have h : (Str.empty ++ z).cps = z.cps := by
    rw [Str.cps_append]
    show #[] ++ z.cps = z.cps
    rw [Array.empty_append]
  cases z
  cases hz : Str.empty ++ (_ : Str)
  rw [hz] at h
  cases h
  rfl
end Ask

namespace Ask
open PySem L2
/-- the word of turn i, ahead of its last look -/
def preW (hd stem : Str) (at_ fr st i : Nat) : Str := if at_ = 0 then (⟨#[sgN small fr st i]⟩ : Str) ++ stem else ((hd ++ cutS stem none (some ((at_ - 1 : Nat) : Int))) ++ (⟨#[sgN signs fr st i]⟩ : Str)) ++ cutS stem (some ((at_ - 1 : Nat) : Int)) none
def wrdW (hd stem : Str) (at_ fr st i : Nat) : Str := fixS (preW hd stem at_ fr st i)
theorem one_list (c : Nat) : (⟨#[c]⟩ : Str).cps.toList = [c] := rfl
theorem preW_len {hd stem : Str} {at_ fr st i : Nat} (h1 : hd.length = 1) (h2 : stem.length ≤ 9) : (preW hd stem at_ fr st i).length ≤ 23 := by
  unfold preW
  split
  · rw [Str.length_append]
    show 1 + stem.length ≤ 23
    omega
  · have a := cutS_length stem none (some ((at_ - 1 : Nat) : Int))
    have b := cutS_length stem (some ((at_ - 1 : Nat) : Int)) none
    rw [Str.length_append, Str.length_append, Str.length_append]
    show hd.length + _ + 1 + _ ≤ 23
    omega
theorem wrdW_ok {hd stem : Str} {at_ fr st c : Nat} (hc : hd = ⟨#[c]⟩) (hs : c ∈ smallL) (hl : stem.length ≤ 9) (hg : ∀ d ∈ stem.cps.toList, d ∈ signsL) (ha : at_ ≤ stem.length + 1) (hst : st ∈ [1, 5, 7, 11, 17, 19, 23, 25]) : Wds (wrdW hd stem at_ fr st) 26 := by
  have len := tl_len stem
  have a97 : (97 : Nat) ∈ smallL := by decide +kernel
  by_cases h0 : at_ = 0
  · refine wds_mk (S := 97 :: stem.cps.toList) (a := 0) (sg := sgN small fr st) (T := fun _ => stem.cps.toList) (Nat.zero_le _) (by rw [List.length_cons]; omega) (fun d hd => ?_) (fun d hd => ?_) (fun k hk => ?_) (fun _ k hk => ?_) (fun j k hj hk q => ?_) (fun k => ⟨hg, by rw [List.length_cons]; omega⟩) (fun k hk => ⟨preW hd stem at_ fr st k, rfl, ?_⟩)
    · rcases List.mem_cons.mp hd with rfl | hd
      · exact small_signs _ a97
      · exact hg d hd
    · cases hd
      exact a97
    · exact small_signs _ (sgN_mem small fr st k (by rw [small_len]; decide))
    · exact sgN_mem small fr st k (by rw [small_len]; decide)
    · have e1 := sgN_at small fr st j (by rw [small_len]; decide)
      have e2 := sgN_at small fr st k (by rw [small_len]; decide)
      rw [q] at e1
      exact step_inj (.inl small_len) hst hj hk (nodup_at small_nodup e1 e2)
    · unfold preW
      rw [if_pos h0, app_list, one_list]
      rfl
  · refine wds_mk (S := c :: stem.cps.toList) (a := at_) (sg := sgN signs fr st) (T := fun _ => stem.cps.toList.drop (at_ - 1)) (by rw [List.length_cons]; omega) (by rw [List.length_cons]; omega) (fun d hd => ?_) (fun d hd => ?_) (fun k hk => ?_) (fun q => absurd q h0) (fun j k hj hk q => ?_) (fun k => ⟨fun d hd => hg d (List.mem_of_mem_drop hd), by rw [List.length_drop, List.length_cons]; omega⟩) (fun k hk => ⟨preW hd stem at_ fr st k, rfl, ?_⟩)
    · rcases List.mem_cons.mp hd with rfl | hd
      · exact small_signs _ hs
      · exact hg d hd
    · cases hd
      exact hs
    · exact sgN_mem signs fr st k (by rw [signs_len]; decide)
    · have e1 := sgN_at signs fr st j (by rw [signs_len]; decide)
      have e2 := sgN_at signs fr st k (by rw [signs_len]; decide)
      rw [q] at e1
      exact step_inj (.inr signs_len) hst hj hk (nodup_at signs_nodup e1 e2)
    · unfold preW
      rw [if_neg h0, app_list, app_list, app_list, one_list, cut_pre, cut_suf, hc, one_list]
      obtain ⟨n, rfl⟩ : ∃ n, at_ = n + 1 := ⟨at_ - 1, by omega⟩
      rw [Nat.add_sub_cancel, List.take_succ_cons]
      show ([c] ++ stem.cps.toList.take n ++ [sgN signs fr st k]) ++ stem.cps.toList.drop n = (c :: stem.cps.toList.take n) ++ sgN signs fr st k :: stem.cps.toList.drop n
      simp
theorem fix_cat (z : Str) : z ++ (if decide (z = newW ∨ z = foundW) = true then ("0" : Str) else Str.empty) = fixS z := by
  unfold fixS
  by_cases h : z = newW ∨ z = foundW
  · rw [if_pos (decide_eq_true h), if_pos h]
  · rw [if_neg (fun q => h (of_decide_eq_true q)), if_neg h, app_empty]
theorem in_two (z : Str) : inV (.str z) [.str "new", .str "found"] = decide (z = newW ∨ z = foundW) := by
  unfold inV
  simp only [List.any_cons, List.any_nil, Bool.or_false, eq_V]
  by_cases c1 : z = newW
  · rw [decide_eq_true (show (Str.ofString "new") = z from c1.symm), decide_eq_true (show z = newW ∨ z = foundW from .inl c1)]
    rfl
  · by_cases c2 : z = foundW
    · rw [decide_eq_true (show (Str.ofString "found") = z from c2.symm), decide_eq_true (show z = newW ∨ z = foundW from .inr c2), Bool.or_true]
    · rw [decide_eq_false (show ¬ (Str.ofString "new") = z from fun q => c1 q.symm), decide_eq_false (show ¬ (Str.ofString "found") = z from fun q => c2 q.symm), decide_eq_false (show ¬ (z = newW ∨ z = foundW) from fun q => q.elim c1 c2)]
      rfl
end Ask

namespace Ask
open PySem L2
def nWo : List Str := ["_law_pen_here", "_law_many", "_law_small", "_law_signs", "_law_first", "_law_step", "_law_head", "_law_stem", "_law_at", "_law_gained", "_law_k", "_law_word", "_law_sign"]
section
variable {P : Program} {w : World} {K : PySem.W.Frag} {mg : Str → Option Value} {base : Heap}
def spWords : Sp := fun vs H Q _ => ∃ (p c : Addr) (ns : List Int) (m : Int) (B : Nat), vs = [.ref p, .int m] ∧ Pen c ns H p B ∧ B ≤ 400000000 ∧ 0 ≤ m ∧ m ≤ 26 ∧
  ∀ (H' : Hp) (q : Addr) (ys : List Str), Go p c ns H H' (B + 150) → H q = none → H' q = some (.lst (ys.map V.str)) → (ys.length : Int) = m → ys.Nodup → (∀ y ∈ ys, goodW y = true) → Q (.ref q) H'
abbrev s__law_words : Stmt := top 33
theorem sc__law_words : FnScope nWo ["_law_pen_here", "_law_many"] (defScope s__law_words) := ⟨rfl, rfl, rfl, by decide +kernel, rfl, by decide +kernel, by decide +kernel⟩
theorem ok_words {f fD fP fS : Addr} {fd fdD fdP fdS : FuncData} (F : Fun K "_law_words" "_law_words" s__law_words f fd) (T : Blt mg)
    (GD : FnOk P w K mg base CX0 1 fD fdD ["_law_pen_here", "_law_many"] spDraw) (D : At K mg "_law_draw" fD fdD ["_law_pen_here", "_law_many"])
    (GP : FnOk P w K mg base CX0 2 fP fdP ["_law_pen_here", "_law_items"] (spPick K)) (C : At K mg "_law_pick" fP fdP ["_law_pen_here", "_law_items"])
    (GS : FnOk P w K mg base CX0 2 fS fdS ["_law_pen_here", "_law_items"] (spShuf K)) (AS : At K mg "_law_shuffled" fS fdS ["_law_pen_here", "_law_items"]) :
    FnOk P w K mg base CX0 3 f fd ["_law_pen_here", "_law_many"] spWords := by
  refine F.ok sc__law_words (fun vs H Q E h => ?_) (fun cdv A outer s H vs Q E hr h => ?_)
  · obtain ⟨p, c, ns, m, B, rfl, _⟩ := h
    rfl
  · obtain ⟨p, c, ns, m, B, rfl, hpen, hB, hm0, hm1, k⟩ := h
    have h1 : Room 1 _ := hr.mono (by decide)
    have h2 : Room 2 _ := hr.mono (by decide)
    refine ⟨_, (pss_cons (ps_asg (pe_tup (pa_cons pe_str (pa_cons pe_str pa_nil))) (pg_tup rfl (pgs_cons (pg_name (i := 2) sc__law_words.nd rfl (Or.inl rfl)) (pgs_cons (pg_name (i := 3) sc__law_words.nd rfl (Or.inr rfl)) pgs_nil))))
      (pss_cons (ps_par (i := 4) (j := 5) rfl sc__law_words.nd rfl rfl (by decide) rfl rfl (pa_cons (pe_call GD (by exact h1) (by rfl) D.m D.k D.b .nil pass0 (pa_cons (pv 0) (pa_cons pe_int pa_nil))) (pa_cons (pe_call GP (by exact h2) (by rfl) C.m C.k C.b .nil pass0 (pa_cons (pv 0) (pa_cons (pe_lst (pa_cons pe_int (pa_cons pe_int (pa_cons pe_int (pa_cons pe_int pa_nil))))) pa_nil))) pa_nil)) (by rfl))
      (pss_cons (ps_set (i := 6) sc__law_words.nd rfl (Or.inl rfl) (pe_call GP (by exact h2) (by rfl) C.m C.k C.b .nil pass0 (pa_cons (pv 0) (pa_cons (pv 2) pa_nil))))
      (pss_cons (ps_set (i := 7) sc__law_words.nd rfl (Or.inl rfl) (pe_join pe_str (pe_lc (own := [("_law_k", 10)]) rfl sc__law_words.nd (pi_range1 rfl T.n_range (pa_cons (pe_call GD (by exact h1) (by rfl) D.m D.k D.b .nil pass0 (pa_cons (pv 0) (pa_cons pe_int pa_nil))) pa_nil)) (blkOk_by (N := nWo) (sc := defScope s__law_words) (by decide +kernel)) (fun _ _ _ _ _ => (pg_name (i := 10) sc__law_words.nd rfl (Or.inl rfl))) (fun _ _ _ _ _ => pts_nil) (fun _ _ _ _ _ => (pe_call GP (by exact h2) (by rfl) C.m C.k C.b .nil pass0 (pa_cons (pv 0) (pa_cons (pv 3) pa_nil)))))))
      (pss_cons (ps_set (i := 8) sc__law_words.nd rfl (Or.inl rfl) (pe_call GD (by exact h1) (by rfl) D.m D.k D.b .nil pass0 (pa_cons (pv 0) (pa_cons (pe_op op_add (pe_callB call_len_str (by rfl) T.n_len (by decide +kernel) (pa_cons (pv 7) pa_nil)) pe_int) pa_nil))))
      (pss_cons (ps_set (i := 9) sc__law_words.nd rfl (Or.inl rfl) (pe_lst pa_nil))
      (pss_cons (ps_for PassesOwn.never rfl (pi_range1 rfl T.n_range (pa_cons (pv 1) pa_nil)) (pg_name (i := 10) sc__law_words.nd rfl (Or.inl rfl)) (pss_cons (ps_set (i := 11) sc__law_words.nd rfl (Or.inl rfl) (pe_op op_add_str (pe_ix ix_str (pv 2) (pe_op op_mod (pe_callTy call_int1 (by rfl) T.n_int (by decide +kernel) (pa_cons (pe_op op_add (pv 4) (pe_op op_mul (pv 5) (pv 10))) pa_nil)) pe_int) (fun _ _ => rfl)) (pv 7)))
      (pss_cons (ps_if (pt_cmpR op_gt (pv 8) pe_int (nomark _)) (pss_cons (ps_set (i := 12) sc__law_words.nd rfl (Or.inl rfl) (pe_ix ix_str (pv 3) (pe_op op_mod (pe_callTy call_int1 (by rfl) T.n_int (by decide +kernel) (pa_cons (pe_op op_add (pv 4) (pe_op op_mul (pv 5) (pv 10))) pa_nil)) pe_int) (fun _ _ => rfl)))
      (pss_one (ps_set (i := 11) sc__law_words.nd rfl (Or.inl rfl) (pe_op op_add_str (pe_op op_add_str (pe_op op_add_str (pv 6) (pe_slice sl_str (pv 7) po_none (po_some (pe_op op_sub (pv 8) pe_int)))) (pv 12)) (pe_slice sl_str (pv 7) (po_some (pe_op op_sub (pv 8) pe_int)) po_none))))) pss_nil)
      (pss_one (ps_expr (pe_bm PySem.F.plainAttrs_list PySem.F.slot_list_append PySem.F.type_list_append mt_append (pv 9) (pa_cons (pe_op op_add_str (pv 11) (pe_op op_mulB pe_str (pe_callTy call_int1 (by rfl) T.n_int (by decide +kernel) (pa_cons (pe_cmpR op_in_seq (pv 11) (pe_lst (pa_cons pe_str (pa_cons pe_str pa_nil))) rfl) pa_nil)))) pa_nil)))))))
      (pss_one (ps_ret (pe_call GS (by exact h2) (by rfl) AS.m AS.k AS.b .nil pass0 (pa_cons (pv 0) (pa_cons (pv 9) pa_nil)))))))))))), ?_⟩
    have z1 : (1000 : Nat) ≤ sizeLine := by decide
    have g0 := Go.refl hpen
    -- small, signs
    refine ⟨by show 2 ≤ sizeLine; decide, fun t1 ht1 => ⟨t1, _, rfl, SqT.of upd_same, rfl, _, _, rfl, _, _, rfl, rfl, ?_⟩⟩
    have g1 := g0.new (o := .tup [.str small, .str signs]) ht1
    change Go p c ns H (upd H t1 (.tup [.str "abcdefghijklmnopqrstuvwxyz", .str "abcdefghijklmnopqrstuvwxyz0123456789"])) B at g1
    generalize upd H t1 _ = H1 at g1 ⊢
    -- first, step
    refine ⟨_, rfl, p, c, ns, 36, B, rfl, g1.pen, by omega, by decide, by decide, fun H2 fr g2 f0 f1 => ?_⟩
    replace g2 := g1.step g2
    refine ⟨_, rfl, by show 4 ≤ sizeLine; decide, fun o ho => ⟨p, c, ns, _, _, rfl, (g2.new ho).pen, by omega, .inl ⟨o, _, rfl, SqL.of upd_same, by show 0 < 4; decide, by show 4 ≤ 1000; decide, fun H3 v g3 hv => ⟨_, _, rfl, ?_⟩⟩⟩⟩
    replace g3 := (g2.new ho).step g3
    obtain ⟨st, rfl, hst⟩ : ∃ s : Nat, v = .int (s : Int) ∧ s ∈ [1, 5, 7, 11, 17, 19, 23, 25] := by
      simp only [List.mem_cons, List.not_mem_nil, or_false] at hv
      rcases hv with rfl | rfl | rfl | rfl
      · exact ⟨1, rfl, by decide⟩
      · exact ⟨5, rfl, by decide⟩
      · exact ⟨7, rfl, by decide⟩
      · exact ⟨11, rfl, by decide⟩
    have st1 : st ≤ 25 := by
      simp only [List.mem_cons, List.not_mem_nil, or_false] at hst
      omega
    obtain ⟨frN, rfl⟩ : ∃ n : Nat, fr = (n : Int) := ⟨fr.toNat, by omega⟩
    clear hv g2 g1 ho
    -- head
    refine ⟨_, rfl, _, rfl, p, c, ns, _, _, rfl, g3.pen, by omega, .inr ⟨small, rfl, by rw [small_len]; decide, by rw [small_len]; decide, fun H4 hc g4 hhc => ?_⟩⟩
    replace g4 := (g3.step g4).mono (B := B + 5) (by omega)
    obtain ⟨hd, ehd⟩ : ∃ hd : Str, hd = ⟨#[hc]⟩ := ⟨_, rfl⟩
    have hd1 : hd.length = 1 := by rw [ehd]; rfl
    rw [← ehd]
    clear g3
    -- stem
    refine ⟨⟨_, rfl⟩, _, rfl, p, c, ns, 10, _, rfl, g4.pen, by omega, by decide, by decide, fun H5 r g5 r0 r1 => ⟨_, rfl, by omega, by omega, fun L hL => ?_⟩⟩
    replace g5 := (g4.step g5).mono (B := B + 6) (by omega)
    have hL0 := g5.free hL
    refine lc_range (lo := 0) (n := r.toNat) (SgL signsL p c ns H L (B + 6)) ⟨[], g5.new hL, upd_same, rfl, by simp⟩ (fun i H6 hi hs => ?_) (fun H6 hs => ?_)
    · obtain ⟨cs, g6, _⟩ := id hs
      refine ⟨rfl, ?_⟩
      exact ⟨_, rfl, _, rfl, p, c, ns, _, B + 6 + i, rfl, g6.pen, by omega, .inr ⟨signs, rfl, by rw [signs_len]; decide, by rw [signs_len]; decide, fun H7 j g7 hj => hs.next hL0 g7 (by omega) hj⟩⟩
    obtain ⟨cs, g6, hL6, hl6, h16⟩ := hs
    have one1 : ∀ (cs : List Nat) (y : Str), y ∈ (cs.map fun c => (⟨#[c]⟩ : Str)) → y.length = 1 := fun cs y hy => by
      obtain ⟨c', _, rfl⟩ := List.mem_map.mp hy
      rfl
    refine ⟨_, L, cs.map fun c => (⟨#[c]⟩ : Str), rfl, rfl, .inl (SqL.of hL6), (by rw [len_sum1 _ (one1 cs), List.length_map]; show cs.length + cs.length * 0 ≤ _; omega), ?_⟩
    have hst2 := joinT_ones cs
    generalize Txt.join (Str.ofString "") (cs.map fun c => (⟨#[c]⟩ : Str)) = stem at hst2 ⊢
    have hstem : stem.length ≤ 9 := by rw [← tl_len, hst2, hl6]; omega
    have hsg : ∀ d ∈ stem.cps.toList, d ∈ signsL := by rw [hst2]; exact h16
    replace g6 : Go p c ns H H6 (B + 20) := g6.mono (by omega)
    clear g5 g4 hL6 hl6 h16 hst2
    -- at
    refine ⟨_, rfl, _, rfl, stem, rfl, by omega, _, _, rfl, rfl, p, c, ns, _, _, rfl, g6.pen, by omega, by omega, by omega, fun H7 at_ g7 a0 a1 => ?_⟩
    replace g7 := g6.step g7
    obtain ⟨atN, rfl⟩ : ∃ n : Nat, at_ = (n : Int) := ⟨at_.toNat, by omega⟩
    have W : Wds (wrdW hd stem atN frN st) 26 := wrdW_ok ehd hhc hstem hsg (by omega) hst
    -- gained
    refine ⟨Nat.zero_le _, fun q hq => ?_⟩
    have hq0 := g7.free hq
    have g8 : Go p c ns H (upd H7 q (.lst [])) (B + 21) := (g7.new hq).mono (by omega)
    have hq1 : upd H7 q (.lst []) q = some (.lst (((List.range 0).map (wrdW hd stem atN frN st)).map V.str)) := upd_same
    generalize upd H7 q (.lst []) = H8 at g8 hq1 ⊢
    clear g7 g6 hq
    refine ⟨_, rfl, m, rfl, by omega, by omega, for_range (lo := 0) (n := m.toNat) (fun i σ' H' => ∃ (o1 o2 o3 : Option V),
      σ' = [some (.ref p), some (.int m), some (.str small), some (.str signs), some (.int (frN : Int)), some (.int (st : Int)), some (.str hd), some (.str stem), some (.int (atN : Int)), some (.ref q), o1, o2, o3] ∧
      Go p c ns H H' (B + 21) ∧ H' q = some (.lst (((List.range i).map (wrdW hd stem atN frN st)).map V.str)))
      ⟨none, none, none, rfl, g8, hq1⟩ ?_ ?_⟩
    · rintro i σ' H9 hi ⟨o1, o2, o3, rfl, g, hL⟩
      have hi' : i < 26 := by omega
      have idx : ∀ n : Nat, ((frN : Int) + (st : Int) * (0 + (i : Int))) % ((n : Nat) : Int) = (((frN + st * i) % n : Nat) : Int) := fun n => by
        rw [Int.zero_add, Int.natCast_emod, Int.natCast_add, Int.natCast_mul]
      have eS : small.length = 26 := small_len
      have eG : signs.length = 36 := signs_len
      -- word, the first way
      refine ⟨_, rfl, _, rfl, _, rfl, _, rfl, _, _, rfl, rfl, mul_small (by omega), _, _, rfl, rfl, .inl ⟨_, rfl, _, _, rfl, rfl, (by show (0 : Int) < _; decide), small, _, sgN small frN st i, rfl, rfl, by omega, at_by (by rw [eS]; exact idx 26) (sgN_at small frN st i (by omega)), _, rfl, _, _, rfl, rfl, (by show 1 + stem.length ≤ sizeLine; omega), ?_⟩⟩
      try dsimp only
      refine seqIf_mid (fun σ' H' => ∃ o3 : Option V, σ' = [some (.ref p), some (.int m), some (.str small), some (.str signs), some (.int (frN : Int)), some (.int (st : Int)), some (.str hd), some (.str stem), some (.int (atN : Int)), some (.ref q), some (.int (0 + (i : Int))), some (.str (preW hd stem atN frN st i)), o3] ∧ H' = H9) (fun N hN => ?_) (fun σ' H' hm => ?_)
      · refine ⟨_, rfl, _, _, rfl, rfl, _, rfl, ite2 (fun h => ?_) (fun h => ?_)⟩
        · have h : (0 : Int) < (atN : Int) := of_decide_eq_true h
          have hne : ¬ atN = 0 := by omega
          have ea : (atN : Int) - 1 = ((atN - 1 : Nat) : Int) := by omega
          have cl1 := cutS_length stem none (some ((atN - 1 : Nat) : Int))
          have cl2 := cutS_length stem (some ((atN - 1 : Nat) : Int)) none
          refine ⟨_, rfl, _, rfl, _, rfl, _, rfl, _, _, rfl, rfl, mul_small (by omega), _, _, rfl, rfl, .inl ⟨_, rfl, _, _, rfl, rfl, (by show (0 : Int) < _; decide), signs, _, sgN signs frN st i, rfl, rfl, by omega, at_by (by rw [eG]; exact idx 36) (sgN_at signs frN st i (by omega)), ?_⟩⟩
          refine ⟨_, rfl, _, rfl, _, rfl, _, _, rfl, rfl, _, rfl, stem, rfl, by omega, ?_⟩
          rw [ea]
          refine ⟨_, _, rfl, rfl, (by rw [hd1]; omega), _, rfl, _, _, rfl, rfl, (by rw [Str.length_append, hd1]; show 1 + _ + 1 ≤ sizeLine; omega), _, rfl, _, rfl, _, _, rfl, rfl, _, rfl, stem, rfl, by omega, ?_⟩
          rw [ea]
          refine ⟨_, _, rfl, rfl, (by rw [Str.length_append, Str.length_append, hd1]; show 1 + _ + 1 + _ ≤ sizeLine; omega), hN _ _ ⟨some (.str ⟨#[sgN signs frN st i]⟩), ?_, rfl⟩⟩
          unfold preW
          rw [if_neg hne]
          rfl
        · have h : ¬ (0 : Int) < (atN : Int) := fun q => h (decide_eq_true q)
          have h0 : atN = 0 := by omega
          refine hN _ _ ⟨o3, ?_, rfl⟩
          unfold preW
          rw [if_pos h0]
          rfl
      obtain ⟨o4, rfl, rfl⟩ := hm
      have pl := preW_len (fr := frN) (st := st) (i := i) (at_ := atN) hd1 hstem
      have ef : wrdW hd stem atN frN st i = fixS (preW hd stem atN frN st i) := rfl
      generalize preW hd stem atN frN st i = pw at pl ef ⊢
      refine ⟨_, rfl, .inl ⟨rfl, _, SqL.of hL⟩, _, rfl, _, rfl, by show 2 ≤ sizeLine; decide, fun t ht => ?_⟩
      have gt := g.new (o := .lst [.str "new", .str "found"]) ht
      have hLt : upd H' t (.lst [.str "new", .str "found"]) q = some (.lst (((List.range i).map (wrdW hd stem atN frN st)).map V.str)) := by rw [upd_ne (ne_of_none hL ht)]; exact hL
      have ft : upd H' t (.lst [.str "new", .str "found"]) t = some (.lst [.str "new", .str "found"]) := upd_same
      generalize upd H' t (.lst [.str "new", .str "found"]) = Ha at gt hLt ft ⊢
      refine ⟨t, _, rfl, .inl (SqL.of ft), rfl, rfl, .inr ⟨_, rfl, ?_⟩⟩
      rw [in_two]
      refine ⟨_, _, rfl, rfl, by decide, _, _, rfl, rfl, ?_, q, _, _, rfl, rfl, hLt, by rw [List.length_map, List.length_map, List.length_range]; omega, ?_⟩
      · show pw.length + (if decide (pw = newW ∨ pw = foundW) = true then ("0" : Str) else Str.empty).length ≤ sizeLine
        split
        · show pw.length + 1 ≤ sizeLine
          omega
        · show pw.length + 0 ≤ sizeLine
          omega
      refine ⟨_, _, _, rfl, gt.mut hq0, ?_⟩
      simp only [Bool.false_eq_true, ↓reduceIte]
      rw [upd_same, fix_cat, ← ef, List.range_succ, List.map_append, List.map_append]
      rfl
    · rintro σ' H9 ⟨o1, o2, o3, rfl, g, hL⟩
      have good : ∀ y ∈ (List.range m.toNat).map (wrdW hd stem atN frN st), goodW y = true := fun y hy => by
        obtain ⟨j, hj, rfl⟩ := List.mem_map.mp hy
        rw [List.mem_range] at hj
        exact W.good j (by omega)
      have nd : ((List.range m.toNat).map (wrdW hd stem atN frN st)).Nodup := by
        refine List.pairwise_map.mpr (List.Pairwise.imp_of_mem ?_ (List.nodup_range (n := m.toNat)))
        intro a b ha hb ne q
        rw [List.mem_range] at ha hb
        exact ne (W.inj a b (by omega) (by omega) q)
      have len : ((List.range m.toNat).map (wrdW hd stem atN frN st)).length = m.toNat := by rw [List.length_map, List.length_range]
      generalize (List.range m.toNat).map (wrdW hd stem atN frN st) = ws at hL good nd len
      refine ⟨_, rfl, _, rfl, p, c, q, ns, _, ws, rfl, g.pen, by omega, SqL.of hL, by omega, fun y hy => ⟨by have := good_len (good y hy); omega, good_asc (good y hy)⟩, fun Hb q2 zs gb hq2 hz pm => ?_⟩
      exact k Hb q2 zs ((g.step gb).mono (by omega)) (g.free hq2) hz (by rw [pm.length_eq, len]; omega) (pm.nodup_iff.mpr nd) fun y hy => good y (pm.mem_iff.mp hy)
end
end Ask

namespace Ask
open PySem L2
theorem word_mark {z : Str} : wordS (tildeS ++ z) = z := by
  refine str_ext ?_
  show (wordOf (tildeS ++ z).cps.toList).toArray.toList = _
  have e2 : (tildeS ++ z).cps.toList = 126 :: z.cps.toList := by
    rw [app_list]
    have : tildeS.cps.toList = [126] := by decide +kernel
    rw [this]
    rfl
  rw [e2]
  rfl
/-- marked letters gs of the words ys -/
structure Mks (gs ys : List Str) : Prop where
  wd : gs.map wordS = ys
  ok : ∀ g ∈ gs, isLs g = true ∧ g.length ≤ 13 ∧ Asc g
theorem mark_ok {y : Str} (h : goodW y = true) (b : Bool) : wordS ((if b = true then ("~" : Str) else Str.empty) ++ y) = y ∧ isLs ((if b = true then ("~" : Str) else Str.empty) ++ y) = true ∧ ((if b = true then ("~" : Str) else Str.empty) ++ y).length ≤ 13 ∧ Asc ((if b = true then ("~" : Str) else Str.empty) ++ y) := by
  have gl := good_len h
  cases b with
  | false =>
    rw [if_neg (by decide), empty_app]
    exact ⟨word_same (good_no h), good_is h, by omega, good_asc h⟩
  | true =>
    rw [if_pos rfl]
    refine ⟨word_mark, tilde_is h, ?_, Asc.app (.lit (by decide)) (good_asc h)⟩
    rw [Str.length_append]
    show 1 + y.length ≤ 13
    omega
theorem Mks.nd {gs ys : List Str} (h : Mks gs ys) (nd : ys.Nodup) : gs.Nodup := by
  have := h.wd ▸ nd
  exact List.Pairwise.of_map wordS (fun a b ne e => ne (congrArg wordS e)) this
theorem Mks.more {gs ys : List Str} {g y : Str} (h : Mks gs ys) (e : wordS g = y) (k : isLs g = true ∧ g.length ≤ 13 ∧ Asc g) : Mks (gs ++ [g]) (ys ++ [y]) := by
  refine ⟨by rw [List.map_append, h.wd, ← e]; rfl, fun x hx => ?_⟩
  rcases List.mem_append.mp hx with hx | hx
  · exact h.ok x hx
  · rw [List.mem_singleton] at hx
    subst hx
    exact k
/-- the first one marked, put in anywhere -/
theorem Mks.insert {gs ys : List Str} {g : Str} (h : Mks gs ys) (nd : ys.Nodup) (good : ∀ y ∈ ys, goodW y = true) (hg : g ∈ gs) (hn : g.cps.toList.head? ≠ some 126) : (tildeS ++ g) ∉ gs ∧ isLs (tildeS ++ g) = true ∧ (tildeS ++ g).length ≤ 13 ∧ Asc (tildeS ++ g) := by
  have w := word_same hn
  have gy : goodW g = true := by
    refine good g ?_
    rw [← h.wd]
    exact List.mem_map.mpr ⟨g, hg, w⟩
  refine ⟨fun hz => ?_, tilde_is gy, ?_, Asc.app (.lit (by decide)) (good_asc gy)⟩
  · have nm : (gs.map wordS).Nodup := by rw [h.wd]; exact nd
    obtain ⟨i, hi⟩ := List.mem_iff_getElem?.mp hz
    obtain ⟨j, hj⟩ := List.mem_iff_getElem?.mp hg
    have e1 : (gs.map wordS)[i]? = some g := by rw [List.getElem?_map, hi]; exact congrArg some word_mark
    have e2 : (gs.map wordS)[j]? = some g := by rw [List.getElem?_map, hj]; exact congrArg some w
    have ij : i = j := (List.getElem?_inj (List.getElem?_eq_some_iff.mp e1).1 nm).mp (e1.trans e2.symm)
    subst ij
    rw [hi] at hj
    have q : tildeS ++ g = g := Option.some.inj hj
    have l := congrArg Str.length q
    rw [Str.length_append] at l
    have : tildeS.length = 1 := by decide +kernel
    omega
  · have gl := good_len gy
    rw [Str.length_append]
    show 1 + g.length ≤ 13
    omega
def nMr : List Str := ["_law_pen_here", "_law_words_here", "_law_gained", "_law_word"]
section
variable {P : Program} {w : World} {K : PySem.W.Frag} {mg : Str → Option Value} {base : Heap}
def spMarked (K : PySem.W.Frag) : Sp := fun vs H Q _ => ∃ (p c a : Addr) (ns : List Int) (B : Nat) (ys : List Str), vs = [.ref p, .ref a] ∧ Pen c ns H p B ∧ B ≤ 450000000 ∧ SqL K H a (ys.map V.str) ∧ 1 ≤ ys.length ∧ ys.length ≤ 10 ∧ ys.Nodup ∧ (∀ y ∈ ys, goodW y = true) ∧
  ∀ (H' : Hp) (q : Addr) (zs : List Str), Go p c ns H H' (B + 50) → H q = none → H' q = some (.lst (zs.map V.str)) → Lts zs → zs.length ≤ ys.length + 1 → Q (.ref q) H'
abbrev s__law_marked : Stmt := top 34
theorem sc__law_marked : FnScope nMr ["_law_pen_here", "_law_words_here"] (defScope s__law_marked) := ⟨rfl, rfl, rfl, by decide +kernel, rfl, by decide +kernel, by decide +kernel⟩
theorem ok_marked {f fD : Addr} {fd fdD : FuncData} (F : Fun K "_law_marked" "_law_marked" s__law_marked f fd) (T : Blt mg)
    (GD : FnOk P w K mg base CX0 1 fD fdD ["_law_pen_here", "_law_many"] spDraw) (D : At K mg "_law_draw" fD fdD ["_law_pen_here", "_law_many"]) :
    FnOk P w K mg base CX0 2 f fd ["_law_pen_here", "_law_words_here"] (spMarked K) := by
  refine F.ok sc__law_marked (fun vs H Q E h => ?_) (fun cdv A outer s H vs Q E hr h => ?_)
  · obtain ⟨p, c, a, ns, B, ys, rfl, _⟩ := h
    rfl
  · obtain ⟨p, c, a, ns, B, ys, rfl, hpen, hB, hS, l1, l2, nd, good, k⟩ := h
    refine ⟨_, (pss_cons (ps_setLc (i := 2) (own := [("_law_word", 3)]) rfl sc__law_marked.nd rfl rfl (sw_true rfl rfl rfl (by decide +kernel)) (pi_list (pv 1)) (blkOk_by (N := nMr) (sc := defScope s__law_marked) (by decide +kernel)) (fun _ _ _ _ _ => (pg_name (i := 3) sc__law_marked.nd rfl (Or.inl rfl))) (fun _ _ _ _ _ => pts_nil) (fun _ _ _ _ _ => (pe_op op_add_str (pe_op op_mulB pe_str (pe_callTy call_int1 (by rfl) T.n_int (by decide +kernel) (pa_cons (pe_cmpR op_eq (pe_call GD (by exact hr) (by rfl) D.m D.k D.b .nil pass0 (pa_cons (pv 0) (pa_cons pe_int pa_nil))) pe_int (nomark _)) pa_nil))) (pv 3))))
      (pss_cons (ps_if (PW.pt (pw_and (pt_cmpR op_eq (pe_call GD (by exact hr) (by rfl) D.m D.k D.b .nil pass0 (pa_cons (pv 0) (pa_cons pe_int pa_nil))) pe_int (nomark _)) (pw_and (pt_cmpR op_lt (pe_callB call_len_seq (by rfl) T.n_len (by decide +kernel) (pa_cons (pv 2) pa_nil)) pe_int (nomark _)) (pw_and1 (pt_cmpR op_ne (pe_ix ix_str (pe_ix ix_list (pv 2) pe_int (fun _ _ => rfl)) pe_int (fun _ _ => rfl)) pe_str (nomark _)))))) (pss_one (ps_expr (pe_bm PySem.F.plainAttrs_list PySem.F.slot_list_insert ty_insert mt_insert (pv 2) (pa_cons (pe_call GD (by exact hr) (by rfl) D.m D.k D.b .nil pass0 (pa_cons (pv 0) (pa_cons (pe_op op_add (pe_callB call_len_seq (by rfl) T.n_len (by decide +kernel) (pa_cons (pv 2) pa_nil)) pe_int) pa_nil))) (pa_cons (pe_op op_add_str pe_str (pe_ix ix_list (pv 2) pe_int (fun _ _ => rfl))) pa_nil))))) pss_nil)
      (pss_one (ps_ret (pv 2))))), ?_⟩
    have z1 : (1000 : Nat) ≤ sizeLine := by decide
    refine ⟨_, rfl, a, rfl, ⟨_, hS⟩, fun L hL => ?_⟩
    refine lc_it (walk_list (xs := ys.map V.str)) (fun i H' => ∃ gs, Go p c ns H H' (B + i) ∧ H' L = some (.lst (gs.map V.str)) ∧ Mks gs (ys.take i)) ⟨[], (Go.refl hpen).new hL, upd_same, rfl, fun g hg => by cases hg⟩ (fun i H' _ hh => by obtain ⟨gs, g, _⟩ := hh; exact g.seq hS) ?_ ?_
    · rintro i v H2 H3 hi ⟨gs, g2, eL, mk⟩ ⟨rfl, hv⟩
      rw [List.getElem?_map] at hv
      rw [List.length_map] at hi
      cases hz : ys[i]? with
      | none => rw [hz] at hv; cases hv
      | some y =>
        rw [hz] at hv
        cases hv
        have gy := good y (List.mem_of_getElem? hz)
        have gl := good_len gy
        have lg : gs.length = i := by
          have := congrArg List.length mk.wd
          rw [List.length_map, List.length_take] at this
          omega
        refine ⟨rfl, _, rfl, p, c, ns, 4, _, rfl, g2.pen, by omega, by decide, by decide, fun H4 r g4 r0 r1 => ?_⟩
        refine ⟨rfl, .inr ⟨_, rfl, _, _, rfl, rfl, by decide, _, rfl, _, _, rfl, rfl, ?_, ?_⟩⟩
        · have := (mark_ok gy (decide (V.int r = V.int 0))).2.2.1
          rw [Str.length_append] at this
          omega
        obtain ⟨m1, m2⟩ := mark_ok gy (decide (V.int r = V.int 0))
        have eL4 := g4.lst eL
        refine ⟨_, eL4, by rw [List.length_map, lg]; omega, gs ++ [(if decide (V.int r = V.int 0) = true then ("~" : Str) else Str.empty) ++ y], ((g2.step g4).mut hL).mono (by omega), ?_, ?_⟩
        · rw [upd_same, List.map_append]
          rfl
        · have e : ys.take (i + 1) = ys.take i ++ [y] := by rw [List.take_add_one, hz]; rfl
          rw [e]
          exact mk.more m1 m2
    · rintro H2 ⟨gs, g2, eL, mk⟩
      rw [List.length_map, List.take_length] at mk
      rw [List.length_map] at g2
      have lg : gs.length = ys.length := by
        have := congrArg List.length mk.wd
        rw [List.length_map] at this
        exact this
      have lts : Lts gs := ⟨mk.nd nd, mk.ok, by omega, by omega⟩
      try dsimp only
      refine seqIf_mid (fun σ' H' => ∃ zs, σ' = [some (.ref p), some (.ref a), some (.ref L), none] ∧ Go p c ns H H' (B + 20) ∧ H' L = some (.lst (zs.map V.str)) ∧ Lts zs ∧ zs.length ≤ ys.length + 1) (fun N hN => ?_) (fun σ' H' hm => ?_)
      · refine ⟨_, rfl, p, c, ns, 3, _, rfl, g2.pen, by omega, by decide, by decide, fun H3 r g3 r0 r1 => ?_⟩
        have eL3 := g3.lst eL
        replace g3 := (g2.step g3).mono (B := B + 12) (by omega)
        have same : N [some (.ref p), some (.ref a), some (.ref L), none] H3 := hN _ _ ⟨gs, rfl, g3.mono (by omega), eL3, lts, by omega⟩
        refine ⟨rfl, _, rfl, ite2 (fun _ => ?_) (fun _ => same)⟩
        refine ⟨_, rfl, L, _, rfl, .inl (SqL.of eL3), _, _, rfl, rfl, _, rfl, ite2 (fun _ => ?_) (fun _ => same)⟩
        obtain ⟨g0, hg0⟩ : ∃ g0, gs[0]? = some g0 := ⟨_, List.getElem?_eq_getElem (by omega)⟩
        have m0 := List.mem_of_getElem? hg0
        have at0 : atI (gs.map V.str) 0 = some (.str g0) := at_by (j := 0) rfl (by rw [List.getElem?_map, hg0]; rfl)
        obtain ⟨k1, k2, k3⟩ := mk.ok g0 m0
        obtain ⟨c0, hc0⟩ : ∃ c0, g0.cps.toList[0]? = some c0 := by
          have y1 : goodW (wordS g0) = true := k1
          have y2 := (short_len (good_short y1)).1
          have y3 : (wordS g0).cps.toList = wordOf g0.cps.toList := rfl
          cases q : g0.cps.toList with
          | nil =>
            rw [y3, q] at y2
            exact absurd y2 (by decide)
          | cons a b => exact ⟨a, rfl⟩
        refine ⟨_, rfl, L, _, _, _, rfl, rfl, SqL.of eL3, at0, g0, _, c0, rfl, rfl, by omega, at_by (j := 0) rfl hc0, rfl, _, rfl, ite2 (fun hne => ?_) (fun _ => same)⟩
        have hne : ¬ (V.str ⟨#[c0]⟩ = V.str ("~" : Str)) := fun q => by
          rw [decide_eq_true q] at hne
          cases hne
        have nh : g0.cps.toList.head? ≠ some 126 := fun q => by
          cases ql : g0.cps.toList with
          | nil => rw [ql] at hc0; cases hc0
          | cons a b =>
            rw [ql] at hc0 q
            cases hc0
            cases q
            exact hne (congrArg V.str (by decide +kernel))
        obtain ⟨i1, i2⟩ := mk.insert nd good m0 nh
        refine ⟨_, rfl, .inl ⟨rfl, _, SqL.of eL3⟩, _, rfl, _, rfl, L, _, rfl, .inl (SqL.of eL3), _, _, rfl, rfl, p, c, ns, _, _, rfl, g3.pen, by omega, by omega, by rw [List.length_map]; omega, fun H4 r4 g4 q0 q1 => ?_⟩
        rw [List.length_map] at q1
        have eL4 := g4.lst eL3
        refine ⟨_, rfl, L, _, _, _, rfl, rfl, SqL.of eL4, at0, _, _, rfl, rfl, by show 1 + g0.length ≤ sizeLine; omega, ?_⟩
        refine ⟨L, _, _, _, rfl, rfl, eL4, by rw [List.length_map]; omega, q0, by omega, hN _ _ ⟨gs.take r4.toNat ++ [tildeS ++ g0] ++ gs.drop r4.toNat, rfl, ((g3.step g4).mut hL).mono (by omega), ?_, ?_, ?_⟩⟩
        · rw [upd_same, List.map_append, List.map_append, List.map_take, List.map_drop]
          rfl
        · have pm : (gs.take r4.toNat ++ [tildeS ++ g0] ++ gs.drop r4.toNat).Perm ((tildeS ++ g0) :: gs) := by
            have e : gs = gs.take r4.toNat ++ gs.drop r4.toNat := (List.take_append_drop _ _).symm
            rw [List.append_assoc]
            refine (List.perm_middle (a := tildeS ++ g0) (l₁ := gs.take r4.toNat) (l₂ := gs.drop r4.toNat)).trans ?_
            rw [← e]
          refine ⟨pm.nodup_iff.mpr (List.nodup_cons.mpr ⟨i1, mk.nd nd⟩), fun y hy => ?_, ?_, ?_⟩
          · rcases List.mem_cons.mp (pm.mem_iff.mp hy) with rfl | hy
            · exact i2
            · exact mk.ok y hy
          · rw [pm.length_eq, List.length_cons]
            omega
          · rw [pm.length_eq, List.length_cons]
            omega
        · rw [List.length_append, List.length_append, List.length_take, List.length_drop]
          show _ + 1 + _ ≤ _
          omega
      · obtain ⟨zs, rfl, g3, e3, lz, lz2⟩ := hm
        exact ⟨_, rfl, k H' L zs (g3.mono (by omega)) hL e3 lz lz2⟩
end
end Ask

/-! comprehensions with three for: one clause inside another, each by its own walk -/
namespace Ask
open PySem L2 PySem.Spec PyProof.Rows
/-- clause i's turn, where a further clause (its source nx) comes behind -/
def Outer (e : Expr) (i : Nat) (tg src : Expr) (fs : List Expr) (nx : Expr) : Prop := ∀ (it acc : Value) (env : Env), compTurn e i it acc env = (do
  standAt src.pos; match ← pyNext it with
    | none => pure (.done .next)
    | some u => letOwnedTupleGo tg it u; assign tg env u; let mut go := true; for f in fs do { if go then { go ← isTrue f env (eval f env) } }
                if go then { let y ← eval nx env; standAt nx.pos; let y ← foldedSetIterable nx env y; let _ ← runOwn (.compStart e (i + 1) (← holding [y] (pyIter y)) acc env) env }
                again (.compLoop e i it acc env))
/-- the last clause's turn -/
def Inner (e : Expr) (i : Nat) (tg src : Expr) (fs : List Expr) (elt : Expr) : Prop := ∀ (it acc : Value) (env : Env), compTurn e i it acc env = (do
  standAt src.pos; match ← pyNext it with
    | none => pure (.done .next)
    | some u => letOwnedTupleGo tg it u; assign tg env u; let mut go := true; for f in fs do { if go then { go ← isTrue f env (eval f env) } }
                if go then (do let _ ← call (.builtin "list.append") [acc, ← eval elt env])
                again (.compLoop e i it acc env))
section
variable {elt t0 i0 t1 i1 t2 i2 : Expr} {f0 f1 f2 : List Expr} {sc : Scope} {ps : Pos}
theorem outer30 : Outer (.ListComp elt [⟨t0, i0, f0, 0⟩, ⟨t1, i1, f1, 0⟩, ⟨t2, i2, f2, 0⟩] sc ps) 0 t0 i0 f0 i1 := fun _ _ _ => by rfl
theorem outer31 : Outer (.ListComp elt [⟨t0, i0, f0, 0⟩, ⟨t1, i1, f1, 0⟩, ⟨t2, i2, f2, 0⟩] sc ps) 1 t1 i1 f1 i2 := fun _ _ _ => by rfl
theorem inner32 : Inner (.ListComp elt [⟨t0, i0, f0, 0⟩, ⟨t1, i1, f1, 0⟩, ⟨t2, i2, f2, 0⟩] sc ps) 2 t2 i2 f2 elt := fun _ _ _ => by rfl
end
/-- a later clause's start -/
theorem start_any {P : Program} {w : World} {A : Around} {R : Result → Shared → Prop} {s : Shared} {elt : Expr} {gs : List Comprehension} {sc : Scope} {ps : Pos} {i : Nat} {g : Comprehension} {it acc : Value} {env : Env} (hg : gs[i]? = some g) (hn : (g.is_async != 0) = false)
    (a : codeAny (model P w) A (.compLoop (.ListComp elt gs sc ps) i it acc env) R s) (b : wpAny (model P w) A (pyIter it) (fun v z => codeAny (model P w) A (.compLoop (.ListComp elt gs sc ps) i v acc env) R z) (fun _ _ => False) s) : codeAny (model P w) A (.compStart (.ListComp elt gs sc ps) i it acc env) R s := by
  refine codeAny_of_tree ?_
  show wpAny _ _ ((compStart (.ListComp elt gs sc ps) i it acc env).onRaise (fun x => do noteFrame x env; standAt theWindowsPlace)) _ _ s
  refine wpAny_notedAt ?_
  have key : compStart (.ListComp elt gs sc ps) i it acc env = (do
      if (← ask).params.followText "comprehension-iter-twice" then return ← again (.compLoop (.ListComp elt gs sc ps) i it acc env)
      rule "comprehension.iter-twice"; standAt g.iter.pos; again (.compLoop (.ListComp elt gs sc ps) i (← pyIter it) acc env)) := by
    unfold compStart
    have q : (clausesOf (.ListComp elt gs sc ps))[i]? = some g := hg
    rw [q]
    simp only [Option.elim, hn]
    rfl
  rw [key]
  show wpAny _ _ (ask >>= _) _ _ s
  refine wpAny_bind (wpAny_askSetting (wpAny_ite ?_))
  split
  · first
      | exact wpAny_bind (wpAny_pure (wpAny_pure ⟨rfl, a⟩))
      | exact wpAny_pure ⟨rfl, a⟩
  · refine wpAny_bind (wpAny_rule (wpAny_bind (wpAny_standAt (wpAny_bind (wpAny_mono b (fun v z hv => wpAny_pure ⟨rfl, hv⟩) fun _ _ f => f.elim)))))
/-- behind a loop: slots σ, the same pins, M of the heap -/
def Back (B : Cx) (p : List (Addr × Obj)) (σ : L2.St) (M : Hp → Prop) (r : Result) (z : Shared) : Prop := match r with
  | .ok _ => ∃ J, Inv B p σ J z ∧ M J
  | .error _ => False
/-- the turns of one clause from H to M; tl: what a turn does behind its tests -/
def Turns (J : It) (g : TG) (tt : TT) (tl : L2.St → Hp → (Hp → Prop) → Prop) (vs : List Nat) (σ : L2.St) (M : Hp → Prop) (H : Hp) : Prop := ∃ W : Nat → Nat → Hp → Prop, (∃ k, W 0 k H) ∧ ∀ j k G, W j k G →
  (J.stop j G ∧ M G) ∨ (J.go j G ∧ ∃ N : Hp → Prop, (∀ G', N G' → ∃ k', k' < k ∧ W (j + 1) k' G') ∧ ∀ x G', J.yld j G x G' → g x (wipe σ vs) G' fun σ2 G2 => wipe σ2 vs = wipe σ vs ∧ tt σ2 G2 fun b G3 => if b = true then tl σ2 G3 N else N G3)
section
variable {B : Cx} {elt : Expr} {gs : List Comprehension} {sc : Scope} {ps : Pos} {i : Nat} {tg src nx : Expr} {fs : List Expr} {g : TG} {tt : TT} {tl : L2.St → Hp → (Hp → Prop) → Prop} {vs ws : List Nat} {J : It} {fp : List Addr} {it : Addr} {acc : Value} {tn : Nat → Heap → Prop} {p : List (Addr × Obj)} {σ : L2.St} {H : Hp} {s : Shared} {M : Hp → Prop}
theorem noX {α : Type} {m : Sem α} {Q : α → Shared → Prop} (hx : B.xe = fun _ _ => False) (h : wpAny (model B.prog B.w) B.A m Q B.xe s) : wpAny (model B.prog B.w) B.A m Q (fun _ _ => False) s := by
  rw [hx] at h
  exact h
/-- a clause's loop that holds another one -/
theorem loop_outer (hx : B.xe = fun _ _ => False) (hc : B.calm = true) (O : Outer (.ListComp elt gs sc ps) i tg src fs nx) (hs : ∀ y, foldedSetIterable nx B.env y = pure y) (hw : ∀ k ∈ ws, k ∈ vs)
    (deed : ∀ (p : List (Addr × Obj)) (σ : L2.St) (H : Hp) (z : Shared) (M : Hp → Prop), Inv B p σ H z → tl σ H M → wpAny (model B.prog B.w) B.A (eval nx B.env) (fun y z1 => wpAny (model B.prog B.w) B.A (pyIter y) (fun v z2 =>
      codeAny (model B.prog B.w) B.A (.compStart (.ListComp elt gs sc ps) (i + 1) v acc B.env) (Back B p (wipe σ ws) M) z2) (fun _ _ => False) z1) (fun _ _ => False) z)
    (T : Turn B.prog B.w B.K tg J fp it tn) (pg : PG B tg g) (pt : PTs B fs tt) (hf : ∀ b ∈ fp, FpOk B p H b) (w : Turns J g tt tl vs σ M H) (I : Inv B p σ H s) (st : tn 0 s.heap) :
    codeAny (model B.prog B.w) B.A (.compLoop (.ListComp elt gs sc ps) i (.ref it) acc B.env) (Back B p (wipe σ vs) M) s := by
  obtain ⟨W, ⟨k0, a0⟩, way⟩ := w
  refine codeAny_loop rfl (fun k z => ∃ j G, Inv B p (wipe σ vs) G z ∧ tn j z.heap ∧ (∀ b ∈ fp, G b = none) ∧ W j k G) (fun k z hz => ?_) k0 ⟨0, H, I.weak (wipe_length _ _) (fun j v q => (wipe_some q).1), st, fun b hb => (hf b hb).1, a0⟩
  obtain ⟨j, G, I5, st5, n5, a5⟩ := hz
  show wpAny _ B.A ((compTurn (.ListComp elt gs sc ps) i (.ref it) acc B.env).onRaise (fun x => do noteFrame x B.env; theTreesLotGoes x)) _ _ z
  refine wpAny_noted ?_
  rw [O]
  have fr : ∀ {G' : Hp}, (∀ b ∈ fp, G' b = none) → ∀ b ∈ fp, FpOk B p G' b := fun hn b hb => ⟨hn b hb, (hf b hb).2⟩
  refine wpAny_bind (wpAny_standAt (wpAny_bind ?_))
  rcases way j k G a5 with ⟨stop, m⟩ | ⟨go, N, hN, step⟩
  · refine thnF (T.done B rfl rfl rfl hc j p z (wipe σ vs) G (fun _ _ => False) I5 (fr n5) st5 stop) fun r z1 hr => ?_
    obtain ⟨rfl, I6⟩ := hr
    exact wpAny_pure ⟨G, I6, m⟩
  refine thnF (T.item B rfl rfl rfl hc j p z (wipe σ vs) G (fun _ _ => False) I5 (fr n5) st5 go) fun r z1 hr => ?_
  obtain ⟨u, rfl, h6⟩ := hr
  refine wpAny_bind (thnF h6 fun _ z2 h7 => wpAny_bind ?_)
  obtain ⟨x, G7, I7, r7, y7, st7, n7⟩ := h7
  have I7p := I7.pinned (fr n7) (T.obj _ _ st7)
  refine thnF (noX hx (pg.run _ z2 _ G7 x u _ I7p r7 (step x G7 y7))) fun _ z3 h8 => wpAny_bind ?_
  obtain ⟨σ8, G8, I8, hw8, q8⟩ := h8
  refine thnF (noX hx (pt.run _ z3 σ8 G8 _ I8 q8)) fun b z4 h9 => ?_
  obtain ⟨G9, I9, q9⟩ := h9
  have fin : ∀ {τ : L2.St} {z' : Shared} {G' : Hp}, Inv B (p ++ pinsAt fp z2.heap) τ G' z' → (wipe σ vs).length = τ.length → (∀ (j : Nat) v, (wipe σ vs)[j]? = some (some v) → τ[j]? = some (some v)) → N G' →
      ∃ k', k' < k ∧ ∃ j G, Inv B p (wipe σ vs) G z' ∧ tn j z'.heap ∧ (∀ b ∈ fp, G b = none) ∧ W j k' G := fun {τ z' G'} I' hl hk nx => by
    obtain ⟨k', lt, a'⟩ := hN G' nx
    have still : ∀ b ∈ fp, ∀ o, z2.heap.get? b = some o → z'.heap.get? b = some o ∧ G' b = none := fun b hb o q => by
      have y := I'.pin (b, o) (List.mem_append_right _ (List.mem_append_right _ (mem_pinsAt hb q)))
      exact ⟨y.1, y.2.1⟩
    refine ⟨k', lt, j + 1, G', (I'.unpinned (pins := p)).weak hl hk, T.keep _ _ _ st7 fun b hb o q => (still b hb o q).1, fun b hb => ?_, a'⟩
    obtain ⟨o, q, _⟩ := T.obj _ _ st7 b hb
    exact (still b hb o q).2
  have l8 : (wipe σ vs).length = σ8.length := by rw [← hw8, wipe_length]
  have w8 : ∀ (j : Nat) v, (wipe σ vs)[j]? = some (some v) → σ8[j]? = some (some v) := fun j v q => by
    rw [← hw8] at q
    exact (wipe_some q).1
  cases b with
  | false => exact wpAny_pure ⟨rfl, fin I9 l8 w8 q9⟩
  | true =>
    refine wpAny_bind (thnF (deed _ σ8 G9 z4 N I9 q9) fun y z5 h10 => ?_)
    refine wpAny_bind (wpAny_standAt (wpAny_bind (wpAny_of_eq (hs y) (wpAny_bind (wpAny_holding (thnF h10 fun v z6 h11 => ?_))))))
    refine wpAny_bind (wpAny_runOwn ?_)
    rw [Around.mark_none]
    refine codeAny_mono h11 fun r z7 hr => ?_
    cases r with
    | error er => exact hr.elim
    | ok f =>
      obtain ⟨G12, I12, nx⟩ := hr
      have w9 : ∀ (j : Nat) v, (wipe σ vs)[j]? = some (some v) → (wipe σ8 ws)[j]? = some (some v) := fun j v q => by
        rw [← hw8] at q
        obtain ⟨q1, q2⟩ := wipe_some q
        rw [wipe_out fun y => q2 (hw j y)]
        exact q1
      have done := fin I12 (l8.trans (wipe_length σ8 ws).symm) w9 nx
      first
        | exact wpAny_pure ⟨rfl, done⟩
        | exact wpAny_bind (wpAny_pure (wpAny_pure ⟨rfl, done⟩))
/-- the innermost loop -/
theorem loop_inner (hx : B.xe = fun _ _ => False) (hc : B.calm = true) (O : Inner (.ListComp elt gs sc ps) i tg src fs elt) (hw : ∀ k ∈ ws, k ∈ vs)
    (deed : ∀ (p : List (Addr × Obj)) (σ : L2.St) (H : Hp) (z : Shared) (M : Hp → Prop), Inv B p σ H z → tl σ H M → wpAny (model B.prog B.w) B.A (eval elt B.env) (fun y z1 => wpAny (model B.prog B.w) B.A (call (.builtin "list.append") [acc, y]) (fun _ z2 =>
      ∃ J, Inv B p σ J z2 ∧ M J) (fun _ _ => False) z1) (fun _ _ => False) z)
    (T : Turn B.prog B.w B.K tg J fp it tn) (pg : PG B tg g) (pt : PTs B fs tt) (hf : ∀ b ∈ fp, FpOk B p H b) (w : Turns J g tt tl vs σ M H) (I : Inv B p σ H s) (st : tn 0 s.heap) :
    codeAny (model B.prog B.w) B.A (.compLoop (.ListComp elt gs sc ps) i (.ref it) acc B.env) (Back B p (wipe σ vs) M) s := by
  obtain ⟨W, ⟨k0, a0⟩, way⟩ := w
  refine codeAny_loop rfl (fun k z => ∃ j G, Inv B p (wipe σ vs) G z ∧ tn j z.heap ∧ (∀ b ∈ fp, G b = none) ∧ W j k G) (fun k z hz => ?_) k0 ⟨0, H, I.weak (wipe_length _ _) (fun j v q => (wipe_some q).1), st, fun b hb => (hf b hb).1, a0⟩
  obtain ⟨j, G, I5, st5, n5, a5⟩ := hz
  show wpAny _ B.A ((compTurn (.ListComp elt gs sc ps) i (.ref it) acc B.env).onRaise (fun x => do noteFrame x B.env; theTreesLotGoes x)) _ _ z
  refine wpAny_noted ?_
  rw [O]
  have fr : ∀ {G' : Hp}, (∀ b ∈ fp, G' b = none) → ∀ b ∈ fp, FpOk B p G' b := fun hn b hb => ⟨hn b hb, (hf b hb).2⟩
  refine wpAny_bind (wpAny_standAt (wpAny_bind ?_))
  rcases way j k G a5 with ⟨stop, m⟩ | ⟨go, N, hN, step⟩
  · refine thnF (T.done B rfl rfl rfl hc j p z (wipe σ vs) G (fun _ _ => False) I5 (fr n5) st5 stop) fun r z1 hr => ?_
    obtain ⟨rfl, I6⟩ := hr
    exact wpAny_pure ⟨G, I6, m⟩
  refine thnF (T.item B rfl rfl rfl hc j p z (wipe σ vs) G (fun _ _ => False) I5 (fr n5) st5 go) fun r z1 hr => ?_
  obtain ⟨u, rfl, h6⟩ := hr
  refine wpAny_bind (thnF h6 fun _ z2 h7 => wpAny_bind ?_)
  obtain ⟨x, G7, I7, r7, y7, st7, n7⟩ := h7
  have I7p := I7.pinned (fr n7) (T.obj _ _ st7)
  refine thnF (noX hx (pg.run _ z2 _ G7 x u _ I7p r7 (step x G7 y7))) fun _ z3 h8 => wpAny_bind ?_
  obtain ⟨σ8, G8, I8, hw8, q8⟩ := h8
  refine thnF (noX hx (pt.run _ z3 σ8 G8 _ I8 q8)) fun b z4 h9 => ?_
  obtain ⟨G9, I9, q9⟩ := h9
  have fin : ∀ {τ : L2.St} {z' : Shared} {G' : Hp}, Inv B (p ++ pinsAt fp z2.heap) τ G' z' → (wipe σ vs).length = τ.length → (∀ (j : Nat) v, (wipe σ vs)[j]? = some (some v) → τ[j]? = some (some v)) → N G' →
      ∃ k', k' < k ∧ ∃ j G, Inv B p (wipe σ vs) G z' ∧ tn j z'.heap ∧ (∀ b ∈ fp, G b = none) ∧ W j k' G := fun {τ z' G'} I' hl hk nx => by
    obtain ⟨k', lt, a'⟩ := hN G' nx
    have still : ∀ b ∈ fp, ∀ o, z2.heap.get? b = some o → z'.heap.get? b = some o ∧ G' b = none := fun b hb o q => by
      have y := I'.pin (b, o) (List.mem_append_right _ (List.mem_append_right _ (mem_pinsAt hb q)))
      exact ⟨y.1, y.2.1⟩
    refine ⟨k', lt, j + 1, G', (I'.unpinned (pins := p)).weak hl hk, T.keep _ _ _ st7 fun b hb o q => (still b hb o q).1, fun b hb => ?_, a'⟩
    obtain ⟨o, q, _⟩ := T.obj _ _ st7 b hb
    exact (still b hb o q).2
  have l8 : (wipe σ vs).length = σ8.length := by rw [← hw8, wipe_length]
  have w8 : ∀ (j : Nat) v, (wipe σ vs)[j]? = some (some v) → σ8[j]? = some (some v) := fun j v q => by
    rw [← hw8] at q
    exact (wipe_some q).1
  cases b with
  | false => exact wpAny_pure ⟨rfl, fin I9 l8 w8 q9⟩
  | true =>
    refine wpAny_bind (wpAny_bind (thnF (deed _ σ8 G9 z4 N I9 q9) fun y z5 h10 => wpAny_bind (thnF h10 fun _ z6 hr => ?_)))
    obtain ⟨G12, I12, nx⟩ := hr
    exact wpAny_pure (wpAny_pure ⟨rfl, fin I12 l8 w8 nx⟩)
end
end Ask

namespace Ask
open PySem L2 PySem.Spec PyProof.Rows
theorem wipe_get (σ : L2.St) (i : Nat) : ∀ vs : List Nat, (wipe σ vs)[i]? = if i ∈ vs then (σ[i]?).map (fun _ => none) else σ[i]?
  | [] => by simp [wipe]
  | v :: vs => by
    unfold wipe
    have ih := wipe_get σ i vs
    by_cases q : v = i
    · subst q
      rw [if_pos (List.mem_cons_self ..)]
      by_cases lt : v < (wipe σ vs).length
      · rw [List.getElem?_set_self lt]
        rw [wipe_length] at lt
        rw [List.getElem?_eq_getElem lt]
        rfl
      · rw [List.getElem?_eq_none (by rw [List.length_set]; omega)]
        rw [wipe_length] at lt
        rw [List.getElem?_eq_none (by omega)]
        rfl
    · rw [List.getElem?_set_ne q, ih]
      by_cases m : i ∈ vs
      · rw [if_pos m, if_pos (List.mem_cons_of_mem _ m)]
      · rw [if_neg m, if_neg (fun z => (List.mem_cons.mp z).elim (fun z => q z.symm) m)]
theorem wipe_twice (σ : L2.St) (vs : List Nat) : wipe (wipe σ vs) vs = wipe σ vs := by
  refine List.ext_getElem? fun i => ?_
  rw [wipe_get, wipe_get]
  by_cases m : i ∈ vs
  · rw [if_pos m, if_pos m, Option.map_map]
    rfl
  · rw [if_neg m, if_neg m]
def tl3 (D : Addr) (te : TE) : L2.St → Hp → (Hp → Prop) → Prop := fun σ H M => te σ H fun y G => ∃ xs, G D = some (.lst xs) ∧ xs.length < sizeLine ∧ M (upd G D (.lst (xs ++ [y])))
def tl2 (wi : TI) (g : TG) (tt : TT) (vs : List Nat) (tl : L2.St → Hp → (Hp → Prop) → Prop) : L2.St → Hp → (Hp → Prop) → Prop := fun σ H M => wi σ H fun J G => Turns J g tt tl vs σ M G
/-- [elt for .. for .. for ..] -/
def tLc3 (wi : TI) (g : TG) (tt : TT) (wi1 : TI) (g1 : TG) (tt1 : TT) (wi2 : TI) (g2 : TG) (tt2 : TT) (te : TE) (vs vs1 vs2 : List Nat) : TE := fun σ H Q => wi σ H fun J G => ∀ D, G D = none → Turns J g tt (tl2 wi1 g1 tt1 vs1 (tl2 wi2 g2 tt2 vs2 (tl3 D te))) vs σ (fun G => Q (.ref D) G) (upd G D (.lst []))
section
variable {X : Cx} {pins : List (Addr × Obj)} {s : Shared} {σ : L2.St} {H : Hp} {Q : VK} {elt t0 i0 t1 i1 t2 i2 : Expr} {f0 f1 f2 : List Expr} {sc : Scope} {own : List (Str × Nat)} {vs1 vs2 : List Nat} {ps ps' : Pos} {wi wi1 wi2 : TI} {g g1 g2 : TG} {tt tt1 tt2 : TT} {te : TE}
/-- the block of a comprehension that starts somewhere -/
abbrev Bl (X : Cx) (sc : Scope) (z : Shared) (G : Hp) (C : Addr) (cl : List (Str × Addr)) (fp : List Addr) : Cx := X.blk z G sc (compEnvC sc cl C X.env) fp
theorem lc3_core {use : Option (Value → Sem Unit)} {Qf : Value → Shared → Prop} (hc : X.calm = true) (hN : X.N.Nodup) (I : Inv X pins σ H s) (hi : PI X t0 i0 wi) (ok : BlkOk X.N X.env.scope sc own) (h12 : ∀ k ∈ vs1, k ∈ own.map (·.2)) (h23 : ∀ k ∈ vs2, k ∈ vs1)
    (hg : ∀ z G C cl fp, PG (Bl X sc z G C cl fp) t0 g) (ht : ∀ z G C cl fp, PTs (Bl X sc z G C cl fp) f0 tt)
    (hi1 : ∀ z G C cl fp, PI (Bl X sc z G C cl fp) t1 i1 wi1) (hg1 : ∀ z G C cl fp, PG (Bl X sc z G C cl fp) t1 g1) (ht1 : ∀ z G C cl fp, PTs (Bl X sc z G C cl fp) f1 tt1)
    (hi2 : ∀ z G C cl fp, PI (Bl X sc z G C cl fp) t2 i2 wi2) (hg2 : ∀ z G C cl fp, PG (Bl X sc z G C cl fp) t2 g2) (ht2 : ∀ z G C cl fp, PTs (Bl X sc z G C cl fp) f2 tt2)
    (he : ∀ z G C cl fp, PE (Bl X sc z G C cl fp) elt te) (hs : ∀ y, foldedSetIterable i0 X.env y = pure y) (hs1 : ∀ env y, foldedSetIterable i1 env y = pure y) (hs2 : ∀ env y, foldedSetIterable i2 env y = pure y)
    (h : tLc3 wi g tt wi1 g1 tt1 wi2 g2 tt2 te (own.map (·.2)) vs1 vs2 σ H Q)
    (back : ∀ D C z m G, Inv X pins σ G z → Q (.ref D) G → z.heap.Ns C m → FpOk X pins G C → compPost (model X.prog X.w) X.A X.xe use Qf (.ref D) C (.ok .next) z) :
    wpAny (model X.prog X.w) X.A (comprehension (.ListComp elt [⟨t0, i0, f0, 0⟩, ⟨t1, i1, f1, 0⟩, ⟨t2, i2, f2, 0⟩] sc ps) sc X.env ps' (newList []) false (eval i0 X.env) use) Qf X.xe s := by
  have free : ∀ y ∈ sc.names, y.2 = .free → ∃ c, X.env.cells.lookup y.1 = some c := fun y hy q => (ok.free y hy q).elim (fun a => I.ok.has _ (.inl a)) (fun a => I.ok.has _ (.inr a))
  refine wpAny_comprehension_free (use := use) rfl hs (closure_ok free) ok.kind (fun y hy q => by rw [ok.uniq y hy, q]) (thn (hi.run pins s σ H _ I h) fun xv s1 a1 => thn a1 fun iv s2 a2 => ?_)
  obtain ⟨it, fp, tn, J, H2, rfl, I2, T, st2, k2, q⟩ := a2
  refine wpAny_newObj_type (newEnv_comp ?_) (by show 0 ≤ sizeLine; decide)
  generalize eD : s2.heap.objs.size = D
  have hD2 : H2 D = none := I2.hok.fresh (Nat.le_of_eq eD)
  have turns := q D hD2
  generalize e3 : ({ s2 with heap := s2.heap.push { cls := .type "list", data := .seq ([] : List Value).toArray } } : Shared) = s3
  have k3 : s3.heap = s2.heap.push { cls := .type "list", data := .seq ([] : List Value).toArray } := by rw [← e3]
  have I3 : Inv X pins σ (upd H2 D (.lst [])) s3 := by
    subst e3
    refine I2.laid (t' := s2.toks) (fun b o q => Heap.get?_push_of_some _ q) (Nat.le_of_eq eD) ⟨Nat.zero_le _, [], 0, .nil, ?_⟩
    subst eD
    exact Heap.get?_push_size _ rfl
  have lt2 : ∀ b ∈ fp, b < s2.heap.objs.size := fun b hb => by
    obtain ⟨o, q, _⟩ := T.obj _ _ st2 b hb
    exact Heap.lt_size q
  have f3 : ∀ b ∈ fp, FpOk X pins (upd H2 D (.lst [])) b ∧ b < s3.heap.objs.size := fun b hb => by
    have lt := lt2 b hb
    refine ⟨⟨?_, (k2 b hb).2⟩, ?_⟩
    · rw [upd_ne (by subst eD; exact Nat.ne_of_lt lt)]
      exact (k2 b hb).1
    · rw [k3, Heap.size_push]
      exact Nat.lt_succ_of_lt lt
  have st3 : tn 0 s3.heap := T.keep _ _ _ st2 fun b _ o q => by
    rw [k3]
    exact Heap.get?_push_of_some _ q
  have I4 := block_start I3 ok hN f3
  have none3 : ∀ b ∈ fp, (upd H2 D (.lst [])) b = none := fun b hb => (f3 b hb).1.1
  generalize e33 : upd H2 D (.lst []) = H3 at I3 I4 turns none3 f3 ⊢
  generalize ecl : cellsFrom (s3.heap.objs.size + 1) sc.names (cloFrom X.env.cells sc.names []) = cl at I4 ⊢
  show codeAny _ _ (.compStart (.ListComp elt [⟨t0, i0, f0, 0⟩, ⟨t1, i1, f1, 0⟩, ⟨t2, i2, f2, 0⟩] sc ps) 0 (.ref it) (.ref D) (compEnvC sc cl s3.heap.objs.size X.env)) (compPost (model X.prog X.w) X.A X.xe use Qf (.ref D) s3.heap.objs.size) { s3 with heap := pushCells (s3.heap.push { cls := .type "dict", data := .dict #[] }) sc.names }
  generalize e4 : ({ s3 with heap := pushCells (s3.heap.push { cls := .type "dict", data := .dict #[] }) sc.names } : Shared) = s4 at I4 ⊢
  have st4 : tn 0 s4.heap := T.keep _ _ _ st3 fun b _ o q => by
    rw [← e4]
    exact pushCells_keeps _ _ _ _ (Heap.get?_push_of_some _ q)
  have sI : ∀ z, Inv (Bl X sc s3 H3 s3.heap.objs.size cl fp) [] (wipe σ (own.map (·.2))) H3 z → ∀ b ∈ fp, FpOk (Bl X sc s3 H3 s3.heap.objs.size cl fp) [] H3 b := fun z I' b hb =>
    ⟨none3 b hb, (I'.ok.exf b hb).1, I'.ok.exfs b hb, .inl hb, fun x c q => (I'.ok.exf b hb).2 x c q, fun r hr => absurd (show r ∈ ([] : List (Addr × Obj)) ++ [] from hr) (by simp)⟩
  -- the innermost deed: an item more
  have deed2 : ∀ (p : List (Addr × Obj)) (τ : L2.St) (G : Hp) (z : Shared) (M : Hp → Prop), Inv (Bl X sc s3 H3 s3.heap.objs.size cl fp) p τ G z → tl3 D te τ G M →
      wpAny (model X.prog X.w) X.A (eval elt (compEnvC sc cl s3.heap.objs.size X.env)) (fun y z1 => wpAny (model X.prog X.w) X.A (call (.builtin "list.append") [.ref D, y]) (fun _ z2 => ∃ J, Inv (Bl X sc s3 H3 s3.heap.objs.size cl fp) p τ J z2 ∧ M J) (fun _ _ => False) z1) (fun _ _ => False) z := fun p τ G z M I' t' => by
    refine thnF ((he s3 H3 s3.heap.objs.size cl fp).run p z τ G _ I' t') fun y z1 a => ?_
    obtain ⟨v, G1, I1, r1, xs, hD, hz, m⟩ := a
    exact app_ok (X := Bl X sc s3 H3 s3.heap.objs.size cl fp) I1 hD hz r1 fun z2 J2 => ⟨_, J2, m⟩
  -- a clause's deed: the next clause's loop
  have deed1 : ∀ (p : List (Addr × Obj)) (τ : L2.St) (G : Hp) (z : Shared) (M : Hp → Prop), Inv (Bl X sc s3 H3 s3.heap.objs.size cl fp) p τ G z → tl2 wi2 g2 tt2 vs2 (tl3 D te) τ G M →
      wpAny (model X.prog X.w) X.A (eval i2 (compEnvC sc cl s3.heap.objs.size X.env)) (fun y z1 => wpAny (model X.prog X.w) X.A (pyIter y) (fun v z2 =>
        codeAny (model X.prog X.w) X.A (.compStart (.ListComp elt [⟨t0, i0, f0, 0⟩, ⟨t1, i1, f1, 0⟩, ⟨t2, i2, f2, 0⟩] sc ps) (1 + 1) v (.ref D) (compEnvC sc cl s3.heap.objs.size X.env)) (Back (Bl X sc s3 H3 s3.heap.objs.size cl fp) p (wipe τ vs2) M) z2) (fun _ _ => False) z1) (fun _ _ => False) z := fun p τ G z M I' t' => by
    refine thnF ((hi2 s3 H3 s3.heap.objs.size cl fp).run p z τ G _ I' t') fun y z1 a => thnF a fun v z2 b => ?_
    obtain ⟨jt, jp, jn, JJ, G2, rfl, J2, TT, jst, jf, tu⟩ := b
    have lp := loop_inner (B := Bl X sc s3 H3 s3.heap.objs.size cl fp) (ws := []) (acc := .ref D) rfl hc (inner32 (elt := elt) (t0 := t0) (i0 := i0) (t1 := t1) (i1 := i1) (t2 := t2) (i2 := i2) (f0 := f0) (f1 := f1) (f2 := f2) (sc := sc) (ps := ps)) (fun k hk => by cases hk) deed2 TT (hg2 s3 H3 s3.heap.objs.size cl fp) (ht2 s3 H3 s3.heap.objs.size cl fp) jf tu J2 jst
    exact start_any rfl rfl lp (TT.self X.A 0 _ _ _ jst lp)
  have deed0 : ∀ (p : List (Addr × Obj)) (τ : L2.St) (G : Hp) (z : Shared) (M : Hp → Prop), Inv (Bl X sc s3 H3 s3.heap.objs.size cl fp) p τ G z → tl2 wi1 g1 tt1 vs1 (tl2 wi2 g2 tt2 vs2 (tl3 D te)) τ G M →
      wpAny (model X.prog X.w) X.A (eval i1 (compEnvC sc cl s3.heap.objs.size X.env)) (fun y z1 => wpAny (model X.prog X.w) X.A (pyIter y) (fun v z2 =>
        codeAny (model X.prog X.w) X.A (.compStart (.ListComp elt [⟨t0, i0, f0, 0⟩, ⟨t1, i1, f1, 0⟩, ⟨t2, i2, f2, 0⟩] sc ps) (0 + 1) v (.ref D) (compEnvC sc cl s3.heap.objs.size X.env)) (Back (Bl X sc s3 H3 s3.heap.objs.size cl fp) p (wipe τ vs1) M) z2) (fun _ _ => False) z1) (fun _ _ => False) z := fun p τ G z M I' t' => by
    refine thnF ((hi1 s3 H3 s3.heap.objs.size cl fp).run p z τ G _ I' t') fun y z1 a => thnF a fun v z2 b => ?_
    obtain ⟨jt, jp, jn, JJ, G2, rfl, J2, TT, jst, jf, tu⟩ := b
    have lp := loop_outer (B := Bl X sc s3 H3 s3.heap.objs.size cl fp) (acc := .ref D) rfl hc (outer31 (elt := elt) (t0 := t0) (i0 := i0) (t1 := t1) (i1 := i1) (t2 := t2) (i2 := i2) (f0 := f0) (f1 := f1) (f2 := f2) (sc := sc) (ps := ps)) (hs2 _) h23 deed1 TT (hg1 s3 H3 s3.heap.objs.size cl fp) (ht1 s3 H3 s3.heap.objs.size cl fp) jf tu J2 jst
    exact start_any rfl rfl lp (TT.self X.A 0 _ _ _ jst lp)
  have tu : Turns J g tt (tl2 wi1 g1 tt1 vs1 (tl2 wi2 g2 tt2 vs2 (tl3 D te))) (own.map (·.2)) (wipe σ (own.map (·.2))) (fun G => Q (.ref D) G) H3 := by
    unfold Turns at turns ⊢
    rw [wipe_twice]
    exact turns
  have lp := loop_outer (B := Bl X sc s3 H3 s3.heap.objs.size cl fp) (acc := .ref D) rfl hc (outer30 (elt := elt) (t0 := t0) (i0 := i0) (t1 := t1) (i1 := i1) (t2 := t2) (i2 := i2) (f0 := f0) (f1 := f1) (f2 := f2) (sc := sc) (ps := ps)) (hs1 _) h12 deed0 T (hg s3 H3 s3.heap.objs.size cl fp) (ht s3 H3 s3.heap.objs.size cl fp) (sI s4 I4) tu I4 st4
  have all : codeAny (model X.prog X.w) X.A (.compLoop (.ListComp elt [⟨t0, i0, f0, 0⟩, ⟨t1, i1, f1, 0⟩, ⟨t2, i2, f2, 0⟩] sc ps) 0 (.ref it) (.ref D) (compEnvC sc cl s3.heap.objs.size X.env)) (compPost (model X.prog X.w) X.A X.xe use Qf (.ref D) s3.heap.objs.size) s4 := by
    refine codeAny_mono lp fun r z hr => ?_
    cases r with
    | error er => exact hr.elim
    | ok f =>
      obtain ⟨G, I6, m⟩ := hr
      have I7 : Inv X pins σ G z := I3.call' (ch := fp) I6.os I6.base I6.hok I6.bare fun b hb => by
        have y := (f3 b hb).1
        exact ⟨y.2.2.2.1, y.2.1, y.2.2.2.2.1, y.2.2.2.2.2⟩
      have nC : G s3.heap.objs.size = none := I6.free
      obtain ⟨m', hn, _⟩ := I6.loc
      have post := back D s3.heap.objs.size z m' G I7 m hn (I3.fpOk (Nat.le_refl _) nC)
      cases f <;> cases use <;> exact post
  exact codeAny_compStart_list all (T.self X.A 0 _ _ _ st4 all)
theorem pe_lc3 (hc : X.calm = true) (hN : X.N.Nodup) (hi : PI X t0 i0 wi) (ok : BlkOk X.N X.env.scope sc own) (h12 : ∀ k ∈ vs1, k ∈ own.map (·.2)) (h23 : ∀ k ∈ vs2, k ∈ vs1)
    (hg : ∀ z G C cl fp, PG (Bl X sc z G C cl fp) t0 g) (ht : ∀ z G C cl fp, PTs (Bl X sc z G C cl fp) f0 tt)
    (hi1 : ∀ z G C cl fp, PI (Bl X sc z G C cl fp) t1 i1 wi1) (hg1 : ∀ z G C cl fp, PG (Bl X sc z G C cl fp) t1 g1) (ht1 : ∀ z G C cl fp, PTs (Bl X sc z G C cl fp) f1 tt1)
    (hi2 : ∀ z G C cl fp, PI (Bl X sc z G C cl fp) t2 i2 wi2) (hg2 : ∀ z G C cl fp, PG (Bl X sc z G C cl fp) t2 g2) (ht2 : ∀ z G C cl fp, PTs (Bl X sc z G C cl fp) f2 tt2)
    (he : ∀ z G C cl fp, PE (Bl X sc z G C cl fp) elt te) (hs : ∀ y, foldedSetIterable i0 X.env y = pure y := by intro _; rfl) (hs1 : ∀ env y, foldedSetIterable i1 env y = pure y := by intro _ _; rfl) (hs2 : ∀ env y, foldedSetIterable i2 env y = pure y := by intro _ _; rfl) :
    PE X (.ListComp elt [⟨t0, i0, f0, 0⟩, ⟨t1, i1, f1, 0⟩, ⟨t2, i2, f2, 0⟩] sc ps) (tLc3 wi g tt wi1 g1 tt1 wi2 g2 tt2 te (own.map (·.2)) vs1 vs2) := by
  constructor
  intro pins s σ H Q I h
  rw [eval_ListComp]
  refine lc3_core hc hN I hi ok h12 h23 hg ht hi1 hg1 ht1 hi2 hg2 ht2 he hs hs1 hs2 h fun D C z m G I' q hn f => ⟨m, hn, fun h2 sb => ?_⟩
  obtain ⟨a0, a1, a2, a3, a4, a5⟩ := f
  exact ⟨.ref D, G, I'.turned (t' := z.toks) (fun b o hb y => (sb.2 b hb).trans y) a0 a1 a3 a4 a5, rfl, q⟩
theorem ps_setLc3 {i : Nat} {y : Str} {py sps : Pos} (hc : X.calm = true) (hN : X.N.Nodup) (hy : X.N[i]? = some y) (hyl : X.env.scope.names.lookup y = some .local)
    (sw : swapsWith (.ListComp elt [⟨t0, i0, f0, 0⟩, ⟨t1, i1, f1, 0⟩, ⟨t2, i2, f2, 0⟩] sc ps) (some (.Name y py)) sps.line X.env = pure true) (hi : PI X t0 i0 wi) (ok : BlkOk X.N X.env.scope sc own) (h12 : ∀ k ∈ vs1, k ∈ own.map (·.2)) (h23 : ∀ k ∈ vs2, k ∈ vs1)
    (hg : ∀ z G C cl fp, PG (Bl X sc z G C cl fp) t0 g) (ht : ∀ z G C cl fp, PTs (Bl X sc z G C cl fp) f0 tt)
    (hi1 : ∀ z G C cl fp, PI (Bl X sc z G C cl fp) t1 i1 wi1) (hg1 : ∀ z G C cl fp, PG (Bl X sc z G C cl fp) t1 g1) (ht1 : ∀ z G C cl fp, PTs (Bl X sc z G C cl fp) f1 tt1)
    (hi2 : ∀ z G C cl fp, PI (Bl X sc z G C cl fp) t2 i2 wi2) (hg2 : ∀ z G C cl fp, PG (Bl X sc z G C cl fp) t2 g2) (ht2 : ∀ z G C cl fp, PTs (Bl X sc z G C cl fp) f2 tt2)
    (he : ∀ z G C cl fp, PE (Bl X sc z G C cl fp) elt te) (hs : ∀ y, foldedSetIterable i0 X.env y = pure y := by intro _; rfl) (hs1 : ∀ env y, foldedSetIterable i1 env y = pure y := by intro _ _; rfl) (hs2 : ∀ env y, foldedSetIterable i2 env y = pure y := by intro _ _; rfl) :
    PS X (.Assign [.Name y py] (.ListComp elt [⟨t0, i0, f0, 0⟩, ⟨t1, i1, f1, 0⟩, ⟨t2, i2, f2, 0⟩] sc ps) sps) (tAsg (tLc3 wi g tt wi1 g1 tt1 wi2 g2 tt2 te (own.map (·.2)) vs1 vs2) (gName i)) := by
  constructor
  intro pins s σ H D I h
  rw [exec_Assign_Name_used _ _ _ _ sw]
  refine wpAny_bind (wpAny_standAt (wpAny_bind ?_))
  show wpAny _ X.A (do let _ ← comprehension (.ListComp elt [⟨t0, i0, f0, 0⟩, ⟨t1, i1, f1, 0⟩, ⟨t2, i2, f2, 0⟩] sc ps) sc X.env (firstIterPos [⟨t0, i0, f0, 0⟩, ⟨t1, i1, f1, 0⟩, ⟨t2, i2, f2, 0⟩] ps) (newList []) false (eval i0 X.env) (some (assign (.Name y py) X.env))) _ _ s
  have h' : tLc3 wi g tt wi1 g1 tt1 wi2 g2 tt2 te (own.map (·.2)) vs1 vs2 σ H (fun v G => gName i v σ G D.nx) := h
  refine wpAny_bind (thn (lc3_core (Qf := fun _ z => SP X pins D .next z) hc hN I hi ok h12 h23 hg ht hi1 hg1 ht1 hi2 hg2 ht2 he hs hs1 hs2 h' fun L C z m G I' q hn f => ?_) fun _ z hq => wpAny_pure (wpAny_pure hq))
  show wpAny _ _ (assign (.Name y py) X.env (.ref L)) _ _ _
  obtain ⟨a0, a1, a2, a3, a4, a5⟩ := f
  refine wpAny_assign_Name (store_ok2 (v := V.ref L) I' hN hy (.inl hyl) rfl (fun z2 J2 hz2 => ?_) (.inr hyl))
  obtain ⟨b, sb, hb⟩ := hz2
  have ne : C ≠ b := by
    rcases hb with hb | hb
    · rw [hb]; exact a1
    · exact fun q => a4 y b hb q.symm
  refine ⟨m, hn.sameBut sb ne, fun h3 sb3 => ⟨_, G, J2.turned (t' := z2.toks) (fun c o hc q => (sb3.2 c hc).trans q) a0 a1 a3 a4 a5, q⟩⟩
end
end Ask

/-! zip of a tuple and a list of one length -/
namespace Ask
open PySem L2 PySem.Spec PyProof.Rows
/-- zip's next reads the owned pair, fills it from both sources and hands a copy out -/
theorem mix_item {P : Program} {w : World} {A : Around} {E : Value → Shared → Prop} {s : Shared} {Z TI TO a b l m : Addr} {k : Nat} {xs ys : Array Value} {x y c d : Value} {Q : Value → Shared → Prop} (D : ZipApart Z TI TO a b l m)
    (z0 : IsZip s.heap Z TI TO .none) (ti : IsPair s.heap TI (.ref a) (.ref b)) (to : IsPair s.heap TO c d) (ua : s.heap.IsTupleIter a l k) (ub : s.heap.IsListIter b m k) (la : s.heap.IsTuple l xs) (lb : s.heap.IsList m ys) (ex : xs[k]? = some x) (ey : ys[k]? = some y)
    (q : ∀ J, IsZip J Z TI TO (rawInt s.heap.objs.size) → IsPair J TO x y → J.IsTupleIter a l (k + 1) → J.IsListIter b m (k + 1) → IsPair J s.heap.objs.size x y →
      (∀ r o, r ≠ Z → r ≠ TO → r ≠ a → r ≠ b → s.heap.get? r = some o → J.get? r = some o) → Q (.ref s.heap.objs.size) { s with heap := J }) :
    wpAny (model P w) A (Builtin.«zip.__next__» ⟨[.ref Z], []⟩) (fun fin z => ∃ v, fin = .done (.ret v) ∧ Q v z) E s := by
  show wpAny _ _ (field (.ref Z) 2 >>= _) _ _ _
  refine wpAny_bind (wpAny_field z0 rfl (x := .bool false) rfl ?_)
  show wpAny _ _ (field (.ref Z) 3 >>= _) _ _ _
  refine wpAny_bind (wpAny_field z0 rfl (x := .ref TI) rfl (wpAny_bind (wpAny_seqItems ti rfl ?_)))
  show wpAny _ _ (Builtin.SmallTypes.ownedTupleIsFree (.ref Z) >>= _) _ _ _
  refine wpAny_bind (show wpAny _ _ (Builtin.SmallTypes.ownedTupleIsFree (.ref Z)) _ _ _ from ?_)
  delta Builtin.SmallTypes.ownedTupleIsFree
  refine wpAny_bind (wpAny_field z0 rfl (x := .none) rfl (wpAny_pure ?_))
  rw [if_pos rfl]
  refine wpAny_bind (wpAny_rule (wpAny_bind (wpAny_field z0 rfl (x := .ref TO) rfl (wpAny_bind (wpAny_setField_rec z0 (by simp) fun J1 z1 b1 => ?_)))))
  replace z1 : IsZip J1 Z TI TO .ellipsis := z1
  refine wpAny_bind (show wpAny _ _ (forIn _ _ _) _ _ _ from ?_)
  simp only [List.zipIdx_cons, List.zipIdx_nil, List.forIn_cons, List.forIn_nil]
  refine wpAny_bind (wpAny_bind (wpAny_onRaise (show wpAny _ _ (Builtin.SmallTypes.nextOf (.ref a) >>= _) _ _ _ from ?_)))
  refine wpAny_bind (RZ.nextOf_tuple_item (ua.extBut b1.extBut D.i1z) (la.extBut b1.extBut D.l1z) ex fun J2 u2 b2 => wpAny_pure ?_)
  have t2 : IsPair J2 TO c d := b2.extBut _ _ D.TOi1 (b1.extBut _ _ D.TOz to)
  refine wpAny_bind (wpAny_seqItems t2 rfl (wpAny_bind (wpAny_updateSeq_pair t2 fun J3 t3 b3 => ?_)))
  replace t3 : IsPair J3 TO x d := t3
  refine wpAny_bind (wpAny_letGo (wpAny_pure (wpAny_bind (wpAny_bind (wpAny_onRaise (show wpAny _ _ (Builtin.SmallTypes.nextOf (.ref b) >>= _) _ _ _ from ?_))))))
  refine wpAny_bind (wpAny_nextOf_list_item (((ub.extBut b1.extBut D.i2z).extBut b2.extBut D.i12.symm).extBut b3.extBut D.TOi2.symm) (((lb.extBut b1.extBut D.l2z).extBut b2.extBut D.l2i1).extBut b3.extBut D.l2TO) ey fun J4 u4 b4 => wpAny_pure ?_)
  have t4 : IsPair J4 TO x d := b4.extBut _ _ D.TOi2 t3
  refine wpAny_bind (wpAny_seqItems t4 rfl (wpAny_bind (wpAny_updateSeq_pair t4 fun J5 t5 b5 => ?_)))
  replace t5 : IsPair J5 TO x y := t5
  refine wpAny_bind (wpAny_letGo (wpAny_pure (wpAny_pure (wpAny_bind (wpAny_seqItems t5 rfl (wpAny_bind (wpAny_newTuple ?_)))))))
  have size : J5.objs.size = s.heap.objs.size := by rw [b5.1, b4.1, b3.1, b2.1, b1.1]
  have z5 : IsZip J5 Z TI TO .ellipsis := b5.extBut _ _ D.TOz.symm (b4.extBut _ _ D.i2z.symm (b3.extBut _ _ D.TOz.symm (b2.extBut _ _ D.i1z.symm z1)))
  have keep : ∀ r o, r ≠ Z → r ≠ TO → r ≠ a → r ≠ b → s.heap.get? r = some o → J5.get? r = some o := fun r o n1 n2 n3 n4 e =>
    b5.extBut _ _ n2 (b4.extBut _ _ n4 (b3.extBut _ _ n2 (b2.extBut _ _ n3 (b1.extBut _ _ n1 e))))
  have a5 : J5.IsTupleIter a l (k + 1) := ((u2.extBut b3.extBut D.TOi1.symm).extBut b4.extBut D.i12).extBut b5.extBut D.TOi1.symm
  have c5 : J5.IsListIter b m (k + 1) := u4.extBut b5.extBut D.TOi2.symm
  have ltZ : Z < J5.objs.size := Heap.lt_size z5
  show wpAny _ _ (Builtin.SmallTypes.ownedTupleHandOut (.ref Z) (.ref J5.objs.size) >>= _) _ _ _
  refine wpAny_bind (show wpAny _ _ (Builtin.SmallTypes.ownedTupleHandOut (.ref Z) (.ref J5.objs.size)) _ _ _ from ?_)
  delta Builtin.SmallTypes.ownedTupleHandOut
  have z6 : IsZip (J5.push { cls := .type "tuple", data := .seq #[x, y] }) Z TI TO .ellipsis := Heap.get?_push_of_some _ z5
  refine wpAny_bind (wpAny_setField_rec z6 (by simp) fun J7 z7 b7 => ?_)
  replace z7 : IsZip J7 Z TI TO (rawInt J5.objs.size) := z7
  refine wpAny_setField_rec z7 (by simp) fun J8 z8 b8 => ?_
  replace z8 : IsZip J8 Z TI TO (rawInt J5.objs.size) := z8
  have up : ∀ r o, r ≠ Z → J5.get? r = some o → J8.get? r = some o := fun r o n e => b8.extBut _ _ n (b7.extBut _ _ n (Heap.get?_push_of_some _ e))
  have p8 : IsPair J8 J5.objs.size x y := b8.extBut _ _ (Nat.ne_of_gt ltZ) (b7.extBut _ _ (Nat.ne_of_gt ltZ) (Heap.get?_push_size _ rfl))
  rw [size] at z8 p8
  refine wpAny_pure ⟨_, rfl, ?_⟩
  show Q (.ref J5.objs.size) _
  rw [size]
  exact q J8 z8 (up _ _ D.TOz t5) (a5.at fun o e => up _ o D.i1z e) (c5.at fun o e => up _ o D.i2z e) p8 fun r o n1 n2 n3 n4 e => up r o n1 (keep r o n1 n2 n3 n4 e)
theorem mix_end {P : Program} {w : World} {A : Around} {E : Value → Shared → Prop} {s : Shared} {Z TI TO a b l m : Addr} {k : Nat} {xs : Array Value} {c d : Value} {Q : PySem.Fin → Shared → Prop} (hh : A.handled = none) (D : ZipApart Z TI TO a b l m)
    (z0 : IsZip s.heap Z TI TO .none) (ti : IsPair s.heap TI (.ref a) (.ref b)) (to : IsPair s.heap TO c d) (ua : s.heap.IsTupleIter a l k) (la : s.heap.IsTuple l xs) (ex : xs[k]? = none)
    (q : ∀ J e, (∀ r o, r ≠ Z → r ≠ TO → r ≠ a → r ≠ b → s.heap.get? r = some o → J.get? r = some o) → (∃ o, J.get? e = some o ∧ o.cls = .type "StopIteration") → E (.ref e) { s with heap := J }) :
    wpAny (model P w) A (Builtin.«zip.__next__» ⟨[.ref Z], []⟩) Q E s := by
  show wpAny _ _ (field (.ref Z) 2 >>= _) _ _ _
  refine wpAny_bind (wpAny_field z0 rfl (x := .bool false) rfl ?_)
  show wpAny _ _ (field (.ref Z) 3 >>= _) _ _ _
  refine wpAny_bind (wpAny_field z0 rfl (x := .ref TI) rfl (wpAny_bind (wpAny_seqItems ti rfl ?_)))
  show wpAny _ _ (Builtin.SmallTypes.ownedTupleIsFree (.ref Z) >>= _) _ _ _
  refine wpAny_bind (show wpAny _ _ (Builtin.SmallTypes.ownedTupleIsFree (.ref Z)) _ _ _ from ?_)
  delta Builtin.SmallTypes.ownedTupleIsFree
  refine wpAny_bind (wpAny_field z0 rfl (x := .none) rfl (wpAny_pure ?_))
  rw [if_pos rfl]
  refine wpAny_bind (wpAny_rule (wpAny_bind (wpAny_field z0 rfl (x := .ref TO) rfl (wpAny_bind (wpAny_setField_rec z0 (by simp) fun J1 z1 b1 => ?_)))))
  replace z1 : IsZip J1 Z TI TO .ellipsis := z1
  refine wpAny_bind (show wpAny _ _ (forIn _ _ _) _ _ _ from ?_)
  simp only [List.zipIdx_cons, List.zipIdx_nil, List.forIn_cons, List.forIn_nil]
  refine wpAny_bind (wpAny_bind (wpAny_onRaise (show wpAny _ _ (Builtin.SmallTypes.nextOf (.ref a) >>= _) _ _ _ from ?_)))
  refine wpAny_bind (RZ.nextOf_tuple_end hh (ua.extBut b1.extBut D.i1z) (la.extBut b1.extBut D.l1z) ex fun J2 e b2 he => ?_)
  obtain ⟨oe, ge, ce⟩ := he
  have z2 : IsZip J2 Z TI TO .ellipsis := b2 _ _ D.i1z.symm z1
  have ne : e ≠ Z := fun r => by
    subst r
    rw [z2] at ge
    cases ge
    simp at ce
  exact wpAny_setField_rec z2 (by simp) fun J3 _ b3 => q J3 e (fun r o n1 _ n3 _ v => b3.extBut _ _ n1 (b2 _ _ n3 (b1.extBut _ _ n1 v))) ⟨oe, b3.extBut _ _ ne ge, ce⟩
end Ask

namespace Ask
open PySem L2 PySem.Spec PyProof.Rows
section
variable {P : Program} {w : World} {A : Around} {E : Value → Shared → Prop} {s : Shared}
theorem mix_next {Z TI TO a b l m : Addr} {k : Nat} {xs ys : Array Value} {x y c d : Value} {Q : Option Value → Shared → Prop} (D : ZipApart Z TI TO a b l m)
    (z0 : IsZip s.heap Z TI TO .none) (ti : IsPair s.heap TI (.ref a) (.ref b)) (to : IsPair s.heap TO c d) (ua : s.heap.IsTupleIter a l k) (ub : s.heap.IsListIter b m k) (la : s.heap.IsTuple l xs) (lb : s.heap.IsList m ys) (ex : xs[k]? = some x) (ey : ys[k]? = some y)
    (q : ∀ J, IsZip J Z TI TO (rawInt s.heap.objs.size) → IsPair J TO x y → J.IsTupleIter a l (k + 1) → J.IsListIter b m (k + 1) → IsPair J s.heap.objs.size x y →
      (∀ r o, r ≠ Z → r ≠ TO → r ≠ a → r ≠ b → s.heap.get? r = some o → J.get? r = some o) → Q (some (.ref s.heap.objs.size)) { s with heap := J }) : wpAny (model P w) A (pyNext (.ref Z)) Q E s := by
  have ty : s.TypeIs (.ref Z) "zip" := ⟨_, z0, rfl⟩
  delta pyNext
  refine wpAny_bind (wpAny_attempt (wpAny_callSpecial?_slot (name := Str.ofString "__next__") ty F.slot_zip_next ?_))
  exact wpAny_call_entry F.slot_zip_next ty F.entry_zip_next (mix_item D z0 ti to ua ub la lb ex ey fun J a1 a2 a3 a4 a5 a6 => wpAny_pure (q J a1 a2 a3 a4 a5 a6)) (F.args_zip_next_1 _)
theorem mix_stop {Z TI TO a b l m : Addr} {k : Nat} {xs : Array Value} {c d : Value} {Q : Option Value → Shared → Prop} (hh : A.handled = none) (D : ZipApart Z TI TO a b l m)
    (z0 : IsZip s.heap Z TI TO .none) (ti : IsPair s.heap TI (.ref a) (.ref b)) (to : IsPair s.heap TO c d) (ua : s.heap.IsTupleIter a l k) (la : s.heap.IsTuple l xs) (ex : xs[k]? = none)
    (q : ∀ J, (∀ r o, r ≠ Z → r ≠ TO → r ≠ a → r ≠ b → s.heap.get? r = some o → J.get? r = some o) → Q none { s with heap := J }) : wpAny (model P w) A (pyNext (.ref Z)) Q E s := by
  have ty : s.TypeIs (.ref Z) "zip" := ⟨_, z0, rfl⟩
  delta pyNext
  refine wpAny_bind (wpAny_attempt (wpAny_callSpecial?_slot (name := Str.ofString "__next__") ty F.slot_zip_next ?_))
  refine wpAny_call_entry F.slot_zip_next ty F.entry_zip_next (mix_end hh D z0 ti to ua la ex fun J e kk he => ?_) (F.args_zip_next_1 _)
  obtain ⟨o, ho, hc⟩ := he
  exact wpAny_bind (wpAny_isInstance (T := "StopIteration") (b := true) ⟨o, ho, hc⟩ isSubtype_stop (wpAny_pure (q _ kk)))
end
abbrev mH1 (h : Heap) (l : Addr) : Heap := h.push { cls := .type "tuple_iterator", data := .fields #[.ref l, .int 0 0] }
abbrev mH2 (h : Heap) (l m : Addr) : Heap := (mH1 h l).push { cls := .type "list_iterator", data := .fields #[.ref m, .int 0 0] }
abbrev mH3 (h : Heap) (l m : Addr) : Heap := (mH2 h l m).push { cls := .type "tuple", data := .seq #[.ref h.objs.size, .ref (mH1 h l).objs.size] }
abbrev mH4 (h : Heap) (l m : Addr) : Heap := (mH3 h l m).push { cls := .type "tuple", data := .seq #[.none, .none] }
abbrev mH5 (h : Heap) (l m : Addr) : Heap := (mH4 h l m).push { cls := .type "zip", data := .fields #[.none, .bool false, .bool false, .ref (mH2 h l m).objs.size, .ref (mH3 h l m).objs.size] }
theorem mix_new (l m : Addr) (xs ys : Array Value) : Meets (Builtin.«zip.__new__» ⟨[.type "zip", .ref l, .ref m], []⟩) (fun _ R s => s.heap.IsTuple l xs ∧ s.heap.IsList m ys ∧ R (.ok (.ret (.ref (mH4 s.heap l m).objs.size))) { s with heap := mH5 s.heap l m }) :=
  .of_wp fun prog w A R s h => by
    obtain ⟨h0, g, d, tk, os⟩ := s
    obtain ⟨a1, a2, a3⟩ := h
    have sz := PySem.sub_zip
    have q1 : Heap.IsTuple (Shared.heap ⟨h0, g, d, tk, os⟩) l xs := a1
    have q2 : Heap.IsList (Shared.heap ⟨h0.push { cls := .type "tuple_iterator", data := .fields #[.ref l, .int 0 0] }, g, d, tk, os⟩) m ys := Heap.IsList.push a2 _
    wp_walk using wpAny_pyIter_tuple q1, wpAny_pyIter_list q2
    exact ⟨_, rfl, a3⟩
theorem mix_call {P : Program} {w : World} {A : Around} {E : Value → Shared → Prop} {s : Shared} {l m : Addr} {xs ys : Array Value} {Q : Value → Shared → Prop} (hl : s.heap.IsTuple l xs) (hm : s.heap.IsList m ys)
    (q : ∀ J, IsZip J (s.heap.objs.size + 4) (s.heap.objs.size + 2) (s.heap.objs.size + 3) .none → IsPair J (s.heap.objs.size + 2) (.ref s.heap.objs.size) (.ref (s.heap.objs.size + 1)) → IsPair J (s.heap.objs.size + 3) .none .none →
      J.IsTupleIter s.heap.objs.size l 0 → J.IsListIter (s.heap.objs.size + 1) m 0 → (∀ r o, s.heap.get? r = some o → J.get? r = some o) → Q (.ref (s.heap.objs.size + 4)) { s with heap := J }) :
    wpAny (model P w) A (call (.type "zip") [.ref l, .ref m]) Q E s := by
  refine callType_new F.called_zip (by decide) (F.typeCall_zip_2 _ _) (F.newCall_zip_2 _ _) (fun obj => F.args_object_init_3 obj _ _) F.entry_zip_new (mix_new l m xs ys) ⟨hl, hm, ?_⟩
  have e1 : (mH1 s.heap l).objs.size = s.heap.objs.size + 1 := Heap.size_push ..
  have e2 : (mH2 s.heap l m).objs.size = s.heap.objs.size + 2 := by rw [Heap.size_push, e1]
  have e3 : (mH3 s.heap l m).objs.size = s.heap.objs.size + 3 := by rw [Heap.size_push, e2]
  have e4 : (mH4 s.heap l m).objs.size = s.heap.objs.size + 4 := by rw [Heap.size_push, e3]
  have c5 : (mH5 s.heap l m).get? (mH4 s.heap l m).objs.size = some _ := Heap.get?_push_size _ rfl
  have c4 : (mH5 s.heap l m).get? (mH3 s.heap l m).objs.size = some _ := Heap.get?_push_of_some _ (Heap.get?_push_size _ rfl)
  have c3 : (mH5 s.heap l m).get? (mH2 s.heap l m).objs.size = some _ := Heap.get?_push_of_some _ (Heap.get?_push_of_some _ (Heap.get?_push_size _ rfl))
  have c2 : (mH5 s.heap l m).get? (mH1 s.heap l).objs.size = some _ := Heap.get?_push_of_some _ (Heap.get?_push_of_some _ (Heap.get?_push_of_some _ (Heap.get?_push_size _ rfl)))
  have c1 : (mH5 s.heap l m).get? s.heap.objs.size = some _ := Heap.get?_push_of_some _ (Heap.get?_push_of_some _ (Heap.get?_push_of_some _ (Heap.get?_push_of_some _ (Heap.get?_push_size _ rfl))))
  show _ ∧ _
  rw [e2, e3, e4] at c5
  rw [e1, e2] at c3
  rw [e3] at c4
  rw [e1] at c2
  rw [e4]
  refine ⟨⟨_, c5, rfl⟩, q _ c5 c3 c4 ⟨_, c1, rfl, rfl⟩ ⟨_, c2, rfl, rfl⟩ fun r o x => ?_⟩
  iterate 5 refine Heap.get?_push_of_some _ ?_
  exact x
/-- the pairs of a tuple and a list, in new tuples -/
def ItM (K : PySem.W.Frag) (a b : Addr) : It :=
  ⟨fun i H => ∃ (xs ys : List V) (x y : V), SqT K H a xs ∧ SqL K H b ys ∧ xs[i]? = some x ∧ ys[i]? = some y,
    fun i H v H' => ∃ T x y, v = .ref T ∧ H T = none ∧ H' = upd H T (.tup [x, y]) ∧ (∀ xs, SqT K H a xs → xs[i]? = some x) ∧ ∀ ys, SqL K H b ys → ys[i]? = some y,
    fun i H => ∃ xs : List V, SqT K H a xs ∧ xs.length ≤ i⟩
theorem turn_mix {P : Program} {w : World} {K : PySem.W.Frag} {es : List Expr} {kk : Nat} {tp : Pos} {a b Z TI TO i j : Addr} (D : ZipApart Z TI TO i j a b) :
    Turn P w K (.Tuple es kk tp) (ItM K a b) [Z, TI, TO, i, j] Z (fun n h => IsZip h Z TI TO .none ∧ IsPair h TI (.ref i) (.ref j) ∧ (∃ x y, IsPair h TO x y) ∧ h.IsTupleIter i a n ∧ h.IsListIter j b n) where
  mem := by simp
  obj := fun n h st c hc => by
    obtain ⟨q1, q2, ⟨x, y, q3⟩, ⟨o1, e1, _, d1⟩, ⟨o2, e2, _, d2⟩⟩ := st
    simp only [List.mem_cons, List.not_mem_nil, or_false] at hc
    rcases hc with rfl | rfl | rfl | rfl | rfl
    · exact ⟨_, q1, fun v z => nomatch z⟩
    · exact ⟨_, q2, fun v z => nomatch z⟩
    · exact ⟨_, q3, fun v z => nomatch z⟩
    · exact ⟨o1, e1, fun v z => by rw [d1] at z; cases z⟩
    · exact ⟨o2, e2, fun v z => by rw [d2] at z; cases z⟩
  keep := fun n h h' st k => by
    obtain ⟨q1, q2, ⟨x, y, q3⟩, q4, q5⟩ := st
    exact ⟨k Z (by simp) _ q1, k TI (by simp) _ q2, ⟨x, y, k TO (by simp) _ q3⟩, q4.at fun o z => k i (by simp) o z, q5.at fun o z => k j (by simp) o z⟩
  item := by
    intro X hP hw hK hc n pins s σ H E I hf st hg
    subst hP hw hK
    obtain ⟨q1, q2, ⟨x0, y0, q3⟩, q4, q5⟩ := st
    obtain ⟨xs, ys, x, y, tx, ty, ex, ey⟩ := hg
    obtain ⟨us, ru, pu, _⟩ := I.tuple tx
    obtain ⟨vs, rv, pv', _⟩ := I.list ty
    obtain ⟨u, hu, r1⟩ := ru.get ex
    obtain ⟨v, hv, r2⟩ := rv.get ey
    have ltZ : Z < s.heap.objs.size := Heap.lt_size q1
    refine mix_next D q1 q2 q3 q4 q5 pu pv'.isList (x := u) (y := v) (by simpa using hu) (by simpa using hv) fun J z1 t1 a1 b1 n1 kp => ?_
    refine ⟨_, rfl, wpAny_letOwnedTupleGo_zip (s := { s with heap := J }) z1 fun G z2 sb => ?_⟩
    have nT : G.get? s.heap.objs.size = some { cls := .type "tuple", data := .seq #[u, v] } := (sb.2 _ (Nat.ne_of_gt ltZ)).trans n1
    have fresh : H s.heap.objs.size = none := I.hok.fresh (Nat.le_refl _)
    have new : ObjOk X.prog X.w (upd H s.heap.objs.size (.tup [x, y])) G s.heap.objs.size (.tup [x, y]) := ⟨by show 2 ≤ sizeLine; decide, [u, v], .cons r1 (.cons r2 .nil), ⟨_, nT, rfl, _, rfl⟩⟩
    have I1 : Inv X pins σ (upd H s.heap.objs.size (.tup [x, y])) { s with heap := G } := by
      refine I.turnedNew (t' := s.toks) (ch := [Z, TI, TO, i, j]) (fun c o hb z => ?_) hf (Nat.le_refl _) new
      simp only [List.mem_cons, List.not_mem_nil, or_false, not_or] at hb
      exact (sb.2 c hb.1).trans (kp c o hb.1 hb.2.2.1 hb.2.2.2.1 hb.2.2.2.2 z)
    refine ⟨.ref s.heap.objs.size, _, I1, rfl, ⟨_, x, y, rfl, fresh, rfl, fun l hl => by rw [I.tuple_inj hl tx]; exact ex, fun l hl => by rw [I.list_inj hl ty]; exact ey⟩, ⟨z2, ?_, ⟨u, v, ?_⟩, ?_, ?_⟩, fun c hcm => ?_⟩
    · exact (sb.2 _ D.TIz).trans (kp _ _ D.TIz D.TITO D.TIi1 D.TIi2 q2)
    · exact (sb.2 _ D.TOz).trans t1
    · exact a1.at fun o z => (sb.2 _ D.i1z).trans z
    · exact b1.at fun o z => (sb.2 _ D.i2z).trans z
    · have lt : c < s.heap.objs.size := by
        simp only [List.mem_cons, List.not_mem_nil, or_false] at hcm
        rcases hcm with rfl | rfl | rfl | rfl | rfl
        · exact ltZ
        · exact Heap.lt_size q2
        · exact Heap.lt_size q3
        · obtain ⟨_, e, _⟩ := q4
          exact Heap.lt_size e
        · obtain ⟨_, e, _⟩ := q5
          exact Heap.lt_size e
      rw [upd_ne (Nat.ne_of_lt lt)]
      exact (hf c hcm).1
  done := by
    intro X hP hw hK hc n pins s σ H E I hf st hg
    subst hP hw hK
    obtain ⟨q1, q2, ⟨x0, y0, q3⟩, q4, q5⟩ := st
    obtain ⟨xs, tx, le⟩ := hg
    obtain ⟨us, ru, pu, _⟩ := I.tuple tx
    have len := ru.length
    have none : us.toArray[n]? = none := by simp; omega
    refine mix_stop (I.ok.hd hc) D q1 q2 q3 q4 pu none fun J kp => ⟨rfl, I.turnedL (t' := s.toks) (ch := [Z, TI, TO, i, j]) (fun c o hb z => ?_) hf⟩
    simp only [List.mem_cons, List.not_mem_nil, or_false, not_or] at hb
    exact kp c o hb.1 hb.2.2.1 hb.2.2.2.1 hb.2.2.2.2 z
  self := fun A n s Q E st h => wpAny_pyIter_zip st.1 h
def iMix (K : PySem.W.Frag) (ta : TA) : TI := fun σ H R => ta σ H fun vs G => ∃ a b xs ys, vs = [.ref a, .ref b] ∧ SqT K G a xs ∧ SqL K G b ys ∧ R (ItM K a b) G
theorem pi_mix {X : Cx} {e e2 : Expr} {ta : TA} {p pos tp : Pos} {es : List Expr} {kk : Nat} (hg : Gl X "zip") (hm : X.mg "zip" = none) (ha : PA X [e, e2] ta)
    (hs : starEach [e, e2] X.env = (false, eval e X.env) :: starEach [e2] X.env := by rfl) (hpl : (backTo pos (starEach [e2] X.env)).any (·.1) = false := by rfl) :
    PI X (.Tuple es kk tp) (.Call (.Name "zip" p) [e, e2] [] pos) (iMix X.K ta) := by
  constructor
  intro pins s σ H R I h
  refine Call_ (ld_blt I hg hm PyProof.Rows.boot_zip (PyProof.Rows.callWith_type1 (thn (ha.run pos pins s σ H _ I h) fun us s1 hq => ?_) hs hpl))
  obtain ⟨vs, G, I1, r1, a, b, xs, ys, rfl, tx, ty, q⟩ := hq
  match us, r1 with
  | [_, _], .cons r (.cons r' .nil) =>
    cases r
    cases r'
    obtain ⟨us, ru, pu, _⟩ := I1.tuple tx
    obtain ⟨vs, rv, pv', _⟩ := I1.list ty
    obtain ⟨o1, g1, _⟩ := id pu
    refine mix_call pu pv'.isList fun J z1 t1 t2 a1 b1 kp => wpAny_pyIter_zip z1 ?_
    have I2 : Inv X pins σ G { s1 with heap := J } := I1.kept (t' := s1.toks) kp
    refine ⟨s1.heap.objs.size + 4, [s1.heap.objs.size + 4, s1.heap.objs.size + 2, s1.heap.objs.size + 3, s1.heap.objs.size, s1.heap.objs.size + 1], _, _, G, rfl, I2, turn_mix (PySem.W.ktu_apart s1.heap.objs.size a b (Heap.lt_size g1) pv'.lt), ⟨z1, t1, ⟨_, _, t2⟩, a1, b1⟩, fun c hcm => ?_, q⟩
    have le : s1.heap.objs.size ≤ c := by
      simp only [List.mem_cons, List.not_mem_nil, or_false] at hcm
      rcases hcm with rfl | rfl | rfl | rfl | rfl <;> omega
    exact I1.fpOk le (I1.hok.fresh le)
/-- its walk: both of one length -/
theorem walk_mix {K : PySem.W.Frag} {a b : Addr} {xs ys : List V} (hl : xs.length = ys.length) : Walk (ItM K a b) xs.length (fun H => SqT K H a xs ∧ SqL K H b ys) (YPair (fun i => xs[i]?) (fun i => ys[i]?)) := by
  refine ⟨fun i _ hi q => ?_, fun _ q => ⟨xs, q.1, Nat.le_refl _⟩, fun i H v H' _ q y => ?_⟩
  · exact ⟨xs, ys, _, _, q.1, q.2, List.getElem?_eq_getElem hi, List.getElem?_eq_getElem (hl ▸ hi)⟩
  · obtain ⟨T, x, z, y1, y2, y3, y4, y5⟩ := y
    exact ⟨T, x, z, y1, y2, y3, y4 xs q.1, y5 ys q.2⟩
end Ask

namespace Ask
open PySem L2
/-- all but lists stands as it stood -/
def KeepN (H H' : Hp) : Prop := ∀ b o, H b = some o → (∀ xs, o ≠ .lst xs) → H' b = some o
theorem KeepN.of {H H' : Hp} (s : Same H H') : KeepN H H' := fun b o e _ => s b o e
theorem KeepN.set {H : Hp} {D : Addr} {xs : List V} {o : HO} (e : H D = some (.lst xs)) : KeepN H (upd H D o) := fun b u q n => by
  rw [upd_ne (fun z => by rw [z, e] at q; cases q; exact n xs rfl)]
  exact q
section
variable {K : PySem.W.Frag} {CL CS : Addr} {H H' : Hp}
theorem Mde.keepN {m t : Addr} {ys : List Str} (h : Mde CL H m t ys) (k : KeepN H H') : Mde CL H' m t ys := by
  obtain ⟨dx, o, h1, h2, h3⟩ := h
  exact ⟨dx, o, k _ _ h1 (by intro _ z; cases z), k _ _ h2 (by intro _ z; cases z), h3⟩
theorem seqT_keepN {a : Addr} {xs : List V} (h : SqT K H a xs) (k : KeepN H H') : SqT K H' a xs := by
  rcases h with (h | ⟨o, h⟩) | h
  · exact .inl (.inl (k _ _ h (by intro _ z; cases z)))
  · exact .inl (.inr ⟨o, k _ _ h (by intro _ z; cases z)⟩)
  · exact .inr h
theorem SenAt.keepN {p : Addr} {ys : List Str} {kk x : Str} {s : V} (h : SenAt K CL CS H p ys kk x s) (k : KeepN H H') : SenAt K CL CS H' p ys kk x s := by
  obtain ⟨dx, m, t, h1, h2⟩ := h
  exact ⟨dx, m, t, k _ _ h1 (by intro _ z; cases z), h2.keepN k⟩
abbrev Tri : Type := Str × Str × V
/-- sentences by their triples -/
def SensV (K : PySem.W.Frag) (CL CS : Addr) (H : Hp) (ys : List Str) (vs : List V) (ts : List Tri) : Prop := vs.length = ts.length ∧ ∀ (i : Nat) (v : V) (t : Tri), vs[i]? = some v → ts[i]? = some t → ∃ p, v = .ref p ∧ SenAt K CL CS H p ys t.1 t.2.1 t.2.2
theorem SensV.nil {ys : List Str} : SensV K CL CS H ys [] [] := ⟨rfl, fun i v t h => by cases h⟩
theorem SensV.keepN {ys : List Str} {vs : List V} {ts : List Tri} (h : SensV K CL CS H ys vs ts) (k : KeepN H H') : SensV K CL CS H' ys vs ts := by
  refine ⟨h.1, fun i v t e1 e2 => ?_⟩
  obtain ⟨p, e, q⟩ := h.2 i v t e1 e2
  exact ⟨p, e, q.keepN k⟩
theorem SensV.app {ys : List Str} {vs ws : List V} {ts us : List Tri} (h : SensV K CL CS H ys vs ts) (g : SensV K CL CS H ys ws us) : SensV K CL CS H ys (vs ++ ws) (ts ++ us) := by
  refine ⟨by rw [List.length_append, List.length_append, h.1, g.1], fun i v t e1 e2 => ?_⟩
  rcases Nat.lt_or_ge i vs.length with hi | hi
  · rw [List.getElem?_append_left hi] at e1
    rw [List.getElem?_append_left (by rw [← h.1]; exact hi)] at e2
    exact h.2 i v t e1 e2
  · rw [List.getElem?_append_right hi] at e1
    rw [List.getElem?_append_right (by rw [← h.1]; exact hi), ← h.1] at e2
    exact g.2 _ v t e1 e2
theorem SensV.one {ys : List Str} {p : Addr} {t : Tri} (h : SenAt K CL CS H p ys t.1 t.2.1 t.2.2) : SensV K CL CS H ys [.ref p] [t] := by
  refine ⟨rfl, fun i v u e1 e2 => ?_⟩
  cases i with
  | zero => cases e1; cases e2; exact ⟨p, rfl, h⟩
  | succ i => cases e1
/-- a list of sentences at D, behind one more -/
theorem SensV.more {ys : List Str} {vs : List V} {ts : List Tri} {p D : Addr} {t : Tri} (h : SensV K CL CS H ys vs ts) (hD : H D = some (.lst vs)) (g : SenAt K CL CS H p ys t.1 t.2.1 t.2.2) : SensV K CL CS (upd H D (.lst (vs ++ [.ref p]))) ys (vs ++ [.ref p]) (ts ++ [t]) :=
  (h.app (.one g)).keepN (.set hD)
end
/-! ### the menu, by triples -/
def idleT (ys : List Str) : List Tri := ys.map fun x => (("idle" : Str), x, V.non)
def stillT (ys : List Str) : List Tri := ys.map fun x => (("still" : Str), x, V.non)
def alikeF (ys : List Str) (n : Nat) : List Tri := match ys[n]? with
  | some x => (ys.take n).map fun z => (("alike" : Str), x, V.str z)
  | none => []
def alikeT (ys : List Str) : List Tri := (List.range ys.length).flatMap (alikeF ys)
def pairF (x y : Str) : List Tri := [(("kept" : Str), x, V.str y)] ++ (if x = y then [] else [(("over" : Str), x, V.str y)]) ++ [(("undone" : Str), x, V.str y)]
def pairsT (ys : List Str) : List Tri := ys.flatMap fun x => ys.flatMap (pairF x)
def menuT (ys : List Str) : List Tri := idleT ys ++ alikeT ys ++ stillT ys ++ pairsT ys
theorem map_take {α β : Type} {f : α → β} {l : List α} {i : Nat} {x : α} (h : l[i]? = some x) : (l.take (i + 1)).map f = (l.take i).map f ++ [f x] := by
  rw [List.take_add_one, h, List.map_append]
  rfl
theorem flat_take {α β : Type} {f : α → List β} {l : List α} {i : Nat} {x : α} (h : l[i]? = some x) : (l.take (i + 1)).flatMap f = (l.take i).flatMap f ++ f x := by
  rw [List.take_add_one, h, List.flatMap_append]
  simp
theorem pairF_len (x y : Str) : (pairF x y).length ≤ 3 := by
  unfold pairF
  split <;> simp
theorem flat_len {α β : Type} {f : α → List β} {n : Nat} (h : ∀ x, (f x).length ≤ n) : ∀ l : List α, (l.flatMap f).length ≤ n * l.length
  | [] => by simp
  | x :: l => by
    have := h x
    have := flat_len h l
    rw [List.flatMap_cons, List.length_append, List.length_cons, Nat.mul_succ]
    omega
theorem alikeF_len {ys : List Str} (n : Nat) : (alikeF ys n).length ≤ ys.length := by
  unfold alikeF
  split
  · rw [List.length_map, List.length_take]
    omega
  · exact Nat.zero_le _
/-- the triples of the menu are their own one form -/
theorem nf_lone {ys : List Str} {k x : Str} (h : k ∈ LK) : nfT ys k x .non = [.str k, .str x, .non] := by
  unfold nfT
  have n1 : ¬ (k = "over" ∧ V.str x = V.non) := fun z => by cases z.2
  rw [if_neg n1]
  have n2 : ¬ (k = "alike" ∧ ahead ys x .non = true) := fun z => by
    rw [z.1] at h
    exact absurd h (by decide)
  rw [if_neg n2]
theorem nf_pair {ys : List Str} {k x y : Str} (h1 : k ≠ "alike") (h2 : ¬ (k = "over" ∧ x = y)) : nfT ys k x (.str y) = [.str k, .str x, .str y] := by
  unfold nfT
  rw [if_neg (fun z => h2 ⟨z.1, V.str.inj z.2⟩), if_neg (fun z => h1 z.1)]
theorem ix_eq {ys : List Str} {n : Nat} {x : Str} (nd : ys.Nodup) (h : ys[n]? = some x) : ixOf ys x = n := by
  have e := (ixOf_at (List.mem_of_getElem? h)).1
  exact (List.getElem?_inj (List.getElem?_eq_some_iff.mp e).1 nd).mp (e.trans h.symm)
theorem nf_alike {ys : List Str} {n j : Nat} {x z : Str} (nd : ys.Nodup) (hx : ys[n]? = some x) (hz : ys[j]? = some z) (lt : j < n) : nfT ys "alike" x (.str z) = [.str "alike", .str x, .str z] := by
  unfold nfT
  rw [if_neg (fun q => absurd q.1 (by decide))]
  rw [if_neg]
  rintro ⟨_, q⟩
  have q : decide (ixOf ys x < ixOf ys z) = true := q
  have q := of_decide_eq_true q
  rw [ix_eq nd hx, ix_eq nd hz] at q
  omega
end Ask

namespace Ask
open PySem L2
theorem turns_it {J : It} {n : Nat} {G : Hp → Prop} {Y : Nat → Hp → V → Hp → Prop} {g : TG} {tt : TT} {tl : L2.St → Hp → (Hp → Prop) → Prop} {vs : List Nat} {σ : L2.St} {M : Hp → Prop} {H : Hp} (wk : Walk J n G Y) (Pw : Nat → Hp → Prop) (h0 : Pw 0 H) (hG : ∀ j H, j ≤ n → Pw j H → G H)
    (hs : ∀ j x H H', j < n → Pw j H → Y j H x H' → g x (wipe σ vs) H' fun σ2 H2 => wipe σ2 vs = wipe σ vs ∧ tt σ2 H2 fun b H3 => if b = true then tl σ2 H3 (Pw (j + 1)) else Pw (j + 1) H3) (hd : ∀ H, Pw n H → M H) : Turns J g tt tl vs σ M H := by
  refine ⟨fun j k H => k = n - j ∧ j ≤ n ∧ Pw j H, ⟨n, by simp, Nat.zero_le _, h0⟩, ?_⟩
  rintro j k G0 ⟨rfl, hj, q⟩
  have ok := hG j G0 hj q
  rcases Nat.lt_or_ge j n with lt | ge
  · refine .inr ⟨wk.goes j G0 lt ok, Pw (j + 1), fun H' q' => ⟨n - (j + 1), by omega, rfl, lt, q'⟩, fun x H' y => hs j x G0 H' lt q (wk.yields j G0 x H' lt ok y)⟩
  · have e : j = n := by omega
    subst e
    exact .inl ⟨wk.stops G0 ok, hd G0 q⟩
def kindF (x y k : Str) : List Tri := if k = "over" ∧ x = y then [] else [(k, x, V.str y)]
theorem pairF_kinds (x y : Str) : (["kept", "over", "undone"] : List Str).flatMap (kindF x y) = pairF x y := by
  have a : kindF x y "kept" = [(("kept" : Str), x, V.str y)] := if_neg fun z => absurd z.1 (by decide)
  have b : kindF x y "undone" = [(("undone" : Str), x, V.str y)] := if_neg fun z => absurd z.1 (by decide)
  rw [List.flatMap_cons, List.flatMap_cons, List.flatMap_cons, List.flatMap_nil, a, b]
  unfold kindF pairF
  by_cases h : x = y
  · rw [if_pos ⟨rfl, h⟩, if_pos h]
    rfl
  · rw [if_neg (fun z => h z.2), if_neg h]
    rfl
theorem nm_asg {i : Nat} {v : V} {σ : L2.St} {H : Hp} {te : TE} {g : TG} {u : TS} {D : Ends} (h : te (σ.set i (some v)) H fun x H1 => g x (σ.set i (some v)) H1 (u D)) : gName i v σ H (({ D with nx := tSeq (tAsg te g) u D } : Ends).nx) := h
theorem nm_asg2 {i : Nat} {v : V} {σ : L2.St} {H : Hp} {te : TE} {g : TG} {u : TS} {D : Ends} (h : te (σ.set i (some v)) H fun x H1 => g x (σ.set i (some v)) H1 (u D)) : gName i v σ H (tSeq (tAsg te g) u D) := h
theorem nm_ret {i : Nat} {v : V} {σ : L2.St} {H : Hp} {te : TE} {D : Ends} (h : te (σ.set i (some v)) H D.rt) : gName i v σ H (tRet te D) := h
def nMe : List Str := ["letters", "words", "idle", "alike", "still", "pairs", "x", "at", "z", "y", "kind"]
def PK3 : List Str := ["kept", "over", "undone"]
section
variable {P : Program} {w : World} {K : PySem.W.Frag} {mg : Str → Option Value} {base : Heap}
def spMenu (K : PySem.W.Frag) (CL CS : Addr) : Sp := fun vs H Q _ => ∃ (m t : Addr) (ys : List Str), vs = [.ref m] ∧ Mde CL H m t ys ∧ Lts ys ∧
  ∀ (H' : Hp) (q : Addr) (ws : List V), Same H H' → H' q = some (.tup ws) → SensV K CL CS H' ys ws (menuT ys) → Q (.ref q) H'
abbrev s_menu : Stmt := top 27
theorem sc_menu : FnScope nMe ["letters"] (defScope s_menu) := ⟨rfl, rfl, rfl, by decide +kernel, rfl, by decide +kernel, by decide +kernel⟩
theorem ok_menu {f fS CL CS CK CT CN tP : Addr} {fd fdS : FuncData} {uD uP : Value} (F : Fun K "menu" "menu" s_menu f fd) (T : Blt mg) (hCL : Cls K CL) (nL : NoAttr K CL "words")
    (mP : mg "PAIR_KINDS" = some uP) (rP : RelV (.ref tP) uP) (sP : ∀ H, SqT K H tP (PK3.map V.str))
    (MS : Mk K CS fS) (mS : mg "Sentence" = some (.ref CS)) (bS : Binds K fdS ["self", "letters", "kind", "first", "second"] []) (bS0 : Binds K fdS ["self", "letters", "kind", "first", "second"] [uD]) (ru : RelV .non uD) (GS : FnOk P w K mg base (L2.CX P w) 7 fS fdS ["self", "letters", "kind", "first", "second"] (spSen K CL CS CK CT CN)) :
    FnOk P w K mg base CX0 9 f fd ["letters"] (spMenu K CL CS) := by
  refine F.ok sc_menu (fun vs H Q E h => ?_) (fun cdv A outer s H vs Q E hr h => ?_)
  · obtain ⟨m, t, ys, rfl, _⟩ := h
    rfl
  · obtain ⟨m, t, ys, rfl, hM, lts, kq⟩ := h
    refine ⟨_, (pss_cons (ps_set (i := 1) sc_menu.nd rfl (Or.inr rfl) (pe_fld (pv 0) rfl))
      (pss_cons (ps_setLc (i := 2) (own := [("x", 6)]) rfl sc_menu.nd rfl rfl (sw_true rfl rfl rfl (by decide +kernel)) (pi_tup (pv 1)) (blkOk_by (N := nMe) (sc := defScope s_menu) (by decide +kernel)) (fun _ _ _ _ _ => (pg_name (i := 6) sc_menu.nd rfl (Or.inl rfl))) (fun _ _ _ _ _ => pts_nil) (fun _ _ _ _ _ => (pe_make MS GS (by exact hr) (by rfl) mS bS0 (.cons ru .nil) passE (pa_cons (pv 0) (pa_cons pe_str (pa_cons (pv 6) pa_nil))))))
      (pss_cons (ps_setLc2 (i := 3) (own := [("at", 7), ("x", 6), ("z", 8)]) (vs1 := [8]) rfl sc_menu.nd rfl rfl (sw_true rfl rfl rfl (by decide +kernel)) (pi_enumA (by rfl) T.n_enumerate (pa_cons (pv 1) pa_nil)) (blkOk_by (N := nMe) (sc := defScope s_menu) (by decide +kernel)) (by decide) (fun _ _ _ _ _ => (show PG _ _ (gTup K 2 _) from pg_tup rfl (pgs_cons (pg_name (i := 7) sc_menu.nd rfl (Or.inl rfl)) (pgs_cons (pg_name (i := 6) sc_menu.nd rfl (Or.inl rfl)) pgs_nil)))) (fun _ _ _ _ _ => pts_nil) (fun _ _ _ _ _ => (show PI _ _ _ (iTup K _) from pi_tup (pe_slice (show SlR _ (rSlA K) from sl_tupA) (pv 1) po_none (po_some (pv 7))))) (fun _ _ _ _ _ => (pg_name (i := 8) sc_menu.nd rfl (Or.inl rfl))) (fun _ _ _ _ _ => pts_nil) (fun _ _ _ _ _ => (pe_make MS GS (by exact hr) (by rfl) mS bS .nil passE (pa_cons (pv 0) (pa_cons pe_str (pa_cons (pv 6) (pa_cons (pv 8) pa_nil)))))))
      (pss_cons (ps_setLc (i := 4) (own := [("y", 9)]) rfl sc_menu.nd rfl rfl (sw_true rfl rfl rfl (by decide +kernel)) (pi_tup (pv 1)) (blkOk_by (N := nMe) (sc := defScope s_menu) (by decide +kernel)) (fun _ _ _ _ _ => (pg_name (i := 9) sc_menu.nd rfl (Or.inl rfl))) (fun _ _ _ _ _ => pts_nil) (fun _ _ _ _ _ => (pe_make MS GS (by exact hr) (by rfl) mS bS0 (.cons ru .nil) passE (pa_cons (pv 0) (pa_cons pe_str (pa_cons (pv 9) pa_nil))))))
      (pss_cons (ps_setLc3 (i := 5) (own := [("x", 6), ("y", 9), ("kind", 10)]) (vs1 := [9, 10]) (vs2 := [10]) rfl sc_menu.nd rfl rfl (sw_true rfl rfl rfl (by decide +kernel)) (pi_tup (pv 1)) (blkOk_by (N := nMe) (sc := defScope s_menu) (by decide +kernel)) (by decide) (by decide) (fun _ _ _ _ _ => (pg_name (i := 6) sc_menu.nd rfl (Or.inl rfl))) (fun _ _ _ _ _ => pts_nil)
        (fun _ _ _ _ _ => (show PI _ _ _ (iTup K _) from pi_tup (pv 1))) (fun _ _ _ _ _ => (pg_name (i := 9) sc_menu.nd rfl (Or.inl rfl))) (fun _ _ _ _ _ => pts_nil)
        (fun _ _ _ _ _ => (show PI _ _ _ (iTup K _) from pi_tup (pe_gv (v := .ref tP) rfl ⟨uP, mP, rP⟩))) (fun _ _ _ _ _ => (pg_name (i := 10) sc_menu.nd rfl (Or.inl rfl))) (fun _ _ _ _ _ => pts_one (PW.pt (pw_or (pt_cmpR (show OpR _ _ rNe from op_ne) (pv 10) pe_str (nomark _)) (pw_or1 (pt_cmpR (show OpR _ _ rNe from op_ne) (pv 6) (pv 9) (nomark _))))))
        (fun _ _ _ _ _ => (pe_make MS GS (by exact hr) (by rfl) mS bS .nil passE (pa_cons (pv 0) (pa_cons (pv 10) (pa_cons (pv 6) (pa_cons (pv 9) pa_nil)))))))
      (pss_one (ps_ret (pe_callTy call_tuple_of (by rfl) T.n_tuple (by decide +kernel) (pa_cons (pe_op op_cat (pe_op op_cat (pe_op op_cat (pv 2) (pv 3)) (pv 4)) (pv 5)) pa_nil))))))))), ?_⟩
    have z1 : (100000 : Nat) ≤ sizeLine := by decide
    obtain ⟨dx, ob, hp, ht, hob⟩ := id hM
    have hq : SqT K H t (ys.map V.str) := .inl (.inr ⟨ob, ht⟩)
    have yl := lts.l1
    have hn : (ys.map V.str).length = ys.length := List.length_map ..
    refine ⟨_, rfl, m, CL, dx, _, _, rfl, hp, hCL, nL, rfl, ?_⟩
    -- idle
    refine ⟨_, rfl, t, rfl, ⟨_, hq⟩, fun D1 hD1 => ?_⟩
    refine lc_it (walk_tup (xs := ys.map V.str)) (fun i H' => Same H H' ∧ ∃ vs, H' D1 = some (.lst vs) ∧ SensV K CL CS H' ys vs ((ys.take i).map fun x => (("idle" : Str), x, V.non))) ⟨Ask.Same.upd_new (Same.refl H) hD1, [], upd_same, SensV.nil⟩ (fun i H' _ hh => seqT_same hh.1 hq) ?_ ?_
    · rintro i v H2 H3 hi ⟨s2, vs, eD, sv⟩ ⟨rfl, hv⟩
      rw [List.getElem?_map] at hv
      rw [hn] at hi
      cases hz : ys[i]? with
      | none => rw [hz] at hv; cases hv
      | some x =>
        rw [hz] at hv
        cases hv
        have hx := List.mem_of_getElem? hz
        have lv := sv.1
        rw [List.length_map, List.length_take] at lv
        refine ⟨rfl, _, rfl, _, rfl, fun p pd hp hpd hne => sen_made (pp := m) (hM.same s2) lts.nd (DrOk.lone (by decide) (by decide) hx) hp hpd hne fun H4 k' x' s' sm enf hs => ⟨rfl, vs, sm _ _ eD, by omega, Ask.Same.upd_new (s2.trans sm) hD1, _, upd_same, ?_⟩⟩
        rw [nf_lone (by decide)] at enf
        cases enf
        rw [map_take hz]
        exact (sv.keepN (.of sm)).more (sm _ _ eD) hs
    rintro H1 ⟨s1, v1, e1, sv1⟩
    rw [hn, List.take_length] at sv1
    have l1 := sv1.1
    rw [List.length_map] at l1
    replace sv1 : SensV K CL CS H1 ys v1 (idleT ys) := sv1
    -- alike
    refine nm_asg ?_
    refine lc2_it (fun R r => ⟨_, rfl, t, _, rfl, .inr ⟨seqT_same s1 hq, r⟩⟩) (walk_enumT (xs := ys.map V.str)) (fun D2 hD2 => ?_)
    refine ⟨fun i H' => Same H1 H' ∧ ∃ vs, H' D2 = some (.lst vs) ∧ SensV K CL CS H' ys vs ((List.range i).flatMap (alikeF ys)), ⟨Ask.Same.upd_new (Same.refl H1) hD2, [], upd_same, SensV.nil⟩, fun i H' _ hh => seqT_same (s1.trans hh.1) hq, ?_, ?_⟩
    · rintro i v H2 H3 hi ⟨s2, vs, eD, sv⟩ ⟨u, x0, y0, rfl, hu, rfl, ex, ey⟩
      cases ex
      rw [hn] at hi
      obtain ⟨x, hx⟩ : ∃ x, ys[i]? = some x := ⟨_, List.getElem?_eq_getElem hi⟩
      replace ey : (ys.map V.str)[i]? = some y0 := ey
      rw [List.getElem?_map, hx] at ey
      cases ey
      have s3 := Ask.Same.made1 (o := .tup [.int (i : Nat), .str x]) (Same.refl H2) hu
      have fu : upd H2 u (.tup [.int (i : Nat), .str x]) u = some (.tup [.int (i : Nat), .str x]) := upd_same
      generalize upd H2 u (.tup [.int (i : Nat), .str x]) = H4 at s3 fu ⊢
      have s14 := s2.trans s3
      have eD4 := s3 _ _ eD
      have sv4 := sv.keepN (.of s3)
      have lv := sv.1
      have lf := flat_len (f := alikeF ys) (fun n => alikeF_len n) (List.range i)
      rw [List.length_range] at lf
      have lf2 : ys.length * i ≤ 12 * 12 := Nat.mul_le_mul yl (by omega)
      refine ⟨u, _, rfl, SqT.of fu, rfl, _, _, rfl, _, _, rfl, rfl, ?_⟩
      refine ⟨rfl, _, rfl, _, rfl, _, rfl, t, _, rfl, seqT_same (s1.trans s14) hq, fun z => ?_, fun _ q hqn => ?_⟩
      · exfalso
        have z := z.2
        rw [hn, HT.sIx_nat] at z
        omega
      rw [show cutV (ys.map V.str) none (some ((i : Nat) : Int)) = (ys.take i).map V.str from by rw [cutV_take _ _ (by rw [hn]; omega), ← List.map_take]]
      have s5 := Ask.Same.made1 (o := .tup ((ys.take i).map V.str)) (Same.refl H4) hqn
      have fq : upd H4 q (.tup ((ys.take i).map V.str)) q = some (.tup ((ys.take i).map V.str)) := upd_same
      generalize upd H4 q (.tup ((ys.take i).map V.str)) = H5 at s5 fq ⊢
      refine ⟨q, rfl, ⟨_, SqT.of fq⟩, ?_⟩
      have s15 := s14.trans s5
      have hqD : q ≠ D2 := fun e => by
        rw [e, s5 _ _ eD4] at fq
        cases fq
      refine in2_it (walk_tup (xs := (ys.take i).map V.str)) (fun j H' => H' q = some (.tup ((ys.take i).map V.str)) ∧ Same H1 H' ∧ ∃ vs, H' D2 = some (.lst vs) ∧ SensV K CL CS H' ys vs ((List.range i).flatMap (alikeF ys) ++ ((ys.take i).take j).map fun z => (("alike" : Str), x, V.str z))) ⟨fq, s15, vs, s5 _ _ eD4, by rw [List.take_zero]; show SensV _ _ _ _ _ _ (_ ++ []); rw [List.append_nil]; exact sv4.keepN (.of s5)⟩ (fun j H' _ hh => SqT.of hh.1) ?_ ?_
      · rintro j v H6 H7 hj ⟨q6, s16, ws, eD6, sv6⟩ ⟨rfl, hv⟩
        rw [List.length_map, List.length_take] at hj
        have hji : j < i := by omega
        obtain ⟨z, hz⟩ : ∃ z, ys[j]? = some z := ⟨_, List.getElem?_eq_getElem (by omega)⟩
        have hz2 : (ys.take i)[j]? = some z := by rw [List.getElem?_take_of_lt hji, hz]
        rw [List.getElem?_map, hz2] at hv
        cases hv
        have lv6 := sv6.1
        rw [List.length_append, List.length_map, List.length_take, List.length_take] at lv6
        have hxz : x ≠ z := fun e => by
          have a := ix_eq lts.nd hx
          have b := ix_eq lts.nd hz
          rw [e] at a
          omega
        refine ⟨rfl, _, rfl, _, rfl, _, rfl, fun p pd hp hpd hne => ?_⟩
        refine sen_made (pp := m) (k := "alike") (hM.same (s1.trans s16)) lts.nd (DrOk.two (by decide) (by decide) (List.mem_of_getElem? hx) (List.mem_of_getElem? hz) (fun e => hxz e.2)) hp hpd hne fun H8 k' x' s' sm enf hs => ⟨rfl, ws, sm _ _ eD6, by omega, (upd_ne hqD).trans (sm _ _ q6), Ask.Same.upd_new (s16.trans sm) hD2, _, upd_same, ?_⟩
        rw [nf_alike lts.nd hx hz hji] at enf
        cases enf
        rw [map_take hz2, ← List.append_assoc]
        exact (sv6.keepN (.of sm)).more (sm _ _ eD6) hs
      · rintro H6 ⟨q6, s16, ws, eD6, sv6⟩
        refine ⟨s16, ws, eD6, ?_⟩
        rw [List.length_map, List.take_length] at sv6
        have ea : alikeF ys i = (ys.take i).map fun z => (("alike" : Str), x, V.str z) := by
          unfold alikeF
          rw [hx]
        rw [List.range_succ, List.flatMap_append, List.flatMap_singleton, ea]
        exact sv6
    rintro H2 ⟨s2, v2, e2, sv2⟩
    rw [hn] at sv2
    replace sv2 : SensV K CL CS H2 ys v2 (alikeT ys) := sv2
    have s02 := s1.trans s2
    have e12 := s2 _ _ e1
    -- still
    refine nm_asg2 ?_
    refine ⟨_, rfl, t, rfl, ⟨_, seqT_same s02 hq⟩, fun D3 hD3 => ?_⟩
    refine lc_it (walk_tup (xs := ys.map V.str)) (fun i H' => Same H2 H' ∧ ∃ vs, H' D3 = some (.lst vs) ∧ SensV K CL CS H' ys vs ((ys.take i).map fun x => (("still" : Str), x, V.non))) ⟨Ask.Same.upd_new (Same.refl H2) hD3, [], upd_same, SensV.nil⟩ (fun i H' _ hh => seqT_same (s02.trans hh.1) hq) ?_ ?_
    · rintro i v H4 H5 hi ⟨s4, vs, eD, sv⟩ ⟨rfl, hv⟩
      rw [List.getElem?_map] at hv
      rw [hn] at hi
      cases hz : ys[i]? with
      | none => rw [hz] at hv; cases hv
      | some x =>
        rw [hz] at hv
        cases hv
        have hx := List.mem_of_getElem? hz
        have lv := sv.1
        rw [List.length_map, List.length_take] at lv
        refine ⟨rfl, _, rfl, _, rfl, fun p pd hp hpd hne => sen_made (pp := m) (hM.same (s02.trans s4)) lts.nd (DrOk.lone (by decide) (by decide) hx) hp hpd hne fun H4 k' x' s' sm enf hs => ⟨rfl, vs, sm _ _ eD, by omega, Ask.Same.upd_new (s4.trans sm) hD3, _, upd_same, ?_⟩⟩
        rw [nf_lone (by decide)] at enf
        cases enf
        rw [map_take hz]
        exact (sv.keepN (.of sm)).more (sm _ _ eD) hs
    rintro H3 ⟨s3, v3, e3, sv3⟩
    rw [hn, List.take_length] at sv3
    have l3 := sv3.1
    rw [List.length_map] at l3
    replace sv3 : SensV K CL CS H3 ys v3 (stillT ys) := sv3
    have s03 := s02.trans s3
    -- pairs
    refine nm_asg2 ?_
    refine ⟨_, rfl, t, rfl, ⟨_, seqT_same s03 hq⟩, fun D4 hD4 => ?_⟩
    refine turns_it (walk_tup (xs := ys.map V.str)) (fun i H' => Same H3 H' ∧ ∃ vs, H' D4 = some (.lst vs) ∧ SensV K CL CS H' ys vs ((ys.take i).flatMap fun x => ys.flatMap (pairF x))) ⟨Ask.Same.upd_new (Same.refl H3) hD4, [], upd_same, SensV.nil⟩ (fun i H' _ hh => seqT_same (s03.trans hh.1) hq) ?_ ?_
    · rintro i v H4 H5 hi ⟨s4, vs, eD, sv⟩ ⟨rfl, hv⟩
      rw [List.getElem?_map] at hv
      rw [hn] at hi
      obtain ⟨x, hx⟩ : ∃ x, ys[i]? = some x := ⟨_, List.getElem?_eq_getElem hi⟩
      rw [hx] at hv
      cases hv
      have mx := List.mem_of_getElem? hx
      refine ⟨rfl, ?_⟩
      refine ⟨_, rfl, t, rfl, ⟨_, seqT_same (s03.trans s4) hq⟩, ?_⟩
      refine turns_it (walk_tup (xs := ys.map V.str)) (fun j H' => Same H3 H' ∧ ∃ vs, H' D4 = some (.lst vs) ∧ SensV K CL CS H' ys vs (((ys.take i).flatMap fun x => ys.flatMap (pairF x)) ++ (ys.take j).flatMap (pairF x))) ⟨s4, vs, eD, by rw [List.take_zero]; show SensV _ _ _ _ _ _ (_ ++ []); rw [List.append_nil]; exact sv⟩ (fun i H' _ hh => seqT_same (s03.trans hh.1) hq) ?_ ?_
      · rintro j v H6 H7 hj ⟨s6, ws, eD6, sv6⟩ ⟨rfl, hv⟩
        rw [List.getElem?_map] at hv
        rw [hn] at hj
        obtain ⟨y, hy⟩ : ∃ y, ys[j]? = some y := ⟨_, List.getElem?_eq_getElem hj⟩
        rw [hy] at hv
        cases hv
        have my := List.mem_of_getElem? hy
        refine ⟨rfl, ?_⟩
        refine ⟨tP, rfl, ⟨_, sP _⟩, ?_⟩
        refine turns_it (walk_tup (xs := PK3.map V.str)) (fun l H' => Same H3 H' ∧ ∃ vs, H' D4 = some (.lst vs) ∧ SensV K CL CS H' ys vs ((((ys.take i).flatMap fun x => ys.flatMap (pairF x)) ++ (ys.take j).flatMap (pairF x)) ++ (PK3.take l).flatMap (kindF x y))) ⟨s6, ws, eD6, by rw [List.take_zero]; show SensV _ _ _ _ _ _ (_ ++ []); rw [List.append_nil]; exact sv6⟩ (fun i H' _ hh => sP _) ?_ ?_
        · rintro l v H8 H9 hl ⟨s8, us, eD8, sv8⟩ ⟨rfl, hv⟩
          rw [List.getElem?_map] at hv
          obtain ⟨k, hk⟩ : ∃ k, PK3[l]? = some k := ⟨_, List.getElem?_eq_getElem (by rw [List.length_map] at hl; exact hl)⟩
          rw [hk] at hv
          cases hv
          have mk := List.mem_of_getElem? hk
          have l8 : us.length < sizeLine := by
            have a1 := flat_len (f := fun x => ys.flatMap (pairF x)) (n := 36) (fun x => Nat.le_trans (flat_len (pairF_len x) ys) (by omega)) (ys.take i)
            have a2 := flat_len (f := pairF x) (n := 3) (pairF_len x) (ys.take j)
            have a3 := flat_len (f := kindF x y) (n := 1) (fun k => by unfold kindF; split <;> simp) (PK3.take l)
            rw [List.length_take] at a1 a2 a3
            have a4 : PK3.length = 3 := rfl
            have a5 := sv8.1
            rw [List.length_append, List.length_append] at a5
            omega
          have ks : k = "kept" ∨ k = "over" ∨ k = "undone" := by
            rcases List.mem_cons.mp mk with e | mk
            · exact .inl e
            rcases List.mem_cons.mp mk with e | mk
            · exact .inr (.inl e)
            exact .inr (.inr (List.mem_singleton.mp mk))
          have k1 : k ∉ LK := by rcases ks with rfl | rfl | rfl <;> decide
          have k2 : k ∈ KL := by rcases ks with rfl | rfl | rfl <;> decide
          have k3 : k ≠ "alike" := by rcases ks with rfl | rfl | rfl <;> decide
          have ek : ∀ b : List Tri, b ++ (PK3.take (l + 1)).flatMap (kindF x y) = (b ++ (PK3.take l).flatMap (kindF x y)) ++ kindF x y k := fun b => by rw [flat_take hk, ← List.append_assoc]
          have hM8 := hM.same (s03.trans s8)
          refine ⟨rfl, _, rfl, rfl, _, rfl, ite2 (fun b1 => ite2 (fun _ => ?_) (fun z => absurd rfl z)) (fun b1 => ⟨_, rfl, _, rfl, rfl, _, rfl, ite2 (fun b2 => ?_) (fun b2 => ?_)⟩)⟩
          · have hov : ¬ k = "over" := fun e => by
              rw [e, decide_eq_true rfl] at b1
              cases b1
            refine ⟨_, rfl, _, rfl, _, rfl, _, rfl, fun p pd hp hpd hne => ?_⟩
            refine sen_made (pp := m) hM8 lts.nd (DrOk.two k1 k2 mx my (fun e => k3 e.1)) hp hpd hne fun H10 k' x' s' sm enf hs => ⟨rfl, us, sm _ _ eD8, l8, Ask.Same.upd_new (s8.trans sm) hD4, _, upd_same, ?_⟩
            rw [nf_pair k3 (fun e => hov e.1)] at enf
            cases enf
            rw [ek]
            unfold kindF
            rw [if_neg (c := k = "over" ∧ x = y) (fun e => hov e.1)]
            exact (sv8.keepN (.of sm)).more (sm _ _ eD8) hs
          · have hxy : ¬ x = y := fun e => by
              rw [e, decide_eq_true rfl] at b2
              cases b2
            refine ⟨_, rfl, _, rfl, _, rfl, _, rfl, fun p pd hp hpd hne => ?_⟩
            refine sen_made (pp := m) hM8 lts.nd (DrOk.two k1 k2 mx my (fun e => k3 e.1)) hp hpd hne fun H10 k' x' s' sm enf hs => ⟨rfl, us, sm _ _ eD8, l8, Ask.Same.upd_new (s8.trans sm) hD4, _, upd_same, ?_⟩
            rw [nf_pair k3 (fun e => hxy e.2)] at enf
            cases enf
            rw [ek]
            unfold kindF
            rw [if_neg (c := k = "over" ∧ x = y) (fun e => hxy e.2)]
            exact (sv8.keepN (.of sm)).more (sm _ _ eD8) hs
          · have hov : k = "over" := by
              refine Decidable.byContradiction fun e => ?_
              rw [decide_eq_false (fun z => e (V.str.inj z))] at b1
              exact absurd b1 (by decide)
            have hxy : x = y := by
              refine Decidable.byContradiction fun e => ?_
              rw [decide_eq_false (fun z => e (V.str.inj z))] at b2
              exact absurd b2 (by decide)
            refine ⟨s8, us, eD8, ?_⟩
            rw [ek]
            have e0 : kindF x y k = [] := if_pos ⟨hov, hxy⟩
            rw [e0, List.append_nil]
            exact sv8
        · rintro H8 ⟨s8, us, eD8, sv8⟩
          refine ⟨s8, us, eD8, ?_⟩
          rw [flat_take hy, ← List.append_assoc, ← pairF_kinds]
          exact sv8
      · rintro H6 ⟨s6, ws, eD6, sv6⟩
        refine ⟨s6, ws, eD6, ?_⟩
        rw [hn, List.take_length] at sv6
        rw [flat_take hx]
        exact sv6
    · rintro H4 ⟨s4, v4, e4, sv4⟩
      rw [hn, List.take_length] at sv4
      replace sv4 : SensV K CL CS H4 ys v4 (pairsT ys) := sv4
      refine nm_ret ?_
      have s34 := s3.trans s4
      have f1 := s34 _ _ e12
      have f2 := s34 _ _ e2
      have f3 := s4 _ _ e3
      have w1 := (sv1.keepN (.of s2)).keepN (.of s34)
      have w2 := sv2.keepN (.of s34)
      have w3 := sv3.keepN (.of s4)
      have n1 := w1.1
      have n2 := w2.1
      have n3 := w3.1
      have n4 := sv4.1
      have a1 : (idleT ys).length ≤ 12 := by unfold idleT; rw [List.length_map]; exact yl
      have a2 : (alikeT ys).length ≤ 12 * 12 := Nat.le_trans (flat_len (f := alikeF ys) (fun n => alikeF_len n) _) (by rw [List.length_range]; exact Nat.mul_le_mul yl yl)
      have a3 : (stillT ys).length ≤ 12 := by unfold stillT; rw [List.length_map]; exact yl
      have a4 : (pairsT ys).length ≤ 36 * 12 := Nat.le_trans (flat_len (f := fun x => ys.flatMap (pairF x)) (n := 36) (fun x => Nat.le_trans (flat_len (pairF_len x) ys) (by omega)) ys) (by omega)
      have s04 := s03.trans s4
      refine ⟨_, rfl, _, rfl, D1, D2, v1, v2, rfl, rfl, f1, f2, by omega, fun p1 hp1 => ?_⟩
      have u1 := Ask.Same.made1 (o := .lst (v1 ++ v2)) (Same.refl H4) hp1
      have g1 : upd H4 p1 (.lst (v1 ++ v2)) p1 = some (.lst (v1 ++ v2)) := upd_same
      generalize upd H4 p1 (.lst (v1 ++ v2)) = H5 at u1 g1 ⊢
      refine ⟨_, rfl, p1, D3, v1 ++ v2, v3, rfl, rfl, g1, u1 _ _ f3, by rw [List.length_append]; omega, fun p2 hp2 => ?_⟩
      have u2 := Ask.Same.made1 (o := .lst (v1 ++ v2 ++ v3)) (Same.refl H5) hp2
      have g2 : upd H5 p2 (.lst (v1 ++ v2 ++ v3)) p2 = some (.lst (v1 ++ v2 ++ v3)) := upd_same
      generalize upd H5 p2 (.lst (v1 ++ v2 ++ v3)) = H6 at u2 g2 ⊢
      refine ⟨_, rfl, p2, D4, v1 ++ v2 ++ v3, v4, rfl, rfl, g2, u2 _ _ (u1 _ _ e4), by rw [List.length_append, List.length_append]; omega, fun p3 hp3 => ?_⟩
      have u3 := Ask.Same.made1 (o := .lst (v1 ++ v2 ++ v3 ++ v4)) (Same.refl H6) hp3
      have g3 : upd H6 p3 (.lst (v1 ++ v2 ++ v3 ++ v4)) p3 = some (.lst (v1 ++ v2 ++ v3 ++ v4)) := upd_same
      generalize upd H6 p3 (.lst (v1 ++ v2 ++ v3 ++ v4)) = H7 at u3 g3 ⊢
      refine ⟨p3, _, rfl, .inl ⟨SqL.of g3, fun l hl => ?_⟩⟩
      have s07 := (s04.trans u1).trans (u2.trans u3)
      have kk := KeepN.of ((u1.trans u2).trans u3)
      refine kq _ _ _ (Ask.Same.made1 s07 hl) upd_same ?_
      exact (((w1.app w2).app w3).app sv4 |>.keepN kk).keepN (.of (Ask.Same.made1 (Same.refl H7) hl))
end
end Ask

namespace Ask
open PySem L2
/-! ### rows: tuples by their triples -/
section
variable {H H' : Hp}
def RowsV (H : Hp) (vs : List V) (ts : List Tri) : Prop := vs.length = ts.length ∧ ∀ (i : Nat) (v : V) (t : Tri), vs[i]? = some v → ts[i]? = some t → ∃ p, v = .ref p ∧ H p = some (.tup [.str t.1, .str t.2.1, t.2.2])
theorem RowsV.nil : RowsV H [] [] := ⟨rfl, fun i v t h => by cases h⟩
theorem RowsV.keepN {vs : List V} {ts : List Tri} (h : RowsV H vs ts) (k : KeepN H H') : RowsV H' vs ts := by
  refine ⟨h.1, fun i v t e1 e2 => ?_⟩
  obtain ⟨p, e, q⟩ := h.2 i v t e1 e2
  exact ⟨p, e, k _ _ q (by intro _ z; cases z)⟩
theorem RowsV.app {vs ws : List V} {ts us : List Tri} (h : RowsV H vs ts) (g : RowsV H ws us) : RowsV H (vs ++ ws) (ts ++ us) := by
  refine ⟨by rw [List.length_append, List.length_append, h.1, g.1], fun i v t e1 e2 => ?_⟩
  rcases Nat.lt_or_ge i vs.length with hi | hi
  · rw [List.getElem?_append_left hi] at e1
    rw [List.getElem?_append_left (by rw [← h.1]; exact hi)] at e2
    exact h.2 i v t e1 e2
  · rw [List.getElem?_append_right hi] at e1
    rw [List.getElem?_append_right (by rw [← h.1]; exact hi), ← h.1] at e2
    exact g.2 _ v t e1 e2
theorem RowsV.one {p : Addr} {t : Tri} (h : H p = some (.tup [.str t.1, .str t.2.1, t.2.2])) : RowsV H [.ref p] [t] := by
  refine ⟨rfl, fun i v u e1 e2 => ?_⟩
  cases i with
  | zero => cases e1; cases e2; exact ⟨p, rfl, h⟩
  | succ i => cases e1
/-- a new tuple put behind the list at D -/
theorem RowsV.put {vs : List V} {ts : List Tri} {D p : Addr} {t : Tri} (h : RowsV H vs ts) (hD : H D = some (.lst vs)) (hp : H p = none) :
    KeepN H (upd (upd H p (.tup [.str t.1, .str t.2.1, t.2.2])) D (.lst (vs ++ [.ref p]))) ∧ (upd H p (.tup [.str t.1, .str t.2.1, t.2.2])) D = some (.lst vs) ∧ RowsV (upd (upd H p (.tup [.str t.1, .str t.2.1, t.2.2])) D (.lst (vs ++ [.ref p]))) (vs ++ [.ref p]) (ts ++ [t]) := by
  have s := Ask.Same.made1 (o := .tup [.str t.1, .str t.2.1, t.2.2]) (Same.refl H) hp
  have hD2 := s _ _ hD
  have kn : KeepN (upd H p (.tup [.str t.1, .str t.2.1, t.2.2])) (upd (upd H p (.tup [.str t.1, .str t.2.1, t.2.2])) D (.lst (vs ++ [.ref p]))) := .set hD2
  have k0 : KeepN H (upd (upd H p (.tup [.str t.1, .str t.2.1, t.2.2])) D (.lst (vs ++ [.ref p]))) := fun b o e n => kn b o (s b o e) n
  exact ⟨k0, hD2, ((h.keepN (.of s)).app (.one upd_same)).keepN kn⟩
end
theorem KeepN.trans {H H' H2 : Hp} (a : KeepN H H') (b : KeepN H' H2) : KeepN H H2 := fun x o e n => b x o (a x o e n) n
/-! ### what stands in the menu -/
theorem mem_alikeF {ys : List Str} {n : Nat} {t : Tri} (h : t ∈ alikeF ys n) : ∃ (j : Nat) (x z : Str), ys[n]? = some x ∧ ys[j]? = some z ∧ j < n ∧ t = (("alike" : Str), x, V.str z) := by
  unfold alikeF at h
  split at h
  · rename_i x hx
    obtain ⟨z, hz, rfl⟩ := List.mem_map.mp h
    obtain ⟨j, hj⟩ := List.getElem?_of_mem hz
    have lt : j < n := by
      have := (List.getElem?_eq_some_iff.mp hj).1
      rw [List.length_take] at this
      omega
    rw [List.getElem?_take_of_lt lt] at hj
    exact ⟨j, x, z, hx, hj, lt, rfl⟩
  · cases h
/-- a triple of the menu is one in its one form -/
theorem menu_ok {ys : List Str} (nd : ys.Nodup) {t : Tri} (h : t ∈ menuT ys) : DrOk ys t.1 t.2.1 t.2.2 ∧ nfT ys t.1 t.2.1 t.2.2 = [.str t.1, .str t.2.1, t.2.2] := by
  unfold menuT at h
  rcases List.mem_append.mp h with h | h
  · rcases List.mem_append.mp h with h | h
    · rcases List.mem_append.mp h with h | h
      · obtain ⟨x, hx, rfl⟩ := List.mem_map.mp h
        show DrOk ys "idle" x .non ∧ nfT ys "idle" x .non = [.str "idle", .str x, .non]
        exact ⟨DrOk.lone (by decide) (by decide) hx, nf_lone (by decide)⟩
      · obtain ⟨n, _, h⟩ := List.mem_flatMap.mp h
        obtain ⟨j, x, z, hx, hz, lt, rfl⟩ := mem_alikeF h
        show DrOk ys "alike" x (.str z) ∧ nfT ys "alike" x (.str z) = [.str "alike", .str x, .str z]
        refine ⟨DrOk.two (by decide) (by decide) (List.mem_of_getElem? hx) (List.mem_of_getElem? hz) (fun e => ?_), nf_alike nd hx hz lt⟩
        have a := ix_eq nd hx
        have b := ix_eq nd hz
        have e2 := e.2
        rw [e2] at a
        omega
    · obtain ⟨x, hx, rfl⟩ := List.mem_map.mp h
      show DrOk ys "still" x .non ∧ nfT ys "still" x .non = [.str "still", .str x, .non]
      exact ⟨DrOk.lone (by decide) (by decide) hx, nf_lone (by decide)⟩
  · obtain ⟨x, hx, h⟩ := List.mem_flatMap.mp h
    obtain ⟨y, hy, h⟩ := List.mem_flatMap.mp h
    rw [← pairF_kinds] at h
    obtain ⟨k, hk, h⟩ := List.mem_flatMap.mp h
    have ks : k = "kept" ∨ k = "over" ∨ k = "undone" := by
      rcases List.mem_cons.mp hk with e | hk
      · exact .inl e
      rcases List.mem_cons.mp hk with e | hk
      · exact .inr (.inl e)
      exact .inr (.inr (List.mem_singleton.mp hk))
    have k1 : k ∉ LK := by rcases ks with rfl | rfl | rfl <;> decide
    have k2 : k ∈ KL := by rcases ks with rfl | rfl | rfl <;> decide
    have k3 : k ≠ "alike" := by rcases ks with rfl | rfl | rfl <;> decide
    unfold kindF at h
    split at h
    · cases h
    · rename_i n
      cases List.mem_singleton.mp h
      exact ⟨DrOk.two k1 k2 hx hy (fun e => k3 e.1), nf_pair k3 n⟩
theorem menu_len {ys : List Str} (h : ys.length ≤ 12) : (menuT ys).length ≤ 600 := by
  have a1 : (idleT ys).length ≤ 12 := by unfold idleT; rw [List.length_map]; exact h
  have a2 : (alikeT ys).length ≤ 12 * 12 := Nat.le_trans (flat_len (f := alikeF ys) (fun n => alikeF_len n) _) (by rw [List.length_range]; exact Nat.mul_le_mul h h)
  have a3 : (stillT ys).length ≤ 12 := by unfold stillT; rw [List.length_map]; exact h
  have a4 : (pairsT ys).length ≤ 36 * 12 := Nat.le_trans (flat_len (f := fun x => ys.flatMap (pairF x)) (n := 36) (fun x => Nat.le_trans (flat_len (pairF_len x) ys) (by omega)) ys) (by omega)
  unfold menuT
  rw [List.length_append, List.length_append, List.length_append]
  omega
end Ask

namespace Ask
open PySem L2
def datS : V → PyData
  | .str z => .str z
  | _ => .none
theorem kl_asc : ∀ k ∈ KL, Asc k ∧ k.length ≤ 13 := by
  intro k hk
  simp only [KL, List.mem_cons, List.not_mem_nil, or_false] at hk
  rcases hk with rfl | rfl | rfl | rfl | rfl | rfl <;> exact ⟨.lit (by decide +kernel), by decide⟩
theorem nf_uniq {l : List V} {k x k2 x2 : Str} {s s2 : V} (h : l = [.str k, .str x, s]) (h2 : l = [.str k2, .str x2, s2]) : k = k2 ∧ x = x2 ∧ s = s2 := by
  have e := h.symm.trans h2
  injection e with e1 e
  injection e with e2 e
  injection e with e3 _
  exact ⟨V.str.inj e1, V.str.inj e2, e3⟩
/-- the one form as data -/
def triD (k x : Str) (s : V) : PyData := .tuple [.str k, .str x, datS s]
theorem datS_eq {s s2 : V} (h : s = .non ∨ ∃ y, s = .str y) (h2 : s2 = .non ∨ ∃ y, s2 = .str y) : PyData.eqv (datS s) (datS s2) = decide (s = s2) := by
  rcases h with rfl | ⟨y, rfl⟩ <;> rcases h2 with rfl | ⟨z, rfl⟩
  · rw [decide_eq_true rfl]; simp [datS, PyData.eqv]
  · rw [decide_eq_false (fun q => by cases q)]; simp [datS, PyData.eqv]
  · rw [decide_eq_false (fun q => by cases q)]; simp [datS, PyData.eqv]
  · show PyData.eqv (.str y) (.str z) = _
    rw [eqv_str1]
    by_cases q : y = z
    · rw [decide_eq_true q, decide_eq_true (congrArg V.str q)]
    · rw [decide_eq_false q, decide_eq_false (fun w => q (V.str.inj w))]
theorem triD_eq {k x k2 x2 : Str} {s s2 : V} (h : s = .non ∨ ∃ y, s = .str y) (h2 : s2 = .non ∨ ∃ y, s2 = .str y) : PyData.eqv (triD k x s) (triD k2 x2 s2) = decide (k = k2 ∧ x = x2 ∧ s = s2) := by
  unfold triD
  rw [PyData.eqv, PyData.eqvAll, PyData.eqvAll, PyData.eqvAll, PyData.eqvAll, eqv_str1, eqv_str1, datS_eq h h2, Bool.and_true]
  by_cases a : k = k2
  · by_cases b : x = x2
    · by_cases c : s = s2
      · simp [a, b, c]
      · simp [a, b, c]
    · simp [a, b]
  · simp [a]
theorem SOk.two {ys : List Str} {k : Str} {s : V} (h : SOk ys k s) : s = .non ∨ ∃ y, s = .str y := by
  rcases h.cases with h | ⟨y, h, _⟩
  · exact .inl h
  · exact .inr ⟨y, h⟩
theorem triD_sh {ys : List Str} {k x : Str} {s : V} (lts : Lts ys) (hk : k ∈ KL) (hx : x ∈ ys) (so : SOk ys k s) : SeqAt.shaped (triD k x s) = true := by
  have a := asc_ok (kl_asc k hk).1
  have b := asc_ok (lts.ok x hx).2.2
  rcases so.cases with rfl | ⟨y, rfl, hy⟩
  · refine shaped_of ?_ (show max 0 (max 0 (max 0 0)) + 1 ≤ 64 by decide)
    show (PyData.strOk k && (PyData.strOk x && (true && true))) = true
    rw [a, b] <;> rfl
  · have c := asc_ok (lts.ok y hy).2.2
    refine shaped_of ?_ (show max 0 (max 0 (max 0 0)) + 1 ≤ 64 by decide)
    show (PyData.strOk k && (PyData.strOk x && (PyData.strOk y && true))) = true
    rw [a, b, c] <;> rfl
theorem triD_dp {K : PySem.W.Frag} {H : Hp} {q : Addr} {k x : Str} {s : V} (e : H q = some (.tup [.str k, .str x, s])) (hs : s = .non ∨ ∃ y, s = .str y) : Dp K H (.ref q) (triD k x s) := by
  rcases hs with rfl | ⟨y, rfl⟩
  · exact .tup (SqT.of e) (.cons (.str _) (.cons (.str _) (.cons .non .nil)))
  · exact .tup (SqT.of e) (.cons (.str _) (.cons (.str _) (.cons (.str _) .nil)))
abbrev s_law : Stmt := top 35
def nLaw : List Str := ["_law_script", "_law_pen_here", "_law_words_here", "_law_letters", "_law_due", "_law_at", "_law_x", "_law_y", "_law_told", "_law_item", "_law_row", "_law_z"]
theorem sc_law : FnScope nLaw ["_law_script"] (defScope s_law) := ⟨rfl, rfl, rfl, by decide +kernel, rfl, by decide +kernel, by decide +kernel⟩
section
variable {P : Program} {w : World} {K : PySem.W.Frag} {mg : Str → Option Value} {base : Heap}
theorem run_law {f a f0 f1 f2 f3 f4 fL fS fE fQ CL CS CE CM CK CT CN : Addr} {fd fd0 fd1 fd2 fd3 fd4 fdL fdS fdE fdQ : FuncData} {A : Around} {outer : List Env} {s : Shared} {H : Hp} {ns : List Int}
    (F : Fun K "law" "law" s_law f fd) (T : Blt mg) (nZ : mg "zip" = none) (hCL : Cls K CL) (nL : NoAttr K CL "words") (hC : SnC K CS) (Y : XkC K CS)
    (G0 : FnOk P w K mg base CX0 1 f0 fd0 ["_law_script"] (spPen K)) (A0 : At K mg "_law_pen" f0 fd0 ["_law_script"])
    (G1 : FnOk P w K mg base CX0 1 f1 fd1 ["_law_pen_here", "_law_many"] spDraw) (A1 : At K mg "_law_draw" f1 fd1 ["_law_pen_here", "_law_many"])
    (G2 : FnOk P w K mg base CX0 3 f2 fd2 ["_law_pen_here", "_law_many"] spWords) (A2 : At K mg "_law_words" f2 fd2 ["_law_pen_here", "_law_many"])
    (G3 : FnOk P w K mg base CX0 2 f3 fd3 ["_law_pen_here", "_law_words_here"] (spMarked K)) (A3 : At K mg "_law_marked" f3 fd3 ["_law_pen_here", "_law_words_here"])
    (G4 : FnOk P w K mg base CX0 9 f4 fd4 ["letters"] (spMenu K CL CS)) (A4 : At K mg "menu" f4 fd4 ["letters"])
    (ML : Mk K CL fL) (mL : mg "Letters" = some (.ref CL)) (bL : Binds K fdL ["self", "words"] []) (GL : FnOk P w K mg base (L2.CX P w) 4 fL fdL ["self", "words"] (spLet K CL CE CM))
    (MS : Mk K CS fS) (mS : mg "Sentence" = some (.ref CS)) (bS : Binds K fdS ["self", "letters", "kind", "first", "second"] []) (GS : FnOk P w K mg base (L2.CX P w) 7 fS fdS ["self", "letters", "kind", "first", "second"] (spSen K CL CS CK CT CN))
    (GE : FnOk P w K mg base CX0 2 fE fdE ["self", "other"] (spSEq K CL CS)) (bE : Binds K fdE ["self", "other"] []) (nE : OwnNe K CS fE)
    (GQ : FnOk P w K mg base CX0 1 fQ fdQ ["self", "other"] (spEq2 CL)) (bQ : Binds K fdQ ["self", "other"] []) (nQ : OwnNe K CL fQ)
    (hg : A.guards = some []) (hr : Room 10 A) (e0 : Env0 P w K mg base A outer s H) (bind : BindsTo s fd ⟨[.ref a], []⟩ [("_law_script", .ref a)]) (hS : SqL K H a (ns.map V.int)) (hl : ns.length ≤ 63) :
    codeAny (model P w) A (.call (.ref f) ⟨[.ref a], []⟩) (CR CX0 outer P w H s (fun v _ => v = .bl true) E0) s := by
  refine fn_run (us := [.ref a]) (vs := [.ref a]) F sc_law hr e0 bind (.cons rfl .nil) rfl fun cdv h8 => ?_
  have h1 := h8.mono (j := 1) (by decide)
  have h2 := h8.mono (j := 2) (by decide)
  have h3 := h8.mono (j := 3) (by decide)
  have h5 := h8.mono (j := 5) (by decide)
  have h7 := h8.mono (j := 8) (by decide)
  refine ⟨_, PSs.nox (pss_cons (ps_set (i := 1) sc_law.nd rfl (Or.inl rfl) (pe_call G0 (by exact h1) (by rfl) A0.m A0.k A0.b .nil pass0 (pa_cons (pv 0) pa_nil)))
      (pss_cons (ps_set (i := 2) sc_law.nd rfl (Or.inr rfl) (pe_call G3 (by exact h2) (by rfl) A3.m A3.k A3.b .nil pass0 (pa_cons (pv 1) (pa_cons (pe_call G2 (by exact h3) (by rfl) A2.m A2.k A2.b .nil pass0 (pa_cons (pv 1) (pa_cons (pe_op op_add pe_int (pe_call G1 (by exact h1) (by rfl) A1.m A1.k A1.b .nil pass0 (pa_cons (pv 1) (pa_cons pe_int pa_nil)))) pa_nil))) pa_nil))))
      (pss_cons (ps_par (i := 3) (j := 4) rfl sc_law.nd rfl rfl (by decide) rfl rfl (pa_cons (pe_make ML GL (by exact h5) (by rfl) mL bL .nil passE (pa_cons (pv 2) pa_nil)) (pa_cons (pe_lc (own := [("_law_x", 6)]) rfl sc_law.nd (pi_list (pv 2)) (blkOk_by (N := nLaw) (sc := defScope s_law) (by decide +kernel)) (fun _ _ _ _ _ => (pg_name (i := 6) sc_law.nd rfl (Or.inl rfl))) (fun _ _ _ _ _ => pts_nil) (fun _ _ _ _ _ => (pe_tup (pa_cons pe_str (pa_cons (pv 6) (pa_cons pe_non pa_nil)))))) pa_nil)) (by rfl))
      (pss_cons (ps_for PassesOwn.never rfl (pi_range1 rfl T.n_range (pa_cons (pe_callB call_len_seq (by rfl) T.n_len (by decide +kernel) (pa_cons (pv 2) pa_nil)) pa_nil)) (pg_name (i := 5) sc_law.nd rfl (Or.inr rfl)) (pss_one (ps_set (i := 4) sc_law.nd rfl (Or.inl rfl) (pe_op op_cat (pv 4) (pe_lc (own := [("_law_z", 11)]) rfl sc_law.nd (pi_list (pe_slice sl_list (pv 2) po_none (po_some (pv 5)))) (blkOk_by (N := nLaw) (sc := defScope s_law) (by decide +kernel)) (fun _ _ _ _ _ => (pg_name (i := 11) sc_law.nd rfl (Or.inl rfl))) (fun _ _ _ _ _ => pts_nil) (fun _ _ _ _ _ => (pe_tup (pa_cons pe_str (pa_cons (pe_ix (show IxR _ (rIxL K) from ix_list) (pv 2) (pv 5) (fun _ _ => rfl)) (pa_cons (pv 11) pa_nil))))))))))
      (pss_cons (ps_set (i := 4) sc_law.nd rfl (Or.inl rfl) (pe_op op_cat (pv 4) (pe_lc (own := [("_law_x", 6)]) rfl sc_law.nd (pi_list (pv 2)) (blkOk_by (N := nLaw) (sc := defScope s_law) (by decide +kernel)) (fun _ _ _ _ _ => (pg_name (i := 6) sc_law.nd rfl (Or.inl rfl))) (fun _ _ _ _ _ => pts_nil) (fun _ _ _ _ _ => (pe_tup (pa_cons pe_str (pa_cons (pv 6) (pa_cons pe_non pa_nil))))))))
      (pss_cons (ps_for PassesOwn.never rfl (pi_list (pv 2)) (pg_name (i := 6) sc_law.nd rfl (Or.inl rfl)) (pss_one (ps_for PassesOwn.never rfl (pi_list (pv 2)) (pg_name (i := 7) sc_law.nd rfl (Or.inl rfl)) (pss_cons (ps_expr (pe_bm PySem.F.plainAttrs_list PySem.F.slot_list_append PySem.F.type_list_append mt_append (pv 4) (pa_cons (pe_tup (pa_cons pe_str (pa_cons (pv 6) (pa_cons (pv 7) pa_nil)))) pa_nil)))
      (pss_one (ps_set (i := 4) sc_law.nd rfl (Or.inl rfl) (pe_op op_cat (pe_op op_cat (pv 4) (pe_slice sl_list (pe_lst (pa_cons (pe_tup (pa_cons pe_str (pa_cons (pv 6) (pa_cons (pv 7) pa_nil)))) pa_nil)) po_none (po_some (pe_callTy call_int1 (by rfl) T.n_int (by decide +kernel) (pa_cons (pe_cmpR op_ne (pv 6) (pv 7) (nomark _)) pa_nil))))) (pe_lst (pa_cons (pe_tup (pa_cons pe_str (pa_cons (pv 6) (pa_cons (pv 7) pa_nil)))) pa_nil)))))))))
      (pss_cons (ps_set (i := 8) sc_law.nd rfl (Or.inl rfl) (pe_call G4 (by exact h8) (by rfl) A4.m A4.k A4.b .nil pass0 (pa_cons (pv 3) pa_nil)))
      (pss_cons (ps_if (PW.pt (pw_or (pt_not (pt_val (pe_callB call_isi (by rfl) T.n_isinstance (by decide +kernel) (pa_cons (pv 8) (pa_cons (pe_bltn (v := .ty "tuple") (u := .type "tuple") rfl T.n_tuple (by decide +kernel) rfl) pa_nil))))) (pw_or1 (pt_cmpR op_ne (pe_callB call_len_seq (by rfl) T.n_len (by decide +kernel) (pa_cons (pv 8) pa_nil)) (pe_callB call_len_seq (by rfl) T.n_len (by decide +kernel) (pa_cons (pv 4) pa_nil)) (nomark _))))) (pss_one (ps_ret pe_bl)) pss_nil)
      (pss_cons (ps_for PassesOwn.never rfl (pi_mix (by rfl) nZ (pa_cons (pv 8) (pa_cons (pv 4) pa_nil))) (show PG _ _ (gTup K 2 _) from pg_tup rfl (pgs_cons (pg_name (i := 9) sc_law.nd rfl (Or.inl rfl)) (pgs_cons (pg_name (i := 10) sc_law.nd rfl (Or.inl rfl)) pgs_nil))) (pss_cons (ps_if (PW.pt (pw_or (pt_not (pt_val (pe_callB call_isi (by rfl) T.n_isinstance (by decide +kernel) (pa_cons (pv 9) (pa_cons (pe_gv (v := .ref CS) rfl ⟨_, mS, rfl⟩) pa_nil))))) (pw_or (pt_cmpR (op_neD h8.units) (pe_tup (pa_cons (pe_fld (pv 9) rfl) (pa_cons (pe_fld (pv 9) rfl) (pa_cons (pe_fld (pv 9) rfl) pa_nil)))) (pv 10) (nomark _)) (pw_or1 (pt_cmpR (op_neI (C := CL) (E := E0) GQ (by exact h2) bQ pass0 nQ) (pe_fld (pv 9) rfl) (pv 3) (nomark _)))))) (pss_one (ps_ret pe_bl)) pss_nil)
      (pss_one (ps_if (pt_cmpR (op_neI (C := CS) (E := E0) GE (by exact h3) bE pass0 nE) (pv 9) (pe_make MS GS (by exact h7) (by rfl) mS bS .nil passE (pa_cons (pv 3) (pa_cons (pe_ix ix_tup (pv 10) pe_int (fun _ _ => rfl)) (pa_cons (pe_ix ix_tup (pv 10) pe_int (fun _ _ => rfl)) (pa_cons (pe_ix ix_tup (pv 10) pe_int (fun _ _ => rfl)) pa_nil))))) (nomark _)) (pss_one (ps_ret pe_bl)) pss_nil))))
      (pss_one (ps_ret (pe_cmpR (op_eqD h8.units) (pe_fld (pv 3) rfl) (pe_callTy call_tuple_of (by rfl) T.n_tuple (by decide +kernel) (pa_cons (pv 2) pa_nil)) (nomark _))))))))))))), ?_⟩
  have z1 : (1000000 : Nat) ≤ sizeLine := by decide
  refine ⟨_, rfl, a, ns, rfl, hS, hl, fun H0 p c s0 hp0 hpen => ?_⟩
  -- words
  refine ⟨_, rfl, _, rfl, _, rfl, p, c, ns, 5, 0, rfl, hpen, by omega, by decide, by decide, fun H1 r g1 r0 r1 => ?_⟩
  refine ⟨_, _, rfl, rfl, p, c, ns, 1 + r, _, rfl, g1.pen, by omega, by omega, by omega, fun H2 q0 ws g2 hq0 hL0 wl wnd wok => ?_⟩
  refine ⟨p, c, q0, ns, _, ws, rfl, g2.pen, by omega, SqL.of hL0, by omega, by omega, wnd, wok, fun H3 q ys g3 hq hL lts ylen => ?_⟩
  have py : ∀ y ∈ ys, y.length ≤ 500 ∧ Asc y := lts.fit
  have yl := lts.l1
  have hn : (ys.map V.str).length = ys.length := List.length_map ..
  clear g1 g2 g3 hq0 hL0 wl wnd wok hq hpen hp0 s0
  -- letters
  refine ⟨_, rfl, fun m md hm hmd hne => let_made lts (.inl (SqL.of hL)) hm hmd hne fun H4 t s4 hM => ⟨rfl, ?_⟩⟩
  have hL4 := s4 _ _ hL
  -- idle
  refine ⟨_, rfl, q, rfl, ⟨_, SqL.of hL4⟩, fun D hD => ?_⟩
  have hqD : q ≠ D := ne_of_none hL4 hD
  refine lc_it (walk_list (xs := ys.map V.str)) (fun i H' => KeepN H4 H' ∧ H' q = some (.lst (ys.map V.str)) ∧ ∃ vs, H' D = some (.lst vs) ∧ RowsV H' vs ((ys.take i).map fun x => (("idle" : Str), x, V.non))) ⟨.of (Ask.Same.made1 (Same.refl H4) hD), (upd_ne hqD).trans hL4, [], upd_same, RowsV.nil⟩ (fun i H' _ hh => SqL.of hh.2.1) ?_ ?_
  · rintro i v H5 H6 hi ⟨k5, hL5, vs, eD, rv⟩ ⟨rfl, hv⟩
    rw [List.getElem?_map] at hv
    rw [hn] at hi
    obtain ⟨x, hx⟩ : ∃ x, ys[i]? = some x := ⟨_, List.getElem?_eq_getElem hi⟩
    rw [hx] at hv
    cases hv
    have lv := rv.1
    rw [List.length_map, List.length_take] at lv
    refine ⟨rfl, _, rfl, by show 3 ≤ sizeLine; omega, fun u hu => ?_⟩
    obtain ⟨k6, eD6, rv6⟩ := rv.put (t := (("idle" : Str), x, V.non)) eD hu
    refine ⟨vs, eD6, by omega, k5.trans k6, ?_, _, upd_same, ?_⟩
    · rw [upd_ne hqD]
      exact (upd_ne (ne_of_none hL5 hu)).trans hL5
    · rw [map_take hx]
      exact rv6
  rintro H5 ⟨k5, hL5, vs, eD, rv⟩
  rw [hn, List.take_length] at rv
  replace rv : RowsV H5 vs (idleT ys) := rv
  have hM5 := hM.keepN k5
  refine ⟨_, _, rfl, ?_⟩
  clear hL hL4 hD
  refine ⟨_, rfl, q, _, rfl, .inl (SqL.of hL5), _, rfl, ?_⟩
  have z2 : (2 : Int) ^ 62 = 4611686018427387904 := by decide
  refine ⟨by rw [hn]; omega, by rw [hn]; omega, for_range (lo := 0) (n := (ys.map V.str).length) (fun i σ' H' => ∃ (D : Addr) (vs : List V) (o5 : Option V), σ' = [some (.ref a), some (.ref p), some (.ref q), some (.ref m), some (.ref D), o5, none, none, none, none, none, none] ∧ KeepN H4 H' ∧ H' q = some (.lst (ys.map V.str)) ∧ q ≠ D ∧ H' D = some (.lst vs) ∧ RowsV H' vs (idleT ys ++ (List.range i).flatMap (alikeF ys))) ⟨D, vs, _, rfl, k5, hL5, hqD, eD, by rw [show (List.range 0).flatMap (alikeF ys) = [] from rfl, List.append_nil]; exact rv⟩ ?_ ?_⟩
  · clear eD rv hL5 k5 hqD hM5 H5 vs D
    rintro i σ' H5 hi ⟨D, vs, o5, rfl, k5, hL5, hqD, eD, rv⟩
    rw [hn] at hi
    obtain ⟨x, hx⟩ : ∃ x, ys[i]? = some x := ⟨_, List.getElem?_eq_getElem hi⟩
    refine ⟨_, rfl, _, rfl, _, rfl, _, rfl, q, _, rfl, SqL.of hL5, fun l hl => ?_⟩
    rw [Int.zero_add, cutV_take _ _ (by rw [hn]; omega), ← List.map_take]
    have hql := ne_of_none hL5 hl
    have s6 := Ask.Same.made1 (o := .lst ((ys.take i).map V.str)) (Same.refl H5) hl
    have f6 : upd H5 l (.lst ((ys.take i).map V.str)) l = some (.lst ((ys.take i).map V.str)) := upd_same
    replace hL5 := s6 _ _ hL5
    replace eD := s6 _ _ eD
    replace rv := rv.keepN (.of s6)
    replace k5 := k5.trans (.of s6)
    generalize upd H5 l (.lst ((ys.take i).map V.str)) = H6 at s6 f6 hL5 eD rv k5 ⊢
    refine ⟨l, rfl, ⟨_, SqL.of f6⟩, fun D2 hD2 => ?_⟩
    have hqD2 : q ≠ D2 := ne_of_none hL5 hD2
    have hDD2 : D ≠ D2 := ne_of_none eD hD2
    have hlD2 : l ≠ D2 := ne_of_none f6 hD2
    have s7 := Ask.Same.made1 (o := .lst []) (Same.refl H6) hD2
    refine lc_it (walk_list (xs := (ys.take i).map V.str)) (fun j H' => KeepN H6 H' ∧ H' q = some (.lst (ys.map V.str)) ∧ H' D = some (.lst vs) ∧ H' l = some (.lst ((ys.take i).map V.str)) ∧ ∃ us, H' D2 = some (.lst us) ∧ RowsV H' us (((ys.take i).take j).map fun z => (("alike" : Str), x, V.str z))) ⟨.of s7, s7 _ _ hL5, s7 _ _ eD, s7 _ _ f6, [], upd_same, RowsV.nil⟩ (fun i H' _ hh => SqL.of hh.2.2.2.1) ?_ ?_
    · rintro j v H7 H7' hj ⟨k7, hL7, eD7, el7, us, eU, ru⟩ ⟨rfl, hv⟩
      rw [List.length_map, List.length_take] at hj
      have hji : j < i := by omega
      obtain ⟨z, hz⟩ : ∃ z, ys[j]? = some z := ⟨_, List.getElem?_eq_getElem (by omega)⟩
      have hz2 : (ys.take i)[j]? = some z := by rw [List.getElem?_take_of_lt hji, hz]
      rw [List.getElem?_map, hz2] at hv
      cases hv
      have lu := ru.1
      rw [List.length_map, List.length_take, List.length_take] at lu
      refine ⟨rfl, _, rfl, _, rfl, q, _, _, _, rfl, rfl, SqL.of hL7, at_by (j := i) (by omega) (by rw [List.getElem?_map, hx]; rfl), _, rfl, by show 3 ≤ sizeLine; omega, fun u hu => ?_⟩
      obtain ⟨k8, eU8, ru8⟩ := ru.put (t := (("alike" : Str), x, V.str z)) eU hu
      refine ⟨us, eU8, by omega, k7.trans k8, ?_, ?_, ?_, _, upd_same, ?_⟩
      · rw [upd_ne hqD2]
        exact (upd_ne (ne_of_none hL7 hu)).trans hL7
      · rw [upd_ne hDD2]
        exact (upd_ne (ne_of_none eD7 hu)).trans eD7
      · rw [upd_ne hlD2]
        exact (upd_ne (ne_of_none el7 hu)).trans el7
      · rw [map_take hz2]
        exact ru8
    rintro H7 ⟨k7, hL7, eD7, el7, us, eU, ru⟩
    rw [List.length_map, List.take_length] at ru
    have rv7 := rv.keepN k7
    have lu := ru.1
    have lv := rv7.1
    rw [List.length_map, List.length_take] at lu
    have a1 : (idleT ys).length ≤ 12 := by unfold idleT; rw [List.length_map]; exact yl
    have a2 : ((List.range i).flatMap (alikeF ys)).length ≤ 12 * 12 := Nat.le_trans (flat_len (f := alikeF ys) (fun n => alikeF_len n) _) (by rw [List.length_range]; exact Nat.mul_le_mul yl (by omega))
    rw [List.length_append] at lv
    refine ⟨D, D2, vs, us, rfl, rfl, eD7, eU, by omega, fun D3 hD3 => ?_⟩
    have s8 := Ask.Same.made1 (o := .lst (vs ++ us)) (Same.refl H7) hD3
    refine ⟨D3, _, _, rfl, (k5.trans k7).trans (.of s8), s8 _ _ hL7, ne_of_none hL7 hD3, upd_same, ?_⟩
    have ea : alikeF ys i = (ys.take i).map fun z => (("alike" : Str), x, V.str z) := by
      unfold alikeF
      rw [hx]
    rw [List.range_succ, List.flatMap_append, List.flatMap_singleton, ea, ← List.append_assoc]
    exact (rv7.app ru).keepN (.of s8)
  clear eD rv hL5 k5 hqD hM5 H5 vs D
  rintro σ' H5 ⟨D, vs, o5, rfl, k5, hL5, hqD, eD, rv⟩
  rw [hn] at rv
  replace rv : RowsV H5 vs (idleT ys ++ alikeT ys) := rv
  -- still
  refine ⟨_, rfl, ?_⟩
  refine ⟨_, rfl, q, rfl, ⟨_, SqL.of hL5⟩, fun D2 hD2 => ?_⟩
  have hqD2 : q ≠ D2 := ne_of_none hL5 hD2
  have hDD2 : D ≠ D2 := ne_of_none eD hD2
  refine lc_it (walk_list (xs := ys.map V.str)) (fun i H' => KeepN H4 H' ∧ H' q = some (.lst (ys.map V.str)) ∧ H' D = some (.lst vs) ∧ KeepN H5 H' ∧ ∃ us, H' D2 = some (.lst us) ∧ RowsV H' us ((ys.take i).map fun x => (("still" : Str), x, V.non))) ⟨k5.trans (.of (Ask.Same.made1 (Same.refl H5) hD2)), (upd_ne hqD2).trans hL5, (upd_ne hDD2).trans eD, .of (Ask.Same.made1 (Same.refl H5) hD2), [], upd_same, RowsV.nil⟩ (fun i H' _ hh => SqL.of hh.2.1) ?_ ?_
  · rintro i v H6 H7 hi ⟨k6, hL6, eD6, kk, us, eU, ru⟩ ⟨rfl, hv⟩
    rw [List.getElem?_map] at hv
    rw [hn] at hi
    obtain ⟨x, hx⟩ : ∃ x, ys[i]? = some x := ⟨_, List.getElem?_eq_getElem hi⟩
    rw [hx] at hv
    cases hv
    have lv := ru.1
    rw [List.length_map, List.length_take] at lv
    refine ⟨rfl, _, rfl, by show 3 ≤ sizeLine; omega, fun u hu => ?_⟩
    obtain ⟨k7, eU7, ru7⟩ := ru.put (t := (("still" : Str), x, V.non)) eU hu
    refine ⟨us, eU7, by omega, k6.trans k7, ?_, ?_, kk.trans k7, _, upd_same, ?_⟩
    · rw [upd_ne hqD2]
      exact (upd_ne (ne_of_none hL6 hu)).trans hL6
    · rw [upd_ne hDD2]
      exact (upd_ne (ne_of_none eD6 hu)).trans eD6
    · rw [map_take hx]
      exact ru7
  rintro H6 ⟨k6, hL6, eD6, kk, us, eU, ru⟩
  rw [hn, List.take_length] at ru
  replace ru : RowsV H6 us (stillT ys) := ru
  have rw6 := rv.keepN kk
  have lv := rw6.1
  have lu := ru.1
  have ml := menu_len yl
  have ml2 : (menuT ys).length = (idleT ys ++ alikeT ys).length + (stillT ys).length + (pairsT ys).length := by
    unfold menuT
    rw [List.length_append, List.length_append]
  refine ⟨D, D2, vs, us, rfl, rfl, eD6, eU, by omega, fun D3 hD3 => ?_⟩
  have hqD3 : q ≠ D3 := ne_of_none hL6 hD3
  have s7 := Ask.Same.made1 (o := .lst (vs ++ us)) (Same.refl H6) hD3
  have eD7 : upd H6 D3 (.lst (vs ++ us)) D3 = some (.lst (vs ++ us)) := upd_same
  have rv7 := (rw6.app ru).keepN (.of s7)
  have hL7 := s7 _ _ hL6
  have k7 := k6.trans (.of s7)
  clear eD rv hL5 k5 hqD eD6 kk eU ru rw6 lv lu hqD2 hDD2 hL6 k6 hD2
  generalize upd H6 D3 (.lst (vs ++ us)) = H7 at s7 eD7 rv7 hL7 k7 ⊢
  clear s7 hD3 H6
  generalize vs ++ us = ws at eD7 rv7
  -- pairs
  have three : (3 : Nat) ≤ sizeLine := by omega
  refine ⟨_, rfl, q, rfl, ⟨_, SqL.of hL7⟩, ?_⟩
  refine for_it (walk_list (xs := ys.map V.str)) (fun i σ' H' => ∃ (D : Addr) (vs : List V) (o6 o7 : Option V), σ' = [some (.ref a), some (.ref p), some (.ref q), some (.ref m), some (.ref D), o5, o6, o7, none, none, none, none] ∧ KeepN H4 H' ∧ H' q = some (.lst (ys.map V.str)) ∧ q ≠ D ∧ H' D = some (.lst vs) ∧ RowsV H' vs ((idleT ys ++ alikeT ys ++ stillT ys) ++ (ys.take i).flatMap fun x => ys.flatMap (pairF x))) ⟨D3, ws, none, none, rfl, k7, hL7, hqD3, eD7, by rw [List.take_zero, List.flatMap_nil, List.append_nil]; exact rv7⟩ (fun i σ' H' _ ⟨_, _, _, _, _, _, e, _⟩ => SqL.of e) ?_ ?_
  · clear eD7 rv7 hL7 k7 hqD3 D3 ws vs us D D2 H7 ml2
    rintro i v σ' H7 H7' hi ⟨D, vs, o6, o7, rfl, k7, hL7, hqD, eD, rv⟩ ⟨rfl, hv⟩
    rw [List.getElem?_map] at hv
    rw [hn] at hi
    obtain ⟨x, hx⟩ : ∃ x, ys[i]? = some x := ⟨_, List.getElem?_eq_getElem hi⟩
    rw [hx] at hv
    cases hv
    refine ⟨_, rfl, q, rfl, ⟨_, SqL.of hL7⟩, ?_⟩
    refine for_it (walk_list (xs := ys.map V.str)) (fun j σ' H' => ∃ (D : Addr) (vs : List V) (o7 : Option V), σ' = [some (.ref a), some (.ref p), some (.ref q), some (.ref m), some (.ref D), o5, some (.str x), o7, none, none, none, none] ∧ KeepN H4 H' ∧ H' q = some (.lst (ys.map V.str)) ∧ q ≠ D ∧ H' D = some (.lst vs) ∧ RowsV H' vs (((idleT ys ++ alikeT ys ++ stillT ys) ++ (ys.take i).flatMap fun x => ys.flatMap (pairF x)) ++ (ys.take j).flatMap (pairF x))) ⟨D, vs, o7, rfl, k7, hL7, hqD, eD, by rw [List.take_zero, List.flatMap_nil, List.append_nil]; exact rv⟩ (fun i σ' H' _ ⟨_, _, _, _, _, e, _⟩ => SqL.of e) ?_ ?_
    · clear eD rv hL7 k7 hqD D vs
      rintro j v σ' H7 H7' hj ⟨D, vs, o7, rfl, k7, hL7, hqD, eD, rv⟩ ⟨rfl, hv⟩
      rw [List.getElem?_map] at hv
      rw [hn] at hj
      obtain ⟨y, hy⟩ : ∃ y, ys[j]? = some y := ⟨_, List.getElem?_eq_getElem hj⟩
      rw [hy] at hv
      cases hv
      have lv := rv.1
      have lb : vs.length ≤ 1000 := by
        have a1 : (idleT ys).length ≤ 12 := by unfold idleT; rw [List.length_map]; exact yl
        have a2 : (alikeT ys).length ≤ 12 * 12 := Nat.le_trans (flat_len (f := alikeF ys) (fun n => alikeF_len n) _) (by rw [List.length_range]; exact Nat.mul_le_mul yl yl)
        have a3 : (stillT ys).length ≤ 12 := by unfold stillT; rw [List.length_map]; exact yl
        have a4 := flat_len (f := fun x => ys.flatMap (pairF x)) (n := 36) (fun x => Nat.le_trans (flat_len (pairF_len x) ys) (by omega)) (ys.take i)
        have a5 := flat_len (f := pairF x) (n := 3) (pairF_len x) (ys.take j)
        rw [List.length_take] at a4 a5
        rw [List.length_append, List.length_append, List.length_append, List.length_append] at lv
        omega
      -- kept
      refine ⟨_, rfl, .inl ⟨rfl, _, SqL.of eD⟩, _, rfl, _, rfl, three, fun u hu => ?_⟩
      obtain ⟨k8, eD8, rv8⟩ := rv.put (t := (("kept" : Str), x, V.str y)) eD hu
      refine ⟨D, vs, _, rfl, rfl, eD8, by omega, ?_⟩
      have hL8 : (upd (upd H7' u (.tup [.str "kept", .str x, .str y])) D (.lst (vs ++ [.ref u]))) q = some (.lst (ys.map V.str)) := by
        rw [upd_ne hqD]
        exact (upd_ne (ne_of_none hL7 hu)).trans hL7
      have fD8 : (upd (upd H7' u (.tup [.str "kept", .str x, .str y])) D (.lst (vs ++ [.ref u]))) D = some (.lst (vs ++ [.ref u])) := upd_same
      replace k8 := k7.trans k8
      generalize upd (upd H7' u (.tup [.str "kept", .str x, .str y])) D (.lst (vs ++ [.ref u])) = H8 at k8 rv8 hL8 fD8 ⊢
      clear eD8 hu k7 hL7 eD rv
      -- over
      refine ⟨_, rfl, _, rfl, _, rfl, three, fun u2 hu2 => ?_⟩
      have s9 := Ask.Same.made1 (o := .tup [.str "over", .str x, .str y]) (Same.refl H8) hu2
      have f9 : upd H8 u2 (.tup [.str "over", .str x, .str y]) u2 = some (.tup [.str "over", .str x, .str y]) := upd_same
      generalize upd H8 u2 (.tup [.str "over", .str x, .str y]) = H9 at s9 f9 ⊢
      refine ⟨by show 1 ≤ sizeLine; omega, fun l hl => ?_⟩
      have s10 := Ask.Same.made1 (o := .lst [.ref u2]) (Same.refl H9) hl
      have f10 : upd H9 l (.lst [.ref u2]) l = some (.lst [.ref u2]) := upd_same
      generalize upd H9 l (.lst [.ref u2]) = H10 at s10 f10 ⊢
      refine ⟨_, rfl, _, rfl, rfl, .inr ⟨_, rfl, _, rfl, l, _, rfl, SqL.of f10, fun l2 hl2 => ?_⟩⟩
      have ec : cutV [V.ref u2] none (some (if (!decide (V.str x = V.str y)) = true then (1 : Int) else 0)) = if x = y then [] else [V.ref u2] := by
        by_cases e : x = y
        · rw [if_pos e, e, decide_eq_true rfl]
          rfl
        · rw [if_neg e, decide_eq_false (fun z => e (V.str.inj z))]
          rfl
      rw [ec]
      have s11 := Ask.Same.made1 (o := .lst (if x = y then [] else [V.ref u2])) (Same.refl H10) hl2
      have f11 : upd H10 l2 (.lst (if x = y then [] else [V.ref u2])) l2 = some (.lst (if x = y then [] else [V.ref u2])) := upd_same
      generalize upd H10 l2 (.lst (if x = y then [] else [V.ref u2])) = H11 at s11 f11 ⊢
      have s8 := (s9.trans s10).trans s11
      have lc : (if x = y then [] else [V.ref u2]).length ≤ 1 := by split <;> simp
      have lu : (vs ++ [V.ref u]).length = vs.length + 1 := by rw [List.length_append]; rfl
      refine ⟨D, l2, _, _, rfl, rfl, s8 _ _ fD8, f11, by omega, fun D4 hD4 => ?_⟩
      have s12 := Ask.Same.made1 (o := .lst (vs ++ [V.ref u] ++ (if x = y then [] else [V.ref u2]))) (Same.refl H11) hD4
      have f12 : upd H11 D4 (.lst (vs ++ [V.ref u] ++ (if x = y then [] else [V.ref u2]))) D4 = some (.lst (vs ++ [V.ref u] ++ (if x = y then [] else [V.ref u2]))) := upd_same
      generalize upd H11 D4 (.lst (vs ++ [V.ref u] ++ (if x = y then [] else [V.ref u2]))) = H12 at s12 f12 ⊢
      -- undone
      refine ⟨_, rfl, _, rfl, three, fun u3 hu3 => ?_⟩
      have s13 := Ask.Same.made1 (o := .tup [.str "undone", .str x, .str y]) (Same.refl H12) hu3
      have f13 : upd H12 u3 (.tup [.str "undone", .str x, .str y]) u3 = some (.tup [.str "undone", .str x, .str y]) := upd_same
      generalize upd H12 u3 (.tup [.str "undone", .str x, .str y]) = H13 at s13 f13 ⊢
      refine ⟨by show 1 ≤ sizeLine; omega, fun l3 hl3 => ?_⟩
      have s14 := Ask.Same.made1 (o := .lst [.ref u3]) (Same.refl H13) hl3
      have f14 : upd H13 l3 (.lst [.ref u3]) l3 = some (.lst [.ref u3]) := upd_same
      generalize upd H13 l3 (.lst [.ref u3]) = H14 at s14 f14 ⊢
      refine ⟨D4, l3, _, _, rfl, rfl, s14 _ _ (s13 _ _ f12), f14, by rw [List.length_append]; show _ + 1 ≤ sizeLine; omega, fun D5 hD5 => ?_⟩
      have s15 := Ask.Same.made1 (o := .lst (vs ++ [V.ref u] ++ (if x = y then [] else [V.ref u2]) ++ [.ref u3])) (Same.refl H14) hD5
      have f15 : upd H14 D5 (.lst (vs ++ [V.ref u] ++ (if x = y then [] else [V.ref u2]) ++ [.ref u3])) D5 = some (.lst (vs ++ [V.ref u] ++ (if x = y then [] else [V.ref u2]) ++ [.ref u3])) := upd_same
      have nD5 := ne_of_none (((s8.trans s12).trans (s13.trans s14)) _ _ hL8) hD5
      generalize upd H14 D5 (.lst (vs ++ [V.ref u] ++ (if x = y then [] else [V.ref u2]) ++ [.ref u3])) = H15 at s15 f15 ⊢
      have s815 := ((s8.trans s12).trans (s13.trans s14)).trans s15
      refine ⟨D5, _, _, rfl, k8.trans (.of s815), s815 _ _ hL8, nD5, f15, ?_⟩
      rw [flat_take hy, ← List.append_assoc]
      have r2 : RowsV H15 (if x = y then [] else [V.ref u2]) (if x = y then [] else [(("over" : Str), x, V.str y)]) := by
        by_cases e : x = y
        · rw [if_pos e, if_pos e]
          exact .nil
        · rw [if_neg e, if_neg e]
          exact .one ((((s10.trans s11).trans s12).trans ((s13.trans s14).trans s15)) _ _ f9)
      have r3 : RowsV H15 [.ref u3] [(("undone" : Str), x, V.str y)] := .one ((s14.trans s15) _ _ f13)
      have r1 := (((rv8.keepN (.of s815)).app r2).app r3)
      unfold pairF at r1 ⊢
      simp only [List.append_assoc] at r1 ⊢
      exact r1
    · rintro σ' H8 ⟨D, vs, o7, rfl, k8, hL8, hqD, eD, rv⟩
      rw [hn, List.take_length] at rv
      refine ⟨D, vs, _, _, rfl, k8, hL8, hqD, eD, ?_⟩
      rw [flat_take hx, ← List.append_assoc]
      exact rv
  clear eD7 rv7 hL7 k7 hqD3 D3 ws vs us D D2 H7 ml2
  rintro σ' H7 ⟨D, vs, o6, o7, rfl, k7, hL7, hqD, eD, rv⟩
  rw [hn, List.take_length] at rv
  replace rv : RowsV H7 vs (menuT ys) := rv
  have hM7 := hM.keepN k7
  -- menu
  refine ⟨_, rfl, m, t, ys, rfl, hM7, lts, fun H8 e ws s8 fe sv => ?_⟩
  have rv8 := rv.keepN (.of s8)
  have eD8 := s8 _ _ eD
  have hL8 := s8 _ _ hL7
  have hM8 := hM7.same s8
  clear rv eD hL7 hM7 s8 hqD k7 H7
  have vl : vs.length = ws.length := rv8.1.trans sv.1.symm
  refine ⟨_, rfl, _, _, _, _, true, rfl, .ty _, .base (.tup fe), kit_ty (by show kitB "tuple" "tuple" = some true; decide +kernel), _, rfl, ite2 (fun z => absurd z (by decide)) (fun _ => ⟨_, rfl, e, _, rfl, .inr (SqT.of fe), _, rfl, D, _, rfl, .inl (SqL.of eD8), rfl, _, rfl, ?_⟩)⟩
  rw [vl, decide_eq_true rfl]
  refine iteF ?_
  refine ⟨_, rfl, _, rfl, e, D, ws, vs, rfl, SqT.of fe, SqL.of eD8, ?_⟩
  refine for_it (walk_mix (xs := ws) (ys := vs) vl.symm) (fun i σ' H' => ∃ o9 o10 : Option V, σ' = [some (.ref a), some (.ref p), some (.ref q), some (.ref m), some (.ref D), o5, o6, o7, some (.ref e), o9, o10, none] ∧ Same H8 H') ⟨none, none, rfl, Same.refl _⟩ (fun i σ' H' _ ⟨_, _, _, e⟩ => ⟨SqT.of (e _ _ fe), SqL.of (e _ _ eD8)⟩) ?_ ?_
  · rintro i v σ' H9 H10 hi ⟨o9, o10, rfl, s9⟩ ⟨u, x0, y0, rfl, hu, rfl, ex, ey⟩
    obtain ⟨⟨k3, x3, s3⟩, ht⟩ : ∃ t3, (menuT ys)[i]? = some t3 := ⟨_, List.getElem?_eq_getElem (by rw [← sv.1]; exact hi)⟩
    obtain ⟨pi, rfl, hA⟩ := sv.2 i _ _ ex ht
    obtain ⟨ri, rfl, hR⟩ := rv8.2 i _ _ ey ht
    obtain ⟨dr, nf3⟩ := menu_ok lts.nd (List.mem_of_getElem? ht)
    replace hA : SenAt K CL CS H8 pi ys k3 x3 s3 := hA
    replace hR : H8 ri = some (.tup [.str k3, .str x3, s3]) := hR
    replace dr : DrOk ys k3 x3 s3 := dr
    replace nf3 : nfT ys k3 x3 s3 = [.str k3, .str x3, s3] := nf3
    have s10 := s9.trans (Ask.Same.made1 (o := .tup [.ref pi, .ref ri]) (Same.refl H9) hu)
    have fu : upd H9 u (.tup [.ref pi, .ref ri]) u = some (.tup [.ref pi, .ref ri]) := upd_same
    generalize upd H9 u (.tup [.ref pi, .ref ri]) = H10 at s10 fu ⊢
    refine ⟨u, _, rfl, SqT.of fu, rfl, _, _, rfl, _, _, rfl, rfl, ?_⟩
    have kk : PySem.W.kitOne K (.ref CS) (.ref CS) = some true := by
      unfold PySem.W.kitOne
      rw [if_pos (by simp)]
    obtain ⟨dx, m2, t2, q6, hM6⟩ := hA.same s10
    have hR10 := s10 _ _ hR
    obtain ⟨e1, e2, e3, e4⟩ := id dr
    refine ⟨_, rfl, _, _, _, _, true, rfl, .own CS, .base (.ins q6 hC.c Y.ha Y.hn Y.ht Y.hm), kk, _, rfl, ite2 (fun z => absurd z (by decide)) (fun _ => ?_)⟩
    refine ⟨_, rfl, pi, CS, dx, _, _, rfl, q6, hC.c, hC.a2, rfl, _, rfl, pi, CS, dx, _, _, rfl, q6, hC.c, hC.a3, rfl, _, rfl, pi, CS, dx, _, _, rfl, q6, hC.c, hC.a4, rfl, three, fun w hw => ?_⟩
    have s11 := Ask.Same.made1 (o := .tup [.str k3, .str x3, s3]) (Same.refl H10) hw
    have fw : upd H10 w (.tup [.str k3, .str x3, s3]) w = some (.tup [.str k3, .str x3, s3]) := upd_same
    generalize upd H10 w (.tup [.str k3, .str x3, s3]) = H11 at s11 fw ⊢
    refine ⟨_, rfl, triD k3 x3 s3, triD k3 x3 s3, triD_dp fw e3.two, triD_dp (s11 _ _ hR10) e3.two, triD_sh lts e1 e2 e3, triD_sh lts e1 e2 e3, _, rfl, ?_⟩
    rw [triD_eq e3.two e3.two, decide_eq_true ⟨rfl, rfl, rfl⟩]
    refine iteF ?_
    have s011 := s10.trans s11
    have hM11 := hM8.same s011
    have hM12 := hM6.same s11
    obtain ⟨d1, o1, g1, _, _⟩ := id hM12
    obtain ⟨d2, o2, g2, _, _⟩ := id hM11
    refine ⟨_, rfl, pi, CS, dx, _, _, rfl, s11 _ _ q6, hC.c, hC.a1, rfl, _, rfl, m2, m, d1, d2, _, _, rfl, rfl, g1, g2, m2, t2, m, t, ys, ys, rfl, hM12, hM11, py, py, _, rfl, _, rfl, ?_⟩
    rw [eqv_strs, decide_eq_true rfl]
    refine iteF ?_
    have i0 : atI [V.str k3, .str x3, s3] 0 = some (.str k3) := at_by (j := 0) rfl rfl
    have i1 : atI [V.str k3, .str x3, s3] 1 = some (.str x3) := at_by (j := 1) rfl rfl
    have i2 : atI [V.str k3, .str x3, s3] 2 = some s3 := at_by (j := 2) rfl rfl
    have hR11 := s011 _ _ hR
    refine ⟨_, rfl, _, rfl, _, rfl, ri, _, _, _, rfl, rfl, SqT.of hR11, i0, _, rfl, ri, _, _, _, rfl, rfl, SqT.of hR11, i1, _, rfl, ri, _, _, _, rfl, rfl, SqT.of hR11, i2, fun p6 pd hp hpd hne => ?_⟩
    refine sen_made (pp := m) hM11 lts.nd dr hp hpd hne fun H12 k' x' s' s12 enf hs => ⟨rfl, ?_⟩
    obtain ⟨rfl, rfl, rfl⟩ := nf_uniq nf3 enf
    have s012 := s011.trans s12
    obtain ⟨d6, m6, t6, q7, _⟩ := id hs
    refine ⟨pi, p6, dx, d6, _, _, rfl, rfl, s12 _ _ (s11 _ _ q6), q7, pi, .ref p6, ys, k3, x3, s3, rfl, hA.same s012, e3, py, .inl ⟨p6, ys, k3, x3, s3, rfl, hs, e3, py, _, rfl, _, rfl, ?_⟩⟩
    rw [decide_eq_true (show ys = ys ∧ k3 = k3 ∧ x3 = x3 ∧ s3 = s3 from ⟨rfl, rfl, rfl, rfl⟩)]
    exact iteF ⟨_, _, rfl, s012⟩
  rintro σ' H9 ⟨o9, o10, rfl, s9⟩
  have hM9 := hM8.same s9
  obtain ⟨dx, ob, hp, ht, hob⟩ := id hM9
  refine ⟨_, rfl, m, CL, dx, _, _, rfl, hp, hCL, nL, rfl, _, rfl, q, _, rfl, .inl ⟨SqL.of (s9 _ _ hL8), fun tk htk => ?_⟩⟩
  have s10 := Ask.Same.made1 (o := .tup (ys.map V.str)) (Same.refl H9) htk
  refine ⟨.tuple (ys.map PyData.str), .tuple (ys.map PyData.str), .tup (hM9.same s10).seq (dp_strs ys), .tup (SqT.of upd_same) (dp_strs ys), (fit_strs py).shapedT, (fit_strs py).shapedT, ?_⟩
  show V.bl _ = V.bl true
  rw [eqv_strs, decide_eq_true rfl]
end
end Ask

namespace Ask
open PySem L2 PySem.Spec PyProof.Rows
theorem exm_of {K : PySem.W.Frag} {S T : Addr} {b : Bool} (h1 : PySem.W.subIn K (.ref T) (.type "BaseException") = some true) (h2 : PySem.W.isClsIn K T = true) (h3 : PySem.W.typeIn K (.ref T) = some (.type "type")) (h4 : PySem.W.subIn K (.ref S) (.ref T) = some b) :
    PySem.W.exmOne K (.ref S) (.ref T) = some b := by
  have e1 : (PySem.W.subIn K (.ref T) (.type "BaseException") == some true) = true := by rw [h1] <;> rfl
  have e2 : ((PySem.W.clsIn K T).isSome && PySem.W.typeIn K (.ref T) == some (.type "type")) = true := by
    have h2' : (PySem.W.clsIn K T).isSome = true := h2
    rw [h2', h3] <;> rfl
  show (if (PySem.W.subIn K (.ref T) (.type "BaseException") == some true) = true then (if ((PySem.W.clsIn K T).isSome && PySem.W.typeIn K (.ref T) == some (.type "type")) = true then PySem.W.subIn K (.ref S) (.ref T) else none) else none) = some b
  rw [if_pos e1, if_pos e2]
  exact h4
theorem strKeys_of {es : Array DictEntry} (h : (es.toList.all fun e => match e.key with | .str _ _ => true | _ => false) = true) : StrKeys es := fun e he => by
  have q := List.all_eq_true.mp h e (by simpa using he)
  cases k : e.key <;> rw [k] at q <;> first | exact ⟨_, _, rfl⟩ | cases q
theorem sen_binds {K : PySem.W.Frag} {d : V} {f : Addr} {fd : FuncData} (F : FunD K "__init__" "Sentence.__init__" (defArgs s_Sen_init) (defBody s_Sen_init) (defScope s_Sen_init) [d] [] f fd) : (∃ u, RelV d u ∧ Binds K fd ["self", "letters", "kind", "first", "second"] [u]) ∧ Binds K fd ["self", "letters", "kind", "first", "second"] [] := by
  constructor
  · obtain ⟨ds, r, b⟩ := F.binds1 (ps := ["self", "letters", "kind", "first", "second"]) 4 0 (by simp) rfl fun T kV doc pm an cdv ct us its hu hi => match us, hu, its, hi with | [_, _, _, _], _, [_], _ => ⟨_, rfl, rfl⟩
    obtain ⟨u, rfl, ru⟩ := vals1 r
    exact ⟨u, ru, b⟩
  · obtain ⟨ds, r, b⟩ := F.binds1 (ps := ["self", "letters", "kind", "first", "second"]) 5 1 (by simp) rfl fun T kV doc pm an cdv ct us its hu hi => match us, hu, its, hi with | [_, _, _, _, _], _, [_], _ => ⟨_, rfl, rfl⟩
    cases r
    exact b
theorem all_mk {P : Program} {w : World} {K : PySem.W.Frag} {h : Heap} {mg : Str → Option Value} {fa : Addr} (X : K.In h) (G : h.Ns mainGlobals mg) (hfa : mg "law" = some (.ref fa))
    {f0 : Addr} {od0 an0 : Option Addr} {sl0 : Array (Option Value)} {oc0 kV0 dc0 pm0 cd0 ct0 : Value}
    {f1 : Addr} {od1 an1 : Option Addr} {sl1 : Array (Option Value)} {oc1 kV1 dc1 pm1 cd1 ct1 : Value}
    {f2 : Addr} {od2 an2 : Option Addr} {sl2 : Array (Option Value)} {oc2 kV2 dc2 pm2 cd2 ct2 : Value}
    {f3 : Addr} {od3 an3 : Option Addr} {sl3 : Array (Option Value)} {oc3 kV3 dc3 pm3 cd3 ct3 : Value}
    {f4 : Addr} {od4 an4 : Option Addr} {sl4 : Array (Option Value)} {oc4 kV4 dc4 pm4 cd4 ct4 : Value}
    {f5 : Addr} {od5 an5 : Option Addr} {sl5 : Array (Option Value)} {oc5 kV5 dc5 pm5 cd5 ct5 : Value}
    {f6 : Addr} {od6 an6 : Option Addr} {sl6 : Array (Option Value)} {oc6 kV6 dc6 pm6 cd6 ct6 : Value}
    {f7 : Addr} {od7 an7 : Option Addr} {sl7 : Array (Option Value)} {oc7 kV7 dc7 pm7 cd7 ct7 : Value}
    {f8 : Addr} {od8 an8 : Option Addr} {sl8 : Array (Option Value)} {oc8 kV8 dc8 pm8 cd8 ct8 : Value}
    {fm : Addr} {odm anm : Option Addr} {slm : Array (Option Value)} {ocm kVm dcm pmm cdm ctm : Value}
    {fo : Addr} {odo ano : Option Addr} {slo : Array (Option Value)} {oco kVo dco pmo cdo cto : Value}
    {fe : Addr} {ode ane : Option Addr} {sle : Array (Option Value)} {oce kVe dce pme cde cte : Value}
    {f9 : Addr} {od9 an9 : Option Addr} {sl9 : Array (Option Value)} {oc9 kV9 dc9 pm9 cd9 ct9 : Value}
    {CB : Addr}
    {fB : Addr} {odB anB : Option Addr} {slB : Array (Option Value)} {ocB kVB dcB pmB cdB ctB : Value}
    {nmB qB : Str} {NB : Addr} {bsB bmB : List Value} {snB : List Str} {subB : List Value} {abB : Bool} {colB : Option Bool} {ddB : Option Addr} {m0B m1B m2B m3B m5B : Option Value}
    {CM : Addr}
    {fM : Addr} {odM anM : Option Addr} {slM : Array (Option Value)} {ocM kVM dcM pmM cdM ctM : Value}
    {nmM qM : Str} {NM : Addr} {bsM bmM : List Value} {snM : List Str} {subM : List Value} {abM : Bool} {colM : Option Bool} {ddM : Option Addr} {m0M m1M m2M m3M m5M : Option Value}
    {CT : Addr}
    {fT : Addr} {odT anT : Option Addr} {slT : Array (Option Value)} {ocT kVT dcT pmT cdT ctT : Value}
    {nmT qT : Str} {NT : Addr} {bsT bmT : List Value} {snT : List Str} {subT : List Value} {abT : Bool} {colT : Option Bool} {ddT : Option Addr} {m0T m1T m2T m3T m5T : Option Value}
    {CZ : Addr}
    {CN : Addr}
    {CL : Addr}
    {fL : Addr} {odL anL : Option Addr} {slL : Array (Option Value)} {ocL kVL dcL pmL cdL ctL : Value}
    {fH : Addr} {odH anH : Option Addr} {slH : Array (Option Value)} {ocH kVH dcH pmH cdH ctH : Value}
    {fR : Addr} {odR anR : Option Addr} {slR : Array (Option Value)} {ocR kVR dcR pmR cdR ctR : Value}
    {fQ : Addr} {odQ anQ : Option Addr} {slQ : Array (Option Value)} {ocQ kVQ dcQ pmQ cdQ ctQ : Value}
    {CS : Addr}
    {fS : Addr} {odS anS : Option Addr} {slS : Array (Option Value)} {ocS kVS dcS pmS cdS ctS : Value}
    {TS : Addr} {oTS : Obj} {nTS : Nat}
    {fA : Addr} {odA anA : Option Addr} {slA : Array (Option Value)} {ocA kVA dcA pmA cdA ctA : Value}
    {gS : Tok}
    {gW : Tok}
    {gM : Tok}
    {gL : Tok}
    {T_gB : Addr} {o_gB : Obj} {j_gB : Array Value} {n_gB : Nat}
    {T_gK : Addr} {o_gK : Obj} {j_gK : Array Value} {n_gK : Nat}
    {T_gN : Addr} {o_gN : Obj} {j_gN : Array Value} {n_gN : Nat}
    {T_gU : Addr} {o_gU : Obj} {j_gU : Array Value} {n_gU : Nat}
    {nmL qL : Str} {NL : Addr} {bsL bmL : List Value} {hdctL : Bool} {snL : List Str} {subL : List Value} {abL : Bool} {colL : Option Bool} {ddL : Option Addr} {m0L m1L m2L m3L m5L : Option Value} {newL : String} {oNL : Obj} {esNL : Array DictEntry} {epNL : Nat}
    {nmS qS : Str} {NS : Addr} {bsS bmS : List Value} {hdctS : Bool} {snS : List Str} {subS : List Value} {abS : Bool} {colS : Option Bool} {ddS : Option Addr} {m0S m1S m2S m3S m5S : Option Value} {newS : String} {oNS : Obj} {esNS : Array DictEntry} {epNS : Nat}
    (hn : PySem.W.specialIn K (.builtin "object.__class__") "__get__" = some (some (.builtin "getset_descriptor.__get__")))
    (ht : PySem.W.takesIn K (.builtin "object.__class__") = some true)
    (a0 : PySem.W.nsIn K mainGlobals "is_short_word" = some (some (.ref f0)))
    (l0 : K.lookup f0 = some ⟨oc0, od0, .func (PySem.W.fnOf "is_short_word" "is_short_word" (defArgs s_is_short_word) (defBody s_is_short_word) (defScope s_is_short_word) .none kV0 dc0 pm0 an0 cd0 ct0), sl0⟩)
    (c0 : PySem.W.codeIn K cd0 "is_short_word" = true)
    (k0 : PySem.W.keepIn K (.ref f0) = true)
    (a1 : PySem.W.nsIn K mainGlobals "copied" = some (some (.ref f1)))
    (l1 : K.lookup f1 = some ⟨oc1, od1, .func (PySem.W.fnOf "copied" "copied" (defArgs s_copied) (defBody s_copied) (defScope s_copied) .none kV1 dc1 pm1 an1 cd1 ct1), sl1⟩)
    (c1 : PySem.W.codeIn K cd1 "copied" = true)
    (k1 : PySem.W.keepIn K (.ref f1) = true)
    (a2 : PySem.W.nsIn K mainGlobals "is_letter" = some (some (.ref f2)))
    (l2 : K.lookup f2 = some ⟨oc2, od2, .func (PySem.W.fnOf "is_letter" "is_letter" (defArgs s_is_letter) (defBody s_is_letter) (defScope s_is_letter) .none kV2 dc2 pm2 an2 cd2 ct2), sl2⟩)
    (c2 : PySem.W.codeIn K cd2 "is_letter" = true)
    (k2 : PySem.W.keepIn K (.ref f2) = true)
    (a3 : PySem.W.nsIn K mainGlobals "_law_pen" = some (some (.ref f3)))
    (l3 : K.lookup f3 = some ⟨oc3, od3, .func (PySem.W.fnOf "_law_pen" "_law_pen" (defArgs s__law_pen) (defBody s__law_pen) (defScope s__law_pen) .none kV3 dc3 pm3 an3 cd3 ct3), sl3⟩)
    (c3 : PySem.W.codeIn K cd3 "_law_pen" = true)
    (k3 : PySem.W.keepIn K (.ref f3) = true)
    (a4 : PySem.W.nsIn K mainGlobals "_law_draw" = some (some (.ref f4)))
    (l4 : K.lookup f4 = some ⟨oc4, od4, .func (PySem.W.fnOf "_law_draw" "_law_draw" (defArgs s__law_draw) (defBody s__law_draw) (defScope s__law_draw) .none kV4 dc4 pm4 an4 cd4 ct4), sl4⟩)
    (c4 : PySem.W.codeIn K cd4 "_law_draw" = true)
    (k4 : PySem.W.keepIn K (.ref f4) = true)
    (a5 : PySem.W.nsIn K mainGlobals "_law_pick" = some (some (.ref f5)))
    (l5 : K.lookup f5 = some ⟨oc5, od5, .func (PySem.W.fnOf "_law_pick" "_law_pick" (defArgs s__law_pick) (defBody s__law_pick) (defScope s__law_pick) .none kV5 dc5 pm5 an5 cd5 ct5), sl5⟩)
    (c5 : PySem.W.codeIn K cd5 "_law_pick" = true)
    (k5 : PySem.W.keepIn K (.ref f5) = true)
    (a6 : PySem.W.nsIn K mainGlobals "_law_shuffled" = some (some (.ref f6)))
    (l6 : K.lookup f6 = some ⟨oc6, od6, .func (PySem.W.fnOf "_law_shuffled" "_law_shuffled" (defArgs s__law_shuffled) (defBody s__law_shuffled) (defScope s__law_shuffled) .none kV6 dc6 pm6 an6 cd6 ct6), sl6⟩)
    (c6 : PySem.W.codeIn K cd6 "_law_shuffled" = true)
    (k6 : PySem.W.keepIn K (.ref f6) = true)
    (a7 : PySem.W.nsIn K mainGlobals "_law_words" = some (some (.ref f7)))
    (l7 : K.lookup f7 = some ⟨oc7, od7, .func (PySem.W.fnOf "_law_words" "_law_words" (defArgs s__law_words) (defBody s__law_words) (defScope s__law_words) .none kV7 dc7 pm7 an7 cd7 ct7), sl7⟩)
    (c7 : PySem.W.codeIn K cd7 "_law_words" = true)
    (k7 : PySem.W.keepIn K (.ref f7) = true)
    (a8 : PySem.W.nsIn K mainGlobals "_law_marked" = some (some (.ref f8)))
    (l8 : K.lookup f8 = some ⟨oc8, od8, .func (PySem.W.fnOf "_law_marked" "_law_marked" (defArgs s__law_marked) (defBody s__law_marked) (defScope s__law_marked) .none kV8 dc8 pm8 an8 cd8 ct8), sl8⟩)
    (c8 : PySem.W.codeIn K cd8 "_law_marked" = true)
    (k8 : PySem.W.keepIn K (.ref f8) = true)
    (am : PySem.W.nsIn K mainGlobals "is_due" = some (some (.ref fm)))
    (lm : K.lookup fm = some ⟨ocm, odm, .func (PySem.W.fnOf "is_due" "is_due" (defArgs s_is_due) (defBody s_is_due) (defScope s_is_due) .none kVm dcm pmm anm cdm ctm), slm⟩)
    (cm : PySem.W.codeIn K cdm "is_due" = true)
    (km : PySem.W.keepIn K (.ref fm) = true)
    (ao : PySem.W.nsIn K mainGlobals "one_form" = some (some (.ref fo)))
    (lo : K.lookup fo = some ⟨oco, odo, .func (PySem.W.fnOf "one_form" "one_form" (defArgs s_one_form) (defBody s_one_form) (defScope s_one_form) .none kVo dco pmo ano cdo cto), slo⟩)
    (co : PySem.W.codeIn K cdo "one_form" = true)
    (ko : PySem.W.keepIn K (.ref fo) = true)
    (ae : PySem.W.nsIn K mainGlobals "menu" = some (some (.ref fe)))
    (le : K.lookup fe = some ⟨oce, ode, .func (PySem.W.fnOf "menu" "menu" (defArgs s_menu) (defBody s_menu) (defScope s_menu) .none kVe dce pme ane cde cte), sle⟩)
    (ce : PySem.W.codeIn K cde "menu" = true)
    (ke : PySem.W.keepIn K (.ref fe) = true)
    (a9 : PySem.W.nsIn K mainGlobals "law" = some (some (.ref f9)))
    (l9 : K.lookup f9 = some ⟨oc9, od9, .func (PySem.W.fnOf "law" "law" (defArgs s_law) (defBody s_law) (defScope s_law) .none kV9 dc9 pm9 an9 cd9 ct9), sl9⟩)
    (c9 : PySem.W.codeIn K cd9 "law" = true)
    (k9 : PySem.W.keepIn K (.ref f9) = true)
    (aB : PySem.W.nsIn K mainGlobals "BadLetters" = some (some (.ref CB)))
    (iB : PySem.W.findIn K (.ref CB) "__init__" = some (some (.ref fB)))
    (lB : K.lookup fB = some ⟨ocB, odB, .func (PySem.W.fnOf "__init__" "BadLetters.__init__" (defArgs s_BadLetters_init) (defBody s_BadLetters_init) (defScope s_BadLetters_init) .none kVB dcB pmB anB cdB ctB), slB⟩)
    (cB : PySem.W.codeIn K cdB "BadLetters.__init__" = true)
    (kB : PySem.W.keepIn K (.ref fB) = true)
    (kcB : PySem.W.keepIn K (.ref CB) = true)
    (saB : PySem.W.findIn K (.ref CB) "__setattr__" = some (some (.builtin "object.__setattr__")))
    (xB : K.lookup CB = some (excClassObj nmB qB CB NB bsB bmB true snB subB abB colB ddB m0B m1B m2B m3B m5B "ValueError.__new__"))
    (vB : PySem.HandSPX.refsVE bmB = true)
    (gaB : PySem.W.findIn K (.ref CB) "__getattribute__" = some (some (.builtin "BaseException.__getattribute__")))
    (ggB : PySem.W.findIn K (.ref CB) "__getattr__" = some none)
    (eCB : PySem.W.subIn K (.ref CB) (.type "BaseException") = some true)
    (tCB : PySem.W.typeIn K (.ref CB) = some (.type "type"))
    (tfB : PySem.W.typeIn K (.ref fB) = some (.type "function"))
    (hCB : PySem.W.hasDictIn K CB = true)
    (nB0 : PySem.W.findIn K (.ref CB) "index" = some none)
    (aM : PySem.W.nsIn K mainGlobals "TooMany" = some (some (.ref CM)))
    (iM : PySem.W.findIn K (.ref CM) "__init__" = some (some (.ref fM)))
    (lM : K.lookup fM = some ⟨ocM, odM, .func (PySem.W.fnOf "__init__" "TooMany.__init__" (defArgs s_TooMany_init) (defBody s_TooMany_init) (defScope s_TooMany_init) .none kVM dcM pmM anM cdM ctM), slM⟩)
    (cM : PySem.W.codeIn K cdM "TooMany.__init__" = true)
    (kM : PySem.W.keepIn K (.ref fM) = true)
    (kcM : PySem.W.keepIn K (.ref CM) = true)
    (saM : PySem.W.findIn K (.ref CM) "__setattr__" = some (some (.builtin "object.__setattr__")))
    (xM : K.lookup CM = some (excClassObj nmM qM CM NM bsM bmM true snM subM abM colM ddM m0M m1M m2M m3M m5M "ValueError.__new__"))
    (vM : PySem.HandSPX.refsVE bmM = true)
    (gaM : PySem.W.findIn K (.ref CM) "__getattribute__" = some (some (.builtin "BaseException.__getattribute__")))
    (ggM : PySem.W.findIn K (.ref CM) "__getattr__" = some none)
    (eCM : PySem.W.subIn K (.ref CM) (.type "BaseException") = some true)
    (tCM : PySem.W.typeIn K (.ref CM) = some (.type "type"))
    (tfM : PySem.W.typeIn K (.ref fM) = some (.type "function"))
    (hCM : PySem.W.hasDictIn K CM = true)
    (nM0 : PySem.W.findIn K (.ref CM) "what" = some none)
    (nM1 : PySem.W.findIn K (.ref CM) "many" = some none)
    (nM2 : PySem.W.findIn K (.ref CM) "most" = some none)
    (aT : PySem.W.nsIn K mainGlobals "BadLetter" = some (some (.ref CT)))
    (iT : PySem.W.findIn K (.ref CT) "__init__" = some (some (.ref fT)))
    (lT : K.lookup fT = some ⟨ocT, odT, .func (PySem.W.fnOf "__init__" "BadLetter.__init__" (defArgs s_BadLetter_init) (defBody s_BadLetter_init) (defScope s_BadLetter_init) .none kVT dcT pmT anT cdT ctT), slT⟩)
    (cT : PySem.W.codeIn K cdT "BadLetter.__init__" = true)
    (kT : PySem.W.keepIn K (.ref fT) = true)
    (kcT : PySem.W.keepIn K (.ref CT) = true)
    (saT : PySem.W.findIn K (.ref CT) "__setattr__" = some (some (.builtin "object.__setattr__")))
    (xT : K.lookup CT = some (excClassObj nmT qT CT NT bsT bmT true snT subT abT colT ddT m0T m1T m2T m3T m5T "ValueError.__new__"))
    (vT : PySem.HandSPX.refsVE bmT = true)
    (gaT : PySem.W.findIn K (.ref CT) "__getattribute__" = some (some (.builtin "BaseException.__getattribute__")))
    (ggT : PySem.W.findIn K (.ref CT) "__getattr__" = some none)
    (eCT : PySem.W.subIn K (.ref CT) (.type "BaseException") = some true)
    (tCT : PySem.W.typeIn K (.ref CT) = some (.type "type"))
    (tfT : PySem.W.typeIn K (.ref fT) = some (.type "function"))
    (hCT : PySem.W.hasDictIn K CT = true)
    (nT0 : PySem.W.findIn K (.ref CT) "index" = some none)
    (aZ : PySem.W.nsIn K mainGlobals "BadKind" = some (some (.ref CZ)))
    (exZ : PySem.W.excIn K CZ [Value.type "ValueError", Value.type "Exception", Value.type "BaseException", Value.type "object"] "ValueError.__new__" = true)
    (kcZ : PySem.W.keepIn K (.ref CZ) = true)
    (eCZ : PySem.W.subIn K (.ref CZ) (.type "BaseException") = some true)
    (tCZ : PySem.W.typeIn K (.ref CZ) = some (.type "type"))
    (aN : PySem.W.nsIn K mainGlobals "SaysNothing" = some (some (.ref CN)))
    (exN : PySem.W.excIn K CN [Value.type "ValueError", Value.type "Exception", Value.type "BaseException", Value.type "object"] "ValueError.__new__" = true)
    (kcN : PySem.W.keepIn K (.ref CN) = true)
    (eCN : PySem.W.subIn K (.ref CN) (.type "BaseException") = some true)
    (tCN : PySem.W.typeIn K (.ref CN) = some (.type "type"))
    (aL : PySem.W.nsIn K mainGlobals "Letters" = some (some (.ref CL)))
    (kcL : PySem.W.keepIn K (.ref CL) = true)
    (saL : PySem.W.findIn K (.ref CL) "__setattr__" = some (some (.builtin "object.__setattr__")))
    (pgL : PySem.W.plainGet K CL Str.empty = true)
    (hdL : PySem.W.hasDictIn K CL = true)
    (poL : PySem.W.plainOver K CL = true)
    (mkL : PySem.W.makesIn K CL = true)
    (nL0 : PySem.W.findIn K (.ref CL) "words" = some none)
    (icL : PySem.W.isClsIn K CL = true)
    (haL : PySem.W.findIn K (.ref CL) "__class__" = some (some (.builtin "object.__class__")))
    (hmL : PySem.W.mroIn K CL (.type "object") = some true)
    (iL : PySem.W.findIn K (.ref CL) "__init__" = some (some (.ref fL)))
    (lL : K.lookup fL = some ⟨ocL, odL, .func (PySem.W.fnOf "__init__" "Letters.__init__" (defArgs s_Letters_init) (defBody s_Letters_init) (defScope s_Letters_init) .none kVL dcL pmL anL cdL ctL), slL⟩)
    (cL : PySem.W.codeIn K cdL "Letters.__init__" = true)
    (kL : PySem.W.keepIn K (.ref fL) = true)
    (isL : PySem.W.isFn K (.ref fL) = true)
    (iH : PySem.W.findIn K (.ref CL) "__contains__" = some (some (.ref fH)))
    (lH : K.lookup fH = some ⟨ocH, odH, .func (PySem.W.fnOf "__contains__" "Letters.__contains__" (defArgs s_Has) (defBody s_Has) (defScope s_Has) .none kVH dcH pmH anH cdH ctH), slH⟩)
    (cH : PySem.W.codeIn K cdH "Letters.__contains__" = true)
    (kH : PySem.W.keepIn K (.ref fH) = true)
    (isH : PySem.W.isFn K (.ref fH) = true)
    (iR : PySem.W.findIn K (.ref CL) "rank" = some (some (.ref fR)))
    (lR : K.lookup fR = some ⟨ocR, odR, .func (PySem.W.fnOf "rank" "Letters.rank" (defArgs s_Rank) (defBody s_Rank) (defScope s_Rank) .none kVR dcR pmR anR cdR ctR), slR⟩)
    (cR : PySem.W.codeIn K cdR "Letters.rank" = true)
    (kR : PySem.W.keepIn K (.ref fR) = true)
    (isR : PySem.W.isFn K (.ref fR) = true)
    (iQ : PySem.W.findIn K (.ref CL) "__eq__" = some (some (.ref fQ)))
    (lQ : K.lookup fQ = some ⟨ocQ, odQ, .func (PySem.W.fnOf "__eq__" "Letters.__eq__" (defArgs s_Eq) (defBody s_Eq) (defScope s_Eq) .none kVQ dcQ pmQ anQ cdQ ctQ), slQ⟩)
    (cQ : PySem.W.codeIn K cdQ "Letters.__eq__" = true)
    (kQ : PySem.W.keepIn K (.ref fQ) = true)
    (isQ : PySem.W.isFn K (.ref fQ) = true)
    (aS : PySem.W.nsIn K mainGlobals "Sentence" = some (some (.ref CS)))
    (kcS : PySem.W.keepIn K (.ref CS) = true)
    (saS : PySem.W.findIn K (.ref CS) "__setattr__" = some (some (.builtin "object.__setattr__")))
    (pgS : PySem.W.plainGet K CS Str.empty = true)
    (hdS : PySem.W.hasDictIn K CS = true)
    (poS : PySem.W.plainOver K CS = true)
    (mkS : PySem.W.makesIn K CS = true)
    (nS0 : PySem.W.findIn K (.ref CS) "letters" = some none)
    (nS1 : PySem.W.findIn K (.ref CS) "kind" = some none)
    (nS2 : PySem.W.findIn K (.ref CS) "first" = some none)
    (nS3 : PySem.W.findIn K (.ref CS) "second" = some none)
    (icS : PySem.W.isClsIn K CS = true)
    (haS : PySem.W.findIn K (.ref CS) "__class__" = some (some (.builtin "object.__class__")))
    (hmS : PySem.W.mroIn K CS (.type "object") = some true)
    (iS : PySem.W.findIn K (.ref CS) "__init__" = some (some (.ref fS)))
    (lS : K.lookup fS = some ⟨ocS, odS, .func (PySem.W.fnOf "__init__" "Sentence.__init__" (defArgs s_Sen_init) (defBody s_Sen_init) (defScope s_Sen_init) (.ref TS) kVS dcS pmS anS cdS ctS), slS⟩)
    (cS : PySem.W.codeIn K cdS "Sentence.__init__" = true)
    (kS : PySem.W.keepIn K (.ref fS) = true)
    (dTS : K.lookup TS = some oTS)
    (dUS : oTS.data = .seq [Value.none].toArray nTS)
    (isS : PySem.W.isFn K (.ref fS) = true)
    (tcS : PySem.W.typeIn K (.ref CS) = some (.type "type"))
    (iA : PySem.W.findIn K (.ref CS) "__eq__" = some (some (.ref fA)))
    (lA : K.lookup fA = some ⟨ocA, odA, .func (PySem.W.fnOf "__eq__" "Sentence.__eq__" (defArgs s_SEq) (defBody s_SEq) (defScope s_SEq) .none kVA dcA pmA anA cdA ctA), slA⟩)
    (cA : PySem.W.codeIn K cdA "Sentence.__eq__" = true)
    (kA : PySem.W.keepIn K (.ref fA) = true)
    (isA : PySem.W.isFn K (.ref fA) = true)
    (g_gS : PySem.W.nsIn K mainGlobals "SMALL_LETTERS" = some (some (.str "abcdefghijklmnopqrstuvwxyz" gS)))
    (g_gW : PySem.W.nsIn K mainGlobals "WORD_SIGNS" = some (some (.str "abcdefghijklmnopqrstuvwxyz0123456789" gW)))
    (g_gM : PySem.W.nsIn K mainGlobals "MOST_SIGNS" = some (some (.int 12 gM)))
    (g_gL : PySem.W.nsIn K mainGlobals "MOST_LETTERS" = some (some (.int 12 gL)))
    (g_gB : PySem.W.nsIn K mainGlobals "BEGINNINGS" = some (some (.ref T_gB)))
    (gl_gB : K.lookup T_gB = some o_gB)
    (gc_gB : o_gB.cls = .type "tuple")
    (gd_gB : o_gB.data = .seq j_gB n_gB)
    (gs_gB : j_gB.size ≤ sizeLine)
    (gv_gB : Vals [.str newW, .str foundW] j_gB.toList)
    (g_gK : PySem.W.nsIn K mainGlobals "KINDS" = some (some (.ref T_gK)))
    (gl_gK : K.lookup T_gK = some o_gK)
    (gc_gK : o_gK.cls = .type "tuple")
    (gd_gK : o_gK.data = .seq j_gK n_gK)
    (gs_gK : j_gK.size ≤ sizeLine)
    (gv_gK : Vals [.str ("idle" : Str), .str ("kept" : Str), .str ("still" : Str), .str ("over" : Str), .str ("undone" : Str), .str ("alike" : Str)] j_gK.toList)
    (g_gN : PySem.W.nsIn K mainGlobals "LONE_KINDS" = some (some (.ref T_gN)))
    (gl_gN : K.lookup T_gN = some o_gN)
    (gc_gN : o_gN.cls = .type "tuple")
    (gd_gN : o_gN.data = .seq j_gN n_gN)
    (gs_gN : j_gN.size ≤ sizeLine)
    (gv_gN : Vals [.str ("idle" : Str), .str ("still" : Str)] j_gN.toList)
    (g_gU : PySem.W.nsIn K mainGlobals "PAIR_KINDS" = some (some (.ref T_gU)))
    (gl_gU : K.lookup T_gU = some o_gU)
    (gc_gU : o_gU.cls = .type "tuple")
    (gd_gU : o_gU.data = .seq j_gU n_gU)
    (gs_gU : j_gU.size ≤ sizeLine)
    (gv_gU : Vals [.str ("kept" : Str), .str ("over" : Str), .str ("undone" : Str)] j_gU.toList)
    (z0 : PySem.W.nsIn K mainGlobals "int" = some none)
    (z1 : PySem.W.nsIn K mainGlobals "len" = some none)
    (z2 : PySem.W.nsIn K mainGlobals "abs" = some none)
    (z3 : PySem.W.nsIn K mainGlobals "list" = some none)
    (z4 : PySem.W.nsIn K mainGlobals "range" = some none)
    (z5 : PySem.W.nsIn K mainGlobals "min" = some none)
    (z6 : PySem.W.nsIn K mainGlobals "str" = some none)
    (z7 : PySem.W.nsIn K mainGlobals "isinstance" = some none)
    (z8 : PySem.W.nsIn K mainGlobals "all" = some none)
    (z9 : PySem.W.nsIn K mainGlobals "enumerate" = some none)
    (z10 : PySem.W.nsIn K mainGlobals "tuple" = some none)
    (z11 : PySem.W.nsIn K mainGlobals "repr" = some none)
    (z12 : PySem.W.nsIn K mainGlobals "dict" = some none)
    (z13 : PySem.W.nsIn K mainGlobals "bool" = some none)
    (z14 : PySem.W.nsIn K mainGlobals "sum" = some none)
    (z15 : PySem.W.nsIn K mainGlobals "ValueError" = some none)
    (z16 : PySem.W.nsIn K mainGlobals "zip" = some none)
    (xL : K.lookup CL = some (excClassObj nmL qL CL NL bsL bmL hdctL snL subL abL colL ddL m0L m1L m2L m3L m5L newL))
    (vL : bmL = [.type "object"])
    (xNL : K.lookup NL = some oNL)
    (xAL : oNL.data = .dict esNL epNL)
    (xBL : StrKeys esNL)
    (xCL : nsFind esNL "__eq__" = some (.ref fQ))
    (xDL : nsFind esNL "__ne__" = none)
    (xS : K.lookup CS = some (excClassObj nmS qS CS NS bsS bmS hdctS snS subS abS colS ddS m0S m1S m2S m3S m5S newS))
    (vS : bmS = [.type "object"])
    (xNS : K.lookup NS = some oNS)
    (xAS : oNS.data = .dict esNS epNS)
    (xBS : StrKeys esNS)
    (xCS : nsFind esNS "__eq__" = some (.ref fA))
    (xDS : nsFind esNS "__ne__" = none)
    (base : Heap) (kb : K.In base) (gb : base.Ns mainGlobals mg) (s₁ : Shared) (H : Hp) (a : Addr) (ns : List Int) (e0 : Env0 P w K mg base callerA [] s₁ H) (hS : SqL K H a (ns.map V.int)) (hl : ns.length ≤ 63) :
    codeAny (model P w) callerA (.call (.ref fa) ⟨[.ref a], []⟩) (CR CX0 [] P w H s₁ (fun v _ => v = .bl true) E0) s₁ := by
  have e := hfa.symm.trans (PySem.W.mg_of X G a9)
  cases e
  have T : Blt mg := ⟨PySem.W.mg_none_of X G z0, PySem.W.mg_none_of X G z1, PySem.W.mg_none_of X G z2, PySem.W.mg_none_of X G z3, PySem.W.mg_none_of X G z4, PySem.W.mg_none_of X G z5, PySem.W.mg_none_of X G z6, PySem.W.mg_none_of X G z7, PySem.W.mg_none_of X G z8, PySem.W.mg_none_of X G z9, PySem.W.mg_none_of X G z10, PySem.W.mg_none_of X G z11⟩
  have F0 := fun_mk (st := s_is_short_word) l0 c0 k0
  have b0 := F0.binds (ps := ["value"]) fun _ _ _ _ _ _ us hl => match us, hl with | [_], _ => rfl
  have A0 : At K mg "is_short_word" f0 _ ["value"] := ⟨PySem.W.mg_of X G a0, k0, b0⟩
  have F1 := fun_mk (st := s_copied) l1 c1 k1
  have b1 := F1.binds (ps := ["value"]) fun _ _ _ _ _ _ us hl => match us, hl with | [_], _ => rfl
  have A1 : At K mg "copied" f1 _ ["value"] := ⟨PySem.W.mg_of X G a1, k1, b1⟩
  have F2 := fun_mk (st := s_is_letter) l2 c2 k2
  have b2 := F2.binds (ps := ["value"]) fun _ _ _ _ _ _ us hl => match us, hl with | [_], _ => rfl
  have A2 : At K mg "is_letter" f2 _ ["value"] := ⟨PySem.W.mg_of X G a2, k2, b2⟩
  have F3 := fun_mk (st := s__law_pen) l3 c3 k3
  have b3 := F3.binds (ps := ["_law_script"]) fun _ _ _ _ _ _ us hl => match us, hl with | [_], _ => rfl
  have A3 : At K mg "_law_pen" f3 _ ["_law_script"] := ⟨PySem.W.mg_of X G a3, k3, b3⟩
  have F4 := fun_mk (st := s__law_draw) l4 c4 k4
  have b4 := F4.binds (ps := ["_law_pen_here", "_law_many"]) fun _ _ _ _ _ _ us hl => match us, hl with | [_, _], _ => rfl
  have A4 : At K mg "_law_draw" f4 _ ["_law_pen_here", "_law_many"] := ⟨PySem.W.mg_of X G a4, k4, b4⟩
  have F5 := fun_mk (st := s__law_pick) l5 c5 k5
  have b5 := F5.binds (ps := ["_law_pen_here", "_law_items"]) fun _ _ _ _ _ _ us hl => match us, hl with | [_, _], _ => rfl
  have A5 : At K mg "_law_pick" f5 _ ["_law_pen_here", "_law_items"] := ⟨PySem.W.mg_of X G a5, k5, b5⟩
  have F6 := fun_mk (st := s__law_shuffled) l6 c6 k6
  have b6 := F6.binds (ps := ["_law_pen_here", "_law_items"]) fun _ _ _ _ _ _ us hl => match us, hl with | [_, _], _ => rfl
  have A6 : At K mg "_law_shuffled" f6 _ ["_law_pen_here", "_law_items"] := ⟨PySem.W.mg_of X G a6, k6, b6⟩
  have F7 := fun_mk (st := s__law_words) l7 c7 k7
  have b7 := F7.binds (ps := ["_law_pen_here", "_law_many"]) fun _ _ _ _ _ _ us hl => match us, hl with | [_, _], _ => rfl
  have A7 : At K mg "_law_words" f7 _ ["_law_pen_here", "_law_many"] := ⟨PySem.W.mg_of X G a7, k7, b7⟩
  have F8 := fun_mk (st := s__law_marked) l8 c8 k8
  have b8 := F8.binds (ps := ["_law_pen_here", "_law_words_here"]) fun _ _ _ _ _ _ us hl => match us, hl with | [_, _], _ => rfl
  have A8 : At K mg "_law_marked" f8 _ ["_law_pen_here", "_law_words_here"] := ⟨PySem.W.mg_of X G a8, k8, b8⟩
  have Fm := fun_mk (st := s_is_due) lm cm km
  have bm := Fm.binds (ps := ["letters", "value", "has_letter"]) fun _ _ _ _ _ _ us hl => match us, hl with | [_, _, _], _ => rfl
  have Am : At K mg "is_due" fm _ ["letters", "value", "has_letter"] := ⟨PySem.W.mg_of X G am, km, bm⟩
  have Fo := fun_mk (st := s_one_form) lo co ko
  have bo := Fo.binds (ps := ["letters", "kind", "first", "second"]) fun _ _ _ _ _ _ us hl => match us, hl with | [_, _, _, _], _ => rfl
  have Ao : At K mg "one_form" fo _ ["letters", "kind", "first", "second"] := ⟨PySem.W.mg_of X G ao, ko, bo⟩
  have Fe := fun_mk (st := s_menu) le ce ke
  have be := Fe.binds (ps := ["letters"]) fun _ _ _ _ _ _ us hl => match us, hl with | [_], _ => rfl
  have Ae : At K mg "menu" fe _ ["letters"] := ⟨PySem.W.mg_of X G ae, ke, be⟩
  have F9 := fun_mk (st := s_law) l9 c9 k9
  have FB := fun_mk (st := s_BadLetters_init) lB cB kB
  have bB := FB.binds (ps := ["self", "index"]) fun _ _ _ _ _ _ us hl => match us, hl with | [_, _], _ => rfl
  have OB : OexC K CB := ⟨⟨_, _, _, _, _, _, _, _, _, _, _, _, _, _, _, xB, vB⟩, saB, eCB, tCB, kcB⟩
  have EB : ErrAt K mg "BadLetters" CB fB _ _ := ⟨PySem.W.mg_of X G aB, OB, iB, tfB, bB, ⟨gaB, ggB, eCB, hCB⟩⟩
  have FM := fun_mk (st := s_TooMany_init) lM cM kM
  have bM := FM.binds (ps := ["self", "what", "many", "most"]) fun _ _ _ _ _ _ us hl => match us, hl with | [_, _, _, _], _ => rfl
  have OM : OexC K CM := ⟨⟨_, _, _, _, _, _, _, _, _, _, _, _, _, _, _, xM, vM⟩, saM, eCM, tCM, kcM⟩
  have EM : ErrAt K mg "TooMany" CM fM _ _ := ⟨PySem.W.mg_of X G aM, OM, iM, tfM, bM, ⟨gaM, ggM, eCM, hCM⟩⟩
  have FT := fun_mk (st := s_BadLetter_init) lT cT kT
  have bT := FT.binds (ps := ["self", "index"]) fun _ _ _ _ _ _ us hl => match us, hl with | [_, _], _ => rfl
  have OT : OexC K CT := ⟨⟨_, _, _, _, _, _, _, _, _, _, _, _, _, _, _, xT, vT⟩, saT, eCT, tCT, kcT⟩
  have ET : ErrAt K mg "BadLetter" CT fT _ _ := ⟨PySem.W.mg_of X G aT, OT, iT, tfT, bT, ⟨gaT, ggT, eCT, hCT⟩⟩
  have hCL : Cls K CL := ⟨pgL, hdL, poL, saL⟩
  have YL : XkC K CL := ⟨icL, haL, hn, ht, hmL⟩
  have FL := fun_mk (st := s_Letters_init) lL cL kL
  have bL := FL.binds (ps := ["self", "words"]) fun _ _ _ _ _ _ us hl => match us, hl with | [_, _], _ => rfl
  have FH := fun_mk (st := s_Has) lH cH kH
  have bH := FH.binds (ps := ["self", "x"]) fun _ _ _ _ _ _ us hl => match us, hl with | [_, _], _ => rfl
  have FR := fun_mk (st := s_Rank) lR cR kR
  have bR := FR.binds (ps := ["self", "x"]) fun _ _ _ _ _ _ us hl => match us, hl with | [_, _], _ => rfl
  have FQ := fun_mk (st := s_Eq) lQ cQ kQ
  have bQ := FQ.binds (ps := ["self", "other"]) fun _ _ _ _ _ _ us hl => match us, hl with | [_, _], _ => rfl
  have hCS : Cls K CS := ⟨pgS, hdS, poS, saS⟩
  have YS : XkC K CS := ⟨icS, haS, hn, ht, hmS⟩
  have FS : FunD K "__init__" "Sentence.__init__" (defArgs s_Sen_init) (defBody s_Sen_init) (defScope s_Sen_init) [V.non] [] fS _ := ⟨⟨_, _, _, _, _, _, _, _, _, _, rfl, lS, cS, .inr ⟨by simp, TS, oTS, [.none], nTS, rfl, dTS, dUS, .cons rfl .nil⟩, .inl rfl⟩, kS⟩
  have FA := fun_mk (st := s_SEq) lA cA kA
  have bA := FA.binds (ps := ["self", "other"]) fun _ _ _ _ _ _ us hl => match us, hl with | [_, _], _ => rfl
  subst vL
  have hqL : ocQ = .type "function" := by
    have h : (K.lookup fQ).map (·.cls) = some (.type "function") := beq_iff_eq.mp isQ
    rw [lQ] at h
    exact Option.some.inj h
  have nEL : OwnNe K CL fQ := ⟨_, _, NL, _, _, _, _, _, _, _, _, _, _, _, _, _, oNL, esNL, epNL, _, xL, xNL, xAL, xBL, xCL, xDL, lQ, hqL⟩
  subst vS
  have hqS : ocA = .type "function" := by
    have h : (K.lookup fA).map (·.cls) = some (.type "function") := beq_iff_eq.mp isA
    rw [lA] at h
    exact Option.some.inj h
  have nES : OwnNe K CS fA := ⟨_, _, NS, _, _, _, _, _, _, _, _, _, _, _, _, _, oNS, esNS, epNS, _, xS, xNS, xAS, xBS, xCS, xDS, lA, hqS⟩
  have nD := PySem.W.mg_none_of X G z12
  have nB := PySem.W.mg_none_of X G z13
  have nSum := PySem.W.mg_none_of X G z14
  have C : Gv K mg := ⟨⟨_, PySem.W.mg_of X G g_gS, _, rfl⟩, ⟨_, PySem.W.mg_of X G g_gW, _, rfl⟩, ⟨_, PySem.W.mg_of X G g_gM, _, rfl⟩, ⟨T_gB, _, PySem.W.mg_of X G g_gB, rfl, fun H => .inr ⟨o_gB, j_gB, n_gB, gl_gB, gc_gB, gd_gB, gs_gB, gv_gB⟩⟩, ⟨_, PySem.W.mg_of X G g_gL, _, rfl⟩⟩
  have Gk : GvK K mg := ⟨⟨T_gK, _, PySem.W.mg_of X G g_gK, rfl, fun H => .inr ⟨o_gK, j_gK, n_gK, gl_gK, gc_gK, gd_gK, gs_gK, gv_gK⟩⟩, ⟨T_gN, _, PySem.W.mg_of X G g_gN, rfl, fun H => .inr ⟨o_gN, j_gN, n_gN, gl_gN, gc_gN, gd_gN, gs_gN, gv_gN⟩⟩⟩
  have hSn : SnC K CS := ⟨hCS, nS0, nS1, nS2, nS3⟩
  have mL := PySem.W.mg_of X G aL
  have mS := PySem.W.mg_of X G aS
  have EZ : Err0 K mg "BadKind" CZ := ⟨PySem.W.mg_of X G aZ, exZ, kcZ, eCZ, tCZ⟩
  have EN : Err0 K mg "SaysNothing" CN := ⟨PySem.W.mg_of X G aN, exN, kcN, eCN, tCN⟩
  have G0 := ok_short (P := P) (w := w) (base := base) F0 T C
  have G1 := ok_copied (P := P) (w := w) (base := base) F1 T nD
  have G2 := ok_is_letter (P := P) (w := w) (base := base) F2 T C G0 A0
  have G3 := ok_pen (P := P) (w := w) (base := base) F3 T
  have G4 := ok_draw (P := P) (w := w) (base := base) F4 T
  have G5 := ok_pick (P := P) (w := w) (base := base) F5 T G4 A4
  have GB := ok_badInit (P := P) (w := w) (base := base) FB OB nB0 G1 A1
  have GM := ok_manyInit (P := P) (w := w) (base := base) FM OM nM0 nM1 nM2 G1 A1
  have GT := ok_initBadLetter (P := P) (w := w) (base := base) FT OT nT0 G1 A1
  have GL := ok_letInit (P := P) (w := w) (base := base) FL T C hCL nL0 G2 A2 GB EB GM EM
  have GH := ok_has (P := P) (w := w) (base := base) (mg := mg) FH hCL nL0
  have GR := ok_rank (P := P) (w := w) (base := base) FR T hCL nL0 GT ET
  have GQ := ok_eq (P := P) (w := w) (base := base) FQ T hCL nL0 YL mL
  have ML : Mk K CL fL := ⟨mkL, iL, isL, kcL⟩
  have MS : Mk K CS fS := ⟨mkS, iS, isS, kcS⟩
  obtain ⟨⟨uS, ruS, bS0⟩, bS⟩ := sen_binds FS
  have Gm := ok_isDue (P := P) (w := w) (base := base) (mg := mg) Fm GH bH iH isH
  have Go' := ok_form (P := P) (w := w) (base := base) (mg := mg) Fo hCL ⟨iR, isR, kR⟩ bR GR
  have GS := ok_senInit (P := P) (w := w) (base := base) FS hSn Gk GH bH iH isH Gm Am Go' Ao EZ EN GT ET
  have GA := ok_seq (P := P) (w := w) (base := base) FA T hSn YS mS GQ bQ iQ isQ
  have G6 := ok_shuf (P := P) (w := w) (base := base) F6 T G4 A4
  have G7 := ok_words (P := P) (w := w) (base := base) F7 T G4 A4 G5 A5 G6 A6
  have G8 := ok_marked (P := P) (w := w) (base := base) F8 T G4 A4
  have Ge := ok_menu (P := P) (w := w) (base := base) Fe T hCL nL0 (PySem.W.mg_of X G g_gU) rfl (fun H => .inr ⟨o_gU, j_gU, n_gU, gl_gU, gc_gU, gd_gU, gs_gU, gv_gU⟩) MS mS bS bS0 ruS GS
  exact run_law F9 T (PySem.W.mg_none_of X G z16) hCL nL0 hSn YS G3 A3 G4 A4 G7 A7 G8 A8 Ge Ae ML mL bL GL MS mS bS GS GA bA nES GQ bQ nEL rfl ⟨rfl, by decide, by decide⟩ e0 (.of_eq rfl) hS hl
theorem walk {l : PySem.W.OpenLaw} {q : Program} {loose : List Str} {XP : (Str → Option Value) → Heap → Prop} {YP : World → Heap → Prop} {d : DefRec} {K : Params → PySem.W.Frag} (hn : l.most = some 63) (hdf : d.params.defaults = [])
    (hY : ∀ (w : World) (h : Heap), YP w h → (K w.params).In h)
    (F : ∀ (w : World) (mg : Str → Option Value) (fa : Addr) (h : Heap), (K w.params).In h → h.Ns mainGlobals mg → mg d.name = some (.ref fa) → ∀ (base : Heap), (K w.params).In base → base.Ns mainGlobals mg →
      ∀ (s₁ : Shared) (H : Hp) (a : Addr) (ns : List Int), Env0 l.prog w (K w.params) mg base callerA [] s₁ H → SqL (K w.params) H a (ns.map V.int) → ns.length ≤ 63 →
        codeAny (model l.prog w) callerA (.call (.ref fa) ⟨[.ref a], []⟩) (CR CX0 [] l.prog w H s₁ (fun v _ => v = .bl true) E0) s₁) :
    PySem.W.WalkO q loose XP YP l.row.toRowW d [] (fun f vs => PySem.call f vs) := by
  refine Att.attach_call hn hdf fun w s₀ s₁ mg mb fa o pm cd doc a vs ns G Y ho hd hcd hmg hobj hints hlen hg => ?_
  have KX := hY w _ Y
  exact law_at KX G.T.g G.T.b G.T.builtins G.T.nolimit hg hobj hints (Nat.le_trans hlen (by decide)) fun base H kb gb e0 hS => F w mg fa _ KX G.T.g hmg base kb gb s₁ H a ns e0 hS hlen
end Ask

open PySem PySem.W PyProof.Rows
set_option maxRecDepth 100000
set_option maxHeartbeats 0
open_top headK80 for PySem.Challenge.rw_asksmore_k80_the_menu
set_option maxRecDepth 100000 in
set_option maxHeartbeats 0 in
theorem PySem.Challenge.cw_asksmore_k80_the_menu_holds : PySem.Challenge.rw_asksmore_k80_the_menu.Holds := by
  refine headK80 ?_
  k_fill
  refine Ask.walk (l := PySem.Challenge.rw_asksmore_k80_the_menu) rfl rfl (fun w h Y => PySem.W.kIn_of Y) ?F
  case F =>
    intro w mg fa h KX G hmg
    refine' Ask.all_mk KX G hmg ?hn ?ht ?a0 ?l0 ?c0 ?k0 ?a1 ?l1 ?c1 ?k1 ?a2 ?l2 ?c2 ?k2 ?a3 ?l3 ?c3 ?k3 ?a4 ?l4 ?c4 ?k4 ?a5 ?l5 ?c5 ?k5 ?a6 ?l6 ?c6 ?k6 ?a7 ?l7 ?c7 ?k7 ?a8 ?l8 ?c8 ?k8 ?am ?lm ?cm ?km ?ao ?lo ?co ?ko ?ae ?le ?ce ?ke ?a9 ?l9 ?c9 ?k9 ?aB ?iB ?lB ?cB ?kB ?kcB ?saB ?xB ?vB ?gaB ?ggB ?eCB ?tCB ?tfB ?hCB ?nB0 ?aM ?iM ?lM ?cM ?kM ?kcM ?saM ?xM ?vM ?gaM ?ggM ?eCM ?tCM ?tfM ?hCM ?nM0 ?nM1 ?nM2 ?aT ?iT ?lT ?cT ?kT ?kcT ?saT ?xT ?vT ?gaT ?ggT ?eCT ?tCT ?tfT ?hCT ?nT0 ?aZ ?exZ ?kcZ ?eCZ ?tCZ ?aN ?exN ?kcN ?eCN ?tCN ?aL ?kcL ?saL ?pgL ?hdL ?poL ?mkL ?nL0 ?icL ?haL ?hmL ?iL ?lL ?cL ?kL ?isL ?iH ?lH ?cH ?kH ?isH ?iR ?lR ?cR ?kR ?isR ?iQ ?lQ ?cQ ?kQ ?isQ ?aS ?kcS ?saS ?pgS ?hdS ?poS ?mkS ?nS0 ?nS1 ?nS2 ?nS3 ?icS ?haS ?hmS ?iS ?lS ?cS ?kS ?dTS ?dUS ?isS ?tcS ?iA ?lA ?cA ?kA ?isA ?g_gS ?g_gW ?g_gM ?g_gL ?g_gB ?gl_gB ?gc_gB ?gd_gB ?gs_gB ?gv_gB ?g_gK ?gl_gK ?gc_gK ?gd_gK ?gs_gK ?gv_gK ?g_gN ?gl_gN ?gc_gN ?gd_gN ?gs_gN ?gv_gN ?g_gU ?gl_gU ?gc_gU ?gd_gU ?gs_gU ?gv_gU ?z0 ?z1 ?z2 ?z3 ?z4 ?z5 ?z6 ?z7 ?z8 ?z9 ?z10 ?z11 ?z12 ?z13 ?z14 ?z15 ?z16 ?xL ?vL ?xNL ?xAL ?xBL ?xCL ?xDL ?xS ?vS ?xNS ?xAS ?xBS ?xCS ?xDS
    (case hn => k_is)
    (case ht => k_is)
    (case a0 => k_is)
    (case l0 => k_is)
    (case c0 => k_is)
    (case k0 => k_is)
    (case a1 => k_is)
    (case l1 => k_is)
    (case c1 => k_is)
    (case k1 => k_is)
    (case a2 => k_is)
    (case l2 => k_is)
    (case c2 => k_is)
    (case k2 => k_is)
    (case a3 => k_is)
    (case l3 => k_is)
    (case c3 => k_is)
    (case k3 => k_is)
    (case a4 => k_is)
    (case l4 => k_is)
    (case c4 => k_is)
    (case k4 => k_is)
    (case a5 => k_is)
    (case l5 => k_is)
    (case c5 => k_is)
    (case k5 => k_is)
    (case a6 => k_is)
    (case l6 => k_is)
    (case c6 => k_is)
    (case k6 => k_is)
    (case a7 => k_is)
    (case l7 => k_is)
    (case c7 => k_is)
    (case k7 => k_is)
    (case a8 => k_is)
    (case l8 => k_is)
    (case c8 => k_is)
    (case k8 => k_is)
    (case am => k_is)
    (case lm => k_is)
    (case cm => k_is)
    (case km => k_is)
    (case ao => k_is)
    (case lo => k_is)
    (case co => k_is)
    (case ko => k_is)
    (case ae => k_is)
    (case le => k_is)
    (case ce => k_is)
    (case ke => k_is)
    (case a9 => k_is)
    (case l9 => k_is)
    (case c9 => k_is)
    (case k9 => k_is)
    (case aB => k_is)
    (case iB => k_is)
    (case lB => k_is)
    (case cB => k_is)
    (case kB => k_is)
    (case kcB => k_is)
    (case saB => k_is)
    (case xB => k_is)
    (case vB => rfl)
    (case gaB => k_is)
    (case ggB => k_is)
    (case eCB => k_is)
    (case tCB => k_is)
    (case tfB => k_is)
    (case hCB => k_is)
    (case nB0 => k_is)
    (case aM => k_is)
    (case iM => k_is)
    (case lM => k_is)
    (case cM => k_is)
    (case kM => k_is)
    (case kcM => k_is)
    (case saM => k_is)
    (case xM => k_is)
    (case vM => rfl)
    (case gaM => k_is)
    (case ggM => k_is)
    (case eCM => k_is)
    (case tCM => k_is)
    (case tfM => k_is)
    (case hCM => k_is)
    (case nM0 => k_is)
    (case nM1 => k_is)
    (case nM2 => k_is)
    (case aT => k_is)
    (case iT => k_is)
    (case lT => k_is)
    (case cT => k_is)
    (case kT => k_is)
    (case kcT => k_is)
    (case saT => k_is)
    (case xT => k_is)
    (case vT => rfl)
    (case gaT => k_is)
    (case ggT => k_is)
    (case eCT => k_is)
    (case tCT => k_is)
    (case tfT => k_is)
    (case hCT => k_is)
    (case nT0 => k_is)
    (case aZ => k_is)
    (case exZ => k_exc)
    (case kcZ => k_is)
    (case eCZ => k_is)
    (case tCZ => k_is)
    (case aN => k_is)
    (case exN => k_exc)
    (case kcN => k_is)
    (case eCN => k_is)
    (case tCN => k_is)
    (case aL => k_is)
    (case kcL => k_is)
    (case saL => k_is)
    (case pgL => k_is)
    (case hdL => k_is)
    (case poL => k_is)
    (case mkL => k_is)
    (case nL0 => k_is)
    (case icL => k_is)
    (case haL => k_is)
    (case hmL => k_is)
    (case iL => k_is)
    (case lL => k_is)
    (case cL => k_is)
    (case kL => k_is)
    (case isL => k_is)
    (case iH => k_is)
    (case lH => k_is)
    (case cH => k_is)
    (case kH => k_is)
    (case isH => k_is)
    (case iR => k_is)
    (case lR => k_is)
    (case cR => k_is)
    (case kR => k_is)
    (case isR => k_is)
    (case iQ => k_is)
    (case lQ => k_is)
    (case cQ => k_is)
    (case kQ => k_is)
    (case isQ => k_is)
    (case aS => k_is)
    (case kcS => k_is)
    (case saS => k_is)
    (case pgS => k_is)
    (case hdS => k_is)
    (case poS => k_is)
    (case mkS => k_is)
    (case nS0 => k_is)
    (case nS1 => k_is)
    (case nS2 => k_is)
    (case nS3 => k_is)
    (case icS => k_is)
    (case haS => k_is)
    (case hmS => k_is)
    (case iS => k_is)
    (case lS => k_is)
    (case cS => k_is)
    (case kS => k_is)
    (case dTS => k_is)
    (case dUS => rfl)
    (case isS => k_is)
    (case tcS => k_is)
    (case iA => k_is)
    (case lA => k_is)
    (case cA => k_is)
    (case kA => k_is)
    (case isA => k_is)
    (case g_gS => k_is)
    (case g_gW => k_is)
    (case g_gM => k_is)
    (case g_gL => k_is)
    (case g_gB => k_is)
    (case gl_gB => k_is)
    (case gc_gB => rfl)
    (case gd_gB => rfl)
    (case gs_gB => decide)
    (case gv_gB => exact .cons ⟨_, rfl⟩ (.cons ⟨_, rfl⟩ (.nil)))
    (case g_gK => k_is)
    (case gl_gK => k_is)
    (case gc_gK => rfl)
    (case gd_gK => rfl)
    (case gs_gK => decide)
    (case gv_gK => exact .cons ⟨_, rfl⟩ (.cons ⟨_, rfl⟩ (.cons ⟨_, rfl⟩ (.cons ⟨_, rfl⟩ (.cons ⟨_, rfl⟩ (.cons ⟨_, rfl⟩ (.nil)))))))
    (case g_gN => k_is)
    (case gl_gN => k_is)
    (case gc_gN => rfl)
    (case gd_gN => rfl)
    (case gs_gN => decide)
    (case gv_gN => exact .cons ⟨_, rfl⟩ (.cons ⟨_, rfl⟩ (.nil)))
    (case g_gU => k_is)
    (case gl_gU => k_is)
    (case gc_gU => rfl)
    (case gd_gU => rfl)
    (case gs_gU => decide)
    (case gv_gU => exact .cons ⟨_, rfl⟩ (.cons ⟨_, rfl⟩ (.cons ⟨_, rfl⟩ (.nil))))
    (case z0 => k_is)
    (case z1 => k_is)
    (case z2 => k_is)
    (case z3 => k_is)
    (case z4 => k_is)
    (case z5 => k_is)
    (case z6 => k_is)
    (case z7 => k_is)
    (case z8 => k_is)
    (case z9 => k_is)
    (case z10 => k_is)
    (case z11 => k_is)
    (case z12 => k_is)
    (case z13 => k_is)
    (case z14 => k_is)
    (case z15 => k_is)
    (case z16 => k_is)
    (case xL => k_is)
    (case vL => rfl)
    (case xNL => k_is)
    (case xAL => rfl)
    (case xBL => exact Ask.strKeys_of rfl)
    (case xCL => rfl)
    (case xDL => rfl)
    (case xS => k_is)
    (case vS => rfl)
    (case xNS => k_is)
    (case xAS => rfl)
    (case xBS => exact Ask.strKeys_of rfl)
    (case xCS => rfl)
    (case xDS => rfl)
