import PyProof.Rows.All
import Wide.All
import OpenK.AllK
import Wide.FinOn
import HandS.ForMost
import HandS.Exc
import HandS.TryOnly
import HandS.ExcInit
import HandS.IsInst
import HandS.Style
import HandS.Wide
import HandS.Deep
import HandS.Walk
import HandS.ExcField
import HandS.WordsExc
import HandS.Flow
import KE.GoesEnum
import PyProof.ReprRoads
import HandS.ExcOwn
import HandS.List
import HandS.OwnEq
import PyProof.InstNe
import PyProof.EqKinds
import KE.KExcIs
import HandS.Strs
import HandS.TupLe
import HandS.TupAny
import HandS.Defaults
import HandS.Base
import HandS.Call
import HandS.SetTxt0
import HandS.SetFor
import HandS.TupSets
import PyProof.Rows.SortStr
import HandS.Words
import PyProof.MeetsIn
import PyProof.Rows.Range3
import PyProof.CallStr
import HandS.CallLocal
import HandS.ClsMeth
import HandS.Property
import HandS.Lambda
import HandS.Nested
import KE.KDflt
import HandS.SetKeys
import HandS.Conv
import PyProof.DictMoreH
import HandS.Zip
import HandS.Star
import HandS.MakeKwOnly
import HandS.More
import HandS.EndTab
import KE.KNestM
import KE.OsRunLaw
import PySem.Challenge.RW_asksmore_k65_whole_what_machines_break
set_option Elab.async false
set_option linter.all false
set_option maxRecDepth 100000
set_option maxHeartbeats 4000000
section
open PySem PySem.W PyProof.Rows
set_option maxHeartbeats 0
/-- the program's text with the law's def alone: what the walk looks at stands in K -/
def Ask.lawQ : Program := { PySem.Challenge.rw_asksmore_k65_whole_what_machines_break.row.toRowW.1 with main := { PySem.Challenge.rw_asksmore_k65_whole_what_machines_break.row.toRowW.1.main with body := PySem.Challenge.rw_asksmore_k65_whole_what_machines_break.row.toRowW.1.main.body.drop 93 } }
def Ask.looseQ : List PySem.Str := [Str.ofString "_wall", Str.ofString "__name__", Str.ofString "SMALL_LETTERS", Str.ofString "WORD_SIGNS", Str.ofString "MOST_SIGNS", Str.ofString "is_whole", Str.ofString "is_index", Str.ofString "is_list_of", Str.ofString "is_short_word", Str.ofString "copied", Str.ofString "AsksError", Str.ofString "BadLetters", Str.ofString "BadLetter", Str.ofString "BadBeginning", Str.ofString "BadRuns", Str.ofString "BadCount", Str.ofString "BadPlace", Str.ofString "BadKind", Str.ofString "SaysNothing", Str.ofString "BadAnswers", Str.ofString "OtherLetters", Str.ofString "TooLong", Str.ofString "TooMany", Str.ofString "BadRow", Str.ofString "BadState", Str.ofString "Uneven", Str.ofString "BEGINNINGS", Str.ofString "MOST_LETTERS", Str.ofString "is_letter", Str.ofString "require_same", Str.ofString "Letters", Str.ofString "joined", Str.ofString "spliced", Str.ofString "parted", Str.ofString "size_of", Str.ofString "MOST_COUNT", Str.ofString "MOST_RUNS", Str.ofString "MOST_SPELLED", Str.ofString "is_beginning", Str.ofString "require_beginning", Str.ofString "require_count", Str.ofString "require_runs", Str.ofString "extended", Str.ofString "CheckedRuns", Str.ofString "History", Str.ofString "KINDS", Str.ofString "LONE_KINDS", Str.ofString "LIMIT_KINDS", Str.ofString "MOST_ANSWERS", Str.ofString "is_answer", Str.ofString "answer_set", Str.ofString "is_due", Str.ofString "sides", Str.ofString "one_form", Str.ofString "side_of", Str.ofString "Sentence", Str.ofString "Limit", Str.ofString "leap", Str.ofString "MOST_STATES", Str.ofString "told_rows", Str.ofString "told_answers", Str.ofString "first_histories", Str.ofString "Machine", Str.ofString "_law_pen", Str.ofString "_law_draw", Str.ofString "_law_pick", Str.ofString "_law_shuffled", Str.ofString "_law_words", Str.ofString "_law_letters", Str.ofString "_law_machine", Str.ofString "_law_led", Str.ofString "_law_spelled", Str.ofString "_law_sentence", Str.ofString "_law_sides", Str.ofString "_law_limit", Str.ofString "_law_history", Str.ofString "_law_firsts", Str.ofString "_law_program", Str.ofString "_law_answering", Str.ofString "_law_tame", Str.ofString "_law_any_said", Str.ofString "_law_state_due", Str.ofString "_law_answer_due", Str.ofString "_law_is_broken", Str.ofString "_law_is_refused"]
local macro_rules | `(tactic| k_head) => `(tactic| k_headL)
local macro_rules | `(tactic| o_headL ($f $K $A $e)) => `(tactic| (
    refine holds_open (q := Ask.lawQ) (loose := Ask.looseQ)
      (Xt := fun s => recOk (RowW.records PySem.Challenge.rw_asksmore_k65_whole_what_machines_break.row.toRowW) s) (XP := fun _ _ => True)
      (Yf := Hook.obs (PySem.W.kHook (fun P => (754, PySem.W.tabObj #[]) :: (946, PySem.W.tabObj #[]) :: $K P) (754 :: 946 :: $A) $e))
      (Ya := Hook.val (PySem.W.kHook (fun P => (754, PySem.W.tabObj #[]) :: (946, PySem.W.tabObj #[]) :: $K P) (754 :: 946 :: $A) $e))
      (YP := Hook.says (PySem.W.kHook (fun P => (754, PySem.W.tabObj #[]) :: (946, PySem.W.tabObj #[]) :: $K P) (754 :: 946 :: $A) $e))
      (N := 17104) ?hl (Hook.of (PySem.W.kHook (fun P => (754, PySem.W.tabObj #[]) :: (946, PySem.W.tabObj #[]) :: $K P) (754 :: 946 :: $A) $e))
      (Hook.keeps (PySem.W.kHook (fun P => (754, PySem.W.tabObj #[]) :: (946, PySem.W.tabObj #[]) :: $K P) (754 :: 946 :: $A) $e))
      (fun _ _ => trivial) (fun _ _ _ _ _ => trivial) (by rfl) (by rfl) (by rfl) (fun s e => recFacts_of e) (by rfl)
      (by decide +kernel) (by decide +kernel) ⟨rfl, rfl, rfl, rfl, rfl, by decide +kernel⟩ ?hw ?hc
    (case hl =>
      refine HeadRun.left_oneK (M := 16404) (by kernel_rfl) (by rfl) (fun s => by kernel_rfl) (by rfl) ?_
      intro w os
      kernel_rfl)))
open_top headK65 for PySem.Challenge.rw_asksmore_k65_whole_what_machines_break
end
namespace Ask
open PySem L2
def top (i : Nat) : Stmt := PySem.Challenge.pw_asksmore_k65_whole_what_machines_break.main.body.getD i (.Pass ⟨0, 0, 0, 0⟩)
/-- the built-in names that the text calls -/
structure Blt (mg : Str → Option Value) : Prop where
  n_int : mg "int" = none
  n_len : mg "len" = none
  n_abs : mg "abs" = none
  n_list : mg "list" = none
  n_range : mg "range" = none
  n_min : mg "min" = none
  n_str : mg "str" = none
  n_isinstance : mg "isinstance" = none
  n_all : mg "all" = none
  n_enumerate : mg "enumerate" = none
  n_tuple : mg "tuple" = none
  n_repr : mg "repr" = none
/-- all but what stands at p is as it was -/
def Kp (p : Addr) (H H' : Hp) : Prop := ∀ b o, b ≠ p → H b = some o → H' b = some o
theorem Kp.refl (p : Addr) (H : Hp) : Kp p H H := fun _ _ _ h => h
theorem Kp.trans {p : Addr} {H H1 H2 : Hp} (a : Kp p H H1) (b : Kp p H1 H2) : Kp p H H2 := fun c o n h => b c o n (a c o n h)
theorem Kp.upd (p : Addr) (H : Hp) (o : HO) : Kp p H (upd H p o) := fun b u n h => by rw [upd_ne n]; exact h
theorem Kp.of {p : Addr} {H H' : Hp} (s : Same H H') : Kp p H H' := fun b o _ h => s b o h
theorem Kp.new {p q : Addr} {H H' : Hp} {o : HO} (k : Kp p H H') (h : H' q = none) : Kp p H (L2.upd H' q o) := fun b u n e => by
  rw [upd_ne (ne_of_none (k b u n e) h)]
  exact k b u n e
theorem kLC : ¬ ((Sum.inr ("left" : Str) : Key) = Sum.inr ("cells" : Str)) := by decide +kernel
theorem kLB : ¬ ((Sum.inr ("left" : Str) : Key) = Sum.inr ("begun" : Str)) := by decide +kernel
theorem kBC : ¬ ((Sum.inr ("begun" : Str) : Key) = Sum.inr ("cells" : Str)) := by decide +kernel
/-- what a pen holds -/
def pk (c : Addr) (b l : Int) : List (Key × V) := [(Sum.inr ("cells" : Str), .ref c), (Sum.inr ("begun" : Str), .int b), (Sum.inr ("left" : Str), .int l)]
theorem pk_cells (c : Addr) (b l : Int) : valV (pk c b l) (Sum.inr ("cells" : Str)) = some (.ref c) := valV_pos rfl
theorem pk_begun (c : Addr) (b l : Int) : valV (pk c b l) (Sum.inr ("begun" : Str)) = some (.int b) :=
  (valV_neg (fun z => kBC z.symm)).trans (valV_pos rfl)
theorem pk_left (c : Addr) (b l : Int) : valV (pk c b l) (Sum.inr ("left" : Str)) = some (.int l) :=
  (valV_neg (fun z => kLC z.symm)).trans ((valV_neg (fun z => kLB z.symm)).trans (valV_pos rfl))
theorem pk_putL (c : Addr) (b l m : Int) : putK (pk c b l) (Sum.inr ("left" : Str)) (.int m) = pk c b m := by
  unfold putK pk
  have e : (([(Sum.inr ("cells" : Str), .ref c), (Sum.inr ("begun" : Str), .int b), (Sum.inr ("left" : Str), .int l)] : List (Key × V)).any fun kv => decide (kv.1 = Sum.inr ("left" : Str))) = true := by simp
  rw [if_pos e]
  simp only [List.map_cons, List.map_nil]
  rw [if_neg (fun z => kLC z.symm), if_neg (fun z => kLB z.symm)]
  rfl
theorem pk_putB (c : Addr) (b l m : Int) : putK (pk c b l) (Sum.inr ("begun" : Str)) (.int m) = pk c m l := by
  unfold putK pk
  have e : (([(Sum.inr ("cells" : Str), .ref c), (Sum.inr ("begun" : Str), .int b), (Sum.inr ("left" : Str), .int l)] : List (Key × V)).any fun kv => decide (kv.1 = Sum.inr ("begun" : Str))) = true := by simp
  rw [if_pos e]
  simp only [List.map_cons, List.map_nil]
  rw [if_neg (fun z => kBC z.symm), if_neg kLB]
  rfl
/-- at p a pen over the cells ns at c, of which at most B were begun -/
def Pen (c : Addr) (ns : List Int) (H : Hp) (p : Addr) (B : Nat) : Prop := ∃ (b l : Int), H p = some (.dK (pk c b l)) ∧ H c = some (.lst (ns.map V.int)) ∧ ns.length ≤ 63 ∧ 0 ≤ b ∧ b ≤ (B : Int)
/-- from H0 to H all but the pen stands as it stood, and the pen is a pen -/
structure Go (p c : Addr) (ns : List Int) (H0 H : Hp) (B : Nat) : Prop where
  kp : Kp p H0 H
  pen : Pen c ns H p B
  base : ∃ A, Pen c ns H0 p A
section
variable {p c q a : Addr} {ns : List Int} {H0 H H' : Hp} {A B : Nat} {o : HO} {xs : List V} {K : PySem.W.Frag}
theorem Pen.mono (h : Pen c ns H p A) (le : A ≤ B) : Pen c ns H p B := by
  obtain ⟨b, l, h1, h2, h3, h4, h5⟩ := h
  exact ⟨b, l, h1, h2, h3, h4, by omega⟩
theorem Pen.at (h : Pen c ns H p A) : ∃ o, H p = some o := by
  obtain ⟨b, l, h1, _⟩ := h
  exact ⟨_, h1⟩
theorem Pen.upd (h : Pen c ns H p A) (h1 : q ≠ p) (h2 : q ≠ c) : Pen c ns (L2.upd H q o) p A := by
  obtain ⟨b, l, e1, e2, e3⟩ := h
  exact ⟨b, l, by rw [upd_ne h1.symm]; exact e1, by rw [upd_ne h2.symm]; exact e2, e3⟩
theorem Go.refl (h : Pen c ns H p B) : Go p c ns H H B := ⟨Kp.refl p H, h, B, h⟩
theorem Go.step (g : Go p c ns H0 H A) (g' : Go p c ns H H' B) : Go p c ns H0 H' B := ⟨g.kp.trans g'.kp, g'.pen, g.base⟩
theorem Go.mono (g : Go p c ns H0 H A) (le : A ≤ B) : Go p c ns H0 H B := ⟨g.kp, g.pen.mono le, g.base⟩
/-- fresh later is fresh before -/
theorem Go.free (g : Go p c ns H0 H B) (n : H q = none) : H0 q = none := by
  by_cases e : q = p
  · subst e
    obtain ⟨o, z⟩ := g.pen.at
    rw [z] at n
    cases n
  · cases z : H0 q with
    | none => rfl
    | some o =>
      rw [g.kp q o e z] at n
      cases n
theorem Go.ne (g : Go p c ns H0 H B) (n : H0 q = none) : q ≠ p ∧ q ≠ c := by
  obtain ⟨A, b, l, h1, h2, _⟩ := g.base
  refine ⟨fun e => ?_, fun e => ?_⟩
  · rw [e, h1] at n
    cases n
  · rw [e, h2] at n
    cases n
/-- what H0 did not know may change -/
theorem Go.mut (g : Go p c ns H0 H B) (n : H0 q = none) : Go p c ns H0 (upd H q o) B :=
  ⟨fun b u e z => by
    rw [upd_ne (ne_of_none z n)]
    exact g.kp b u e z, g.pen.upd (g.ne n).1 (g.ne n).2, g.base⟩
theorem Go.new (g : Go p c ns H0 H B) (n : H q = none) : Go p c ns H0 (upd H q o) B := g.mut (g.free n)
theorem Go.same (g : Go p c ns H0 H B) (s : Same H H') : Go p c ns H0 H' B := by
  obtain ⟨b, l, h1, h2, h3⟩ := g.pen
  exact ⟨g.kp.trans (Kp.of s), ⟨b, l, s _ _ h1, s _ _ h2, h3⟩, g.base⟩
theorem Go.at (g : Go p c ns H0 H B) (e : H0 a = some o) (d : ∀ kvs, o ≠ .dK kvs) : H a = some o := by
  obtain ⟨A, b, l, h1, _⟩ := g.base
  exact g.kp _ _ (ne_of e h1 (d _)) e
theorem Go.lst (g : Go p c ns H0 H B) (e : H0 a = some (.lst xs)) : H a = some (.lst xs) := g.at e (by intro _ z; cases z)
theorem Go.tup (g : Go p c ns H0 H B) (e : H0 a = some (.tup xs)) : H a = some (.tup xs) := g.at e (by intro _ z; cases z)
theorem Go.seq (g : Go p c ns H0 H B) (q : SqL K H0 a xs) : SqL K H a xs := by
  rcases q with (q | ⟨o, q⟩) | q
  · exact .inl (.inl (g.lst q))
  · exact .inl (.inr ⟨o, g.at q (by intro _ z; cases z)⟩)
  · exact .inr q
end

/-- x = a if c else b, its two ways met -/
theorem seqIf_cut {t : TT} {ta tb : TE} {g : TG} {u : TS} {D : Ends} {σ : L2.St} {H : Hp} (Pv : V → Hp → Prop) (h : ∀ Q' : VK, (∀ v H', Pv v H' → Q' v H') → tIf t ta tb σ H Q') (hq : ∀ v H', Pv v H' → g v σ H' (u D)) :
    tSeq (tAsg (tIf t ta tb) g) u D σ H := h _ hq
/-- if c: body, the ways past it met -/
theorem seqIfS_cut {c : TT} {t v u : TS} {D : Ends} {σ : L2.St} {H : Hp} (hn : u D σ H) (h : ∀ N : L2.St → Hp → Prop, N σ H → tIfS c t v { D with nx := N } σ H) : tSeq (tIfS c t v) u D σ H := h (u D) hn

/-! ### the draw -/
def spDraw : Sp := fun vs H Q _ => ∃ (p c : Addr) (ns : List Int) (m : Int) (B : Nat), vs = [.ref p, .int m] ∧ Pen c ns H p B ∧ B ≤ 1000000000 ∧ 0 < m ∧ m < 1073741824 ∧
  ∀ (H' : Hp) (r : Int), Go p c ns H H' (B + 1) → 0 ≤ r → r < m → Q (.int r) H'
section
variable {P : Program} {w : World} {K : PySem.W.Frag} {mg : Str → Option Value} {base : Heap}
abbrev s__law_draw : Stmt := top 72
theorem sc__law_draw : FnScope ["_law_pen_here", "_law_many", "_law_digit", "_law_at", "_law_size", "_law_cell", "_law_blend"] ["_law_pen_here", "_law_many"] (defScope s__law_draw) := ⟨rfl, rfl, rfl, by decide +kernel, rfl, by decide +kernel, by decide +kernel⟩
theorem div_ok {i j : Int} (h : 0 < j) (h2 : j < 1073741824) : CDivW i j := wide_div (b := 30) h (by omega) (by decide) (by decide)
theorem mul_small {i j : Int} (h : -(2 ^ 64) < i ∧ i < 2 ^ 64) : CMul i j := .inl h
theorem ok_draw {f : Addr} {fd : FuncData} (F : Fun K "_law_draw" "_law_draw" s__law_draw f fd) (T : Blt mg) : FnOk P w K mg base CX0 1 f fd ["_law_pen_here", "_law_many"] spDraw := by
  refine F.ok sc__law_draw (fun vs H Q E h => ?_) (fun cdv A outer s H vs Q E hr h => ?_)
  · obtain ⟨p, c, ns, m, B, rfl, _⟩ := h
    rfl
  · obtain ⟨p, c, ns, m, B, rfl, hpen, hB, hm0, hm1, k⟩ := h
    obtain ⟨b, l, hp, hc, hl, hb0, hbB⟩ := id hpen
    have hu := hu_of hr
    refine ⟨_, (pss_cons (ps_if (pt_cmpR op_gt (pe_dget hu (pv 0) pe_str (fun _ _ => rfl)) pe_int (nomark _)) (pss_cons (ps_set (i := 2) sc__law_draw.nd rfl (Or.inl rfl) (pe_op op_mod (pe_callTy call_int1 (by rfl) T.n_int (by decide +kernel) (pa_cons (pe_dget hu (pv 0) pe_str (fun _ _ => rfl)) pa_nil)) (pv 1)))
      (pss_cons (ps_dput hu (pv 0) pe_str (pe_op op_fdivW (pe_dget hu (pv 0) pe_str (fun _ _ => rfl)) (pv 1)) rfl)
      (pss_one (ps_ret (pv 2))))) pss_nil)
      (pss_cons (ps_par (i := 3) (j := 4) rfl sc__law_draw.nd rfl rfl (by decide) rfl rfl (pa_cons (pe_dget hu (pv 0) pe_str (fun _ _ => rfl)) (pa_cons (pe_callB call_len_seq (by rfl) T.n_len (by decide +kernel) (pa_cons (pe_dget hu (pv 0) pe_str (fun _ _ => rfl)) pa_nil)) pa_nil)) (by rfl))
      (pss_cons (ps_dput hu (pv 0) pe_str (pe_op op_add (pv 3) pe_int) rfl)
      (pss_cons (ps_set (i := 5) sc__law_draw.nd rfl (Or.inl rfl) (pe_ifExp (pt_cmpR op_gt (pv 4) pe_int (nomark _)) (pe_ix ix_list (pe_dget hu (pv 0) pe_str (fun _ _ => rfl)) (pe_op op_mod (pe_callTy call_int1 (by rfl) T.n_int (by decide +kernel) (pa_cons (pv 3) pa_nil)) (pv 4)) (fun _ _ => rfl)) (pe_op op_add (pe_op op_mul pe_int (pv 3)) pe_int)))
      (pss_cons (ps_if (PW.pt (pw_and (pt_cmpR op_lt (pv 3) (pv 4) (nomark _)) (pw_and1 (pt_cmpR op_ge (pe_callB call_abs (by rfl) T.n_abs (by decide +kernel) (pa_cons (pv 5) pa_nil)) (pe_op op_pow pe_int pe_int) (nomark _))))) (pss_cons (ps_dput hu (pv 0) pe_str (pe_op op_fdivW (pe_op op_sub (pe_callB call_abs (by rfl) T.n_abs (by decide +kernel) (pa_cons (pv 5) pa_nil)) (pe_op op_pow pe_int pe_int)) (pv 1)) rfl)
      (pss_one (ps_ret (pe_op op_mod (pe_callTy call_int1 (by rfl) T.n_int (by decide +kernel) (pa_cons (pe_op op_sub (pe_callB call_abs (by rfl) T.n_abs (by decide +kernel) (pa_cons (pv 5) pa_nil)) (pe_op op_pow pe_int pe_int)) pa_nil)) (pv 1))))) pss_nil)
      (pss_cons (ps_set (i := 6) sc__law_draw.nd rfl (Or.inl rfl) (pe_op op_mod (pe_callTy call_int1 (by rfl) T.n_int (by decide +kernel) (pa_cons (pe_op op_add (pe_op op_add (pe_op op_add (pe_op op_mul (pe_op op_mod (pe_callTy call_int1 (by rfl) T.n_int (by decide +kernel) (pa_cons (pv 5) pa_nil)) pe_int) pe_int) (pe_op op_mul (pe_op op_mul pe_int (pv 3)) (pv 3))) (pe_op op_mul pe_int (pv 3))) pe_int) pa_nil)) pe_int))
      (pss_cons (ps_set (i := 6) sc__law_draw.nd rfl (Or.inl rfl) (pe_op op_mod (pe_callTy call_int1 (by rfl) T.n_int (by decide +kernel) (pa_cons (pe_op op_add (pe_op op_add (pe_op op_mul (pv 6) (pv 6)) (pe_op op_mul pe_int (pv 6))) (pe_op op_mul pe_int (pv 3))) pa_nil)) pe_int))
      (pss_one (ps_ret (pe_op op_mod (pe_callTy call_int1 (by rfl) T.n_int (by decide +kernel) (pa_cons (pe_op op_fdivW (pe_op op_mod (pe_callTy call_int1 (by rfl) T.n_int (by decide +kernel) (pa_cons (pe_op op_mul (pv 6) (pe_op op_add (pv 6) pe_int)) pa_nil)) pe_int) pe_int) pa_nil)) (pv 1))))))))))), ?_⟩
    have gL : ∀ {H : Hp} {b l : Int}, H p = some (.dK (pk c b l)) → DGet H p (.str "left") (some (.int l)) := fun e => by
      have z := DGet.k (k := Sum.inr ("left" : Str)) e
      rw [pk_left] at z
      exact z
    have gB : ∀ {H : Hp} {b l : Int}, H p = some (.dK (pk c b l)) → DGet H p (.str "begun") (some (.int b)) := fun e => by
      have z := DGet.k (k := Sum.inr ("begun" : Str)) e
      rw [pk_begun] at z
      exact z
    have gC : ∀ {H : Hp} {b l : Int}, H p = some (.dK (pk c b l)) → DGet H p (.str "cells") (some (.ref c)) := fun e => by
      have z := DGet.k (k := Sum.inr ("cells" : Str)) e
      rw [pk_cells] at z
      exact z
    have three : ∀ b l : Int, (pk c b l).length < sizeLine := fun b l => by show 3 < sizeLine; decide
    have pL : ∀ {H : Hp} {b l : Int} (m : Int), H p = some (.dK (pk c b l)) → DPut H p (.str "left") (.int m) (upd H p (.dK (pk c b m))) := fun m e => by
      have z := DPut.k (k := Sum.inr ("left" : Str)) (v := .int m) e (three _ _)
      rw [pk_putL] at z
      exact z
    have pB : ∀ {H : Hp} {b l : Int} (m : Int), H p = some (.dK (pk c b l)) → DPut H p (.str "begun") (.int m) (upd H p (.dK (pk c m l))) := fun m e => by
      have z := DPut.k (k := Sum.inr ("begun" : Str)) (v := .int m) e (three _ _)
      rw [pk_putB] at z
      exact z
    have ncp : c ≠ p := ne_of hc hp (by intro z; cases z)
    -- if pen['left'] > 0
    refine ⟨_, rfl, p, _, rfl, gL hp, _, _, rfl, rfl, _, rfl, ?_⟩
    refine ite2 (fun h0 => ?_) (fun h0 => ?_)
    · -- digit = int(left) % many; left = left // many; return digit
      refine ⟨_, rfl, p, _, rfl, gL hp, .inl ⟨_, rfl, _, rfl, _, _, rfl, rfl, hm0, ?_⟩⟩
      refine ⟨_, rfl, p, _, rfl, gL hp, _, rfl, _, _, rfl, rfl, div_ok hm0 hm1, _, rfl, p, _, rfl, pL _ hp, ?_⟩
      refine ⟨_, rfl, ?_⟩
      refine k _ _ ⟨Kp.upd _ _ _, ⟨b, _, upd_same, by rw [upd_ne ncp]; exact hc, hl, hb0, by omega⟩, B, hpen⟩ (Int.emod_nonneg _ (by omega)) (Int.emod_lt_of_pos _ hm0)
    · -- place, size = begun, len(cells); begun = place + 1
      refine ⟨_, rfl, p, _, rfl, gB hp, _, rfl, p, _, rfl, gC hp, c, _, rfl, .inl (SqL.of hc), _, _, rfl, ?_⟩
      refine ⟨_, rfl, _, _, rfl, rfl, _, rfl, p, _, rfl, pB _ hp, ?_⟩
      have hp1 : upd H p (.dK (pk c (b + 1) l)) p = some (.dK (pk c (b + 1) l)) := upd_same
      have hc1 : upd H p (.dK (pk c (b + 1) l)) c = some (.lst (ns.map V.int)) := by rw [upd_ne ncp]; exact hc
      have k1 : Kp p H (upd H p (.dK (pk c (b + 1) l))) := Kp.upd _ _ _
      have pen1 : Pen c ns (upd H p (.dK (pk c (b + 1) l))) p (B + 1) := ⟨b + 1, l, hp1, hc1, hl, by omega, by omega⟩
      generalize upd H p (.dK (pk c (b + 1) l)) = H1 at hp1 hc1 k1 pen1 ⊢
      -- told: some int
      try dsimp only
      refine seqIf_cut (fun v H' => H' = H1 ∧ ∃ z, v = .int z) (fun Q' q' => ?_) (fun v H' hv => ?_)
      · refine ⟨_, rfl, _, _, rfl, rfl, _, rfl, ?_⟩
        refine ite2 (fun h1 => ?_) (fun h1 => ?_)
        · have h1 : (0 : Int) < ((ns.map V.int).length : Nat) := of_decide_eq_true h1
          rw [List.length_map] at h1
          have e0 : 0 ≤ b % (ns.length : Int) := Int.emod_nonneg _ (by omega)
          have e1 : b % (ns.length : Int) < (ns.length : Int) := Int.emod_lt_of_pos _ h1
          have e2 : (b % (ns.length : Int)).toNat < ns.length := by omega
          refine ⟨_, rfl, p, _, rfl, gC hp1, ?_⟩
          refine ⟨_, rfl, .inl ⟨_, rfl, _, rfl, _, _, rfl, rfl, (by rw [List.length_map]; exact h1), c, ns.map V.int, _, V.int ns[(b % (ns.length : Int)).toNat], rfl, rfl, SqL.of hc1, ?_, q' _ _ ⟨rfl, _, rfl⟩⟩⟩
          rw [List.length_map]
          refine at_of (j := (b % (ns.length : Int)).toNat) (by omega) ?_
          rw [List.getElem?_map, List.getElem?_eq_getElem e2]
          rfl
        · refine ⟨_, rfl, _, _, rfl, rfl, mul_small (by omega), _, _, rfl, rfl, q' _ _ ⟨rfl, _, rfl⟩⟩
      obtain ⟨rfl, z, rfl⟩ := hv
      refine seqIfS_cut ?_ (fun N q => ?_)
      · -- the blend
        have m0 := Int.emod_nonneg z (show (4294967087 : Int) ≠ 0 by decide)
        have m1 := Int.emod_lt_of_pos z (show (0 : Int) < 4294967087 by decide)
        refine ⟨_, rfl, .inl ⟨_, rfl, _, _, rfl, rfl, (by show (0 : Int) < _; decide), _, _, rfl, rfl, mul_small (by omega), ?_⟩⟩
        refine ⟨_, rfl, _, _, rfl, rfl, mul_small (by omega), _, rfl, _, _, rfl, rfl, mul_small (by omega), _, _, rfl, rfl, _, rfl, _, _, rfl, rfl, mul_small (by omega), _, _, rfl, rfl, _, _, rfl, rfl, .inl ⟨_, rfl, _, _, rfl, rfl, (by show (0 : Int) < _; decide), ?_⟩⟩
        generalize hx : (z % 4294967087 * 45757 + 39119 * b * b + 907 * b + 23) % 4294967111 = x
        have x0 : 0 ≤ x := by rw [← hx]; exact Int.emod_nonneg _ (by decide)
        have x1 : x < 4294967111 := by rw [← hx]; exact Int.emod_lt_of_pos _ (by decide)
        clear hx
        refine ⟨_, rfl, _, rfl, _, _, rfl, rfl, mul_small (by omega), _, rfl, _, _, rfl, rfl, mul_small (by omega), _, _, rfl, rfl, _, rfl, _, _, rfl, rfl, mul_small (by omega), _, _, rfl, rfl, .inl ⟨_, rfl, _, _, rfl, rfl, (by show (0 : Int) < _; decide), ?_⟩⟩
        generalize hy : (x * x + 28657 * x + 31 * b) % 4294967029 = y
        have y0 : 0 ≤ y := by rw [← hy]; exact Int.emod_nonneg _ (by decide)
        have y1 : y < 4294967029 := by rw [← hy]; exact Int.emod_lt_of_pos _ (by decide)
        clear hy
        refine ⟨_, rfl, _, rfl, _, _, rfl, rfl, _, _, rfl, rfl, mul_small (by omega), .inl ⟨_, rfl, _, _, rfl, rfl, (by show (0 : Int) < _; decide), _, _, rfl, rfl, div_ok (by decide) (by decide), .inl ⟨_, rfl, _, rfl, _, _, rfl, rfl, hm0, ?_⟩⟩⟩
        exact k _ _ ⟨k1, pen1, B, hpen⟩ (Int.emod_nonneg _ (by omega)) (Int.emod_lt_of_pos _ hm0)
      · refine ⟨_, rfl, _, rfl, _, _, rfl, rfl, _, rfl, ?_⟩
        refine ite2 (fun h1 => ?_) (fun h1 => ?_)
        · refine ⟨_, rfl, _, rfl, _, _, rfl, rfl, (by refine ⟨by decide, by decide, by decide⟩), _, _, rfl, rfl, _, rfl, ?_⟩
          refine ite2 (fun h2 => ?_) (fun h2 => q)
          refine ⟨_, rfl, _, rfl, _, _, rfl, rfl, (by refine ⟨by decide, by decide, by decide⟩), _, _, rfl, rfl, _, rfl, _, _, rfl, rfl, div_ok hm0 hm1, _, rfl, p, _, rfl, pL _ hp1, ?_⟩
          refine ⟨_, rfl, _, rfl, _, _, rfl, rfl, (by refine ⟨by decide, by decide, by decide⟩), _, _, rfl, rfl, .inl ⟨_, rfl, _, rfl, _, _, rfl, rfl, hm0, ?_⟩⟩
          refine k _ _ ⟨k1.trans (Kp.upd _ _ _), ⟨b + 1, _, upd_same, by rw [upd_ne ncp]; exact hc1, hl, by omega, by omega⟩, B, hpen⟩ (Int.emod_nonneg _ (by omega)) (Int.emod_lt_of_pos _ hm0)
        · exact iteF q
end
end Ask

namespace Ask
open PySem L2
section
variable {P : Program} {w : World} {K : PySem.W.Frag} {mg : Str → Option Value} {base : Heap}
/-! ### the pen -/
def spPen (K : PySem.W.Frag) : Sp := fun vs H Q _ => ∃ (a : Addr) (ns : List Int), vs = [.ref a] ∧ SqL K H a (ns.map V.int) ∧ ns.length ≤ 63 ∧
  ∀ (H' : Hp) (p c : Addr), Same H H' → H p = none → Pen c ns H' p 0 → Q (.ref p) H'
abbrev s__law_pen : Stmt := top 71
theorem sc__law_pen : FnScope ["_law_script"] ["_law_script"] (defScope s__law_pen) := ⟨rfl, rfl, rfl, by decide +kernel, rfl, by decide +kernel, by decide +kernel⟩
theorem pk_made (c : Addr) (b l : Int) : mergeK [] [(Sum.inr ("cells" : Str), .ref c), (Sum.inr ("begun" : Str), .int b), (Sum.inr ("left" : Str), .int l)] = pk c b l := by
  have e1 : putK ([] : List (Key × V)) (Sum.inr ("cells" : Str)) (.ref c) = [(Sum.inr ("cells" : Str), .ref c)] := putK_new _ rfl
  have e2 : putK [((Sum.inr ("cells" : Str) : Key), V.ref c)] (Sum.inr ("begun" : Str)) (.int b) = [(Sum.inr ("cells" : Str), .ref c), (Sum.inr ("begun" : Str), .int b)] :=
    putK_new _ ((valV_neg (fun z => kBC z.symm)).trans rfl)
  have e3 : putK [((Sum.inr ("cells" : Str) : Key), V.ref c), (Sum.inr ("begun" : Str), .int b)] (Sum.inr ("left" : Str)) (.int l) = pk c b l :=
    putK_new _ ((valV_neg (fun z => kLC z.symm)).trans ((valV_neg (fun z => kLB z.symm)).trans rfl))
  unfold mergeK
  simp only [List.foldl_cons, List.foldl_nil]
  rw [e1, e2, e3]
theorem at_by {α : Type} {xs : List α} {z : Int} {j : Nat} {v : α} (e : z = (j : Int)) (h : xs[j]? = some v) : atI xs z = some v := by
  subst e
  exact atI_nat h
theorem cutV_whole (xs : List V) (n : Nat) (h : xs.length ≤ n) : cutV xs none (some (n : Int)) = xs := by
  unfold cutV
  rw [HT.sIx_none, HT.sIx_nat, List.drop_zero, Nat.sub_zero, Nat.min_eq_right h, List.take_length]
theorem ok_pen {f : Addr} {fd : FuncData} (F : Fun K "_law_pen" "_law_pen" s__law_pen f fd) (T : Blt mg) : FnOk P w K mg base CX0 1 f fd ["_law_script"] (spPen K) := by
  refine F.ok sc__law_pen (fun vs H Q E h => ?_) (fun cdv A outer s H vs Q E hr h => ?_)
  · obtain ⟨a, ns, rfl, _⟩ := h
    rfl
  · obtain ⟨a, ns, rfl, hS, hl, k⟩ := h
    refine ⟨_, (pss_one (ps_ret (pe_disp (pps_cons pe_str (pe_callTy call_list_of (by rfl) T.n_list (by decide +kernel) (pa_cons (pe_slice sl_list (pv 0) po_none (po_some pe_int)) pa_nil)) (pps_cons pe_str pe_int (pps_cons pe_str pe_int pps_nil))) (by rfl) (by rfl) (fun z => by cases z) (by decide)))), ?_⟩
    intro p hp
    have s0 : Same H (upd H p (.dK [])) := fun b o e => by rw [upd_ne (ne_of_none e hp)]; exact e
    refine ⟨_, rfl, _, rfl, a, _, rfl, s0.seq hS, fun q hq => ?_⟩
    rw [show cutV (ns.map V.int) none (some 63) = ns.map V.int from cutV_whole _ 63 (by rw [List.length_map]; exact hl)]
    refine ⟨q, _, rfl, .inl (SqL.of upd_same), fun c hc => ?_⟩
    have npq : p ≠ q := ne_of_none upd_same hq
    have hq0 : H q = none := by
      rw [upd_ne npq.symm] at hq
      exact hq
    have ncq : c ≠ q := fun e => by
      rw [e, upd_same] at hc
      cases hc
    have hc1 : upd H p (.dK []) c = none := by
      rw [upd_ne ncq] at hc
      exact hc
    have npc : p ≠ c := ne_of_none upd_same hc1
    have hc0 : H c = none := by
      rw [upd_ne npc.symm] at hc1
      exact hc1
    refine ⟨by rw [upd_ne npc, upd_ne npq, upd_same], [(Sum.inr ("cells" : Str), .ref c), (Sum.inr ("begun" : Str), .int 0), (Sum.inr ("left" : Str), .int 0)], rfl, (by show 3 ≤ 15; decide), ?_⟩
    rw [pk_made]
    refine k _ p c (fun b o e => ?_) hp ⟨0, 0, upd_same, by rw [upd_ne npc.symm, upd_same], hl, Int.le_refl _, Int.le_refl _⟩
    rw [upd_ne (ne_of_none e hp), upd_ne (ne_of_none e hc0), upd_ne (ne_of_none e hq0), upd_ne (ne_of_none e hp)]
    exact e

/-! ### the pick -/
def spPick (K : PySem.W.Frag) : Sp := fun vs H Q _ => ∃ (p c : Addr) (ns : List Int) (x : V) (B : Nat), vs = [.ref p, x] ∧ Pen c ns H p B ∧ B ≤ 1000000000 ∧
  ((∃ a xs, x = .ref a ∧ SqL K H a xs ∧ 0 < xs.length ∧ xs.length ≤ 1000 ∧ ∀ (H' : Hp) (v : V), Go p c ns H H' (B + 1) → v ∈ xs → Q v H') ∨
    (∃ z : Str, x = .str z ∧ 0 < z.length ∧ z.length ≤ 1000 ∧ ∀ (H' : Hp) (i : Nat), Go p c ns H H' (B + 1) → i ∈ z.cps.toList → Q (.str ⟨#[i]⟩) H'))
abbrev s__law_pick : Stmt := top 73
theorem sc__law_pick : FnScope ["_law_pen_here", "_law_items"] ["_law_pen_here", "_law_items"] (defScope s__law_pick) := ⟨rfl, rfl, rfl, by decide +kernel, rfl, by decide +kernel, by decide +kernel⟩
/-- a def of the text called by its name: where it stands, that it stays, how its arguments bind -/
structure At (K : PySem.W.Frag) (mg : Str → Option Value) (x : Str) (f : Addr) (fd : FuncData) (ps : List Str) : Prop where
  m : mg x = some (.ref f)
  k : PySem.W.keepIn K (.ref f) = true
  b : Binds K fd ps []
theorem ok_pick {f fD : Addr} {fd fdD : FuncData} (F : Fun K "_law_pick" "_law_pick" s__law_pick f fd) (T : Blt mg) (GD : FnOk P w K mg base CX0 1 fD fdD ["_law_pen_here", "_law_many"] spDraw) (D : At K mg "_law_draw" fD fdD ["_law_pen_here", "_law_many"]) :
    FnOk P w K mg base CX0 2 f fd ["_law_pen_here", "_law_items"] (spPick K) := by
  refine F.ok sc__law_pick (fun vs H Q E h => ?_) (fun cdv A outer s H vs Q E hr h => ?_)
  · obtain ⟨p, c, ns, x, B, rfl, _⟩ := h
    rfl
  · obtain ⟨p, c, ns, x, B, rfl, hpen, hB, h⟩ := h
    refine ⟨_, (pss_one (ps_ret (pe_ix ix_seq (pv 1) (pe_call GD hr (by rfl) D.m D.k D.b .nil pass0 (pa_cons (pv 0) (pa_cons (pe_callB call_len (by rfl) T.n_len (by decide +kernel) (pa_cons (pv 1) pa_nil)) pa_nil))) (fun _ _ => rfl)))), ?_⟩
    have sl : (1000 : Nat) ≤ sizeLine := by decide
    rcases h with ⟨a, xs, rfl, hS, h0, h1, k⟩ | ⟨z, rfl, h0, h1, k⟩
    · refine ⟨_, rfl, _, rfl, _, rfl, _, xs.length, rfl, .inl ⟨xs, hS, rfl⟩, p, c, ns, _, B, rfl, hpen, hB, by omega, by omega, fun H' r g r0 r1 => ?_⟩
      have hi : r.toNat < xs.length := by omega
      exact .inl ⟨a, xs, r, xs[r.toNat], rfl, rfl, g.seq hS, at_of (j := r.toNat) (by omega) (List.getElem?_eq_getElem hi), k H' _ g (List.getElem_mem hi)⟩
    · refine ⟨_, rfl, _, rfl, _, rfl, _, z.length, rfl, ⟨by omega, rfl⟩, p, c, ns, _, B, rfl, hpen, hB, by omega, by omega, fun H' r g r0 r1 => ?_⟩
      have hi : r.toNat < z.cps.toList.length := by
        have e : z.cps.toList.length = z.length := by simp [Str.length]
        omega
      exact .inr (.inr ⟨z, r, z.cps.toList[r.toNat], rfl, rfl, by omega, at_by (j := r.toNat) (by omega) (List.getElem?_eq_getElem hi), k H' _ g (List.getElem_mem hi)⟩)
end
end Ask

namespace Ask
open PySem L2
/-- if c: body else: other, its ways met in Mid -/
theorem seqIf_mid {c : TT} {t v u : TS} {D : Ends} {σ : L2.St} {H : Hp} (Mid : L2.St → Hp → Prop) (h : ∀ N : L2.St → Hp → Prop, (∀ σ' H', Mid σ' H' → N σ' H') → tIfS c t v { D with nx := N } σ H) (hq : ∀ σ' H', Mid σ' H' → u D σ' H') :
    tSeq (tIfS c t v) u D σ H := h (u D) hq
theorem len_sum1 : ∀ ys : List Str, (∀ y ∈ ys, y.length = 1) → (ys.map (·.length)).sum = ys.length
  | [], _ => rfl
  | y :: r, h => by
    rw [List.map_cons, List.sum_cons, List.length_cons, len_sum1 r (fun z hz => h z (List.mem_cons_of_mem _ hz)), h y (List.mem_cons_self ..)]
    omega
theorem join_len1 (ys : List Str) (h : ∀ y ∈ ys, y.length = 1) : (Txt.join (Str.ofString "") ys).length = ys.length := by
  rw [TL.join_eq]
  cases ys with
  | nil => rfl
  | cons a r =>
    rw [PyProof.Rows.len_join_cons, len_sum1 _ h]
    show _ + r.length * 0 = _
    omega
/-- all signs below 128 -/
def Asc (z : Str) : Prop := ∀ c ∈ z.cps.toList, c < 128
theorem Asc.app {a b : Str} (h : Asc a) (k : Asc b) : Asc (a ++ b) := fun c hc => by
  have e : (a ++ b).cps.toList = a.cps.toList ++ b.cps.toList := by
    rw [Str.cps_append, Array.toList_append]
  rw [e] at hc
  rcases List.mem_append.mp hc with z | z
  · exact h c z
  · exact k c z
theorem Asc.cut {a : Str} (h : Asc a) (lo hi : Option Int) : Asc (cutS a lo hi) := fun c hc => h c (List.mem_of_mem_drop (List.mem_of_mem_take hc))
theorem Asc.one {c : Nat} (h : c < 128) : Asc ⟨#[c]⟩ := fun d hd => by
  have e : d = c := by simpa using hd
  rw [e]
  exact h
theorem Asc.lit {s : String} (h : ((Str.ofString s).cps.toList.all fun c => decide (c < 128)) = true) : Asc (Str.ofString s) := fun c hc => of_decide_eq_true (List.all_eq_true.mp h c hc)
theorem Asc.joined : ∀ ys : List Str, (∀ y ∈ ys, Asc y) → Asc (Str.join (Str.ofString "") ys)
  | [], _ => fun c hc => by cases hc
  | [y], h => h y (List.mem_cons_self ..)
  | y :: z :: r, h => ((h y (List.mem_cons_self ..)).app (.lit rfl)).app (Asc.joined (z :: r) fun x hx => h x (List.mem_cons_of_mem _ hx))
theorem Asc.join (ys : List Str) (h : ∀ y ∈ ys, Asc y) : Asc (Txt.join (Str.ofString "") ys) := by
  rw [TL.join_eq]
  exact Asc.joined ys h
def small : Str := "abcdefghijklmnopqrstuvwxyz"
def signs : Str := "abcdefghijklmnopqrstuvwxyz0123456789"
theorem small_len : small.length = 26 := by decide +kernel
theorem signs_len : signs.length = 36 := by decide +kernel
theorem small_asc : Asc small := .lit (by decide +kernel)
theorem signs_asc : Asc signs := .lit (by decide +kernel)
end Ask

/-! enumerate(t), t a tuple (or a list): the layer has it for lists alone -/
namespace PySem
open Sem (wp)
theorem ask_enum_new {v : Value} {o : Obj} {Hh : Heap → Prop} (B : Begins v o Hh) :
    Meets (Builtin.«enumerate.__new__» ⟨[.type "enumerate", v], []⟩) (fun _ R s => Hh s.heap ∧
      R (.ok (.ret (.ref (s.heap.push o).objs.size)))
        { s with heap := (s.heap.push o).push { cls := .type "enumerate", data := .fields #[.none, .bool false, .ref s.heap.objs.size, rawInt 0, .none, .none] } }) :=
  .of_wp fun prog w A R s z => by
    obtain ⟨h0, g0, d0, t0, os0⟩ := s
    obtain ⟨z1, z⟩ := z
    have subE := sub_enumerate
    have begins : ∀ {A' : Around} {E' : Value → Shared → Prop} {Q' : Value → Shared → Prop}, Q' (.ref h0.objs.size) ⟨h0.push o, g0, d0, t0, os0⟩ → wpAny (model prog w) A' (pyIter v) Q' E' ⟨h0, g0, d0, t0, os0⟩ :=
      fun q => B.iter prog w _ _ ⟨h0, g0, d0, t0, os0⟩ _ z1 q
    wp_walk using begins
    refine wpAny_stack_any fun _ => wpAny_pure ?_
    split
    · rename_i cl _ _ _ _ _
      cases (cl == Value.type "enumerate") <;> (wp_walk using begins; exact ⟨_, rfl, z⟩)
    · wp_walk using begins; exact ⟨_, rfl, z⟩
end PySem
namespace Ask
open PySem L2 PySem.Spec PyProof.Rows
/-- enumerate(v): its two new cells -/
theorem enum_made {prog : Program} {w : World} {A : Around} {E : Value → Shared → Prop} {s : Shared} {v : Value} {o : Obj} {Hh : Heap → Prop} {Q : Value → Shared → Prop} (B : Begins v o Hh) (h1 : Hh s.heap)
    (h : ∀ h', IsEnum h' (s.heap.objs.size + 1) s.heap.objs.size 0 .none → h'.get? s.heap.objs.size = some o → (∀ b u, s.heap.get? b = some u → h'.get? b = some u) → Q (.ref (s.heap.objs.size + 1)) { s with heap := h' }) :
    wpAny (model prog w) A (call (.type "enumerate") [v]) Q E s := by
  refine callType_new F.called_enumerate (by decide) (F.typeCall_enumerate_1 _) (F.newCall_enumerate_1 _) (fun obj => F.args_object_init_2 obj _) F.entry_enumerate_new (ask_enum_new B) ⟨h1, ?_⟩
  have z : (s.heap.push o).objs.size = s.heap.objs.size + 1 := Heap.size_push ..
  show _ ∧ _
  rw [z]
  have e : IsEnum ((s.heap.push o).push { cls := .type "enumerate", data := .fields #[.none, .bool false, .ref s.heap.objs.size, rawInt 0, .none, .none] }) (s.heap.objs.size + 1) s.heap.objs.size 0 .none := by
    have q := Heap.get?_push_size (s.heap.push o) (o := { cls := .type "enumerate", data := .fields #[.none, .bool false, .ref s.heap.objs.size, rawInt 0, .none, .none] }) rfl
    rw [z] at q
    exact q
  exact ⟨⟨_, e, rfl⟩, h _ e (Heap.get?_push_of_some _ (Heap.get?_push_size _ B.free)) fun b u q => Heap.get?_push_of_some _ (Heap.get?_push_of_some _ q)⟩
/-- the tuple at a, each item in a new pair with its place -/
def IteT (K : PySem.W.Frag) (a : Addr) : It :=
  ⟨fun i H => ∃ xs, SqT K H a xs ∧ i < xs.length, fun i H v H' => ∃ T x, v = .ref T ∧ H T = none ∧ H' = upd H T (.tup [.int (i : Nat), x]) ∧ ∀ xs, SqT K H a xs → xs[i]? = some x, fun i H => ∃ xs, SqT K H a xs ∧ xs.length = i⟩
theorem turn_enumT {P : Program} {w : World} {K : PySem.W.Frag} {elts : List Expr} {kk : Nat} {tpos : Pos} (a e it : Addr) (hne : e ≠ it) (hat : a ≠ it) :
    Turn P w K (.Tuple elts kk tpos) (IteT K a) [e, it] e (fun i h => (∃ old, IsEnum h e it ((i : Nat) : Int) old) ∧ h.IsTupleIter it a i) where
  mem := by simp
  obj := fun i h st b hb => by
    obtain ⟨⟨old, he⟩, o, ho, _, hd⟩ := st
    rcases (by simpa using hb : b = e ∨ b = it) with z | z
    · rw [z]; exact ⟨_, he, fun v q => nomatch q⟩
    · rw [z]; exact ⟨o, ho, fun v q => by rw [hd] at q; cases q⟩
  keep := fun i h h' st k => ⟨⟨_, k e (by simp) _ st.1.choose_spec⟩, st.2.at fun o q => k it (by simp) o q⟩
  item := by
    intro X hP hw hK hc i pins s σ H E I hf st hg
    subst hP hw hK
    obtain ⟨⟨old, he⟩, hit⟩ := st
    obtain ⟨xs, hq, hi⟩ := hg
    obtain ⟨its, rv, p, hz⟩ := I.tuple hq
    have hl := rv.length
    have hel : e < s.heap.objs.size := Heap.lt_size he
    have hil : it < s.heap.objs.size := by obtain ⟨_, q, _⟩ := hit; exact Heap.lt_size q
    have aE : a ≠ e := fun z => by
      obtain ⟨o, ho, ct, _⟩ := p
      have he2 : s.heap.get? e = some _ := he
      rw [z, he2] at ho
      have z2 := Option.some.inj ho
      rw [← z2] at ct
      injection ct with ct
      exact absurd ct (by decide)
    have Dr := Draws.tuple (prog := X.prog) (w := X.w) (A := X.A.in1) (show X.A.in1.handled = none from I.ok.hd hc) it a hat its.toArray
    refine wpAny_pyNext_enum_itemD Dr he ⟨hit, p⟩ (by simp; omega) hne (by intro z; rcases (by simpa using z : e = it ∨ e = a) with q | q; exact hne q; exact aE q.symm) fun x h' tk hx ho hs' hT hsz hk => ?_
    refine ⟨_, rfl, wpAny_letOwnedTupleGo_enum (s := { s with heap := h', toks := tk + 1 }) ho fun h'' he' sb => ?_⟩
    have hT2 : h''.get? s.heap.objs.size = some { cls := .type "tuple", data := .seq #[.int i tk, x] } := (sb.2 _ (Nat.ne_of_gt hel)).trans hT
    have hit2 : h''.IsTupleIter it a (i + 1) := hs'.1.at fun o q => (sb.2 it (Ne.symm hne)).trans q
    obtain ⟨y, hy, ry⟩ : ∃ y, xs[i]? = some y ∧ RelV y x := by
      obtain ⟨u, hu, ru⟩ := rv.get (List.getElem?_eq_getElem hi)
      have hx' : its[i]? = some x := by simpa using hx
      rw [hu] at hx'
      cases hx'
      exact ⟨_, List.getElem?_eq_getElem hi, ru⟩
    have new : ObjOk X.prog X.w (upd H s.heap.objs.size (.tup [.int (i : Nat), y])) h'' s.heap.objs.size (.tup [.int (i : Nat), y]) :=
      ⟨by show 2 ≤ sizeLine; decide, [.int i tk, x], .cons ⟨_, rfl⟩ (.cons ry .nil), ⟨_, hT2, rfl, _, rfl⟩⟩
    have I1 : Inv X pins σ (upd H s.heap.objs.size (.tup [.int (i : Nat), y])) { s with heap := h'', toks := tk + 1 } :=
      I.turnedNew (ch := [e, it]) (fun b ob hb q => (sb.2 b (fun z => hb (by simp [z]))).trans (hk b ob (fun z => hb (by simp [z])) (fun z => hb (by simp [z])) q)) hf (Nat.le_refl _) new
    refine ⟨.ref s.heap.objs.size, _, I1, rfl, ⟨_, y, rfl, I.hok.fresh (Nat.le_refl _), rfl, fun ys h2 => by rw [I.tuple_inj h2 hq]; exact hy⟩, ⟨⟨x, ?_⟩, hit2⟩, fun b hb => ?_⟩
    · have e1 : ((i + 1 : Nat) : Int) = (i : Int) + 1 := by omega
      rw [e1]
      exact he'
    · have hb' : b < s.heap.objs.size := by
        rcases (by simpa using hb : b = e ∨ b = it) with z | z
        · rw [z]; exact hel
        · rw [z]; exact hil
      rw [upd_ne (Nat.ne_of_lt hb')]
      exact (hf b hb).1
  done := by
    intro X hP hw hK hc i pins s σ H E I hf st hg
    subst hP hw hK
    obtain ⟨⟨old, he⟩, hit⟩ := st
    obtain ⟨xs, hq, hx⟩ := hg
    obtain ⟨its, rv, p, hz⟩ := I.tuple hq
    obtain ⟨f0, f1, f2, f3, f4, f5⟩ := hf it (by simp)
    have hl := rv.length
    have ei : i = its.toArray.size := by simp; omega
    subst ei
    have Dr := Draws.tuple (prog := X.prog) (w := X.w) (A := X.A.in1) (show X.A.in1.handled = none from I.ok.hd hc) it a hat its.toArray
    exact wpAny_pyNext_enum_endD Dr he ⟨hit, p⟩ fun h' eb => ⟨rfl, I.turned (t' := s.toks) (fun b o hb q => eb b o hb q) f0 f1 f3 f4 f5⟩
  self := fun A i s Q E st h => let ⟨⟨_, he⟩, _⟩ := st; wpAny_pyIter_enum he h
/-- enumerate(e), e a list or a tuple -/
def iEnumA (K : PySem.W.Frag) (ta : TA) : TI := fun σ H R => ta σ H fun vs H1 => ∃ a xs, vs = [.ref a] ∧ ((SqL K H1 a xs ∧ R (Ite K a) H1) ∨ (SqT K H1 a xs ∧ R (IteT K a) H1))
theorem pi_enumA {X : Cx} {e : Expr} {ta : TA} {p pos tpos : Pos} {elts : List Expr} {kk : Nat} (hg : Gl X "enumerate") (hm : X.mg "enumerate" = none) (ha : PA X [e] ta) (hs : starEach [e] X.env = [(false, eval e X.env)] := by rfl) :
    PI X (.Tuple elts kk tpos) (.Call (.Name "enumerate" p) [e] [] pos) (iEnumA X.K ta) := by
  refine ⟨fun pins s σ H R I h => ?_⟩
  refine Call_ (ld_blt I hg hm boot_enumerate (PyProof.Rows.callWith_type1 (thn (ha.run pos pins s σ H _ I h) fun us s1 ⟨vs, H1, I1, r1, a, xs, ex, q1⟩ => ?_) hs rfl))
  subst ex
  cases r1 with
  | cons r rr =>
    cases rr
    cases r
    have low : ∀ b : Addr, b ∈ [s1.heap.objs.size + 1, s1.heap.objs.size] → s1.heap.objs.size ≤ b := fun b hb => by
      rcases (by simpa using hb : b = s1.heap.objs.size + 1 ∨ b = s1.heap.objs.size) with z | z
      · rw [z]; exact Nat.le_add_right _ _
      · rw [z]; exact Nat.le_refl _
    rcases q1 with ⟨hq, q⟩ | ⟨hq, q⟩
    · obtain ⟨its, rv, p', hz⟩ := I1.list hq
      refine enum_made (begins_list a its.toArray) p'.isList fun h' he hit hk => wpAny_pyIter_enum he ?_
      exact ⟨s1.heap.objs.size + 1, [s1.heap.objs.size + 1, s1.heap.objs.size], _, _, H1, rfl, I1.kept (t' := s1.toks) hk, turn_enum a (s1.heap.objs.size + 1) s1.heap.objs.size, ⟨⟨.none, he⟩, ⟨_, hit, rfl, rfl⟩, Nat.succ_ne_self _⟩, fun b hb => I1.fpOk (low b hb) (I1.hok.fresh (low b hb)), q⟩
    · obtain ⟨its, rv, p', hz⟩ := I1.tuple hq
      have hal : a < s1.heap.objs.size := by obtain ⟨_, z, _⟩ := p'; exact Heap.lt_size z
      refine enum_made (begins_tuple a its.toArray) p' fun h' he hit hk => wpAny_pyIter_enum he ?_
      exact ⟨s1.heap.objs.size + 1, [s1.heap.objs.size + 1, s1.heap.objs.size], _, _, H1, rfl, I1.kept (t' := s1.toks) hk, turn_enumT a (s1.heap.objs.size + 1) s1.heap.objs.size (Nat.succ_ne_self _) (Nat.ne_of_lt hal), ⟨⟨.none, he⟩, ⟨_, hit, rfl, rfl⟩⟩, fun b hb => I1.fpOk (low b hb) (I1.hok.fresh (low b hb)), q⟩
theorem walk_enumT {K : PySem.W.Frag} {a : Addr} {xs : List V} : Walk (IteT K a) xs.length (fun H => SqT K H a xs) (YPair (fun i => some (.int (i : Nat))) (fun i => xs[i]?)) := by
  refine ⟨fun i H hi q => ⟨xs, q, hi⟩, fun H q => ⟨xs, q, rfl⟩, fun i H v H' _ q y => ?_⟩
  obtain ⟨T, x, h1, h2, h3, h4⟩ := y
  exact ⟨T, .int (i : Nat), x, h1, h2, h3, rfl, h4 xs q⟩
end Ask

/-! several clauses «except X as n» behind one try -/
namespace Ask
open PySem L2 PySem.Spec PyProof.Rows
/-- an error a that the frame of X has caught, with all that stood -/
structure Down (X : Cx) (pins : List (Addr × Obj)) (σ : L2.St) (H : Hp) (sI : Shared) (B : Heap) (a : Addr) (cls : Value) (d : Option Addr) (s : Shared) : Prop where
  fl : HandSPX.FlyingZ B (X.env :: X.outer) a (Zc cls d) s.heap
  inv : Inv X pins σ H sI
  nb : ∀ b o, sI.heap.get? b = some o → b ∉ frs X.stack → B.get? b = some o
  up : sI.heap.UpToSlots s.heap
  os : s.os = sI.os
  ag : AllBare s.gens
  na : H a = none
section
variable {X : Cx} {pins : List (Addr × Obj)} {σ : L2.St} {H : Hp} {sI s : Shared} {B : Heap} {a : Addr} {cls : Value} {d : Option Addr}
theorem Down.now (w : Down X pins σ H sI B a cls d s) : Inv X pins σ H s := w.inv.landed w.nb w.fl.1 w.up w.os w.ag
theorem Down.apart (w : Down X pins σ H sI B a cls d s) (hf : X.env.frame = some X.env.locals) : ∃ oe vs, s.heap.get? a = some oe ∧ Zc cls d oe ∧ oe.data = .fields vs ∧ a ≠ X.env.locals ∧ a ∉ X.fs := by
  obtain ⟨oe, vs, e, z, dd⟩ := w.fl.there
  have out : a ∉ frs (X.env :: X.outer) := fun hm => by
    obtain ⟨_, o2, e2, no⟩ := w.fl.2.2.1.mem hm
    rw [e] at e2
    cases e2
    exact no _ dd
  refine ⟨oe, vs, e, z, dd, fun q => out (List.mem_filterMap.mpr ⟨X.env, List.mem_cons_self, by rw [hf, q]⟩), fun hm => ?_⟩
  obtain ⟨v, hv, q⟩ := List.mem_filterMap.mp hm
  exact out (List.mem_filterMap.mpr ⟨v, List.mem_cons_of_mem _ hv, q⟩)
end
/-- what the clauses hds make of it, if W is wished for -/
def Hands (X : Cx) (D : Ends) (hds : List ExceptHandler) (W : WX) : Prop := ∀ (pins : List (Addr × Obj)) (σ : L2.St) (H : Hp) (sI s : Shared) (B : Heap) (a : Addr) (cls : Value) (d : Option Addr),
  Down X pins σ H sI B a cls d s → W cls d σ H → wpAny (model X.prog X.w) X.A (handleBy (.ref a) X.env hds) (SP X pins D) X.xe s
section
variable {X : Cx} {D : Ends} {hds : List ExceptHandler} {W : WX}
theorem hands_nil (hs : X.stack = X.env :: X.outer) (hf : X.env.frame = some X.env.locals) (tk : Takes X W) : Hands X D [] W := by
  intro pins σ H sI s B a cls d w q
  refine wpAny_handleBy_nil ?_
  obtain ⟨_, _, _, _, _, T, _, _, e, _, dd, e1, _⟩ := id w.fl
  unfold PySem.passOn
  refine wpAny_bind (wpAny_field e dd e1 ?_)
  rw [if_neg (show ¬ ((Value.ref T == Value.none) = true) from by simp)]
  have on : wpAny (model X.prog X.w) X.A (setFlight (.ref a) X.env.frame) (fun _ s4 => wpAny (model X.prog X.w) X.A (throw (.ref a) : Sem Flow) (SP X pins D) X.xe s4) X.xe s := by
    rw [hf]
    exact HandSPX.setFlight_upZ w.fl fun h4 held up4 => wpAny_throw (tk _ _ ⟨a, B, sI, pins, σ, H, cls, d, rfl, w.inv, w.nb, w.up.trans up4, .inr (.inr (by rw [hs]; exact held)), w.na, w.os, w.ag, q⟩)
  first
    | exact wpAny_bind (wpAny_pure (wpAny_bind on))
    | exact wpAny_bind on
theorem hands_as {x n : Str} {c : Value} {i : Nat} {suite : List Stmt} {b₀ : Stmt} {np pos' : Pos} {ts : Addr → Value → Option Addr → TS}
    (hf : X.env.frame = some X.env.locals) (hN : X.N.Nodup) (hi : X.N[i]? = some n) (hl : X.env.kindOf n = some .local) (hc : Names X x c)
    (su : ∀ (a : Addr) (oe : Obj) (cls : Value) (d : Option Addr) (pn : List (Addr × Obj)), Zc cls d oe → (∃ vs, oe.data = .fields vs) → PSs (X.suite a ((a, oe) :: pn)) (b₀ :: suite) (ts a cls d))
    (rest : Hands X D hds W) : Hands X D (.ExceptHandler (some (.Name x np)) (some n) (b₀ :: suite) pos' :: hds) (wAs X.K c i ts W D) := by
  intro pins σ H sI s B a cls d w q
  obtain ⟨b, hb, yes, no⟩ := q
  have J := w.now
  have ok := J.ok
  obtain ⟨oe, vs, he, hz, hd, nL, nF⟩ := w.apart hf
  have S := J.suite he hd w.na nL nF
  refine wpAny_handleBy_cons (codeAny_handlers_test ?_) (by intro z; cases z)
  have ty : PySem.W.Looks (model X.prog X.w) s.heap (typeOf (.ref a)) cls := fun A Q E s' k z => wpAny_typeOf_ref (k _ _ he) (by rw [hz.1]; exact z)
  have isIt := PySem.W.exm_one (M := model X.prog X.w) J.kIn ty hb
  have named : ∀ {Q : Value → Shared → Prop} {E : Value → Shared → Prop}, Q c s → wpAny (model X.prog X.w) (X.A.mark (some (.ref a))) (eval (.Name x np) X.env) Q E s := fun {Q E} z => by
    obtain ⟨g, dbg, m | ⟨m, bt, nn⟩⟩ := hc
    · exact ld_glob (X := X.suite a ((a, oe) :: (X.pn ++ pins))) S g m z dbg
    · exact ld_blt (X := X.suite a ((a, oe) :: (X.pn ++ pins))) S g m bt z nn dbg
  refine named (isIt.here ?_)
  cases b with
  | false => exact rest pins σ H sI s B a cls d w (no rfl)
  | true =>
    refine codeAny_handlers_suite_as (HandSPX.lands_againZ w.fl fun h4 fl4 up4 => ?_)
    have w4 : Down X pins σ H sI B a cls d { s with heap := h4 } := ⟨fl4, w.inv, w.nb, w.up.trans up4, w.os, w.ag, w.na⟩
    obtain ⟨oe4, vs4, he4, hz4, hd4, nL4, nF4⟩ := w4.apart hf
    have S4 := w4.now.suite he4 hd4 w.na nL4 nF4
    refine store_ok (X := X.suite a ((a, oe4) :: (X.pn ++ pins))) (v := .ref a) S4 hN hi (.inl hl) rfl (fun s5 S5 => ?_) (.inr hl)
    refine wpAny_mono ((su a oe4 cls d (X.pn ++ pins) hz4 ⟨_, hd4⟩).run [] s5 _ H _ S5 (yes rfl a w.na)) (fun f s6 got => ?_) (fun _ _ z => False.elim z)
    have away : ∀ {σ6 : L2.St} {H6 : Hp} {Q : Shared → Prop}, Inv (X.suite a ((a, oe4) :: (X.pn ++ pins))) [] σ6 H6 s6 → (∀ s7, Inv X pins (σ6.set i none) H6 s7 → Q s7) →
        wpAny (model X.prog X.w) X.A (do bindName X.env n .none; unbindBehindTheSuite X.env n pos') (fun _ s7 => Q s7) X.xe s6 := fun {σ6 H6 Q} S6 z => gone_ok (S6.unsuite ok) hN hi hl z
    cases f with
    | ret u => obtain ⟨v, σ6, H6, S6, r, z⟩ := got; exact away S6 fun s7 J7 => ⟨_, _, _, J7, r, z⟩
    | next => obtain ⟨σ6, H6, S6, z⟩ := got; exact away S6 fun s7 J7 => ⟨_, _, J7, z⟩
    | brk => obtain ⟨σ6, H6, S6, z⟩ := got; exact away S6 fun s7 J7 => ⟨_, _, J7, z⟩
    | cont => obtain ⟨σ6, H6, S6, z⟩ := got; exact away S6 fun s7 J7 => ⟨_, _, J7, z⟩
/-- try: body / the clauses -/
theorem ps_try_hands {body : List Stmt} {h₀ : ExceptHandler} {pos : Pos} {tb : WX → TS} {Wf : Ends → WX} (hs : X.stack = X.env :: X.outer) (hf : X.env.frame = some X.env.locals)
    (hb : ∀ (W : WX) (pn : List (Addr × Obj)) (xe : Value → Shared → Prop), Takes (X.tr pn xe) W → PassesOwn (model X.prog X.w) X.A X.env xe → PSs (X.tr pn xe) body (tb W))
    (hh : ∀ D, Hands X D (h₀ :: hds) (Wf D)) : PS X (.Try body (h₀ :: hds) [] [] pos) (fun D σ H => tb (Wf D) D σ H) := by
  refine ⟨fun pins s σ H D I h => ?_⟩
  have ok := I.ok
  have fr : X.A.frames = some (X.env :: X.outer) := by rw [ok.frames, hs]
  let after : Value → Shared → Prop := fun e s1 => wpAny (model X.prog X.w) X.A (noteFrame e X.env) (fun _ s2 => wpAny (model X.prog X.w) X.A (setFlight e none) (fun _ s3 => wpAny (model X.prog X.w) X.A (handleBy e X.env (h₀ :: hds)) (SP X pins D) X.xe s3) X.xe s2) X.xe s1
  have taken : Takes (X.tr (X.pn ++ pins) after) (Wf D) := fun u s1 xx => by
    obtain ⟨a, B, sI, pins1, σ1, H1, cls, d, rfl, J, nb, up, sky, na, os, ag, q⟩ := xx
    have sky1 : Sky B (X.env :: X.outer) a (Zc cls d) X.env.locals s1.heap := by rw [← hs]; exact sky
    exact Sky.land Zc.steady fr hf sky1 fun h3 fl3 up3 => hh D pins σ1 H1 sI { s1 with heap := h3 } B a cls d ⟨fl3, J.ofTry ok, nb, up.trans up3, os, ag, na⟩ q
  refine wpAny_Try_except (wpAny_mono ((hb (Wf D) (X.pn ++ pins) after taken PassesOwn.looking).run [] s σ H D (I.toTry _) h) (fun f s1 got => ?_) fun _ _ z => z)
  cases f with
  | ret u => obtain ⟨v, σ1, H1, J, r, z⟩ := got; exact ⟨v, σ1, H1, J.ofTry ok, r, z⟩
  | next => obtain ⟨σ1, H1, J, z⟩ := got; exact wpAny_execs_nil ⟨σ1, H1, J.ofTry ok, z⟩
  | brk => obtain ⟨σ1, H1, J, z⟩ := got; exact ⟨σ1, H1, J.ofTry ok, z⟩
  | cont => obtain ⟨σ1, H1, J, z⟩ := got; exact ⟨σ1, H1, J.ofTry ok, z⟩
end
end Ask

namespace Ask
open PySem L2 PySem.Spec PyProof.Rows
/-! ### repr of a list or tuple of data; a text times a number -/
def rRepr (K : PySem.W.Frag) : List V → Hp → VK → Prop := fun xs H Q => ∃ (a : Addr) (d : PyData), xs = [.ref a] ∧ Dp K H (.ref a) d ∧ d.showable = true ∧ d.hasDict = false ∧ d.depth ≤ 30 ∧ d.shown.length ≤ sizeLine ∧ Q (.str d.shown) H
theorem call_reprD {X : Cx} (hg : X.A.guards = some []) (hu : X.A.units + 64 < cLine) : CallR X (.builtin "repr") (rRepr X.K) := by
  intro pins s σ H xs us Q I r h
  obtain ⟨a, d, rfl, hd, sh, nd, dp, sz, q⟩ := h
  obtain ⟨u, rfl, ra⟩ := vals1 r
  obtain rfl : u = Value.ref a := ra
  obtain ⟨as, rd⟩ := Dp.reads I d _ _ hd rfl
  refine repr_of_reads' rd sh (fun z => by rw [nd] at z; cases z) hg (by omega) (fun _ _ e => e) (fun h' t tk k => ?_) sz
  exact ⟨.str d.shown, H, I.kept (t' := tk) k, ⟨t, rfl⟩, q⟩
def repS (x : Str) (n : Nat) : Str := ⟨(List.replicate n x.cps).foldl (· ++ ·) #[]⟩
theorem rep_size (x : Array Nat) : ∀ (n : Nat) (acc : Array Nat), ((List.replicate n x).foldl (· ++ ·) acc).size = acc.size + n * x.size
  | 0, acc => by simp
  | n + 1, acc => by
    rw [List.replicate_succ, List.foldl_cons, rep_size x n, Array.size_append, Nat.succ_mul]
    omega
theorem repS_len (x : Str) (n : Nat) : (repS x n).length = n * x.length := by
  show ((List.replicate n x.cps).foldl (· ++ ·) #[]).size = _
  rw [rep_size]
  show 0 + n * x.length = _
  omega
theorem op_mul_str {X : Cx} : OpR X (binaryOp .Mult) (fun x y H Q => ∃ (z : Str) (n : Int), x = .str z ∧ y = .int n ∧ 2 ≤ n ∧ n ≤ 1000 ∧ 1 ≤ z.length ∧ z.length ≤ 1000 ∧ Q (.str (repS z n.toNat)) H) := by
  intro pins s σ H x y v u Q I rx ry h
  obtain ⟨z, n, rfl, rfl, n0, n1, z0, z1, q⟩ := h
  obtain ⟨t, rfl⟩ := rx
  obtain ⟨t2, rfl⟩ := ry
  have zl : (z.length == 0) = false := by
    have : z.length ≠ 0 := by omega
    simpa using this
  have nl : (n == 1) = false := by
    have : n ≠ 1 := by omega
    simpa using this
  refine P.mul_str (by rw [decide_eq_false (by omega), decide_eq_false (by omega)]; rfl) (fun _ _ z => ?_) (fun _ _ => ?_) ?_
  · have e : (2 ^ 63 - 1) / (1000 : Int) ≤ (2 ^ 63 - 1) / n := by
      refine Int.le_ediv_of_mul_le (by omega) ?_
      have h1 : (2 ^ 63 - 1) / (1000 : Int) * n ≤ (2 ^ 63 - 1) / (1000 : Int) * 1000 := Int.mul_le_mul_of_nonneg_left n1 (by decide)
      have h2 : (2 ^ 63 - 1) / (1000 : Int) * 1000 ≤ 2 ^ 63 - 1 := by decide
      omega
    have e2 : (1000 : Int) ≤ (2 ^ 63 - 1) / (1000 : Int) := by decide
    omega
  · have e : z.length * n.toNat ≤ 1000 * 1000 := Nat.mul_le_mul z1 (by omega)
    have e2 : 1000 * 1000 ≤ sizeLine := by decide
    show decide (z.length * n.toNat > sizeLine) = false
    exact decide_eq_false (by omega)
  · rw [if_neg (by omega), if_neg (by rw [nl, zl]; exact Bool.false_ne_true)]
    refine ⟨?_, ?_⟩
    · show (repS z n.toNat).length ≤ sizeLine
      rw [repS_len]
      have e : z.length * n.toNat ≤ 1000 * 1000 := Nat.mul_le_mul z1 (by omega)
      have e2 : 1000 * 1000 ≤ sizeLine := by decide
      rw [Nat.mul_comm]
      omega
    · exact ⟨.str (repS z n.toNat), H, I.tok _, ⟨_, rfl⟩, q⟩
end Ask

namespace Ask
open PySem L2 PySem.Spec PyProof.Rows
/-! ### a def's body at one surrounding, the law's call from the outside (where it is known that no repr is under way) -/
theorem fn_run {CX : CXT} {P : Program} {w : World} {K : PySem.W.Frag} {mg : Str → Option Value} {base : Heap} {k : Nat} {f : Addr} {x qual : Str} {st : Stmt} {fd : FuncData} {N ps : List Str} {A : Around} {outer : List Env} {s : Shared} {H : Hp} {args : Args} {us : List Value} {vs : List V} {Q : VK} {E : XK}
    (F : Fun K x qual st f fd) (S : FnScope N ps (defScope st)) (hr : Room (k + 1) A) (e0 : Env0 P w K mg base A outer s H) (bind : BindsTo s fd args (ps.zip us)) (r : Vals vs us) (hl : vs.length = ps.length)
    (body : ∀ cdv : Value, Room k (A.deeper (envOfC qual (defScope st) s.heap.objs.size f cdv)) → ∃ t, PSs (cxOf CX P w K mg base N qual (defScope st) f cdv A outer s H E) (defBody st) t ∧ t { nx := fun _ H' => Q .non H', rt := Q } (start N vs) H) :
    codeAny (model P w) A (.call (.ref f) args) (CR CX outer P w H s Q E) s := by
  obtain ⟨oc, od, kV, doc, pm, an, cdv, ct, osl, rfl, lk, hcd⟩ := F.ex
  have here : ∀ b o, base.get? b = some o → s.heap.get? b = some o := fun b o e => (e0.bs b o e).1
  have inK : K.In s.heap := e0.mod.kin.keeps here
  refine codeAny_call_function hr.depth (inK _ _ lk) rfl S.co S.gen rfl (PySem.W.codeRec_of inK hcd) (bind _ _ _ _ ?_)
  refine wpAny_newFunctionEnv_cells S.kind (fun ⟨n, v⟩ hy => ?_) fun env he s1 x1 => ?_
  · rcases S.par n (List.of_mem_zip hy).1 with q | q
    · exact .inl q
    · exact .inr ⟨q, PySem.W.cellsFrom_some _ _ _ (.inl q)⟩
  subst he
  refine ⟨(e0.mod.nolimit.keeps here).keeps x1.toInCall.keep, codeAny_func ?_⟩
  obtain ⟨t, ht, hq⟩ := body cdv (hr.deeper _)
  refine wpAny_mono (ht.run [] s1 (start N vs) H _ (inv_start S hr.hd e0 hl r x1) hq) (fun fl s' got => ?_) fun _ _ z => z
  cases fl with
  | ret u => obtain ⟨v, _, H', J, rv, z⟩ := got; exact ⟨v, H', J.os, J.bare, J.base, J.hok, rv, z⟩
  | next => obtain ⟨_, H', J, z⟩ := got; exact ⟨V.non, H', J.os, J.bare, J.base, J.hok, rfl, z⟩
  | brk => obtain ⟨_, _, _, z⟩ := got; exact False.elim z
  | cont => obtain ⟨_, _, _, z⟩ := got; exact False.elim z
/-- the script's own cell, locked; nothing else is tracked -/
def lone (a : Addr) (vs : List Value) (ns : List Int) : Hp := fun b => if b = a then some (.frz { cls := .type "list", data := .seq vs.toArray } (.lst (ns.map V.int))) else none
theorem law_at {P : Program} {w : World} {K : PySem.W.Frag} {mg mb : Str → Option Value} {fa a : Addr} {s₁ : Shared} {vs : List Value} {ns : List Int}
    (inK : K.In s₁.heap) (gl : s₁.heap.Ns mainGlobals mg) (bl : s₁.heap.Ns builtinsNs mb) (bt : ∀ x : Str, x ≠ "__name__" → mb x = bootBuiltins x) (lim : s₁.heap.NoLimit) (gs : s₁.gens = #[])
    (ha : s₁.heap.get? a = some { cls := .type "list", data := .seq vs.toArray }) (hi : IntsAre vs ns) (hl : ns.length ≤ sizeLine)
    (run : ∀ (base : Heap) (H : Hp), K.In base → base.Ns mainGlobals mg → Env0 P w K mg base callerA [] s₁ H → SqL K H a (ns.map V.int) →
      codeAny (model P w) callerA (.call (.ref fa) ⟨[.ref a], []⟩) (CR CX0 [] P w H s₁ (fun v _ => v = .bl true) E0) s₁) :
    codeAny (model P w) callerA (.call (.ref fa) ⟨[.ref a], []⟩) (fun r s' => r = .ok (.ret (.bool true)) ∧ OldK s₁.heap s'.heap ∧ s'.os = s₁.os ∧ AllBare s'.gens) s₁ := by
  have nums : Vals (ns.map V.int) vs := vals_ints hi
  have from_ : ∀ H : Hp, (∀ b, H b = none ∨ ∃ o xs, H b = some (.frz o (.lst xs))) → (∀ b u, H b = some u → b = a ∧ K.lookup a = none) → SqL K H a (ns.map V.int) → HOk P w H s₁.heap →
      codeAny (model P w) callerA (.call (.ref fa) ⟨[.ref a], []⟩) (fun r s' => r = .ok (.ret (.bool true)) ∧ OldK s₁.heap s'.heap ∧ s'.os = s₁.os ∧ AllBare s'.gens) s₁ := by
    intro H frz atA sq ok
    have free : ∀ {b : Addr}, b ≠ a → H b = none := fun {b} ne => by
      cases q : H b with
      | none => rfl
      | some u => exact absurd (atA b u q).1 ne
    have nsB : ∀ {b : Addr} {m : Str → Option Value}, s₁.heap.Ns b m → (hidT s₁.heap H).Ns b m := fun {b m} ⟨o, es, ep, e, dd, z⟩ => ⟨o, es, ep, hidT_get e (free fun q => by
      rw [q, ha] at e
      cases e
      have dd' : Data.seq vs.toArray _ = Data.dict es ep := dd
      cases dd'), dd, z⟩
    have kB : K.In (hidT s₁.heap H) := fun b o e => hidT_get (inK b o e) (by
      cases q : H b with
      | none => rfl
      | some u =>
        obtain ⟨rfl, no⟩ := atA b u q
        rw [no] at e
        cases e)
    obtain ⟨mc, l1, l2⟩ := lim
    have e0 : Env0 P w K mg (hidT s₁.heap H) callerA [] s₁ H :=
      ⟨rfl, ⟨kB, nsB gl, ⟨mb, nsB bl, bt⟩, ⟨mc, nsB l1, l2⟩⟩, fun b o e => of_hidT e, Nat.le_of_eq (hidT_size _ _), trivial, (fun b hb => absurd (show b ∈ ([] : List Addr) from hb) (by simp)), ok, .of_eq gs⟩
    refine codeAny_mono (run _ H kB (nsB gl) e0 sq) fun r s' z => ?_
    match r, z with
    | .error e, z => exact False.elim z
    | .ok .next, z => exact False.elim z
    | .ok .brk, z => exact False.elim z
    | .ok .cont, z => exact False.elim z
    | .ok (.ret u), z =>
      obtain ⟨v, H', os, bare, un, ok', rv, q⟩ := z
      have q : v = .bl true := q
      subst q
      obtain rfl : u = Value.bool true := rv
      refine ⟨rfl, OldK.of_keep fun b o e => ?_, os, bare⟩
      rcases frz b with n | ⟨ob, xs, y⟩
      · exact un.keep b o e n (by intro z; exact absurd (show b ∈ ([] : List Addr) from z) (by simp)) (by simp)
      · obtain ⟨e1, _⟩ := ok b _ y
        obtain ⟨e2, _⟩ := ok' b _ (un.frzs b ob _ y)
        rw [e] at e1
        cases e1
        exact e2
  cases hk : K.lookup a with
  | none =>
    have at_ : lone a vs ns a = some (.frz { cls := .type "list", data := .seq vs.toArray } (.lst (ns.map V.int))) := if_pos rfl
    have off : ∀ {b : Addr}, b ≠ a → lone a vs ns b = none := fun {b} ne => if_neg ne
    refine from_ (lone a vs ns) (fun b => ?_) (fun b u z => ?_) (.inl (.inr ⟨_, at_⟩)) (fun b u z => ?_)
    · by_cases h : b = a
      · exact .inr ⟨_, _, by rw [h]; exact at_⟩
      · exact .inl (off h)
    · by_cases h : b = a
      · exact ⟨h, hk⟩
      · rw [off h] at z
        cases z
    · by_cases h : b = a
      · subst h
        rw [at_] at z
        cases z
        exact ⟨ha, by rw [List.length_map]; exact hl, vs, _, nums, ha⟩
      · rw [off h] at z
        cases z
  | some o =>
    have e := inK a o hk
    rw [ha] at e
    cases e
    refine from_ (fun _ => none) (fun _ => .inl rfl) (fun b u z => by cases z) (.inr ⟨_, vs.toArray, _, hk, rfl, rfl, rfl, ?_, by simpa using nums⟩) (fun b u z => by cases z)
    rw [List.size_toArray, hi.length]
    exact hl
end Ask

namespace Ask
open PySem L2
theorem pe_gv {X : Cx} {x : Str} {v : V} {pos : Pos} (hg : Gl X x) (h : ∃ u, X.mg x = some u ∧ RelV v u) (hd : (x == ("__debug__" : Str)) = false := by decide) : PE X (.Name x pos) (tC v) := by
  obtain ⟨u, hm, r⟩ := h
  exact pe_glob hg hm r hd
theorem Same.upd_new {H H' : Hp} {p : Addr} {o : HO} (s : Same H H') (h : H p = none) : Same H (upd H' p o) := fun b u e => by
  rw [upd_ne (ne_of_none e h)]
  exact s b u e
theorem Same.made1 {H H' : Hp} {p : Addr} {o : HO} (s : Same H H') (h : H' p = none) : Same H (upd H' p o) := Ask.Same.upd_new s (s.free h)

/-! ### letters, by their signs -/
def smallL : List Nat := small.cps.toList
def signsL : List Nat := signs.cps.toList
def shortL (l : List Nat) : Bool := decide (1 ≤ l.length ∧ l.length ≤ 12) && (match l.head? with | some c => decide (c ∈ smallL) | none => false) && l.all (fun c => decide (c ∈ signsL))
def wordOf (l : List Nat) : List Nat := if l.head? = some 126 then l.drop 1 else l
def newW : Str := "new"
def foundW : Str := "found"
def goodW (z : Str) : Bool := shortL z.cps.toList && !(decide (newW = z) || decide (foundW = z))
def wordS (z : Str) : Str := ⟨(wordOf z.cps.toList).toArray⟩
def isLs (z : Str) : Bool := goodW (wordS z)
def isL : PyData → Bool
  | .str z => isLs z
  | _ => false
/-- the values that the lists of the law hold -/
def Itm (d : PyData) : Prop := d = .none ∨ d = .bool true ∨ d = .int 7 ∨ ∃ z : Str, z.length ≤ 500 ∧ Asc z ∧ (d = .str z ∨ d = .list [.str z] ∨ d = .tuple [.str z])
def isStrD : PyData → Bool
  | .str _ => true
  | _ => false
section
variable {K : PySem.W.Frag} {H : Hp} {v : V} {d : PyData}
theorem ty_list {a : Addr} {xs : List V} (h : SqL K H a xs) : TyX K H (.ref a) (.type "list") := by
  rcases h with (h | ⟨o, h⟩) | ⟨o, _, _, h, c, _⟩
  · exact .base (.lst h)
  · exact .base (.frz h)
  · exact .kList h c
theorem ty_tup {a : Addr} {xs : List V} (h : SqT K H a xs) : TyX K H (.ref a) (.type "tuple") := by
  rcases h with (h | ⟨o, h⟩) | ⟨o, _, _, h, c, _⟩
  · exact .base (.tup h)
  · exact .fTuple h
  · exact .kTuple h c
/-- isinstance(value, str) -/
theorem isi_str (h : Dp K H v d) (hi : Itm d) : ∃ t : Value, TyX K H v t ∧ PySem.W.kitOne K t (.type "str") = some (isStrD d) := by
  rcases hi with rfl | rfl | rfl | ⟨z, _, _, rfl | rfl | rfl⟩
  · cases h
    exact ⟨_, .base .non, kit_ty (by decide +kernel)⟩
  · cases h
    exact ⟨_, .base (.bl _), kit_ty (by decide +kernel)⟩
  · cases h
    exact ⟨_, .base (.int _), kit_ty (by decide +kernel)⟩
  · cases h
    exact ⟨_, .base (.str _), kit_ty (by show kitB "str" "str" = some true; decide +kernel)⟩
  · cases h with
    | lst hs _ => exact ⟨_, ty_list hs, kit_ty (by show kitB "list" "str" = some false; decide +kernel)⟩
  · cases h with
    | tup hs _ => exact ⟨_, ty_tup hs, kit_ty (by show kitB "tuple" "str" = some false; decide +kernel)⟩
end
theorem tl_len (z : Str) : z.cps.toList.length = z.length := by simp [Str.length]
/-- the constants of the package's text -/
structure Gv (K : PySem.W.Frag) (mg : Str → Option Value) : Prop where
  small : ∃ u, mg "SMALL_LETTERS" = some u ∧ RelV (.str small) u
  signs : ∃ u, mg "WORD_SIGNS" = some u ∧ RelV (.str signs) u
  most : ∃ u, mg "MOST_SIGNS" = some u ∧ RelV (.int 12) u
  begins : ∃ (t : Addr) (u : Value), mg "BEGINNINGS" = some u ∧ RelV (.ref t) u ∧ ∀ H, SqT K H t [.str newW, .str foundW]
  mostL : ∃ u, mg "MOST_LETTERS" = some u ∧ RelV (.int 12) u
section
variable {P : Program} {w : World} {K : PySem.W.Frag} {mg : Str → Option Value} {base : Heap}
/-! ### is_short_word -/
def spShort : Sp := fun vs H Q _ => ∃ z : Str, vs = [.str z] ∧ z.length ≤ 500 ∧ ∀ H', Same H H' → Q (.bl (shortL z.cps.toList)) H'
abbrev s_is_short_word : Stmt := top 8
theorem sc_is_short_word : FnScope ["value", "sign"] ["value"] (defScope s_is_short_word) := ⟨rfl, rfl, rfl, by decide +kernel, rfl, by decide +kernel, by decide +kernel⟩
theorem ok_short {f : Addr} {fd : FuncData} (F : Fun K "is_short_word" "is_short_word" s_is_short_word f fd) (T : Blt mg) (C : Gv K mg) : FnOk P w K mg base CX0 1 f fd ["value"] spShort := by
  refine F.ok sc_is_short_word (fun vs H Q E h => ?_) (fun cdv A outer s H vs Q E hr h => ?_)
  · obtain ⟨z, rfl, _⟩ := h
    rfl
  · obtain ⟨z, rfl, hz, k⟩ := h
    refine ⟨_, (pss_cons (ps_if (PW.pt (pw_or (pt_not (pt_val (pe_callB call_isi (by rfl) T.n_isinstance (by decide +kernel) (pa_cons (pv 0) (pa_cons (pe_bltn (v := .ty "str") (u := .type "str") rfl T.n_str (by decide +kernel) rfl) pa_nil))))) (pw_or1 (pt_not (pt_chain op_le op_le pe_int (pe_callB call_len_str (by rfl) T.n_len (by decide +kernel) (pa_cons (pv 0) pa_nil)) (pe_gv rfl C.most)))))) (pss_one (ps_ret pe_bl)) pss_nil)
      (pss_one (ps_ret (pe_and (pe_cmpR op_in_sign (pe_ix ix_str (pv 0) pe_int (fun _ _ => rfl)) (pe_gv rfl C.small) rfl) (pe_one (pe_callB (cr_all rfl) (by rfl) T.n_all (by decide +kernel) (pa_cons (pe_lc (own := [("sign", 1)]) rfl sc_is_short_word.nd (pi_str (pv 0)) (blkOk_by (N := ["value", "sign"]) (sc := defScope s_is_short_word) (by decide +kernel)) (fun _ _ _ _ _ => (pg_name (i := 1) sc_is_short_word.nd rfl (Or.inl rfl))) (fun _ _ _ _ _ => pts_nil) (fun _ _ _ _ _ => (pe_cmpR op_in_sign (pv 1) (pe_gv rfl C.signs) rfl))) pa_nil))))))), ?_⟩
    have z1 : (1000 : Nat) ≤ sizeLine := by decide
    have hl := tl_len z
    refine ⟨_, rfl, _, _, _, _, true, rfl, .ty _, .base (.str _), kit_ty (by decide +kernel), _, rfl, ?_⟩
    refine iteF ⟨_, rfl, z, rfl, by omega, _, _, rfl, rfl, _, rfl, ite2 (fun h1 => ?_) (fun h1 => ?_)⟩
    · have h1 : (1 : Int) ≤ (z.length : Nat) := of_decide_eq_true h1
      refine ⟨_, _, rfl, rfl, _, rfl, ite2 (fun h2 => ?_) (fun h2 => ?_)⟩
      · have h2 : ¬ ((z.length : Nat) : Int) ≤ 12 := fun q => by
          rw [decide_eq_true q] at h2
          cases h2
        have e : shortL z.cps.toList = false := by
          unfold shortL
          rw [decide_eq_false (by omega)]
          rfl
        have := k H (Same.refl H)
        rw [e] at this
        exact this
      · have h2 : ((z.length : Nat) : Int) ≤ 12 := Decidable.byContradiction fun q => h2 (by rw [decide_eq_false q]; rfl)
        obtain ⟨c, r, ec⟩ : ∃ c r, z.cps.toList = c :: r := by
          cases e : z.cps.toList with
          | nil =>
            rw [e] at hl
            have : (0 : Nat) = z.length := hl
            omega
          | cons c r => exact ⟨c, r, rfl⟩
        refine ⟨_, rfl, z, 0, c, rfl, rfl, by omega, by rw [ec]; exact at_by (j := 0) rfl rfl, c, small, rfl, rfl, _, rfl, ite2 (fun h3 => ?_) (fun h3 => ?_)⟩
        · refine ⟨_, rfl, z, rfl, fun L hL => ?_⟩
          refine lc_it walk_str (fun i H' => Same H H' ∧ H' L = some (.lst (((z.cps.toList.take i).map fun c => decide (c ∈ signsL)).map V.bl))) ⟨Ask.Same.upd_new (Same.refl H) hL, upd_same⟩ (fun _ _ _ _ => trivial) (fun i x H1 H2 hi h1 y => ?_) (fun H1 h1 => ?_)
          · obtain ⟨rfl, c', hc', rfl⟩ := y
            obtain ⟨sm, hLL⟩ := h1
            refine ⟨rfl, _, rfl, c', signs, rfl, rfl, _, hLL, ?_, Ask.Same.upd_new sm hL, ?_⟩
            · rw [List.length_map, List.length_map, List.length_take]
              omega
            · rw [upd_same]
              have hc2 : z.cps.toList[i]? = some c' := by rw [Array.getElem?_toList]; exact hc'
              rw [List.take_add_one, hc2]
              simp only [Option.toList_some, List.map_append, List.map_cons, List.map_nil]
              rfl
          · obtain ⟨sm, hLL⟩ := h1
            refine ⟨L, _, rfl, SqL.of hLL, ?_⟩
            have e0 : z.cps.toList.take z.cps.size = z.cps.toList := List.take_of_length_le (by simp)
            rw [e0]
            have e : shortL z.cps.toList = (z.cps.toList.map fun c => decide (c ∈ signsL)).all id := by
              unfold shortL
              rw [decide_eq_true (by omega), ec]
              simp only [List.head?_cons, Bool.true_and]
              rw [show decide (c ∈ smallL) = true from h3, Bool.true_and, List.all_map]
              rfl
            have := k H1 sm
            rw [e] at this
            exact this
        · have e : shortL z.cps.toList = false := by
            unfold shortL
            rw [ec]
            simp only [List.head?_cons]
            rw [show decide (c ∈ smallL) = false from (Bool.not_eq_true _).mp h3, Bool.and_false, Bool.false_and]
          have := k H (Same.refl H)
          rw [e] at this
          exact this
    · have h1 : ¬ (1 : Int) ≤ (z.length : Nat) := fun q => h1 (decide_eq_true q)
      have e : shortL z.cps.toList = false := by
        unfold shortL
        rw [decide_eq_false (by omega)]
        rfl
      refine ⟨_, rfl, ite2 (fun _ => ?_) (fun q => absurd rfl q)⟩
      have := k H (Same.refl H)
      rw [e] at this
      exact this
end
end Ask

namespace Ask
open PySem L2
theorem str_ext {a b : Str} (h : a.cps.toList = b.cps.toList) : a = b := by
  obtain ⟨a⟩ := a
  obtain ⟨b⟩ := b
  have h : a.toList = b.toList := h
  rw [Array.toList_inj.mp h]
theorem starts_tilde (z : Str) : Txt.startswith z (Str.ofString "~") = decide (z.cps.toList.head? = some 126) := by
  obtain ⟨⟨l⟩⟩ := z
  unfold Txt.startswith Builtin.Str.subAt
  have e1 : (Str.ofString "~").cps = #[126] := by decide +kernel
  have e2 : (Str.ofString "~").length = 1 := by decide +kernel
  rw [e1, e2]
  cases l with
  | nil => rfl
  | cons c r =>
    have e3 : (⟨(c :: r)⟩ : Array Nat).extract 0 (0 + 1) = #[c] := by simp
    show (decide (0 + 1 ≤ (c :: r).length) && ((⟨(c :: r)⟩ : Array Nat).extract 0 (0 + 1) == #[126])) = decide (some c = some 126)
    rw [e3, decide_eq_true (by simp), Bool.true_and]
    by_cases h : c = 126
    · subst h
      rfl
    · rw [decide_eq_false (by intro q; exact h (Option.some.inj q))]
      simpa using h
theorem cut_rest (z : Str) : cutS z (some 1) none = ⟨(z.cps.toList.drop 1).toArray⟩ := by
  unfold cutS
  rw [show (some (1 : Int)) = some ((1 : Nat) : Int) from rfl, HT.sIx_nat, HT.sIx_none]
  have hl := tl_len z
  by_cases h : z.length = 0
  · have e : z.cps.toList = [] := List.length_eq_zero_iff.mp (by omega)
    rw [e]
    simp
  · have e : min 1 z.length = 1 := by omega
    rw [e, List.take_of_length_le (by rw [List.length_drop]; omega)]
theorem cut_head (z : Str) : cutS z none (some 1) = ⟨(z.cps.toList.take 1).toArray⟩ := by
  unfold cutS
  rw [show (some (1 : Int)) = some ((1 : Nat) : Int) from rfl, HT.sIx_nat, HT.sIx_none]
  have hl := tl_len z
  by_cases h : z.length = 0
  · have e : z.cps.toList = [] := List.length_eq_zero_iff.mp (by omega)
    rw [e]
    simp
  · have e : min 1 z.length = 1 := by omega
    rw [e, List.drop_zero]
theorem head_tilde (z : Str) : decide (V.str (cutS z none (some 1)) = V.str (Str.ofString "~")) = decide (z.cps.toList.head? = some 126) := by
  rw [cut_head]
  have e1 : (Str.ofString "~").cps.toList = [126] := by decide +kernel
  refine decide_eq_decide.mpr ⟨fun h => ?_, fun h => ?_⟩
  · have h2 : (⟨(z.cps.toList.take 1).toArray⟩ : Str) = Str.ofString "~" := V.str.inj h
    have h3 : z.cps.toList.take 1 = [126] := by
      have := congrArg (fun s : Str => s.cps.toList) h2
      rw [e1] at this
      simpa using this
    cases e : z.cps.toList with
    | nil =>
      rw [e] at h3
      cases h3
    | cons c r =>
      rw [e] at h3
      simp at h3
      rw [h3]
      rfl
  · congr 1
    refine str_ext ?_
    rw [e1]
    cases e : z.cps.toList with
    | nil =>
      rw [e] at h
      cases h
    | cons c r =>
      rw [e] at h
      cases h
      simp
theorem word_tilde {z : Str} (h : decide (z.cps.toList.head? = some 126) = true) : cutS z (some 1) none = wordS z := by
  rw [cut_rest]
  unfold wordS wordOf
  rw [if_pos (of_decide_eq_true h)]
theorem word_plain {z : Str} (h : ¬ decide (z.cps.toList.head? = some 126) = true) : z = wordS z := by
  unfold wordS wordOf
  rw [if_neg fun q => h (decide_eq_true q)]
theorem word_len (z : Str) : (wordS z).length ≤ z.length := by
  unfold wordS wordOf
  have hl := tl_len z
  split
  · show (z.cps.toList.drop 1).toArray.size ≤ _
    rw [List.size_toArray, List.length_drop]
    omega
  · show z.cps.toList.toArray.size ≤ _
    rw [List.size_toArray]
    omega
theorem eq_V (a b : Str) : eqV (.str a) (.str b) = decide (a = b) := by
  show (a == b) = _
  by_cases h : a = b
  · subst h; simp
  · rw [decide_eq_false h]
    simpa using h
section
variable {P : Program} {w : World} {K : PySem.W.Frag} {mg : Str → Option Value} {base : Heap}
def spIsL (K : PySem.W.Frag) : Sp := fun vs H Q _ => ∃ (v : V) (d : PyData), vs = [v] ∧ Dp K H v d ∧ Itm d ∧ ∀ H', Same H H' → Q (.bl (isL d)) H'
theorem itm_str {d : PyData} (hi : Itm d) (h : isStrD d = true) : ∃ z : Str, d = .str z ∧ z.length ≤ 500 ∧ Asc z := by
  rcases hi with rfl | rfl | rfl | ⟨z, h1, h2, rfl | rfl | rfl⟩
  · cases h
  · cases h
  · cases h
  · exact ⟨z, rfl, h1, h2⟩
  · cases h
  · cases h
theorem not_str {d : PyData} (h : ¬ isStrD d = true) : isL d = false := by
  cases d <;> first | rfl | exact absurd rfl h
/-! ### is_letter, the package's -/
abbrev s_is_letter : Stmt := top 30
theorem sc_is_letter : FnScope ["value", "word"] ["value"] (defScope s_is_letter) := ⟨rfl, rfl, rfl, by decide +kernel, rfl, by decide +kernel, by decide +kernel⟩
theorem ok_is_letter {f fS : Addr} {fd fdS : FuncData} (F : Fun K "is_letter" "is_letter" s_is_letter f fd) (T : Blt mg) (C : Gv K mg) (GS : FnOk P w K mg base CX0 1 fS fdS ["value"] spShort) (S : At K mg "is_short_word" fS fdS ["value"]) :
    FnOk P w K mg base CX0 2 f fd ["value"] (spIsL K) := by
  refine F.ok sc_is_letter (fun vs H Q E h => ?_) (fun cdv A outer s H vs Q E hr h => ?_)
  · obtain ⟨v, d, rfl, _⟩ := h
    rfl
  · obtain ⟨v, d, rfl, hd, hi, k⟩ := h
    obtain ⟨tB, uB, mB, rB, qB⟩ := C.begins
    refine ⟨_, (pss_cons (ps_if (pt_not (pt_val (pe_callB call_isi (by rfl) T.n_isinstance (by decide +kernel) (pa_cons (pv 0) (pa_cons (pe_bltn (v := .ty "str") (u := .type "str") rfl T.n_str (by decide +kernel) rfl) pa_nil))))) (pss_one (ps_ret pe_bl)) pss_nil)
      (pss_cons (ps_set (i := 1) sc_is_letter.nd rfl (Or.inl rfl) (pe_ifExp (pt_val (pe_m1 PySem.F.slot_str_startswith PySem.F.type_str_startswith mt_startswith (pv 0) pe_str)) (pe_slice sl_str (pv 0) (po_some pe_int) po_none) (pv 0)))
      (pss_one (ps_ret (pe_and (pe_call GS hr (by rfl) S.m S.k S.b .nil pass0 (pa_cons (pv 1) pa_nil)) (pe_one (pe_cmpR op_notIn_seq (pv 1) (pe_glob rfl mB rB) rfl))))))), ?_⟩
    obtain ⟨ty, hty, hkt⟩ := isi_str hd hi
    refine ⟨_, rfl, v, _, ty, _, isStrD d, rfl, .ty _, hty, hkt, _, rfl, ite2 (fun h1 => ?_) (fun h1 => ?_)⟩
    · have h1 : ¬ isStrD d = true := by intro q; rw [q] at h1; cases h1
      have := k H (Same.refl H)
      rw [not_str h1] at this
      exact this
    · have h1 : isStrD d = true := by
        cases q : isStrD d with
        | true => rfl
        | false => rw [q] at h1; exact absurd rfl h1
      obtain ⟨z, rfl, hz, az⟩ := itm_str hi h1
      cases hd
      have z1 : (1000 : Nat) ≤ sizeLine := by decide
      try dsimp only [tNext]
      refine seqIf_cut (fun v H' => v = .str (wordS z) ∧ H' = H) (fun Q' q' => ?_) (fun v H' hv => ?_)
      · refine ⟨_, rfl, ⟨_, rfl⟩, z, _, rfl, rfl, _, rfl, ?_⟩
        rw [starts_tilde]
        refine ite2 (fun h => ?_) (fun h => ?_)
        · exact ⟨_, rfl, _, rfl, z, rfl, by omega, q' _ _ ⟨by rw [word_tilde h], rfl⟩⟩
        · exact ⟨_, rfl, q' _ _ ⟨by rw [← word_plain h], rfl⟩⟩
      · obtain ⟨rfl, rfl⟩ := hv
        have hw := word_len z
        refine ⟨_, rfl, wordS z, rfl, by omega, fun H1 s1 => ⟨_, rfl, ite2 (fun h => ?_) (fun h => ?_)⟩⟩
        · refine ⟨_, rfl, tB, _, rfl, .inr (qB H1), rfl, rfl, ?_⟩
          have e : isL (.str z) = !inV (.str (wordS z)) [.str newW, .str foundW] := by
            show goodW (wordS z) = _
            unfold goodW
            rw [h, Bool.true_and]
            unfold inV
            simp only [List.any_cons, List.any_nil, Bool.or_false, eq_V]
          have := k H1 s1
          rw [e] at this
          exact this
        · have e : isL (.str z) = false := by
            show goodW (wordS z) = _
            unfold goodW
            rw [(Bool.not_eq_true _).mp h, Bool.false_and]
          have := k H1 s1
          rw [e] at this
          exact this
end
end Ask

namespace Ask
open PySem L2
/-! ### what the library asks of data -/
theorem asc_ok {z : Str} (h : Asc z) : PyData.strOk z = true := by
  unfold PyData.strOk
  rw [← Array.all_toList, List.all_eq_true]
  intro c hc
  have := h c hc
  exact decide_eq_true (by omega)
structure Fit (d : PyData) : Prop where
  lay : d.canLay0 = true
  dep : d.depth ≤ 1
  sho : d.showable = true
  nod : d.hasDict = false
  len : d.shown.length ≤ 6000
theorem fit_str {z : Str} (h1 : z.length ≤ 500) (h2 : Asc z) : Fit (.str z) ∧ (PyData.shown (.str z)).length ≤ 5100 := by
  have l := StrLaws.reprText_len z (fun c hc => by have := h2 c hc; omega)
  have l2 : (PyData.shown (.str z)).length ≤ 5100 := by
    show (reprText z).length ≤ 5100
    omega
  exact ⟨⟨asc_ok h2, Nat.zero_le _, rfl, rfl, by omega⟩, l2⟩
theorem itm_fit {d : PyData} (h : Itm d) : Fit d := by
  rcases h with rfl | rfl | rfl | ⟨z, h1, h2, rfl | rfl | rfl⟩
  · exact ⟨rfl, by decide, rfl, rfl, by decide⟩
  · exact ⟨rfl, by decide, rfl, rfl, by decide⟩
  · exact ⟨rfl, by decide, by decide, rfl, by decide⟩
  · exact (fit_str h1 h2).1
  · obtain ⟨f, l⟩ := fit_str h1 h2
    refine ⟨?_, by show max 0 0 + 1 ≤ 1; decide, rfl, rfl, ?_⟩
    · show (PyData.canLay0 (.str z) && true) = true
      rw [f.lay] <;> rfl
    · have := listText_len_le [PyData.shown (.str z)]
      show (listText [PyData.shown (.str z)]).length ≤ 6000
      simp only [List.map_cons, List.map_nil, List.sum_cons, List.sum_nil, List.length_cons, List.length_nil] at this
      omega
  · obtain ⟨f, l⟩ := fit_str h1 h2
    refine ⟨?_, by show max 0 0 + 1 ≤ 1; decide, rfl, rfl, ?_⟩
    · show (PyData.canLay0 (.str z) && true) = true
      rw [f.lay] <;> rfl
    · have := tupleText_len_le [PyData.shown (.str z)]
      show (tupleText [PyData.shown (.str z)]).length ≤ 6000
      simp only [List.map_cons, List.map_nil, List.sum_cons, List.sum_nil, List.length_cons, List.length_nil] at this
      omega
structure FitAll (ds : List PyData) : Prop where
  lay : PyData.canLayAll0 ds = true
  dep : PyData.depthAll ds ≤ 1
  sho : PyData.showableAll ds = true
  nod : PyData.hasDictAll ds = false
  len : ((PyData.shownAll ds).map (·.length)).sum ≤ 6000 * ds.length
  cnt : (PyData.shownAll ds).length = ds.length
theorem fit_all : ∀ {ds : List PyData}, (∀ d ∈ ds, Fit d) → FitAll ds
  | [], _ => ⟨rfl, Nat.zero_le _, rfl, rfl, Nat.le_refl _, rfl⟩
  | d :: r, h => by
    have f := h d (List.mem_cons_self ..)
    have g := fit_all (ds := r) fun x hx => h x (List.mem_cons_of_mem _ hx)
    refine ⟨?_, ?_, ?_, ?_, ?_, ?_⟩
    · show (PyData.canLay0 d && PyData.canLayAll0 r) = true
      rw [f.lay, g.lay] <;> rfl
    · show max (PyData.depth d) (PyData.depthAll r) ≤ 1
      exact Nat.max_le.mpr ⟨f.dep, g.dep⟩
    · show (PyData.showable d && PyData.showableAll r) = true
      rw [f.sho, g.sho] <;> rfl
    · show (PyData.hasDict d || PyData.hasDictAll r) = false
      rw [f.nod, g.nod] <;> rfl
    · show ((PyData.shown d :: PyData.shownAll r).map (·.length)).sum ≤ 6000 * (r.length + 1)
      rw [List.map_cons, List.sum_cons]
      have := f.len
      have := g.len
      omega
    · show (PyData.shown d :: PyData.shownAll r).length = r.length + 1
      rw [List.length_cons, g.cnt]
theorem shaped_of {d : PyData} (h : d.canLay0 = true) (k : d.depth ≤ 64) : SeqAt.shaped d = true := by
  unfold SeqAt.shaped
  rw [h, decide_eq_true k] <;> rfl
theorem FitAll.shapedL {ds : List PyData} (f : FitAll ds) : SeqAt.shaped (.list ds) = true :=
  shaped_of f.lay (by show PyData.depthAll ds + 1 ≤ 64; have := f.dep; omega)
theorem FitAll.shapedT {ds : List PyData} (f : FitAll ds) : SeqAt.shaped (.tuple ds) = true :=
  shaped_of f.lay (by show PyData.depthAll ds + 1 ≤ 64; have := f.dep; omega)
theorem Fit.shaped {d : PyData} (f : Fit d) : SeqAt.shaped d = true := shaped_of f.lay (by have := f.dep; omega)
theorem dp_strs {K : PySem.W.Frag} {H : Hp} : ∀ ys : List Str, DpAll K H (ys.map V.str) (ys.map PyData.str)
  | [] => .nil
  | y :: r => .cons (.str y) (dp_strs r)
theorem fit_strs {ys : List Str} (h : ∀ y ∈ ys, y.length ≤ 500 ∧ Asc y) : FitAll (ys.map PyData.str) := fit_all fun d hd => by
  obtain ⟨y, hy, rfl⟩ := List.mem_map.mp hd
  exact (fit_str (h y hy).1 (h y hy).2).1
theorem eqv_nil : ∀ ds : List PyData, PyData.eqv (.list ds) (.list []) = ds.isEmpty
  | [] => by simp [PyData.eqv, PyData.eqvAll]
  | _ :: _ => by simp [PyData.eqv, PyData.eqvAll]
theorem asc_word {z : Str} (h : Asc z) : Asc (wordS z) := fun c hc => by
  have hc : c ∈ wordOf z.cps.toList := by simpa [wordS] using hc
  unfold wordOf at hc
  split at hc
  · exact h c (List.mem_of_mem_drop hc)
  · exact h c hc
end Ask

namespace Ask
open PySem L2
/-! ### the letters that the laws make are letters, and different ones -/
def fixS (z : Str) : Str := if z = newW ∨ z = foundW then z ++ ("0" : Str) else z
def tildeS : Str := "~"
structure Wds (wd : Nat → Str) (M : Nat) : Prop where
  good : ∀ k, k < M → goodW (wd k) = true
  inj : ∀ j k, j < M → k < M → wd j = wd k → j = k
theorem app_list (a b : Str) : (a ++ b).cps.toList = a.cps.toList ++ b.cps.toList := by rw [Str.cps_append, Array.toList_append]
theorem good_short {z : Str} (h : goodW z = true) : shortL z.cps.toList = true := by
  unfold goodW at h
  exact (Bool.and_eq_true_iff.mp h).1
theorem short_len {l : List Nat} (h : shortL l = true) : 1 ≤ l.length ∧ l.length ≤ 12 := by
  unfold shortL at h
  exact of_decide_eq_true (Bool.and_eq_true_iff.mp (Bool.and_eq_true_iff.mp h).1).1
theorem short_signs {l : List Nat} (h : shortL l = true) : ∀ c ∈ l, c ∈ signsL := by
  unfold shortL at h
  exact fun c hc => of_decide_eq_true (List.all_eq_true.mp (Bool.and_eq_true_iff.mp h).2 c hc)
theorem short_head {l : List Nat} (h : shortL l = true) : ∃ c r, l = c :: r ∧ c ∈ smallL := by
  unfold shortL at h
  have h2 := (Bool.and_eq_true_iff.mp (Bool.and_eq_true_iff.mp h).1).2
  cases l with
  | nil => cases h2
  | cons c r => exact ⟨c, r, rfl, of_decide_eq_true h2⟩
theorem short_mk {c : Nat} {r : List Nat} (h1 : (c :: r).length ≤ 12) (h2 : c ∈ smallL) (h3 : ∀ d ∈ c :: r, d ∈ signsL) : shortL (c :: r) = true := by
  unfold shortL
  rw [decide_eq_true ⟨by simp, h1⟩]
  simp only [List.head?_cons, decide_eq_true h2, Bool.true_and]
  exact List.all_eq_true.mpr fun d hd => decide_eq_true (h3 d hd)
theorem signs_asc' : ∀ c ∈ signsL, c < 128 := signs_asc
theorem small_no : ¬ 126 ∈ smallL := by decide +kernel
theorem small_signs : ∀ c ∈ smallL, c ∈ signsL := by
  have h : smallL.all (fun c => decide (c ∈ signsL)) = true := by decide +kernel
  exact fun c hc => of_decide_eq_true (List.all_eq_true.mp h c hc)
theorem good_asc {z : Str} (h : goodW z = true) : Asc z := fun c hc => signs_asc' c (short_signs (good_short h) c hc)
theorem good_len {z : Str} (h : goodW z = true) : z.length ≤ 12 := by
  have := short_len (good_short h)
  rw [tl_len] at this
  exact this.2
theorem good_no {z : Str} (h : goodW z = true) : z.cps.toList.head? ≠ some 126 := by
  obtain ⟨c, r, e, hc⟩ := short_head (good_short h)
  rw [e]
  intro q
  cases q
  exact small_no hc
theorem word_same {z : Str} (h : z.cps.toList.head? ≠ some 126) : wordS z = z := by
  refine str_ext ?_
  show (wordOf z.cps.toList).toArray.toList = _
  unfold wordOf
  rw [if_neg h]
theorem good_is {z : Str} (h : goodW z = true) : isLs z = true := by
  unfold isLs
  rw [word_same (good_no h)]
  exact h
theorem tilde_is {z : Str} (h : goodW z = true) : isLs (tildeS ++ z) = true := by
  unfold isLs
  have e : wordS (tildeS ++ z) = z := by
    refine str_ext ?_
    show (wordOf (tildeS ++ z).cps.toList).toArray.toList = _
    have e2 : (tildeS ++ z).cps.toList = 126 :: z.cps.toList := by
      rw [app_list]
      have : tildeS.cps.toList = [126] := by decide +kernel
      rw [this]
      rfl
    rw [e2]
    rfl
  rw [e]
  exact h
theorem fix_good {z : Str} (h : shortL z.cps.toList = true) : goodW (fixS z) = true := by
  unfold fixS
  split
  · rename_i q
    rcases q with rfl | rfl <;> decide +kernel
  · rename_i q
    unfold goodW
    rw [h, decide_eq_false (fun e => q (.inl e.symm)), decide_eq_false (fun e => q (.inr e.symm))]
    rfl
theorem fix_at {z : Str} {a : Nat} (h : a < z.cps.toList.length) : (fixS z).cps.toList[a]? = z.cps.toList[a]? := by
  unfold fixS
  split
  · rw [app_list, List.getElem?_append_left h]
  · rfl
theorem wds_mk {wd : Nat → Str} {M : Nat} {S : List Nat} {a : Nat} {sg : Nat → Nat} {T : Nat → List Nat} (ha : a ≤ S.length) (hl : S.length ≤ 11) (hs : ∀ c ∈ S, c ∈ signsL) (hh : ∀ c, S.head? = some c → c ∈ smallL)
    (h1 : ∀ k, k < M → sg k ∈ signsL) (h0 : a = 0 → ∀ k, k < M → sg k ∈ smallL) (inj : ∀ j k, j < M → k < M → sg j = sg k → j = k) (hT : ∀ k, (∀ c ∈ T k, c ∈ signsL) ∧ (T k).length ≤ S.length - a)
    (e : ∀ k, k < M → ∃ z, wd k = fixS z ∧ z.cps.toList = S.take a ++ sg k :: T k) : Wds wd M := by
  refine ⟨fun k hk => ?_, fun j k hj hk q => ?_⟩
  · obtain ⟨z, e1, e2⟩ := e k hk
    rw [e1]
    refine fix_good ?_
    rw [e2]
    have len : (S.take a ++ sg k :: T k).length ≤ 12 := by
      rw [List.length_append, List.length_cons, List.length_take]
      have := (hT k).2
      omega
    have mem : ∀ c ∈ S.take a ++ sg k :: T k, c ∈ signsL := fun c hc => by
      rcases List.mem_append.mp hc with q | q
      · exact hs c (List.mem_of_mem_take q)
      · rcases List.mem_cons.mp q with rfl | q
        · exact h1 k hk
        · exact (hT k).1 c q
    cases a with
    | zero =>
      rw [List.take_zero, List.nil_append] at len mem ⊢
      exact short_mk len (h0 rfl k hk) mem
    | succ a =>
      cases S with
      | nil => simp at ha
      | cons c r =>
        rw [List.take_succ_cons, List.cons_append] at len mem ⊢
        exact short_mk len (hh c rfl) mem
  · obtain ⟨y, e1, e2⟩ := e j hj
    obtain ⟨z, e3, e4⟩ := e k hk
    have l1 : (S.take a).length = a := by rw [List.length_take]; omega
    have p1 : y.cps.toList[a]? = some (sg j) := by
      rw [e2, List.getElem?_append_right (by omega), l1, Nat.sub_self]
      rfl
    have p2 : z.cps.toList[a]? = some (sg k) := by
      rw [e4, List.getElem?_append_right (by omega), l1, Nat.sub_self]
      rfl
    have a1 : a < y.cps.toList.length := by rw [e2, List.length_append, List.length_cons]; omega
    have a2 : a < z.cps.toList.length := by rw [e4, List.length_append, List.length_cons]; omega
    have q2 : (fixS y).cps.toList[a]? = (fixS z).cps.toList[a]? := by rw [← e1, ← e3, q]
    rw [fix_at a1, fix_at a2, p1, p2] at q2
    exact inj j k hj hk (Option.some.inj q2)
/-- the signs of a row of different places -/
theorem step_inj {n f s j k : Nat} (hn : n = 26 ∨ n = 36) (hs : s ∈ [1, 5, 7, 11, 17, 19, 23, 25]) (hj : j < 26) (hk : k < 26) (h : (f + s * j) % n = (f + s * k) % n) : j = k := by
  simp only [List.mem_cons, List.not_mem_nil, or_false] at hs
  rcases hn with rfl | rfl <;> rcases hs with rfl | rfl | rfl | rfl | rfl | rfl | rfl | rfl <;> omega
theorem nodup_at {l : List Nat} (h : l.Nodup) {i j : Nat} {c : Nat} (h1 : l[i]? = some c) (h2 : l[j]? = some c) : i = j := by
  exact (List.getElem?_inj (List.getElem?_eq_some_iff.mp h1).1 h).mp (h1.trans h2.symm)
theorem small_nodup : smallL.Nodup := by decide +kernel
theorem signs_nodup : signsL.Nodup := by decide +kernel
/-! ### what stands behind i turns -/
structure Iv (wd : Nat → Str) (ys : List Str) (i : Nat) : Prop where
  len : ys.length = i
  from_ : ∀ y ∈ ys, ∃ j, j < i ∧ (y = wd j ∨ y = tildeS ++ wd j)
  nd : ys.Nodup
  last : ∀ l, ys.getLast? = some l → l.cps.toList.head? ≠ some 126 → ¬ (tildeS ++ l) ∈ ys
section
variable {wd : Nat → Str} {M i : Nat} {ys : List Str}
theorem tilde_inj {a b : Str} (h : tildeS ++ a = tildeS ++ b) : a = b := by
  have h2 := congrArg (fun z : Str => z.cps.toList) h
  simp only [app_list] at h2
  exact str_ext (List.append_cancel_left h2)
theorem tilde_head (a : Str) : (tildeS ++ a).cps.toList.head? = some 126 := by
  rw [app_list]
  have : tildeS.cps.toList = [126] := by decide +kernel
  rw [this]
  rfl
theorem Iv.nil : Iv wd [] 0 := ⟨rfl, fun _ h => by simp at h, List.nodup_nil, fun _ h => by simp at h⟩
theorem Iv.fresh (v : Iv wd ys i) (w : Wds wd M) (hi : i < M) : ¬ wd i ∈ ys ∧ ¬ (tildeS ++ wd i) ∈ ys := by
  refine ⟨fun h => ?_, fun h => ?_⟩
  · obtain ⟨j, hj, e | e⟩ := v.from_ _ h
    · have := w.inj i j hi (by omega) e
      omega
    · exact good_no (w.good i hi) (by rw [e]; exact tilde_head _)
  · obtain ⟨j, hj, e | e⟩ := v.from_ _ h
    · exact good_no (w.good j (by omega)) (by rw [← e]; exact tilde_head _)
    · have := w.inj i j hi (by omega) (tilde_inj e)
      omega
theorem nodup_app {ys : List Str} {y : Str} (h : ys.Nodup) (n : ¬ y ∈ ys) : (ys ++ [y]).Nodup := by
  rw [List.nodup_append]
  refine ⟨h, by simp, fun a ha b hb q => ?_⟩
  rw [List.mem_singleton.mp hb] at q
  rw [q] at ha
  exact n ha
theorem Iv.plain (v : Iv wd ys i) (w : Wds wd M) (hi : i < M) : Iv wd (ys ++ [wd i]) (i + 1) := by
  obtain ⟨f1, f2⟩ := v.fresh w hi
  refine ⟨by rw [List.length_append, v.len]; rfl, fun y hy => ?_, nodup_app v.nd f1, fun l hl hn => ?_⟩
  · rcases List.mem_append.mp hy with q | q
    · obtain ⟨j, hj, e⟩ := v.from_ y q
      exact ⟨j, by omega, e⟩
    · exact ⟨i, by omega, .inl (List.mem_singleton.mp q)⟩
  · rw [List.getLast?_concat] at hl
    cases hl
    intro q
    rcases List.mem_append.mp q with q | q
    · exact f2 q
    · exact good_no (w.good i hi) (by rw [← List.mem_singleton.mp q]; exact tilde_head _)
theorem Iv.tilde (v : Iv wd ys i) (w : Wds wd M) (hi : i < M) : Iv wd (ys ++ [tildeS ++ wd i]) (i + 1) := by
  obtain ⟨f1, f2⟩ := v.fresh w hi
  refine ⟨by rw [List.length_append, v.len]; rfl, fun y hy => ?_, nodup_app v.nd f2, fun l hl hn => ?_⟩
  · rcases List.mem_append.mp hy with q | q
    · obtain ⟨j, hj, e⟩ := v.from_ y q
      exact ⟨j, by omega, e⟩
    · exact ⟨i, by omega, .inr (List.mem_singleton.mp q)⟩
  · rw [List.getLast?_concat] at hl
    cases hl
    exact absurd (tilde_head _) hn
theorem Iv.again (v : Iv wd ys i) {l : Str} (hl : ys.getLast? = some l) (hn : l.cps.toList.head? ≠ some 126) : Iv wd (ys ++ [tildeS ++ l]) (i + 1) := by
  have ml : l ∈ ys := List.mem_of_getLast? hl
  refine ⟨by rw [List.length_append, v.len]; rfl, fun y hy => ?_, nodup_app v.nd (v.last l hl hn), fun k hk hn' => ?_⟩
  · rcases List.mem_append.mp hy with q | q
    · obtain ⟨j, hj, e⟩ := v.from_ y q
      exact ⟨j, by omega, e⟩
    · obtain ⟨j, hj, e | e⟩ := v.from_ l ml
      · exact ⟨j, by omega, .inr (by rw [List.mem_singleton.mp q, e])⟩
      · exact absurd (by rw [e]; exact tilde_head _) hn
  · rw [List.getLast?_concat] at hk
    cases hk
    exact absurd (tilde_head _) hn'
/-- at the end: letters, different ones -/
theorem Iv.ends (v : Iv wd ys i) (w : Wds wd M) (hi : i ≤ M) : ys.length = i ∧ ys.Nodup ∧ ∀ y ∈ ys, isLs y = true ∧ y.length ≤ 13 ∧ Asc y := by
  refine ⟨v.len, v.nd, fun y hy => ?_⟩
  obtain ⟨j, hj, e⟩ := v.from_ y hy
  have g := w.good j (by omega)
  rcases e with rfl | rfl
  · exact ⟨good_is g, by have := good_len g; omega, good_asc g⟩
  · refine ⟨tilde_is g, ?_, Asc.app (.lit (by decide +kernel)) (good_asc g)⟩
    rw [Str.length_append]
    have := good_len g
    show 1 + _ ≤ 13
    omega
end
end Ask

namespace Ask
open PySem L2
theorem join_ones : ∀ cs : List Nat, (Str.join (Str.ofString "") (cs.map fun c => (⟨#[c]⟩ : Str))).cps.toList = cs
  | [] => rfl
  | [c] => rfl
  | c :: d :: r => by
    show (((⟨#[c]⟩ : Str) ++ Str.ofString "") ++ Str.join (Str.ofString "") ((d :: r).map fun c => (⟨#[c]⟩ : Str))).cps.toList = _
    rw [app_list, app_list, join_ones (d :: r)]
    rfl
theorem joinT_ones (cs : List Nat) : (Txt.join (Str.ofString "") (cs.map fun c => (⟨#[c]⟩ : Str))).cps.toList = cs := by
  rw [TL.join_eq]
  exact join_ones cs
theorem cut_pre (z : Str) (n : Nat) : (cutS z none (some (n : Int))).cps.toList = z.cps.toList.take n := by
  unfold cutS
  rw [HT.sIx_none, HT.sIx_nat, List.drop_zero, Nat.sub_zero]
  have hl := tl_len z
  by_cases h : n ≤ z.length
  · rw [Nat.min_eq_left h]
  · rw [Nat.min_eq_right (by omega), List.take_of_length_le (by omega), List.take_of_length_le (by omega)]
theorem cut_suf (z : Str) (n : Nat) : (cutS z (some (n : Int)) none).cps.toList = z.cps.toList.drop n := by
  unfold cutS
  rw [HT.sIx_none, HT.sIx_nat]
  have hl := tl_len z
  by_cases h : n ≤ z.length
  · rw [Nat.min_eq_left h, List.take_of_length_le (by rw [List.length_drop]; omega)]
  · rw [Nat.min_eq_right (by omega), List.drop_of_length_le (by omega), List.drop_of_length_le (by omega)]
    simp
theorem cut_mem {z : Str} {lo hi : Option Int} {c : Nat} (h : c ∈ (cutS z lo hi).cps.toList) : c ∈ z.cps.toList := List.mem_of_mem_drop (List.mem_of_mem_take h)
/-- the sign of turn k -/
def sgN (zc : Str) (fr s k : Nat) : Nat := (zc.cps.toList[(fr + s * k) % zc.length]?).getD 0
theorem sgN_at (zc : Str) (fr s k : Nat) (h : 0 < zc.length) : zc.cps.toList[(fr + s * k) % zc.length]? = some (sgN zc fr s k) := by
  have hl := tl_len zc
  have lt : (fr + s * k) % zc.length < zc.cps.toList.length := by
    rw [hl]
    exact Nat.mod_lt _ h
  unfold sgN
  rw [List.getElem?_eq_getElem lt]
  rfl
theorem sgN_mem (zc : Str) (fr s k : Nat) (h : 0 < zc.length) : sgN zc fr s k ∈ zc.cps.toList := List.mem_of_getElem? (sgN_at zc fr s k h)
/-- the word of turn k -/
def wdN (stem zc : Str) (at_ fr s : Nat) (k : Nat) : Str :=
  fixS ((cutS stem none (some (at_ : Int)) ++ (⟨#[sgN zc fr s k]⟩ : Str)) ++ cutS (cutS stem (some (at_ : Int)) none) none (some (((cutS stem (some (at_ : Int)) none).length : Int) - (0 + (k : Int)) * (if decide (0 + (k : Int) < 2) = true then 1 else 0))))
theorem wdN_ok {stem zc : Str} {at_ fr s : Nat} (ha : at_ ≤ stem.length) (hl : stem.length ≤ 11) (hs : ∀ c ∈ stem.cps.toList, c ∈ signsL) (hh : ∀ c, stem.cps.toList.head? = some c → c ∈ smallL)
    (hz : zc = if 0 < at_ then signs else small) (hst : s ∈ [1, 5, 7, 11, 17, 19, 23, 25]) : Wds (wdN stem zc at_ fr s) 26 := by
  have hL := tl_len stem
  have hn : zc.length = 26 ∨ zc.length = 36 := by
    rw [hz]
    split
    · exact .inr signs_len
    · exact .inl small_len
  have pos : 0 < zc.length := by omega
  have nd : zc.cps.toList.Nodup := by
    rw [hz]
    split
    · exact signs_nodup
    · exact small_nodup
  refine wds_mk (S := stem.cps.toList) (a := at_) (sg := sgN zc fr s) (T := fun k => (cutS (cutS stem (some (at_ : Int)) none) none (some (((cutS stem (some (at_ : Int)) none).length : Int) - (0 + (k : Int)) * (if decide (0 + (k : Int) < 2) = true then 1 else 0)))).cps.toList)
    (by omega) (by omega) hs hh (fun k hk => ?_) (fun e k hk => ?_) (fun j k hj hk q => ?_) (fun k => ⟨fun c hc => hs c (cut_mem (cut_mem hc)), ?_⟩) (fun k hk => ⟨_, rfl, ?_⟩)
  · have := sgN_mem zc fr s k pos
    generalize sgN zc fr s k = x at this ⊢
    rw [hz] at this
    split at this
    · exact this
    · exact small_signs _ this
  · have := sgN_mem zc fr s k pos
    generalize sgN zc fr s k = x at this ⊢
    rw [hz, e] at this
    exact this
  · have e1 := sgN_at zc fr s j pos
    have e2 := sgN_at zc fr s k pos
    rw [q] at e1
    exact step_inj hn hst hj hk (nodup_at nd e1 e2)
  · rw [tl_len]
    refine Nat.le_trans (cutS_length _ _ _) ?_
    have := tl_len (cutS stem (some (at_ : Int)) none)
    rw [cut_suf, List.length_drop] at this
    omega
  · rw [app_list, app_list, cut_pre]
    show (_ ++ [sgN zc fr s k]) ++ _ = _
    rw [List.append_assoc]
    rfl
/-- what the block of the n signs leaves -/
def SgL (L : List Nat) (p c : Addr) (ns : List Int) (H0 : Hp) (D : Addr) (B i : Nat) (H : Hp) : Prop := ∃ cs : List Nat, Go p c ns H0 H (B + i) ∧ H D = some (.lst ((cs.map fun c => (⟨#[c]⟩ : Str)).map V.str)) ∧ cs.length = i ∧ ∀ c ∈ cs, c ∈ L
theorem SgL.next {L : List Nat} {p c D : Addr} {ns : List Int} {H0 H H' : Hp} {B i j : Nat} (h : SgL L p c ns H0 D B i H) (h0 : H0 D = none) (g : Go p c ns H H' (B + i + 1)) (hi : i ≤ 1000) (hj : j ∈ L) :
    ∃ acc, H' D = some (.lst acc) ∧ acc.length < sizeLine ∧ SgL L p c ns H0 D B (i + 1) (upd H' D (.lst (acc ++ [.str ⟨#[j]⟩]))) := by
  obtain ⟨cs, g0, hD, hl, h1⟩ := h
  refine ⟨_, g.lst hD, ?_, cs ++ [j], ((g0.step g).mut h0).mono (by omega), ?_, ?_, ?_⟩
  · rw [List.length_map, List.length_map]
    exact small1000 (by omega)
  · rw [upd_same, List.map_append, List.map_append]
    rfl
  · rw [List.length_append, hl]
    rfl
  · intro y hy
    rcases List.mem_append.mp hy with z | z
    · exact h1 y z
    · rw [List.mem_singleton.mp z]
      exact hj
theorem in_mem {x : Str} {ys : List Str} (h : x ∈ ys) : inV (.str x) (ys.map V.str) = true := by
  unfold inV
  rw [List.any_eq_true]
  refine ⟨.str x, List.mem_map.mpr ⟨x, h, rfl⟩, ?_⟩
  exact decide_eq_true rfl
end Ask

namespace Ask
open PySem L2
/-- an item of the law's lists, its list or tuple at a place of N -/
def ItV (N : Addr → Prop) (H : Hp) (v : V) (d : PyData) : Prop :=
  (v = .non ∧ d = .none) ∨ (v = .bl true ∧ d = .bool true) ∨ (v = .int 7 ∧ d = .int 7) ∨ ∃ z : Str, (z.length ≤ 500 ∧ Asc z) ∧
    ((v = .str z ∧ d = .str z) ∨ ∃ a, v = .ref a ∧ N a ∧ ((H a = some (.lst [.str z]) ∧ d = .list [.str z]) ∨ (H a = some (.tup [.str z]) ∧ d = .tuple [.str z])))
section
variable {K : PySem.W.Frag} {N N' : Addr → Prop} {H H' H0 : Hp} {v : V} {d : PyData} {p c q : Addr} {ns : List Int} {B : Nat} {o : HO}
theorem ItV.itm (h : ItV N H v d) : Itm d := by
  rcases h with ⟨_, e⟩ | ⟨_, e⟩ | ⟨_, e⟩ | ⟨z, ⟨h1, h2⟩, ⟨_, e⟩ | ⟨a, _, _, ⟨_, e⟩ | ⟨_, e⟩⟩⟩
  · exact .inl e
  · exact .inr (.inl e)
  · exact .inr (.inr (.inl e))
  · exact .inr (.inr (.inr ⟨z, h1, h2, .inl e⟩))
  · exact .inr (.inr (.inr ⟨z, h1, h2, .inr (.inl e)⟩))
  · exact .inr (.inr (.inr ⟨z, h1, h2, .inr (.inr e)⟩))
theorem ItV.dp (h : ItV N H v d) : Dp K H v d := by
  rcases h with ⟨e, e'⟩ | ⟨e, e'⟩ | ⟨e, e'⟩ | ⟨z, _, ⟨e, e'⟩ | ⟨a, e, _, ⟨ea, e'⟩ | ⟨ea, e'⟩⟩⟩ <;> rw [e, e']
  · exact .non
  · exact .bl _
  · exact .int _
  · exact .str _
  · exact .lst (SqL.of ea) (.cons (.str _) .nil)
  · exact .tup (SqT.of ea) (.cons (.str _) .nil)
theorem ItV.mp (h : ItV N H v d) (k : ∀ a o, N a → H a = some o → (∀ kvs, o ≠ .dK kvs) → N' a ∧ H' a = some o) : ItV N' H' v d := by
  rcases h with h | h | h | ⟨z, hz, h | ⟨a, e, n, ⟨ea, e'⟩ | ⟨ea, e'⟩⟩⟩
  · exact .inl h
  · exact .inr (.inl h)
  · exact .inr (.inr (.inl h))
  · exact .inr (.inr (.inr ⟨z, hz, .inl h⟩))
  · obtain ⟨n', ea'⟩ := k a _ n ea (by intro _ z; cases z)
    exact .inr (.inr (.inr ⟨z, hz, .inr ⟨a, e, n', .inl ⟨ea', e'⟩⟩⟩))
  · obtain ⟨n', ea'⟩ := k a _ n ea (by intro _ z; cases z)
    exact .inr (.inr (.inr ⟨z, hz, .inr ⟨a, e, n', .inr ⟨ea', e'⟩⟩⟩))
theorem ItV.go (h : ItV N H v d) (g : Go p c ns H H' B) : ItV N H' v d := h.mp fun a o n e k => ⟨n, g.at e k⟩
theorem ItV.same (h : ItV N H v d) (s : Same H H') : ItV N H' v d := h.mp fun a o n e _ => ⟨n, s a o e⟩
theorem ItV.mut (h : ItV N H v d) (n : ∀ a, N a → a ≠ q) : ItV N (upd H q o) v d := h.mp fun a u m e _ => ⟨m, by rw [upd_ne (n a m)]; exact e⟩
theorem ItV.wk (h : ItV N H v d) (n : ∀ a, N a → N' a) : ItV N' H v d := h.mp fun a u m e _ => ⟨n a m, e⟩
def ItS (N : Addr → Prop) (H : Hp) (xs : List V) : Prop := ∀ v ∈ xs, ∃ d, ItV N H v d
theorem ItS.nil : ItS N H [] := fun _ h => by cases h
theorem ItS.cons {xs : List V} (h : ∃ d, ItV N H v d) (r : ItS N H xs) : ItS N H (v :: xs) := fun x hx => by
  rcases List.mem_cons.mp hx with rfl | hx
  · exact h
  · exact r x hx
theorem ItS.app {xs ys : List V} (h : ItS N H xs) (r : ItS N H ys) : ItS N H (xs ++ ys) := fun x hx => by
  rcases List.mem_append.mp hx with hx | hx
  · exact h x hx
  · exact r x hx
theorem itStr {z : Str} (h : z.length ≤ 500 ∧ Asc z) : ∃ d, ItV N H (.str z) d := ⟨_, .inr (.inr (.inr ⟨z, h, .inl ⟨rfl, rfl⟩⟩))⟩
end
theorem asc_upper {z : Str} (h : Asc z) : Asc (Txt.upper z) ∧ (Txt.upper z).length = z.length := by
  rw [PyProof.Rows.upper_ascii h]
  refine ⟨fun c hc => ?_, by simp [Str.length]⟩
  have hc : c ∈ (z.cps.map PyProof.Rows.up1).toList := hc
  rw [Array.toList_map] at hc
  obtain ⟨b, hb, rfl⟩ := List.mem_map.mp hc
  have := h b hb
  unfold PyProof.Rows.up1
  split <;> omega
theorem asc_rep {z : Str} (h : Asc z) (n : Nat) : Asc (repS z n) := by
  have : ∀ (n : Nat) (acc : Array Nat), (∀ c ∈ acc.toList, c < 128) → ∀ c ∈ ((List.replicate n z.cps).foldl (· ++ ·) acc).toList, c < 128 := by
    intro n
    induction n with
    | zero => intro acc ha; simpa using ha
    | succ n ih =>
      intro acc ha
      rw [List.replicate_succ, List.foldl_cons]
      refine ih _ fun c hc => ?_
      rw [Array.toList_append] at hc
      rcases List.mem_append.mp hc with q | q
      · exact ha c q
      · exact h c q
  exact this n #[] (fun c hc => by cases hc)
end Ask

namespace Ask
open PySem L2
/-! ### the answers, by the mirror -/
def badAt (ds : List PyData) (k : Nat) : Bool := match ds[k]? with
  | some d => !isL d || (ds.take k).any fun z => PyData.eqv z d
  | none => false
def bads (ds : List PyData) : List Nat := (List.range ds.length).filter (badAt ds)
def res (ds : List PyData) : PyData :=
  if 12 < ds.length then .tuple [.str "many", .str "letters", .int (ds.length : Nat), .int 12]
  else match bads ds with
    | k :: _ => .tuple [.str "letters", .int (k : Nat)]
    | [] => if ds.length = 0 then .tuple [.str "letters", .int 0] else .none
theorem res_many {ds : List PyData} (h : 12 < ds.length) : res ds = .tuple [.str "many", .str "letters", .int (ds.length : Nat), .int 12] := if_pos h
theorem res_none {ds : List PyData} (h : ds.length = 0) : res ds = .tuple [.str "letters", .int 0] := by
  have e : ds = [] := List.eq_nil_of_length_eq_zero h
  subst e
  rfl
theorem bads_at {ds : List PyData} {k : Nat} (h1 : k < ds.length) (h2 : badAt ds k = true) (h3 : ∀ j < k, badAt ds j = false) : ∃ r, bads ds = k :: r := by
  unfold bads
  have e : ds.length = k + (1 + (ds.length - k - 1)) := by omega
  rw [e, List.range_add, List.filter_append]
  have e1 : (List.range k).filter (badAt ds) = [] := List.filter_eq_nil_iff.mpr fun x hx => by
    rw [h3 x (List.mem_range.mp hx)]
    exact Bool.false_ne_true
  rw [e1, List.nil_append, Nat.add_comm 1, List.range_succ_eq_map, List.map_cons, List.filter_cons, if_pos (by simpa using h2)]
  exact ⟨_, rfl⟩
theorem res_at {ds : List PyData} {k : Nat} (h0 : ¬ 12 < ds.length) (h1 : k < ds.length) (h2 : badAt ds k = true) (h3 : ∀ j < k, badAt ds j = false) : res ds = .tuple [.str "letters", .int (k : Nat)] := by
  obtain ⟨r, e⟩ := bads_at h1 h2 h3
  unfold res
  rw [if_neg h0, e]
theorem res_good {ds : List PyData} (h0 : ¬ 12 < ds.length) (h1 : 0 < ds.length) (h3 : ∀ j < ds.length, badAt ds j = false) : res ds = .none := by
  have e : bads ds = [] := List.filter_eq_nil_iff.mpr fun x hx => by
    rw [h3 x (List.mem_range.mp hx)]
    exact Bool.false_ne_true
  unfold res
  rw [if_neg h0, e]
  exact if_neg (by omega)
/-- an answer of the law's -/
def Rs (H : Hp) (v : V) (d : PyData) : Prop := (v = .non ∧ d = .none) ∨ ∃ a xs ds, v = .ref a ∧ d = .tuple ds ∧ H a = some (.tup xs) ∧ ∀ (K : PySem.W.Frag) (H' : Hp), DpAll K H' xs ds
/-- the items of a list -/
def ItL (N : Addr → Prop) (H : Hp) : List V → List PyData → Prop
  | [], [] => True
  | v :: xs, d :: ds => ItV N H v d ∧ ItL N H xs ds
  | _, _ => False
section
variable {K : PySem.W.Frag} {N N' : Addr → Prop} {H H' H0 : Hp} {v : V} {d : PyData} {p c q : Addr} {ns : List Int} {B : Nat} {o : HO}
theorem Rs.dp (h : Rs H v d) : Dp K H v d := by
  rcases h with ⟨rfl, rfl⟩ | ⟨a, xs, ds, rfl, rfl, e, k⟩
  · exact .non
  · exact .tup (SqT.of e) (k K H)
theorem Rs.same (h : Rs H v d) (s : Same H H') : Rs H' v d := by
  rcases h with h | ⟨a, xs, ds, h1, h2, e, k⟩
  · exact .inl h
  · exact .inr ⟨a, xs, ds, h1, h2, s _ _ e, k⟩
theorem ItL.len : ∀ {xs : List V} {ds : List PyData}, ItL N H xs ds → xs.length = ds.length
  | [], [], _ => rfl
  | _ :: _, _ :: _, h => by rw [List.length_cons, List.length_cons, ItL.len h.2]
  | [], _ :: _, h => h.elim
  | _ :: _, [], h => h.elim
theorem ItL.mp : ∀ {xs : List V} {ds : List PyData}, ItL N H xs ds → (∀ v d, ItV N H v d → ItV N' H' v d) → ItL N' H' xs ds
  | [], [], _, _ => trivial
  | _ :: _, _ :: _, h, k => ⟨k _ _ h.1, ItL.mp h.2 k⟩
  | [], _ :: _, h, _ => h.elim
  | _ :: _, [], h, _ => h.elim
theorem ItL.dp : ∀ {xs : List V} {ds : List PyData}, ItL N H xs ds → DpAll K H xs ds
  | [], [], _ => .nil
  | _ :: _, _ :: _, h => .cons h.1.dp (ItL.dp h.2)
  | [], _ :: _, h => h.elim
  | _ :: _, [], h => h.elim
theorem ItL.itm : ∀ {xs : List V} {ds : List PyData}, ItL N H xs ds → ∀ d ∈ ds, Itm d
  | [], [], _, _, h => by cases h
  | _ :: _, _ :: _, h, d, hd => by
    rcases List.mem_cons.mp hd with rfl | hd
    · exact h.1.itm
    · exact ItL.itm h.2 d hd
  | [], _ :: _, h, _, _ => h.elim
  | _ :: _, [], h, _, _ => h.elim
theorem ItL.fit {xs : List V} {ds : List PyData} (h : ItL N H xs ds) : FitAll ds := fit_all fun d hd => itm_fit (h.itm d hd)
theorem ItL.get : ∀ {xs : List V} {ds : List PyData} (k : Nat), ItL N H xs ds → k < xs.length → ∃ v d, xs[k]? = some v ∧ ds[k]? = some d ∧ ItV N H v d
  | [], _, _, _, h => absurd h (Nat.not_lt_zero _)
  | _ :: _, [], _, h, _ => h.elim
  | v :: _, d :: _, 0, h, _ => ⟨v, d, rfl, rfl, h.1⟩
  | _ :: _, _ :: _, k + 1, h, hk => by
    obtain ⟨v, d, h1, h2, h3⟩ := ItL.get k h.2 (Nat.lt_of_succ_lt_succ hk)
    exact ⟨v, d, by simpa using h1, by simpa using h2, h3⟩
theorem ItL.take : ∀ {xs : List V} {ds : List PyData} (k : Nat), ItL N H xs ds → ItL N H (xs.take k) (ds.take k)
  | [], [], _, _ => by rw [List.take_nil, List.take_nil]; trivial
  | _ :: _, _ :: _, 0, _ => trivial
  | _ :: _, _ :: _, k + 1, h => ⟨h.1, ItL.take k h.2⟩
  | [], _ :: _, _, h => h.elim
  | _ :: _, [], _, h => h.elim
theorem ItL.set : ∀ {xs : List V} {ds : List PyData} (k : Nat), ItL N H xs ds → ItV N H v d → ItL N H (xs.set k v) (ds.set k d)
  | [], [], _, _, _ => trivial
  | _ :: _, _ :: _, 0, h, hv => ⟨hv, h.2⟩
  | _ :: _, _ :: _, k + 1, h, hv => ⟨h.1, ItL.set k h.2 hv⟩
  | [], _ :: _, _, h, _ => h.elim
  | _ :: _, [], _, h, _ => h.elim
theorem ItL.app1 : ∀ {xs : List V} {ds : List PyData}, ItL N H xs ds → ItV N H v d → ItL N H (xs ++ [v]) (ds ++ [d])
  | [], [], _, hv => ⟨hv, trivial⟩
  | _ :: _, _ :: _, h, hv => ⟨h.1, ItL.app1 h.2 hv⟩
  | [], _ :: _, h, _ => h.elim
  | _ :: _, [], h, _ => h.elim
theorem itl_strs : ∀ {ys : List Str}, (∀ y ∈ ys, y.length ≤ 500 ∧ Asc y) → ItL N H (ys.map V.str) (ys.map PyData.str)
  | [], _ => trivial
  | y :: r, h => ⟨.inr (.inr (.inr ⟨y, h y (List.mem_cons_self ..), .inl ⟨rfl, rfl⟩⟩)), itl_strs fun z hz => h z (List.mem_cons_of_mem _ hz)⟩
end
theorem ints_lay : ∀ ks : List Nat, (∀ k ∈ ks, k ≤ 1000) → PyData.canLayAll0 (ks.map fun k : Nat => PyData.int k) = true ∧ PyData.depthAll (ks.map fun k : Nat => PyData.int k) = 0
  | [], _ => ⟨rfl, rfl⟩
  | k :: r, h => by
    obtain ⟨h1, h2⟩ := ints_lay r fun z hz => h z (List.mem_cons_of_mem _ hz)
    have hk := h k (List.mem_cons_self ..)
    refine ⟨?_, ?_⟩
    · show (PyData.canLay0 (.int (k : Nat)) && PyData.canLayAll0 (r.map fun k : Nat => PyData.int k)) = true
      rw [h1, Bool.and_true]
      rfl
    · show max 0 (PyData.depthAll (r.map fun k : Nat => PyData.int k)) = 0
      rw [h2]
      rfl
theorem ints_shaped {ks : List Nat} (h : ∀ k ∈ ks, k ≤ 1000) : SeqAt.shaped (.list (ks.map fun k : Nat => PyData.int k)) = true := by
  obtain ⟨h1, h2⟩ := ints_lay ks h
  exact shaped_of h1 (by show PyData.depthAll _ + 1 ≤ 64; omega)
theorem dp_ints {K : PySem.W.Frag} {H : Hp} : ∀ ks : List Nat, DpAll K H (ks.map fun k : Nat => V.int k) (ks.map fun k : Nat => PyData.int k)
  | [] => .nil
  | k :: r => .cons (.int _) (dp_ints r)
theorem cutV_take (xs : List V) (k : Nat) (h : k ≤ xs.length) : cutV xs none (some (k : Int)) = xs.take k := by
  unfold cutV
  rw [HT.sIx_none, HT.sIx_nat, List.drop_zero, Nat.sub_zero, Nat.min_eq_left h]
end Ask

/-! C(e, ..), what its __init__ raises wished for at the caller's slots -/
namespace Ask
open PySem L2 PySem.Spec PyProof.Rows
def tMakeS (C : Addr) (sp : Sp) (E : L2.St → XK) (t : TA) : TE := fun σ H Q => t σ H fun vs H1 => ∀ x dx, H1 x = none → H1 dx = none → dx ≠ x →
  sp (.ref x :: vs) (upd (upd H1 dx (.own x)) x (.ins C dx [])) (fun v H2 => v = .non ∧ Q (.ref x) H2) (E σ)
theorem pe_makeS {X : Cx} {CX : CXT} {k : Nat} {f C : Addr} {fd : FuncData} {ps : List Str} {sp : Sp} {E : L2.St → XK} {x : Str} {p pos : Pos} {e : Expr} {es : List Expr} {t : TA}
    (M : Mk X.K C f) (F : FnOk X.prog X.w X.K X.mg X.base CX k f fd ps sp) (hr : Room (k + 1) X.A) (hg : Gl X x) (hm : X.mg x = some (.ref C)) (hb : Binds X.K fd ps []) (hx : ∀ σ, PassesAt CX X σ (E σ)) (ha : PA X (e :: es) t)
    (hdb : (x == ("__debug__" : Str)) = false := by decide) (he : starEach (e :: es) X.env = (false, eval e X.env) :: starEach es X.env := by rfl) (hpl : (backTo pos (starEach es X.env)).any (·.1) = false := by rfl) :
    PE X (.Call (.Name x p) (e :: es) [] pos) (tMakeS C sp E t) := by
  refine ⟨fun pins s σ H Q I h => wpAny_Call_Name_kw (ld_glob I hg hm ?_ hdb)⟩
  refine PySem.W.callWith_K (h₀ := X.base) I.ok.mod.kin M.kp (thn (ha.run pos pins s σ H _ I h) fun us s1 ⟨vs, H1, I1, r, q⟩ => ⟨I1.kIn, ?_⟩) he hpl
  have w := q (s1.heap.objs.size + 1) s1.heap.objs.size (I1.hok.fresh (Nat.le_succ _)) (I1.hok.fresh (Nat.le_refl _)) (Nat.ne_of_lt (Nat.lt_succ_self _))
  have I2 := Inv.made (C := C) I1
  have r2 : Vals (V.ref (s1.heap.objs.size + 1) :: vs) (Value.ref (s1.heap.objs.size + 1) :: us) := .cons rfl r
  have len : (Value.ref (s1.heap.objs.size + 1) :: us).length = ps.length := by
    rw [← r2.length]
    exact F.len _ _ _ _ w
  have len2 : (Value.ref (s1.heap.objs.size + 1) :: us ++ []).length = ps.length := by
    rw [List.append_nil]
    exact len
  have bound := hb _ (Value.ref (s1.heap.objs.size + 1) :: us) I2.kIn len2
  rw [List.append_nil] at bound
  refine wpAny_call (make_map (f := f) I1.kIn M.makes M.init (beq_iff_eq.mp M.fn) (codeAny_mono (F.run _ X.stack _ _ ⟨Value.ref (s1.heap.objs.size + 1) :: us, []⟩ _ _ _ (E σ) (hr.make C us []) (I2.env0.make C us []) bound r2 w) fun r s' got => ?_))
  match r, got with
  | .error e, got => exact hx σ pins _ _ e s' I2 got
  | .ok .next, got => exact False.elim got
  | .ok .brk, got => exact False.elim got
  | .ok .cont, got => exact False.elim got
  | .ok (.ret u), got =>
    obtain ⟨v, H', I3, rv, ev, z⟩ := I2.after got
    subst ev
    exact ⟨rv, ⟨V.ref (s1.heap.objs.size + 1), H', I3, rfl, z⟩⟩
end Ask

namespace Ask
open PySem L2
section
variable {P : Program} {w : World} {K : PySem.W.Frag} {mg : Str → Option Value} {base : Heap}
/-! ### copied, of a number or a text -/
def spCopy : Sp := fun vs H Q _ => ∃ x : V, vs = [x] ∧ ((∃ i, x = .int i) ∨ ∃ z, x = .str z) ∧ Q x H
abbrev s_copied : Stmt := top 9
theorem sc_copied : FnScope ["value"] ["value"] (defScope s_copied) := ⟨rfl, rfl, rfl, by decide +kernel, rfl, by decide +kernel, by decide +kernel⟩
theorem ok_copied {f : Addr} {fd : FuncData} (F : Fun K "copied" "copied" s_copied f fd) (T : Blt mg) (nD : mg "dict" = none) : FnOk P w K mg base CX0 1 f fd ["value"] spCopy := by
  refine F.ok sc_copied (fun vs H Q E h => ?_) (fun cdv A outer s H vs Q E hr h => ?_)
  · obtain ⟨x, rfl, _⟩ := h
    rfl
  · obtain ⟨x, rfl, hx, k⟩ := h
    refine ⟨_, (pss_cons (ps_if (pt_val (pe_callB call_isi (by rfl) T.n_isinstance (by decide +kernel) (pa_cons (pv 0) (pa_cons (pe_bltn (v := .ty "list") (u := .type "list") rfl T.n_list (by decide +kernel) rfl) pa_nil)))) pss_never pss_nil)
      (pss_cons (ps_if (pt_val (pe_callB call_isi (by rfl) T.n_isinstance (by decide +kernel) (pa_cons (pv 0) (pa_cons (pe_bltn (v := .ty "tuple") (u := .type "tuple") rfl T.n_tuple (by decide +kernel) rfl) pa_nil)))) pss_never pss_nil)
      (pss_cons (ps_if (pt_val (pe_callB call_isi (by rfl) T.n_isinstance (by decide +kernel) (pa_cons (pv 0) (pa_cons (pe_bltn (v := .ty "dict") (u := .type "dict") rfl nD (by decide +kernel) rfl) pa_nil)))) pss_never pss_nil)
      (pss_one (ps_ret (pv 0)))))), ?_⟩
    rcases hx with ⟨i, rfl⟩ | ⟨z, rfl⟩
    · refine ⟨_, rfl, _, _, _, _, false, rfl, .ty _, .base (.int _), kit_ty (by decide +kernel), _, rfl, iteF ?_⟩
      refine ⟨_, rfl, _, _, _, _, false, rfl, .ty _, .base (.int _), kit_ty (by decide +kernel), _, rfl, iteF ?_⟩
      refine ⟨_, rfl, _, _, _, _, false, rfl, .ty _, .base (.int _), kit_ty (by decide +kernel), _, rfl, iteF ?_⟩
      exact ⟨_, rfl, k⟩
    · refine ⟨_, rfl, _, _, _, _, false, rfl, .ty _, .base (.str _), kit_ty (by decide +kernel), _, rfl, iteF ?_⟩
      refine ⟨_, rfl, _, _, _, _, false, rfl, .ty _, .base (.str _), kit_ty (by decide +kernel), _, rfl, iteF ?_⟩
      refine ⟨_, rfl, _, _, _, _, false, rfl, .ty _, .base (.str _), kit_ty (by decide +kernel), _, rfl, iteF ?_⟩
      exact ⟨_, rfl, k⟩
/-! ### the errors -/
def spErr (C : Addr) (ok : List V → Prop) (fs : List V → List (Str × V)) : Sp := fun vs H Q _ => ∃ (a : Addr) (ws : List V), vs = .ref a :: ws ∧ ok ws ∧ H a = some (exo a C none) ∧
  ∀ (H' : Hp) (dx : Addr), H dx = none → dx ≠ a → H' a = some (exo a C (some dx)) → H' dx = some (exd dx (fs ws)) → (∀ b o, b ≠ a → H b = some o → H' b = some o) → Q .non H'
def okBad : List V → Prop := fun ws => ∃ i : Int, ws = [.int i]
def fsBad : List V → List (Str × V) := fun ws => match ws with
  | [v] => [("index", v)]
  | _ => []
def okMany : List V → Prop := fun ws => ∃ (wd : Str) (n m : Int), ws = [.str wd, .int n, .int m]
def fsMany : List V → List (Str × V) := fun ws => match ws with
  | [v, n, m] => [("most", m), ("many", n), ("what", v)]
  | _ => []
abbrev s_BadLetters_init : Stmt := inClass (top 12) 0
theorem sc_BadLetters_init : FnScope ["self", "index"] ["self", "index"] (defScope s_BadLetters_init) := ⟨rfl, rfl, rfl, by decide +kernel, rfl, by decide +kernel, by decide +kernel⟩
abbrev s_TooMany_init : Stmt := inClass (top 23) 0
theorem sc_TooMany_init : FnScope ["self", "what", "many", "most"] ["self", "what", "many", "most"] (defScope s_TooMany_init) := ⟨rfl, rfl, rfl, by decide +kernel, rfl, by decide +kernel, by decide +kernel⟩
theorem ok_badInit {f fC C : Addr} {fd fdC : FuncData} (F : Fun K "__init__" "BadLetters.__init__" s_BadLetters_init f fd) (T : OexC K C) (h1 : PySem.W.findIn K (.ref C) "index" = some none)
    (GC : FnOk P w K mg base CX0 1 fC fdC ["value"] spCopy) (CP : At K mg "copied" fC fdC ["value"]) : FnOk P w K mg base CX0 2 f fd ["self", "index"] (spErr C okBad fsBad) := by
  refine F.ok sc_BadLetters_init (fun vs H Q E h => ?_) (fun cdv A outer s H vs Q E hr h => ?_)
  · obtain ⟨a, ws, rfl, ⟨i, rfl⟩, _⟩ := h
    rfl
  · obtain ⟨a, ws, rfl, ⟨i, rfl⟩, ha, k⟩ := h
    refine ⟨_, pss_one (ps_ost (pv 0) (pe_call GC hr (by rfl) CP.m CP.k CP.b .nil pass0 (pa_cons (pv 1) pa_nil))), ?_⟩
    refine ⟨_, rfl, _, rfl, .inl ⟨i, rfl⟩, _, rfl, a, C, rfl, T, h1, .inl ⟨ha, fun dx hdx hne => ?_⟩⟩
    refine k _ dx hdx hne upd_same (by rw [upd_ne hne]; exact upd_same) fun b o hb e => ?_
    rw [upd_ne hb, upd_ne (ne_of_none e hdx)]
    exact e
theorem ok_manyInit {f fC C : Addr} {fd fdC : FuncData} (F : Fun K "__init__" "TooMany.__init__" s_TooMany_init f fd) (T : OexC K C) (h1 : PySem.W.findIn K (.ref C) "what" = some none) (h2 : PySem.W.findIn K (.ref C) "many" = some none) (h3 : PySem.W.findIn K (.ref C) "most" = some none)
    (GC : FnOk P w K mg base CX0 1 fC fdC ["value"] spCopy) (CP : At K mg "copied" fC fdC ["value"]) : FnOk P w K mg base CX0 2 f fd ["self", "what", "many", "most"] (spErr C okMany fsMany) := by
  refine F.ok sc_TooMany_init (fun vs H Q E h => ?_) (fun cdv A outer s H vs Q E hr h => ?_)
  · obtain ⟨a, ws, rfl, ⟨wd, i, mo, rfl⟩, _⟩ := h
    rfl
  · obtain ⟨a, ws, rfl, ⟨wd, i, mo, rfl⟩, ha, k⟩ := h
    refine ⟨_, pss_cons (ps_ost (pv 0) (pe_call GC hr (by rfl) CP.m CP.k CP.b .nil pass0 (pa_cons (pv 1) pa_nil))) (pss_cons (ps_ost (pv 0) (pe_call GC hr (by rfl) CP.m CP.k CP.b .nil pass0 (pa_cons (pv 2) pa_nil))) (pss_one (ps_ost (pv 0) (pe_call GC hr (by rfl) CP.m CP.k CP.b .nil pass0 (pa_cons (pv 3) pa_nil))))), ?_⟩
    refine ⟨_, rfl, _, rfl, .inr ⟨_, rfl⟩, _, rfl, a, C, rfl, T, h1, .inl ⟨ha, fun dx hdx hne => ?_⟩⟩
    have e1 : upd (upd H dx (exd dx [("what", .str wd)])) a (exo a C (some dx)) a = some (exo a C (some dx)) := upd_same
    have e2 : upd (upd H dx (exd dx [("what", .str wd)])) a (exo a C (some dx)) dx = some (exd dx [("what", .str wd)]) := by rw [upd_ne hne]; exact upd_same
    have k1 : ∀ b o, b ≠ a → H b = some o → upd (upd H dx (exd dx [("what", .str wd)])) a (exo a C (some dx)) b = some o := fun b o hb e => by
      rw [upd_ne hb, upd_ne (ne_of_none e hdx)]
      exact e
    generalize upd (upd H dx (exd dx [("what", .str wd)])) a (exo a C (some dx)) = H1 at e1 e2 k1 ⊢
    refine ⟨_, rfl, _, rfl, .inl ⟨_, rfl⟩, _, rfl, a, C, rfl, T, h2, .inr ⟨dx, _, e1, e2, by show 1 ≤ 900; decide, ?_⟩⟩
    refine ⟨_, rfl, _, rfl, .inl ⟨_, rfl⟩, _, rfl, a, C, rfl, T, h3, .inr ⟨dx, _, (by rw [upd_ne hne.symm]; exact e1), upd_same, by show 2 ≤ 900; decide, ?_⟩⟩
    refine k _ dx hdx hne (by rw [upd_ne hne.symm, upd_ne hne.symm]; exact e1) upd_same fun b o hb e => ?_
    have nb := ne_of_none e hdx
    rw [upd_ne nb, upd_ne nb]
    exact k1 b o hb e
end
end Ask

/-! tuple(list), frozen: its object has no dict, so that its methods can be called -/
namespace Ask
open PySem L2 PySem.Spec PyProof.Rows
section
variable {X : Cx}
theorem call_tuple_frz : CallR X (.type "tuple") (fun xs H Q => ∃ p ys, xs = [.ref p] ∧ SqL X.K H p ys ∧ ∀ (l : Addr) (o : Obj), H l = none → o.dict = none → Q (.ref l) (upd H l (.frz o (.tup ys)))) := by
  intro pins s σ H xs us Q I r h
  obtain ⟨p, ys, rfl, hq, q⟩ := h
  obtain ⟨u, rfl, rx⟩ := vals1 r
  cases rx
  obtain ⟨its, r', pl, hz⟩ := I.list hq
  have hlen := r'.length
  refine call_tuple_list pl.isList (fun h' kp => ?_) (by simp only [List.size_toArray] <;> omega)
  have I1 : Inv X pins σ H { s with heap := h' } := I.kept (t' := s.toks) kp
  have I2 : Inv X pins σ (upd H h'.objs.size (.frz { cls := .type "tuple", data := .seq its.toArray } (.tup ys))) { s with heap := h'.push { cls := .type "tuple", data := .seq its.toArray } } :=
    I1.laid (t' := s.toks) (fun b o e => Heap.get?_push_of_some _ e) (Nat.le_refl _) (show ObjOk X.prog X.w _ _ _ (.frz _ (.tup ys)) from ⟨Heap.get?_push_size _ rfl, hz, its, r', IsTup.new _ _⟩)
  exact ⟨.ref h'.objs.size, _, I2, rfl, q _ _ (I1.hok.fresh (Nat.le_refl _)) rfl⟩
def tBMT (r : V → List V → Hp → VK → Prop) (to : TE) (t : TA) : TE := fun σ H Q => to σ H fun x H1 => (∃ (p : Addr) (o : Obj) (xs : List V), x = .ref p ∧ H1 p = some (.frz o (.tup xs)) ∧ o.dict = none) ∧ t σ H1 fun xs H2 => r x xs H2 Q
variable {o e : Expr} {es : List Expr} {to : TE} {t : TA} {name : Str} {apos cpos : Pos} {id : String} {r : V → List V → Hp → VK → Prop}
theorem pe_bmT (slot : Slot "tuple" name id) (hty : typeOf (.builtin id) = pure (.type "method_descriptor")) (hm : MtR X id r) (ho : PE X o to) (ha : PA X (e :: es) t)
    (hbase : attributeBase o name X.env (eval o X.env) = eval o X.env := by rfl)
    (hfew : ((backTo cpos (starEach (e :: es) X.env)).all (fun x => !x.1) && (backToKw cpos (keywordEach [] X.env)).all (fun x => x.1.isSome)
      && decide ((e :: es).length + ([] : List Keyword).length + (if ([] : List Keyword).isEmpty then 0 else 1) < 30)) = true := by rfl)
    (hline : (apos.endLine == cpos.line) = true := by rfl) (hs : starEach (e :: es) X.env = (false, eval e X.env) :: starEach es X.env := by rfl) (hplain : (backTo cpos (starEach es X.env)).any (·.1) = false := by rfl) :
    PE X (.Call (.Attribute o name apos) (e :: es) [] cpos) (tBMT r to t) := by
  refine ⟨fun pins s σ H Q I h => ?_⟩
  refine wpAny_Call_method_late hbase hfew hline rfl (thn (ho.run pins s σ H _ I h) fun v s1 ⟨x, H1, I1, r1, ⟨p, ob, xs, ex, hp, hd⟩, q1⟩ => ?_)
  subst ex
  obtain rfl : v = Value.ref p := r1
  obtain ⟨its, rv, pl, _⟩ := I1.tuple (.inl (.inr ⟨ob, hp⟩))
  have ho := (show ObjOk X.prog X.w H1 s1.heap p (.frz ob (.tup xs)) from I1.hok p _ hp).1
  refine ⟨"tuple", id, PySem.F.plainAttrs_tuple, slot, hty, ?_, fun a ea => ?_, ?_⟩
  · obtain ⟨o1, h1, h2, _⟩ := pl
    exact ⟨o1, h1, h2⟩
  · cases ea
    exact ⟨ob, ho, hd⟩
  · have hA := ha.run cpos pins s1 σ H1 _ I1 q1
    rw [hs] at hA ⊢
    refine Calls.callWith_builtin (by show (false || (backTo cpos (starEach es X.env)).any (·.1)) = false; rw [hplain] <;> rfl) (Calls.evalArgs_plain ?_)
    exact thn hA fun us s2 ⟨vs, H2, I2, r2, q2⟩ => hm pins s2 σ H2 (.ref p) vs _ us Q I2 rfl r2 q2
end
end Ask

namespace Ask
open PySem L2
/-- an own error class of the text, its __init__ at f -/
structure ErrAt (K : PySem.W.Frag) (mg : Str → Option Value) (x : Str) (C f : Addr) (fd : FuncData) (ps : List Str) : Prop where
  m : mg x = some (.ref C)
  o : OexC K C
  i : PySem.W.findIn K (.ref C) "__init__" = some (some (.ref f))
  t : PySem.W.typeIn K (.ref f) = some (.type "function")
  b : Binds K fd ps []
  xf : XfC K C
theorem err_made {C : Addr} {ok : List V → Prop} {fs : List V → List (Str × V)} {H0 H1 : Hp} {ws : List V} {Qx : XK} (s : Same H0 H1) (hok : ok ws) (hl : ws.length ≤ 1000)
    (k : ∀ (H' : Hp) (d : Addr), Same H0 H' → H' d = some (.xd (fs ws)) → Qx (.ref C) (some d) H') :
    ws.length ≤ 1000 ∧ ∀ a, H1 a = none → spErr C ok fs (.ref a :: (ws ++ [])) (upd H1 a (exo a C none))
      (fun v H2 => v = .non ∧ ∃ (d : Addr) (fs' : List (Str × V)), H2 a = some (exo a C (some d)) ∧ H2 d = some (exd d fs') ∧ H1 d = none ∧ Qx (.ref C) (some d) (upd (del H2 a) d (.xd fs'))) (fun _ _ _ => False) := by
  refine ⟨hl, fun a ha => ⟨a, ws, by rw [List.append_nil], hok, upd_same, fun H' dx hdx hne e1 e2 kk => ?_⟩⟩
  have h1 : H1 dx = none := by
    rw [upd_ne hne] at hdx
    exact hdx
  refine ⟨rfl, dx, _, e1, e2, h1, k _ dx (fun b o e => ?_) upd_same⟩
  have e' := s b o e
  have nb : b ≠ a := ne_of_none e' ha
  rw [upd_ne (ne_of_none e' h1), del_ne nb]
  exact kk b o nb (by rw [upd_ne nb]; exact e')
theorem for_enum {K : PySem.W.Frag} {ta : TA} {g : TG} {tb u : TS} {D : Ends} {σ : L2.St} {H : Hp} {J : It} {n : Nat} {G : Hp → Prop} {Y : Nat → Hp → V → Hp → Prop} (f : ∀ R : It → Hp → Prop, R J H → iEnumA K ta σ H R)
    (wk : Walk J n G Y) (Pv : Nat → L2.St → Hp → Prop) (h0 : Pv 0 σ H) (hG : ∀ i σ H, i ≤ n → Pv i σ H → G H)
    (hs : ∀ i x σ H H', i < n → Pv i σ H → Y i H x H' → g x σ H' fun σ2 H2 => tb { D with nx := Pv (i + 1), ct := Pv (i + 1), bk := u D } σ2 H2) (hd : ∀ σ H, Pv n σ H → u D σ H) :
    tSeq (tFor (iEnumA K ta) g tb) u D σ H := by
  delta tSeq tFor
  exact f _ (for_it (D := { D with nx := u D }) wk Pv h0 hG hs hd)
theorem seqT_same {K : PySem.W.Frag} {H H' : Hp} {a : Addr} {xs : List V} (e : Same H H') (h : SqT K H a xs) : SqT K H' a xs := by
  rcases h with (h | ⟨o, h⟩) | h
  · exact .inl (.inl (e _ _ h))
  · exact .inl (.inr ⟨o, e _ _ h⟩)
  · exact .inr h
section
variable {P : Program} {w : World} {K : PySem.W.Frag} {mg : Str → Option Value} {base : Heap}
/-! ### Letters(words) -/
def spLet (K : PySem.W.Frag) (CL CB CM : Addr) : Sp := fun vs H Q E => ∃ (p dx a : Addr) (xs : List V) (ds : List PyData) (N : Addr → Prop), vs = [.ref p, .ref a] ∧ H p = some (.ins CL dx []) ∧ (SqL K H a xs ∨ SqT K H a xs) ∧ ItL N H xs ds ∧ xs.length ≤ 100 ∧
  (∀ (H' : Hp) (d : Addr) (i : Int), res ds = .tuple [.str "letters", .int i] → Same H H' → H' d = some (.xd (fsBad [.int i])) → E (.ref CB) (some d) H') ∧
  (∀ (H' : Hp) (d : Addr), 12 < ds.length → Same H H' → H' d = some (.xd (fsMany [.str "letters", .int (ds.length : Nat), .int 12])) → E (.ref CM) (some d) H') ∧
  (∀ (H' : Hp) (t : Addr) (o : Obj), res ds = .none → o.dict = none → H' p = some (.ins CL dx [("words", .ref t)]) → H' t = some (.frz o (.tup xs)) → (∀ b o, b ≠ p → H b = some o → H' b = some o) → Q .non H')
abbrev s_Letters_init : Stmt := inClass (top 32) 0
theorem sc_Letters_init : FnScope ["self", "words", "many", "kept", "index", "word"] ["self", "words"] (defScope s_Letters_init) := ⟨rfl, rfl, rfl, by decide +kernel, rfl, by decide +kernel, by decide +kernel⟩
theorem ok_letInit {f fI fB fM CL CB CM : Addr} {fd fdI fdB fdM : FuncData} (F : Fun K "__init__" "Letters.__init__" s_Letters_init f fd) (T : Blt mg) (C : Gv K mg) (hC : Cls K CL) (hA : NoAttr K CL "words")
    (GI : FnOk P w K mg base CX0 2 fI fdI ["value"] (spIsL K)) (I : At K mg "is_letter" fI fdI ["value"])
    (FB : FnOk P w K mg base CX0 2 fB fdB ["self", "index"] (spErr CB okBad fsBad)) (EB : ErrAt K mg "BadLetters" CB fB fdB ["self", "index"])
    (FM : FnOk P w K mg base CX0 2 fM fdM ["self", "what", "many", "most"] (spErr CM okMany fsMany)) (EM : ErrAt K mg "TooMany" CM fM fdM ["self", "what", "many", "most"]) :
    FnOk P w K mg base (L2.CX P w) 4 f fd ["self", "words"] (spLet K CL CB CM) := by
  refine F.okX sc_Letters_init (fun vs H Q E h => ?_) (fun cdv A outer s H vs Q E hr h => ?_)
  · obtain ⟨p, dx, a, xs, ds, N, rfl, _⟩ := h
    rfl
  · obtain ⟨p, dx, a, xs, ds, N, rfl, hp, hS, hI, hn, kB, kM, kQ⟩ := h
    have hu65 : A.units + 3 + 65 < cLine := by have := hr.un; have e : (A.deeper (PyProof.Rows.envOfC (Str.ofString "Letters.__init__") (defScope s_Letters_init) s.heap.objs.size f cdv)).units = A.units + 3 := rfl; omega
    have hr2 := hr.mono (j := 2) (by decide)
    refine ⟨_, (pss_cons (ps_set (i := 2) sc_Letters_init.nd rfl (Or.inl rfl) (pe_callB call_len_seq (by rfl) T.n_len (by decide +kernel) (pa_cons (pv 1) pa_nil)))
      (pss_cons (ps_if (pt_cmpR op_gt (pv 2) (pe_gv rfl C.mostL) (nomark _)) (pss_one (ps_raise rfl (takes_of rfl rfl rfl rfl) (pmk_oex EM.o EM.i EM.t FM hr EM.b .nil pass0 (by rfl) EM.m (pa_cons pe_str (pa_cons (pv 2) (pa_cons (pe_gv rfl C.mostL) pa_nil)))))) pss_nil)
      (pss_cons (ps_if (pt_cmpR op_eq (pv 2) pe_int (nomark _)) (pss_one (ps_raise rfl (takes_of rfl rfl rfl rfl) (pmk_oex EB.o EB.i EB.t FB hr EB.b .nil pass0 (by rfl) EB.m (pa_cons pe_int pa_nil)))) pss_nil)
      (pss_cons (ps_set (i := 3) sc_Letters_init.nd rfl (Or.inl rfl) (pe_lst pa_nil))
      (pss_cons (ps_for (passes_of rfl) rfl (pi_enumA (by rfl) T.n_enumerate (pa_cons (pv 1) pa_nil)) (pg_tup rfl (pgs_cons (pg_name (i := 4) sc_Letters_init.nd rfl (Or.inl rfl)) (pgs_cons (pg_name (i := 5) sc_Letters_init.nd rfl (Or.inl rfl)) pgs_nil))) (pss_cons (ps_if (PW.pt (pw_or (pt_not (pt_val (pe_call GI hr2 (by rfl) I.m I.k I.b .nil pass0 (pa_cons (pv 5) pa_nil)))) (pw_or1 (pt_cmpR (op_inD hu65) (pv 5) (pv 3) rfl)))) (pss_one (ps_raise rfl (takes_of rfl rfl rfl rfl) (pmk_oex EB.o EB.i EB.t FB hr EB.b .nil pass0 (by rfl) EB.m (pa_cons (pv 4) pa_nil)))) pss_nil)
      (pss_one (ps_expr (pe_bm PySem.F.plainAttrs_list PySem.F.slot_list_append PySem.F.type_list_append mt_append (pv 3) (pa_cons (pv 5) pa_nil))))))
      (pss_one (ps_fld (pv 0) (pe_callTy call_tuple_frz (by rfl) T.n_tuple (by decide +kernel) (pa_cons (pv 3) pa_nil)) rfl))))))), ?_⟩
    have hlen := hI.len
    have z1 : (1000 : Nat) ≤ sizeLine := by decide
    have fit := hI.fit
    refine ⟨_, rfl, a, xs, rfl, hS, _, rfl, _, _, rfl, rfl, _, rfl, ite2 (fun h1 => ?_) (fun h1 => ?_)⟩
    · have h1 : (12 : Int) < (xs.length : Nat) := of_decide_eq_true h1
      refine ⟨_, rfl, err_made (Same.refl H) ⟨_, _, _, rfl⟩ (by show 3 ≤ 1000; decide) (fun H' d s' e => kM H' d (by omega) s' ?_)⟩
      rw [← hlen]
      exact e
    have h1 : ¬ 12 < ds.length := fun q => h1 (decide_eq_true (by omega))
    refine ⟨_, rfl, rfl, _, rfl, ite2 (fun h2 => ?_) (fun h2 => ?_)⟩
    · have h2 : V.int ((xs.length : Nat) : Int) = V.int 0 := of_decide_eq_true h2
      injection h2 with h2
      exact err_made (Same.refl H) ⟨_, rfl⟩ (by show 1 ≤ 1000; decide) (fun H' d s' e => kB H' d 0 (res_none (by omega)) s' e)
    have h2 : 0 < ds.length := by
      have : ¬ ((xs.length : Nat) : Int) = 0 := fun q => h2 (decide_eq_true (congrArg V.int q))
      omega
    refine ⟨Nat.zero_le _, fun L hL => ?_⟩
    have s1 := Ask.Same.made1 (o := .lst []) (Same.refl H) hL
    have hL1 : upd H L (.lst []) L = some (.lst (xs.take 0)) := upd_same
    generalize upd H L (.lst []) = H1 at s1 hL1 ⊢
    obtain ⟨J, G, wk, hG, fits⟩ : ∃ (J : It) (G : Hp → Prop), Walk J xs.length G (YPair (fun i => some (.int (i : Nat))) (fun i => xs[i]?)) ∧ (∀ H', Same H H' → G H') ∧
        ∀ (R : It → Hp → Prop), R J H1 → iEnumA K (tCons (tVar 1) tNil) [some (.ref p), some (.ref a), some (.int (xs.length : Nat)), some (.ref L), none, none] H1 R := by
      rcases hS with hS | hS
      · exact ⟨Ite K a, _, walk_enum, fun H' s' => s'.seq hS, fun R r => ⟨_, rfl, a, xs, rfl, .inl ⟨s1.seq hS, r⟩⟩⟩
      · exact ⟨IteT K a, _, walk_enumT, fun H' s' => seqT_same s' hS, fun R r => ⟨_, rfl, a, xs, rfl, .inr ⟨seqT_same s1 hS, r⟩⟩⟩
    refine for_enum fits wk (fun i σ' H' => ∃ o4 o5 : Option V, σ' = [some (.ref p), some (.ref a), some (.int (xs.length : Nat)), some (.ref L), o4, o5] ∧ Same H H' ∧ H' L = some (.lst (xs.take i)) ∧ ∀ j < i, badAt ds j = false)
      ⟨none, none, rfl, s1, hL1, fun j hj => absurd hj (Nat.not_lt_zero _)⟩ (fun i σ' H' _ ⟨_, _, _, s', _⟩ => hG H' s') ?_ ?_
    · rintro i x σ' H2 H3 hi ⟨o4, o5, rfl, s2, hL2, hno⟩ ⟨t, x0, y0, rfl, ht, rfl, ex, ey⟩
      cases ex
      obtain ⟨v, d, hv, hd, hvd⟩ := hI.get i hi
      replace ey : xs[i]? = some y0 := ey
      obtain rfl : v = y0 := Option.some.inj (hv.symm.trans ey)
      clear ey
      have s3 := Ask.Same.made1 (o := .tup [.int (i : Nat), v]) s2 ht
      have hL3 : upd H2 t (.tup [.int (i : Nat), v]) L = some (.lst (xs.take i)) := by rw [upd_ne (ne_of_none hL2 ht)]; exact hL2
      have ht3 : upd H2 t (.tup [.int (i : Nat), v]) t = some (.tup [.int (i : Nat), v]) := upd_same
      generalize upd H2 t (.tup [.int (i : Nat), v]) = H4 at s3 hL3 ht3 ⊢
      have e0 : badAt ds i = (!isL d || (ds.take i).any fun z => PyData.eqv z d) := by
        unfold badAt
        rw [hd]
      have bad : ∀ H5, Same H H5 → badAt ds i = true → tMkO CB (spErr CB okBad fsBad) [] (tCons (tVar 4) tNil) [some (.ref p), some (.ref a), some (.int (xs.length : Nat)), some (.ref L), some (.int (i : Nat)), some v] H5 fun cls d H' => E cls d H' := fun H5 s5 q =>
        ⟨_, rfl, err_made s5 ⟨_, rfl⟩ (by show 1 ≤ 1000; decide) (fun H' d s' e => kB H' d i (res_at h1 (by omega) q hno) s' e)⟩
      refine ⟨t, _, rfl, SqT.of ht3, rfl, _, _, rfl, _, _, rfl, rfl, ?_⟩
      have hvd4 := hvd.same s3
      refine ⟨_, rfl, v, d, rfl, hvd4.dp, hvd4.itm, fun H5 s5 => ⟨_, rfl, ?_⟩⟩
      have s35 := s3.trans s5
      have hL5 := s5 _ _ hL3
      refine ite2 (fun q => ?_) (fun q => ?_)
      · exact iteT (bad H5 s35 (by rw [e0]; have q : (!isL d) = true := q; rw [q]; rfl))
      · have q : (!isL d) = false := (Bool.not_eq_true _).mp q
        have hT := (hI.mp fun v d h => h.same s35).take i
        refine ⟨_, rfl, _, rfl, d, ds.take i, (hvd.same s35).dp, .lst (SqL.of hL5) hT.dp, (itm_fit hvd.itm).shaped, hT.fit.shapedL, _, rfl, ?_⟩
        have e1 : badAt ds i = (ds.take i).any fun z => PyData.eqv z d := by rw [e0, q, Bool.false_or]
        refine ite2 (fun q => bad H5 s35 (by rw [e1]; exact q)) (fun q => ?_)
        have q : badAt ds i = false := by rw [e1]; exact (Bool.not_eq_true _).mp q
        refine ⟨_, rfl, .inl ⟨rfl, _, SqL.of hL5⟩, _, rfl, L, _, _, rfl, rfl, hL5, ?_, ?_⟩
        · rw [List.length_take]
          omega
        · refine ⟨_, _, rfl, Ask.Same.upd_new s35 hL, ?_, fun j hj => ?_⟩
          · rw [upd_same, List.take_add_one, hv]
            rfl
          · rcases Nat.lt_succ_iff_lt_or_eq.mp hj with hj | rfl
            · exact hno j hj
            · exact q
    · rintro σ' H2 ⟨o4, o5, rfl, s2, hL2, hno⟩
      rw [List.take_length] at hL2
      refine ⟨_, rfl, L, xs, rfl, SqL.of hL2, fun t ob ht hob => ?_⟩
      have npt : p ≠ t := ne_of_none (s2 _ _ hp) ht
      refine ⟨_, rfl, p, CL, dx, [], rfl, (by rw [upd_ne npt]; exact s2 _ _ hp), hC, hA, (by show 0 < 1000; decide), ?_⟩
      refine kQ _ t ob (res_good h1 h2 (by rw [← hlen]; exact hno)) hob upd_same (by rw [upd_ne npt.symm]; exact upd_same) fun b o hb e => ?_
      have e' := s2 _ _ e
      rw [upd_ne hb, upd_ne (ne_of_none e' ht)]
      exact e'
end
end Ask

/-! a loop over a list or a tuple, a pair that is a list or a tuple -/
namespace Ask
open PySem L2 PySem.Spec PyProof.Rows
theorem pg_or {X : Cx} {tg : Expr} {g1 g2 : TG} (h1 : PG X tg g1) (h2 : PG X tg g2) : PG X tg (fun v σ H Q => g1 v σ H Q ∨ g2 v σ H Q) :=
  ⟨fun pins s σ H v u Q I r h => h.elim (h1.run pins s σ H v u Q I r) (h2.run pins s σ H v u Q I r)⟩
theorem pi_or {X : Cx} {tg e : Expr} {w1 w2 : TI} (h1 : PI X tg e w1) (h2 : PI X tg e w2) : PI X tg e (fun σ H R => w1 σ H R ∨ w2 σ H R) :=
  ⟨fun pins s σ H R I h => h.elim (h1.run pins s σ H R I) (h2.run pins s σ H R I)⟩
end Ask

namespace Ask
open PySem L2
/-! ### runs, joined: the mirror -/
abbrev Run := Str × Int
def jstep (st : List Run × Option Run) (r : Run) : List Run × Option Run := match st.2 with
  | some l => if l.1 = r.1 then (st.1, some (l.1, l.2 + r.2)) else (st.1 ++ [l], some r)
  | none => (st.1, some r)
def jrun (rs : List Run) : List Run × Option Run := rs.foldl jstep ([], none)
def joinR (rs : List Run) : List Run := (jrun rs).1 ++ (jrun rs).2.toList
theorem jstep_eq {st1 : List Run} {l r : Run} (e : l.1 = r.1) : jstep (st1, some l) r = (st1, some (l.1, l.2 + r.2)) := if_pos e
theorem jstep_ne {st1 : List Run} {l r : Run} (e : ¬ l.1 = r.1) : jstep (st1, some l) r = (st1 ++ [l], some r) := if_neg e
theorem jrun_more {rs : List Run} {i : Nat} {r : Run} (h : rs[i]? = some r) : jrun (rs.take (i + 1)) = jstep (jrun (rs.take i)) r := by
  unfold jrun
  rw [List.take_add_one, h, List.foldl_append]
  rfl
theorem jrun_len (rs : List Run) : (jrun rs).1.length ≤ rs.length := by
  have : ∀ (rs : List Run) (st : List Run × Option Run), (rs.foldl jstep st).1.length ≤ st.1.length + rs.length := by
    intro rs
    induction rs with
    | nil => intro st; simp
    | cons r rs ih =>
      intro st
      rw [List.foldl_cons]
      refine Nat.le_trans (ih _) ?_
      have : (jstep st r).1.length ≤ st.1.length + 1 := by
        unfold jstep
        split
        · split
          · exact Nat.le_succ _
          · rw [List.length_append]; exact Nat.le_refl _
        · exact Nat.le_succ _
      rw [List.length_cons]
      omega
  have := this rs ([], none)
  simpa [jrun] using this
/-- a run as a value: a list or a tuple of a text and a number -/
def RunV (K : PySem.W.Frag) (H : Hp) (v : V) (r : Run) : Prop := ∃ b, v = .ref b ∧ (SqL K H b [.str r.1, .int r.2] ∨ SqT K H b [.str r.1, .int r.2])
def RunsV (K : PySem.W.Frag) (H : Hp) (xs : List V) (rs : List Run) : Prop := xs.length = rs.length ∧ ∀ (i : Nat) (v : V) (r : Run), xs[i]? = some v → rs[i]? = some r → RunV K H v r
/-- made pairs -/
def PairsV (H : Hp) (xs : List V) (rs : List Run) : Prop := xs.length = rs.length ∧ ∀ (i : Nat) (v : V) (r : Run), xs[i]? = some v → rs[i]? = some r → ∃ b, v = .ref b ∧ H b = some (.tup [.str r.1, .int r.2])
theorem RunV.same {K : PySem.W.Frag} {H H' : Hp} {v : V} {r : Run} (h : RunV K H v r) (s : Same H H') : RunV K H' v r := by
  obtain ⟨b, e, h | h⟩ := h
  · exact ⟨b, e, .inl (s.seq h)⟩
  · exact ⟨b, e, .inr (seqT_same s h)⟩
theorem PairsV.same {H H' : Hp} {xs : List V} {rs : List Run} (h : PairsV H xs rs) (s : Same H H') : PairsV H' xs rs :=
  ⟨h.1, fun i v r h1 h2 => let ⟨b, e, h3⟩ := h.2 i v r h1 h2; ⟨b, e, s _ _ h3⟩⟩
theorem PairsV.nil {H : Hp} : PairsV H [] [] := ⟨rfl, fun i v r h _ => by simp at h⟩
theorem PairsV.app {H : Hp} {xs : List V} {rs : List Run} {b : Addr} {r : Run} (h : PairsV H xs rs) (hb : H b = some (.tup [.str r.1, .int r.2])) : PairsV H (xs ++ [.ref b]) (rs ++ [r]) := by
  refine ⟨by rw [List.length_append, List.length_append, h.1]; rfl, fun i v r' h1 h2 => ?_⟩
  by_cases hi : i < xs.length
  · rw [List.getElem?_append_left hi] at h1
    rw [List.getElem?_append_left (by rw [← h.1]; exact hi)] at h2
    exact h.2 i v r' h1 h2
  · rw [List.getElem?_append_right (by omega)] at h1
    rw [List.getElem?_append_right (by rw [← h.1]; omega), ← h.1] at h2
    have e : i - xs.length = 0 := by
      have := (List.getElem?_eq_some_iff.mp h1).1
      have : i - xs.length < 1 := this
      omega
    rw [e] at h1 h2
    cases h1
    cases h2
    exact ⟨b, rfl, hb⟩
/-- PairsV stands where only what is no pair of it is written -/
theorem PairsV.mut {H : Hp} {xs ys : List V} {rs : List Run} {L : Addr} {o : HO} (h : PairsV H xs rs) (hL : H L = some (.lst ys)) : PairsV (upd H L o) xs rs :=
  ⟨h.1, fun i v r h1 h2 => let ⟨b, e, h3⟩ := h.2 i v r h1 h2; ⟨b, e, by rw [upd_ne (ne_of h3 hL (by intro z; cases z))]; exact h3⟩⟩
theorem for_any {wi : TI} {g : TG} {tb u : TS} {D : Ends} {σ : L2.St} {H : Hp} {J : It} {n : Nat} {G : Hp → Prop} {Y : Nat → Hp → V → Hp → Prop} (f : ∀ R : It → Hp → Prop, R J H → wi σ H R)
    (wk : Walk J n G Y) (Pv : Nat → L2.St → Hp → Prop) (h0 : Pv 0 σ H) (hG : ∀ i σ H, i ≤ n → Pv i σ H → G H)
    (hs : ∀ i x σ H H', i < n → Pv i σ H → Y i H x H' → g x σ H' fun σ2 H2 => tb { D with nx := Pv (i + 1), ct := Pv (i + 1), bk := u D } σ2 H2) (hd : ∀ σ H, Pv n σ H → u D σ H) :
    tSeq (tFor wi g tb) u D σ H := by
  delta tSeq tFor
  exact f _ (for_it (D := { D with nx := u D }) wk Pv h0 hG hs hd)
def lastV : Option Run → V
  | some r => .str r.1
  | none => .non
def totV : Option Run → V
  | some r => .int r.2
  | none => .int 0
section
variable {P : Program} {w : World} {K : PySem.W.Frag} {mg : Str → Option Value} {base : Heap}
def spJoined (K : PySem.W.Frag) : Sp := fun vs H Q _ => ∃ (a : Addr) (xs : List V) (rs : List Run), vs = [.ref a] ∧ (SqL K H a xs ∨ SqT K H a xs) ∧ RunsV K H xs rs ∧ rs.length ≤ 10000 ∧
  ∀ (H' : Hp) (t : Addr) (ks : List V), Same H H' → H' t = some (.tup ks) → PairsV H' ks (joinR rs) → Q (.ref t) H'
abbrev s_joined : Stmt := top 34
theorem sc_joined : FnScope ["runs", "kept", "last", "total", "letter", "count"] ["runs"] (defScope s_joined) := ⟨rfl, rfl, rfl, by decide +kernel, rfl, by decide +kernel, by decide +kernel⟩
theorem ok_joined {f : Addr} {fd : FuncData} (F : Fun K "joined" "joined" s_joined f fd) (T : Blt mg) : FnOk P w K mg base CX0 1 f fd ["runs"] (spJoined K) := by
  refine F.ok sc_joined (fun vs H Q E h => ?_) (fun cdv A outer s H vs Q E hr h => ?_)
  · obtain ⟨a, xs, rs, rfl, _⟩ := h
    rfl
  · obtain ⟨a, xs, rs, rfl, hS, hR, hn, k⟩ := h
    refine ⟨_, (pss_cons (ps_set (i := 1) sc_joined.nd rfl (Or.inl rfl) (pe_lst pa_nil))
      (pss_cons (ps_asg (pe_tup (pa_cons pe_non (pa_cons pe_int pa_nil))) (pg_tup rfl (pgs_cons (pg_name (i := 2) sc_joined.nd rfl (Or.inl rfl)) (pgs_cons (pg_name (i := 3) sc_joined.nd rfl (Or.inl rfl)) pgs_nil))))
      (pss_cons (ps_for PassesOwn.never rfl (pi_or (pi_list (pv 0)) (pi_tup (pv 0))) (pg_or (pg_tup rfl (pgs_cons (pg_name (i := 4) sc_joined.nd rfl (Or.inl rfl)) (pgs_cons (pg_name (i := 5) sc_joined.nd rfl (Or.inl rfl)) pgs_nil))) (pg_lst rfl (pgs_cons (pg_name (i := 4) sc_joined.nd rfl (Or.inl rfl)) (pgs_cons (pg_name (i := 5) sc_joined.nd rfl (Or.inl rfl)) pgs_nil)))) (pss_one (ps_if (pt_cmpR op_eq (pv 4) (pv 2) (nomark _)) (pss_one (ps_set (i := 3) sc_joined.nd rfl (Or.inl rfl) (pe_op op_add (pv 3) (pv 5)))) (pss_cons (ps_if (pt_cmpR op_notN (pv 2) pe_non (nomark _)) (pss_one (ps_expr (pe_bm PySem.F.plainAttrs_list PySem.F.slot_list_append PySem.F.type_list_append mt_append (pv 1) (pa_cons (pe_tup (pa_cons (pv 2) (pa_cons (pv 3) pa_nil))) pa_nil)))) pss_nil)
      (pss_one (ps_par (i := 2) (j := 3) rfl sc_joined.nd rfl rfl (by decide) rfl rfl (pa_cons (pv 4) (pa_cons (pv 5) pa_nil)) (by rfl)))))))
      (pss_cons (ps_if (pt_cmpR op_notN (pv 2) pe_non (nomark _)) (pss_one (ps_expr (pe_bm PySem.F.plainAttrs_list PySem.F.slot_list_append PySem.F.type_list_append mt_append (pv 1) (pa_cons (pe_tup (pa_cons (pv 2) (pa_cons (pv 3) pa_nil))) pa_nil)))) pss_nil)
      (pss_one (ps_ret (pe_callTy call_tuple_of (by rfl) T.n_tuple (by decide +kernel) (pa_cons (pv 1) pa_nil)))))))), ?_⟩
    have z1 : (100000 : Nat) ≤ sizeLine := by decide
    -- kept, last, total
    refine ⟨Nat.zero_le _, fun L hL => ?_⟩
    have s1 := Ask.Same.made1 (o := .lst []) (Same.refl H) hL
    have hL1 : upd H L (.lst []) L = some (.lst []) := upd_same
    generalize upd H L (.lst []) = H1 at s1 hL1 ⊢
    refine ⟨by show 2 ≤ sizeLine; decide, fun t ht => ⟨t, _, rfl, SqT.of upd_same, rfl, _, _, rfl, _, _, rfl, rfl, ?_⟩⟩
    have s2 := Ask.Same.made1 (o := .tup [.non, .int 0]) s1 ht
    have hL2 : upd H1 t (.tup [.non, .int 0]) L = some (.lst []) := by rw [upd_ne (ne_of_none hL1 ht)]; exact hL1
    generalize upd H1 t (.tup [.non, .int 0]) = H2 at s2 hL2 ⊢
    clear hL1 s1 ht
    -- the loop
    obtain ⟨J, G, wk, hG, fits⟩ : ∃ (J : It) (G : Hp → Prop), Walk J xs.length G (YAt xs) ∧ (∀ H', Same H H' → G H') ∧
        ∀ (R : It → Hp → Prop), R J H2 → (iList K (tVar 0) [some (.ref a), some (.ref L), some .non, some (.int 0), none, none] H2 R ∨ iTup K (tVar 0) [some (.ref a), some (.ref L), some .non, some (.int 0), none, none] H2 R) := by
      rcases hS with hS | hS
      · exact ⟨Itl K a, _, walk_list, fun H' s' => s'.seq hS, fun R r => .inl ⟨_, rfl, a, rfl, ⟨_, s2.seq hS⟩, r⟩⟩
      · exact ⟨Itt K a, _, walk_tup, fun H' s' => seqT_same s' hS, fun R r => .inr ⟨_, rfl, a, rfl, ⟨_, seqT_same s2 hS⟩, r⟩⟩
    try dsimp only
    refine for_any fits wk (fun i σ' H' => ∃ o4 o5 : Option V, σ' = [some (.ref a), some (.ref L), some (lastV (jrun (rs.take i)).2), some (totV (jrun (rs.take i)).2), o4, o5] ∧ Same H H' ∧ ∃ ks, H' L = some (.lst ks) ∧ PairsV H' ks (jrun (rs.take i)).1)
      ⟨none, none, rfl, s2, [], hL2, PairsV.nil⟩ (fun i σ' H' _ ⟨_, _, _, s', _⟩ => hG H' s') ?_ ?_
    · rintro i v σ' H3 H4 hi ⟨o4, o5, rfl, s3, ks, hL3, hk⟩ ⟨rfl, hv⟩
      obtain ⟨r, hri⟩ : ∃ r, rs[i]? = some r := ⟨_, List.getElem?_eq_getElem (by rw [← hR.1]; exact hi)⟩
      have step := jrun_more hri
      have hkl : ks.length ≤ 10000 := by
        have e1 := hk.1
        have e2 := jrun_len (rs.take i)
        rw [List.length_take] at e2
        omega
      obtain ⟨b, rfl, hb⟩ := (hR.2 i v _ hv hri).same s3
      generalize jrun (rs.take i) = st at step hk ⊢
      obtain ⟨st1, st2⟩ := st
      rcases hb with hb | hb
      all_goals
        first
          | refine .inr ⟨b, _, rfl, hb, rfl, _, _, rfl, _, _, rfl, rfl, ?_⟩
          | refine .inl ⟨b, _, rfl, hb, rfl, _, _, rfl, _, _, rfl, rfl, ?_⟩
        rcases st2 with _ | l
        · refine ⟨_, rfl, _, rfl, rfl, _, rfl, ?_⟩
          rw [decide_eq_false (show ¬ V.str r.1 = lastV none from fun z => by cases z)]
          refine iteF ?_
          refine ⟨_, rfl, rfl, _, rfl, ?_⟩
          rw [decide_eq_true (show lastV none = V.non from rfl)]
          refine iteF ?_
          refine ⟨_, rfl, _, rfl, _, _, rfl, some (.str r.1), some (.int r.2), ?_, s3, ks, hL3, ?_⟩
          · rw [step]
            rfl
          · rw [step]
            exact hk
        · refine ⟨_, rfl, _, rfl, rfl, _, rfl, ?_⟩
          by_cases e : l.1 = r.1
          · rw [decide_eq_true (show V.str r.1 = lastV (some l) from congrArg V.str e.symm)]
            refine iteT ?_
            refine ⟨_, rfl, _, rfl, _, _, rfl, rfl, some (.str r.1), some (.int r.2), ?_, s3, ks, hL3, ?_⟩
            · rw [step, jstep_eq e]
              rfl
            · rw [step, jstep_eq e]
              exact hk
          · rw [decide_eq_false (show ¬ V.str r.1 = lastV (some l) from fun z => e (V.str.inj z).symm)]
            refine iteF ?_
            refine ⟨_, rfl, rfl, _, rfl, ?_⟩
            rw [decide_eq_false (show ¬ lastV (some l) = V.non from fun z => by cases z)]
            refine iteT ?_
            refine ⟨_, rfl, .inl ⟨rfl, _, SqL.of hL3⟩, _, rfl, _, rfl, by show 2 ≤ sizeLine; decide, fun b2 hb2 => ?_⟩
            have hL4 : upd H4 b2 (.tup [.str l.1, .int l.2]) L = some (.lst ks) := by rw [upd_ne (ne_of_none hL3 hb2)]; exact hL3
            have s4 := Ask.Same.made1 (o := .tup [.str l.1, .int l.2]) s3 hb2
            have k4 := hk.same (Ask.Same.made1 (o := .tup [.str l.1, .int l.2]) (Same.refl H4) hb2)
            have hb4 : upd H4 b2 (.tup [.str l.1, .int l.2]) b2 = some (.tup [.str l.1, .int l.2]) := upd_same
            refine ⟨L, _, _, rfl, rfl, hL4, by omega, ?_⟩
            refine ⟨_, rfl, _, rfl, _, _, rfl, some (.str r.1), some (.int r.2), ?_, Ask.Same.upd_new s4 hL, _, upd_same, ?_⟩
            · rw [step, jstep_ne e]
              rfl
            · rw [step, jstep_ne e]
              exact (k4.app (b := b2) (r := l) hb4).mut hL4
    · rintro σ' H3 ⟨o4, o5, rfl, s3, ks, hL3, hk⟩
      rw [hR.1, List.take_length] at hk ⊢
      have hkl : ks.length ≤ 10000 := by
        have e1 := hk.1
        have e2 := jrun_len rs
        omega
      have ej : joinR rs = (jrun rs).1 ++ (jrun rs).2.toList := rfl
      generalize jrun rs = st at hk ej ⊢
      obtain ⟨st1, st2⟩ := st
      have fin : ∀ (H4 : Hp) (kt : List V), Same H H4 → H4 L = some (.lst kt) → PairsV H4 kt (joinR rs) → tRet (tCB (fun xs H Q => ∃ p ys, xs = [.ref p] ∧ ((SqL K H p ys ∧ ∀ l, H l = none → Q (.ref l) (upd H l (.tup ys))) ∨ (SqT K H p ys ∧ Q (.ref p) H))) (tCons (tVar 1) tNil)) { nx := fun _ H' => Q .non H', rt := Q } [some (.ref a), some (.ref L), some (lastV st2), some (totV st2), o4, o5] H4 :=
        fun H4 kt s4 h4 k4 => ⟨_, rfl, L, kt, rfl, .inl ⟨SqL.of h4, fun t2 ht2 => k _ t2 kt (Ask.Same.made1 s4 ht2) upd_same (k4.same (Ask.Same.made1 (Same.refl H4) ht2))⟩⟩
      rcases st2 with _ | l
      · refine ⟨_, rfl, rfl, _, rfl, ?_⟩
        rw [decide_eq_true (show lastV none = V.non from rfl)]
        refine iteF (fin H3 ks s3 hL3 ?_)
        rw [ej]
        simpa using hk
      · refine ⟨_, rfl, rfl, _, rfl, ?_⟩
        rw [decide_eq_false (show ¬ lastV (some l) = V.non from fun z => by cases z)]
        refine iteT ?_
        refine ⟨_, rfl, .inl ⟨rfl, _, SqL.of hL3⟩, _, rfl, _, rfl, by show 2 ≤ sizeLine; decide, fun b2 hb2 => ?_⟩
        have hL4 : upd H3 b2 (.tup [.str l.1, .int l.2]) L = some (.lst ks) := by rw [upd_ne (ne_of_none hL3 hb2)]; exact hL3
        have s4 := Ask.Same.made1 (o := .tup [.str l.1, .int l.2]) s3 hb2
        have k4 := hk.same (Ask.Same.made1 (o := .tup [.str l.1, .int l.2]) (Same.refl H3) hb2)
        have hb4 : upd H3 b2 (.tup [.str l.1, .int l.2]) b2 = some (.tup [.str l.1, .int l.2]) := upd_same
        refine ⟨L, _, _, rfl, rfl, hL4, by omega, ?_⟩
        refine fin _ _ (Ask.Same.upd_new s4 hL) upd_same ?_
        rw [ej]
        exact (k4.app (b := b2) (r := l) hb4).mut hL4
end
end Ask

namespace Ask
open PySem L2
theorem RunsV.same {K : PySem.W.Frag} {H H' : Hp} {xs : List V} {rs : List Run} (h : RunsV K H xs rs) (s : Same H H') : RunsV K H' xs rs := ⟨h.1, fun i v r h1 h2 => (h.2 i v r h1 h2).same s⟩
theorem PairsV.runs {K : PySem.W.Frag} {H : Hp} {xs : List V} {rs : List Run} (h : PairsV H xs rs) : RunsV K H xs rs := ⟨h.1, fun i v r h1 h2 => let ⟨b, e, h3⟩ := h.2 i v r h1 h2; ⟨b, e, .inr (SqT.of h3)⟩⟩
/-- how many letters runs tell -/
def sizeR (rs : List Run) : Int := (rs.map (·.2)).sum
theorem ret_cb {r : List V → Hp → VK → Prop} {t : TE} {D : Ends} {σ : L2.St} {H : Hp} (h : t σ H fun x H1 => r [x] H1 D.rt) : tRet (tCB r (tCons t tNil)) D σ H := h
theorem lc_any {wi : TI} {g : TG} {tt : TT} {te : TE} {vs : List Nat} {σ : L2.St} {H : Hp} {Q : VK} {J : It} {n : Nat} {G : Hp → Prop} {Y : Nat → Hp → V → Hp → Prop} (f : ∀ R : It → Hp → Prop, R J H → wi σ H R) (wk : Walk J n G Y)
    (h : ∀ D, H D = none → ∃ Pv : Nat → Hp → Prop, Pv 0 (upd H D (.lst [])) ∧ (∀ i H, i ≤ n → Pv i H → G H) ∧
      (∀ i x H H', i < n → Pv i H → Y i H x H' → g x (wipe σ vs) H' fun σ2 H2 => wipe σ2 vs = wipe σ vs ∧ tt σ2 H2 fun b H3 =>
        if b = true then te σ2 H3 fun y H4 => ∃ acc, H4 D = some (.lst acc) ∧ acc.length < sizeLine ∧ Pv (i + 1) (upd H4 D (.lst (acc ++ [y]))) else Pv (i + 1) H3) ∧ (∀ H, Pv n H → Q (.ref D) H)) :
    tLc wi g tt te vs σ H Q := by
  delta tLc
  exact f _ fun D hD => let ⟨Pv, h0, hG, hs, hd⟩ := h D hD; lc_it wk Pv h0 hG hs hd
section
variable {P : Program} {w : World} {K : PySem.W.Frag} {mg : Str → Option Value} {base : Heap}
def spSize (K : PySem.W.Frag) : Sp := fun vs H Q _ => ∃ (a : Addr) (xs : List V) (rs : List Run), vs = [.ref a] ∧ (SqL K H a xs ∨ SqT K H a xs) ∧ RunsV K H xs rs ∧ rs.length ≤ 10000 ∧ ∀ H', Same H H' → Q (.int (sizeR rs)) H'
abbrev s_size_of : Stmt := top 37
theorem sc_size_of : FnScope ["runs", "letter", "count"] ["runs"] (defScope s_size_of) := ⟨rfl, rfl, rfl, by decide +kernel, rfl, by decide +kernel, by decide +kernel⟩
theorem ok_size {f : Addr} {fd : FuncData} (F : Fun K "size_of" "size_of" s_size_of f fd) (nS : mg "sum" = none) : FnOk P w K mg base CX0 1 f fd ["runs"] (spSize K) := by
  refine F.ok sc_size_of (fun vs H Q E h => ?_) (fun cdv A outer s H vs Q E hr h => ?_)
  · obtain ⟨a, xs, rs, rfl, _⟩ := h
    rfl
  · obtain ⟨a, xs, rs, rfl, hS, hR, hn, k⟩ := h
    refine ⟨_, (pss_one (ps_ret (pe_callB (cr_sum rfl) (by rfl) nS (by decide +kernel) (pa_cons (pe_lc (own := [("letter", 1), ("count", 2)]) rfl sc_size_of.nd (pi_or (pi_list (pv 0)) (pi_tup (pv 0))) (blkOk_by (N := ["runs", "letter", "count"]) (sc := defScope s_size_of) (by decide +kernel)) (fun _ _ _ _ _ => (pg_or (show PG _ _ (gTup K 2 _) from pg_tup rfl (pgs_cons (pg_name (i := 1) sc_size_of.nd rfl (Or.inl rfl)) (pgs_cons (pg_name (i := 2) sc_size_of.nd rfl (Or.inl rfl)) pgs_nil))) (show PG _ _ (gLst K 2 _) from pg_lst rfl (pgs_cons (pg_name (i := 1) sc_size_of.nd rfl (Or.inl rfl)) (pgs_cons (pg_name (i := 2) sc_size_of.nd rfl (Or.inl rfl)) pgs_nil))))) (fun _ _ _ _ _ => pts_nil) (fun _ _ _ _ _ => (pv 2))) pa_nil)))), ?_⟩
    have z1 : (100000 : Nat) ≤ sizeLine := by decide
    obtain ⟨J, G, wk, hG, fits⟩ : ∃ (J : It) (G : Hp → Prop), Walk J xs.length G (YAt xs) ∧ (∀ H', Same H H' → G H') ∧
        ∀ (R : It → Hp → Prop), R J H → (iList K (tVar 0) [some (.ref a), none, none] H R ∨ iTup K (tVar 0) [some (.ref a), none, none] H R) := by
      rcases hS with hS | hS
      · exact ⟨Itl K a, _, walk_list, fun H' s' => s'.seq hS, fun R r => .inl ⟨_, rfl, a, rfl, ⟨_, hS⟩, r⟩⟩
      · exact ⟨Itt K a, _, walk_tup, fun H' s' => seqT_same s' hS, fun R r => .inr ⟨_, rfl, a, rfl, ⟨_, hS⟩, r⟩⟩
    refine ret_cb ?_
    refine lc_any (wi := fun σ H R => iList K (tVar 0) σ H R ∨ iTup K (tVar 0) σ H R) fits wk fun L hL => ⟨fun i H' => Same H H' ∧ H' L = some (.lst (((rs.take i).map (·.2)).map V.int)), ⟨Ask.Same.upd_new (Same.refl _) hL, upd_same⟩, fun i H' _ hh => hG H' hh.1, ?_, ?_⟩
    · rintro i v H3 H4 hi ⟨s3, hL3⟩ ⟨rfl, hv⟩
      obtain ⟨r, hri⟩ : ∃ r, rs[i]? = some r := ⟨_, List.getElem?_eq_getElem (by rw [← hR.1]; exact hi)⟩
      obtain ⟨b, rfl, hb⟩ := (hR.2 i v _ hv hri).same s3
      have go : ∀ (o : Option V), ∃ acc, H4 L = some (.lst acc) ∧ acc.length < sizeLine ∧ (Same H (upd H4 L (.lst (acc ++ [.int r.2]))) ∧ upd H4 L (.lst (acc ++ [.int r.2])) L = some (.lst (((rs.take (i + 1)).map (·.2)).map V.int))) := fun _ => by
        refine ⟨_, hL3, ?_, Ask.Same.upd_new s3 hL, ?_⟩
        · rw [List.length_map, List.length_map, List.length_take]
          omega
        · rw [upd_same, List.take_add_one, hri]
          simp only [Option.toList_some, List.map_append, List.map_cons, List.map_nil]
      rcases hb with hb | hb
      · exact .inr ⟨b, _, rfl, hb, rfl, _, _, rfl, _, _, rfl, rfl, rfl, _, rfl, go none⟩
      · exact .inl ⟨b, _, rfl, hb, rfl, _, _, rfl, _, _, rfl, rfl, rfl, _, rfl, go none⟩
    · rintro H3 ⟨s3, hL3⟩
      rw [hR.1, List.take_length] at hL3
      exact ⟨L, _, rfl, SqL.of hL3, k H3 s3⟩
end
end Ask

namespace Ask
open PySem L2
section
variable {P : Program} {w : World} {K : PySem.W.Frag} {mg : Str → Option Value} {base : Heap}
/-! ### is_whole, of any value whose kind is known -/
def spWhole (K : PySem.W.Frag) : Sp := fun vs H Q _ => ∃ (v : V) (t : Value) (b c : Bool), vs = [v] ∧ TyX K H v t ∧ PySem.W.kitOne K t (.type "int") = some b ∧ PySem.W.kitOne K t (.type "bool") = some c ∧ Q (.bl (b && !c)) H
abbrev s_is_whole : Stmt := top 5
theorem sc_is_whole : FnScope ["value"] ["value"] (defScope s_is_whole) := ⟨rfl, rfl, rfl, by decide +kernel, rfl, by decide +kernel, by decide +kernel⟩
theorem ok_whole {f : Addr} {fd : FuncData} (F : Fun K "is_whole" "is_whole" s_is_whole f fd) (T : Blt mg) (nB : mg "bool" = none) : FnOk P w K mg base CX0 1 f fd ["value"] (spWhole K) := by
  refine F.ok sc_is_whole (fun vs H Q E h => ?_) (fun cdv A outer s H vs Q E hr h => ?_)
  · obtain ⟨v, t, b, c, rfl, _⟩ := h
    rfl
  · obtain ⟨v, t, b, c, rfl, ty, h1, h2, k⟩ := h
    refine ⟨_, (pss_one (ps_ret (pe_and (pe_callB call_isi (by rfl) T.n_isinstance (by decide +kernel) (pa_cons (pv 0) (pa_cons (pe_bltn (v := .ty "int") (u := .type "int") rfl T.n_int (by decide +kernel) rfl) pa_nil))) (pe_one (pe_not (pe_callB call_isi (by rfl) T.n_isinstance (by decide +kernel) (pa_cons (pv 0) (pa_cons (pe_bltn (v := .ty "bool") (u := .type "bool") rfl nB (by decide +kernel) rfl) pa_nil)))))))), ?_⟩
    refine ⟨_, rfl, v, _, t, _, b, rfl, .ty _, ty, h1, _, rfl, ite2 (fun h => ?_) (fun h => ?_)⟩
    · have h : b = true := h
      subst h
      exact ⟨_, rfl, v, _, t, _, c, rfl, .ty _, ty, h2, _, rfl, k⟩
    · have h : b = false := (Bool.not_eq_true _).mp h
      subst h
      exact k
/-! ### is_list_of -/
def spListOf (K : PySem.W.Frag) : Sp := fun vs H Q _ => ∃ (v : V) (t : Value) (m : Int), vs = [v, .int m] ∧ TyX K H v t ∧
  ((PySem.W.kitAny K t [.type "list", .type "tuple"] = some false ∧ ∀ H', Same H H' → Q (.bl false) H') ∨
    (PySem.W.kitAny K t [.type "list", .type "tuple"] = some true ∧ ∃ (a : Addr) (xs : List V), v = .ref a ∧ (SqL K H a xs ∨ SqT K H a xs) ∧ ∀ H', Same H H' → Q (.bl (decide ((xs.length : Int) = m))) H'))
abbrev s_is_list_of : Stmt := top 7
theorem sc_is_list_of : FnScope ["value", "many"] ["value", "many"] (defScope s_is_list_of) := ⟨rfl, rfl, rfl, by decide +kernel, rfl, by decide +kernel, by decide +kernel⟩
theorem tyx_same {H H' : Hp} {v : V} {t : Value} (h : TyX K H v t) (s : Same H H') : TyX K H' v t := by
  cases h with
  | base b =>
    cases b with
    | non => exact .base .non
    | bl y => exact .base (.bl y)
    | int i => exact .base (.int i)
    | str y => exact .base (.str y)
    | flt y => exact .base (.flt y)
    | lst e => exact .base (.lst (s _ _ e))
    | frz e => exact .base (.frz (s _ _ e))
    | tup e => exact .base (.tup (s _ _ e))
    | dK e => exact .base (.dK (s _ _ e))
    | dT e => exact .base (.dT (s _ _ e))
    | ins e cl ha hn ht hm => exact .base (.ins (s _ _ e) cl ha hn ht hm)
  | byt b => exact .byt b
  | set e => exact .set (s _ _ e)
  | kList e c => exact .kList e c
  | kTuple e c => exact .kTuple e c
  | kDict e c => exact .kDict e c
  | fTuple e => exact .fTuple (s _ _ e)
  | fDict e => exact .fDict (s _ _ e)
theorem ok_listOf {f : Addr} {fd : FuncData} (F : Fun K "is_list_of" "is_list_of" s_is_list_of f fd) (T : Blt mg) : FnOk P w K mg base CX0 1 f fd ["value", "many"] (spListOf K) := by
  refine F.ok sc_is_list_of (fun vs H Q E h => ?_) (fun cdv A outer s H vs Q E hr h => ?_)
  · obtain ⟨v, t, m, rfl, _⟩ := h
    rfl
  · obtain ⟨v, t, m, rfl, ty, h⟩ := h
    refine ⟨_, (pss_one (ps_ret (pe_and (pe_callB call_isiT (by rfl) T.n_isinstance (by decide +kernel) (pa_cons (pv 0) (pa_cons (pe_tup (pa_cons (pe_bltn (v := .ty "list") (u := .type "list") rfl T.n_list (by decide +kernel) rfl) (pa_cons (pe_bltn (v := .ty "tuple") (u := .type "tuple") rfl T.n_tuple (by decide +kernel) rfl) pa_nil))) pa_nil))) (pe_one (pe_cmpR op_eq (pe_callB call_len_seq (by rfl) T.n_len (by decide +kernel) (pa_cons (pv 0) pa_nil)) (pv 1) (nomark _)))))), ?_⟩
    refine ⟨_, rfl, by show 2 ≤ sizeLine; decide, fun q hq => ?_⟩
    have s1 := Ask.Same.made1 (o := .tup [.ty "list", .ty "tuple"]) (Same.refl H) hq
    have hq1 : upd H q (.tup [.ty "list", .ty "tuple"]) q = some (.tup [.ty "list", .ty "tuple"]) := upd_same
    generalize upd H q (.tup [.ty "list", .ty "tuple"]) = H1 at s1 hq1 ⊢
    rcases h with ⟨ka, k⟩ | ⟨ka, a, xs, rfl, hS, k⟩
    · refine ⟨v, q, _, t, _, false, rfl, hq1, .cons (.ty _) (.cons (.ty _) .nil), tyx_same ty s1, ka, _, rfl, ite2 (fun h => absurd h Bool.false_ne_true) (fun _ => k H1 s1)⟩
    · refine ⟨_, q, _, t, _, true, rfl, hq1, .cons (.ty _) (.cons (.ty _) .nil), tyx_same ty s1, ka, _, rfl, ite2 (fun _ => ?_) (fun h => absurd rfl h)⟩
      have hS1 : SqL K H1 a xs ∨ SqT K H1 a xs := by
        rcases hS with hS | hS
        · exact .inl (s1.seq hS)
        · exact .inr (seqT_same s1 hS)
      refine ⟨_, rfl, a, xs, rfl, hS1, _, rfl, rfl, ?_⟩
      have e : decide (V.int (xs.length : Int) = V.int m) = decide ((xs.length : Int) = m) := by
        by_cases h : (xs.length : Int) = m
        · rw [decide_eq_true h, decide_eq_true (congrArg V.int h)]
        · rw [decide_eq_false h, decide_eq_false (fun z => h (V.int.inj z))]
      have := k H1 s1
      rw [← e] at this
      exact this
end
end Ask

/-! an instance's own __contains__, __len__, __eq__, each by what its def promises -/
namespace Ask
open PySem L2 PySem.Spec PyProof.Rows
section
variable {X : Cx} {CX : CXT} {k : Nat} {C f : Addr} {fd : FuncData} {ps : List Str} {sp : Sp} {E : XK}
theorem run_at {A : Around} {pins : List (Addr × Obj)} {σ : L2.St} {H : Hp} {s : Shared} {Q : VK} {us : List Value} {vs : List V} (F : FnOk X.prog X.w X.K X.mg X.base CX k f fd ps sp) (hr : Room k A) (hfr : A.frames = X.A.frames) (hb : Binds X.K fd ps []) (hx : Passes CX X E)
    (I : Inv X pins σ H s) (r : Vals vs us) (h : sp vs H Q E) : wpAny (model X.prog X.w) A (call (.ref f) us) (EP X pins σ Q) X.xe s := by
  have hl : us.length = ps.length := by rw [← r.length]; exact F.len _ _ _ _ h
  have b := hb s us I.kIn (by rw [List.append_nil]; exact hl)
  rw [List.append_nil] at b
  have e0 : Env0 X.prog X.w X.K X.mg X.base A X.stack s H := by
    have e := I.env0
    exact ⟨by rw [hfr]; exact e.frames, e.mod, e.bs, e.bsz, e.funs, e.frf, e.hok, e.bare⟩
  refine wpAny_call (codeAny_mono (F.run A X.stack s H ⟨us, []⟩ us vs Q E hr e0 b r h) fun r s' hq => ?_)
  cases r with
  | error e => exact hx pins σ H s e s' I hq
  | ok fl =>
    cases fl with
    | ret u => exact I.after hq
    | next => exact False.elim hq
    | brk => exact False.elim hq
    | cont => exact False.elim hq
/-- x in y, y an instance of C -/
def rInI (C : Addr) (sp : Sp) (E : XK) (neg : Bool) : R2 := fun x y H Q => ∃ (a dx : Addr) (fs : List (Str × V)), y = .ref a ∧ H a = some (.ins C dx fs) ∧ sp [.ref a, x] H (fun v H' => ∃ b : Bool, v = .bl b ∧ Q (.bl (if neg then !b else b)) H') E
theorem op_inI (F : FnOk X.prog X.w X.K X.mg X.base CX k f fd ps sp) (hr : Room k X.A) (hb : Binds X.K fd ps []) (hx : Passes CX X E) (hs : PySem.W.findIn X.K (.ref C) "__contains__" = some (some (.ref f))) (hf : PySem.W.isFn X.K (.ref f) = true) :
    OpR X (compareOp .In) (rInI C sp E false) := by
  intro pins s σ H x y v u Q I rx ry h
  obtain ⟨a, dx, fs, rfl, ha, q⟩ := h
  cases ry
  obtain ⟨mA, J, _⟩ := ins_get I.hok ha
  obtain ⟨od, J, _⟩ := J.look
  obtain ⟨m, hF⟩ := I.fr
  refine PySem.W.in_K hF I.ok.mod.kin J hs hf (thn (run_at (vs := [.ref a, x]) F hr rfl hb hx I (.cons rfl (.cons rx .nil)) q) fun r s' ⟨z, H', I', rz, b, ez, q'⟩ => ?_)
  subst ez
  cases rz
  exact wpAny_truthy_bool ⟨.bl b, H', I', rfl, q'⟩
theorem op_notInI (F : FnOk X.prog X.w X.K X.mg X.base CX k f fd ps sp) (hr : Room k X.A) (hb : Binds X.K fd ps []) (hx : Passes CX X E) (hs : PySem.W.findIn X.K (.ref C) "__contains__" = some (some (.ref f))) (hf : PySem.W.isFn X.K (.ref f) = true) :
    OpR X (compareOp .NotIn) (rInI C sp E true) := by
  intro pins s σ H x y v u Q I rx ry h
  obtain ⟨a, dx, fs, rfl, ha, q⟩ := h
  cases ry
  obtain ⟨mA, J, _⟩ := ins_get I.hok ha
  obtain ⟨od, J, _⟩ := J.look
  obtain ⟨m, hF⟩ := I.fr
  refine PySem.W.notIn_K hF I.ok.mod.kin J hs hf (thn (run_at (vs := [.ref a, x]) F hr rfl hb hx I (.cons rfl (.cons rx .nil)) q) fun r s' ⟨z, H', I', rz, b, ez, q'⟩ => ?_)
  subst ez
  cases rz
  exact wpAny_truthy_bool ⟨.bl (!b), H', I', rfl, q'⟩
/-- len(x), x an instance of C -/
theorem call_lenI (F : FnOk X.prog X.w X.K X.mg X.base CX k f fd ps sp) (hr : Room (k + 1) X.A) (hb : Binds X.K fd ps []) (hx : Passes CX X E) (hs : PySem.W.findIn X.K (.ref C) "__len__" = some (some (.ref f))) (hf : PySem.W.isFn X.K (.ref f) = true) :
    CallR X (.builtin "len") (fun xs H Q => ∃ (a dx : Addr) (fs : List (Str × V)), xs = [.ref a] ∧ H a = some (.ins C dx fs) ∧ sp [.ref a] H (fun v H' => ∃ n : Nat, v = .int n ∧ n ≤ 16777216 ∧ Q (.int n) H') E) := by
  intro pins s σ H xs us Q I r h
  obtain ⟨a, dx, fs, rfl, ha, q⟩ := h
  obtain ⟨u, rfl, ra⟩ := vals1 r
  obtain rfl : u = Value.ref a := ra
  obtain ⟨mA, J, _⟩ := ins_get I.hok ha
  obtain ⟨od, J, _⟩ := J.look
  obtain ⟨m, hF⟩ := I.fr
  refine PySem.W.len_K hF I.ok.mod.kin J hs hf (thn (run_at (vs := [.ref a]) F hr.in1 rfl hb hx I (.cons rfl .nil) q) fun r s' ⟨z, H', I', rz, n, ez, hn, q'⟩ => ?_)
  subst ez
  obtain ⟨t, rfl⟩ := rz
  exact ⟨⟨by omega, by omega⟩, ⟨.int n, H', I'.tok _, ⟨_, rfl⟩, q'⟩⟩
/-- x == y, both instances of C -/
theorem op_eqI (F : FnOk X.prog X.w X.K X.mg X.base CX k f fd ps sp) (hr : Room k X.A) (hb : Binds X.K fd ps []) (hx : Passes CX X E) (hs : PySem.W.findIn X.K (.ref C) "__eq__" = some (some (.ref f))) (hf : PySem.W.isFn X.K (.ref f) = true) :
    OpR X (compareOp .Eq) (fun x y H Q => ∃ (a b dx dy : Addr) (fs gs : List (Str × V)), x = .ref a ∧ y = .ref b ∧ H a = some (.ins C dx fs) ∧ H b = some (.ins C dy gs) ∧ sp [.ref a, .ref b] H (fun v H' => ∃ c : Bool, v = .bl c ∧ Q (.bl c) H') E) := by
  intro pins s σ H x y v u Q I rx ry h
  obtain ⟨a, b, dx, dy, fs, gs, rfl, rfl, ha, hb', q⟩ := h
  cases rx
  cases ry
  obtain ⟨mA, J, _⟩ := ins_get I.hok ha
  obtain ⟨mB, J', _⟩ := ins_get I.hok hb'
  obtain ⟨od, J, _⟩ := J.look
  obtain ⟨od', J', _⟩ := J'.look
  obtain ⟨m, hF⟩ := I.fr
  show wpAny (model X.prog X.w) X.A (richCompare .Eq (.ref a) (.ref b)) (EP X pins σ Q) X.xe s
  refine PySem.W.cmp_K (op := .Eq) (tb := .ref C) hr.units0 hF I.ok.mod.kin J J'.type (by simp [PySem.W.notFirst]) hs hf (thn (run_at (vs := [.ref a, .ref b]) F hr rfl hb hx I (.cons rfl (.cons rfl .nil)) q) fun r s' ⟨z, H', I', rz, c, ez, q'⟩ => ?_)
  subst ez
  cases rz
  exact ⟨.bl c, H', I', rfl, q'⟩
/-- a class over object with its own __eq__ at f and no __ne__ -/
def OwnNe (K : PySem.W.Frag) (C f : Addr) : Prop :=
  ∃ (nm q : Str) (N : Addr) (bs : List Value) (hdct : Bool) (sn : List Str) (sub : List Value) (ab : Bool) (col : Option Bool) (dd : Option Addr) (k0 k1 k2 k3 k5 : Option Value) (newId : String) (oN : Obj) (es : Array DictEntry) (ep : Nat) (of : Obj),
    K.lookup C = some (excClassObj nm q C N bs [.type "object"] hdct sn sub ab col dd k0 k1 k2 k3 k5 newId) ∧ K.lookup N = some oN ∧ oN.data = .dict es ep ∧ StrKeys es ∧ nsFind es "__eq__" = some (.ref f) ∧ nsFind es "__ne__" = none ∧
    K.lookup f = some of ∧ of.cls = .type "function"
/-- x != y, both instances of C -/
theorem op_neI (F : FnOk X.prog X.w X.K X.mg X.base CX k f fd ps sp) (hr : Room (k + 1) X.A) (hb : Binds X.K fd ps []) (hx : Passes CX X E) (cl : OwnNe X.K C f) :
    OpR X (compareOp .NotEq) (fun x y H Q => ∃ (a b dx dy : Addr) (fs gs : List (Str × V)), x = .ref a ∧ y = .ref b ∧ H a = some (.ins C dx fs) ∧ H b = some (.ins C dy gs) ∧ sp [.ref a, .ref b] H (fun v H' => ∃ c : Bool, v = .bl c ∧ Q (.bl (!c)) H') E) := by
  intro pins s σ H x y v u Q I rx ry h
  obtain ⟨a, b, dx, dy, fs, gs, rfl, rfl, ha, hb', q⟩ := h
  cases rx
  cases ry
  obtain ⟨mA, J, _⟩ := ins_get I.hok ha
  obtain ⟨mB, J', _⟩ := ins_get I.hok hb'
  obtain ⟨od, J, _⟩ := J.look
  obtain ⟨od', J', _⟩ := J'.look
  obtain ⟨nm, qn, N, bs, hdct, sn, sub, ab, col, dd, k0, k1, k2, k3, k5, newId, oN, es, ep, of, lC, lN, dN, sk, fe, fn, lf, cf⟩ := cl
  have kin := I.kIn
  obtain ⟨hp, g, d, t, os⟩ := s
  have own : hp.OwnEqNoNe a C f "object" [.type "object"] :=
    ⟨_, of, nm, qn, N, bs, hdct, sn, sub, ab, col, dd, k0, k1, k2, k3, k5, newId, nsFind es, _, J.1, J.cls, kin _ _ lC, ⟨oN, es, ep, kin _ _ lN, dN, sk, fun _ => rfl⟩, fe, kin _ _ lf, cf, PySem.F.cmp_object.mro, PySem.F.cmp_object.eq.lookup, fn⟩
  refine compareOp_ne_ownEq PySem.F.cmp_object own J'.1 J'.cls (by have := hr.un; omega) (thn (run_at (vs := [.ref a, .ref b]) F hr.in1 rfl hb hx I (.cons rfl (.cons rfl .nil)) q) fun r s' ⟨z, H', I', rz, c, ez, q'⟩ => ?_)
  subst ez
  cases rz
  exact ⟨c, rfl, ⟨.bl (!c), H', I', rfl, q'⟩⟩
end
end Ask

/-! a text against a dict; a dict in a tuple or list of texts -/
namespace Ask
open PySem L2 PySem.Spec PyProof.Rows PySem.SeqAt
theorem sub_sd : isSubtype (.type "str") (.type "dict") = pure false := by rw [isSubtype_type]; kernel_rfl
theorem sub_ds : isSubtype (.type "dict") (.type "str") = pure false := by rw [isSubtype_type]; kernel_rfl
theorem dict_declines (l : Addr) (o : Obj) (b : Str) (u : Tok) (hc : o.cls = .type "dict") :
    Meets (Builtin.«dict.__eq__» ⟨[.ref l, .str b u], []⟩) (fun _ R s => s.heap.get? l = some o ∧ R (.ok (.ret .notImplemented)) s) :=
  .of_wp fun prog w A R s h => by
    obtain ⟨hp, g, d, tk, os⟩ := s
    obtain ⟨cls, dd, data, sl⟩ := o
    obtain rfl : cls = .type "dict" := hc
    obtain ⟨hl, h⟩ := h
    have f1 := sub_sd
    wp_walk using wpAny_loadPart' hl
    exact ⟨_, rfl, h⟩
theorem str_declines (l : Addr) (o : Obj) (b : Str) (u : Tok) (hc : o.cls = .type "dict") {es : Array DictEntry} {ep : Nat} (hd : o.data = .dict es ep) :
    Meets (Builtin.«str.__eq__» ⟨[.str b u, .ref l], []⟩) (fun _ R s => s.heap.get? l = some o ∧ R (.ok (.ret .notImplemented)) s) :=
  .of_wp fun prog w A R s h => by
    obtain ⟨hp, g, d, tk, os⟩ := s
    obtain ⟨cls, dd, data, sl⟩ := o
    obtain rfl : cls = .type "dict" := hc
    obtain rfl : data = .dict es ep := hd
    obtain ⟨hl, h⟩ := h
    wp_walk using wpAny_loadPart' hl, wpAny_load hl
    exact ⟨_, rfl, h⟩
section
variable {A : Around} {s : Shared}
theorem rcAt_sd {l : Addr} {o : Obj} (b : Str) (u : Tok) (ho : s.heap.get? l = some o) (hc : o.cls = .type "dict") {es : Array DictEntry} {ep : Nat} (hd : o.data = .dict es ep) (hu : A.units < cLine) : RcAt A s (.str b u) (.ref l) false := fun prog w E Q h =>
  rc_eq_decline_or (k := false) (typeIs_str s b u) ⟨o, ho, hc⟩ (by decide) sub_ds PySem.F.slot_str_eq PySem.F.slot_dict_eq_refl
    (fun _ hq => call_meets PySem.F.slot_str_eq (typeIs_str s b u) PySem.F.entry_str_eq (PySem.F.args_str_eq_2 _ _) (str_declines l o b u hc hd) ⟨ho, hq⟩)
    (fun _ hq => call_meets PySem.F.slot_dict_eq_refl ⟨o, ho, hc⟩ PySem.F.entry_dict_eq (PySem.F.args_dict_eq_2 _ _) (dict_declines l o b u hc) ⟨ho, hq⟩)
    (fun _ hq => wpAny_of_eq (rfl : isSame (.str b u) (.ref l) = pure false) hq) (.inr hu) h
theorem eqAt_sd {l : Addr} {o : Obj} (b : Str) (u : Tok) (ho : s.heap.get? l = some o) (hc : o.cls = .type "dict") {es : Array DictEntry} {ep : Nat} (hd : o.data = .dict es ep) (hu : A.units < cLine) : EqAt A s (.str b u) (.ref l) false := fun prog w E Q h => by
  unfold eqBool
  refine wpAny_holding ?_
  refine wpAny_ite_split (fun hab => absurd (eq_of_beq hab) nofun) (fun _ => ?_)
  exact wpAny_bind (rcAt_sd b u ho hc hd hu prog w E _ (wpAny_truthy_bool h))
end
section
variable {X : Cx}
/-- a dict in a tuple of texts -/
def rInSD (K : PySem.W.Frag) (neg : Bool) : R2 := fun x y H Q => ∃ (d p : Addr) (kvs : List (Key × V)) (ys : List Str), x = .ref d ∧ y = .ref p ∧ H d = some (.dK kvs) ∧ SqT K H p (ys.map V.str) ∧ Q (.bl neg) H
theorem strs_eqAt {A : Around} {s : Shared} {l : Addr} {o : Obj} (ho : s.heap.get? l = some o) (hc : o.cls = .type "dict") {es : Array DictEntry} {ep : Nat} (hd : o.data = .dict es ep) (hu : A.units < cLine) : ∀ (ys : List Str) (us : List Value), Vals (ys.map V.str) us → ∀ w ∈ us, EqAt A s w (.ref l) false
  | [], us, r => by
    cases r
    exact fun w hw => by cases hw
  | y :: ys, us, r => by
    cases r with
    | cons r t =>
      intro w hw
      rcases List.mem_cons.mp hw with rfl | hw
      · obtain ⟨tk, rfl⟩ := r
        exact eqAt_sd y tk ho hc hd hu
      · exact strs_eqAt ho hc hd hu ys _ t w hw
theorem op_inSD (hu : X.A.units + 1 < cLine) : OpR X (compareOp .In) (rInSD X.K false) := by
  intro pins s σ H x y v u Q I rx ry h
  obtain ⟨d, p, kvs, ys, rfl, rfl, hd, hq, q⟩ := h
  cases rx
  cases ry
  obtain ⟨_, _, vs, _, o, es, ep, ho, hx, hdd, _⟩ := I.hok d _ hd
  obtain ⟨its, r, pl, hz⟩ := I.tuple hq
  refine in_tupleAt (fun _ => false) pl (fun w hw => strs_eqAt (A := X.A.in1) ho hx.1 hdd hu ys _ r w (by simpa using hw)) ⟨.bl false, H, I, ?_, q⟩
  show Value.bool _ = Value.bool false
  simp
theorem op_notInSD (hu : X.A.units + 1 < cLine) : OpR X (compareOp .NotIn) (rInSD X.K true) := by
  intro pins s σ H x y v u Q I rx ry h
  obtain ⟨d, p, kvs, ys, rfl, rfl, hd, hq, q⟩ := h
  cases rx
  cases ry
  obtain ⟨_, _, vs, _, o, es, ep, ho, hx, hdd, _⟩ := I.hok d _ hd
  obtain ⟨its, r, pl, hz⟩ := I.tuple hq
  refine notIn_tupleAt (fun _ => false) pl (fun w hw => strs_eqAt (A := X.A.in1) ho hx.1 hdd hu ys _ r w (by simpa using hw)) ⟨.bl true, H, I, ?_, q⟩
  show Value.bool _ = Value.bool true
  simp
end
end Ask

/-! isinstance(e, c) in a suite, e an own error with fields -/
namespace Ask
open PySem L2 PySem.Spec PyProof.Rows
/-- what the class says of __class__ -/
structure XkC (K : PySem.W.Frag) (C : Addr) : Prop where
  ic : PySem.W.isClsIn K C = true
  ha : PySem.W.findIn K (.ref C) "__class__" = some (some (.builtin "object.__class__"))
  hn : PySem.W.specialIn K (.builtin "object.__class__") "__get__" = some (some (.builtin "getset_descriptor.__get__"))
  ht : PySem.W.takesIn K (.builtin "object.__class__") = some true
  hm : PySem.W.mroIn K C (.type "object") = some true
def rIsX (K : PySem.W.Frag) (C a : Addr) (cls : Value) (d : Option Addr) : List V → Hp → VK → Prop := fun xs H Q => ∃ (c : V) (cv : Value) (b : Bool) (dd : Addr) (fs : List (Str × V)), xs = [.ref a, c] ∧ cls = .ref C ∧ d = some dd ∧ H dd = some (.xd fs) ∧ ClsV c cv ∧ PySem.W.kitOne K (.ref C) cv = some b ∧ Q (.bl b) H
theorem call_isX {X : Cx} {a C : Addr} {oe : Obj} {cls : Value} {d : Option Addr} {pn : List (Addr × Obj)} (T : XfC X.K C) (Y : XkC X.K C) (hz : Zc cls d oe) (hf : ∃ vs, oe.data = .fields vs) :
    CallR (X.suite a ((a, oe) :: pn)) (.builtin "isinstance") (rIsX X.K C a cls d) := by
  intro pins s σ H xs us Q I r h
  obtain ⟨c, cv, b, dd, fs, rfl, rfl, rfl, ed, hcv, e, q⟩ := h
  obtain ⟨u1, u2, rfl, r1, r2⟩ := vals2 r
  obtain rfl : u1 = Value.ref a := r1
  have ec := hcv.eq r2
  subst ec
  obtain ⟨ha, _⟩ := I.pin (a, oe) (List.mem_append_left _ List.mem_cons_self)
  obtain ⟨vs, hd⟩ := hf
  obtain ⟨mA, hns, hr⟩ := (show ObjOk X.prog X.w H s.heap dd (.xd fs) from I.hok dd _ ed)
  obtain ⟨od, ho, hl⟩ := lookIn_ns hns
  have J : PySem.W.InstAt s.heap a oe C (some od) := ⟨ha, hz.1, by unfold PySem.W.notCls; rw [hd] <;> rfl, by rw [hz.2]; exact ho⟩
  exact PySem.W.kia_one (PySem.W.kitx_exc Y.ic T.ga T.gg T.exC Y.ha Y.hn Y.ht Y.hm) I.kIn J e (fun z => nomatch z) fun tk => ⟨.bl b, H, I.kept (t' := tk) fun _ _ z => z, rfl, q⟩
end Ask

namespace Ask
open PySem L2
open PySem.SeqAt (in_tupleAt EqAt)
/-- whether x is in the texts: by value, or a list, tuple or dict that is none -/
def InW (H : Hp) (x : V) (ys : List Str) (b : Bool) : Prop := (flatV x = true ∧ b = inV x (ys.map V.str)) ∨
  (b = false ∧ ∃ d, x = .ref d ∧ ((∃ kvs, H d = some (.dK kvs)) ∨ (∃ xs, H d = some (.lst xs)) ∨ (∃ xs, H d = some (.tup xs))))
theorem strs_eqAtR {A : Around} {s : Shared} {l : Addr} (h : ∀ (y : Str) (t : Tok), EqAt A s (.str y t) (.ref l) false) : ∀ (ys : List Str) (us : List Value), Vals (ys.map V.str) us → ∀ w ∈ us, EqAt A s w (.ref l) false
  | [], us, r => by
    cases r
    exact fun w hw => by cases hw
  | y :: ys, us, r => by
    cases r with
    | cons r t =>
      intro w hw
      rcases List.mem_cons.mp hw with rfl | hw
      · obtain ⟨tk, rfl⟩ := r
        exact h y tk
      · exact strs_eqAtR h ys _ t w hw
section
variable {X : Cx}
theorem op_inW (hu : X.A.units + 1 < cLine) : OpR X (compareOp .In) (fun x y H Q => ∃ (p : Addr) (ys : List Str) (b : Bool), y = .ref p ∧ SqT X.K H p (ys.map V.str) ∧ InW H x ys b ∧ Q (.bl b) H) := by
  intro pins s σ H x y v u Q I rx ry h
  obtain ⟨p, ys, b, rfl, hq, hw, q⟩ := h
  rcases hw with ⟨fx, rfl⟩ | ⟨rfl, d, rfl, hd⟩
  · refine op_in_seq pins s σ H x (.ref p) v u Q I rx ry ⟨p, _, rfl, .inr hq, fx, ?_, q⟩
    rw [List.all_eq_true]
    intro y hy
    obtain ⟨z, _, rfl⟩ := List.mem_map.mp hy
    rfl
  · cases rx
    cases ry
    obtain ⟨its, r, pl, hz⟩ := I.tuple hq
    have at_ : ∀ (y : Str) (t : Tok), EqAt X.A.in1 s (.str y t) (.ref d) false := fun y t => by
      rcases hd with ⟨kvs, hd⟩ | ⟨xs, hd⟩ | ⟨xs, hd⟩
      · obtain ⟨_, _, vs, _, o, es, ep, ho, hx, hdd, _⟩ := I.hok d _ hd
        exact eqAt_sd y t ho hx.1 hdd hu
      · obtain ⟨its2, r2, pl2, _⟩ := I.list (.inl (.inl hd))
        exact PySem.SeqAt.EqAt.str_list y t pl2.isList hu
      · obtain ⟨its2, r2, pl2, _⟩ := I.tuple (.inl (.inl hd))
        exact PySem.SeqAt.EqAt.str_tuple y t pl2 hu
    refine in_tupleAt (fun _ => false) pl (fun w hw => strs_eqAtR at_ ys _ r w (by simpa using hw)) ⟨.bl false, H, I, ?_, q⟩
    show Value.bool _ = Value.bool false
    simp
end
/-- letters ys at p, their tuple at t -/
def Mde (CL : Addr) (H : Hp) (p t : Addr) (ys : List Str) : Prop := ∃ (dx : Addr) (o : Obj), H p = some (.ins CL dx [("words", .ref t)]) ∧ H t = some (.frz o (.tup (ys.map V.str))) ∧ o.dict = none
def spHas (CL : Addr) : Sp := fun vs H Q _ => ∃ (p t : Addr) (ys : List Str) (x : V) (b : Bool), vs = [.ref p, x] ∧ Mde CL H p t ys ∧ InW H x ys b ∧ Q (.bl b) H
def spLen (CL : Addr) : Sp := fun vs H Q _ => ∃ (p t : Addr) (ys : List Str), vs = [.ref p] ∧ Mde CL H p t ys ∧ ys.length ≤ 1000 ∧ Q (.int (ys.length : Nat)) H
def spEq2 (CL : Addr) : Sp := fun vs H Q _ => ∃ (p t p' t' : Addr) (ys zs : List Str), vs = [.ref p, .ref p'] ∧ Mde CL H p t ys ∧ Mde CL H p' t' zs ∧ (∀ y ∈ ys, y.length ≤ 500 ∧ Asc y) ∧ (∀ y ∈ zs, y.length ≤ 500 ∧ Asc y) ∧
  Q (.bl (PyData.eqv (.tuple (ys.map PyData.str)) (.tuple (zs.map PyData.str)))) H
def spRank (CL CE : Addr) : Sp := fun vs H Q E => ∃ (p t : Addr) (ys : List Str) (x : V), vs = [.ref p, x] ∧ Mde CL H p t ys ∧ ys.Nodup ∧
  ((∃ (i : Nat) (z : Str), x = .str z ∧ ys[i]? = some z ∧ ∀ H', Same H H' → Q (.int (i : Nat)) H') ∨ (InW H x ys false ∧ ∀ (H' : Hp) (d : Addr), Same H H' → H' d = some (.xd (fsBad [.int 0])) → E (.ref CE) (some d) H'))
abbrev s_Has : Stmt := inClass (top 32) 2
theorem sc_Has : FnScope ["self", "x"] ["self", "x"] (defScope s_Has) := ⟨rfl, rfl, rfl, by decide +kernel, rfl, by decide +kernel, by decide +kernel⟩
abbrev s_Len : Stmt := inClass (top 32) 3
theorem sc_Len : FnScope ["self"] ["self"] (defScope s_Len) := ⟨rfl, rfl, rfl, by decide +kernel, rfl, by decide +kernel, by decide +kernel⟩
abbrev s_Eq : Stmt := inClass (top 32) 4
theorem sc_Eq : FnScope ["self", "other"] ["self", "other"] (defScope s_Eq) := ⟨rfl, rfl, rfl, by decide +kernel, rfl, by decide +kernel, by decide +kernel⟩
abbrev s_Rank : Stmt := inClass (top 32) 1
theorem sc_Rank : FnScope ["self", "x", "place", "word"] ["self", "x"] (defScope s_Rank) := ⟨rfl, rfl, rfl, by decide +kernel, rfl, by decide +kernel, by decide +kernel⟩
theorem passE {X : Cx} : Passes (L2.CX X.prog X.w) X E0 := fun _ _ _ _ _ _ _ h => by
  obtain ⟨_, _, _, _, _, _, _, _, _, _, _, _, e⟩ := h
  exact e.elim
section
variable {P : Program} {w : World} {K : PySem.W.Frag} {mg : Str → Option Value} {base : Heap}
theorem ok_has {f CL : Addr} {fd : FuncData} (F : Fun K "__contains__" "Letters.__contains__" s_Has f fd) (hC : Cls K CL) (hA : NoAttr K CL "words") : FnOk P w K mg base CX0 1 f fd ["self", "x"] (spHas CL) := by
  refine F.ok sc_Has (fun vs H Q E h => ?_) (fun cdv A outer s H vs Q E hr h => ?_)
  · obtain ⟨p, t, ys, x, b, rfl, _⟩ := h
    rfl
  · obtain ⟨p, t, ys, x, b, rfl, ⟨dx, ob, hp, ht, hob⟩, hw, k⟩ := h
    exact ⟨_, pss_one (ps_ret (pe_cmpR (op_inW (hu_of hr)) (pv 1) (pe_fld (pv 0) rfl) rfl)), _, rfl, _, rfl, p, CL, dx, _, _, rfl, hp, hC, hA, rfl, t, ys, b, rfl, (.inl (.inr ⟨ob, ht⟩)), hw, k⟩
theorem ok_len {f CL : Addr} {fd : FuncData} (F : Fun K "__len__" "Letters.__len__" s_Len f fd) (T : Blt mg) (hC : Cls K CL) (hA : NoAttr K CL "words") : FnOk P w K mg base CX0 1 f fd ["self"] (spLen CL) := by
  refine F.ok sc_Len (fun vs H Q E h => ?_) (fun cdv A outer s H vs Q E hr h => ?_)
  · obtain ⟨p, t, ys, rfl, _⟩ := h
    rfl
  · obtain ⟨p, t, ys, rfl, ⟨dx, ob, hp, ht, hob⟩, hl, k⟩ := h
    refine ⟨_, pss_one (ps_ret (pe_callB call_len_seq (by rfl) T.n_len (by decide +kernel) (pa_cons (pe_fld (pv 0) rfl) pa_nil))), _, rfl, p, CL, dx, _, _, rfl, hp, hC, hA, rfl, t, _, rfl, .inr ((.inl (.inr ⟨ob, ht⟩))), ?_⟩
    rw [List.length_map]
    exact k
theorem ok_eq {f CL : Addr} {fd : FuncData} (F : Fun K "__eq__" "Letters.__eq__" s_Eq f fd) (T : Blt mg) (hC : Cls K CL) (hA : NoAttr K CL "words") (Y : XkC K CL) (mL : mg "Letters" = some (.ref CL)) : FnOk P w K mg base CX0 1 f fd ["self", "other"] (spEq2 CL) := by
  refine F.ok sc_Eq (fun vs H Q E h => ?_) (fun cdv A outer s H vs Q E hr h => ?_)
  · obtain ⟨p, t, p', t', ys, zs, rfl, _⟩ := h
    rfl
  · obtain ⟨p, t, p', t', ys, zs, rfl, ⟨dx, ob, hp, ht, hob⟩, ⟨dx', ob', hp', ht', hob'⟩, hy, hz, k⟩ := h
    refine ⟨_, (pss_one (ps_ret (pe_and (pe_callB call_isi (by rfl) T.n_isinstance (by decide +kernel) (pa_cons (pv 1) (pa_cons (pe_gv (v := .ref CL) rfl ⟨_, mL, rfl⟩) pa_nil))) (pe_one (pe_cmpR (op_eqD hr.units) (pe_fld (pv 0) rfl) (pe_fld (pv 1) rfl) (nomark _)))))), ?_⟩
    have kk : PySem.W.kitOne K (.ref CL) (.ref CL) = some true := by
      unfold PySem.W.kitOne
      rw [if_pos (by simp)]
    refine ⟨_, rfl, _, _, _, _, true, rfl, .own CL, .base (.ins hp' hC Y.ha Y.hn Y.ht Y.hm), kk, _, rfl, ite2 (fun _ => ?_) (fun q => absurd rfl q)⟩
    exact ⟨_, rfl, p, CL, dx, _, _, rfl, hp, hC, hA, rfl, _, rfl, p', CL, dx', _, _, rfl, hp', hC, hA, rfl, _, _, .tup ((.inl (.inr ⟨ob, ht⟩))) (dp_strs _), .tup ((.inl (.inr ⟨ob', ht'⟩))) (dp_strs _), (fit_strs hy).shapedT, (fit_strs hz).shapedT, k⟩
end
end Ask

namespace Ask
open PySem L2
theorem kitAny_l {K : PySem.W.Frag} : PySem.W.kitAny K (.type "list") [.type "list", .type "tuple"] = some true := kitAny_cons (b := true) (kit_ty (by show kitB "list" "list" = some true; decide +kernel)) (fun z => by cases z) (fun _ => rfl)
theorem kitAny_t {K : PySem.W.Frag} : PySem.W.kitAny K (.type "tuple") [.type "list", .type "tuple"] = some true := kitAny_cons (kit_ty (by show kitB "tuple" "list" = some false; decide +kernel)) (fun _ => kitAny_cons (kit_ty (by show kitB "tuple" "tuple" = some true; decide +kernel)) (fun z => by cases z) (fun _ => rfl)) (fun z => by cases z)
theorem Mde.same {CL m t : Addr} {H H' : Hp} {ys : List Str} (h : Mde CL H m t ys) (s : Same H H') : Mde CL H' m t ys := by
  obtain ⟨dx, ob, h1, h2, h3⟩ := h
  exact ⟨dx, ob, s _ _ h1, s _ _ h2, h3⟩
theorem for_any1 {wi : TI} {g : TG} {tb : TS} {D : Ends} {σ : L2.St} {H : Hp} {J : It} {n : Nat} {G : Hp → Prop} {Y : Nat → Hp → V → Hp → Prop} (f : ∀ R : It → Hp → Prop, R J H → wi σ H R)
    (wk : Walk J n G Y) (Pv : Nat → L2.St → Hp → Prop) (h0 : Pv 0 σ H) (hG : ∀ i σ H, i ≤ n → Pv i σ H → G H)
    (hs : ∀ i x σ H H', i < n → Pv i σ H → Y i H x H' → g x σ H' fun σ2 H2 => tb { D with nx := Pv (i + 1), ct := Pv (i + 1), bk := D.nx } σ2 H2) (hd : ∀ σ H, Pv n σ H → D.nx σ H) :
    tFor wi g tb D σ H := by
  delta tFor
  exact f _ (for_it (D := D) wk Pv h0 hG hs hd)
section
variable {P : Program} {w : World} {K : PySem.W.Frag} {mg : Str → Option Value} {base : Heap}
/-! ### require_runs, where nothing is wrong -/
def spReqOk (K : PySem.W.Frag) (CL : Addr) : Sp := fun vs H Q _ => ∃ (m t : Addr) (ys : List Str) (a : Addr) (xs : List V) (rs : List Run), vs = [.ref m, .ref a] ∧ Mde CL H m t ys ∧ (SqL K H a xs ∨ SqT K H a xs) ∧ RunsV K H xs rs ∧ rs.length ≤ 10000 ∧
  (∀ r ∈ rs, r.1 ∈ ys ∧ 1 ≤ r.2 ∧ r.2 ≤ 1000000000000000000000000000000) ∧ ∀ H', Same H H' → Q .non H'
/-! ### require_count, where nothing is wrong -/
def spReqCnt : Sp := fun vs H Q _ => ∃ (x : V) (n : Int), vs = [x, .int n] ∧ 1 ≤ n ∧ n ≤ 1000000000000000000000000000000 ∧ Q .non H
abbrev s_require_count : Stmt := top 44
theorem sc_require_count : FnScope ["index", "value"] ["index", "value"] (defScope s_require_count) := ⟨rfl, rfl, rfl, by decide +kernel, rfl, by decide +kernel, by decide +kernel⟩
theorem ok_reqCnt {f fW : Addr} {fd fdW : FuncData} (F : Fun K "require_count" "require_count" s_require_count f fd) (mM : ∃ u, mg "MOST_COUNT" = some u ∧ RelV (.int 1000000000000000000000000000000) u)
    (GW : FnOk P w K mg base CX0 1 fW fdW ["value"] (spWhole K)) (AW : At K mg "is_whole" fW fdW ["value"]) :
    FnOk P w K mg base CX0 2 f fd ["index", "value"] spReqCnt := by
  refine F.ok sc_require_count (fun vs H Q E h => ?_) (fun cdv A outer s H vs Q E hr h => ?_)
  · obtain ⟨x, n, rfl, _⟩ := h
    rfl
  · obtain ⟨x, n, rfl, h1, h2, k⟩ := h
    refine ⟨_, (pss_one (ps_if (PW.pt (pw_or (pt_not (pt_val (pe_call GW hr (by rfl) AW.m AW.k AW.b .nil pass0 (pa_cons (pv 1) pa_nil)))) (pw_or1 (pt_not (pt_chain op_le op_le pe_int (pv 1) (pe_gv rfl mM)))))) pss_never pss_nil)), ?_⟩
    refine ⟨_, rfl, _, .type "int", true, false, rfl, .base (.int _), kit_ty (by decide +kernel), kit_ty (by decide +kernel), _, rfl, ?_⟩
    refine iteF ?_
    refine ⟨_, rfl, _, _, rfl, rfl, _, rfl, ?_⟩
    refine ite2 (fun _ => ?_) (fun q => absurd (decide_eq_true h1) q)
    refine ⟨_, _, rfl, rfl, _, rfl, ?_⟩
    rw [decide_eq_true h2]
    exact iteF k
abbrev s_require_runs : Stmt := top 45
theorem sc_require_runs : FnScope ["letters", "runs", "index", "run"] ["letters", "runs"] (defScope s_require_runs) := ⟨rfl, rfl, rfl, by decide +kernel, rfl, by decide +kernel, by decide +kernel⟩
theorem ok_reqOk {f fO fN fH CL : Addr} {fd fdO fdN fdH : FuncData} (F : Fun K "require_runs" "require_runs" s_require_runs f fd) (T : Blt mg)
    (GO : FnOk P w K mg base CX0 1 fO fdO ["value", "many"] (spListOf K)) (AO : At K mg "is_list_of" fO fdO ["value", "many"])
    (GN : FnOk P w K mg base CX0 2 fN fdN ["index", "value"] spReqCnt) (AN : At K mg "require_count" fN fdN ["index", "value"])
    (GH : FnOk P w K mg base CX0 1 fH fdH ["self", "x"] (spHas CL)) (bH : Binds K fdH ["self", "x"] []) (hH : PySem.W.findIn K (.ref CL) "__contains__" = some (some (.ref fH))) (iH : PySem.W.isFn K (.ref fH) = true) :
    FnOk P w K mg base CX0 3 f fd ["letters", "runs"] (spReqOk K CL) := by
  refine F.ok sc_require_runs (fun vs H Q E h => ?_) (fun cdv A outer s H vs Q E hr h => ?_)
  · obtain ⟨m, t, ys, a, xs, rs, rfl, _⟩ := h
    rfl
  · obtain ⟨m, t, ys, a, xs, rs, rfl, hM, hS, hR, hn, hok, k⟩ := h
    refine ⟨_, (pss_one (ps_for PassesOwn.never rfl (pi_enumA (by rfl) T.n_enumerate (pa_cons (pv 1) pa_nil)) (pg_tup rfl (pgs_cons (pg_name (i := 2) sc_require_runs.nd rfl (Or.inl rfl)) (pgs_cons (pg_name (i := 3) sc_require_runs.nd rfl (Or.inl rfl)) pgs_nil))) (pss_cons (ps_if (pt_not (pt_val (pe_call GO (hr.mono (by decide)) (by rfl) AO.m AO.k AO.b .nil pass0 (pa_cons (pv 3) (pa_cons pe_int pa_nil))))) pss_never pss_nil)
      (pss_cons (ps_if (pt_cmpR (op_notInI (C := CL) (E := E0) GH (hr.mono (by decide)) bH pass0 hH iH) (pe_ix ix_seq (pv 3) pe_int (fun _ _ => rfl)) (pv 0) rfl) pss_never pss_nil)
      (pss_one (ps_expr (pe_call GN hr (by rfl) AN.m AN.k AN.b .nil pass0 (pa_cons (pv 2) (pa_cons (pe_ix ix_seq (pv 3) pe_int (fun _ _ => rfl)) pa_nil))))))))), ?_⟩
    obtain ⟨J, G, wk, hG, fits⟩ : ∃ (J : It) (G : Hp → Prop), Walk J xs.length G (YPair (fun i => some (.int (i : Nat))) (fun i => xs[i]?)) ∧ (∀ H', Same H H' → G H') ∧
        ∀ (R : It → Hp → Prop), R J H → iEnumA K (tCons (tVar 1) tNil) [some (.ref m), some (.ref a), none, none] H R := by
      rcases hS with hS | hS
      · exact ⟨Ite K a, _, walk_enum, fun H' s' => s'.seq hS, fun R r => ⟨_, rfl, a, xs, rfl, .inl ⟨hS, r⟩⟩⟩
      · exact ⟨IteT K a, _, walk_enumT, fun H' s' => seqT_same s' hS, fun R r => ⟨_, rfl, a, xs, rfl, .inr ⟨hS, r⟩⟩⟩
    refine for_any1 fits wk (fun i σ' H' => ∃ o2 o3 : Option V, σ' = [some (.ref m), some (.ref a), o2, o3] ∧ Same H H') ⟨none, none, rfl, Same.refl H⟩ (fun i σ' H' _ ⟨_, _, _, s'⟩ => hG H' s') ?_ (fun σ' H' ⟨_, _, _, s'⟩ => k H' s')
    rintro i x σ' H2 H3 hi ⟨o2, o3, rfl, s2⟩ ⟨t2, x0, y0, rfl, ht, rfl, ex, ey⟩
    cases ex
    replace ey : xs[i]? = some y0 := ey
    obtain ⟨r, hri⟩ : ∃ r, rs[i]? = some r := ⟨_, List.getElem?_eq_getElem (by rw [← hR.1]; exact hi)⟩
    obtain ⟨hr1, hr2, hr3⟩ := hok r (List.mem_of_getElem? hri)
    have s3 := Ask.Same.made1 (o := .tup [.int (i : Nat), y0]) s2 ht
    have ht3 : upd H2 t2 (.tup [.int (i : Nat), y0]) t2 = some (.tup [.int (i : Nat), y0]) := upd_same
    generalize upd H2 t2 (.tup [.int (i : Nat), y0]) = H4 at s3 ht3 ⊢
    obtain ⟨b, rfl, hb⟩ := hR.2 i y0 r ey hri
    have hin : ∀ H', InW H' (.str r.1) ys true := fun _ => .inl ⟨rfl, (in_mem hr1).symm⟩
    refine ⟨t2, _, rfl, SqT.of ht3, rfl, _, _, rfl, _, _, rfl, rfl, ?_⟩
    have hty : ∃ ty, TyX K H4 (.ref b) ty ∧ PySem.W.kitAny K ty [.type "list", .type "tuple"] = some true := by
      rcases hb with hb | hb
      · exact ⟨_, ty_list (s3.seq hb), kitAny_l⟩
      · exact ⟨_, ty_tup (seqT_same s3 hb), kitAny_t⟩
    obtain ⟨ty, hty, hka⟩ := hty
    have hb4 : SqL K H4 b [.str r.1, .int r.2] ∨ SqT K H4 b [.str r.1, .int r.2] := by
      rcases hb with hb | hb
      · exact .inl (s3.seq hb)
      · exact .inr (seqT_same s3 hb)
    refine ⟨_, rfl, .ref b, ty, 2, rfl, hty, .inr ⟨hka, b, _, rfl, hb4, fun H5 s5 => ⟨_, rfl, ?_⟩⟩⟩
    have s35 := s3.trans s5
    have md := hM.same s35
    obtain ⟨dx, ob, m1, _⟩ := id md
    rw [decide_eq_true (show (([V.str r.1, .int r.2] : List V).length : Int) = 2 from rfl)]
    refine iteF ?_
    rcases hb with hb | hb
    · have hb5 := s35.seq hb
      refine ⟨_, rfl, .inl ⟨b, _, 0, _, rfl, rfl, hb5, at_by (j := 0) rfl rfl, _, rfl, m, dx, _, rfl, m1, m, t, ys, _, true, rfl, md, hin _, _, rfl, _, rfl, ?_⟩⟩
      refine iteF ?_
      exact ⟨_, rfl, _, rfl, .inl ⟨b, _, 1, _, rfl, rfl, hb5, at_by (j := 1) rfl rfl, _, _, rfl, hr2, hr3, _, _, rfl, s35⟩⟩
    · have hb5 := seqT_same s35 hb
      refine ⟨_, rfl, .inr (.inl ⟨b, _, 0, _, rfl, rfl, hb5, at_by (j := 0) rfl rfl, _, rfl, m, dx, _, rfl, m1, m, t, ys, _, true, rfl, md, hin _, _, rfl, _, rfl, ?_⟩)⟩
      refine iteF ?_
      exact ⟨_, rfl, _, rfl, .inr (.inl ⟨b, _, 1, _, rfl, rfl, hb5, at_by (j := 1) rfl rfl, _, _, rfl, hr2, hr3, _, _, rfl, s35⟩)⟩
end
end Ask

namespace Ask
open PySem L2
theorem eqv_str1 (a b : Str) : PyData.eqv (.str a) (.str b) = decide (a = b) := by
  simp only [PyData.eqv]
  by_cases h : a = b
  · subst h; simp
  · rw [decide_eq_false h]; simpa using h
theorem eqvAll_strs : ∀ ys zs : List Str, PyData.eqvAll (ys.map PyData.str) (zs.map PyData.str) = decide (ys = zs)
  | [], [] => by simp [PyData.eqvAll]
  | [], _ :: _ => by simp [PyData.eqvAll]
  | _ :: _, [] => by simp [PyData.eqvAll]
  | y :: ys, z :: zs => by
    rw [List.map_cons, List.map_cons, PyData.eqvAll, eqv_str1, eqvAll_strs ys zs]
    by_cases h : y = z
    · subst h
      by_cases h2 : ys = zs
      · subst h2; simp
      · simp [h2]
    · simp [h]
theorem eqv_strs (ys zs : List Str) : PyData.eqv (.tuple (ys.map PyData.str)) (.tuple (zs.map PyData.str)) = decide (ys = zs) := by
  rw [PyData.eqv]
  exact eqvAll_strs ys zs
/-- letters that Letters takes -/
structure Lts (ys : List Str) : Prop where
  nd : ys.Nodup
  ok : ∀ y ∈ ys, isLs y = true ∧ y.length ≤ 13 ∧ Asc y
  l0 : 1 ≤ ys.length
  l1 : ys.length ≤ 12
theorem Lts.fit {ys : List Str} (h : Lts ys) : ∀ y ∈ ys, y.length ≤ 500 ∧ Asc y := fun y hy => ⟨by have := (h.ok y hy).2.1; omega, (h.ok y hy).2.2⟩
theorem Lts.res {ys : List Str} (h : Lts ys) : res (ys.map PyData.str) = .none := by
  have l0 := h.l0
  have l1 := h.l1
  refine res_good (by rw [List.length_map]; omega) (by rw [List.length_map]; omega) fun j hj => ?_
  rw [List.length_map] at hj
  unfold badAt
  rw [List.getElem?_map, List.getElem?_eq_getElem hj]
  show (!isLs ys[j] || ((ys.map PyData.str).take j).any fun z => PyData.eqv z (.str ys[j])) = false
  rw [(h.ok _ (List.getElem_mem hj)).1, Bool.not_true, Bool.false_or, List.any_eq_false]
  intro x hx
  rw [← List.map_take] at hx
  obtain ⟨y, hy, rfl⟩ := List.mem_map.mp hx
  rw [eqv_str1]
  intro e
  have e : y = ys[j] := of_decide_eq_true e
  obtain ⟨i, hi⟩ := List.mem_iff_getElem?.mp hy
  have hij : i < j := by
    have := (List.getElem?_eq_some_iff.mp hi).1
    rw [List.length_take] at this
    omega
  rw [List.getElem?_take_of_lt hij] at hi
  have : i = j := (List.getElem?_inj (List.getElem?_eq_some_iff.mp hi).1 h.nd).mp (hi.trans (by rw [e, List.getElem?_eq_getElem hj]))
  omega
theorem cutV_init (xs : List V) : cutV xs none (some (-1)) = xs.take (xs.length - 1) := by
  have e : HT.sIx xs.length xs.length (some (-1)) = xs.length - 1 := by
    show (if (-1 : Int) < 0 then ((-1 : Int) + (xs.length : Int)).toNat else min (-1 : Int).toNat xs.length) = _
    rw [if_pos (by decide)]
    omega
  unfold cutV
  rw [HT.sIx_none, List.drop_zero, Nat.sub_zero, e]
/-- a text none or one time -/
theorem op_mul_str01 {X : Cx} : OpR X (binaryOp .Mult) (fun x y H Q => ∃ (z : Str) (n : Int), x = .str z ∧ y = .int n ∧ (n = 0 ∨ n = 1) ∧ z.length ≤ 1000 ∧ ∀ z' : Str, z'.length ≤ z.length → Q (.str z') H) := by
  intro pins s σ H x y v u Q I rx ry h
  obtain ⟨z, n, rfl, rfl, hn, z1, q⟩ := h
  obtain ⟨t, rfl⟩ := rx
  obtain ⟨t2, rfl⟩ := ry
  rcases hn with rfl | rfl
  · exact P.mul_str_none (by decide) (by decide) ⟨.str Str.empty, H, I.tok _, ⟨_, rfl⟩, q _ (Nat.zero_le _)⟩
  · refine P.mul_str (by decide) (fun _ e => by simp at e) (fun _ e => by simp at e) ?_
    rw [if_neg (by decide), if_pos (by simp)]
    exact ⟨.str z, H, I, ⟨_, rfl⟩, q _ (Nat.le_refl _)⟩
theorem cutV_tail (xs : List V) : cutV xs (some 1) none = xs.drop 1 := by
  unfold cutV
  rw [HT.sIx_none, show (some (1 : Int)) = some ((1 : Nat) : Int) from rfl, HT.sIx_nat]
  by_cases h : 1 ≤ xs.length
  · rw [Nat.min_eq_left h, List.take_of_length_le (by rw [List.length_drop]; omega)]
  · have : xs = [] := List.eq_nil_of_length_eq_zero (by omega)
    subst this
    rfl
section
variable {p c CL q m t m' t' l : Addr} {ns : List Int} {H0 H H' : Hp} {ys zs : List Str} {B B' : Nat} {o : HO} {xs : List V}
theorem Mde.go (h : Mde CL H m t ys) (g : Go p c ns H H' B) : Mde CL H' m t ys := by
  obtain ⟨dx, ob, h1, h2, h3⟩ := h
  exact ⟨dx, ob, g.at h1 (by intro _ z; cases z), g.at h2 (by intro _ z; cases z), h3⟩
theorem Mde.mut (h : Mde CL H m t ys) (hl : H l = some (.lst xs)) : Mde CL (upd H l o) m t ys := by
  obtain ⟨dx, ob, h1, h2, h3⟩ := h
  exact ⟨dx, ob, by rw [upd_ne (ne_of h1 hl (by intro z; cases z))]; exact h1, by rw [upd_ne (ne_of h2 hl (by intro z; cases z))]; exact h2, h3⟩
theorem Mde.seq {K : PySem.W.Frag} (h : Mde CL H m t ys) : SqT K H t (ys.map V.str) := by
  obtain ⟨dx, ob, h1, h2, h3⟩ := h
  exact .inl (.inr ⟨ob, h2⟩)
end
end Ask

namespace Ask
open PySem L2
/-! ### spliced: the mirror -/
def spliceR (h t : List Run) : List Run := match h.getLast?, t with
  | some l, r :: t' => if l.1 = r.1 then h.dropLast ++ [(l.1, l.2 + r.2)] ++ t' else h ++ t
  | _, _ => h ++ t
theorem splice_nil (t : List Run) : spliceR [] t = t := rfl
theorem PairsV.get {H : Hp} {xs : List V} {rs : List Run} (h : PairsV H xs rs) {i : Nat} {r : Run} (e : rs[i]? = some r) : ∃ b, xs[i]? = some (.ref b) ∧ H b = some (.tup [.str r.1, .int r.2]) := by
  have hi : i < xs.length := by rw [h.1]; exact (List.getElem?_eq_some_iff.mp e).1
  obtain ⟨b, e2, e3⟩ := h.2 i _ r (List.getElem?_eq_getElem hi) e
  exact ⟨b, by rw [List.getElem?_eq_getElem hi, e2], e3⟩
theorem PairsV.cat {H : Hp} {xs ys : List V} {rs ss : List Run} (h : PairsV H xs rs) (k : PairsV H ys ss) : PairsV H (xs ++ ys) (rs ++ ss) := by
  refine ⟨by rw [List.length_append, List.length_append, h.1, k.1], fun i v r h1 h2 => ?_⟩
  by_cases hi : i < xs.length
  · rw [List.getElem?_append_left hi] at h1
    rw [List.getElem?_append_left (by rw [← h.1]; exact hi)] at h2
    exact h.2 i v r h1 h2
  · rw [List.getElem?_append_right (by omega)] at h1
    rw [List.getElem?_append_right (by rw [← h.1]; omega), ← h.1] at h2
    exact k.2 _ v r h1 h2
theorem PairsV.take {H : Hp} {xs : List V} {rs : List Run} (h : PairsV H xs rs) (n : Nat) : PairsV H (xs.take n) (rs.take n) := by
  refine ⟨by rw [List.length_take, List.length_take, h.1], fun i v r h1 h2 => ?_⟩
  have hi : i < n := by
    have := (List.getElem?_eq_some_iff.mp h1).1
    rw [List.length_take] at this
    omega
  rw [List.getElem?_take_of_lt hi] at h1 h2
  exact h.2 i v r h1 h2
theorem PairsV.drop {H : Hp} {xs : List V} {rs : List Run} (h : PairsV H xs rs) (n : Nat) : PairsV H (xs.drop n) (rs.drop n) := by
  refine ⟨by rw [List.length_drop, List.length_drop, h.1], fun i v r h1 h2 => ?_⟩
  rw [List.getElem?_drop] at h1 h2
  exact h.2 _ v r h1 h2
theorem PairsV.one {H : Hp} {b : Addr} {r : Run} (h : H b = some (.tup [.str r.1, .int r.2])) : PairsV H [.ref b] [r] := by
  refine ⟨rfl, fun i v r' h1 h2 => ?_⟩
  cases i with
  | zero =>
    cases h1
    cases h2
    exact ⟨b, rfl, h⟩
  | succ i => simp at h1
theorem sIx_init {n : Nat} : HT.sIx n n (some (-1)) = n - 1 := by
  show (if (-1 : Int) < 0 then ((-1 : Int) + (n : Int)).toNat else min (-1 : Int).toNat n) = _
  rw [if_pos (by decide)]
  omega
theorem sIx_one {n : Nat} (h : 1 ≤ n) : HT.sIx n 0 (some 1) = 1 := by
  show (if (1 : Int) < 0 then ((1 : Int) + (n : Int)).toNat else min (1 : Int).toNat n) = _
  rw [if_neg (by decide)]
  show min 1 n = 1
  omega
theorem atI_back {α : Type} {xs : List α} {v : α} (h : xs[xs.length - 1]? = some v) : atI xs (-1) = some v := by
  have ln := (List.getElem?_eq_some_iff.mp h).1
  have e : xs = xs.take (xs.length - 1) ++ [v] := by
    have h2 := List.take_append_getElem (l := xs) (i := xs.length - 1) ln
    rw [(List.getElem?_eq_some_iff.mp h).2] at h2
    rw [h2, List.take_of_length_le (by omega)]
  have k := atI_last (xs.take (xs.length - 1)) v
  rw [← e] at k
  exact k
section
variable {P : Program} {w : World} {K : PySem.W.Frag} {mg : Str → Option Value} {base : Heap}
def spSpliced (K : PySem.W.Frag) : Sp := fun vs H Q _ => ∃ (a b : Addr) (hs ts : List V) (h t : List Run), vs = [.ref a, .ref b] ∧ SqT K H a hs ∧ SqT K H b ts ∧ PairsV H hs h ∧ PairsV H ts t ∧ h.length ≤ 10000 ∧ t.length ≤ 10000 ∧
  ∀ (H' : Hp) (c : Addr) (ks : List V), Same H H' → SqT K H' c ks → PairsV H' ks (spliceR h t) → Q (.ref c) H'
abbrev s_spliced : Stmt := top 35
theorem sc_spliced : FnScope ["head", "tail"] ["head", "tail"] (defScope s_spliced) := ⟨rfl, rfl, rfl, by decide +kernel, rfl, by decide +kernel, by decide +kernel⟩
theorem ok_spliced {f : Addr} {fd : FuncData} (F : Fun K "spliced" "spliced" s_spliced f fd) : FnOk P w K mg base CX0 1 f fd ["head", "tail"] (spSpliced K) := by
  refine F.ok sc_spliced (fun vs H Q E h => ?_) (fun cdv A outer s H vs Q E hr h => ?_)
  · obtain ⟨a, b, hs, ts, h, t, rfl, _⟩ := h
    rfl
  · obtain ⟨a, b, hs, ts, h, t, rfl, ha, hb, hh, ht, lh, lt, k⟩ := h
    refine ⟨_, (pss_cons (ps_if (PW.pt (pw_and (pt_truth (pv 0) (by intro _; rfl)) (pw_and (pt_truth (pv 1) (by intro _; rfl)) (pw_and1 (pt_cmpR op_eq (pe_ix ix_tup (pe_ix ix_tup (pv 0) (pe_un un_neg pe_int) (fun _ _ => rfl)) pe_int (fun _ _ => rfl)) (pe_ix ix_tup (pe_ix ix_tup (pv 1) pe_int (fun _ _ => rfl)) pe_int (fun _ _ => rfl)) (nomark _)))))) (pss_one (ps_ret (pe_op op_catA (pe_op op_catA (pe_slice sl_tupA (pv 0) po_none (po_some (pe_un un_neg pe_int))) (pe_tup (pa_cons (pe_tup (pa_cons (pe_ix ix_tup (pe_ix ix_tup (pv 0) (pe_un un_neg pe_int) (fun _ _ => rfl)) pe_int (fun _ _ => rfl)) (pa_cons (pe_op op_add (pe_ix ix_tup (pe_ix ix_tup (pv 0) (pe_un un_neg pe_int) (fun _ _ => rfl)) pe_int (fun _ _ => rfl)) (pe_ix ix_tup (pe_ix ix_tup (pv 1) pe_int (fun _ _ => rfl)) pe_int (fun _ _ => rfl))) pa_nil))) pa_nil))) (pe_slice sl_tupA (pv 1) (po_some pe_int) po_none)))) pss_nil)
      (pss_one (ps_ret (pe_op op_catA (pv 0) (pv 1))))), ?_⟩
    have z1 : (100000 : Nat) ≤ sizeLine := by decide
    have e1 := hh.1
    have e2 := ht.1
    -- the plain sum
    have plain : spliceR h t = h ++ t → tRet (tOp (rCatA K) (tVar 0) (tVar 1)) { nx := fun _ H' => Q .non H', rt := Q } [some (.ref a), some (.ref b)] H := fun e => by
      have e3 : PairsV H (hs ++ ts) (spliceR h t) := by rw [e]; exact hh.cat ht
      refine ⟨_, rfl, _, rfl, a, b, hs, ts, rfl, rfl, ha, hb, by omega, fun z => ?_, fun _ z => ?_, fun _ _ p hp => ?_⟩
      · subst z
        exact k H b ts (Same.refl H) hb e3
      · subst z
        rw [List.append_nil] at e3
        exact k H a hs (Same.refl H) ha e3
      · have s1 := Ask.Same.made1 (o := .tup (hs ++ ts)) (Same.refl H) hp
        exact k _ p _ s1 (SqT.of upd_same) (e3.same s1)
    refine ⟨_, rfl, !hs.isEmpty, .inr (.inl ⟨hs, ha, rfl⟩), ite2 (fun q1 => ?_) (fun q1 => iteF (plain (by
      have q1 : (!hs.isEmpty) = false := (Bool.not_eq_true _).mp q1
      have : hs = [] := by cases hs with | nil => rfl | cons => cases q1
      subst this
      have : h = [] := List.eq_nil_of_length_eq_zero e1.symm
      subst this
      rfl)))⟩
    have q1 : hs ≠ [] := fun z => by subst z; cases q1
    refine ⟨_, rfl, !ts.isEmpty, .inr (.inl ⟨ts, hb, rfl⟩), ite2 (fun q2 => ?_) (fun q2 => iteF (plain (by
      have q2 : (!ts.isEmpty) = false := (Bool.not_eq_true _).mp q2
      have : ts = [] := by cases ts with | nil => rfl | cons => cases q2
      subst this
      have : t = [] := List.eq_nil_of_length_eq_zero e2.symm
      subst this
      unfold spliceR
      split
      · contradiction
      · rfl)))⟩
    have q2 : ts ≠ [] := fun z => by subst z; cases q2
    have l1 : 1 ≤ hs.length := List.length_pos_iff.mpr q1
    have l2 : 1 ≤ ts.length := List.length_pos_iff.mpr q2
    obtain ⟨l, hl⟩ : ∃ l, h[h.length - 1]? = some l := ⟨_, List.getElem?_eq_getElem (by omega)⟩
    obtain ⟨r, hr0⟩ : ∃ r, t[0]? = some r := ⟨_, List.getElem?_eq_getElem (by omega)⟩
    obtain ⟨x, hx, hx2⟩ := hh.get hl
    obtain ⟨y, hy, hy2⟩ := ht.get hr0
    rw [← e1] at hx
    have at1 : atI hs (-1) = some (.ref x) := atI_back hx
    have at2 : atI ts 0 = some (.ref y) := at_by (j := 0) rfl hy
    have bx0 : atI [V.str l.1, .int l.2] 0 = some (.str l.1) := at_by (j := 0) rfl rfl
    have bx1 : atI [V.str l.1, .int l.2] 1 = some (.int l.2) := at_by (j := 1) rfl rfl
    have by0 : atI [V.str r.1, .int r.2] 0 = some (.str r.1) := at_by (j := 0) rfl rfl
    have by1 : atI [V.str r.1, .int r.2] 1 = some (.int r.2) := at_by (j := 1) rfl rfl
    have sp : spliceR h t = if l.1 = r.1 then h.dropLast ++ [(l.1, l.2 + r.2)] ++ t.drop 1 else h ++ t := by
      have e3 : h.getLast? = some l := by rw [List.getLast?_eq_getElem?]; exact hl
      obtain ⟨t', rfl⟩ : ∃ t', t = r :: t' := by
        cases t with
        | nil => simp at hr0
        | cons a t => cases hr0; exact ⟨t, rfl⟩
      unfold spliceR
      rw [e3]
      rfl
    refine ⟨_, rfl, _, rfl, a, _, _, _, rfl, rfl, ha, at1, x, _, _, _, rfl, rfl, SqT.of hx2, bx0, _, rfl, b, _, _, _, rfl, rfl, hb, at2, y, _, _, _, rfl, rfl, SqT.of hy2, by0, rfl, _, rfl, ite2 (fun q3 => ?_) (fun q3 => plain (by
      have q3 : ¬ l.1 = r.1 := fun z => q3 (decide_eq_true (congrArg V.str z))
      rw [sp, if_neg q3]))⟩
    have q3 : l.1 = r.1 := V.str.inj (of_decide_eq_true q3)
    rw [if_pos q3] at sp
    refine ⟨_, rfl, _, rfl, _, rfl, a, hs, rfl, ha, fun z => ?_, fun _ p hp => ?_⟩
    · have z := z.2
      rw [sIx_init] at z
      omega
    have s1 := Ask.Same.made1 (o := .tup (cutV hs none (some (-1)))) (Same.refl H) hp
    have p1 : upd H p (.tup (cutV hs none (some (-1)))) p = some (.tup (cutV hs none (some (-1)))) := upd_same
    generalize upd H p (.tup (cutV hs none (some (-1)))) = H1 at s1 p1 ⊢
    have ha1 := seqT_same s1 ha
    have hb1 := seqT_same s1 hb
    refine ⟨_, rfl, _, rfl, a, _, _, _, rfl, rfl, ha1, at1, x, _, _, _, rfl, rfl, SqT.of (s1 _ _ hx2), bx0, ?_⟩
    refine ⟨_, rfl, _, rfl, a, _, _, _, rfl, rfl, ha1, at1, x, _, _, _, rfl, rfl, SqT.of (s1 _ _ hx2), bx1, ?_⟩
    refine ⟨_, rfl, b, _, _, _, rfl, rfl, hb1, at2, y, _, _, _, rfl, rfl, SqT.of (s1 _ _ hy2), by1, _, _, rfl, rfl, by show 2 ≤ sizeLine; decide, fun u hu => ?_⟩
    have s2 := Ask.Same.made1 (o := .tup [.str l.1, .int (l.2 + r.2)]) s1 hu
    have p2 : upd H1 u (.tup [.str l.1, .int (l.2 + r.2)]) p = some (.tup (cutV hs none (some (-1)))) := by rw [upd_ne (ne_of_none p1 hu)]; exact p1
    have u2 : upd H1 u (.tup [.str l.1, .int (l.2 + r.2)]) u = some (.tup [.str l.1, .int (l.2 + r.2)]) := upd_same
    generalize upd H1 u (.tup [.str l.1, .int (l.2 + r.2)]) = H2 at s2 p2 u2 ⊢
    refine ⟨by show 1 ≤ sizeLine; decide, fun g hg => ?_⟩
    have s3 := Ask.Same.made1 (o := .tup [.ref u]) s2 hg
    have st3 := Ask.Same.made1 (o := .tup [.ref u]) (Same.refl H2) hg
    have g3 : upd H2 g (.tup [.ref u]) g = some (.tup [.ref u]) := upd_same
    generalize upd H2 g (.tup [.ref u]) = H3 at s3 st3 g3 ⊢
    have hc : PairsV H3 (cutV hs none (some (-1))) h.dropLast := by
      rw [cutV_init, List.dropLast_eq_take, e1]
      exact (hh.take _).same s3
    have hc1 : PairsV H3 (cutV hs none (some (-1)) ++ [.ref u]) (h.dropLast ++ [(l.1, l.2 + r.2)]) := hc.cat (.one (st3 _ _ u2))
    have lc : (cutV hs none (some (-1))).length ≤ hs.length := cutV_length _ _ _
    -- the first sum
    have go : ∀ (H4 : Hp) (g4 : Addr), Same H3 H4 → SqT K H4 g4 (cutV hs none (some (-1)) ++ [.ref u]) →
        tSl (rSlA K) (tVar 1) (tPart (tC (.int 1))) tNoPart [some (.ref a), some (.ref b)] H4 fun y H2 => rCatA K (.ref g4) y H2 Q := fun H4 g4 s34 hg4 => by
      have s4 := s3.trans s34
      refine ⟨_, rfl, _, rfl, b, ts, rfl, seqT_same s4 hb, fun z => ?_, fun _ v hv => ?_⟩
      · have z := z.1
        rw [sIx_one l2] at z
        cases z
      have s45 := Ask.Same.made1 (o := .tup (cutV ts (some 1) none)) (Same.refl H4) hv
      have s5 := s4.trans s45
      have v5 : upd H4 v (.tup (cutV ts (some 1) none)) v = some (.tup (cutV ts (some 1) none)) := upd_same
      generalize upd H4 v (.tup (cutV ts (some 1) none)) = H5 at s45 s5 v5 ⊢
      rw [cutV_tail] at v5
      have ld : (ts.drop 1).length ≤ ts.length := by rw [List.length_drop]; omega
      have fin : PairsV H5 ((cutV hs none (some (-1)) ++ [.ref u]) ++ ts.drop 1) (spliceR h t) := by
        rw [sp]
        exact (hc1.same (s34.trans s45)).cat ((ht.drop 1).same s5)
      refine ⟨g4, v, _, _, rfl, rfl, seqT_same s45 hg4, SqT.of v5, by rw [List.length_append, List.length_singleton]; omega, fun z => ?_, fun _ z => ?_, fun _ _ d hd => ?_⟩
      · simp at z
      · rw [z, List.append_nil] at fin
        exact k H5 g4 _ s5 (seqT_same s45 hg4) fin
      · have s6 := Ask.Same.made1 (o := .tup ((cutV hs none (some (-1)) ++ [.ref u]) ++ ts.drop 1)) (Same.refl H5) hd
        exact k _ d _ (s5.trans s6) (SqT.of upd_same) (fin.same s6)
    refine ⟨p, g, _, _, rfl, rfl, SqT.of (st3 _ _ p2), SqT.of g3, (by rw [List.length_singleton]; omega), fun z => ?_, fun _ z => (by cases z), fun _ _ d hd => ?_⟩
    · exact go H3 g (Same.refl H3) (by rw [z]; exact SqT.of g3)
    · exact go _ d (Ask.Same.made1 (Same.refl H3) hd) (SqT.of upd_same)
end
end Ask

namespace Ask
open PySem L2
theorem seqA_same {K : PySem.W.Frag} {H H' : Hp} {a : Addr} {xs : List V} (h : SqL K H a xs ∨ SqT K H a xs) (s : Same H H') : SqL K H' a xs ∨ SqT K H' a xs := by
  rcases h with h | h
  · exact .inl (s.seq h)
  · exact .inr (seqT_same s h)
theorem joinR_len (rs : List Run) : (joinR rs).length ≤ rs.length + 1 := by
  unfold joinR
  rw [List.length_append]
  have := jrun_len rs
  have : (jrun rs).2.toList.length ≤ 1 := by cases (jrun rs).2 <;> simp
  omega
/-- what comes last: a letter or the beginning -/
def lastR (b : Str) (rs : List Run) : Str := ((rs.getLast?.map (·.1)).getD b)
/-- the attributes of a history -/
def hf (m c : Addr) (b : Str) (rs : List Run) : List (Str × V) := [("letters", .ref m), ("beginning", .str b), ("runs", .ref c), ("size", .int (sizeR rs)), ("last", .str (lastR b rs))]
/-- a history of the runs rs at p -/
def HistAt (K : PySem.W.Frag) (CL CH : Addr) (H : Hp) (p : Addr) (ys : List Str) (b : Str) (rs : List Run) : Prop := ∃ (dx m t c : Addr) (ks : List V), H p = some (.ins CH dx (hf m c b rs)) ∧ Mde CL H m t ys ∧ SqT K H c ks ∧ PairsV H ks rs
theorem HistAt.same {K : PySem.W.Frag} {CL CH p : Addr} {H H' : Hp} {ys : List Str} {b : Str} {rs : List Run} (h : HistAt K CL CH H p ys b rs) (s : Same H H') : HistAt K CL CH H' p ys b rs := by
  obtain ⟨dx, m, t, c, ks, h1, h2, h3, h4⟩ := h
  exact ⟨dx, m, t, c, ks, s _ _ h1, h2.same s, seqT_same s h3, h4.same s⟩
section
variable {P : Program} {w : World} {K : PySem.W.Frag} {mg : Str → Option Value} {base : Heap}
/-! ### is_beginning, of a text -/
def spIsBeg (K : PySem.W.Frag) : Sp := fun vs H Q _ => ∃ b : Str, vs = [.str b] ∧ (b = "new" ∨ b = "found") ∧ Q (.bl true) H
abbrev s_is_beginning : Stmt := top 42
theorem sc_is_beginning : FnScope ["value"] ["value"] (defScope s_is_beginning) := ⟨rfl, rfl, rfl, by decide +kernel, rfl, by decide +kernel, by decide +kernel⟩
theorem ok_isBeg {f : Addr} {fd : FuncData} (F : Fun K "is_beginning" "is_beginning" s_is_beginning f fd) (C : Gv K mg) : FnOk P w K mg base CX0 1 f fd ["value"] (spIsBeg K) := by
  refine F.ok sc_is_beginning (fun vs H Q E h => ?_) (fun cdv A outer s H vs Q E hr h => ?_)
  · obtain ⟨b, rfl, _⟩ := h
    rfl
  · obtain ⟨b, rfl, hb, k⟩ := h
    obtain ⟨tB, u, mB, uB, hB⟩ := C.begins
    refine ⟨_, (pss_one (ps_ret (pe_cmpR op_in_seq (pv 0) (pe_gv (v := .ref tB) rfl ⟨u, mB, uB⟩) rfl))), ?_⟩
    refine ⟨_, rfl, tB, _, rfl, .inr (hB H), rfl, rfl, ?_⟩
    rcases hb with rfl | rfl
    · exact k
    · exact k
/-! ### extended, where nothing is wrong -/
def spExtOk (K : PySem.W.Frag) (CL : Addr) : Sp := fun vs H Q _ => ∃ (m t e : Addr) (ys : List Str) (a : Addr) (hs xs : List V) (h rs : List Run), vs = [.ref m, .ref e, .ref a] ∧ Mde CL H m t ys ∧ SqT K H e hs ∧ PairsV H hs h ∧ h.length ≤ 1000 ∧ (SqL K H a xs ∨ SqT K H a xs) ∧ RunsV K H xs rs ∧ rs.length ≤ 1000 ∧
  (∀ r ∈ rs, r.1 ∈ ys ∧ 1 ≤ r.2 ∧ r.2 ≤ 1000000000000000000000000000000) ∧ (spliceR h (joinR rs)).length ≤ 400 ∧ ∀ (H' : Hp) (c : Addr) (ks : List V), Same H H' → SqT K H' c ks → PairsV H' ks (spliceR h (joinR rs)) → Q (.ref c) H'
abbrev s_extended : Stmt := top 46
theorem sc_extended : FnScope ["letters", "kept", "runs", "together"] ["letters", "kept", "runs"] (defScope s_extended) := ⟨rfl, rfl, rfl, by decide +kernel, rfl, by decide +kernel, by decide +kernel⟩
theorem ok_extOk {f fR fS fJ CL : Addr} {fd fdR fdS fdJ : FuncData} (F : Fun K "extended" "extended" s_extended f fd) (T : Blt mg) (mM : ∃ u, mg "MOST_RUNS" = some u ∧ RelV (.int 400) u)
    (GR : FnOk P w K mg base CX0 3 fR fdR ["letters", "runs"] (spReqOk K CL)) (AR : At K mg "require_runs" fR fdR ["letters", "runs"])
    (GS : FnOk P w K mg base CX0 1 fS fdS ["head", "tail"] (spSpliced K)) (AS : At K mg "spliced" fS fdS ["head", "tail"])
    (GJ : FnOk P w K mg base CX0 1 fJ fdJ ["runs"] (spJoined K)) (AJ : At K mg "joined" fJ fdJ ["runs"]) :
    FnOk P w K mg base CX0 4 f fd ["letters", "kept", "runs"] (spExtOk K CL) := by
  refine F.ok sc_extended (fun vs H Q E h => ?_) (fun cdv A outer s H vs Q E hr h => ?_)
  · obtain ⟨m, t, e, ys, a, hs, xs, h, rs, rfl, _⟩ := h
    rfl
  · obtain ⟨m, t, e, ys, a, hs, xs, h, rs, rfl, hM, he, hh, lh, ha, hR, ln, hok, lm, k⟩ := h
    have hr1 := hr.mono (j := 1) (by decide)
    refine ⟨_, (pss_cons (ps_expr (pe_call GR hr (by rfl) AR.m AR.k AR.b .nil pass0 (pa_cons (pv 0) (pa_cons (pv 2) pa_nil))))
      (pss_cons (ps_set (i := 3) sc_extended.nd rfl (Or.inl rfl) (pe_call GS hr1 (by rfl) AS.m AS.k AS.b .nil pass0 (pa_cons (pv 1) (pa_cons (pe_call GJ hr1 (by rfl) AJ.m AJ.k AJ.b .nil pass0 (pa_cons (pv 2) pa_nil)) pa_nil))))
      (pss_cons (ps_if (pt_cmpR op_gt (pe_callB call_len_seq (by rfl) T.n_len (by decide +kernel) (pa_cons (pv 3) pa_nil)) (pe_gv rfl mM) (nomark _)) pss_never pss_nil)
      (pss_one (ps_ret (pv 3)))))), ?_⟩
    refine ⟨_, rfl, _, rfl, m, t, ys, a, xs, rs, rfl, hM, ha, hR, by omega, hok, fun H1 s1 => ?_⟩
    refine ⟨_, rfl, _, rfl, a, xs, rs, rfl, seqA_same ha s1, hR.same s1, by omega, fun H2 j js s2 hj hjs => ?_⟩
    have s02 := s1.trans s2
    refine ⟨e, j, hs, js, h, joinR rs, rfl, seqT_same s02 he, SqT.of hj, hh.same s02, hjs, by omega, (by have := joinR_len rs; omega), fun H3 c ks s3 hc hks => ?_⟩
    have s03 := s02.trans s3
    refine ⟨_, rfl, c, ks, rfl, .inr hc, _, _, rfl, rfl, _, rfl, ?_⟩
    have e1 := hks.1
    rw [decide_eq_false (by omega)]
    exact iteF ⟨_, rfl, k H3 c ks s03 hc hks⟩
end
end Ask

namespace Ask
open PySem L2
/-! ### steps of a machine by one letter -/
def itN (f : Nat → Nat) : Nat → Nat → Nat
  | 0, s => s
  | n + 1, s => itN f n (f s)
theorem itN_out (f : Nat → Nat) : ∀ n s, itN f (n + 1) s = f (itN f n s)
  | 0, _ => rfl
  | n + 1, s => itN_out f n (f s)
theorem itN_add (f : Nat → Nat) : ∀ m n s, itN f (m + n) s = itN f n (itN f m s)
  | 0, n, s => by rw [Nat.zero_add]; rfl
  | m + 1, n, s => by rw [Nat.succ_add]; exact itN_add f m n (f s)
theorem itN_lt {f : Nat → Nat} {N : Nat} (h : ∀ s, s < N → f s < N) : ∀ n s, s < N → itN f n s < N
  | 0, _, hs => hs
  | n + 1, s, hs => itN_lt h n (f s) (h s hs)
/-- round a ring -/
theorem itN_ring {f : Nat → Nat} {s p : Nat} (h : itN f p s = s) : ∀ q r, itN f (p * q + r) s = itN f r s
  | 0, r => by rw [Nat.mul_zero, Nat.zero_add]
  | q + 1, r => by rw [Nat.mul_succ, Nat.add_comm (p * q) p, Nat.add_assoc, itN_add, h]; exact itN_ring h q r
theorem itN_mod {f : Nat → Nat} {s p : Nat} (h : itN f p s = s) (n : Nat) : itN f n s = itN f (n % p) s := by
  have e := Nat.div_add_mod n p
  rw [← itN_ring h (n / p) (n % p), e]
theorem sub_len {α : Type} [DecidableEq α] : ∀ (l m : List α), l.Nodup → (∀ x ∈ l, x ∈ m) → l.length ≤ m.length
  | [], _, _, _ => Nat.zero_le _
  | x :: l, m, hn, hs => by
    rw [List.nodup_cons] at hn
    have hx := hs x (List.mem_cons_self ..)
    have := sub_len l (m.erase x) hn.2 fun y hy => (List.mem_erase_of_ne (fun e => by subst e; exact hn.1 hy)).mpr (hs y (List.mem_cons_of_mem _ hy))
    rw [List.length_erase_of_mem hx] at this
    have := List.length_pos_of_mem hx
    rw [List.length_cons]
    omega
abbrev vN (n : Nat) : V := V.int (n : Int)
/-- rows of next states -/
def RowsN (K : PySem.W.Frag) (H : Hp) (a : Addr) (rs : List (List Nat)) : Prop := ∃ xs : List V, SqT K H a xs ∧ xs.length = rs.length ∧ ∀ (i : Nat) (v : V) (r : List Nat), xs[i]? = some v → rs[i]? = some r → ∃ b, v = .ref b ∧ SqT K H b (r.map vN)
theorem RowsN.same {K : PySem.W.Frag} {H H' : Hp} {a : Addr} {rs : List (List Nat)} (h : RowsN K H a rs) (s : Same H H') : RowsN K H' a rs := by
  obtain ⟨xs, h1, h2, h3⟩ := h
  exact ⟨xs, seqT_same s h1, h2, fun i v r e1 e2 => let ⟨b, e, k⟩ := h3 i v r e1 e2; ⟨b, e, seqT_same s k⟩⟩
structure RowsOk (rs : List (List Nat)) (w : Nat) : Prop where
  len : ∀ r ∈ rs, r.length = w
  lt : ∀ r ∈ rs, ∀ n ∈ r, n < rs.length
def mvN (rs : List (List Nat)) (k s : Nat) : Nat := ((rs[s]?).bind fun r => r[k]?).getD 0
theorem mvN_at {rs : List (List Nat)} {w k s : Nat} (h : RowsOk rs w) (hk : k < w) (hs : s < rs.length) : ∃ r, rs[s]? = some r ∧ r[k]? = some (mvN rs k s) ∧ mvN rs k s < rs.length := by
  have e : rs[s]? = some rs[s] := List.getElem?_eq_getElem hs
  have hm := List.mem_of_getElem? e
  have l := h.len _ hm
  have e2 : (rs[s])[k]? = some (rs[s])[k] := List.getElem?_eq_getElem (by omega)
  have em : mvN rs k s = (rs[s])[k] := by
    unfold mvN
    rw [e]
    show ((rs[s])[k]?).getD 0 = _
    rw [e2]
    rfl
  exact ⟨_, e, by rw [em]; exact e2, by rw [em]; exact h.lt _ hm _ (List.mem_of_getElem? e2)⟩
theorem flat_nats (l : List Nat) : (l.map vN).all flatV = true := List.all_eq_true.mpr fun x hx => by
  obtain ⟨n, _, rfl⟩ := List.mem_map.mp hx
  rfl
theorem eqV_nat (m n : Nat) : eqV (vN m) (vN n) = decide (m = n) := by
  show ((m : Int) == (n : Int)) = _
  by_cases h : m = n
  · rw [decide_eq_true h, h]; exact beq_self_eq_true _
  · rw [decide_eq_false h]; exact beq_eq_false_iff_ne.mpr (by omega)
theorem inV_nats (n : Nat) (l : List Nat) : inV (vN n) (l.map vN) = decide (n ∈ l) := by
  unfold inV
  rw [List.any_map]
  by_cases h : n ∈ l
  · rw [decide_eq_true h]
    exact List.any_eq_true.mpr ⟨n, h, by show eqV (vN n) (vN n) = true; rw [eqV_nat]; exact decide_eq_true rfl⟩
  · rw [decide_eq_false h]
    refine List.any_eq_false.mpr fun x hx => ?_
    show ¬ eqV (vN x) (vN n) = true
    rw [eqV_nat]
    exact fun z => h (of_decide_eq_true z ▸ hx)
theorem cutV_from' {xs : List V} {n : Nat} : cutV xs (some (n : Int)) none = xs.drop n := by
  unfold cutV
  rw [HT.sIx_none, HT.sIx_nat]
  by_cases h : n ≤ xs.length
  · rw [Nat.min_eq_left h, List.take_of_length_le (by rw [List.length_drop]; omega)]
  · rw [Nat.min_eq_right (by omega), Nat.sub_self, List.take_zero, List.drop_of_length_le (by omega)]
theorem seqIf_b' {c : TT} {t v u : TS} {D : Ends} {σ : L2.St} {H : Hp} (b : Bool) (R : Hp → Prop) (h : ∀ Q : Bool → Hp → Prop, (∀ H', R H' → Q b H') → c σ H Q) (k : ∀ H', R H' → if b = true then t { D with nx := u D } σ H' else v { D with nx := u D } σ H') : tSeq (tIfS c t v) u D σ H := h _ k
theorem tt_b {t : TT} {σ : L2.St} {H : Hp} {Q : Bool → Hp → Prop} (b : Bool) (R : Hp → Prop) (h : ∀ Q' : Bool → Hp → Prop, (∀ H', R H' → Q' b H') → t σ H Q') (k : ∀ H', R H' → Q b H') : t σ H Q := h Q k
section
variable {P : Program} {w : World} {K : PySem.W.Frag} {mg : Str → Option Value} {base : Heap}
def spLeap (K : PySem.W.Frag) : Sp := fun vs H Q _ => ∃ (a : Addr) (rs : List (List Nat)) (wd s k : Nat) (c : Int), vs = [.ref a, vN s, vN k, .int c] ∧ RowsN K H a rs ∧ RowsOk rs wd ∧ k < wd ∧ s < rs.length ∧ rs.length ≤ 1000 ∧ 0 ≤ c ∧
  ∀ H', Same H H' → Q (vN (itN (mvN rs k) c.toNat s)) H'

abbrev s_leap : Stmt := top 63
theorem sc_leap : FnScope ["moves", "state", "rank", "count", "way", "left", "ring"] ["moves", "state", "rank", "count"] (defScope s_leap) := ⟨rfl, rfl, rfl, by decide +kernel, rfl, by decide +kernel, by decide +kernel⟩
theorem ok_leap {f : Addr} {fd : FuncData} (F : Fun K "leap" "leap" s_leap f fd) (T : Blt mg) : FnOk P w K mg base CX0 1 f fd ["moves", "state", "rank", "count"] (spLeap K) := by
  refine F.ok sc_leap (fun vs H Q E h => ?_) (fun cdv A outer s H vs Q E hr h => ?_)
  · obtain ⟨a, rs, wd, s, k, c, rfl, _⟩ := h
    rfl
  · obtain ⟨a, rs, wd, s0, k, c, rfl, hR, hok, hk, hs, lr, hc, kq⟩ := h
    refine ⟨_, (pss_cons (ps_set (i := 4) sc_leap.nd rfl (Or.inl rfl) (pe_lst pa_nil))
      (pss_cons (ps_while PassesOwn.never (PW.pt (pw_and (pt_cmpR op_notN (pv 1) pe_non (nomark _)) (pw_and (pt_cmpR op_notIn_seq (pv 1) (pv 4) rfl) (pw_and1 (pt_cmpR op_lt (pe_callB call_len_seq (by rfl) T.n_len (by decide +kernel) (pa_cons (pv 4) pa_nil)) (pv 3) (nomark _)))))) (pss_cons (ps_expr (pe_bm PySem.F.plainAttrs_list PySem.F.slot_list_append PySem.F.type_list_append mt_append (pv 4) (pa_cons (pv 1) pa_nil)))
      (pss_one (ps_set (i := 1) sc_leap.nd rfl (Or.inl rfl) (pe_ix ix_seq (pe_ix ix_tup (pv 0) (pv 1) (fun _ _ => rfl)) (pv 2) (fun _ _ => rfl))))))
      (pss_cons (ps_set (i := 5) sc_leap.nd rfl (Or.inl rfl) (pe_op op_sub (pv 3) (pe_callB call_len_seq (by rfl) T.n_len (by decide +kernel) (pa_cons (pv 4) pa_nil))))
      (pss_cons (ps_if (PW.pt (pw_or (pt_cmpR op_eq (pv 5) pe_int (nomark _)) (pw_or1 (pt_cmpR op_isN (pv 1) pe_non (nomark _))))) (pss_one (ps_ret (pv 1))) pss_nil)
      (pss_cons (ps_set (i := 6) sc_leap.nd rfl (Or.inl rfl) (pe_slice sl_list (pv 4) (po_some (pe_bm PySem.F.plainAttrs_list PySem.F.slot_list_index PySem.F.type_list_index mt_index (pv 4) (pa_cons (pv 1) pa_nil))) po_none))
      (pss_one (ps_ret (pe_ix ix_list (pv 6) (pe_op op_mod (pv 5) (pe_callB call_len_seq (by rfl) T.n_len (by decide +kernel) (pa_cons (pv 6) pa_nil))) (fun _ _ => rfl))))))))), ?_⟩
    have z1 : (100000 : Nat) ≤ sizeLine := by decide
    refine ⟨Nat.zero_le _, fun L hL => ?_⟩
    have s1 := Ask.Same.made1 (o := .lst []) (Same.refl H) hL
    have f1 : upd H L (.lst []) L = some (.lst []) := upd_same
    generalize upd H L (.lst []) = H1 at s1 f1 ⊢
    try dsimp only
    have flt : ∀ s, s < rs.length → mvN rs k s < rs.length := fun s h => (mvN_at hok hk h).choose_spec.2.2
    generalize hf : mvN rs k = f at *
    refine ⟨fun m σ' H' => ∃ (i : Nat) (o5 o6 : Option V), m = rs.length + 1 - i ∧ (i : Int) ≤ c ∧ σ' = [some (.ref a), some (vN (itN f i s0)), some (vN k), some (.int c), some (.ref L), o5, o6] ∧ Same H H' ∧ H' L = some (.lst (((List.range i).map fun j => itN f j s0).map vN)) ∧ ((List.range i).map fun j => itN f j s0).Nodup,
      ⟨_, 0, none, none, rfl, by omega, rfl, s1, f1, List.nodup_nil⟩, ?_⟩
    rintro m σ' H3 ⟨i, o5, o6, rfl, hi, rfl, s3, f3, nd⟩
    have il : i ≤ rs.length := by
      have := sub_len ((List.range i).map fun j => itN f j s0) (List.range rs.length) nd fun x hx => by
        obtain ⟨j, _, rfl⟩ := List.mem_map.mp hx
        exact List.mem_range.mpr (itN_lt flt j s0 hs)
      rwa [List.length_map, List.length_range, List.length_range] at this
    have wl : (((List.range i).map fun j => itN f j s0).map vN).length = i := by rw [List.length_map, List.length_map, List.length_range]
    refine tt_b (decide (itN f i s0 ∉ (List.range i).map (fun j => itN f j s0) ∧ (i : Int) < c)) (fun H' => H' = H3) (fun Q' hQ => ?_) ?_
    · replace hQ := hQ H3 rfl
      refine ⟨_, rfl, rfl, _, rfl, ?_⟩
      rw [decide_eq_false (show ¬ vN (itN f i s0) = V.non from fun z => by cases z)]
      refine iteT ⟨_, rfl, _, rfl, L, _, rfl, .inl (SqL.of f3), rfl, flat_nats _, _, rfl, ?_⟩
      rw [inV_nats]
      by_cases hm : itN f i s0 ∈ (List.range i).map (fun j => itN f j s0)
      · rw [decide_eq_false (fun z => z.1 hm)] at hQ
        rw [decide_eq_true hm]
        exact iteF hQ
      · rw [decide_eq_false hm]
        refine iteT ⟨_, rfl, L, _, rfl, .inl (SqL.of f3), _, rfl, _, _, rfl, rfl, _, rfl, ?_⟩
        rw [wl]
        have e : decide ((i : Int) < c) = decide (itN f i s0 ∉ (List.range i).map (fun j => itN f j s0) ∧ (i : Int) < c) := by
          by_cases z : (i : Int) < c
          · rw [decide_eq_true z, decide_eq_true ⟨hm, z⟩]
          · rw [decide_eq_false z, decide_eq_false (fun y => z y.2)]
        rw [e]
        exact hQ
    rintro H3 rfl
    by_cases go : itN f i s0 ∉ (List.range i).map (fun j => itN f j s0) ∧ (i : Int) < c
    · rw [decide_eq_true go]
      refine iteT ⟨_, fun σ' H' h => h, ?_⟩
      have is := itN_lt flt i s0 hs
      have hstep := mvN_at hok hk is
      rw [hf] at hstep
      obtain ⟨r, e1, e2, e3⟩ := hstep
      refine ⟨_, rfl, .inl ⟨rfl, _, SqL.of f3⟩, _, rfl, L, _, _, rfl, rfl, f3, by rw [wl]; omega, ?_⟩
      have s4 : Same H (upd H3 L (.lst (((List.range i).map fun j => itN f j s0).map vN ++ [vN (itN f i s0)]))) := Ask.Same.upd_new s3 hL
      have f4 : upd H3 L (.lst (((List.range i).map fun j => itN f j s0).map vN ++ [vN (itN f i s0)])) L = some (.lst (((List.range (i + 1)).map fun j => itN f j s0).map vN)) := by
        rw [upd_same, List.range_succ, List.map_append, List.map_append]
        rfl
      generalize upd H3 L (.lst (((List.range i).map fun j => itN f j s0).map vN ++ [vN (itN f i s0)])) = H4 at s4 f4 ⊢
      obtain ⟨xs, h1, h2, h3⟩ := hR.same s4
      obtain ⟨v, hv⟩ : ∃ v, xs[itN f i s0]? = some v := ⟨_, List.getElem?_eq_getElem (by omega)⟩
      obtain ⟨b, rfl, hb⟩ := h3 _ _ _ hv e1
      try dsimp only
      refine ⟨_, rfl, _, rfl, a, xs, _, .ref b, rfl, rfl, h1, at_by (j := itN f i s0) rfl hv, _, rfl, .inr (.inl ⟨b, _, _, _, rfl, rfl, hb, at_by (j := k) rfl (by rw [List.getElem?_map, e2]; rfl), ?_⟩)⟩
      refine ⟨_, ?_, i + 1, o5, o6, rfl, by omega, by rw [itN_out]; rfl, s4, f4, ?_⟩
      · omega
      · rw [List.range_succ, List.map_append, List.nodup_append]
        refine ⟨nd, by simp, fun x hx y hy e => ?_⟩
        simp only [List.map_cons, List.map_nil, List.mem_singleton] at hy
        rw [e, hy] at hx
        exact go.1 hx
    rw [decide_eq_false go]
    refine iteF ?_
    try dsimp only
    refine ⟨_, rfl, _, rfl, L, _, rfl, .inl (SqL.of f3), _, _, rfl, rfl, ?_⟩
    rw [wl]
    obtain ⟨cn, rfl⟩ : ∃ n : Nat, c = (n : Int) := ⟨c.toNat, by omega⟩
    rw [Int.toNat_natCast] at kq
    have icn : i ≤ cn := by omega
    try dsimp only
    refine seqIf_b' (decide (cn = i)) (fun H' => H' = H3) (fun Q' hQ => ?_) ?_
    · refine ⟨_, rfl, rfl, _, rfl, ?_⟩
      have e : decide (V.int ((cn : Int) - (i : Nat)) = V.int 0) = decide (cn = i) := by
        by_cases z : cn = i
        · rw [decide_eq_true z, decide_eq_true (by rw [z, Int.sub_self])]
        · rw [decide_eq_false z, decide_eq_false (fun y => z (by have := V.int.inj y; omega))]
      rw [e]
      have := hQ H3 rfl
      by_cases z : cn = i
      · rw [decide_eq_true z] at this ⊢
        exact iteT this
      · rw [decide_eq_false z] at this ⊢
        refine iteF ⟨_, rfl, rfl, _, rfl, ?_⟩
        rw [decide_eq_false (show ¬ vN (itN f i s0) = V.non from fun z => by cases z)]
        exact this
    rintro H3 rfl
    by_cases z : cn = i
    · rw [decide_eq_true z]
      refine iteT ⟨_, rfl, ?_⟩
      subst z
      exact kq _ s3
    rw [decide_eq_false z]
    refine iteF ?_
    try dsimp only [tNext]
    have hm : itN f i s0 ∈ (List.range i).map (fun j => itN f j s0) := Decidable.byContradiction fun y => go ⟨y, by omega⟩
    obtain ⟨j, hj, ej⟩ := List.mem_map.mp hm
    have hj : j < i := List.mem_range.mp hj
    have at_j : ∀ {m : Nat}, m < i → (((List.range i).map fun j => itN f j s0).map vN)[m]? = some (vN (itN f m s0)) := fun {m} h => by
      rw [List.getElem?_map, List.getElem?_map, List.getElem?_range h]
      rfl
    have uniq : ∀ m, m < j → itN f m s0 ≠ itN f i s0 := fun m hmj e => by
      have hp := List.pairwise_map.mp nd
      have := List.pairwise_iff_getElem.mp hp m j (by rw [List.length_range]; omega) (by rw [List.length_range]; omega) hmj
      rw [List.getElem_range, List.getElem_range] at this
      exact this (e.trans ej.symm)
    refine ⟨_, rfl, _, rfl, .inl ⟨rfl, _, SqL.of f3⟩, _, rfl, L, _, _, j, _, rfl, rfl, SqL.of f3, rfl, flat_nats _, at_j hj, by rw [eqV_nat]; exact decide_eq_true ej, fun m z' h1 h2 => ?_, _, rfl, L, _, rfl, SqL.of f3, fun u hu => ?_⟩
    · rw [at_j (by omega)] at h2
      cases h2
      rw [eqV_nat]
      exact decide_eq_false (uniq m h1)
    have su := Ask.Same.made1 (o := .lst (cutV (((List.range i).map fun j => itN f j s0).map vN) (some (j : Int)) none)) s3 hu
    have fu : upd H3 u (.lst (cutV (((List.range i).map fun j => itN f j s0).map vN) (some (j : Int)) none)) u = some (.lst ((((List.range i).map fun j => itN f j s0).map vN).drop j)) := by rw [upd_same, cutV_from']
    generalize upd H3 u (.lst (cutV (((List.range i).map fun j => itN f j s0).map vN) (some (j : Int)) none)) = H4 at su fu ⊢
    have dl : ((((List.range i).map fun j => itN f j s0).map vN).drop j).length = i - j := by rw [List.length_drop, wl]
    have hp : itN f (i - j) (itN f j s0) = itN f j s0 := by
      rw [← itN_add, show j + (i - j) = i by omega]
      exact ej.symm
    have lt : (cn - i) % (i - j) < i - j := Nat.mod_lt _ (by omega)
    have val : itN f cn s0 = itN f (j + (cn - i) % (i - j)) s0 := by
      rw [show cn = i + (cn - i) by omega, itN_add, show i + (cn - i) - i = cn - i by omega, ← ej, itN_mod hp, itN_add]
    have ei : ((cn : Int) - (i : Nat)) % ((i - j : Nat) : Int) = (((cn - i) % (i - j) : Nat) : Int) := by
      rw [show (cn : Int) - (i : Nat) = ((cn - i : Nat) : Int) by omega, Int.natCast_emod]
    try dsimp only
    refine ⟨_, rfl, _, rfl, _, rfl, u, _, rfl, .inl (SqL.of fu), _, _, rfl, rfl, by rw [dl]; omega, u, _, _, vN (itN f cn s0), rfl, rfl, SqL.of fu, ?_, kq _ su⟩
    rw [dl, ei]
    refine at_by (j := (cn - i) % (i - j)) rfl ?_
    rw [List.getElem?_drop, at_j (by omega), val]
end
end Ask

namespace Ask
open PySem L2
def rTupS (K : PySem.W.Frag) : List V → Hp → VK → Prop := fun xs H Q => ∃ p ys, xs = [.ref p] ∧ ((SqL K H p ys ∧ ∀ l, H l = none → Q (.ref l) (upd H l (.tup ys))) ∨ (SqT K H p ys ∧ Q (.ref p) H))
theorem call_tupS {X : Cx} : CallR X (.type "tuple") (rTupS X.K) := call_tuple_of
theorem sqT_mut {K : PySem.W.Frag} {H : Hp} {b D : Addr} {xs us vs : List V} (h : SqT K H b xs) (e : H D = some (.lst us)) : SqT K (upd H D (.lst vs)) b xs := by
  rcases h with (h | ⟨o, h⟩) | h
  · exact .inl (.inl (by rw [upd_ne (fun z => by rw [z, e] at h; cases h)]; exact h))
  · exact .inl (.inr ⟨o, by rw [upd_ne (fun z => by rw [z, e] at h; cases h)]; exact h⟩)
  · exact .inr h
/-- what is never come to needs no rule -/
theorem pss_no {X : Cx} {ss : List Stmt} : PSs X ss (fun _ _ _ => False) := ⟨fun _ _ _ _ _ _ h => h.elim⟩
def RowsV (K : PySem.W.Frag) (H : Hp) (xs : List V) (rs : List (List Nat)) : Prop := xs.length = rs.length ∧ ∀ (i : Nat) (v : V) (r : List Nat), xs[i]? = some v → rs[i]? = some r → ∃ b, v = .ref b ∧ (SqL K H b (r.map vN) ∨ SqT K H b (r.map vN))
theorem RowsV.same {K : PySem.W.Frag} {H H' : Hp} {xs : List V} {rs : List (List Nat)} (h : RowsV K H xs rs) (s : Same H H') : RowsV K H' xs rs :=
  ⟨h.1, fun i v r e1 e2 => let ⟨b, e, k⟩ := h.2 i v r e1 e2; ⟨b, e, seqA_same k s⟩⟩
section
variable {P : Program} {w : World} {K : PySem.W.Frag} {mg : Str → Option Value} {base : Heap}
def spIsIndex : Sp := fun vs H Q _ => ∃ (n : Nat) (m : Int), vs = [vN n, .int m] ∧ Q (.bl (decide ((n : Int) < m))) H

abbrev s_is_index : Stmt := top 6
theorem sc_is_index : FnScope ["value", "many"] ["value", "many"] (defScope s_is_index) := ⟨rfl, rfl, rfl, by decide +kernel, rfl, by decide +kernel, by decide +kernel⟩
theorem ok_isIndex {f fW : Addr} {fd fdW : FuncData} (F : Fun K "is_index" "is_index" s_is_index f fd)
    (G_is_whole : FnOk P w K mg base CX0 1 fW fdW ["value"] (spWhole K)) (A_is_whole : At K mg "is_whole" fW fdW ["value"]) :
    FnOk P w K mg base CX0 2 f fd ["value", "many"] spIsIndex := by
  refine F.ok sc_is_index (fun vs H Q E h => ?_) (fun cdv A outer s H vs Q E hr h => ?_)
  · obtain ⟨n, m, rfl, _⟩ := h
    rfl
  · obtain ⟨n, m, rfl, kq⟩ := h
    have h_is_whole := hr.mono (j := 1) (by decide)
    refine ⟨_, (pss_one (ps_ret (pe_and (pe_call G_is_whole (by exact h_is_whole) (by rfl) A_is_whole.m A_is_whole.k A_is_whole.b .nil pass0 (pa_cons (pv 0) pa_nil)) (pe_one (pe_chain op_le op_lt pe_int (pv 0) (pv 1)))))), ?_⟩
    refine ⟨_, rfl, _, _, true, false, rfl, .base (.int _), kit_ty (by show kitB "int" "int" = some true; decide +kernel), kit_ty (by show kitB "int" "bool" = some false; decide +kernel), ?_⟩
    refine ⟨_, rfl, iteT ?_⟩
    refine ⟨_, rfl, _, _, rfl, rfl, _, rfl, ?_⟩
    rw [decide_eq_true (show (0 : Int) ≤ (n : Int) by omega)]
    exact iteT ⟨_, rfl, _, _, rfl, rfl, kq⟩
def spTold (K : PySem.W.Frag) (CL : Addr) : Sp := fun vs H Q _ => ∃ (m t a : Addr) (ys : List Str) (xs : List V) (rs : List (List Nat)), vs = [.ref m, .ref a] ∧ Mde CL H m t ys ∧ ys.length ≤ 1000 ∧ (SqL K H a xs ∨ SqT K H a xs) ∧ RowsV K H xs rs ∧ RowsOk rs ys.length ∧ 1 ≤ rs.length ∧ rs.length ≤ 40 ∧
  ∀ (H' : Hp) (q : Addr), Same H H' → RowsN K H' q rs → Q (.ref q) H'

abbrev s_told_rows : Stmt := top 66
theorem sc_told_rows : FnScope ["letters", "rows", "many", "index", "row", "state"] ["letters", "rows"] (defScope s_told_rows) := ⟨rfl, rfl, rfl, by decide +kernel, rfl, by decide +kernel, by decide +kernel⟩
theorem ok_told {f fN fI fL CL : Addr} {fd fdN fdI fdL : FuncData} (F : Fun K "told_rows" "told_rows" s_told_rows f fd) (T : Blt mg) (mM : ∃ u, mg "MOST_STATES" = some u ∧ RelV (.int 40) u)
    (G_is_list_of : FnOk P w K mg base CX0 1 fL fdL ["value", "many"] (spListOf K)) (A_is_list_of : At K mg "is_list_of" fL fdL ["value", "many"])
    (G_is_index : FnOk P w K mg base CX0 2 fI fdI ["value", "many"] spIsIndex) (A_is_index : At K mg "is_index" fI fdI ["value", "many"])
    (GN : FnOk P w K mg base CX0 1 fN fdN ["self"] (spLen CL)) (bN : Binds K fdN ["self"] []) (iN : PySem.W.findIn K (.ref CL) "__len__" = some (some (.ref fN))) (isN : PySem.W.isFn K (.ref fN) = true) :
    FnOk P w K mg base CX0 3 f fd ["letters", "rows"] (spTold K CL) := by
  refine F.ok sc_told_rows (fun vs H Q E h => ?_) (fun cdv A outer s H vs Q E hr h => ?_)
  · obtain ⟨m, t, a, ys, xs, rs, rfl, _⟩ := h
    rfl
  · obtain ⟨m, t, a, ys, xs, rs, rfl, hM, yl, hS, hR, hok, r1, r2, kq⟩ := h
    have h_is_list_of := hr.mono (j := 1) (by decide)
    have h_is_index := hr.mono (j := 2) (by decide)
    have h2 := hr.mono (j := 2) (by decide)
    refine ⟨_, (pss_cons (ps_set (i := 2) sc_told_rows.nd rfl (Or.inr rfl) (pe_callB call_len_seq (by rfl) T.n_len (by decide +kernel) (pa_cons (pv 1) pa_nil)))
      (pss_cons (ps_if (pt_not (pt_chain op_le op_le pe_int (pv 2) (pe_gv (v := .int 40) rfl mM))) pss_no pss_nil)
      (pss_cons (ps_for PassesOwn.never rfl (pi_enumA (by rfl) T.n_enumerate (pa_cons (pv 1) pa_nil)) (pg_tup rfl (pgs_cons (pg_name (i := 3) sc_told_rows.nd rfl (Or.inl rfl)) (pgs_cons (pg_name (i := 4) sc_told_rows.nd rfl (Or.inl rfl)) pgs_nil))) (pss_one (ps_if (PW.pt (pw_or (pt_not (pt_val (pe_call G_is_list_of (by exact h_is_list_of) (by rfl) A_is_list_of.m A_is_list_of.k A_is_list_of.b .nil pass0 (pa_cons (pv 4) (pa_cons (pe_callB (call_lenI (C := CL) (E := E0) GN h2 bN pass0 iN isN) (by rfl) T.n_len (by decide +kernel) (pa_cons (pv 0) pa_nil)) pa_nil))))) (pw_or1 (pt_not (pt_val (pe_callB (cr_all rfl) (by rfl) T.n_all (by decide +kernel) (pa_cons (pe_lc (own := [("state", 5)]) rfl sc_told_rows.nd (pi_or (pi_list (pv 4)) (pi_tup (pv 4))) (blkOk_by (N := ["letters", "rows", "many", "index", "row", "state"]) (sc := defScope s_told_rows) (by decide +kernel)) (fun _ _ _ _ _ => (pg_name (i := 5) sc_told_rows.nd rfl (Or.inl rfl))) (fun _ _ _ _ _ => pts_nil) (fun _ _ _ _ _ => (pe_call G_is_index (by exact h_is_index) (by rfl) A_is_index.m A_is_index.k A_is_index.b .nil pass0 (pa_cons (pv 5) (pa_cons (pv 2) pa_nil))))) pa_nil))))))) pss_no pss_nil)))
      (pss_one (ps_ret (pe_callTy call_tuple_of (by rfl) T.n_tuple (by decide +kernel) (pa_cons (pe_lc (own := [("row", 4)]) rfl sc_told_rows.nd (pi_or (pi_list (pv 1)) (pi_tup (pv 1))) (blkOk_by (N := ["letters", "rows", "many", "index", "row", "state"]) (sc := defScope s_told_rows) (by decide +kernel)) (fun _ _ _ _ _ => (pg_name (i := 4) sc_told_rows.nd rfl (Or.inl rfl))) (fun _ _ _ _ _ => pts_nil) (fun _ _ _ _ _ => (pe_callTy (show CallR _ _ (rTupS K) from call_tupS) (by rfl) T.n_tuple (by decide +kernel) (pa_cons (pv 4) pa_nil)))) pa_nil))))))), ?_⟩
    have z1 : (100000 : Nat) ≤ sizeLine := by decide
    have lx := hR.1
    refine ⟨_, rfl, a, xs, rfl, hS, ?_⟩
    try dsimp only
    refine ⟨_, rfl, _, _, rfl, rfl, _, rfl, ?_⟩
    rw [decide_eq_true (show (1 : Int) ≤ (xs.length : Nat) by omega)]
    refine iteT ⟨_, _, rfl, rfl, _, rfl, ?_⟩
    rw [decide_eq_true (show ((xs.length : Nat) : Int) ≤ 40 by omega)]
    refine iteF ?_
    try dsimp only [tNext]
    obtain ⟨J, G, wk, hG, fits⟩ : ∃ (J : It) (G : Hp → Prop), Walk J xs.length G (YPair (fun i => some (.int (i : Nat))) (fun i => xs[i]?)) ∧ (∀ H', Same H H' → G H') ∧
        ∀ (R : It → Hp → Prop), R J H → iEnumA K (tCons (tVar 1) tNil) [some (.ref m), some (.ref a), some (.int (xs.length : Nat)), none, none, none] H R := by
      rcases hS with hS | hS
      · exact ⟨Ite K a, _, walk_enum, fun H' s' => s'.seq hS, fun R r => ⟨_, rfl, a, xs, rfl, .inl ⟨hS, r⟩⟩⟩
      · exact ⟨IteT K a, _, walk_enumT, fun H' s' => seqT_same s' hS, fun R r => ⟨_, rfl, a, xs, rfl, .inr ⟨hS, r⟩⟩⟩
    refine for_any fits wk (fun i σ' H' => ∃ o3 o4 o5 : Option V, σ' = [some (.ref m), some (.ref a), some (.int (xs.length : Nat)), o3, o4, o5] ∧ Same H H') ⟨none, none, none, rfl, Same.refl H⟩ (fun i σ' H' _ ⟨_, _, _, _, s'⟩ => hG H' s') ?_ ?_
    · rintro i x σ' H2 H3 hi ⟨o3, o4, o5, rfl, s2⟩ ⟨t2, x0, y0, rfl, ht, rfl, ex, ey⟩
      cases ex
      replace ey : xs[i]? = some y0 := ey
      obtain ⟨r, hri⟩ : ∃ r, rs[i]? = some r := ⟨_, List.getElem?_eq_getElem (by omega)⟩
      have rl := hok.len r (List.mem_of_getElem? hri)
      have rlt := hok.lt r (List.mem_of_getElem? hri)
      have s3 := Ask.Same.made1 (o := .tup [.int (i : Nat), y0]) s2 ht
      have ht3 : upd H2 t2 (.tup [.int (i : Nat), y0]) t2 = some (.tup [.int (i : Nat), y0]) := upd_same
      generalize upd H2 t2 (.tup [.int (i : Nat), y0]) = H4 at s3 ht3 ⊢
      obtain ⟨b, rfl, hb⟩ := (hR.same s3).2 i y0 r ey hri
      refine ⟨t2, _, rfl, SqT.of ht3, rfl, _, _, rfl, _, _, rfl, rfl, ?_⟩
      have hty : ∃ ty, TyX K H4 (.ref b) ty ∧ PySem.W.kitAny K ty [.type "list", .type "tuple"] = some true := by
        rcases hb with hb | hb
        · exact ⟨_, ty_list hb, kitAny_l⟩
        · exact ⟨_, ty_tup hb, kitAny_t⟩
      obtain ⟨ty, hty, hka⟩ := hty
      have md := hM.same s3
      obtain ⟨dx, ob, m1, _⟩ := id md
      refine ⟨_, rfl, _, rfl, m, dx, _, rfl, m1, m, t, ys, rfl, md, yl, ys.length, rfl, by omega, ?_⟩
      refine ⟨.ref b, ty, _, rfl, hty, .inr ⟨hka, b, _, rfl, hb, fun H5 s5 => ⟨_, rfl, ?_⟩⟩⟩
      rw [decide_eq_true (show (((r.map vN).length : Nat) : Int) = (ys.length : Nat) by rw [List.length_map, rl])]
      refine iteF ?_
      have s35 := s3.trans s5
      have hb5 := seqA_same hb s5
      have l1000 : r.length ≤ 1000 := by omega
      rcases hb5 with hb5 | hb5
      all_goals
        first
          | refine .inl ⟨_, rfl, b, rfl, ⟨_, hb5⟩, fun D hD => lc_it (walk_list (xs := r.map vN)) (fun i H' => Same H5 H' ∧ H' D = some (.lst ((List.replicate i true).map V.bl))) ⟨Ask.Same.upd_new (Same.refl H5) hD, upd_same⟩ (fun i H' _ hh => hh.1.seq hb5) ?_ ?_⟩
          | refine .inr ⟨_, rfl, b, rfl, ⟨_, hb5⟩, fun D hD => lc_it (walk_tup (xs := r.map vN)) (fun i H' => Same H5 H' ∧ H' D = some (.lst ((List.replicate i true).map V.bl))) ⟨Ask.Same.upd_new (Same.refl H5) hD, upd_same⟩ (fun i H' _ hh => seqT_same hh.1 hb5) ?_ ?_⟩
        · rintro j v H6' H6 hj ⟨s6, eD⟩ ⟨rfl, hx⟩
          rw [List.getElem?_map] at hx
          cases hz : r[j]? with
          | none => rw [hz] at hx; cases hx
          | some n =>
            rw [hz] at hx
            cases hx
            have nl := rlt n (List.mem_of_getElem? hz)
            refine ⟨rfl, _, rfl, _, rfl, n, _, rfl, ?_⟩
            rw [decide_eq_true (show (n : Int) < (xs.length : Nat) by omega)]
            rw [List.length_map] at hj
            refine ⟨_, eD, by rw [List.length_map, List.length_replicate]; omega, Ask.Same.upd_new s6 hD, ?_⟩
            rw [upd_same, List.replicate_succ', List.map_append]
            rfl
        · rintro H6 ⟨s6, eD⟩
          refine ⟨D, _, rfl, SqL.of eD, _, rfl, ?_⟩
          rw [show (List.replicate (r.map vN).length true).all id = true from List.all_eq_true.mpr fun x hx => by rw [List.eq_of_mem_replicate hx]; rfl]
          exact iteF ⟨_, _, _, rfl, s35.trans s6⟩
    · rintro σ' H2 ⟨o3, o4, o5, rfl, s2⟩
      try dsimp only
      have hS2 := seqA_same hS s2
      have hR2 := hR.same s2
      rcases hS2 with hS2 | hS2
      all_goals
        first
          | refine .inl ⟨_, rfl, a, rfl, ⟨_, hS2⟩, fun D hD => lc_it (walk_list (xs := xs)) (fun i H' => Same H2 H' ∧ ∃ us : List V, H' D = some (.lst us) ∧ us.length = i ∧ ∀ (j : Nat) (v : V) (r : List Nat), us[j]? = some v → rs[j]? = some r → ∃ b, v = .ref b ∧ SqT K H' b (r.map vN)) ⟨Ask.Same.upd_new (Same.refl H2) hD, [], upd_same, rfl, fun j v r h => by simp at h⟩ (fun i H' _ hh => hh.1.seq hS2) ?_ ?_⟩
          | refine .inr ⟨_, rfl, a, rfl, ⟨_, hS2⟩, fun D hD => lc_it (walk_tup (xs := xs)) (fun i H' => Same H2 H' ∧ ∃ us : List V, H' D = some (.lst us) ∧ us.length = i ∧ ∀ (j : Nat) (v : V) (r : List Nat), us[j]? = some v → rs[j]? = some r → ∃ b, v = .ref b ∧ SqT K H' b (r.map vN)) ⟨Ask.Same.upd_new (Same.refl H2) hD, [], upd_same, rfl, fun j v r h => by simp at h⟩ (fun i H' _ hh => seqT_same hh.1 hS2) ?_ ?_⟩
        · rintro j v H6' H6 hj ⟨s6, us, eD, ul, each⟩ ⟨rfl, hx⟩
          obtain ⟨r, hri⟩ : ∃ r, rs[j]? = some r := ⟨_, List.getElem?_eq_getElem (by omega)⟩
          have rl := hok.len r (List.mem_of_getElem? hri)
          obtain ⟨b, rfl, hb⟩ := (hR2.same s6).2 j v r hx hri
          have fin : ∀ (H7 : Hp) (c : Addr), Same H6 H7 → SqT K H7 c (r.map vN) → ∃ acc, H7 D = some (.lst acc) ∧ acc.length < sizeLine ∧ Same H2 (upd H7 D (.lst (acc ++ [.ref c]))) ∧ ∃ us : List V, upd H7 D (.lst (acc ++ [.ref c])) D = some (.lst us) ∧ us.length = j + 1 ∧ ∀ (i : Nat) (v : V) (r : List Nat), us[i]? = some v → rs[i]? = some r → ∃ b, v = .ref b ∧ SqT K (upd H7 D (.lst (acc ++ [.ref c]))) b (r.map vN) := fun H7 c s7 hc => by
            have eD7 := s7 _ _ eD
            refine ⟨us, eD7, by omega, Ask.Same.upd_new (s6.trans s7) hD, us ++ [.ref c], upd_same, by rw [List.length_append, ul]; rfl, fun i v r' h1 h2 => ?_⟩
            rcases Nat.lt_or_ge i us.length with l | l
            · rw [List.getElem?_append_left l] at h1
              obtain ⟨b', e, k⟩ := each i v r' h1 h2
              exact ⟨b', e, sqT_mut (seqT_same s7 k) eD7⟩
            · rw [List.getElem?_append_right l] at h1
              cases e : i - us.length with
              | zero =>
                rw [e] at h1
                cases h1
                have : i = j := by omega
                subst this
                rw [hri] at h2
                cases h2
                exact ⟨c, rfl, sqT_mut hc eD7⟩
              | succ n => rw [e] at h1; simp at h1
          refine ⟨rfl, _, rfl, b, r.map vN, rfl, ?_⟩
          rcases hb with hb | hb
          · exact .inl ⟨hb, fun c hc => fin _ c (Ask.Same.made1 (Same.refl H6) hc) (SqT.of upd_same)⟩
          · exact .inr ⟨hb, fin H6 b (Same.refl H6) hb⟩
        · rintro H6 ⟨s6, us, eD, ul, each⟩
          refine ⟨D, us, rfl, .inl ⟨SqL.of eD, fun q hq => ?_⟩⟩
          have s7 := Ask.Same.made1 (o := .tup us) (Same.refl H6) hq
          exact kq _ q ((s2.trans s6).trans s7) ⟨us, SqT.of upd_same, by omega, fun i v r h1 h2 => let ⟨b, e, k⟩ := each i v r h1 h2; ⟨b, e, seqT_same s7 k⟩⟩
end
end Ask

namespace Ask
open PySem L2
section
variable {P : Program} {w : World} {K : PySem.W.Frag} {mg : Str → Option Value} {base : Heap}
/-! ### answers that are told -/
def spIsAns : Sp := fun vs H Q _ => ∃ z : Str, vs = [.str z] ∧ z.length ≤ 500 ∧ ∀ H', Same H H' → Q (.bl (shortL z.cps.toList)) H'
abbrev s_is_answer : Stmt := top 54
theorem sc_is_answer : FnScope ["value"] ["value"] (defScope s_is_answer) := ⟨rfl, rfl, rfl, by decide +kernel, rfl, by decide +kernel, by decide +kernel⟩
theorem ok_isAns {f fS : Addr} {fd fdS : FuncData} (F : Fun K "is_answer" "is_answer" s_is_answer f fd)
    (G_is_short_word : FnOk P w K mg base CX0 1 fS fdS ["value"] spShort) (A_is_short_word : At K mg "is_short_word" fS fdS ["value"]) :
    FnOk P w K mg base CX0 2 f fd ["value"] spIsAns := by
  refine F.ok sc_is_answer (fun vs H Q E h => ?_) (fun cdv A outer s H vs Q E hr h => ?_)
  · obtain ⟨z, rfl, _⟩ := h
    rfl
  · obtain ⟨z, rfl, zl, kq⟩ := h
    have h_is_short_word := hr.mono (j := 1) (by decide)
    exact ⟨_, (pss_one (ps_ret (pe_call G_is_short_word (by exact h_is_short_word) (by rfl) A_is_short_word.m A_is_short_word.k A_is_short_word.b .nil pass0 (pa_cons (pv 0) pa_nil)))), _, rfl, z, rfl, zl, kq⟩
def spTAns (K : PySem.W.Frag) : Sp := fun vs H Q _ => ∃ (a : Addr) (ans : List Str), vs = [.ref a, .int (ans.length : Nat)] ∧ (SqL K H a (ans.map V.str) ∨ SqT K H a (ans.map V.str)) ∧ ans.length ≤ 1000 ∧ (∀ z ∈ ans, shortL z.cps.toList = true ∧ z.length ≤ 500) ∧
  ∀ (H' : Hp) (q : Addr), Same H H' → SqT K H' q (ans.map V.str) → Q (.ref q) H'

abbrev s_told_answers : Stmt := top 67
theorem sc_told_answers : FnScope ["answers", "many", "index", "answer"] ["answers", "many"] (defScope s_told_answers) := ⟨rfl, rfl, rfl, by decide +kernel, rfl, by decide +kernel, by decide +kernel⟩
theorem ok_tans {f fA : Addr} {fd fdA : FuncData} (F : Fun K "told_answers" "told_answers" s_told_answers f fd) (T : Blt mg)
    (G_is_answer : FnOk P w K mg base CX0 2 fA fdA ["value"] spIsAns) (A_is_answer : At K mg "is_answer" fA fdA ["value"]) :
    FnOk P w K mg base CX0 3 f fd ["answers", "many"] (spTAns K) := by
  refine F.ok sc_told_answers (fun vs H Q E h => ?_) (fun cdv A outer s H vs Q E hr h => ?_)
  · obtain ⟨a, ans, rfl, _⟩ := h
    rfl
  · obtain ⟨a, ans, rfl, hS, la, ok, kq⟩ := h
    have h_is_answer := hr.mono (j := 2) (by decide)
    refine ⟨_, (pss_cons (ps_if (pt_cmpR op_ne (pe_callB call_len_seq (by rfl) T.n_len (by decide +kernel) (pa_cons (pv 0) pa_nil)) (pv 1) (nomark _)) pss_no pss_nil)
      (pss_cons (ps_for PassesOwn.never rfl (pi_enumA (by rfl) T.n_enumerate (pa_cons (pv 0) pa_nil)) (pg_tup rfl (pgs_cons (pg_name (i := 2) sc_told_answers.nd rfl (Or.inl rfl)) (pgs_cons (pg_name (i := 3) sc_told_answers.nd rfl (Or.inl rfl)) pgs_nil))) (pss_one (ps_if (pt_not (pt_val (pe_call G_is_answer (by exact h_is_answer) (by rfl) A_is_answer.m A_is_answer.k A_is_answer.b .nil pass0 (pa_cons (pv 3) pa_nil)))) pss_no pss_nil)))
      (pss_one (ps_ret (pe_callTy call_tuple_of (by rfl) T.n_tuple (by decide +kernel) (pa_cons (pv 0) pa_nil)))))), ?_⟩
    refine ⟨_, rfl, a, _, rfl, hS, _, rfl, rfl, _, rfl, ?_⟩
    rw [decide_eq_true (by rw [List.length_map])]
    refine iteF ?_
    try dsimp only [tNext]
    obtain ⟨J, G, wk, hG, fits⟩ : ∃ (J : It) (G : Hp → Prop), Walk J (ans.map V.str).length G (YPair (fun i => some (.int (i : Nat))) (fun i => (ans.map V.str)[i]?)) ∧ (∀ H', Same H H' → G H') ∧
        ∀ (R : It → Hp → Prop), R J H → iEnumA K (tCons (tVar 0) tNil) [some (.ref a), some (.int (ans.length : Nat)), none, none] H R := by
      rcases hS with hS | hS
      · exact ⟨Ite K a, _, walk_enum, fun H' s' => s'.seq hS, fun R r => ⟨_, rfl, a, _, rfl, .inl ⟨hS, r⟩⟩⟩
      · exact ⟨IteT K a, _, walk_enumT, fun H' s' => seqT_same s' hS, fun R r => ⟨_, rfl, a, _, rfl, .inr ⟨hS, r⟩⟩⟩
    refine for_any fits wk (fun i σ' H' => ∃ o3 o4 : Option V, σ' = [some (.ref a), some (.int (ans.length : Nat)), o3, o4] ∧ Same H H') ⟨none, none, rfl, Same.refl H⟩ (fun i σ' H' _ ⟨_, _, _, s'⟩ => hG H' s') ?_ ?_
    · rintro i x σ' H2 H3 hi ⟨o3, o4, rfl, s2⟩ ⟨t2, x0, y0, rfl, ht, rfl, ex, ey⟩
      cases ex
      replace ey : (ans.map V.str)[i]? = some y0 := ey
      rw [List.getElem?_map] at ey
      cases hz : ans[i]? with
      | none => rw [hz] at ey; cases ey
      | some z =>
        rw [hz] at ey
        cases ey
        obtain ⟨k1, k2⟩ := ok z (List.mem_of_getElem? hz)
        have s3 := Ask.Same.made1 (o := .tup [.int (i : Nat), .str z]) s2 ht
        have ht3 : upd H2 t2 (.tup [.int (i : Nat), .str z]) t2 = some (.tup [.int (i : Nat), .str z]) := upd_same
        refine ⟨t2, _, rfl, SqT.of ht3, rfl, _, _, rfl, _, _, rfl, rfl, ?_⟩
        refine ⟨_, rfl, z, rfl, k2, fun H5 s5 => ⟨_, rfl, ?_⟩⟩
        rw [k1]
        exact iteF ⟨_, _, rfl, s3.trans s5⟩
    · rintro σ' H2 ⟨o3, o4, rfl, s2⟩
      have hS2 := seqA_same hS s2
      refine ⟨_, rfl, a, ans.map V.str, rfl, ?_⟩
      rcases hS2 with hS2 | hS2
      · exact .inl ⟨hS2, fun q hq => kq _ q (s2.trans (Ask.Same.made1 (Same.refl H2) hq)) (SqT.of upd_same)⟩
      · exact .inr ⟨hS2, kq H2 a s2 hS2⟩
end
end Ask

namespace Ask
open PySem L2
theorem kit_other {K : PySem.W.Frag} {T : String} {C : Addr} (h1 : PySem.W.isClsIn K C = true) (h2 : PySem.W.typeIn K (.ref C) = some (.type "type")) (h3 : PySem.W.subIn K (.type T) (.ref C) = some false) : PySem.W.kitOne K (.type T) (.ref C) = some false := by
  unfold PySem.W.kitOne
  rw [if_neg (by simp)]
  have e2 : ((PySem.W.clsIn K C).isSome && PySem.W.typeIn K (.ref C) == some (.type "type")) = true := by
    have h2' : (PySem.W.clsIn K C).isSome = true := h1
    rw [h2', h2] <;> rfl
  show (if ((PySem.W.clsIn K C).isSome && PySem.W.typeIn K (.ref C) == some (.type "type")) = true then PySem.W.subIn K (.type T) (.ref C) else none) = some false
  rw [if_pos e2]
  exact h3
theorem sub_list {K : PySem.W.Frag} {C : Addr} : PySem.W.subIn K (.type "list") (.ref C) = some false := by
  show (fastBuiltinMro "list").map (·.contains (.ref C)) = some false
  have e : fastBuiltinMro "list" = some [.type "list", .type "object"] := by decide +kernel
  rw [e]
  rfl
theorem sub_tuple {K : PySem.W.Frag} {C : Addr} : PySem.W.subIn K (.type "tuple") (.ref C) = some false := by
  show (fastBuiltinMro "tuple").map (·.contains (.ref C)) = some false
  have e : fastBuiltinMro "tuple" = some [.type "tuple", .type "object"] := by decide +kernel
  rw [e]
  rfl
/-- a class that is another one than list and tuple -/
structure OnC (K : PySem.W.Frag) (mg : Str → Option Value) (x : Str) (C : Addr) : Prop where
  m : mg x = some (.ref C)
  i : PySem.W.isClsIn K C = true
  t : PySem.W.typeIn K (.ref C) = some (.type "type")
theorem ty_seqA {K : PySem.W.Frag} {mg : Str → Option Value} {x : Str} {C a : Addr} {H : Hp} {xs : List V} (h : SqL K H a xs ∨ SqT K H a xs) (o : OnC K mg x C) : ∃ ty, TyX K H (.ref a) ty ∧ PySem.W.kitOne K ty (.ref C) = some false := by
  rcases h with h | h
  · exact ⟨_, ty_list h, kit_other o.i o.t sub_list⟩
  · exact ⟨_, ty_tup h, kit_other o.i o.t sub_tuple⟩
/-- the attributes that a history is given -/
structure HsC (K : PySem.W.Frag) (C : Addr) : Prop where
  c : Cls K C
  a1 : NoAttr K C "letters"
  a2 : NoAttr K C "beginning"
  a3 : NoAttr K C "runs"
  a4 : NoAttr K C "size"
  a5 : NoAttr K C "last"
section
variable {K : PySem.W.Frag} {H H' : Hp} {p a m t CL C dx : Addr} {ys : List Str} {fs : List (Str × V)} {xs : List V} {rs : List Run}
theorem Mde.but (h : Mde CL H m t ys) (k : ∀ b o, b ≠ p → H b = some o → H' b = some o) (hp : H p = some (.ins C dx fs)) (n : fs ≠ ([("words", V.ref t)] : List (Str × V)) := by intro z; cases z) : Mde CL H' m t ys := by
  obtain ⟨dx', ob, h1, h2, h3⟩ := h
  refine ⟨dx', ob, k _ _ ?_ h1, k _ _ ?_ h2, h3⟩
  · refine ne_of h1 hp ?_
    intro z
    injection z with z1 z2 z3
    exact n z3.symm
  · exact ne_of h2 hp (by intro z; cases z)
theorem seqL_but (h : SqL K H a xs) (k : ∀ b o, b ≠ p → H b = some o → H' b = some o) (hp : H p = some (.ins C dx fs)) : SqL K H' a xs := by
  rcases h with (h | ⟨o, h⟩) | h
  · exact .inl (.inl (k _ _ (ne_of h hp (by intro z; cases z)) h))
  · exact .inl (.inr ⟨o, k _ _ (ne_of h hp (by intro z; cases z)) h⟩)
  · exact .inr h
theorem seqT_but (h : SqT K H a xs) (k : ∀ b o, b ≠ p → H b = some o → H' b = some o) (hp : H p = some (.ins C dx fs)) : SqT K H' a xs := by
  rcases h with (h | ⟨o, h⟩) | h
  · exact .inl (.inl (k _ _ (ne_of h hp (by intro z; cases z)) h))
  · exact .inl (.inr ⟨o, k _ _ (ne_of h hp (by intro z; cases z)) h⟩)
  · exact .inr h
theorem seqA_but (h : SqL K H a xs ∨ SqT K H a xs) (k : ∀ b o, b ≠ p → H b = some o → H' b = some o) (hp : H p = some (.ins C dx fs)) : SqL K H' a xs ∨ SqT K H' a xs := by
  rcases h with h | h
  · exact .inl (seqL_but h k hp)
  · exact .inr (seqT_but h k hp)
theorem RunsV.but (h : RunsV K H xs rs) (k : ∀ b o, b ≠ p → H b = some o → H' b = some o) (hp : H p = some (.ins C dx fs)) : RunsV K H' xs rs := by
  refine ⟨h.1, fun i v r h1 h2 => ?_⟩
  obtain ⟨b, e, h3⟩ := h.2 i v r h1 h2
  exact ⟨b, e, seqA_but h3 k hp⟩
theorem PairsV.but (h : PairsV H xs rs) (k : ∀ b o, b ≠ p → H b = some o → H' b = some o) (hp : H p = some (.ins C dx fs)) : PairsV H' xs rs :=
  ⟨h.1, fun i v r h1 h2 => let ⟨b, e, h3⟩ := h.2 i v r h1 h2; ⟨b, e, k _ _ (ne_of h3 hp (by intro z; cases z)) h3⟩⟩
end
section
variable {P : Program} {w : World} {K : PySem.W.Frag} {mg : Str → Option Value} {base : Heap}
/-! ### require_beginning, where nothing is wrong -/
def spReqBeg : Sp := fun vs H Q _ => ∃ (b : Str), vs = [.str b] ∧ (b = "new" ∨ b = "found") ∧ Q .non H
abbrev s_require_beginning : Stmt := top 43
theorem sc_require_beginning : FnScope ["value"] ["value"] (defScope s_require_beginning) := ⟨rfl, rfl, rfl, by decide +kernel, rfl, by decide +kernel, by decide +kernel⟩
theorem ok_reqBeg {f fB : Addr} {fd fdB : FuncData} (F : Fun K "require_beginning" "require_beginning" s_require_beginning f fd)
    (GB : FnOk P w K mg base CX0 1 fB fdB ["value"] (spIsBeg K)) (AB : At K mg "is_beginning" fB fdB ["value"]) :
    FnOk P w K mg base CX0 2 f fd ["value"] spReqBeg := by
  refine F.ok sc_require_beginning (fun vs H Q E h => ?_) (fun cdv A outer s H vs Q E hr h => ?_)
  · obtain ⟨b, rfl, _⟩ := h
    rfl
  · obtain ⟨b, rfl, hb, k⟩ := h
    refine ⟨_, (pss_one (ps_if (pt_not (pt_val (pe_call GB hr (by rfl) AB.m AB.k AB.b .nil pass0 (pa_cons (pv 0) pa_nil)))) pss_never pss_nil)), ?_⟩
    exact ⟨_, rfl, b, rfl, hb, _, rfl, iteF k⟩
def spHist (K : PySem.W.Frag) (CL CH : Addr) : Sp := fun vs H Q _ => ∃ (p dx m t a : Addr) (b : Str) (ys : List Str) (xs : List V) (rs : List Run), vs = [.ref p, .ref m, .str b, .ref a] ∧ H p = some (.ins CH dx []) ∧ Mde CL H m t ys ∧ (b = "new" ∨ b = "found") ∧
  (SqL K H a xs ∨ SqT K H a xs) ∧ RunsV K H xs rs ∧ rs.length ≤ 1000 ∧ (∀ r ∈ rs, r.1 ∈ ys ∧ 1 ≤ r.2 ∧ r.2 ≤ 1000000000000000000000000000000) ∧ (joinR rs).length ≤ 400 ∧
  ∀ (H' : Hp) (c : Addr) (ks : List V), H' p = some (.ins CH dx (hf m c b (joinR rs))) → Mde CL H' m t ys → SqT K H' c ks → PairsV H' ks (joinR rs) → (∀ b o, b ≠ p → H b = some o → H' b = some o) → Q .non H'
abbrev s_Hist_init : Stmt := inClass (top 48) 0
theorem sc_Hist_init : FnScope ["self", "letters", "beginning", "runs"] ["self", "letters", "beginning", "runs"] (defScope s_Hist_init) := ⟨rfl, rfl, rfl, by decide +kernel, rfl, by decide +kernel, by decide +kernel⟩
theorem hist_binds {K : PySem.W.Frag} {d : V} {f : Addr} {fd : FuncData} (F : FunD K "__init__" "History.__init__" (defArgs s_Hist_init) (defBody s_Hist_init) (defScope s_Hist_init) [d] [] f fd) : (∃ u, RelV d u ∧ Binds K fd ["self", "letters", "beginning", "runs"] [u]) ∧ Binds K fd ["self", "letters", "beginning", "runs"] [] := by
  constructor
  · obtain ⟨ds, r, b⟩ := F.binds1 (ps := ["self", "letters", "beginning", "runs"]) 3 0 (by simp) rfl fun T kV doc pm an cdv ct us its hu hi => match us, hu, its, hi with | [_, _, _], _, [_], _ => ⟨_, rfl, rfl⟩
    obtain ⟨u, rfl, ru⟩ := vals1 r
    exact ⟨u, ru, b⟩
  · obtain ⟨ds, r, b⟩ := F.binds1 (ps := ["self", "letters", "beginning", "runs"]) 4 1 (by simp) rfl fun T kV doc pm an cdv ct us its hu hi => match us, hu, its, hi with | [_, _, _, _], _, [_], _ => ⟨_, rfl, rfl⟩
    cases r
    exact b
theorem ok_histInit {dvs : List V} {f fB fX fZ CL CH CK : Addr} {fd fdB fdX fdZ : FuncData} (F : FunD K "__init__" "History.__init__" (defArgs s_Hist_init) (defBody s_Hist_init) (defScope s_Hist_init) dvs [] f fd) (T : Blt mg) (hC : HsC K CH) (O : OnC K mg "CheckedRuns" CK)
    (GB : FnOk P w K mg base CX0 2 fB fdB ["value"] spReqBeg) (AB : At K mg "require_beginning" fB fdB ["value"])
    (GX : FnOk P w K mg base CX0 4 fX fdX ["letters", "kept", "runs"] (spExtOk K CL)) (AX : At K mg "extended" fX fdX ["letters", "kept", "runs"])
    (GZ : FnOk P w K mg base CX0 1 fZ fdZ ["runs"] (spSize K)) (AZ : At K mg "size_of" fZ fdZ ["runs"]) :
    FnOk P w K mg base CX0 5 f fd ["self", "letters", "beginning", "runs"] (spHist K CL CH) := by
  refine F.ok sc_Hist_init (fun vs H Q E h => ?_) (fun cdv A outer s H vs Q E hr h => ?_)
  · obtain ⟨p, dx, m, t, a, b, ys, xs, rs, rfl, _⟩ := h
    rfl
  · obtain ⟨p, dx, m, t, a, b, ys, xs, rs, rfl, hp, hM, hb, ha, hR, ln, hok, lm, k⟩ := h
    have hr1 := hr.mono (j := 1) (by decide)
    refine ⟨_, PSs.nox (pss_cons (ps_expr (pe_call GB (hr.mono (by decide)) (by rfl) AB.m AB.k AB.b .nil pass0 (pa_cons (pv 2) pa_nil)))
      (pss_cons (ps_fld (pv 0) (pv 1) rfl)
      (pss_cons (ps_fld (pv 0) (pv 2) rfl)
      (pss_cons (ps_fld (pv 0) (pe_ifExp (pt_val (pe_callB call_isi (by rfl) T.n_isinstance (by decide +kernel) (pa_cons (pv 3) (pa_cons (pe_gv (v := .ref CK) rfl ⟨_, O.m, rfl⟩) pa_nil)))) (pe_fld (pv 3) rfl) (pe_call GX hr (by rfl) AX.m AX.k AX.b .nil pass0 (pa_cons (pv 1) (pa_cons (pe_tup pa_nil) (pa_cons (pv 3) pa_nil))))) rfl)
      (pss_cons (ps_fld (pv 0) (pe_call GZ hr1 (by rfl) AZ.m AZ.k AZ.b .nil pass0 (pa_cons (pe_fld (pv 0) rfl) pa_nil)) rfl)
      (pss_one (ps_fld (pv 0) (pe_ifExp (pt_truth (pe_fld (pv 0) rfl) (by intro _; rfl)) (pe_ix ix_tup (pe_ix ix_tup (pe_fld (pv 0) rfl) (pe_un un_neg pe_int) (fun _ _ => rfl)) pe_int (fun _ _ => rfl)) (pv 2)) rfl))))))), ?_⟩
    refine ⟨_, rfl, b, rfl, hb, ?_⟩
    -- letters, beginning
    refine ⟨_, rfl, _, rfl, p, CH, dx, [], rfl, hp, hC.c, hC.a1, (by show 0 < 1000; decide), ?_⟩
    have p1 : upd H p (.ins CH dx [("letters", .ref m)]) p = some (.ins CH dx [("letters", .ref m)]) := upd_same
    refine ⟨_, rfl, _, rfl, p, CH, dx, _, rfl, p1, hC.c, hC.a2, (by show 1 < 1000; decide), ?_⟩
    have p2 : upd (upd H p (.ins CH dx (putF "letters" (.ref m) []))) p (.ins CH dx (putF "beginning" (.str b) [("letters", .ref m)])) p = some (.ins CH dx [("letters", .ref m), ("beginning", .str b)]) := upd_same
    have k2 : ∀ b' o, b' ≠ p → H b' = some o → upd (upd H p (.ins CH dx (putF "letters" (.ref m) []))) p (.ins CH dx (putF "beginning" (.str b) [("letters", .ref m)])) b' = some o := fun b' o hb e => by rw [upd_ne hb, upd_ne hb]; exact e
    generalize upd (upd H p (.ins CH dx (putF "letters" (.ref m) []))) p (.ins CH dx (putF "beginning" (.str b) [("letters", .ref m)])) = H2 at p2 k2 ⊢
    have hM2 := hM.but k2 hp
    have ha2 := seqA_but ha k2 hp
    have hR2 := hR.but k2 hp
    -- runs
    obtain ⟨ty, hty, hkt⟩ := ty_seqA ha2 O
    refine ⟨_, rfl, .ref a, .ref CK, ty, _, false, rfl, .own CK, hty, hkt, _, rfl, iteF ?_⟩
    refine ⟨_, rfl, by show 0 ≤ sizeLine; decide, fun e he => ?_⟩
    have s3 := Ask.Same.made1 (o := .tup []) (Same.refl H2) he
    have e3 : upd H2 e (.tup []) e = some (.tup []) := upd_same
    generalize upd H2 e (.tup []) = H3 at s3 e3 ⊢
    refine ⟨_, rfl, m, t, e, ys, a, [], xs, [], rs, rfl, hM2.same s3, SqT.of e3, PairsV.nil, by show 0 ≤ 1000; decide, seqA_same ha2 s3, hR2.same s3, ln, hok, by rw [splice_nil]; exact lm, fun H4 c ks s4 hc hks => ?_⟩
    rw [splice_nil] at hks
    have s24 := s3.trans s4
    refine ⟨_, rfl, p, CH, dx, _, rfl, s24 _ _ p2, hC.c, hC.a3, (by show 2 < 1000; decide), ?_⟩
    have p5 : upd H4 p (.ins CH dx (putF "runs" (.ref c) [("letters", .ref m), ("beginning", .str b)])) p = some (.ins CH dx [("letters", .ref m), ("beginning", .str b), ("runs", .ref c)]) := upd_same
    have k5 : ∀ b' o, b' ≠ p → H4 b' = some o → upd H4 p (.ins CH dx (putF "runs" (.ref c) [("letters", .ref m), ("beginning", .str b)])) b' = some o := fun b' o hb e => by rw [upd_ne hb]; exact e
    generalize upd H4 p (.ins CH dx (putF "runs" (.ref c) [("letters", .ref m), ("beginning", .str b)])) = H5 at p5 k5 ⊢
    have p4 := s24 _ _ p2
    have hM5 := (hM2.same s24).but k5 p4
    have hc5 := seqT_but hc k5 p4
    have hks5 := hks.but k5 p4
    have kk5 : ∀ b' o, b' ≠ p → H b' = some o → H5 b' = some o := fun b' o hb e => k5 _ _ hb (s24 _ _ (k2 _ _ hb e))
    -- size
    refine ⟨_, rfl, p, CH, dx, _, _, rfl, p5, hC.c, hC.a3, rfl, c, ks, joinR rs, rfl, .inr hc5, hks5.runs, by omega, fun H6 s6 => ?_⟩
    have p6 := s6 _ _ p5
    refine ⟨_, rfl, p, CH, dx, _, rfl, p6, hC.c, hC.a4, (by show 3 < 1000; decide), ?_⟩
    have p7 : upd H6 p (.ins CH dx (putF "size" (.int (sizeR (joinR rs))) [("letters", .ref m), ("beginning", .str b), ("runs", .ref c)])) p = some (.ins CH dx [("letters", .ref m), ("beginning", .str b), ("runs", .ref c), ("size", .int (sizeR (joinR rs)))]) := upd_same
    have k7 : ∀ b' o, b' ≠ p → H6 b' = some o → upd H6 p (.ins CH dx (putF "size" (.int (sizeR (joinR rs))) [("letters", .ref m), ("beginning", .str b), ("runs", .ref c)])) b' = some o := fun b' o hb e => by rw [upd_ne hb]; exact e
    generalize upd H6 p (.ins CH dx (putF "size" (.int (sizeR (joinR rs))) [("letters", .ref m), ("beginning", .str b), ("runs", .ref c)])) = H7 at p7 k7 ⊢
    have hM7 := (hM5.same s6).but k7 p6
    have hc7 := seqT_but (seqT_same s6 hc5) k7 p6
    have hks7 := (hks5.same s6).but k7 p6
    have kk7 : ∀ b' o, b' ≠ p → H b' = some o → H7 b' = some o := fun b' o hb e => k7 _ _ hb (s6 _ _ (kk5 _ _ hb e))
    -- last
    have fin : ∀ z : Str, z = lastR b (joinR rs) → Q .non (upd H7 p (.ins CH dx (putF "last" (.str z) [("letters", .ref m), ("beginning", .str b), ("runs", .ref c), ("size", .int (sizeR (joinR rs)))]))) := fun z hz => by
      have p8 : upd H7 p (.ins CH dx (putF "last" (.str z) [("letters", .ref m), ("beginning", .str b), ("runs", .ref c), ("size", .int (sizeR (joinR rs)))])) p = some (.ins CH dx (hf m c b (joinR rs))) := by
        rw [hz]
        exact upd_same
      have k8 : ∀ b' o, b' ≠ p → H7 b' = some o → upd H7 p (.ins CH dx (putF "last" (.str z) [("letters", .ref m), ("beginning", .str b), ("runs", .ref c), ("size", .int (sizeR (joinR rs)))])) b' = some o := fun b' o hb e => by rw [upd_ne hb]; exact e
      exact k _ c ks p8 (hM7.but k8 p7) (seqT_but hc7 k8 p7) (hks7.but k8 p7) fun b' o hb e => k8 _ _ hb (kk7 _ _ hb e)
    refine ⟨_, rfl, p, CH, dx, _, _, rfl, p7, hC.c, hC.a3, rfl, !ks.isEmpty, .inr (.inl ⟨ks, hc7, rfl⟩), ite2 (fun q => ?_) (fun q => ?_)⟩
    · have q0 : ks ≠ [] := fun z => by subst z; cases q
      have l1 : 1 ≤ ks.length := List.length_pos_iff.mpr q0
      have e1 := hks7.1
      obtain ⟨l, hl⟩ : ∃ l, (joinR rs)[(joinR rs).length - 1]? = some l := ⟨_, List.getElem?_eq_getElem (by omega)⟩
      obtain ⟨x, hx, hx2⟩ := hks7.get hl
      rw [← e1] at hx
      refine ⟨_, rfl, p, CH, dx, _, _, rfl, p7, hC.c, hC.a3, rfl, _, rfl, c, _, _, _, rfl, rfl, hc7, atI_back hx, x, _, _, _, rfl, rfl, SqT.of hx2, at_by (j := 0) rfl rfl, ?_⟩
      refine ⟨_, rfl, p, CH, dx, _, rfl, p7, hC.c, hC.a5, (by show 4 < 1000; decide), fin l.1 ?_⟩
      unfold lastR
      rw [List.getLast?_eq_getElem?, hl]
      rfl
    · have q : (!ks.isEmpty) = false := (Bool.not_eq_true _).mp q
      have q0 : ks = [] := by cases ks with | nil => rfl | cons => cases q
      have q1 : joinR rs = [] := List.eq_nil_of_length_eq_zero (by rw [← hks7.1, q0]; rfl)
      refine ⟨_, rfl, _, rfl, p, CH, dx, _, rfl, p7, hC.c, hC.a5, (by show 4 < 1000; decide), fin b ?_⟩
      rw [q1]
      rfl
end
end Ask

/-! a text == a flat value, a list, a tuple or a dict -/
namespace Ask
open PySem L2 PySem.Spec PyProof.Rows PySem.SeqAt
def Any1 (H : Hp) (x : V) : Prop := flatV x = true ∨ ∃ d, x = .ref d ∧ ((∃ kvs, H d = some (.dK kvs)) ∨ (∃ xs, H d = some (.lst xs)) ∨ (∃ xs, H d = some (.tup xs)))
theorem Any1.same {H H' : Hp} {x : V} (h : Any1 H x) (s : Same H H') : Any1 H' x := by
  rcases h with h | ⟨d, e, h⟩
  · exact .inl h
  · refine .inr ⟨d, e, ?_⟩
    rcases h with ⟨k, h⟩ | ⟨k, h⟩ | ⟨k, h⟩
    · exact .inl ⟨k, s _ _ h⟩
    · exact .inr (.inl ⟨k, s _ _ h⟩)
    · exact .inr (.inr ⟨k, s _ _ h⟩)
section
variable {X : Cx}
theorem op_eqW (hu : X.A.units < cLine) : OpR X (compareOp .Eq) (fun x y H Q => ∃ z : Str, x = .str z ∧ Any1 H y ∧ Q (.bl (decide (V.str z = y))) H) := by
  intro pins s σ H x y v u Q I rx ry h
  obtain ⟨z, rfl, hy, q⟩ := h
  rcases hy with fy | ⟨d, rfl, hd⟩
  · cases y with
    | non => exact op_eq pins s σ H _ _ v u Q I rx ry ⟨rfl, q⟩
    | bl j => exact op_eq pins s σ H _ _ v u Q I rx ry ⟨rfl, q⟩
    | int j => exact op_eq pins s σ H _ _ v u Q I rx ry ⟨rfl, q⟩
    | str j => exact op_eq pins s σ H _ _ v u Q I rx ry ⟨rfl, q⟩
    | _ => cases fy
  · obtain ⟨t, rfl⟩ := id rx
    cases ry
    have fin : EP X pins σ Q (.bool false) s := fin_bl I q (decide_eq_false (fun z => by cases z))
    show wpAny (model X.prog X.w) X.A (richCompare .Eq (.str z t) (.ref d)) (EP X pins σ Q) X.xe s
    rcases hd with ⟨kvs, hd⟩ | ⟨xs, hd⟩ | ⟨xs, hd⟩
    · obtain ⟨_, _, vs, _, o, es, ep, ho, hx, hdd, _⟩ := I.hok d _ hd
      exact rcAt_sd z t ho hx.1 hdd hu _ _ _ _ fin
    · obtain ⟨its2, r2, pl2, _⟩ := I.list (.inl (.inl hd))
      exact RcAt.str_list z t pl2.isList hu _ _ _ _ fin
    · obtain ⟨its2, r2, pl2, _⟩ := I.tuple (.inl (.inl hd))
      exact RcAt.str_tuple z t pl2 hu _ _ _ _ fin
end
end Ask

/-! C(), C an own error without __init__ -/
namespace Ask
open PySem PySem.Spec PyProof.Rows L2
theorem pmk_own0 {X : Cx} {C : Addr} {bmB : List Value} {B newId initId : String} {x : Str} {p pos : Pos} (F : ExcBaseFacts B newId initId bmB) (q : PySem.W.excIn X.K C bmB newId = true) (gC : X.mg x = some (.ref C)) (kC : PySem.W.keepIn X.K (.ref C) = true) (r : Raises X (.ref C)) (hg : Gl X x)
    (hdb : (x == ("__debug__" : Str)) = false := by decide) : PMk X (.Call (.Name x p) [] [] pos) (fun _ H Q => Q (.ref C) none H) := by
  intro pins s σ H Q I h
  refine wpAny_Call_Name_kw (ld_glob I hg gC ?_ hdb)
  refine PySem.W.callWith_K0 (first := []) I.kIn kC ?_
  show wpAny _ _ (call (.ref C) []) _ _ _
  obtain ⟨bm, N, nm, qn, bs, hdct, sn, sub, ab, col, dd, k0, k1, k2, k3, k5, mN, hC, hN, hni, T⟩ := exc_obj I.kIn q
  refine wpAny_call_exc_subT F T hC hN hni (fun h' e hm => ?_) (Nat.zero_le _)
  exact mk_of I hm r h (I.hok.gone hm.new)
/-- an own error class without __init__ -/
structure Err0 (K : PySem.W.Frag) (mg : Str → Option Value) (x : Str) (C : Addr) : Prop where
  m : mg x = some (.ref C)
  e : PySem.W.excIn K C [Value.type "ValueError", Value.type "Exception", Value.type "BaseException", Value.type "object"] "ValueError.__new__" = true
  k : PySem.W.keepIn K (.ref C) = true
  b : PySem.W.subIn K (.ref C) (.type "BaseException") = some true
  t : PySem.W.typeIn K (.ref C) = some (.type "type")
end Ask

/-! a clause «except X» without a name, among several -/
namespace Ask
open PySem L2 PySem.Spec PyProof.Rows
def wNo (K : PySem.W.Frag) (c : Value) (ts : TS) (W : WX) (D : Ends) : WX := fun cls d σ H =>
  ∃ b, PySem.W.exmOne K cls c = some b ∧ (b = true → ts D σ H) ∧ (b = false → W cls d σ H)
theorem hands_no {X : Cx} {D : Ends} {hds : List ExceptHandler} {W : WX} {x : Str} {c : Value} {suite : List Stmt} {b₀ : Stmt} {np pos' : Pos} {ts : TS}
    (hf : X.env.frame = some X.env.locals) (hc : Names X x c)
    (su : ∀ (a : Addr) (oe : Obj) (pn : List (Addr × Obj)), PSs (X.suite a ((a, oe) :: pn)) (b₀ :: suite) ts)
    (rest : Hands X D hds W) : Hands X D (.ExceptHandler (some (.Name x np)) none (b₀ :: suite) pos' :: hds) (wNo X.K c ts W D) := by
  intro pins σ H sI s B a cls d w q
  obtain ⟨b, hb, yes, no⟩ := q
  have J := w.now
  have ok := J.ok
  obtain ⟨oe, vs, he, hz, hd, nL, nF⟩ := w.apart hf
  have S := J.suite he hd w.na nL nF
  refine wpAny_handleBy_cons (codeAny_handlers_test ?_) (by intro z; cases z)
  have ty : PySem.W.Looks (model X.prog X.w) s.heap (typeOf (.ref a)) cls := fun A Q E s' k z => wpAny_typeOf_ref (k _ _ he) (by rw [hz.1]; exact z)
  have isIt := PySem.W.exm_one (M := model X.prog X.w) J.kIn ty hb
  have named : ∀ {Q : Value → Shared → Prop} {E : Value → Shared → Prop}, Q c s → wpAny (model X.prog X.w) (X.A.mark (some (.ref a))) (eval (.Name x np) X.env) Q E s := fun {Q E} z => by
    obtain ⟨g, dbg, m | ⟨m, bt, nn⟩⟩ := hc
    · exact ld_glob (X := X.suite a ((a, oe) :: (X.pn ++ pins))) S g m z dbg
    · exact ld_blt (X := X.suite a ((a, oe) :: (X.pn ++ pins))) S g m bt z nn dbg
  refine named (isIt.here ?_)
  cases b with
  | false => exact rest pins σ H sI s B a cls d w (no rfl)
  | true =>
    refine codeAny_handlers_suite (HandSPX.lands_againZ w.fl fun h4 fl4 up4 => ?_)
    have w4 : Down X pins σ H sI B a cls d { s with heap := h4 } := ⟨fl4, w.inv, w.nb, w.up.trans up4, w.os, w.ag, w.na⟩
    obtain ⟨oe4, vs4, he4, hz4, hd4, nL4, nF4⟩ := w4.apart hf
    have S4 := w4.now.suite he4 hd4 w.na nL4 nF4
    refine wpAny_mono ((su a oe4 (X.pn ++ pins)).run [] _ σ H _ S4 (yes rfl)) (fun f s6 got => ?_) (fun _ _ z => False.elim z)
    cases f with
    | ret u => obtain ⟨v, σ6, H6, S6, r, z⟩ := got; exact ⟨v, σ6, H6, S6.unsuite ok, r, z⟩
    | next => obtain ⟨σ6, H6, S6, z⟩ := got; exact ⟨σ6, H6, S6.unsuite ok, z⟩
    | brk => obtain ⟨σ6, H6, S6, z⟩ := got; exact ⟨σ6, H6, S6.unsuite ok, z⟩
    | cont => obtain ⟨σ6, H6, S6, z⟩ := got; exact ⟨σ6, H6, S6.unsuite ok, z⟩
end Ask

/-! o.f as a target among several -/
namespace Ask
open PySem PySem.Spec PyProof.Rows L2
def gFld (K : PySem.W.Frag) (to : TE) (f : Str) : TG := fun y σ H Q => to σ H fun x H2 => ∃ a C dx fs, x = .ref a ∧ H2 a = some (.ins C dx fs) ∧ Cls K C ∧ NoAttr K C f ∧ fs.length < 1000 ∧ Q σ (upd H2 a (.ins C dx (putF f y fs)))
theorem pg_fld {X : Cx} {o : Expr} {f : Str} {pos : Pos} {to : TE} (ho : PE X o to) : PG X (.Attribute o f pos) (gFld X.K to f) := by
  refine ⟨fun pins s σ H v u Q I r h => ?_⟩
  rw [assign_Attribute]
  refine wpAny_bind (wpAny_holding (thn (ho.run pins s σ H _ I h) fun ov s1 ⟨x, H1, I1, r1, a, C, dx, fs, ex, ea, c, n, l, q⟩ => ?_))
  subst ex
  obtain rfl : ov = Value.ref a := r1
  refine wpAny_bind (wpAny_standAt (wpAny_bind (wpAny_holding ?_)))
  exact setattr_ok I1 ea c n l r fun s3 I3 => wpAny_release ⟨σ, _, I3, q⟩
end Ask

namespace Ask
open PySem L2
theorem inW_any {H : Hp} {x : V} {ys : List Str} {b : Bool} (h : InW H x ys b) : Any1 H x := by
  rcases h with ⟨h, _⟩ | ⟨_, h⟩
  · exact .inl h
  · exact .inr h
theorem inW_ne {H : Hp} {x : V} {ys : List Str} {y : Str} (h : InW H x ys false) (hy : y ∈ ys) : V.str y ≠ x := by
  rcases h with ⟨_, h⟩ | ⟨_, d, rfl, _⟩
  · rintro rfl
    have e := in_mem hy
    rw [e] at h
    cases h
  · intro z
    cases z
section
variable {P : Program} {w : World} {K : PySem.W.Frag} {mg : Str → Option Value} {base : Heap}
abbrev s_BadLetter_init : Stmt := inClass (top 13) 0
theorem sc_BadLetter_init : FnScope ["self", "index"] ["self", "index"] (defScope s_BadLetter_init) := ⟨rfl, rfl, rfl, by decide +kernel, rfl, by decide +kernel, by decide +kernel⟩
theorem ok_initBadLetter {f fC C : Addr} {fd fdC : FuncData} (F : Fun K "__init__" "BadLetter.__init__" s_BadLetter_init f fd) (T : OexC K C) (h1 : PySem.W.findIn K (.ref C) "index" = some none)
    (GC : FnOk P w K mg base CX0 1 fC fdC ["value"] spCopy) (CP : At K mg "copied" fC fdC ["value"]) : FnOk P w K mg base CX0 2 f fd ["self", "index"] (spErr C okBad fsBad) := by
  refine F.ok sc_BadLetter_init (fun vs H Q E h => ?_) (fun cdv A outer s H vs Q E hr h => ?_)
  · obtain ⟨a, ws, rfl, ⟨i, rfl⟩, _⟩ := h
    rfl
  · obtain ⟨a, ws, rfl, ⟨i, rfl⟩, ha, k⟩ := h
    refine ⟨_, pss_one (ps_ost (pv 0) (pe_call GC hr (by rfl) CP.m CP.k CP.b .nil pass0 (pa_cons (pv 1) pa_nil))), ?_⟩
    refine ⟨_, rfl, _, rfl, .inl ⟨i, rfl⟩, _, rfl, a, C, rfl, T, h1, .inl ⟨ha, fun dx hdx hne => ?_⟩⟩
    refine k _ dx hdx hne upd_same (by rw [upd_ne hne]; exact upd_same) fun b o hb e => ?_
    rw [upd_ne hb, upd_ne (ne_of_none e hdx)]
    exact e
theorem ok_rank {f fE CL CE : Addr} {fd fdE : FuncData} (F : Fun K "rank" "Letters.rank" s_Rank f fd) (T : Blt mg) (hC : Cls K CL) (hA : NoAttr K CL "words")
    (FE : FnOk P w K mg base CX0 2 fE fdE ["self", "index"] (spErr CE okBad fsBad)) (EE : ErrAt K mg "BadLetter" CE fE fdE ["self", "index"]) :
    FnOk P w K mg base (L2.CX P w) 4 f fd ["self", "x"] (spRank CL CE) := by
  refine F.okX sc_Rank (fun vs H Q E h => ?_) (fun cdv A outer s H vs Q E hr h => ?_)
  · obtain ⟨p, t, ys, x, rfl, _⟩ := h
    rfl
  · obtain ⟨p, t, ys, x, rfl, ⟨dx, ob, hp, ht, hob⟩, nd, h⟩ := h
    refine ⟨_, (pss_cons (ps_for (passes_of rfl) rfl (pi_enumA (by rfl) T.n_enumerate (pa_cons (pe_fld (pv 0) rfl) pa_nil)) (pg_tup rfl (pgs_cons (pg_name (i := 2) sc_Rank.nd rfl (Or.inl rfl)) (pgs_cons (pg_name (i := 3) sc_Rank.nd rfl (Or.inl rfl)) pgs_nil)))
        (pss_one (ps_if (pt_cmpR (op_eqW hr.units0) (pv 3) (pv 1) (nomark _)) (pss_one (ps_ret (pv 2))) pss_nil)))
      (pss_one (ps_raise rfl (takes_of rfl rfl rfl rfl) (pmk_oex EE.o EE.i EE.t FE hr EE.b .nil pass0 (by rfl) EE.m (pa_cons pe_int pa_nil))))), ?_⟩
    have hq : SqT K H t (ys.map V.str) := .inl (.inr ⟨ob, ht⟩)
    have hx : Any1 H x := by
      rcases h with ⟨i0, z, rfl, hi, k⟩ | ⟨hw, k⟩
      · exact .inl rfl
      · exact inW_any hw
    have hn : (ys.map V.str).length = ys.length := List.length_map ..
    refine for_enum (fun R r => ⟨_, rfl, p, CL, dx, _, _, rfl, hp, hC, hA, rfl, t, _, rfl, .inr ⟨hq, r⟩⟩) walk_enumT
      (fun i σ' H' => (∀ (j : Nat) (y : Str), j < i → ys[j]? = some y → V.str y ≠ x) ∧ ∃ o2 o3 : Option V, σ' = [some (.ref p), some x, o2, o3] ∧ Same H H')
      ⟨fun j y hj => absurd hj (Nat.not_lt_zero j), none, none, rfl, Same.refl H⟩ (fun i σ' H' _ ⟨_, _, _, _, s'⟩ => seqT_same s' hq) ?_ ?_
    · rintro i e σ' H2 H3 hi ⟨hne, o2, o3, rfl, s2⟩ ⟨t2, x0, y0, rfl, ht2, rfl, ex, ey⟩
      cases ex
      rw [hn] at hi
      obtain ⟨y, hy⟩ : ∃ y, ys[i]? = some y := ⟨_, List.getElem?_eq_getElem hi⟩
      replace ey : (ys.map V.str)[i]? = some y0 := ey
      rw [List.getElem?_map, hy] at ey
      injection ey with ey
      subst ey
      have s3 := Ask.Same.made1 (o := .tup [.int (i : Nat), .str y]) s2 ht2
      have ht3 : upd H2 t2 (.tup [.int (i : Nat), .str y]) t2 = some (.tup [.int (i : Nat), .str y]) := upd_same
      generalize upd H2 t2 (.tup [.int (i : Nat), .str y]) = H4 at s3 ht3 ⊢
      refine ⟨t2, _, rfl, SqT.of ht3, rfl, _, _, rfl, _, _, rfl, rfl, ?_⟩
      refine ⟨_, rfl, _, rfl, y, rfl, hx.same s3, _, rfl, ite2 (fun hd => ?_) (fun hd => ?_)⟩
      · have hd : V.str y = x := of_decide_eq_true hd
        subst hd
        rcases h with ⟨i0, z, hz, hi0, k⟩ | ⟨hw, k⟩
        · injection hz with hz
          subst hz
          obtain rfl : i = i0 := (List.getElem?_inj hi nd).mp (hy.trans hi0.symm)
          exact ⟨_, rfl, k _ s3⟩
        · exact absurd rfl (inW_ne hw (List.mem_of_getElem? hy))
      · have hd : V.str y ≠ x := fun q => hd (decide_eq_true q)
        refine ⟨fun j z hj hz => ?_, _, _, rfl, s3⟩
        rcases Nat.lt_succ_iff_lt_or_eq.mp hj with hj | rfl
        · exact hne j z hj hz
        · rw [hy] at hz
          injection hz with hz
          subst hz
          exact hd
    · rintro σ' H' ⟨hne, o2, o3, rfl, s'⟩
      rw [hn] at hne
      rcases h with ⟨i0, z, rfl, hi0, k⟩ | ⟨hw, k⟩
      · exact absurd rfl (hne i0 z (List.getElem?_eq_some_iff.mp hi0).1 hi0)
      · exact err_made s' ⟨_, rfl⟩ (by show 1 ≤ 1000; decide) (fun H' d s' e => k H' d s' e)
end
end Ask

namespace Ask
open PySem L2
open PySem.SeqAt (notIn_tupleAt EqAt)
section
variable {X : Cx}
theorem op_notInW (hu : X.A.units + 1 < cLine) : OpR X (compareOp .NotIn) (fun x y H Q => ∃ (p : Addr) (ys : List Str) (b : Bool), y = .ref p ∧ SqT X.K H p (ys.map V.str) ∧ InW H x ys b ∧ Q (.bl (!b)) H) := by
  intro pins s σ H x y v u Q I rx ry h
  obtain ⟨p, ys, b, rfl, hq, hw, q⟩ := h
  rcases hw with ⟨fx, rfl⟩ | ⟨rfl, d, rfl, hd⟩
  · refine op_notIn_seq pins s σ H x (.ref p) v u Q I rx ry ⟨p, _, rfl, .inr hq, fx, ?_, q⟩
    rw [List.all_eq_true]
    intro y hy
    obtain ⟨z, _, rfl⟩ := List.mem_map.mp hy
    rfl
  · cases rx
    cases ry
    obtain ⟨its, r, pl, hz⟩ := I.tuple hq
    have at_ : ∀ (y : Str) (t : Tok), EqAt X.A.in1 s (.str y t) (.ref d) false := fun y t => by
      rcases hd with ⟨kvs, hd⟩ | ⟨xs, hd⟩ | ⟨xs, hd⟩
      · obtain ⟨_, _, vs, _, o, es, ep, ho, hx, hdd, _⟩ := I.hok d _ hd
        exact eqAt_sd y t ho hx.1 hdd hu
      · obtain ⟨its2, r2, pl2, _⟩ := I.list (.inl (.inl hd))
        exact PySem.SeqAt.EqAt.str_list y t pl2.isList hu
      · obtain ⟨its2, r2, pl2, _⟩ := I.tuple (.inl (.inl hd))
        exact PySem.SeqAt.EqAt.str_tuple y t pl2 hu
    refine notIn_tupleAt (fun _ => false) pl (fun w hw => strs_eqAtR at_ ys _ r w (by simpa using hw)) ⟨.bl true, H, I, ?_, q⟩
    show Value.bool _ = Value.bool true
    simp
end
theorem inV_str (z : Str) (ys : List Str) : inV (.str z) (ys.map V.str) = decide (z ∈ ys) := by
  by_cases h : z ∈ ys
  · rw [in_mem h, decide_eq_true h]
  · rw [decide_eq_false h]
    unfold inV
    rw [List.any_eq_false]
    intro y hy
    obtain ⟨x, hx, rfl⟩ := List.mem_map.mp hy
    intro e
    have e : decide (x = z) = true := e
    exact h (of_decide_eq_true e ▸ hx)
theorem inV_other {x : V} (h : ∀ z, eqV (.str z) x = false) (ys : List Str) : inV x (ys.map V.str) = false := by
  unfold inV
  rw [List.any_eq_false]
  intro y hy
  obtain ⟨z, hz, rfl⟩ := List.mem_map.mp hy
  rw [h z]
  exact Bool.false_ne_true
/-- a value of the law's: flat, or a list, a tuple, a dict -/
def Val (p : Addr) (H : Hp) (v : V) : Prop := flatV v = true ∨ ∃ d, v = .ref d ∧ d ≠ p ∧ ((∃ kvs, H d = some (.dK kvs)) ∨ (∃ xs, H d = some (.lst xs)) ∨ (∃ xs, H d = some (.tup xs)))
def inB (ys : List Str) : V → Bool
  | .str z => decide (z ∈ ys)
  | _ => false
def isN : V → Bool
  | .non => true
  | _ => false
section
variable {p : Addr} {H H' : Hp} {v : V} {ys : List Str} {K : PySem.W.Frag}
theorem Val.kp (h : Val p H v) (k : Kp p H H') : Val p H' v := by
  rcases h with h | ⟨d, e, n, h⟩
  · exact .inl h
  · refine .inr ⟨d, e, n, ?_⟩
    rcases h with ⟨z, h⟩ | ⟨z, h⟩ | ⟨z, h⟩
    · exact .inl ⟨z, k _ _ n h⟩
    · exact .inr (.inl ⟨z, k _ _ n h⟩)
    · exact .inr (.inr ⟨z, k _ _ n h⟩)
theorem Val.same (h : Val p H v) (s : Same H H') : Val p H' v := h.kp (Kp.of s)
theorem Val.inw (h : Val p H v) (ys : List Str) : InW H v ys (inB ys v) := by
  rcases h with h | ⟨d, rfl, n, h⟩
  · cases v with
    | str z => exact .inl ⟨rfl, (inV_str z ys).symm⟩
    | non => exact .inl ⟨rfl, (inV_other (fun _ => rfl) ys).symm⟩
    | bl b => exact .inl ⟨rfl, (inV_other (fun _ => rfl) ys).symm⟩
    | int i => exact .inl ⟨rfl, (inV_other (fun _ => rfl) ys).symm⟩
    | _ => cases h
  · exact .inr ⟨rfl, d, rfl, h⟩
/-- what isinstance(v, str) tells -/
theorem Val.isi (h : Val p H v) : ∃ ty b, TyX K H v ty ∧ PySem.W.kitOne K ty (.type "str") = some b ∧ (b = true → ∃ z, v = .str z) ∧ (b = false → ∀ ys, inB ys v = false) := by
  rcases h with h | ⟨d, rfl, n, ⟨z, h⟩ | ⟨z, h⟩ | ⟨z, h⟩⟩
  · cases v with
    | str z => exact ⟨.type "str", true, .base (.str z), kit_ty (by decide +kernel), fun _ => ⟨z, rfl⟩, fun h => by cases h⟩
    | non => exact ⟨.type "NoneType", false, .base .non, kit_ty (by decide +kernel), fun h => (by cases h), fun _ _ => rfl⟩
    | bl b => exact ⟨.type "bool", false, .base (.bl b), kit_ty (by decide +kernel), fun h => (by cases h), fun _ _ => rfl⟩
    | int i => exact ⟨.type "int", false, .base (.int i), kit_ty (by decide +kernel), fun h => (by cases h), fun _ _ => rfl⟩
    | _ => cases h
  · exact ⟨.type "dict", false, .base (.dK h), kit_ty (by decide +kernel), fun h => (by cases h), fun _ _ => rfl⟩
  · exact ⟨.type "list", false, ty_list (SqL.of h), kit_ty (by decide +kernel), fun h => (by cases h), fun _ _ => rfl⟩
  · exact ⟨.type "tuple", false, ty_tup (SqT.of h), kit_ty (by decide +kernel), fun h => (by cases h), fun _ _ => rfl⟩
theorem inB_some (h : inB ys v = true) : ∃ z, v = .str z ∧ z ∈ ys := by
  cases v with
  | str z => exact ⟨z, rfl, of_decide_eq_true h⟩
  | _ => cases h
end
def KL : List Str := ["idle", "kept", "still", "over", "undone", "alike"]
def LK : List Str := ["idle", "still"]
/-- the constants of sentences -/
structure GvK (K : PySem.W.Frag) (mg : Str → Option Value) : Prop where
  kinds : ∃ (t : Addr) (u : Value), mg "KINDS" = some u ∧ RelV (.ref t) u ∧ ∀ H, SqT K H t (KL.map V.str)
  lone : ∃ (t : Addr) (u : Value), mg "LONE_KINDS" = some u ∧ RelV (.ref t) u ∧ ∀ H, SqT K H t (LK.map V.str)
section
variable {P : Program} {w : World} {K : PySem.W.Frag} {mg : Str → Option Value} {base : Heap}
/-! ### is_due -/
def spIsDue (CL : Addr) : Sp := fun vs H Q _ => ∃ (m t : Addr) (ys : List Str) (v : V) (h b : Bool), vs = [.ref m, v, .bl h] ∧ Mde CL H m t ys ∧ InW H v ys b ∧ Q (.bl (if h = true then b else decide (v = .non))) H
abbrev s_is_due : Stmt := top 56
theorem sc_is_due : FnScope ["letters", "value", "has_letter"] ["letters", "value", "has_letter"] (defScope s_is_due) := ⟨rfl, rfl, rfl, by decide +kernel, rfl, by decide +kernel, by decide +kernel⟩
theorem ok_isDue {f fH CL : Addr} {fd fdH : FuncData} (F : Fun K "is_due" "is_due" s_is_due f fd)
    (GH : FnOk P w K mg base CX0 1 fH fdH ["self", "x"] (spHas CL)) (bH : Binds K fdH ["self", "x"] []) (hH : PySem.W.findIn K (.ref CL) "__contains__" = some (some (.ref fH))) (iH : PySem.W.isFn K (.ref fH) = true) :
    FnOk P w K mg base CX0 2 f fd ["letters", "value", "has_letter"] (spIsDue CL) := by
  refine F.ok sc_is_due (fun vs H Q E h => ?_) (fun cdv A outer s H vs Q E hr h => ?_)
  · obtain ⟨m, t, ys, v, h, b, rfl, _⟩ := h
    rfl
  · obtain ⟨m, t, ys, v, h, b, rfl, hM, hw, k⟩ := h
    obtain ⟨dx, ob, m1, _⟩ := id hM
    refine ⟨_, (pss_one (ps_ret (pe_ifExp (pt_val (pv 2)) (pe_cmpR (op_inI (C := CL) (E := E0) GH hr bH pass0 hH iH) (pv 1) (pv 0) rfl) (pe_cmpR op_isN (pv 1) pe_non (nomark _))))), ?_⟩
    refine ⟨_, rfl, _, rfl, ?_⟩
    cases h with
    | true => exact iteT ⟨_, rfl, _, rfl, m, dx, _, rfl, m1, m, t, ys, v, b, rfl, hM, hw, b, rfl, k⟩
    | false => exact iteF ⟨_, rfl, rfl, k⟩
/-! ### sides -/
def yOf : V → Str
  | .str y => y
  | _ => ""
def sdL (k x : Str) (s : V) : List Run := if k ∈ LK then [(x, 1)] else if k = "alike" then [(x, 1)] else [(x, 1), (yOf s, 1)]
def sdR (k x : Str) (s : V) : List Run := if k ∈ LK then [] else if k = "alike" then [(yOf s, 1)] else if k = "kept" then [(x, 1)] else if k = "over" then [(yOf s, 1)] else []

def spSides (K : PySem.W.Frag) : Sp := fun vs H Q _ => ∃ (ys : List Str) (k x : Str) (s : V), vs = [.str k, .str x, s, .int 1] ∧ k ∈ KL ∧ x ∈ ys ∧ (k ∉ LK → ∃ y, s = .str y ∧ y ∈ ys) ∧
  ∀ (H' : Hp) (q l r : Addr) (ls rs : List V) (a b : List Run), Same H H' → H' q = some (.tup [.ref l, .ref r]) → SqT K H' l ls → PairsV H' ls a → SqT K H' r rs → PairsV H' rs b → a.length ≤ 2 → b.length ≤ 2 → (∀ z ∈ a, z.1 ∈ ys ∧ z.2 = 1) → (∀ z ∈ b, z.1 ∈ ys ∧ z.2 = 1) → a = sdL k x s → b = sdR k x s → Q (.ref q) H'
abbrev s_sides : Stmt := top 57
theorem sc_sides : FnScope ["kind", "first", "second", "times"] ["kind", "first", "second", "times"] (defScope s_sides) := ⟨rfl, rfl, rfl, by decide +kernel, rfl, by decide +kernel, by decide +kernel⟩
theorem ok_sides {f : Addr} {fd : FuncData} (F : Fun K "sides" "sides" s_sides f fd) (Gk : GvK K mg) : FnOk P w K mg base CX0 1 f fd ["kind", "first", "second", "times"] (spSides K) := by
  refine F.ok sc_sides (fun vs H Q E h => ?_) (fun cdv A outer s H vs Q E hr h => ?_)
  · obtain ⟨ys, k, x, s, rfl, _⟩ := h
    rfl
  · obtain ⟨ys, k, x, s', rfl, hk, hx, hs, Qk⟩ := h
    obtain ⟨tL, uL, mL, rL, sL⟩ := Gk.lone
    refine ⟨_, (pss_cons (ps_if (pt_cmpR op_in_seq (pv 0) (pe_gv (v := .ref tL) rfl ⟨uL, mL, rL⟩) rfl) (pss_one (ps_ret (pe_tup (pa_cons (pe_tup (pa_cons (pe_tup (pa_cons (pv 1) (pa_cons (pv 3) pa_nil))) pa_nil)) (pa_cons (pe_tup pa_nil) pa_nil))))) pss_nil)
      (pss_cons (ps_if (pt_cmpR op_eq (pv 0) pe_str (nomark _)) (pss_one (ps_ret (pe_tup (pa_cons (pe_tup (pa_cons (pe_tup (pa_cons (pv 1) (pa_cons (pv 3) pa_nil))) pa_nil)) (pa_cons (pe_tup (pa_cons (pe_tup (pa_cons (pv 2) (pa_cons (pv 3) pa_nil))) pa_nil)) pa_nil))))) pss_nil)
      (pss_cons (ps_if (pt_cmpR op_eq (pv 0) pe_str (nomark _)) (pss_one (ps_ret (pe_tup (pa_cons (pe_tup (pa_cons (pe_tup (pa_cons (pv 1) (pa_cons pe_int pa_nil))) (pa_cons (pe_tup (pa_cons (pv 2) (pa_cons (pv 3) pa_nil))) pa_nil))) (pa_cons (pe_tup (pa_cons (pe_tup (pa_cons (pv 1) (pa_cons pe_int pa_nil))) pa_nil)) pa_nil))))) pss_nil)
      (pss_cons (ps_if (pt_cmpR op_eq (pv 0) pe_str (nomark _)) (pss_one (ps_ret (pe_tup (pa_cons (pe_tup (pa_cons (pe_tup (pa_cons (pv 1) (pa_cons (pv 3) pa_nil))) (pa_cons (pe_tup (pa_cons (pv 2) (pa_cons pe_int pa_nil))) pa_nil))) (pa_cons (pe_tup (pa_cons (pe_tup (pa_cons (pv 2) (pa_cons pe_int pa_nil))) pa_nil)) pa_nil))))) pss_nil)
      (pss_one (ps_ret (pe_tup (pa_cons (pe_tup (pa_cons (pe_tup (pa_cons (pv 1) (pa_cons (pv 3) pa_nil))) (pa_cons (pe_tup (pa_cons (pv 2) (pa_cons (pv 3) pa_nil))) pa_nil))) (pa_cons (pe_tup pa_nil) pa_nil))))))))), ?_⟩
    have two : (2 : Nat) ≤ sizeLine := by decide
    have one : (1 : Nat) ≤ sizeLine := by decide
    have in1 : ∀ {x : Str}, x ∈ ys → ∀ z ∈ [((x, 1) : Run)], z.1 ∈ ys ∧ z.2 = 1 := fun hx z hz => by
      rw [List.mem_singleton] at hz
      subst hz
      exact ⟨hx, rfl⟩
    have in2 : ∀ {x y : Str}, x ∈ ys → y ∈ ys → ∀ z ∈ [((x, 1) : Run), (y, 1)], z.1 ∈ ys ∧ z.2 = 1 := fun hx hy z hz => by
      rcases List.mem_cons.mp hz with rfl | hz
      · exact ⟨hx, rfl⟩
      · exact in1 hy z hz
    have in0 : ∀ z ∈ ([] : List Run), z.1 ∈ ys ∧ z.2 = 1 := fun z hz => by cases hz
    have mk : ∀ {H1 : Hp} {a : Addr} {o : HO}, H1 a = none → Same H1 (upd H1 a o) := fun h => Ask.Same.made1 (Same.refl _) h
    refine ⟨_, rfl, tL, _, rfl, .inr (sL H), rfl, rfl, _, rfl, ?_⟩
    show (if inV (.str k) (LK.map V.str) = true then _ else _)
    rw [inV_str]
    by_cases lone : k ∈ LK
    · rw [decide_eq_true lone]
      refine iteT ⟨_, rfl, _, rfl, two, fun a1 h1 => ⟨one, fun l hl => ⟨Nat.zero_le _, fun r hr => ⟨two, fun q hq => ?_⟩⟩⟩⟩
      have s1 := (mk (o := HO.tup []) hr).trans (mk (o := HO.tup [.ref l, .ref r]) hq)
      exact Qk _ q l r _ _ _ _ ((mk h1).trans ((mk hl).trans s1)) upd_same (SqT.of (s1 _ _ upd_same)) ((PairsV.one (r := (x, 1)) upd_same).same ((mk hl).trans s1)) (SqT.of (mk hq _ _ upd_same)) PairsV.nil (by show 1 ≤ 2; decide) (by show 0 ≤ 2; decide) (in1 hx) in0 (by unfold sdL; rw [if_pos lone]) (by unfold sdR; rw [if_pos lone])
    rw [decide_eq_false lone]
    refine iteF ?_
    obtain ⟨y, rfl, hy⟩ := hs lone
    refine ⟨_, rfl, rfl, _, rfl, ite2 (fun qA => ?_) (fun nA => ?_)⟩
    · refine ⟨_, rfl, _, rfl, two, fun a1 h1 => ⟨one, fun l hl => ⟨_, rfl, _, rfl, two, fun a2 h2 => ⟨one, fun r hr => ⟨two, fun q hq => ?_⟩⟩⟩⟩⟩
      have s1 := (mk (o := HO.tup [.ref a2]) hr).trans (mk (o := HO.tup [.ref l, .ref r]) hq)
      have s2 := (mk (o := HO.tup [.str y, .int 1]) h2).trans s1
      exact Qk _ q l r _ _ _ _ ((mk h1).trans ((mk hl).trans s2)) upd_same (SqT.of (s2 _ _ upd_same)) ((PairsV.one (r := (x, 1)) upd_same).same ((mk hl).trans s2)) (SqT.of (mk hq _ _ upd_same)) ((PairsV.one (r := (y, 1)) upd_same).same s1) (by show 1 ≤ 2; decide) (by show 1 ≤ 2; decide) (in1 hx) (in1 hy) (by unfold sdL; rw [if_neg lone, if_pos (V.str.inj (of_decide_eq_true qA))]) (by unfold sdR; rw [if_neg lone, if_pos (V.str.inj (of_decide_eq_true qA))]; rfl)
    have nA : ¬ k = "alike" := fun z => nA (decide_eq_true (congrArg V.str z))
    refine ⟨_, rfl, rfl, _, rfl, ite2 (fun qB => ?_) (fun nB => ?_)⟩
    · refine ⟨_, rfl, two, fun a1 h1 => ⟨_, rfl, _, rfl, two, fun a2 h2 => ⟨two, fun l hl => ⟨_, rfl, two, fun a3 h3 => ⟨one, fun r hr => ⟨two, fun q hq => ?_⟩⟩⟩⟩⟩⟩
      have s1 := (mk (o := HO.tup [.ref a3]) hr).trans (mk (o := HO.tup [.ref l, .ref r]) hq)
      have s2 := (mk (o := HO.tup [.str x, .int 1]) h3).trans s1
      have s3 := (mk (o := HO.tup [.ref a1, .ref a2]) hl).trans s2
      have s4 := (mk (o := HO.tup [.str y, .int 1]) h2).trans s3
      exact Qk _ q l r _ _ _ _ ((mk h1).trans s4) upd_same (SqT.of (s2 _ _ upd_same)) (((PairsV.one (r := (x, 1)) upd_same).same s4).cat ((PairsV.one (r := (y, 1)) upd_same).same s3)) (SqT.of (mk hq _ _ upd_same)) ((PairsV.one (r := (x, 1)) upd_same).same s1) (by show 2 ≤ 2; decide) (by show 1 ≤ 2; decide) (in2 hx hy) (in1 hx) (by unfold sdL; rw [if_neg lone, if_neg nA]; rfl) (by unfold sdR; rw [if_neg lone, if_neg nA, if_pos (V.str.inj (of_decide_eq_true qB))])
    have nB : ¬ k = "kept" := fun z => nB (decide_eq_true (congrArg V.str z))
    refine ⟨_, rfl, rfl, _, rfl, ite2 (fun qC => ?_) (fun nC => ?_)⟩
    · refine ⟨_, rfl, _, rfl, two, fun a1 h1 => ⟨_, rfl, two, fun a2 h2 => ⟨two, fun l hl => ⟨_, rfl, two, fun a3 h3 => ⟨one, fun r hr => ⟨two, fun q hq => ?_⟩⟩⟩⟩⟩⟩
      have s1 := (mk (o := HO.tup [.ref a3]) hr).trans (mk (o := HO.tup [.ref l, .ref r]) hq)
      have s2 := (mk (o := HO.tup [.str y, .int 1]) h3).trans s1
      have s3 := (mk (o := HO.tup [.ref a1, .ref a2]) hl).trans s2
      have s4 := (mk (o := HO.tup [.str y, .int 1]) h2).trans s3
      exact Qk _ q l r _ _ _ _ ((mk h1).trans s4) upd_same (SqT.of (s2 _ _ upd_same)) (((PairsV.one (r := (x, 1)) upd_same).same s4).cat ((PairsV.one (r := (y, 1)) upd_same).same s3)) (SqT.of (mk hq _ _ upd_same)) ((PairsV.one (r := (y, 1)) upd_same).same s1) (by show 2 ≤ 2; decide) (by show 1 ≤ 2; decide) (in2 hx hy) (in1 hy) (by unfold sdL; rw [if_neg lone, if_neg nA]; rfl) (by unfold sdR; rw [if_neg lone, if_neg nA, if_neg nB, if_pos (V.str.inj (of_decide_eq_true qC))]; rfl)
    · refine ⟨_, rfl, _, rfl, two, fun a1 h1 => ⟨_, rfl, _, rfl, two, fun a2 h2 => ⟨two, fun l hl => ⟨Nat.zero_le _, fun r hr => ⟨two, fun q hq => ?_⟩⟩⟩⟩⟩
      have s1 := (mk (o := HO.tup []) hr).trans (mk (o := HO.tup [.ref l, .ref r]) hq)
      have s3 := (mk (o := HO.tup [.ref a1, .ref a2]) hl).trans s1
      have s4 := (mk (o := HO.tup [.str y, .int 1]) h2).trans s3
      exact Qk _ q l r _ _ _ _ ((mk h1).trans s4) upd_same (SqT.of (s1 _ _ upd_same)) (((PairsV.one (r := (x, 1)) upd_same).same s4).cat ((PairsV.one (r := (y, 1)) upd_same).same s3)) (SqT.of (mk hq _ _ upd_same)) PairsV.nil (by show 2 ≤ 2; decide) (by show 0 ≤ 2; decide) (in2 hx hy) in0 (by unfold sdL; rw [if_neg lone, if_neg nA]; rfl) (by unfold sdR; rw [if_neg lone, if_neg nA, if_neg nB, if_neg (fun z => nC (decide_eq_true (congrArg V.str z)))])
end
end Ask

namespace Ask
open PySem L2
def ixOf : List Str → Str → Nat
  | [], _ => 0
  | y :: ys, x => if y = x then 0 else ixOf ys x + 1
theorem ixOf_at : ∀ {ys : List Str} {x : Str}, x ∈ ys → ys[ixOf ys x]? = some x ∧ ∀ m < ixOf ys x, ys[m]? ≠ some x
  | [], _, h => by cases h
  | y :: ys, x, h => by
    unfold ixOf
    by_cases e : y = x
    · rw [if_pos e]
      exact ⟨congrArg some e, fun m hm => absurd hm (Nat.not_lt_zero _)⟩
    · rw [if_neg e]
      have h' : x ∈ ys := by
        rcases List.mem_cons.mp h with h | h
        · exact absurd h.symm e
        · exact h
      obtain ⟨h1, h2⟩ := ixOf_at h'
      refine ⟨h1, fun m hm => ?_⟩
      cases m with
      | zero => exact fun z => e (Option.some.inj z)
      | succ m => exact h2 m (Nat.lt_of_succ_lt_succ hm)

/-! ### a machine -/
def MacAt (K : PySem.W.Frag) (CL CM : Addr) (H : Hp) (p : Addr) (ys : List Str) (rs : List (List Nat)) (ans : List Str) (nw fo : Nat) : Prop := ∃ (dx m t ra aa : Addr), H p = some (.ins CM dx [("letters", .ref m), ("rows", .ref ra), ("answers", .ref aa), ("new", vN nw), ("found", vN fo)]) ∧ Mde CL H m t ys ∧ RowsN K H ra rs ∧ SqT K H aa (ans.map V.str)
theorem MacAt.same {K : PySem.W.Frag} {CL CM p : Addr} {H H' : Hp} {ys : List Str} {rs : List (List Nat)} {ans : List Str} {nw fo : Nat} (h : MacAt K CL CM H p ys rs ans nw fo) (s : Same H H') : MacAt K CL CM H' p ys rs ans nw fo := by
  obtain ⟨dx, m, t, ra, aa, h1, h2, h3, h4⟩ := h
  exact ⟨dx, m, t, ra, aa, s _ _ h1, h2.same s, h3.same s, seqT_same s h4⟩
structure MacC (K : PySem.W.Frag) (C : Addr) : Prop where
  c : Cls K C
  a1 : NoAttr K C "letters"
  a2 : NoAttr K C "rows"
  a3 : NoAttr K C "answers"
  a4 : NoAttr K C "new"
  a5 : NoAttr K C "found"
/-- the state behind runs -/
def aftN (rs : List (List Nat)) (ys : List Str) (s : Nat) (runs : List Run) : Nat := runs.foldl (fun s r => itN (mvN rs (ixOf ys r.1)) r.2.toNat s) s
theorem aftN_lt {rs : List (List Nat)} {ys : List Str} (ok : RowsOk rs ys.length) : ∀ (runs : List Run) (s : Nat), (∀ r ∈ runs, r.1 ∈ ys) → s < rs.length → aftN rs ys s runs < rs.length
  | [], s, _, h => h
  | r :: runs, s, hin, h => by
    have hx := hin r (List.mem_cons_self ..)
    have il : ixOf ys r.1 < ys.length := (List.getElem?_eq_some_iff.mp (ixOf_at hx).1).1
    exact aftN_lt ok runs _ (fun x hx => hin x (List.mem_cons_of_mem _ hx)) (itN_lt (fun s hs => (mvN_at ok il hs).choose_spec.2.2) _ _ h)
section
variable {P : Program} {w : World} {K : PySem.W.Frag} {mg : Str → Option Value} {base : Heap}
def spStart (K : PySem.W.Frag) (CL CM : Addr) : Sp := fun vs H Q _ => ∃ (p : Addr) (ys : List Str) (rs : List (List Nat)) (ans : List Str) (nw fo : Nat) (b : Str), vs = [.ref p, .str b] ∧ MacAt K CL CM H p ys rs ans nw fo ∧ Q (vN (if b = "new" then nw else fo)) H
abbrev s_Machine_start : Stmt := inClass (top 69) 4
theorem sc_Machine_start : FnScope ["self", "beginning"] ["self", "beginning"] (defScope s_Machine_start) := ⟨rfl, rfl, rfl, by decide +kernel, rfl, by decide +kernel, by decide +kernel⟩
theorem ok_start {f CL CM : Addr} {fd : FuncData} (F : Fun K "start" "Machine.start" s_Machine_start f fd) (hM : MacC K CM) : FnOk P w K mg base CX0 1 f fd ["self", "beginning"] (spStart K CL CM) := by
  refine F.ok sc_Machine_start (fun vs H Q E h => ?_) (fun cdv A outer s H vs Q E hr h => ?_)
  · obtain ⟨p, ys, rs, ans, nw, fo, b, rfl, _⟩ := h
    rfl
  · obtain ⟨p, ys, rs, ans, nw, fo, b, rfl, ⟨dx, m, t, ra, aa, hp, hL, hR, hA⟩, kq⟩ := h
    refine ⟨_, (pss_one (ps_ret (pe_ifExp (pt_cmpR op_eq (pv 1) pe_str (nomark _)) (pe_fld (pv 0) rfl) (pe_fld (pv 0) rfl)))), ?_⟩
    refine ⟨_, rfl, rfl, _, rfl, ite2 (fun q => ?_) (fun q => ?_)⟩
    · have q : b = "new" := V.str.inj (of_decide_eq_true q)
      rw [if_pos q] at kq
      exact ⟨_, rfl, p, CM, dx, _, _, rfl, hp, hM.c, hM.a4, rfl, kq⟩
    · have q : ¬ b = "new" := fun z => q (decide_eq_true (congrArg V.str z))
      rw [if_neg q] at kq
      exact ⟨_, rfl, p, CM, dx, _, _, rfl, hp, hM.c, hM.a5, rfl, kq⟩
def spAfter (K : PySem.W.Frag) (CL CM : Addr) : Sp := fun vs H Q _ => ∃ (p a : Addr) (ys : List Str) (rs : List (List Nat)) (ans : List Str) (nw fo s : Nat) (ks : List V) (runs : List Run), vs = [.ref p, vN s, .ref a] ∧ MacAt K CL CM H p ys rs ans nw fo ∧ ys.Nodup ∧ RowsOk rs ys.length ∧ rs.length ≤ 1000 ∧ s < rs.length ∧ SqT K H a ks ∧ PairsV H ks runs ∧ (∀ r ∈ runs, r.1 ∈ ys ∧ 0 ≤ r.2) ∧
  ∀ H', Same H H' → Q (vN (aftN rs ys s runs)) H'
abbrev s_Machine_after_runs : Stmt := inClass (top 69) 5
theorem sc_Machine_after_runs : FnScope ["self", "state", "runs", "letter", "count"] ["self", "state", "runs"] (defScope s_Machine_after_runs) := ⟨rfl, rfl, rfl, by decide +kernel, rfl, by decide +kernel, by decide +kernel⟩
theorem ok_after {f fR fL CL CM CE : Addr} {fd fdR fdL : FuncData} (F : Fun K "after_runs" "Machine.after_runs" s_Machine_after_runs f fd) (hM : MacC K CM) (hC : Cls K CL)
    (G_leap : FnOk P w K mg base CX0 1 fL fdL ["moves", "state", "rank", "count"] (spLeap K)) (A_leap : At K mg "leap" fL fdL ["moves", "state", "rank", "count"])
    (mR : Meth K CL "rank" fR) (bR : Binds K fdR ["self", "x"] []) (GR : FnOk P w K mg base (L2.CX P w) 4 fR fdR ["self", "x"] (spRank CL CE)) :
    FnOk P w K mg base CX0 5 f fd ["self", "state", "runs"] (spAfter K CL CM) := by
  refine F.ok sc_Machine_after_runs (fun vs H Q E h => ?_) (fun cdv A outer s H vs Q E hr h => ?_)
  · obtain ⟨p, a, ys, rs, ans, nw, fo, s, ks, runs, rfl, _⟩ := h
    rfl
  · obtain ⟨p, a, ys, rs, ans, nw, fo, s0, ks, runs, rfl, hMac, nd, hok, lr, hs, hS, hR, hin, kq⟩ := h
    have h_leap := hr.mono (j := 1) (by decide)
    refine ⟨_, (pss_cons (ps_for PassesOwn.never rfl (pi_tup (pv 2)) (pg_tup rfl (pgs_cons (pg_name (i := 3) sc_Machine_after_runs.nd rfl (Or.inl rfl)) (pgs_cons (pg_name (i := 4) sc_Machine_after_runs.nd rfl (Or.inl rfl)) pgs_nil))) (pss_one (ps_set (i := 1) sc_Machine_after_runs.nd rfl (Or.inl rfl) (pe_call G_leap (by exact h_leap) (by rfl) A_leap.m A_leap.k A_leap.b .nil pass0 (pa_cons (pe_fld (pv 0) rfl) (pa_cons (pv 1) (pa_cons (pe_meth (pe_fld (pv 0) rfl) hC mR GR hr bR .nil passE (pa_cons (pv 3) pa_nil)) (pa_cons (pv 4) pa_nil))))))))
      (pss_one (ps_ret (pv 1)))), ?_⟩
    refine ⟨_, rfl, a, rfl, ⟨_, hS⟩, ?_⟩
    refine for_it (walk_tup (xs := ks)) (fun i σ' H' => ∃ o3 o4 : Option V, σ' = [some (.ref p), some (vN (aftN rs ys s0 (runs.take i))), some (.ref a), o3, o4] ∧ Same H H') ⟨_, _, rfl, Same.refl H⟩ (fun i σ' H' _ ⟨_, _, _, e⟩ => seqT_same e hS) ?_ ?_
    · rintro i v σ' H2 H3 hi ⟨o3, o4, rfl, s2⟩ ⟨rfl, hv⟩
      obtain ⟨r, hri⟩ : ∃ r, runs[i]? = some r := ⟨_, List.getElem?_eq_getElem (by rw [← hR.1]; exact hi)⟩
      obtain ⟨b, rfl, hb⟩ := (hR.same s2).2 i v r hv hri
      obtain ⟨rin, rpos⟩ := hin r (List.mem_of_getElem? hri)
      obtain ⟨dx, m, t, ra, aa, hp, hL, hRw, hA⟩ := hMac.same s2
      have il : ixOf ys r.1 < ys.length := (List.getElem?_eq_some_iff.mp (ixOf_at rin).1).1
      have lt := aftN_lt hok (runs.take i) s0 (fun x hx => (hin x (List.mem_of_mem_take hx)).1) hs
      have hL' := hL
      obtain ⟨dx2, ob, hm1, _⟩ := id hL
      refine ⟨b, _, rfl, SqT.of hb, rfl, _, _, rfl, _, _, rfl, rfl, ?_⟩
      refine ⟨_, rfl, p, CM, dx, _, _, rfl, hp, hM.c, hM.a2, rfl, _, rfl, _, rfl, p, CM, dx, _, _, rfl, hp, hM.c, hM.a1, rfl, m, dx2, _, rfl, hm1, rfl, _, rfl, m, t, ys, _, rfl, hL, nd, .inl ⟨ixOf ys r.1, r.1, rfl, (ixOf_at rin).1, fun H4 s4 => ?_⟩⟩
      refine ⟨_, rfl, ra, rs, ys.length, _, ixOf ys r.1, r.2, rfl, hRw.same s4, hok, il, lt, lr, rpos, fun H5 s5 => ?_⟩
      refine ⟨some (.str r.1), some (.int r.2), ?_, (s2.trans s4).trans s5⟩
      rw [List.take_add_one, hri]
      have e : aftN rs ys s0 (runs.take i ++ [r]) = itN (mvN rs (ixOf ys r.1)) r.2.toNat (aftN rs ys s0 (runs.take i)) := by
        unfold aftN
        rw [List.foldl_append]
        rfl
      show _ = [_, some (vN (aftN rs ys s0 (runs.take i ++ [r]))), _, _, _]
      rw [e]
      rfl
    · rintro σ' H2 ⟨o3, o4, rfl, s2⟩
      rw [hR.1, List.take_length]
      exact ⟨_, rfl, kq H2 s2⟩
end
end Ask

namespace Ask
open PySem L2
/-- whether x stands ahead of s -/
def ahead (ys : List Str) (x : Str) : V → Bool
  | .str y => decide (ixOf ys x < ixOf ys y)
  | _ => false
/-- the one form -/
def nfT (ys : List Str) (k x : Str) (s : V) : List V := if k = "over" ∧ V.str x = s then [.str "kept", .str x, s] else if k = "alike" ∧ ahead ys x s = true then [.str k, s, .str x] else [.str k, .str x, s]
section
variable {P : Program} {w : World} {K : PySem.W.Frag} {mg : Str → Option Value} {base : Heap}
/-! ### one_form -/
def spForm (CL : Addr) : Sp := fun vs H Q _ => ∃ (m t : Addr) (ys : List Str) (k x : Str) (s : V), vs = [.ref m, .str k, .str x, s] ∧ Mde CL H m t ys ∧ ys.Nodup ∧ x ∈ ys ∧ (k ∉ LK → ∃ y, s = .str y ∧ y ∈ ys) ∧ (k ∈ LK → s = .non) ∧
  ∀ (H' : Hp) (q : Addr), Same H H' → H' q = some (.tup (nfT ys k x s)) → Q (.ref q) H'
abbrev s_one_form : Stmt := top 58
theorem sc_one_form : FnScope ["letters", "kind", "first", "second"] ["letters", "kind", "first", "second"] (defScope s_one_form) := ⟨rfl, rfl, rfl, by decide +kernel, rfl, by decide +kernel, by decide +kernel⟩
theorem ok_form {f fR CL CE : Addr} {fd fdR : FuncData} (F : Fun K "one_form" "one_form" s_one_form f fd) (hC : Cls K CL) (mR : Meth K CL "rank" fR) (bR : Binds K fdR ["self", "x"] []) (GR : FnOk P w K mg base (L2.CX P w) 4 fR fdR ["self", "x"] (spRank CL CE)) :
    FnOk P w K mg base CX0 5 f fd ["letters", "kind", "first", "second"] (spForm CL) := by
  refine F.ok sc_one_form (fun vs H Q E h => ?_) (fun cdv A outer s H vs Q E hr h => ?_)
  · obtain ⟨m, t, ys, k, x, s, rfl, _⟩ := h
    rfl
  · obtain ⟨m, t, ys, k, x, s', rfl, hM, nd, hx, hs1, hs2, kq⟩ := h
    refine ⟨_, (pss_cons (ps_if (PW.pt (pw_and (pt_cmpR op_eq (pv 1) pe_str (nomark _)) (pw_and1 (pt_cmpR op_eq (pv 2) (pv 3) (nomark _))))) (pss_one (ps_ret (pe_tup (pa_cons pe_str (pa_cons (pv 2) (pa_cons (pv 3) pa_nil)))))) pss_nil)
      (pss_cons (ps_if (PW.pt (pw_and (pt_cmpR op_eq (pv 1) pe_str (nomark _)) (pw_and1 (pt_cmpR op_lt (pe_meth (pv 0) hC mR GR hr bR .nil passE (pa_cons (pv 2) pa_nil)) (pe_meth (pv 0) hC mR GR hr bR .nil passE (pa_cons (pv 3) pa_nil)) (nomark _))))) (pss_one (ps_ret (pe_tup (pa_cons (pv 1) (pa_cons (pv 3) (pa_cons (pv 2) pa_nil)))))) pss_nil)
      (pss_one (ps_ret (pe_tup (pa_cons (pv 1) (pa_cons (pv 2) (pa_cons (pv 3) pa_nil)))))))), ?_⟩
    obtain ⟨dx, ob, m1, _⟩ := id hM
    have sc : scal (.str x) s' = true := by
      by_cases l : k ∈ LK
      · rw [hs2 l]; rfl
      · obtain ⟨y, rfl, _⟩ := hs1 l; rfl
    have three : (3 : Nat) ≤ sizeLine := by decide
    -- behind the first look
    have rest : ¬ (k = "over" ∧ V.str x = s') → ∀ (tt : TS), True → True := fun _ _ _ => trivial
    refine ⟨_, rfl, rfl, _, rfl, ite2 (fun q1 => ?_) (fun q1 => ?_)⟩
    · have q1 : k = "over" := V.str.inj (of_decide_eq_true q1)
      refine ⟨_, rfl, _, rfl, sc, _, rfl, ite2 (fun q2 => ?_) (fun q2 => ?_)⟩
      · have q2 := of_decide_eq_true q2
        exact ⟨_, rfl, _, rfl, three, fun q hq => kq _ q (Ask.Same.made1 (Same.refl H) hq) (by unfold nfT; rw [if_pos ⟨q1, q2⟩]; exact upd_same)⟩
      · have q2 : ¬ V.str x = s' := fun z => q2 (decide_eq_true z)
        have n2 : ¬ k = "alike" := by rw [q1]; decide
        refine ⟨_, rfl, rfl, _, rfl, ?_⟩
        rw [decide_eq_false (fun z => n2 (V.str.inj z))]
        refine iteF ⟨_, rfl, _, rfl, _, rfl, three, fun q hq => kq _ q (Ask.Same.made1 (Same.refl H) hq) (by unfold nfT; rw [if_neg (fun z => q2 z.2), if_neg (fun z => n2 z.1)]; exact upd_same)⟩
    · have q1 : ¬ k = "over" := fun z => q1 (decide_eq_true (congrArg V.str z))
      refine ⟨_, rfl, rfl, _, rfl, ite2 (fun q2 => ?_) (fun q2 => ?_)⟩
      · have q2 : k = "alike" := V.str.inj (of_decide_eq_true q2)
        obtain ⟨y, rfl, hy⟩ := hs1 (by rw [q2]; decide)
        refine ⟨_, rfl, m, dx, _, rfl, m1, rfl, _, rfl, m, t, ys, _, rfl, hM, nd, .inl ⟨ixOf ys x, x, rfl, (ixOf_at hx).1, fun H2 s2 => ?_⟩⟩
        refine ⟨_, rfl, m, dx, _, rfl, s2 _ _ m1, rfl, _, rfl, m, t, ys, _, rfl, hM.same s2, nd, .inl ⟨ixOf ys y, y, rfl, (ixOf_at hy).1, fun H3 s3 => ?_⟩⟩
        refine ⟨_, _, rfl, rfl, _, rfl, ite2 (fun q3 => ?_) (fun q3 => ?_)⟩
        · have q3 : (ixOf ys x : Int) < (ixOf ys y : Int) := of_decide_eq_true q3
          exact ⟨_, rfl, _, rfl, _, rfl, three, fun q hq => kq _ q (Ask.Same.made1 (s2.trans s3) hq) (by unfold nfT; rw [if_neg (fun z => q1 z.1), if_pos ⟨q2, decide_eq_true (by omega)⟩]; exact upd_same)⟩
        · have q3 : ¬ (ixOf ys x : Int) < (ixOf ys y : Int) := fun z => q3 (decide_eq_true z)
          exact ⟨_, rfl, _, rfl, _, rfl, three, fun q hq => kq _ q (Ask.Same.made1 (s2.trans s3) hq) (by unfold nfT; rw [if_neg (fun z => q1 z.1), if_neg (fun z => by have := of_decide_eq_true z.2; omega)]; exact upd_same)⟩
      · have q2 : ¬ k = "alike" := fun z => q2 (decide_eq_true (congrArg V.str z))
        exact ⟨_, rfl, _, rfl, _, rfl, three, fun q hq => kq _ q (Ask.Same.made1 (Same.refl H) hq) (by unfold nfT; rw [if_neg (fun z => q1 z.1), if_neg (fun z => q2 z.1)]; exact upd_same)⟩
end
end Ask

namespace Ask
open PySem L2
section
variable {P : Program} {w : World} {K : PySem.W.Frag} {mg : Str → Option Value} {base : Heap} {CL CB CM CH : Addr} {H : Hp} {a m t : Addr} {ys : List Str} {b : Str} {xs : List V} {rs : List Run} {Q : VK} {E : XK}
/-- Letters(a) is made -/
theorem let_made (lts : Lts ys) (ha : SqL K H a (ys.map V.str) ∨ SqT K H a (ys.map V.str)) {x dx : Addr} (hx : H x = none) (hdx : H dx = none) (hne : dx ≠ x) (k : ∀ (H' : Hp) (t : Addr), Same H H' → Mde CL H' x t ys → Q .non H') :
    spLet K CL CB CM [.ref x, .ref a] (upd (upd H dx (.own x)) x (.ins CL dx [])) Q E := by
  have sm : Same H (upd (upd H dx (.own x)) x (.ins CL dx [])) := Ask.Same.made1 (Ask.Same.made1 (Same.refl H) hdx) (by rw [upd_ne hne.symm]; exact hx)
  refine ⟨x, dx, a, _, _, (fun _ => True), rfl, upd_same, seqA_same ha sm, itl_strs lts.fit, (by rw [List.length_map]; have := lts.l1; omega), fun _ _ _ e => ?_, fun _ _ e => ?_, fun H5 t o5 _ ho e1 e2 kk => ?_⟩
  · rw [lts.res] at e
    cases e
  · rw [List.length_map] at e
    have := lts.l1
    omega
  · exact k H5 t (Same.made hx hdx fun b o e hb => kk b o hb e) ⟨dx, o5, e1, e2, ho⟩
/-- History(m, b, a) is made -/
theorem hist_made (hM : Mde CL H m t ys) (hb : b = "new" ∨ b = "found") (ha : SqL K H a xs ∨ SqT K H a xs) (hR : RunsV K H xs rs) (ln : rs.length ≤ 1000) (hok : ∀ r ∈ rs, r.1 ∈ ys ∧ 1 ≤ r.2 ∧ r.2 ≤ 1000000000000000000000000000000) (lm : (joinR rs).length ≤ 400)
    {x dx : Addr} (hx : H x = none) (hdx : H dx = none) (hne : dx ≠ x) (k : ∀ H', Same H H' → HistAt K CL CH H' x ys b (joinR rs) → Q .non H') :
    spHist K CL CH [.ref x, .ref m, .str b, .ref a] (upd (upd H dx (.own x)) x (.ins CH dx [])) Q E := by
  have sm : Same H (upd (upd H dx (.own x)) x (.ins CH dx [])) := Ask.Same.made1 (Ask.Same.made1 (Same.refl H) hdx) (by rw [upd_ne hne.symm]; exact hx)
  refine ⟨x, dx, m, t, a, b, ys, xs, rs, rfl, upd_same, hM.same sm, hb, seqA_same ha sm, hR.same sm, ln, hok, lm, fun H' c ks e1 e2 e3 e4 kk => ?_⟩
  exact k H' (Same.made hx hdx fun b o e hb => kk b o hb e) ⟨dx, m, t, c, ks, e1, e2, e3, e4⟩
end
end Ask

namespace Ask
open PySem L2
/-- what stands but at p -/
def But (p : Addr) (H H' : Hp) : Prop := ∀ b o, b ≠ p → H b = some o → H' b = some o
theorem But.same {p : Addr} {H H1 H2 : Hp} (k : But p H H1) (s : Same H1 H2) : But p H H2 := fun b o n e => s _ _ (k b o n e)
theorem But.upd {p : Addr} {H H1 : Hp} {o : HO} (k : But p H H1) : But p H (upd H1 p o) := fun b u n e => by rw [upd_ne n]; exact k b u n e
/-- what comes of a sentence: 0 the kind, 1 and 2 the letters, 3 nothing said, 4 a sentence -/
def outS (ys : List Str) (kd f s : V) : Nat := if inB KL kd = false then 0 else if inB ys f = false then 1 else if (if inB LK kd = true then isN s else inB ys s) = false then 2 else if kd = .str "alike" ∧ f = s then 3 else 4
/-- where a sentence's sides begin -/
def bgR (k : Str) : Str := if k = "still" then "new" else "found"
theorem HistAt.but {K : PySem.W.Frag} {CL CH C p dx q : Addr} {H H' : Hp} {ys : List Str} {b : Str} {rs : List Run} {fs : List (Str × V)} (h : HistAt K CL CH H q ys b rs) (k : But p H H') (hp : H p = some (.ins C dx fs)) (n1 : ∀ m c b rs, fs ≠ hf m c b rs := by intro m c b rs z; cases z) (n2 : ∀ t, fs ≠ ([("words", V.ref t)] : List (Str × V)) := by intro t z; cases z) : HistAt K CL CH H' q ys b rs := by
  obtain ⟨dx', m, t, c, ks, h1, h2, h3, h4⟩ := h
  refine ⟨dx', m, t, c, ks, k _ _ (ne_of h1 hp ?_) h1, h2.but k hp (n2 t), seqT_but h3 k hp, h4.but k hp⟩
  intro z
  injection z with z1 z2 z3
  exact n1 m c b rs z3.symm
/-- the attributes that a sentence is given -/
structure SnC (K : PySem.W.Frag) (C : Addr) : Prop where
  c : Cls K C
  a1 : NoAttr K C "letters"
  a2 : NoAttr K C "kind"
  a3 : NoAttr K C "first"
  a4 : NoAttr K C "second"
section
variable {P : Program} {w : World} {K : PySem.W.Frag} {mg : Str → Option Value} {base : Heap} {CL CB CM CH : Addr} {H : Hp} {a m t : Addr} {ys : List Str} {b : Str} {xs : List V} {rs : List Run} {Q : VK} {E : XK}

end
section
variable {P : Program} {w : World} {K : PySem.W.Frag} {mg : Str → Option Value} {base : Heap}
def spSen (K : PySem.W.Frag) (CL CS CK CT CN : Addr) : Sp := fun vs H Q E => ∃ (p dx m t pp : Addr) (kd f s : V) (ys : List Str), vs = [.ref p, .ref m, kd, f, s] ∧ H p = some (.ins CS dx []) ∧ Mde CL H m t ys ∧ ys.Nodup ∧ Val pp H kd ∧ Val pp H f ∧ Val pp H s ∧
  (outS ys kd f s = 0 → E (.ref CK) none H) ∧
  (∀ i : Nat, outS ys kd f s = i + 1 → i ≤ 1 → ∀ (H' : Hp) (d : Addr), Same H H' → H' d = some (.xd (fsBad [.int (i : Nat)])) → E (.ref CT) (some d) H') ∧
  (outS ys kd f s = 3 → E (.ref CN) none H) ∧
  (outS ys kd f s = 4 → ∀ (k x : Str), kd = .str k → f = .str x → k ∈ KL → x ∈ ys → (k ∉ LK → ∃ y, s = .str y ∧ y ∈ ys) → (k ∈ LK → s = .non) → ∀ (H' : Hp) (k' x' : Str) (s' : V), H' p = some (.ins CS dx [("letters", .ref m), ("kind", .str k'), ("first", .str x'), ("second", s')]) → But p H H' → nfT ys k x s = [.str k', .str x', s'] → Q .non H')
abbrev s_Sen_init : Stmt := inClass (top 60) 0
theorem sc_Sen_init : FnScope ["self", "letters", "kind", "first", "second"] ["self", "letters", "kind", "first", "second"] (defScope s_Sen_init) := ⟨rfl, rfl, rfl, by decide +kernel, rfl, by decide +kernel, by decide +kernel⟩
theorem nfT_three (ys : List Str) (k x : Str) (s : V) : ∃ a b c, nfT ys k x s = [a, b, c] := by
  unfold nfT
  split
  · exact ⟨_, _, _, rfl⟩
  · split
    · exact ⟨_, _, _, rfl⟩
    · exact ⟨_, _, _, rfl⟩
/-- what the one form is, where the parts are right -/
theorem nfT_ok {ys : List Str} {k x : Str} {s : V} (hk : k ∈ KL) (hx : x ∈ ys) (h1 : k ∉ LK → ∃ y, s = .str y ∧ y ∈ ys) (h2 : k ∈ LK → s = .non) :
    ∃ (k' x' : Str) (s' : V), nfT ys k x s = [.str k', .str x', s'] ∧ k' ∈ KL ∧ x' ∈ ys ∧ (k' ∉ LK → ∃ y, s' = .str y ∧ y ∈ ys) ∧ (k' ∈ LK → s' = .non) := by
  unfold nfT
  split
  · rename_i h
    refine ⟨"kept", x, s, rfl, by decide, hx, fun _ => ⟨x, h.2.symm, hx⟩, fun z => absurd z (by decide)⟩
  · split
    · rename_i _ h
      obtain ⟨y, rfl, hy⟩ := h1 (by rw [h.1]; decide)
      exact ⟨k, y, .str x, rfl, hk, hy, fun _ => ⟨x, rfl, hx⟩, fun z => by rw [h.1] at z; exact absurd z (by decide)⟩
    · exact ⟨k, x, s, rfl, hk, hx, h1, h2⟩
theorem joinR_small {rs : List Run} (h : rs.length ≤ 2) : (joinR rs).length ≤ 400 := by
  have := joinR_len rs
  omega
theorem ok_senInit {dvs : List V} {f fD fO fT fH CL CS CK CT CN : Addr} {fd fdD fdO fdT fdH : FuncData} (F : FunD K "__init__" "Sentence.__init__" (defArgs s_Sen_init) (defBody s_Sen_init) (defScope s_Sen_init) dvs [] f fd) (hC : SnC K CS) (Gk : GvK K mg)
    (GH : FnOk P w K mg base CX0 1 fH fdH ["self", "x"] (spHas CL)) (bH : Binds K fdH ["self", "x"] []) (hH : PySem.W.findIn K (.ref CL) "__contains__" = some (some (.ref fH))) (iH : PySem.W.isFn K (.ref fH) = true)
    (GD : FnOk P w K mg base CX0 2 fD fdD ["letters", "value", "has_letter"] (spIsDue CL)) (AD : At K mg "is_due" fD fdD ["letters", "value", "has_letter"])
    (GO : FnOk P w K mg base CX0 5 fO fdO ["letters", "kind", "first", "second"] (spForm CL)) (AO : At K mg "one_form" fO fdO ["letters", "kind", "first", "second"])
    (EK : Err0 K mg "BadKind" CK) (EN : Err0 K mg "SaysNothing" CN)
    (GT : FnOk P w K mg base CX0 2 fT fdT ["self", "index"] (spErr CT okBad fsBad)) (ET : ErrAt K mg "BadLetter" CT fT fdT ["self", "index"])  :
    FnOk P w K mg base (L2.CX P w) 7 f fd ["self", "letters", "kind", "first", "second"] (spSen K CL CS CK CT CN) := by
  refine F.ok sc_Sen_init (fun vs H Q E h => ?_) (fun cdv A outer s H vs Q E hr h => ?_)
  · obtain ⟨p, dx, m, t, pp, kd, f, s, ys, rfl, _⟩ := h
    rfl
  · obtain ⟨p, dx, m, t, pp, kd, f, s', ys, rfl, hp, hM, nd, vk, vf, vs, k0, k12, k3, k4⟩ := h
    obtain ⟨tK, uK, mK, rK, sK⟩ := Gk.kinds
    obtain ⟨tL, uL, mL, rL, sL⟩ := Gk.lone
    have hr1 := hr.mono (j := 1) (by decide)
    have hr2 := hr.mono (j := 2) (by decide)
    have hr3 := hr.mono (j := 3) (by decide)
    refine ⟨_, (pss_cons (ps_if (pt_cmpR (op_notInW (hu_of hr)) (pv 2) (pe_gv (v := .ref tK) rfl ⟨uK, mK, rK⟩) rfl) (pss_one (ps_raise rfl (takes_of rfl rfl rfl rfl) (pmk_own0 PySem.F.excBase_ValueError EK.e EK.m EK.k (raises_own EK.b EK.t) (by rfl)))) pss_nil)
      (pss_cons (ps_if (pt_cmpR (op_notInI (C := CL) (E := E0) GH hr1 bH pass0 hH iH) (pv 3) (pv 1) rfl) (pss_one (ps_raise rfl (takes_of rfl rfl rfl rfl) (pmk_oex ET.o ET.i ET.t GT hr3 ET.b .nil pass0 (by rfl) ET.m (pa_cons pe_int pa_nil)))) pss_nil)
      (pss_cons (ps_if (pt_not (pt_val (pe_call GD hr2 (by rfl) AD.m AD.k AD.b .nil pass0 (pa_cons (pv 1) (pa_cons (pv 4) (pa_cons (pe_cmpR op_notIn_seq (pv 2) (pe_gv (v := .ref tL) rfl ⟨uL, mL, rL⟩) rfl) pa_nil)))))) (pss_one (ps_raise rfl (takes_of rfl rfl rfl rfl) (pmk_oex ET.o ET.i ET.t GT hr3 ET.b .nil pass0 (by rfl) ET.m (pa_cons pe_int pa_nil)))) pss_nil)
      (pss_cons (ps_if (PW.pt (pw_and (pt_cmpR op_eq (pv 2) pe_str (nomark _)) (pw_and1 (pt_cmpR op_eq (pv 3) (pv 4) (nomark _))))) (pss_one (ps_raise rfl (takes_of rfl rfl rfl rfl) (pmk_own0 PySem.F.excBase_ValueError EN.e EN.m EN.k (raises_own EN.b EN.t) (by rfl)))) pss_nil)
      (pss_cons (ps_fld (pv 0) (pv 1) rfl)
      (pss_one (ps_asg (pe_call GO (hr.mono (by decide)) (by rfl) AO.m AO.k AO.b .nil pass0 (pa_cons (pv 1) (pa_cons (pv 2) (pa_cons (pv 3) (pa_cons (pv 4) pa_nil))))) (pg_tup rfl (pgs_cons (pg_fld (pv 0)) (pgs_cons (pg_fld (pv 0)) (pgs_cons (pg_fld (pv 0)) pgs_nil))))))))))), ?_⟩
    refine ⟨_, rfl, tK, KL, _, rfl, sK H, vk.inw KL, _, rfl, ?_⟩
    cases bk : inB KL kd with
    | false => exact iteT (k0 (by unfold outS; rw [if_pos bk]))
    | true =>
    refine iteF ?_
    obtain ⟨k, rfl, hk⟩ := inB_some bk
    obtain ⟨dm, ob, m1, _⟩ := id hM
    refine ⟨_, rfl, _, rfl, m, dm, _, rfl, m1, m, t, ys, _, _, rfl, hM, vf.inw ys, _, rfl, _, rfl, ?_⟩
    cases bf : inB ys f with
    | false => exact iteT (err_made (Same.refl H) ⟨_, rfl⟩ (by show 1 ≤ 1000; decide) (fun H' d s' e => k12 0 (by unfold outS; rw [if_neg (by rw [bk]; decide), if_pos bf]) (by decide) H' d s' e))
    | true =>
    refine iteF ?_
    obtain ⟨x, rfl, hx⟩ := inB_some bf
    refine ⟨_, rfl, _, rfl, _, rfl, tL, _, rfl, .inr (sL H), rfl, rfl, m, t, ys, s', _, _, rfl, hM, vs.inw ys, _, rfl, ?_⟩
    have isn : isN s' = decide (s' = V.non) := by
      cases s' <;> first | rfl | exact (decide_eq_false (fun z => by cases z)).symm
    have ec : (if (if true = true then !inV (V.str k) (List.map V.str LK) else inV (V.str k) (List.map V.str LK)) = true then inB ys s' else decide (s' = V.non)) = (if inB LK (.str k) = true then isN s' else inB ys s') := by
      rw [inV_str, isn, if_pos rfl]
      show (if (!decide (k ∈ LK)) = true then _ else _) = (if decide (k ∈ LK) = true then _ else _)
      by_cases l : k ∈ LK
      · rw [decide_eq_true l]; rfl
      · rw [decide_eq_false l]; rfl
    rw [ec]
    cases b2 : (if inB LK (.str k) = true then isN s' else inB ys s') with
    | false => exact iteT (err_made (Same.refl H) ⟨_, rfl⟩ (by show 1 ≤ 1000; decide) (fun H' d s' e => k12 1 (by unfold outS; rw [if_neg (by rw [bk]; decide), if_neg (by rw [bf]; decide), if_pos b2]) (by decide) H' d s' e))
    | true =>
    refine iteF ?_
    have hs1 : k ∉ LK → ∃ y, s' = .str y ∧ y ∈ ys := fun l => by
      have e : inB LK (.str k) = false := decide_eq_false l
      rw [e, if_neg Bool.false_ne_true] at b2
      exact inB_some b2
    have hs2 : k ∈ LK → s' = .non := fun l => by
      have e : inB LK (.str k) = true := decide_eq_true l
      rw [e, if_pos rfl, isn] at b2
      exact of_decide_eq_true b2
    have sc : scal (.str x) s' = true := by
      by_cases l : k ∈ LK
      · rw [hs2 l]; rfl
      · obtain ⟨y, rfl, _⟩ := hs1 l; rfl
    have o34 : outS ys (.str k) (.str x) s' = if V.str k = .str "alike" ∧ V.str x = s' then 3 else 4 := by
      unfold outS
      rw [if_neg (by rw [bk]; decide), if_neg (by rw [bf]; decide), if_neg (by rw [b2]; decide)]
    refine ⟨_, rfl, rfl, _, rfl, ?_⟩
    by_cases qa : V.str k = .str "alike"
    · rw [decide_eq_true qa]
      refine iteT ⟨_, rfl, _, rfl, sc, _, rfl, ?_⟩
      by_cases qb : V.str x = s'
      · rw [decide_eq_true qb]
        exact iteT (k3 (by rw [o34, if_pos ⟨qa, qb⟩]))
      · rw [decide_eq_false qb]
        have o4 : outS ys (.str k) (.str x) s' = 4 := by rw [o34, if_neg (fun z => qb z.2)]
        refine iteF ?_
        refine ⟨_, rfl, _, rfl, p, CS, dx, [], rfl, hp, hC.c, hC.a1, (by show 0 < 1000; decide), ?_⟩
        have p1 : upd H p (.ins CS dx (putF "letters" (.ref m) [])) p = some (.ins CS dx [("letters", .ref m)]) := upd_same
        have b1 : But p H (upd H p (.ins CS dx (putF "letters" (.ref m) []))) := But.upd fun _ _ _ e => e
        generalize upd H p (.ins CS dx (putF "letters" (.ref m) [])) = H1 at p1 b1 ⊢
        have hM1 : Mde CL H1 m t ys := hM.but b1 hp
        refine ⟨_, rfl, _, rfl, _, rfl, _, rfl, m, t, ys, k, x, s', rfl, hM1, nd, hx, hs1, hs2, fun H2 q s2 hq => ?_⟩
        obtain ⟨k', x', s2', enf, hk', hx', hs1', hs2'⟩ := nfT_ok hk hx hs1 hs2
        rw [enf] at hq
        have p2 := s2 _ _ p1
        refine ⟨q, _, rfl, SqT.of hq, rfl, _, _, rfl, _, rfl, p, CS, dx, _, rfl, p2, hC.c, hC.a2, (by show 1 < 1000; decide), _, _, rfl, _, rfl, p, CS, dx, _, rfl, upd_same, hC.c, hC.a3, (by show 2 < 1000; decide), _, _, rfl, _, rfl, p, CS, dx, _, rfl, upd_same, hC.c, hC.a4, (by show 3 < 1000; decide), rfl, ?_⟩
        exact k4 o4 k x rfl rfl hk hx hs1 hs2 _ k' x' s2' upd_same (((b1.same s2).upd.upd).upd) enf
    · rw [decide_eq_false qa]
      have o4 : outS ys (.str k) (.str x) s' = 4 := by rw [o34, if_neg (fun z => qa z.1)]
      refine iteF ?_
      refine ⟨_, rfl, _, rfl, p, CS, dx, [], rfl, hp, hC.c, hC.a1, (by show 0 < 1000; decide), ?_⟩
      have p1 : upd H p (.ins CS dx (putF "letters" (.ref m) [])) p = some (.ins CS dx [("letters", .ref m)]) := upd_same
      have b1 : But p H (upd H p (.ins CS dx (putF "letters" (.ref m) []))) := But.upd fun _ _ _ e => e
      generalize upd H p (.ins CS dx (putF "letters" (.ref m) [])) = H1 at p1 b1 ⊢
      have hM1 : Mde CL H1 m t ys := hM.but b1 hp
      refine ⟨_, rfl, _, rfl, _, rfl, _, rfl, m, t, ys, k, x, s', rfl, hM1, nd, hx, hs1, hs2, fun H2 q s2 hq => ?_⟩
      obtain ⟨k', x', s2', enf, hk', hx', hs1', hs2'⟩ := nfT_ok hk hx hs1 hs2
      rw [enf] at hq
      have p2 := s2 _ _ p1
      refine ⟨q, _, rfl, SqT.of hq, rfl, _, _, rfl, _, rfl, p, CS, dx, _, rfl, p2, hC.c, hC.a2, (by show 1 < 1000; decide), _, _, rfl, _, rfl, p, CS, dx, _, rfl, upd_same, hC.c, hC.a3, (by show 2 < 1000; decide), _, _, rfl, _, rfl, p, CS, dx, _, rfl, upd_same, hC.c, hC.a4, (by show 3 < 1000; decide), rfl, ?_⟩
      exact k4 o4 k x rfl rfl hk hx hs1 hs2 _ k' x' s2' upd_same (((b1.same s2).upd.upd).upd) enf
end
end Ask

namespace Ask
open PySem L2
/-- a text that may be an answer -/
def ansS (z : Str) : Bool := shortL z.cps.toList
def ansB : V → Bool
  | .str z => ansS z
  | _ => false
/-- a value that the law hands in: no text is long -/
def Vl (p : Addr) (H : Hp) (v : V) : Prop := Val p H v ∧ ∀ z, v = .str z → z.length ≤ 500 ∧ Asc z
theorem Vl.kp {p : Addr} {H H' : Hp} {v : V} (h : Vl p H v) (k : Kp p H H') : Vl p H' v := ⟨h.1.kp k, h.2⟩
theorem Vl.same {p : Addr} {H H' : Hp} {v : V} (h : Vl p H v) (k : Same H H') : Vl p H' v := ⟨h.1.same k, h.2⟩
section
variable {P : Program} {w : World} {K : PySem.W.Frag} {mg : Str → Option Value} {base : Heap}
def spShortV : Sp := fun vs H Q _ => ∃ (p : Addr) (v : V), vs = [v] ∧ Vl p H v ∧ ∀ H', Same H H' → Q (.bl (ansB v)) H'
theorem ok_shortV {f : Addr} {fd : FuncData} (F : Fun K "is_short_word" "is_short_word" s_is_short_word f fd) (T : Blt mg) (C : Gv K mg) : FnOk P w K mg base CX0 1 f fd ["value"] spShortV := by
  refine F.ok sc_is_short_word (fun vs H Q E h => ?_) (fun cdv A outer s H vs Q E hr h => ?_)
  · obtain ⟨p, v, rfl, _⟩ := h
    rfl
  · obtain ⟨p, v, rfl, ⟨hv, hz⟩, k⟩ := h
    refine ⟨_, (pss_cons (ps_if (PW.pt (pw_or (pt_not (pt_val (pe_callB call_isi (by rfl) T.n_isinstance (by decide +kernel) (pa_cons (pv 0) (pa_cons (pe_bltn (v := .ty "str") (u := .type "str") rfl T.n_str (by decide +kernel) rfl) pa_nil))))) (pw_or1 (pt_not (pt_chain op_le op_le pe_int (pe_callB call_len_str (by rfl) T.n_len (by decide +kernel) (pa_cons (pv 0) pa_nil)) (pe_gv rfl C.most)))))) (pss_one (ps_ret pe_bl)) pss_nil)
      (pss_one (ps_ret (pe_and (pe_cmpR op_in_sign (pe_ix ix_str (pv 0) pe_int (fun _ _ => rfl)) (pe_gv rfl C.small) rfl) (pe_one (pe_callB (cr_all rfl) (by rfl) T.n_all (by decide +kernel) (pa_cons (pe_lc (own := [("sign", 1)]) rfl sc_is_short_word.nd (pi_str (pv 0)) (blkOk_by (N := ["value", "sign"]) (sc := defScope s_is_short_word) (by decide +kernel)) (fun _ _ _ _ _ => (pg_name (i := 1) sc_is_short_word.nd rfl (Or.inl rfl))) (fun _ _ _ _ _ => pts_nil) (fun _ _ _ _ _ => (pe_cmpR op_in_sign (pv 1) (pe_gv rfl C.signs) rfl))) pa_nil))))))), ?_⟩
    obtain ⟨ty, b, hty, hk, b1, b2⟩ := hv.isi (K := K)
    cases b with
    | false =>
      refine ⟨_, rfl, _, _, _, _, false, rfl, .ty _, hty, hk, _, rfl, iteT ?_⟩
      have e : ansB v = false := by
        cases v with
        | str z => have := b2 rfl [z]; have q : decide (z ∈ [z]) = false := this; simp at q
        | _ => rfl
      have := k H (Same.refl H)
      rw [e] at this
      exact this
    | true =>
    obtain ⟨z, rfl⟩ := b1 rfl
    replace hz := (hz z rfl).1
    replace k : ∀ H', Same H H' → Q (.bl (shortL z.cps.toList)) H' := k
    have z1 : (1000 : Nat) ≤ sizeLine := by decide
    have hl := tl_len z
    refine ⟨_, rfl, _, _, _, _, true, rfl, .ty _, .base (.str _), kit_ty (by decide +kernel), _, rfl, ?_⟩
    refine iteF ⟨_, rfl, z, rfl, by omega, _, _, rfl, rfl, _, rfl, ite2 (fun h1 => ?_) (fun h1 => ?_)⟩
    · have h1 : (1 : Int) ≤ (z.length : Nat) := of_decide_eq_true h1
      refine ⟨_, _, rfl, rfl, _, rfl, ite2 (fun h2 => ?_) (fun h2 => ?_)⟩
      · have h2 : ¬ ((z.length : Nat) : Int) ≤ 12 := fun q => by
          rw [decide_eq_true q] at h2
          cases h2
        have e : shortL z.cps.toList = false := by
          unfold shortL
          rw [decide_eq_false (by omega)]
          rfl
        have := k H (Same.refl H)
        rw [e] at this
        exact this
      · have h2 : ((z.length : Nat) : Int) ≤ 12 := Decidable.byContradiction fun q => h2 (by rw [decide_eq_false q]; rfl)
        obtain ⟨c, r, ec⟩ : ∃ c r, z.cps.toList = c :: r := by
          cases e : z.cps.toList with
          | nil =>
            rw [e] at hl
            have : (0 : Nat) = z.length := hl
            omega
          | cons c r => exact ⟨c, r, rfl⟩
        refine ⟨_, rfl, z, 0, c, rfl, rfl, by omega, by rw [ec]; exact at_by (j := 0) rfl rfl, c, small, rfl, rfl, _, rfl, ite2 (fun h3 => ?_) (fun h3 => ?_)⟩
        · refine ⟨_, rfl, z, rfl, fun L hL => ?_⟩
          refine lc_it walk_str (fun i H' => Same H H' ∧ H' L = some (.lst (((z.cps.toList.take i).map fun c => decide (c ∈ signsL)).map V.bl))) ⟨Ask.Same.upd_new (Same.refl H) hL, upd_same⟩ (fun _ _ _ _ => trivial) (fun i x H1 H2 hi h1 y => ?_) (fun H1 h1 => ?_)
          · obtain ⟨rfl, c', hc', rfl⟩ := y
            obtain ⟨sm, hLL⟩ := h1
            refine ⟨rfl, _, rfl, c', signs, rfl, rfl, _, hLL, ?_, Ask.Same.upd_new sm hL, ?_⟩
            · rw [List.length_map, List.length_map, List.length_take]
              omega
            · rw [upd_same]
              have hc2 : z.cps.toList[i]? = some c' := by rw [Array.getElem?_toList]; exact hc'
              rw [List.take_add_one, hc2]
              simp only [Option.toList_some, List.map_append, List.map_cons, List.map_nil]
              rfl
          · obtain ⟨sm, hLL⟩ := h1
            refine ⟨L, _, rfl, SqL.of hLL, ?_⟩
            have e0 : z.cps.toList.take z.cps.size = z.cps.toList := List.take_of_length_le (by simp)
            rw [e0]
            have e : shortL z.cps.toList = (z.cps.toList.map fun c => decide (c ∈ signsL)).all id := by
              unfold shortL
              rw [decide_eq_true (by omega), ec]
              simp only [List.head?_cons, Bool.true_and]
              rw [show decide (c ∈ smallL) = true from h3, Bool.true_and, List.all_map]
              rfl
            have := k H1 sm
            rw [e] at this
            exact this
        · have e : shortL z.cps.toList = false := by
            unfold shortL
            rw [ec]
            simp only [List.head?_cons]
            rw [show decide (c ∈ smallL) = false from (Bool.not_eq_true _).mp h3, Bool.and_false, Bool.false_and]
          have := k H (Same.refl H)
          rw [e] at this
          exact this
    · have h1 : ¬ (1 : Int) ≤ (z.length : Nat) := fun q => h1 (decide_eq_true q)
      have e : shortL z.cps.toList = false := by
        unfold shortL
        rw [decide_eq_false (by omega)]
        rfl
      refine ⟨_, rfl, ite2 (fun _ => ?_) (fun q => absurd rfl q)⟩
      have := k H (Same.refl H)
      rw [e] at this
      exact this
/-! ### is_answer -/
theorem ok_isAnsV {f fS : Addr} {fd fdS : FuncData} (F : Fun K "is_answer" "is_answer" s_is_answer f fd) (GS : FnOk P w K mg base CX0 1 fS fdS ["value"] spShortV) (S : At K mg "is_short_word" fS fdS ["value"]) : FnOk P w K mg base CX0 2 f fd ["value"] spShortV := by
  refine F.ok sc_is_answer (fun vs H Q E h => ?_) (fun cdv A outer s H vs Q E hr h => ?_)
  · obtain ⟨p, v, rfl, _⟩ := h
    rfl
  · obtain ⟨p, v, rfl, hv, k⟩ := h
    refine ⟨_, (pss_one (ps_ret (pe_call GS (by exact hr) (by rfl) S.m S.k S.b .nil pass0 (pa_cons (pv 0) pa_nil)))), ?_⟩
    exact ⟨_, rfl, p, v, rfl, hv, k⟩
end
end Ask

/-! sets of texts: set(list of texts) and sorted of it -/
namespace Ask
open PySem L2 PySem.Froz
/-- at S stands a set of the texts zs, laid in a way that can be walked -/
def TxAt (P : Program) (w : World) (g : Heap) (S : Addr) (zs : List Str) : Prop := ∃ D : SD, g.get? S = some (sObj "set" D) ∧ TxOk P w D zs ∧ Ris D.2.2.place.toList ∧ (w.params.followText "set-order" = true ∨ D.2.2.led = true)
theorem tailTx_ris {m : Nat} {es : Array (Int × Value)} {t : SetTable} {b : Bool} (r : Ris t.place.toList) : Ris (tailTx m es t b).2.2.place.toList := by
  unfold tailTx
  by_cases c : (!b && t.tooFull) = true
  · rw [if_pos c]
    exact relayAll_ris _ _ _
  · rw [if_neg c]
    exact r
theorem tailTx_led {m : Nat} {es : Array (Int × Value)} {t : SetTable} {b : Bool} : (tailTx m es t b).2.2.led = t.led := by
  unfold tailTx
  by_cases c : (!b && t.tooFull) = true
  · rw [if_pos c]
    exact relayAll_led _ _ _
  · rw [if_neg c]
theorem addTx_ris {c : Int} {v : Value} {D : SD} (r : Ris D.2.2.place.toList) : Ris (addTx c v D).2.2.place.toList := by
  have one := layNew_ris D.2.2 D.1 c v r
  refine tailTx_ris ?_
  split
  · exact one
  · exact one
theorem addTx_led {c : Int} {v : Value} {D : SD} : (addTx c v D).2.2.led = D.2.2.led := by
  have one := layNew_led D.2.2 D.1 c v
  refine tailTx_led.trans ?_
  split
  · exact one
  · exact one
section
variable {P : Program} {w : World} {A : Around} {E : Value → Shared → Prop} {s : Shared}
theorem TxAt.kept {g g' : Heap} {S : Addr} {zs : List Str} (R : TxAt P w g S zs) (k : ∀ o, g.get? S = some o → g'.get? S = some o) : TxAt P w g' S zs := by
  obtain ⟨D, e, r⟩ := R
  exact ⟨D, k _ e, r⟩
theorem txAt_new {g : Heap} {S : Addr} (e : g.get? S = some { cls := .type "set", dict := none, data := .set #[] 0 (.fresh 0 0 (!w.params.followText "set-order")) }) : TxAt P w g S [] := by
  refine ⟨(#[], 0, .fresh 0 0 (!w.params.followText "set-order")), e, TxOk.nil (by rfl), List.Pairwise.nil, ?_⟩
  show _ ∨ (!w.params.followText "set-order") = true
  cases w.params.followText "set-order"
  · exact .inr rfl
  · exact .inl rfl
/-- a text that is there already -/
theorem again_x {S : Addr} {T : String} {D : SD} {zs : List Str} {z : Str} {u : Tok} {Q : Bool → Shared → Prop} (e : s.heap.get? S = some (sObj T D)) (F : TxOk P w D zs) (there : z ∈ zs) (few : zs.length < scanBound)
    (q : Q false s) : wpAny (model P w) A (setAddHashed S (.str z u) (hashStr w z)) Q E s := by
  obtain ⟨es, ep, t⟩ := D
  have data : (sObj T (es, ep, t)).data = .set es ep t := rfl
  have fit : t.fits es.size = true := F.fit
  have el : ElemsOf (strKind P w) es.toList := F.el
  have few : es.size < scanBound := by have z : es.size = zs.length := F.sz; omega
  have is : (strKind P w).is z (.str z u) = true := is_str z u
  unfold setAddHashed setAddHashedIn
  refine wpAny_holding (wpAny_bind (wpAny_setState_of e data fit ?_))
  dsimp only
  rw [byScan_of rfl few el]
  simp only [↓reduceIte]
  unfold setAddByScan
  refine wpAny_bind (wpAny_bind (wpAny_rule (wpAny_bind (wpAny_setScan_of is e data fit el ?_))))
  cases c : List.findIdx? (fun e => (strKind P w).is z e.2) es.toList with
  | some j => exact wpAny_pure (wpAny_pure q)
  | none =>
    obtain ⟨y, hy, iy⟩ := (F.mem z).mp there
    have := List.findIdx?_eq_none_iff.mp c y hy
    rw [iy] at this
    cases this
/-- a text goes into the set -/
theorem put_x {S : Addr} {zs : List Str} {z : Str} {u : Tok} {Q : Bool → Shared → Prop} (R : TxAt P w s.heap S zs) (few : zs.length + 1 < scanBound)
    (q : ∀ (g : Heap) (ys : List Str) (b : Bool), Heap.SameBut S s.heap g → TxAt P w g S ys → ((z ∈ zs ∧ ys = zs) ∨ (z ∉ zs ∧ ys = z :: zs)) → Q b { s with heap := g, toks := s.toks + 1 }) :
    wpAny (model P w) A (setAdd S (.str z u)) Q E s := by
  obtain ⟨D, e, F, r, l⟩ := id R
  unfold setAdd
  refine wpAny_holding (wpAny_bind ((strKind P w).pyHash (is_str z u) ?_))
  by_cases there : z ∈ zs
  · exact again_x (s := { s with toks := s.toks + 1 }) e F there (by omega) (q s.heap zs false (Heap.SameBut.refl S s.heap) R (.inl ⟨there, rfl⟩))
  · exact add_x (s := { s with toks := s.toks + 1 }) e F there few (q _ (z :: zs) true (Heap.SameBut.update s.heap S _) ⟨_, Heap.get?_update_self _ e rfl, add_ok u F, addTx_ris r, l.imp id fun z => addTx_led.trans z⟩ (.inr ⟨there, rfl⟩))
/-- what the first i of the texts ys put into the set -/
def Put (ys : List Str) (i : Nat) (zs : List Str) : Prop := zs.Nodup ∧ (∀ z, z ∈ zs ↔ z ∈ ys.take i) ∧ zs.length ≤ i
theorem Put.step {ys zs xs : List Str} {i : Nat} {z : Str} (h : Put ys i zs) (e : ys[i]? = some z) (c : (z ∈ zs ∧ xs = zs) ∨ (z ∉ zs ∧ xs = z :: zs)) : Put ys (i + 1) xs := by
  obtain ⟨nd, mem, len⟩ := h
  have cut : ys.take (i + 1) = ys.take i ++ [z] := by rw [List.take_add_one, e]; rfl
  rcases c with ⟨there, rfl⟩ | ⟨new, rfl⟩
  · refine ⟨nd, fun x => ?_, by omega⟩
    rw [cut, List.mem_append, List.mem_singleton, mem]
    exact ⟨.inl, fun q => q.elim id fun q => by rw [q]; exact (mem z).mp there⟩
  · refine ⟨List.nodup_cons.mpr ⟨new, nd⟩, fun x => ?_, by rw [List.length_cons]; omega⟩
    rw [cut, List.mem_append, List.mem_singleton, List.mem_cons, mem]
    exact Or.comm
end
end Ask

namespace Ask
open PySem L2 PySem.Froz PySem.Spec PyProof.Rows
section
variable {P : Program} {w : World} {A : Around} {E : Value → Shared → Prop} {s : Shared}
/-- the loop that puts one item behind the other into the set -/
theorem fill_x {it S : Addr} {own chg : List Addr} {G : Array GenState → Array GenState → Prop} {many : Nat} {Is : Nat → Value → Prop} {At : Nat → Shared → Prop} {R : Result → Shared → Prop}
    (W : WalksS P w A.in1 it own chg G many Is At) (apart : S ∉ own) (ys : List Str) (hm : many = ys.length) (few : ys.length < 1000) (txt : ∀ i v, Is i v → ∃ z u, ys[i]? = some z ∧ v = .str z u)
    (g0 : Heap) (noS : g0.get? S = none) (noC : ∀ b ∈ chg, g0.get? b = none) :
    ∀ (left i : Nat) (s : Shared), many - i = left → i ≤ many → At i s → (∀ b o, g0.get? b = some o → s.heap.get? b = some o) → (∃ zs, TxAt P w s.heap S zs ∧ Put ys i zs) →
      (∀ s' zs, Moved (S :: chg) G s s' → TxAt P w s'.heap S zs → Put ys many zs → (∀ b o, g0.get? b = some o → s'.heap.get? b = some o) → R (.ok (.ret .none)) s') →
      codeAny (model P w) A (.builtin "set.update.loop" ⟨[.ref S, .ref it], []⟩) R s := by
  have Sc : S ∉ chg := fun z => apart (W.sub _ z)
  have wide : ∀ b ∈ chg, b ∈ S :: chg := fun b z => List.mem_cons_of_mem _ z
  have on : ∀ {s s' : Shared}, Moved chg G s s' → (∀ b o, g0.get? b = some o → s.heap.get? b = some o) → ∀ b o, g0.get? b = some o → s'.heap.get? b = some o := fun mv k b o e =>
    mv.heap b o (fun z => by rw [noC b z] at e; cases e) (k b o e)
  intro left
  induction left with
  | zero =>
    intro i s hl hi at_ k ⟨zs, R1, p⟩ fin
    obtain rfl : i = many := by omega
    refine codeAny_builtin F.entry_set_update_loop ?_
    rw [Around.under_plainId F.plain_set_update_loop _]
    show wpAny _ A.in1 (pyNext (.ref it) >>= _) _ _ s
    refine wpAny_bind (W.done s _ _ at_ fun s1 mv => ?_)
    show wpAny _ A.in1 (ret Value.none) _ _ s1
    exact wpAny_pure (fin s1 zs (mv.mono wide) (R1.kept fun o e => mv.heap S o Sc e) p (on mv k))
  | succ left ih =>
    intro i s hl hi at_ k ⟨zs, R1, p⟩ fin
    have lt : i < many := by omega
    refine codeAny_builtin F.entry_set_update_loop ?_
    rw [Around.under_plainId F.plain_set_update_loop _]
    show wpAny _ A.in1 (pyNext (.ref it) >>= _) _ _ s
    refine wpAny_bind (W.item i s _ _ lt at_ fun v s1 is at1 mv => ?_)
    obtain ⟨z, u, ez, rfl⟩ := txt i v is
    have k1 := on mv k
    show wpAny _ A.in1 (holding [Value.str z u] (setAdd S (.str z u)) >>= _) _ _ s1
    refine wpAny_bind (wpAny_holding (put_x (R1.kept fun o e => mv.heap S o Sc e) (by have := p.2.2; have q : (1000 : Nat) < scanBound := by decide +kernel
                                                                                      omega) fun g xs b same R2 c => ?_))
    have k2 : ∀ b o, g0.get? b = some o → g.get? b = some o := fun b o e => (same.2 b (fun q => by rw [q, noS] at e; cases e)).trans (k1 b o e)
    refine wpAny_pure ⟨plainId_quiet F.plain_set_update_loop _, ih (i + 1) _ (by omega) lt (W.frame _ s1 _ _ at1 (Nat.le_add_right _ _) fun b hb o e => ?_) k2 ⟨xs, R2, p.step ez c⟩ fun s2 xs2 mv2 R3 p2 k3 => ?_⟩
    · exact (same.2 b (fun q => apart (q ▸ hb))).trans e
    · refine fin s2 xs2 (Moved.trans W.gtrans ((mv.mono wide).then_heap (Nat.le_add_right _ _) fun b o hb e => ?_) mv2) R3 p2 k3
      exact (same.2 b (fun q => hb (by rw [q]; exact List.mem_cons_self))).trans e
end
end Ask

namespace Ask
open PySem L2 PySem.Froz PySem.Spec PyProof.Rows
/-- the set before anything is in it -/
abbrev emptyO (w : World) : Obj := { cls := .type "set", dict := none, data := .set #[] 0 (.fresh 0 0 (!w.params.followText "set-order")) }
section
variable {P : Program} {w : World} {A : Around} {E : Value → Shared → Prop} {s : Shared}
/-- what set(ys) leaves: a new set of the texts ys at the first free place -/
def Filled (P : Program) (w : World) (g g' : Heap) (ys : List Str) : Prop := ∃ zs, TxAt P w g' g.objs.size zs ∧ Put ys ys.length zs ∧ ∀ b o, g.get? b = some o → g'.get? b = some o
theorem free_at {g : Heap} {b : Addr} (h : g.objs.size ≤ b) : g.get? b = none := by
  cases q : g.get? b with
  | none => rfl
  | some o => exact absurd (Nat.lt_of_lt_of_le (Heap.lt_size q) h) (Nat.lt_irrefl _)
theorem txt_at {its : Array Value} {ys : List Str} (h : StrsAre its.toList ys) {i : Nat} {v : Value} (e : its[i]? = some v) : ∃ z u, ys[i]? = some z ∧ v = .str z u := by
  have q : its.toList[i]? = some v := by rw [Array.getElem?_toList]; exact e
  generalize its.toList = l at h q
  clear e
  induction h generalizing i with
  | nil => cases q
  | cons z u _ ih =>
    cases i with
    | zero => cases q; exact ⟨_, _, rfl, rfl⟩
    | succ i => exact ih q
/-- set.__init__ with a list of texts -/
theorem init_x {l : Addr} {its : Array Value} {ys : List Str} (free : A.handled = none) (hl : s.heap.IsList l its) (txt : StrsAre its.toList ys) (few : ys.length < 1000) :
    codeAny (model P w) A (.call (.builtin "set.__init__") ⟨[.ref s.heap.objs.size, .ref l], []⟩) (wants (fun r s2 => r = .none ∧ ∃ g tk, s2 = { s with heap := g, toks := tk } ∧ Filled P w s.heap g ys) E) { s with heap := s.heap.push (emptyO w) } := by
  obtain ⟨o, eo, co, ne, dt⟩ := hl
  obtain ⟨cl, di, da, so⟩ := o
  dsimp only at co dt
  subst co dt
  have here : (s.heap.push (emptyO w)).get? l = some { cls := .type "list", dict := di, data := .seq its ne, slots := so } := Heap.get?_push_of_some _ eo
  have many : its.size = ys.length := by rw [← Array.length_toList]; exact txt.length
  have isL : (s.heap.push (emptyO w)).IsList l its := ⟨_, here, rfl, ne, rfl⟩
  have isS : (s.heap.push (emptyO w)).get? s.heap.objs.size = some (emptyO w) := Heap.get?_push_size _ rfl
  have before : l < s.heap.objs.size := Heap.lt_size eo
  have size1 : (s.heap.push (emptyO w)).objs.size = s.heap.objs.size + 1 := Heap.size_push ..
  refine codeAny_call_builtin F.called_set.init.plain F.entry_set_init (check_set_init_1 ⟨_, isS, rfl⟩ ?_)
  have n1 := F.sub_list_set
  have n2 := F.sub_list_frozenset
  have n3 : (Value.type "list" == Value.type "dict") = false := by decide
  unfold Builtin.«set.__init__» noKeywords Builtin.Frozenset.updateFrom
  generalize gi : pyIter = PI
  wp_walk
  subst gi
  refine wpAny_pyIter_list isL (wpAny_bind (wpAny_runValue ?_))
  have free3 : A.in1.in1.handled = none := by simp [free]
  have ne1 : l ≠ (s.heap.push (emptyO w)).objs.size := by rw [size1]; exact Nat.ne_of_lt (Nat.lt_succ_of_lt before)
  refine fill_x (S := s.heap.objs.size) ((Walks.list free3 _ l ne1 its).toS) (fun z => ?_) ys ?_ few (fun i v e => txt_at txt e) s.heap (free_at (Nat.le_refl _)) (fun b z => ?_) (its.size - 0) 0 _ rfl (Nat.zero_le _)
    ⟨⟨_, Heap.get?_push_size _ rfl, rfl, rfl⟩, isL.push _⟩ (fun b o e => Heap.get?_push_of_some _ (Heap.get?_push_of_some _ e)) ⟨[], txAt_new (Heap.get?_push_of_some _ isS), List.nodup_nil, fun z => by rw [List.take_zero], Nat.le_refl _⟩ ?_
  · rw [size1] at z
    rcases List.mem_cons.mp z with z | z
    · exact absurd z (Nat.ne_of_lt (Nat.lt_succ_self _))
    · exact absurd (List.mem_singleton.mp z) (Nat.ne_of_gt before)
  · exact many
  · rw [List.mem_singleton.mp z]
    exact free_at (by rw [size1]; exact Nat.le_succ _)
  · rintro ⟨g, gs, d, tk, os⟩ zs mv R1 p k
    have e1 : gs = s.gens := mv.gens
    have e2 : d = s.drawn := mv.drawn
    have e3 : os = s.os := mv.os
    subst e1 e2 e3
    rw [many] at p
    show wpAny _ _ _ _ _ _
    refine wpAny_pure ?_
    show wpAny _ _ (ret Value.none) _ _ _
    exact wpAny_pure ⟨rfl, g, tk, rfl, zs, R1, p, k⟩
/-- set(ys), ys a list of texts -/
theorem set_x {l : Addr} {its : Array Value} {ys : List Str} {Q : Value → Shared → Prop} (free : A.handled = none) (hl : s.heap.IsList l its) (txt : StrsAre its.toList ys) (few : ys.length < 1000)
    (q : ∀ g tk, Filled P w s.heap g ys → Q (.ref s.heap.objs.size) { s with heap := g, toks := tk }) : wpAny (model P w) A (call (.type "set") [.ref l]) Q E s := by
  obtain ⟨_, _, mro⟩ := F.called_set.mro
  have m1 := F.called_set.made
  have m2 := F.called_set.sub
  refine wpAny_call (codeAny_of_tree ?_)
  show wpAny _ _ (callAny (.type "set") _) _ _ _
  refine wpAny_pure ⟨Code.quiet_builtin _ (by decide +kernel), codeAny_builtin F.entry_type_call ?_⟩
  rw [Around.under_plain (weight_type_call_type "set" [.ref l] []) rfl]
  have m3 := F.called_set.notType
  have m4 := F.called_set.canCreate
  have m5 := F.typeCall_set_1 (.ref l)
  repeat (any_goals (first | assumption | wp_step))
  refine codeAny_mono (code_set_led1 (.ref l) (E := E) (Q₁ := fun v z => v = .ref s.heap.objs.size ∧ z = { s with heap := s.heap.push (emptyO w) }) ⟨rfl, rfl⟩) fun r z hr => ?_
  cases r with
  | error e => exact hr
  | ok c =>
    cases c with
    | ret v =>
      obtain ⟨rfl, rfl⟩ := hr
      have isT : Shared.TypeIs { s with heap := s.heap.push (emptyO w) } (.ref s.heap.objs.size) "set" := ⟨_, Heap.get?_push_size _ rfl, rfl⟩
      have i1 := F.called_set.init.lookup
      have i2 := F.called_set.init.bind (.ref s.heap.objs.size)
      repeat (any_goals (first | assumption | wp_step))
      refine codeAny_mono (init_x (P := P) (E := E) (ys := ys) (by simp [free]) hl txt few) fun r2 z2 hr2 => ?_
      cases r2 with
      | error e => exact hr2
      | ok c2 =>
        cases c2 with
        | ret v2 =>
          obtain ⟨rfl, g, tk, rfl, fl⟩ := hr2
          repeat (any_goals (first | assumption | wp_step))
          exact q g tk fl
        | _ => exact hr2.elim
    | _ => exact hr.elim
end
end Ask

namespace Ask
open PySem L2 PySem.Froz PySem.Spec PyProof.Rows
/-- all of zs, once each, are in ks, which is no longer: the same in another order -/
theorem perm_of_all {α : Type} [DecidableEq α] : ∀ {zs ks : List α}, zs.Nodup → (∀ z ∈ zs, z ∈ ks) → ks.length = zs.length → ks.Perm zs
  | [], ks, _, _, h => by rw [List.length_eq_zero_iff.mp h]
  | z :: zs, ks, nd, sub, h => by
    obtain ⟨new, nd⟩ := List.nodup_cons.mp nd
    have there := sub z List.mem_cons_self
    have p := List.perm_cons_erase there
    refine p.trans (List.Perm.cons z (perm_of_all nd (fun x hx => ?_) ?_))
    · exact (List.mem_erase_of_ne (fun e : x = z => new (by rw [← e]; exact hx))).mpr (sub x (List.mem_cons_of_mem _ hx))
    · have := p.length_eq
      rw [List.length_cons, h, List.length_cons] at this
      omega
def textOf : Value → Str
  | .str z _ => z
  | _ => Str.empty
theorem strs_of : ∀ l : List Value, (∀ v ∈ l, ∃ z u, v = .str z u) → StrsAre l (l.map textOf)
  | [], _ => .nil
  | v :: l, h => by
    obtain ⟨z, u, rfl⟩ := h v List.mem_cons_self
    exact .cons z u (strs_of l fun x hx => h x (List.mem_cons_of_mem _ hx))
theorem is_text {P : Program} {w : World} {z : Str} {v : Value} (h : (PySem.strKind P w).is z v = true) : ∃ u, v = .str z u := by
  have h : Value.isStrOf z v = true := h
  cases v <;> simp [Value.isStrOf] at h
  exact ⟨_, by rw [h]⟩
theorem TxOk.texts {P : Program} {w : World} {D : SD} {zs : List Str} (F : TxOk P w D zs) (nd : zs.Nodup) : (∀ v ∈ D.1.toList.map (·.2), ∃ z u, v = Value.str z u) ∧ ((D.1.toList.map (·.2)).map textOf).Perm zs := by
  have one : ∀ e ∈ D.1.toList, ∃ z u, e.2 = Value.str z u := fun e he => by
    obtain ⟨⟨z, iz, _⟩, _⟩ := F.el e he
    obtain ⟨u, q⟩ := is_text iz
    exact ⟨z, u, q⟩
  refine ⟨fun v hv => ?_, perm_of_all nd (fun z hz => ?_) ?_⟩
  · obtain ⟨e, he, rfl⟩ := List.mem_map.mp hv
    exact one e he
  · obtain ⟨e, he, iz⟩ := (F.mem z).mp hz
    obtain ⟨u, q⟩ := is_text iz
    exact List.mem_map.mpr ⟨e.2, List.mem_map.mpr ⟨e, he, rfl⟩, by rw [q]; rfl⟩
  · rw [List.length_map, List.length_map, Array.length_toList, F.sz]
section
variable {P : Program} {w : World} {A : Around} {E : Value → Shared → Prop} {s : Shared}
/-- sorted(S), S a set of texts -/
theorem sorted_x {S : Addr} {zs : List Str} {Q : Value → Shared → Prop} (R : TxAt P w s.heap S zs) (nd : zs.Nodup) (few : zs.length < 64) (free : A.handled = none)
    (q : ∀ (s2 : Shared) (p : Addr) (out : Array Value) (c : Nat) (ks : List Str), (∀ b o, s.heap.get? b = some o → s2.heap.get? b = some o) → s2.gens = s.gens → s2.os = s.os → s.heap.objs.size ≤ p → s2.heap.get? p = some (seqObj "list" out c) →
      StrsAre out.toList ks → ks.Perm zs → sortedS ks = true → Q (.ref p) s2) : wpAny (model P w) A (call (.builtin "sorted") [.ref S]) Q E s := by
  obtain ⟨⟨es, ep, t⟩, eo, F, ris, led⟩ := R
  obtain ⟨tx, pm⟩ := TxOk.texts F nd
  have fit : t.fits es.size = true := F.fit
  have size : es.size = zs.length := F.sz
  have wide : (64 : Nat) < scanBound := by decide +kernel
  refine Calls.call_function_entry kind_sorted plain_sorted entry_sorted (args_sorted1 _) ?_
  unfold Builtin.«sorted»
  refine wpAny_bind (m := checkCount "sorted" 1 1 _) (wpAny_pure ?_)
  refine wpAny_bind (collect_set (A := A.in1) (es := es) (ep := ep) (t := t) free ⟨_, eo, rfl, rfl⟩ fit (by omega) ris led fun s1 vs k1 g1 g2 g3 po => ?_)
  have are : StrsAre vs (vs.map textOf) := strs_of vs fun v hv => tx v (po.mem_iff.mp hv)
  have pv : (vs.map textOf).Perm zs := (po.map textOf).trans pm
  have lv : vs.length < 64 := by
    have := pv.length_eq
    rw [List.length_map] at this
    omega
  refine wpAny_bind (wpAny_newList ?_ (by rw [sizeLine_eq]; omega))
  have at1 : (s1.heap.push (seqObj "list" vs.toArray 0)).get? s1.heap.objs.size = some (seqObj "list" vs.toArray 0) := Heap.get?_push_size _ rfl
  refine wpAny_bind (wpAny_holding (wpAny_call_entry slot_list_sort ⟨_, at1, rfl⟩ entry_list_sort (list_sort_treeK strKind_oneLt at1 are.keysOf (fun v1 v2 r e => keyKind_strs (by rw [← e]; exact are)) lv fun st hp hs => ⟨_, rfl, ?_⟩) (args_list_sort _)))
  obtain ⟨ks, ar, pk, so⟩ := sorted_out_str are hp hs
  obtain ⟨c, ec⟩ := sortedHeap_at (vs := vs) (out := (arrOf st).map (·.2)) at1
  refine wpAny_pure ⟨_, rfl, q _ s1.heap.objs.size _ c ks (fun b o e => ?_) g2 g3 g1 ec ar (pk.trans pv) so⟩
  have e1 := k1 b o e
  have lt := Heap.lt_size e1
  show (sortedHeap (s1.heap.push (seqObj "list" vs.toArray 0)) s1.heap.objs.size vs ((arrOf st).map (·.2))).get? b = some o
  rw [sortedHeap_old (Nat.ne_of_lt lt) (by rw [size_push']; exact Nat.lt_succ_of_lt lt)]
  exact Heap.get?_push_of_some _ e1
end
end Ask

namespace Ask
open PySem L2 PySem.Froz PySem.Spec PyProof.Rows
/-- a set of the texts zs as a thing of the heap -/
def TxO (P : Program) (w : World) (S : Addr) (zs : List Str) : HO := .ext fun g => TxAt P w g S zs
theorem txO_ok {P : Program} {w : World} {H : Hp} {g : Heap} {S : Addr} {zs : List Str} (R : TxAt P w g S zs) : ObjOk P w H g S (TxO P w S zs) := by
  have ⟨D, e, _⟩ := R
  exact ⟨R, ⟨_, e⟩, fun g1 g2 p k => TxAt.kept p k⟩
section
variable {X : Cx}
/-- set(ys) of a list of texts -/
def rSetTx (K : PySem.W.Frag) (P : Program) (w : World) : List V → Hp → VK → Prop := fun xs H Q => ∃ (l : Addr) (ys : List Str), xs = [.ref l] ∧ SqL K H l (ys.map V.str) ∧ ys.length < 1000 ∧
  ∀ (S : Addr) (zs : List Str), H S = none → zs.Nodup → (∀ z, z ∈ zs ↔ z ∈ ys) → zs.length ≤ ys.length → Q (.ref S) (upd H S (TxO P w S zs))
theorem cr_setTx (hc : X.calm = true) : CallR X (.type "set") (rSetTx X.K X.prog X.w) := by
  intro pins s σ H xs us Q I r h
  obtain ⟨l, ys, rfl, hl, few, q⟩ := h
  rw [Vals.ref1 r]
  obtain ⟨its, rv, pl, _⟩ := I.list hl
  refine set_x (P := X.prog) (w := X.w) (ys := ys) (I.ok.hd hc) pl.isList (by simpa using rv.strs) few fun g tk ⟨zs, R, p, k⟩ => ?_
  refine ⟨.ref s.heap.objs.size, upd H s.heap.objs.size (TxO X.prog X.w s.heap.objs.size zs), I.laid (t' := tk) k (Nat.le_refl _) (txO_ok R), rfl, q _ zs (I.hok.fresh (Nat.le_refl _)) p.1 (fun z => ?_) p.2.2⟩
  have m := p.2.1 z
  rw [List.take_length] at m
  exact m
/-- sorted(S) of a set of texts -/
def rSortedTx (P : Program) (w : World) : List V → Hp → VK → Prop := fun xs H Q => ∃ (S : Addr) (zs : List Str), xs = [.ref S] ∧ H S = some (TxO P w S zs) ∧ zs.Nodup ∧ zs.length < 64 ∧
  ∀ (ks : List Str) (p : Addr), ks.Perm zs → sortedS ks = true → H p = none → Q (.ref p) (upd H p (.lst (ks.map V.str)))
theorem cr_sortedTx (hc : X.calm = true) : CallR X (.builtin "sorted") (rSortedTx X.prog X.w) := by
  intro pins s σ H xs us Q I r h
  obtain ⟨S, zs, rfl, hS, nd, few, q⟩ := h
  have R : TxAt X.prog X.w s.heap S zs := (I.hok S _ hS).1
  rw [Vals.ref1 r]
  refine sorted_x R nd few (I.ok.hd hc) fun s2 p out c ks k g o le e are pm so => ?_
  have new : H p = none := I.hok.fresh le
  have lk : (ks.map V.str).length ≤ sizeLine := by
    rw [List.length_map, pm.length_eq, sizeLine_eq]
    omega
  have ob : ObjOk X.prog X.w H s2.heap p (.lst (ks.map V.str)) := ⟨lk, out.toList, c, vals_of_strs are, e⟩
  have J : Inv X pins σ (upd H p (.lst (ks.map V.str))) { s with heap := s2.heap, gens := s2.gens, drawn := s2.drawn, toks := s2.toks } :=
    I.call (ch := []) (Un.laid k le new) (I.hok.laid k le ob) (by rw [g]; exact I.bare) (fun _ z => nomatch z)
  have same : s2 = { s with heap := s2.heap, gens := s2.gens, drawn := s2.drawn, toks := s2.toks } := by
    obtain ⟨_, _, _, _, _⟩ := s2
    obtain ⟨_, _, _, _, _⟩ := s
    cases o
    rfl
  rw [same]
  exact ⟨.ref p, _, J, rfl, q ks p pm so new⟩
end
end Ask

namespace Ask
open PySem L2
open PyProof.Rows (sortedS)
section
variable {P : Program} {w : World} {K : PySem.W.Frag} {mg : Str → Option Value} {base : Heap}
abbrev s_BadAnswers_init : Stmt := inClass (top 20) 0
theorem sc_BadAnswers_init : FnScope ["self", "index"] ["self", "index"] (defScope s_BadAnswers_init) := ⟨rfl, rfl, rfl, by decide +kernel, rfl, by decide +kernel, by decide +kernel⟩
theorem ok_initBadAnswers {f fC C : Addr} {fd fdC : FuncData} (F : Fun K "__init__" "BadAnswers.__init__" s_BadAnswers_init f fd) (T : OexC K C) (h1 : PySem.W.findIn K (.ref C) "index" = some none)
    (GC : FnOk P w K mg base CX0 1 fC fdC ["value"] spCopy) (CP : At K mg "copied" fC fdC ["value"]) : FnOk P w K mg base CX0 2 f fd ["self", "index"] (spErr C okBad fsBad) := by
  refine F.ok sc_BadAnswers_init (fun vs H Q E h => ?_) (fun cdv A outer s H vs Q E hr h => ?_)
  · obtain ⟨a, ws, rfl, ⟨i, rfl⟩, _⟩ := h
    rfl
  · obtain ⟨a, ws, rfl, ⟨i, rfl⟩, ha, k⟩ := h
    refine ⟨_, pss_one (ps_ost (pv 0) (pe_call GC hr (by rfl) CP.m CP.k CP.b .nil pass0 (pa_cons (pv 1) pa_nil))), ?_⟩
    refine ⟨_, rfl, _, rfl, .inl ⟨i, rfl⟩, _, rfl, a, C, rfl, T, h1, .inl ⟨ha, fun dx hdx hne => ?_⟩⟩
    refine k _ dx hdx hne upd_same (by rw [upd_ne hne]; exact upd_same) fun b o hb e => ?_
    rw [upd_ne hb, upd_ne (ne_of_none e hdx)]
    exact e
/-- the first answer that is none stands at i; no answers at all count as the one at 0 -/
def wrongAt (xs : List V) (i : Int) : Prop := (xs = [] ∧ i = 0) ∨ ∃ (j : Nat) (v : V), i = (j : Nat) ∧ xs[j]? = some v ∧ ansB v = false ∧ ∀ k < j, ∀ u, xs[k]? = some u → ansB u = true
/-- ks: the texts ys, once each, ascending -/
def SetOfS (ys ks : List Str) : Prop := ks.Nodup ∧ sortedS ks = true ∧ ∀ z, z ∈ ks ↔ z ∈ ys
def spAns (K : PySem.W.Frag) (CA CM : Addr) : Sp := fun vs H Q E => ∃ (p a : Addr) (xs : List V), vs = [.ref a] ∧ SqL K H a xs ∧ xs.length ≤ 60 ∧ (∀ v ∈ xs, Vl p H v) ∧
  (∀ (H' : Hp) (d : Addr) (i : Int), wrongAt xs i → Same H H' → H' d = some (.xd (fsBad [.int i])) → E (.ref CA) (some d) H') ∧
  (∀ (ys ks : List Str), xs = ys.map V.str → ys ≠ [] → (∀ y ∈ ys, ansS y = true) → SetOfS ys ks →
    (∀ (H' : Hp) (d : Addr), 6 < ks.length → Same H H' → H' d = some (.xd (fsMany [.str "answers", .int (ks.length : Nat), .int 6])) → E (.ref CM) (some d) H') ∧
    (∀ (H' : Hp) (t : Addr), ks.length ≤ 6 → Same H H' → H' t = some (.tup (ks.map V.str)) → Q (.ref t) H'))
abbrev s_answer_set : Stmt := top 55
theorem sc_answer_set : FnScope ["answers", "index", "answer", "kept"] ["answers"] (defScope s_answer_set) := ⟨rfl, rfl, rfl, by decide +kernel, rfl, by decide +kernel, by decide +kernel⟩
theorem all_strs : ∀ {xs : List V}, (∀ v ∈ xs, ansB v = true) → ∃ ys : List Str, xs = ys.map V.str ∧ ∀ y ∈ ys, ansS y = true
  | [], _ => ⟨[], rfl, fun y h => by cases h⟩
  | v :: xs, h => by
    obtain ⟨ys, rfl, hy⟩ := all_strs fun u hu => h u (List.mem_cons_of_mem _ hu)
    have hv := h v List.mem_cons_self
    cases v with
    | str z => exact ⟨z :: ys, rfl, fun y q => (List.mem_cons.mp q).elim (fun e => by rw [e]; exact hv) (hy y)⟩
    | _ => cases hv
theorem ok_ans {f fI fB fM CA CM : Addr} {fd fdI fdB fdM : FuncData} (F : Fun K "answer_set" "answer_set" s_answer_set f fd) (T : Blt mg) (nSo : mg "sorted" = none) (nSe : mg "set" = none) (mA : ∃ u, mg "MOST_ANSWERS" = some u ∧ RelV (.int 6) u)
    (GI : FnOk P w K mg base CX0 2 fI fdI ["value"] spShortV) (I : At K mg "is_answer" fI fdI ["value"])
    (FB : FnOk P w K mg base CX0 2 fB fdB ["self", "index"] (spErr CA okBad fsBad)) (EB : ErrAt K mg "BadAnswers" CA fB fdB ["self", "index"])
    (FM : FnOk P w K mg base CX0 2 fM fdM ["self", "what", "many", "most"] (spErr CM okMany fsMany)) (EM : ErrAt K mg "TooMany" CM fM fdM ["self", "what", "many", "most"]) :
    FnOk P w K mg base (L2.CX P w) 4 f fd ["answers"] (spAns K CA CM) := by
  refine F.okX sc_answer_set (fun vs H Q E h => ?_) (fun cdv A outer s H vs Q E hr h => ?_)
  · obtain ⟨p, a, xs, rfl, _⟩ := h
    rfl
  · obtain ⟨p, a, xs, rfl, hS, hn, hv, kB, kQ⟩ := h
    have hr2 := hr.mono (j := 2) (by decide)
    refine ⟨_, (pss_cons (ps_if (pt_cmpR op_eq (pe_callB call_len_seq (by rfl) T.n_len (by decide +kernel) (pa_cons (pv 0) pa_nil)) pe_int (nomark _)) (pss_one (ps_raise rfl (takes_of rfl rfl rfl rfl) (pmk_oex EB.o EB.i EB.t FB hr EB.b .nil pass0 (by rfl) EB.m (pa_cons pe_int pa_nil)))) pss_nil)
      (pss_cons (ps_for (passes_of rfl) rfl (pi_enumA (by rfl) T.n_enumerate (pa_cons (pv 0) pa_nil)) (pg_tup rfl (pgs_cons (pg_name (i := 1) sc_answer_set.nd rfl (Or.inl rfl)) (pgs_cons (pg_name (i := 2) sc_answer_set.nd rfl (Or.inl rfl)) pgs_nil))) (pss_one (ps_if (pt_not (pt_val (pe_call GI hr2 (by rfl) I.m I.k I.b .nil pass0 (pa_cons (pv 2) pa_nil)))) (pss_one (ps_raise rfl (takes_of rfl rfl rfl rfl) (pmk_oex EB.o EB.i EB.t FB hr EB.b .nil pass0 (by rfl) EB.m (pa_cons (pv 1) pa_nil)))) pss_nil)))
      (pss_cons (ps_set (i := 3) sc_answer_set.nd rfl (Or.inl rfl) (pe_callTy call_tuple_of (by rfl) T.n_tuple (by decide +kernel) (pa_cons (pe_callB (cr_sortedTx rfl) (by rfl) nSo (by decide +kernel) (pa_cons (pe_callTy (cr_setTx rfl) (by rfl) nSe (by decide +kernel) (pa_cons (pv 0) pa_nil)) pa_nil)) pa_nil)))
      (pss_cons (ps_if (pt_cmpR op_gt (pe_callB call_len_seq (by rfl) T.n_len (by decide +kernel) (pa_cons (pv 3) pa_nil)) (pe_gv rfl mA) (nomark _)) (pss_one (ps_raise rfl (takes_of rfl rfl rfl rfl) (pmk_oex EM.o EM.i EM.t FM hr EM.b .nil pass0 (by rfl) EM.m (pa_cons pe_str (pa_cons (pe_callB call_len_seq (by rfl) T.n_len (by decide +kernel) (pa_cons (pv 3) pa_nil)) (pa_cons (pe_gv rfl mA) pa_nil)))))) pss_nil)
      (pss_one (ps_ret (pv 3))))))), ?_⟩
    have z1 : (1000 : Nat) ≤ sizeLine := by decide
    refine ⟨_, rfl, a, xs, rfl, .inl hS, rfl, _, rfl, ite2 (fun h1 => ?_) (fun h1 => ?_)⟩
    · have h1 : V.int ((xs.length : Nat) : Int) = V.int 0 := of_decide_eq_true h1
      injection h1 with h1
      exact err_made (Same.refl H) ⟨_, rfl⟩ (by show 1 ≤ 1000; decide) (fun H' d s' e => kB H' d 0 (.inl ⟨List.length_eq_zero_iff.mp (by omega), rfl⟩) s' e)
    have h1 : xs ≠ [] := fun q => h1 (by rw [q]; exact decide_eq_true rfl)
    have fits : ∀ (R : It → Hp → Prop), R (Ite K a) H → iEnumA K (tCons (tVar 0) tNil) [some (.ref a), none, none, none] H R := fun R r => ⟨_, rfl, a, xs, rfl, .inl ⟨hS, r⟩⟩
    refine for_enum fits walk_enum (fun i σ' H' => ∃ o1 o2 : Option V, σ' = [some (.ref a), o1, o2, none] ∧ Same H H' ∧ ∀ k < i, ∀ u, xs[k]? = some u → ansB u = true)
      ⟨none, none, rfl, Same.refl _, fun j hj => absurd hj (Nat.not_lt_zero _)⟩ (fun i σ' H' _ ⟨_, _, _, s', _⟩ => s'.seq hS) ?_ ?_
    · rintro i x σ' H2 H3 hi ⟨o1, o2, rfl, s2, hno⟩ ⟨t, x0, v, rfl, ht, rfl, ex, ey⟩
      cases ex
      replace ey : xs[i]? = some v := ey
      have s3 := Ask.Same.made1 (o := .tup [.int (i : Nat), v]) s2 ht
      have ht3 : upd H2 t (.tup [.int (i : Nat), v]) t = some (.tup [.int (i : Nat), v]) := upd_same
      generalize upd H2 t (.tup [.int (i : Nat), v]) = H4 at s3 ht3 ⊢
      refine ⟨t, _, rfl, SqT.of ht3, rfl, _, _, rfl, _, _, rfl, rfl, ?_⟩
      refine ⟨_, rfl, p, v, rfl, (hv v (List.mem_of_getElem? ey)).same s3, fun H5 s5 => ⟨_, rfl, ?_⟩⟩
      have s35 := s3.trans s5
      refine ite2 (fun q => ?_) (fun q => ?_)
      · have q : ansB v = false := by
          cases e : ansB v with
          | false => rfl
          | true => rw [e] at q; cases q
        exact ⟨_, rfl, err_made s35 ⟨_, rfl⟩ (by show 1 ≤ 1000; decide) (fun H' d s' e => kB H' d i (.inr ⟨i, v, rfl, ey, q, hno⟩) s' e)⟩
      · have q : ansB v = true := by
          cases e : ansB v with
          | true => rfl
          | false => rw [e] at q; exact absurd rfl q
        refine ⟨_, _, rfl, s35, fun k hk u hu => ?_⟩
        rcases Nat.lt_succ_iff_lt_or_eq.mp hk with hk | rfl
        · exact hno k hk u hu
        · rw [ey] at hu
          cases hu
          exact q
    · rintro σ' H2 ⟨o1, o2, rfl, s2, hno⟩
      obtain ⟨ys, rfl, hy⟩ := all_strs (xs := xs) fun v hv => by
        obtain ⟨k, hk⟩ := List.getElem?_of_mem hv
        exact hno k (List.getElem?_eq_some_iff.mp hk).1 v hk
      have hny : ys ≠ [] := fun q => h1 (by rw [q]; rfl)
      rw [List.length_map] at hn
      refine ⟨_, rfl, a, ys, rfl, s2.seq hS, by omega, fun S zs hSn nd mem len => ?_⟩
      have s3 := Ask.Same.made1 (o := TxO P w S zs) s2 hSn
      have e3 : upd H2 S (TxO P w S zs) S = some (TxO P w S zs) := upd_same
      generalize hH3 : upd H2 S (TxO P w S zs) = H3 at s3 e3
      refine ⟨S, zs, rfl, upd_same, nd, by omega, fun ks l pm so hl => ?_⟩
      replace hl : H3 l = none := by rw [← hH3]; exact hl
      have s4 := Ask.Same.made1 (o := .lst (ks.map V.str)) s3 hl
      have e4 : upd H3 l (.lst (ks.map V.str)) l = some (.lst (ks.map V.str)) := upd_same
      rw [← hH3] at s4 e4
      refine ⟨l, _, rfl, .inl ⟨SqL.of e4, fun t ht => ?_⟩⟩
      have s5 := Ask.Same.made1 (o := .tup (ks.map V.str)) s4 ht
      have e5 : upd (upd (upd H2 S (TxO P w S zs)) l (.lst (ks.map V.str))) t (.tup (ks.map V.str)) t = some (.tup (ks.map V.str)) := upd_same
      obtain ⟨H5, hH5⟩ : ∃ H5, H5 = upd (upd (upd H2 S (TxO P w S zs)) l (.lst (ks.map V.str))) t (.tup (ks.map V.str)) := ⟨_, rfl⟩
      rw [← hH5] at s5 e5
      obtain ⟨kM, kR⟩ := kQ ys ks rfl hny hy ⟨pm.nodup_iff.mpr nd, so, fun z => pm.mem_iff.trans (mem z)⟩
      have lk : (ks.map V.str).length = ks.length := List.length_map ..
      have e5' : upd (upd (upd H2 S (TxO P w S zs)) l (.lst (ks.map V.str))) t (.tup (ks.map V.str)) t = some (.tup (ks.map V.str)) := upd_same
      refine ⟨_, rfl, t, _, rfl, .inr (SqT.of e5'), _, _, rfl, rfl, _, rfl, ite2 (fun h2 => ?_) (fun h2 => ?_)⟩
      · have h2 : (6 : Int) < ((ks.map V.str).length : Nat) := of_decide_eq_true h2
        rw [lk] at h2
        refine ⟨_, rfl, t, _, rfl, .inr (SqT.of e5'), ?_⟩
        rw [lk]
        exact err_made (H1 := upd (upd (upd H2 S (TxO P w S zs)) l (.lst (ks.map V.str))) t (.tup (ks.map V.str))) (by rw [← hH5]; exact s5) ⟨_, _, _, rfl⟩ (by show 3 ≤ 1000; decide) (fun H' d s' e => kM H' d (by omega) s' e)
      · have h2 : ¬ (6 : Int) < ((ks.map V.str).length : Nat) := fun q => h2 (decide_eq_true q)
        rw [lk] at h2
        exact ⟨_, rfl, kR (upd (upd (upd H2 S (TxO P w S zs)) l (.lst (ks.map V.str))) t (.tup (ks.map V.str))) t (by omega) (by rw [← hH5]; exact s5) e5'⟩
end
end Ask

namespace Ask
open PySem L2
open PyProof.Rows (sortedS)
def LM : List Str := ["always", "fresh", "behind"]
theorem But.of {p : Addr} {H H1 : Hp} (s : Same H H1) : But p H H1 := fun b o _ e => s b o e
/-- the attributes that a limit is given -/
structure LiC (K : PySem.W.Frag) (C : Addr) : Prop where
  c : Cls K C
  a1 : NoAttr K C "letters"
  a2 : NoAttr K C "kind"
  a3 : NoAttr K C "answers"
  a4 : NoAttr K C "letter"
/-- whether the letter is as the kind wants it -/
def dueB (ws : List Str) (kd lt : V) : Bool := if kd = .str "behind" then inB ws lt else isN lt
section
variable {P : Program} {w : World} {K : PySem.W.Frag} {mg : Str → Option Value} {base : Heap}
def spLim (K : PySem.W.Frag) (CL CI CK CA CM CT : Addr) : Sp := fun vs H Q E => ∃ (p dx m t pp a : Addr) (kd lt : V) (xs : List V) (ws : List Str), vs = [.ref p, .ref m, kd, .ref a, lt] ∧ H p = some (.ins CI dx []) ∧ Mde CL H m t ws ∧ Val pp H kd ∧ Val pp H lt ∧ SqL K H a xs ∧ xs.length ≤ 60 ∧ (∀ v ∈ xs, Vl pp H v) ∧
  (inB LM kd = false → E (.ref CK) none H) ∧
  (inB LM kd = true → (∀ (H' : Hp) (d : Addr) (i : Int), wrongAt xs i → Same H H' → H' d = some (.xd (fsBad [.int i])) → E (.ref CA) (some d) H') ∧
    ∀ (ys ks : List Str), xs = ys.map V.str → ys ≠ [] → (∀ y ∈ ys, ansS y = true) → SetOfS ys ks →
      (∀ (H' : Hp) (d : Addr), 6 < ks.length → Same H H' → H' d = some (.xd (fsMany [.str "answers", .int (ks.length : Nat), .int 6])) → E (.ref CM) (some d) H') ∧
      (ks.length ≤ 6 → (dueB ws kd lt = false → ∀ (H' : Hp) (d : Addr), Same H H' → H' d = some (.xd (fsBad [.int 0])) → E (.ref CT) (some d) H') ∧
        (dueB ws kd lt = true → ∀ (k : Str) (H' : Hp) (t2 : Addr), kd = .str k → k ∈ LM → H' p = some (.ins CI dx [("letters", .ref m), ("kind", .str k), ("answers", .ref t2), ("letter", lt)]) → H' t2 = some (.tup (ks.map V.str)) → But p H H' → Q .non H')))
abbrev s_Lim_init : Stmt := inClass (top 61) 0
theorem sc_Lim_init : FnScope ["self", "letters", "kind", "answers", "letter", "kept"] ["self", "letters", "kind", "answers", "letter"] (defScope s_Lim_init) := ⟨rfl, rfl, rfl, by decide +kernel, rfl, by decide +kernel, by decide +kernel⟩
theorem ok_limInit {dvs : List V} {f fD fA fT CL CI CK CA CM CT tK : Addr} {uK : Value} {fd fdD fdA fdT : FuncData} (F : FunD K "__init__" "Limit.__init__" (defArgs s_Lim_init) (defBody s_Lim_init) (defScope s_Lim_init) dvs [] f fd) (hC : LiC K CI)
    (mK : mg "LIMIT_KINDS" = some uK) (rK : RelV (.ref tK) uK) (sK : ∀ H, SqT K H tK (LM.map V.str))
    (GD : FnOk P w K mg base CX0 2 fD fdD ["letters", "value", "has_letter"] (spIsDue CL)) (AD : At K mg "is_due" fD fdD ["letters", "value", "has_letter"])
    (GA : FnOk P w K mg base (L2.CX P w) 4 fA fdA ["answers"] (spAns K CA CM)) (AA : At K mg "answer_set" fA fdA ["answers"])
    (EK : Err0 K mg "BadKind" CK)
    (GT : FnOk P w K mg base CX0 2 fT fdT ["self", "index"] (spErr CT okBad fsBad)) (ET : ErrAt K mg "BadLetter" CT fT fdT ["self", "index"]) :
    FnOk P w K mg base (L2.CX P w) 5 f fd ["self", "letters", "kind", "answers", "letter"] (spLim K CL CI CK CA CM CT) := by
  refine F.ok sc_Lim_init (fun vs H Q E h => ?_) (fun cdv A outer s H vs Q E hr h => ?_)
  · obtain ⟨p, dx, m, t, pp, a, kd, lt, xs, ws, rfl, _⟩ := h
    rfl
  · obtain ⟨p, dx, m, t, pp, a, kd, lt, xs, ws, rfl, hp, hM, vk, vt, hS, hn, hv, k0, k1⟩ := h
    have hr2 := hr.mono (j := 2) (by decide)
    have hr3 := hr.mono (j := 3) (by decide)
    refine ⟨_, (pss_cons (ps_if (pt_cmpR (op_notInW (hu_of hr)) (pv 2) (pe_gv (v := .ref tK) rfl ⟨uK, mK, rK⟩) rfl) (pss_one (ps_raise rfl (takes_of rfl rfl rfl rfl) (pmk_own0 PySem.F.excBase_ValueError EK.e EK.m EK.k (raises_own EK.b EK.t) (by rfl)))) pss_nil)
      (pss_cons (ps_set (i := 5) sc_Lim_init.nd rfl (Or.inl rfl) (pe_call (E := E) GA hr (by rfl) AA.m AA.k AA.b .nil (passes_call (takes_of rfl rfl rfl rfl) (fun _ _ _ _ h => h)) (pa_cons (pv 3) pa_nil)))
      (pss_cons (ps_if (pt_not (pt_val (pe_call GD hr2 (by rfl) AD.m AD.k AD.b .nil pass0 (pa_cons (pv 1) (pa_cons (pv 4) (pa_cons (pe_cmpR op_eq (pv 2) pe_str (nomark _)) pa_nil)))))) (pss_one (ps_raise rfl (takes_of rfl rfl rfl rfl) (pmk_oex ET.o ET.i ET.t GT hr3 ET.b .nil pass0 (by rfl) ET.m (pa_cons pe_int pa_nil)))) pss_nil)
      (pss_cons (ps_fld (pv 0) (pv 1) rfl)
      (pss_cons (ps_fld (pv 0) (pv 2) rfl)
      (pss_cons (ps_fld (pv 0) (pv 5) rfl)
      (pss_one (ps_fld (pv 0) (pv 4) rfl)))))))), ?_⟩
    refine ⟨_, rfl, tK, LM, _, rfl, sK H, vk.inw LM, _, rfl, ?_⟩
    cases bk : inB LM kd with
    | false => exact iteT (k0 bk)
    | true =>
    refine iteF ?_
    obtain ⟨k, rfl, hk⟩ := inB_some bk
    obtain ⟨kE, k2⟩ := k1 bk
    refine ⟨_, rfl, pp, a, xs, rfl, hS, hn, hv, kE, fun ys ks e ny ok so => ?_⟩
    obtain ⟨kM, k3⟩ := k2 ys ks e ny ok so
    refine ⟨kM, fun H1 t2 le s1 e1 => ?_⟩
    obtain ⟨kT, k4⟩ := k3 le
    refine ⟨_, rfl, _, rfl, _, rfl, rfl, m, t, ws, lt, _, _, rfl, hM.same s1, (vt.same s1).inw ws, _, rfl, ?_⟩
    have isn : isN lt = decide (lt = V.non) := by
      cases lt <;> first | rfl | exact (decide_eq_false (fun z => by cases z)).symm
    have ec : (if decide (V.str k = V.str "behind") = true then inB ws lt else decide (lt = .non)) = dueB ws (.str k) lt := by
      unfold dueB
      rw [isn]
      by_cases q : V.str k = V.str "behind"
      · rw [if_pos (decide_eq_true q), if_pos q]
      · rw [if_neg (fun z => q (of_decide_eq_true z)), if_neg q]
    rw [ec]
    cases b2 : dueB ws (.str k) lt with
    | false => exact iteT (err_made s1 ⟨_, rfl⟩ (by show 1 ≤ 1000; decide) (fun H' d s' e => kT b2 H' d s' e))
    | true =>
    refine iteF ?_
    have np : p ≠ t2 := fun q => by
      have := s1 _ _ hp
      rw [q, e1] at this
      cases this
    refine ⟨_, rfl, _, rfl, p, CI, dx, [], rfl, s1 _ _ hp, hC.c, hC.a1, by show 0 < 1000; decide, ?_⟩
    refine ⟨_, rfl, _, rfl, p, CI, dx, _, rfl, upd_same, hC.c, hC.a2, by show 1 < 1000; decide, ?_⟩
    refine ⟨_, rfl, _, rfl, p, CI, dx, _, rfl, upd_same, hC.c, hC.a3, by show 2 < 1000; decide, ?_⟩
    refine ⟨_, rfl, _, rfl, p, CI, dx, _, rfl, upd_same, hC.c, hC.a4, by show 3 < 1000; decide, ?_⟩
    refine k4 b2 k _ t2 rfl hk upd_same ?_ (But.of s1).upd.upd.upd.upd
    rw [upd_ne np.symm, upd_ne np.symm, upd_ne np.symm, upd_ne np.symm]
    exact e1
end
end Ask

namespace Ask
open PySem L2
section
variable {P : Program} {w : World} {K : PySem.W.Frag} {mg : Str → Option Value} {base : Heap}
def spReqSame (CL : Addr) : Sp := fun vs H Q _ => ∃ (m t m' t' : Addr) (ys : List Str), vs = [.ref m, .ref m'] ∧ Mde CL H m t ys ∧ Mde CL H m' t' ys ∧ Lts ys ∧ Q .non H
abbrev s_require_same : Stmt := top 31
theorem sc_require_same : FnScope ["one", "other"] ["one", "other"] (defScope s_require_same) := ⟨rfl, rfl, rfl, by decide +kernel, rfl, by decide +kernel, by decide +kernel⟩
theorem ok_reqSame {f fQ CL : Addr} {fd fdQ : FuncData} (F : Fun K "require_same" "require_same" s_require_same f fd)
    (GQ : FnOk P w K mg base CX0 1 fQ fdQ ["self", "other"] (spEq2 CL)) (bQ : Binds K fdQ ["self", "other"] []) (nQ : OwnNe K CL fQ) :
    FnOk P w K mg base CX0 3 f fd ["one", "other"] (spReqSame CL) := by
  refine F.ok sc_require_same (fun vs H Q E h => ?_) (fun cdv A outer s H vs Q E hr h => ?_)
  · obtain ⟨m, t, m', t', ys, rfl, _⟩ := h
    rfl
  · obtain ⟨m, t, m', t', ys, rfl, h1, h2, lts, kq⟩ := h
    have h_eq := hr.mono (j := 2) (by decide)
    refine ⟨_, (pss_one (ps_if (pt_cmpR (op_neI (C := CL) (E := E0) GQ (by exact h_eq) bQ pass0 nQ) (pv 0) (pv 1) (nomark _)) pss_no pss_nil)), ?_⟩
    obtain ⟨d1, o1, e1, _⟩ := id h1
    obtain ⟨d2, o2, e2, _⟩ := id h2
    refine ⟨_, rfl, _, rfl, m, m', d1, d2, _, _, rfl, rfl, e1, e2, m, t, m', t', ys, ys, rfl, h1, h2, lts.fit, lts.fit, _, rfl, _, rfl, ?_⟩
    rw [show PyData.eqv (.tuple (ys.map PyData.str)) (.tuple (ys.map PyData.str)) = true from by rw [PyData.eqv, eqvAll_strs, decide_eq_true rfl]]
    exact iteF kq
/-- what is known of a machine and a history over its letters -/
structure MacOk (ys : List Str) (rs : List (List Nat)) (ans : List Str) (nw fo : Nat) : Prop where
  lts : Lts ys
  rows : RowsOk rs ys.length
  len : rs.length ≤ 40
  alen : ans.length = rs.length
  nw : nw < rs.length
  fo : fo < rs.length
def stN (rs : List (List Nat)) (ys : List Str) (nw fo : Nat) (b : Str) (runs : List Run) : Nat := aftN rs ys (if b = "new" then nw else fo) runs
theorem MacOk.st {ys : List Str} {rs : List (List Nat)} {ans : List Str} {nw fo : Nat} (h : MacOk ys rs ans nw fo) (b : Str) : (if b = "new" then nw else fo) < rs.length := by
  split
  · exact h.nw
  · exact h.fo
def spState (K : PySem.W.Frag) (CL CH CM : Addr) : Sp := fun vs H Q _ => ∃ (p q : Addr) (ys : List Str) (rs : List (List Nat)) (ans : List Str) (nw fo : Nat) (b : Str) (runs : List Run), vs = [.ref p, .ref q] ∧ MacAt K CL CM H p ys rs ans nw fo ∧ MacOk ys rs ans nw fo ∧ HistAt K CL CH H q ys b runs ∧ (∀ r ∈ runs, r.1 ∈ ys ∧ 0 ≤ r.2) ∧
  ∀ H', Same H H' → Q (vN (stN rs ys nw fo b runs)) H'
abbrev s_Machine_state : Stmt := inClass (top 69) 3
theorem sc_Machine_state : FnScope ["self", "history"] ["self", "history"] (defScope s_Machine_state) := ⟨rfl, rfl, rfl, by decide +kernel, rfl, by decide +kernel, by decide +kernel⟩
theorem ok_state {f fR fS fA CL CH CM : Addr} {fd fdR fdS fdA : FuncData} (F : Fun K "state" "Machine.state" s_Machine_state f fd) (hM : MacC K CM) (hH : Cls K CH) (n1 : NoAttr K CH "letters") (n2 : NoAttr K CH "beginning") (n3 : NoAttr K CH "runs")
    (G_require_same : FnOk P w K mg base CX0 3 fR fdR ["one", "other"] (spReqSame CL)) (A_require_same : At K mg "require_same" fR fdR ["one", "other"])
    (GS : FnOk P w K mg base CX0 1 fS fdS ["self", "beginning"] (spStart K CL CM)) (bS : Binds K fdS ["self", "beginning"] []) (mS : Meth K CM "start" fS)
    (GA : FnOk P w K mg base CX0 5 fA fdA ["self", "state", "runs"] (spAfter K CL CM)) (bA : Binds K fdA ["self", "state", "runs"] []) (mA : Meth K CM "after_runs" fA) :
    FnOk P w K mg base CX0 6 f fd ["self", "history"] (spState K CL CH CM) := by
  refine F.ok sc_Machine_state (fun vs H Q E h => ?_) (fun cdv A outer s H vs Q E hr h => ?_)
  · obtain ⟨p, q, ys, rs, ans, nw, fo, b, runs, rfl, _⟩ := h
    rfl
  · obtain ⟨p, q, ys, rs, ans, nw, fo, b, runs, rfl, hMac, ok, hHis, hin, kq⟩ := h
    have h_require_same := hr.mono (j := 3) (by decide)
    have h1 := hr.mono (j := 1) (by decide)
    refine ⟨_, (pss_cons (ps_expr (pe_call G_require_same (by exact h_require_same) (by rfl) A_require_same.m A_require_same.k A_require_same.b .nil pass0 (pa_cons (pe_fld (pv 0) rfl) (pa_cons (pe_fld (pv 1) rfl) pa_nil))))
      (pss_one (ps_ret (pe_meth (pv 0) hM.c mA GA hr bA .nil pass0 (pa_cons (pe_meth (pv 0) hM.c mS GS h1 bS .nil pass0 (pa_cons (pe_fld (pv 1) rfl) pa_nil)) (pa_cons (pe_fld (pv 1) rfl) pa_nil)))))), ?_⟩
    obtain ⟨dx, m, t, ra, aa, hp, hL, hR, hA⟩ := id hMac
    obtain ⟨dx', m', t', c, ks, hq, hL', hc, hks⟩ := id hHis
    refine ⟨_, rfl, p, CM, dx, _, _, rfl, hp, hM.c, hM.a1, rfl, _, rfl, q, CH, dx', _, _, rfl, hq, hH, n1, rfl, m, t, m', t', ys, rfl, hL, hL', ok.lts, ?_⟩
    refine ⟨_, rfl, p, dx, _, rfl, hp, rfl, _, rfl, p, dx, _, rfl, hp, rfl, _, rfl, q, CH, dx', _, _, rfl, hq, hH, n2, rfl, p, ys, rs, ans, nw, fo, b, rfl, hMac, _, rfl, q, CH, dx', _, _, rfl, hq, hH, n3, rfl, ?_⟩
    exact ⟨p, c, ys, rs, ans, nw, fo, _, ks, runs, rfl, hMac, ok.lts.nd, ok.rows, by have := ok.len; omega, ok.st b, hc, hks, hin, kq⟩
def spCallM (K : PySem.W.Frag) (CL CH CM : Addr) : Sp := fun vs H Q _ => ∃ (p q : Addr) (ys : List Str) (rs : List (List Nat)) (ans : List Str) (nw fo : Nat) (b : Str) (runs : List Run) (z : Str), vs = [.ref p, .ref q] ∧ MacAt K CL CM H p ys rs ans nw fo ∧ MacOk ys rs ans nw fo ∧ HistAt K CL CH H q ys b runs ∧ (∀ r ∈ runs, r.1 ∈ ys ∧ 0 ≤ r.2) ∧ ans[stN rs ys nw fo b runs]? = some z ∧
  ∀ H', Same H H' → Q (.str z) H'
abbrev s_Machine___call__ : Stmt := inClass (top 69) 2
theorem sc_Machine___call__ : FnScope ["self", "history"] ["self", "history"] (defScope s_Machine___call__) := ⟨rfl, rfl, rfl, by decide +kernel, rfl, by decide +kernel, by decide +kernel⟩
theorem ok_callM {f fS CL CH CM : Addr} {fd fdS : FuncData} (F : Fun K "__call__" "Machine.__call__" s_Machine___call__ f fd) (hM : MacC K CM)
    (GS : FnOk P w K mg base CX0 6 fS fdS ["self", "history"] (spState K CL CH CM)) (bS : Binds K fdS ["self", "history"] []) (mS : Meth K CM "state" fS) :
    FnOk P w K mg base CX0 7 f fd ["self", "history"] (spCallM K CL CH CM) := by
  refine F.ok sc_Machine___call__ (fun vs H Q E h => ?_) (fun cdv A outer s H vs Q E hr h => ?_)
  · obtain ⟨p, q, ys, rs, ans, nw, fo, b, runs, z, rfl, _⟩ := h
    rfl
  · obtain ⟨p, q, ys, rs, ans, nw, fo, b, runs, z, rfl, hMac, ok, hHis, hin, hz, kq⟩ := h
    refine ⟨_, (pss_one (ps_ret (pe_ix ix_seq (pe_fld (pv 0) rfl) (pe_meth (pv 0) hM.c mS GS hr bS .nil pass0 (pa_cons (pv 1) pa_nil)) (fun _ _ => rfl)))), ?_⟩
    obtain ⟨dx, m, t, ra, aa, hp, hL, hR, hA⟩ := id hMac
    exact ⟨_, rfl, p, CM, dx, _, _, rfl, hp, hM.c, hM.a3, rfl, _, rfl, p, dx, _, rfl, hp, rfl, _, rfl, p, q, ys, rs, ans, nw, fo, b, runs, rfl, hMac, ok, hHis, hin, fun H' s' => .inr (.inl ⟨aa, _, _, .str z, rfl, rfl, seqT_same s' hA, at_by (j := stN rs ys nw fo b runs) rfl (by rw [List.getElem?_map, hz]; rfl), kq H' s'⟩)⟩
end
end Ask

/-! the first histories, as mathematics: nodes in the order in which words reach them -/
namespace Ask
open PySem L2
abbrev Pr := Nat × Nat
abbrev Ent := Pr × (Nat × List Nat)
def addE (es : List Ent) (p : Pr) (w : Nat × List Nat) : List Ent := if p ∈ es.map (·.1) then es else es ++ [(p, w)]
/-- the first j of the nodes ts taken in -/
def expJ (ts : List Pr) (k : Nat) (wd : List Nat) : Nat → List Ent → List Ent
  | 0, es => es
  | j + 1, es => match ts[j]? with
    | some t => addE (expJ ts k wd j es) t (k, wd ++ [j])
    | none => expJ ts k wd j es
def bfs (nx : Pr → List Pr) (e0 : List Ent) : Nat → List Ent
  | 0 => e0
  | n + 1 => match (bfs nx e0 n)[n]? with
    | some e => expJ (nx e.1) e.2.1 e.2.2 (nx e.1).length (bfs nx e0 n)
    | none => bfs nx e0 n
def beg0 (a b : Pr) : List Ent := addE [(a, (0, []))] b (1, [])
theorem addE_pre (es : List Ent) (p : Pr) (w : Nat × List Nat) : ∃ r, addE es p w = es ++ r := by
  unfold addE
  split
  · exact ⟨[], (List.append_nil _).symm⟩
  · exact ⟨_, rfl⟩
theorem expJ_pre (ts : List Pr) (k : Nat) (wd : List Nat) : ∀ (j : Nat) (es : List Ent), ∃ r, expJ ts k wd j es = es ++ r
  | 0, es => ⟨[], (List.append_nil _).symm⟩
  | j + 1, es => by
    obtain ⟨r, e⟩ := expJ_pre ts k wd j es
    unfold expJ
    split
    · obtain ⟨r2, e2⟩ := addE_pre (expJ ts k wd j es) _ (k, wd ++ [j])
      exact ⟨r ++ r2, by rw [e2, e, List.append_assoc]⟩
    · exact ⟨r, e⟩
theorem bfs_pre1 (nx : Pr → List Pr) (e0 : List Ent) (n : Nat) : ∃ r, bfs nx e0 (n + 1) = bfs nx e0 n ++ r := by
  rw [bfs]
  split
  · exact expJ_pre _ _ _ _ _
  · exact ⟨[], (List.append_nil _).symm⟩
theorem bfs_pre (nx : Pr → List Pr) (e0 : List Ent) (n : Nat) : ∀ k, ∃ r, bfs nx e0 (n + k) = bfs nx e0 n ++ r
  | 0 => ⟨[], (List.append_nil _).symm⟩
  | k + 1 => by
    obtain ⟨r, e⟩ := bfs_pre nx e0 n k
    obtain ⟨r2, e2⟩ := bfs_pre1 nx e0 (n + k)
    exact ⟨r ++ r2, by rw [show n + (k + 1) = n + k + 1 from rfl, e2, e, List.append_assoc]⟩
theorem bfs_end {nx : Pr → List Pr} {e0 : List Ent} {n : Nat} (h : (bfs nx e0 n).length ≤ n) : ∀ k, bfs nx e0 (n + k) = bfs nx e0 n
  | 0 => rfl
  | k + 1 => by
    have ih := bfs_end h k
    rw [show n + (k + 1) = n + k + 1 from rfl, bfs, ih, List.getElem?_eq_none (by omega)]
theorem bfs_le {nx : Pr → List Pr} {e0 : List Ent} {m n N : Nat} (hm : m ≤ n) : ∃ r, bfs nx e0 n = bfs nx e0 m ++ r := by
  obtain ⟨r, e⟩ := bfs_pre nx e0 m (n - m)
  exact ⟨r, by rw [← e]; congr 1; omega⟩
theorem bfs_get {nx : Pr → List Pr} {e0 : List Ent} {m n i : Nat} {e : Ent} (hm : m ≤ n) (h : (bfs nx e0 m)[i]? = some e) : (bfs nx e0 n)[i]? = some e := by
  obtain ⟨r, q⟩ := bfs_le (nx := nx) (e0 := e0) (N := n) hm
  rw [q, List.getElem?_append_left (List.getElem?_eq_some_iff.mp h).1]
  exact h
theorem bfs_fin {nx : Pr → List Pr} {e0 : List Ent} {n N i : Nat} {e : Ent} (hN : (bfs nx e0 N).length ≤ N) (h : (bfs nx e0 n)[i]? = some e) : (bfs nx e0 N)[i]? = some e := by
  by_cases c : n ≤ N
  · exact bfs_get c h
  · have q := bfs_end hN (n - N)
    rw [show N + (n - N) = n from by omega] at q
    rw [← q]
    exact h
/-! ### what holds of all entries -/
theorem addE_all {P : Ent → Prop} {es : List Ent} {p : Pr} {w : Nat × List Nat} (h : ∀ e ∈ es, P e) (hp : P (p, w)) : ∀ e ∈ addE es p w, P e := by
  unfold addE
  split
  · exact h
  · intro e he
    rcases List.mem_append.mp he with he | he
    · exact h e he
    · rw [List.mem_singleton.mp he]
      exact hp
theorem addE_nd {es : List Ent} {p : Pr} {w : Nat × List Nat} (h : (es.map (·.1)).Nodup) : ((addE es p w).map (·.1)).Nodup := by
  unfold addE
  split
  · exact h
  · rename_i c
    rw [List.map_append]
    refine List.nodup_append.mpr ⟨h, by simp, fun a ha b hb q => c ?_⟩
    have : b = p := by simpa using hb
    rw [← this, ← q]
    exact ha
theorem expJ_all {P : Ent → Prop} {ts : List Pr} {k : Nat} {wd : List Nat} (hp : ∀ j t, ts[j]? = some t → P (t, (k, wd ++ [j]))) : ∀ (j : Nat) (es : List Ent), (∀ e ∈ es, P e) → ∀ e ∈ expJ ts k wd j es, P e
  | 0, es, h => h
  | j + 1, es, h => by
    have ih := expJ_all hp j es h
    unfold expJ
    split
    · rename_i t ht
      exact addE_all ih (hp j t ht)
    · exact ih
theorem expJ_nd {ts : List Pr} {k : Nat} {wd : List Nat} : ∀ (j : Nat) (es : List Ent), (es.map (·.1)).Nodup → ((expJ ts k wd j es).map (·.1)).Nodup
  | 0, es, h => h
  | j + 1, es, h => by
    have ih := expJ_nd (ts := ts) (k := k) (wd := wd) j es h
    unfold expJ
    split
    · exact addE_nd ih
    · exact ih
theorem bfs_all {P : Ent → Prop} {nx : Pr → List Pr} {e0 : List Ent} (h0 : ∀ e ∈ e0, P e) (hp : ∀ p k wd, P (p, (k, wd)) → ∀ j t, (nx p)[j]? = some t → P (t, (k, wd ++ [j]))) : ∀ n, ∀ e ∈ bfs nx e0 n, P e
  | 0 => h0
  | n + 1 => by
    have ih := bfs_all h0 hp n
    rw [bfs]
    split
    · rename_i e he
      have hm := ih _ (List.mem_of_getElem? he)
      exact expJ_all (fun j t ht => hp e.1 e.2.1 e.2.2 hm j t ht) _ _ ih
    · exact ih
theorem bfs_nd {nx : Pr → List Pr} {e0 : List Ent} (h0 : (e0.map (·.1)).Nodup) : ∀ n, ((bfs nx e0 n).map (·.1)).Nodup
  | 0 => h0
  | n + 1 => by
    have ih := bfs_nd (nx := nx) h0 n
    rw [bfs]
    split
    · exact expJ_nd _ _ ih
    · exact ih
theorem beg0_nd (a b : Pr) : ((beg0 a b).map (·.1)).Nodup := addE_nd (by simp)
theorem beg0_all {P : Ent → Prop} {a b : Pr} (ha : P (a, (0, []))) (hb : P (b, (1, []))) : ∀ e ∈ beg0 a b, P e := addE_all (fun e he => by rw [List.mem_singleton.mp he]; exact ha) hb
/-- as many entries as pairs of numbers below M and N, at most -/
theorem ents_le {es : List Ent} {M N : Nat} (nd : (es.map (·.1)).Nodup) (h : ∀ e ∈ es, e.1.1 < M ∧ e.1.2 < N) : es.length ≤ M * N := by
  have inj : ∀ p q : Pr, p.2 < N → q.2 < N → p.1 * N + p.2 = q.1 * N + q.2 → p = q := fun p q hp hq e => by
    have e1 : p.1 = q.1 := by
      have a := congrArg (· / N) e
      have N0 : 0 < N := by omega
      simp only [Nat.mul_comm _ N, Nat.mul_add_div N0, Nat.div_eq_of_lt hp, Nat.div_eq_of_lt hq, Nat.add_zero] at a
      exact a
    have e2 : p.2 = q.2 := by rw [e1] at e; omega
    exact Prod.ext e1 e2
  have nd2 : (es.map fun e => e.1.1 * N + e.1.2).Nodup := by
    have q : (es.map fun e => e.1.1 * N + e.1.2) = (es.map (·.1)).map fun p => p.1 * N + p.2 := by rw [List.map_map]; rfl
    rw [q]
    refine List.pairwise_map.mpr (List.Pairwise.imp_of_mem ?_ nd)
    intro p q hp hq ne e
    obtain ⟨ep, m1, rfl⟩ := List.mem_map.mp hp
    obtain ⟨eq, m2, rfl⟩ := List.mem_map.mp hq
    exact ne (inj _ _ (h _ m1).2 (h _ m2).2 e)
  have sub : ∀ x ∈ (es.map fun e => e.1.1 * N + e.1.2), x ∈ List.range (M * N) := fun x hx => by
    obtain ⟨e, m, rfl⟩ := List.mem_map.mp hx
    obtain ⟨a, b⟩ := h e m
    rw [List.mem_range]
    calc e.1.1 * N + e.1.2 < e.1.1 * N + N := by omega
      _ = (e.1.1 + 1) * N := by rw [Nat.add_mul, Nat.one_mul]
      _ ≤ M * N := Nat.mul_le_mul_right _ a
  have := sub_len _ _ nd2 sub
  rwa [List.length_map, List.length_range] at this
/-! ### the first entry of which d holds -/
theorem first_of {nx : Pr → List Pr} {e0 : List Ent} {n N : Nat} {e : Ent} {d : Pr → Bool} (hN : (bfs nx e0 N).length ≤ N) (he : (bfs nx e0 n)[n]? = some e) (hd : d e.1 = true) (no : ∀ m e', m < n → (bfs nx e0 m)[m]? = some e' → d e'.1 = false) :
    ((bfs nx e0 N).filter fun e => d e.1).head? = some e := by
  have heN := bfs_fin hN he
  have lt := (List.getElem?_eq_some_iff.mp heN).1
  have nlt := (List.getElem?_eq_some_iff.mp he).1
  have none_ : ((bfs nx e0 N).take n).filter (fun e => d e.1) = [] := by
    rw [List.filter_eq_nil_iff]
    intro x hx
    obtain ⟨m, hm⟩ := List.mem_iff_getElem?.mp hx
    rw [List.getElem?_take] at hm
    split at hm
    · rename_i c
      -- at m, x stood there when m was looked at
      have xm : (bfs nx e0 m)[m]? = some x ∨ (bfs nx e0 m).length ≤ m := by
        cases q : (bfs nx e0 m)[m]? with
        | none => exact .inr (List.getElem?_eq_none_iff.mp q)
        | some y =>
          have := bfs_fin hN q
          rw [hm] at this
          exact .inl this.symm
      rcases xm with q | q
      · rw [no m x c q]; simp
      · -- then nothing is added behind m, yet n stands there
        have z := bfs_end q (n - m)
        rw [show m + (n - m) = n from by omega] at z
        rw [z] at nlt
        omega
    · cases hm
  conv => lhs; rw [← List.take_append_drop n (bfs nx e0 N)]
  rw [List.filter_append, none_, List.nil_append, List.drop_eq_getElem_cons lt]
  have e1 : (bfs nx e0 N)[n] = e := (List.getElem?_eq_some_iff.mp heN).2
  rw [e1, List.filter_cons, if_pos hd]
  rfl
theorem first_no {nx : Pr → List Pr} {e0 : List Ent} {n N : Nat} {d : Pr → Bool} (hN : (bfs nx e0 N).length ≤ N) (hn : (bfs nx e0 n).length ≤ n) (no : ∀ m e', m < n → (bfs nx e0 m)[m]? = some e' → d e'.1 = false) :
    (bfs nx e0 N).filter (fun e => d e.1) = [] := by
  rw [List.filter_eq_nil_iff]
  intro x hx
  obtain ⟨m, hm⟩ := List.mem_iff_getElem?.mp hx
  have mN : (bfs nx e0 n)[m]? = some x := bfs_fin hn hm
  have mlt : m < n := Nat.lt_of_lt_of_le (List.getElem?_eq_some_iff.mp mN).1 hn
  cases q : (bfs nx e0 m)[m]? with
  | none =>
    have z := bfs_end (List.getElem?_eq_none_iff.mp q) (n - m)
    rw [show m + (n - m) = n from by omega] at z
    rw [z, q] at mN
    cases mN
  | some y =>
    have := bfs_fin hn q
    rw [mN] at this
    cases this
    rw [no m x mlt q]
    simp
end Ask

namespace Ask
open PySem L2
section
variable {K : PySem.W.Frag} {CL : Addr} {H H' : Hp} {p C dx : Addr} {fs : List (Str × V)}
theorem RowsN.but {a : Addr} {rs : List (List Nat)} (h : RowsN K H a rs) (k : ∀ b o, b ≠ p → H b = some o → H' b = some o) (hp : H p = some (.ins C dx fs)) : RowsN K H' a rs := by
  obtain ⟨xs, h1, h2, h3⟩ := h
  exact ⟨xs, seqT_but h1 k hp, h2, fun i v r e1 e2 => let ⟨b, e, q⟩ := h3 i v r e1 e2; ⟨b, e, seqT_but q k hp⟩⟩
theorem RowsV.but {xs : List V} {rs : List (List Nat)} (h : RowsV K H xs rs) (k : ∀ b o, b ≠ p → H b = some o → H' b = some o) (hp : H p = some (.ins C dx fs)) : RowsV K H' xs rs :=
  ⟨h.1, fun i v r e1 e2 => let ⟨b, e, q⟩ := h.2 i v r e1 e2; ⟨b, e, seqA_but q k hp⟩⟩
end
section
variable {P : Program} {w : World} {K : PySem.W.Frag} {mg : Str → Option Value} {base : Heap}
def spMac (K : PySem.W.Frag) (CL CM : Addr) : Sp := fun vs H Q _ => ∃ (p dx m t a b : Addr) (ys : List Str) (xs : List V) (rs : List (List Nat)) (ans : List Str) (nw fo : Nat), vs = [.ref p, .ref m, .ref a, .ref b, vN nw, vN fo] ∧ H p = some (.ins CM dx []) ∧ Mde CL H m t ys ∧ (SqL K H a xs ∨ SqT K H a xs) ∧ RowsV K H xs rs ∧ (SqL K H b (ans.map V.str) ∨ SqT K H b (ans.map V.str)) ∧ MacOk ys rs ans nw fo ∧ (∀ z ∈ ans, shortL z.cps.toList = true ∧ z.length ≤ 500) ∧
  ∀ H', (∀ b o, b ≠ p → H b = some o → H' b = some o) → MacAt K CL CM H' p ys rs ans nw fo → Q .non H'

abbrev s_Machine___init__ : Stmt := inClass (top 69) 0
theorem sc_Machine___init__ : FnScope ["self", "letters", "rows", "answers", "new", "found", "index", "state"] ["self", "letters", "rows", "answers", "new", "found"] (defScope s_Machine___init__) := ⟨rfl, rfl, rfl, by decide +kernel, rfl, by decide +kernel, by decide +kernel⟩
theorem ok_macInit {dvs : List V} {kws : List (Str × V)} {f fT fA fI CL CM : Addr} {fd fdT fdA fdI : FuncData} (F : FunD K "__init__" "Machine.__init__" (defArgs s_Machine___init__) (defBody s_Machine___init__) (defScope s_Machine___init__) dvs kws f fd) (T : Blt mg) (hM : MacC K CM)
    (G_told_rows : FnOk P w K mg base CX0 3 fT fdT ["letters", "rows"] (spTold K CL)) (A_told_rows : At K mg "told_rows" fT fdT ["letters", "rows"])
    (G_told_answers : FnOk P w K mg base CX0 3 fA fdA ["answers", "many"] (spTAns K)) (A_told_answers : At K mg "told_answers" fA fdA ["answers", "many"])
    (G_is_index : FnOk P w K mg base CX0 2 fI fdI ["value", "many"] spIsIndex) (A_is_index : At K mg "is_index" fI fdI ["value", "many"]) :
    FnOk P w K mg base CX0 4 f fd ["self", "letters", "rows", "answers", "new", "found"] (spMac K CL CM) := by
  refine F.ok sc_Machine___init__ (fun vs H Q E h => ?_) (fun cdv A outer s H vs Q E hr h => ?_)
  · obtain ⟨p, dx, m, t, a, b, ys, xs, rs, ans, nw, fo, rfl, _⟩ := h
    rfl
  · obtain ⟨p, dx, m, t, a, b, ys, xs, rs, ans, nw, fo, rfl, hp, hL, hS, hR, hA, ok, aok, kq⟩ := h
    have h_told_rows := hr.mono (j := 3) (by decide)
    have h_told_answers := hr.mono (j := 3) (by decide)
    have h_is_index := hr.mono (j := 2) (by decide)
    refine ⟨_, PSs.nox (pss_cons (ps_fld (pv 0) (pv 1) rfl)
      (pss_cons (ps_fld (pv 0) (pe_call G_told_rows (by exact h_told_rows) (by rfl) A_told_rows.m A_told_rows.k A_told_rows.b .nil pass0 (pa_cons (pv 1) (pa_cons (pv 2) pa_nil))) rfl)
      (pss_cons (ps_fld (pv 0) (pe_call G_told_answers (by exact h_told_answers) (by rfl) A_told_answers.m A_told_answers.k A_told_answers.b .nil pass0 (pa_cons (pv 3) (pa_cons (pe_callB call_len_seq (by rfl) T.n_len (by decide +kernel) (pa_cons (pe_fld (pv 0) rfl) pa_nil)) pa_nil))) rfl)
      (pss_cons (ps_for PassesOwn.never rfl (pi_enumA (by rfl) T.n_enumerate (pa_cons (pe_tup (pa_cons (pv 4) (pa_cons (pv 5) pa_nil))) pa_nil)) (pg_tup rfl (pgs_cons (pg_name (i := 6) sc_Machine___init__.nd rfl (Or.inl rfl)) (pgs_cons (pg_name (i := 7) sc_Machine___init__.nd rfl (Or.inl rfl)) pgs_nil))) (pss_one (ps_if (pt_not (pt_val (pe_call G_is_index (by exact h_is_index) (by rfl) A_is_index.m A_is_index.k A_is_index.b .nil pass0 (pa_cons (pv 7) (pa_cons (pe_callB call_len_seq (by rfl) T.n_len (by decide +kernel) (pa_cons (pe_fld (pv 0) rfl) pa_nil)) pa_nil))))) pss_no pss_nil)))
      (pss_cons (ps_fld (pv 0) (pv 4) rfl)
      (pss_one (ps_fld (pv 0) (pv 5) rfl))))))), ?_⟩
    have z1 : (100000 : Nat) ≤ sizeLine := by decide
    have l40 := ok.len
    refine ⟨_, rfl, _, rfl, p, CM, dx, [], rfl, hp, hM.c, hM.a1, (by show 0 < 1000; decide), ?_⟩
    have p1 : upd H p (.ins CM dx (putF "letters" (.ref m) [])) p = some (.ins CM dx [("letters", .ref m)]) := upd_same
    have k1 : ∀ b' o, b' ≠ p → H b' = some o → upd H p (.ins CM dx (putF "letters" (.ref m) [])) b' = some o := fun b' o hb e => by rw [upd_ne hb]; exact e
    generalize upd H p (.ins CM dx (putF "letters" (.ref m) [])) = H1 at p1 k1 ⊢
    have hL1 := hL.but k1 hp
    have hS1 := seqA_but hS k1 hp
    have hR1 := hR.but k1 hp
    have hA1 := seqA_but hA k1 hp
    -- rows
    refine ⟨_, rfl, _, rfl, m, t, a, ys, xs, rs, rfl, hL1, by have := ok.lts.l1; omega, hS1, hR1, ok.rows, by have := ok.nw; omega, ok.len, fun H2 ra s2 hra => ?_⟩
    refine ⟨_, rfl, p, CM, dx, _, rfl, s2 _ _ p1, hM.c, hM.a2, (by show 1 < 1000; decide), ?_⟩
    have p3 : upd H2 p (.ins CM dx (putF "rows" (.ref ra) [("letters", .ref m)])) p = some (.ins CM dx [("letters", .ref m), ("rows", .ref ra)]) := upd_same
    have k3 : ∀ b' o, b' ≠ p → H2 b' = some o → upd H2 p (.ins CM dx (putF "rows" (.ref ra) [("letters", .ref m)])) b' = some o := fun b' o hb e => by rw [upd_ne hb]; exact e
    generalize upd H2 p (.ins CM dx (putF "rows" (.ref ra) [("letters", .ref m)])) = H3 at p3 k3 ⊢
    have p2 := s2 _ _ p1
    have hL3 := (hL1.same s2).but k3 p2
    have hA3 := seqA_but (seqA_same hA1 s2) k3 p2
    have hra3 := hra.but k3 p2
    have kk3 : ∀ b' o, b' ≠ p → H b' = some o → H3 b' = some o := fun b' o hb e => k3 _ _ hb (s2 _ _ (k1 _ _ hb e))
    obtain ⟨us, u1, u2, u3⟩ := id hra3
    -- answers
    refine ⟨_, rfl, _, rfl, p, CM, dx, _, _, rfl, p3, hM.c, hM.a2, rfl, ra, us, rfl, .inr u1, b, ans, (by rw [u2, ← ok.alen]; rfl), hA3, by have := ok.alen; omega, aok, fun H4 aa s4 haa => ?_⟩
    refine ⟨_, rfl, p, CM, dx, _, rfl, s4 _ _ p3, hM.c, hM.a3, (by show 2 < 1000; decide), ?_⟩
    have p5 : upd H4 p (.ins CM dx (putF "answers" (.ref aa) [("letters", .ref m), ("rows", .ref ra)])) p = some (.ins CM dx [("letters", .ref m), ("rows", .ref ra), ("answers", .ref aa)]) := upd_same
    have k5 : ∀ b' o, b' ≠ p → H4 b' = some o → upd H4 p (.ins CM dx (putF "answers" (.ref aa) [("letters", .ref m), ("rows", .ref ra)])) b' = some o := fun b' o hb e => by rw [upd_ne hb]; exact e
    generalize upd H4 p (.ins CM dx (putF "answers" (.ref aa) [("letters", .ref m), ("rows", .ref ra)])) = H5 at p5 k5 ⊢
    have p4 := s4 _ _ p3
    have hL5 := (hL3.same s4).but k5 p4
    have hra5 := (hra3.same s4).but k5 p4
    have haa5 := seqT_but haa k5 p4
    have kk5 : ∀ b' o, b' ≠ p → H b' = some o → H5 b' = some o := fun b' o hb e => k5 _ _ hb (s4 _ _ (kk3 _ _ hb e))
    -- the two states
    try dsimp only
    refine ⟨_, rfl, _, rfl, by show 2 ≤ sizeLine; omega, fun tt htt => ?_⟩
    have ft : upd H5 tt (.tup [vN nw, vN fo]) tt = some (.tup [vN nw, vN fo]) := upd_same
    have st := Ask.Same.made1 (o := .tup [vN nw, vN fo]) (Same.refl H5) htt
    generalize upd H5 tt (.tup [vN nw, vN fo]) = H6 at ft st ⊢
    have hS6 : SqT K H6 tt [vN nw, vN fo] := SqT.of ft
    refine ⟨tt, _, rfl, .inr ⟨hS6, ?_⟩⟩
    have p6 := st _ _ p5
    have hra6 := hra5.same st
    refine for_it (walk_enumT (xs := [vN nw, vN fo])) (fun i σ' H' => ∃ o6 o7 : Option V, σ' = [some (.ref p), some (.ref m), some (.ref a), some (.ref b), some (vN nw), some (vN fo), o6, o7] ∧ Same H6 H') ⟨none, none, rfl, Same.refl H6⟩ (fun i σ' H' _ ⟨_, _, _, e⟩ => seqT_same e hS6) ?_ ?_
    · rintro i x σ' H7 H8 hi ⟨o6, o7, rfl, s7⟩ ⟨t2, x0, y0, rfl, ht, rfl, ex, ey⟩
      cases ex
      replace ey : ([vN nw, vN fo] : List V)[i]? = some y0 := ey
      obtain ⟨n, rfl, hn⟩ : ∃ n : Nat, y0 = vN n ∧ n < rs.length := by
        match i, ey with
        | 0, ey => cases ey; exact ⟨nw, rfl, ok.nw⟩
        | 1, ey => cases ey; exact ⟨fo, rfl, ok.fo⟩
        | i + 2, ey => simp at ey
      have s8 := Ask.Same.made1 (o := .tup [.int (i : Nat), vN n]) s7 ht
      have ht8 : upd H7 t2 (.tup [.int (i : Nat), vN n]) t2 = some (.tup [.int (i : Nat), vN n]) := upd_same
      refine ⟨t2, _, rfl, SqT.of ht8, rfl, _, _, rfl, _, _, rfl, rfl, ?_⟩
      obtain ⟨vs, v1, v2, _⟩ := hra6.same s8
      refine ⟨_, rfl, _, rfl, p, CM, dx, _, _, rfl, s8 _ _ p6, hM.c, hM.a2, rfl, ra, vs, rfl, .inr v1, n, _, rfl, _, rfl, ?_⟩
      rw [decide_eq_true (show (n : Int) < (vs.length : Nat) by omega)]
      exact iteF ⟨_, _, rfl, s8⟩
    · rintro σ' H7 ⟨o6, o7, rfl, s7⟩
      have s67 := st.trans s7
      have p7 := s7 _ _ p6
      try dsimp only
      refine ⟨_, rfl, _, rfl, p, CM, dx, _, rfl, p7, hM.c, hM.a4, (by show 3 < 1000; decide), ?_⟩
      have p8 : upd H7 p (.ins CM dx (putF "new" (vN nw) [("letters", .ref m), ("rows", .ref ra), ("answers", .ref aa)])) p = some (.ins CM dx [("letters", .ref m), ("rows", .ref ra), ("answers", .ref aa), ("new", vN nw)]) := upd_same
      refine ⟨_, rfl, _, rfl, p, CM, dx, _, rfl, p8, hM.c, hM.a5, (by show 4 < 1000; decide), ?_⟩
      have k9 : ∀ b' o, b' ≠ p → H7 b' = some o → upd (upd H7 p (.ins CM dx (putF "new" (vN nw) [("letters", .ref m), ("rows", .ref ra), ("answers", .ref aa)]))) p (.ins CM dx (putF "found" (vN fo) [("letters", .ref m), ("rows", .ref ra), ("answers", .ref aa), ("new", vN nw)])) b' = some o := fun b' o hb e => by rw [upd_ne hb, upd_ne hb]; exact e
      refine kq _ (fun b' o hb e => k9 _ _ hb (s67 _ _ (kk5 _ _ hb e))) ⟨dx, m, t, ra, aa, upd_same, (hL5.same s67).but k9 p7, (hra5.same s67).but k9 p7, seqT_but (seqT_same s67 haa5) k9 p7⟩
end
end Ask

/-! str(o), o an instance with its own __str__ -/
namespace Ask
open PySem L2 PySem.Spec PyProof.Rows
open Builtin Builtin.Str
theorem strOf_own {prog : Program} {w : World} {K : PySem.W.Frag} {A : Around} {E : Value → Shared → Prop} {s : Shared} {x C f : Addr} {ox : Obj} {od : Option Obj} {Q : Value → Shared → Prop} (hu : A.units < cLine) (X : K.In s.heap) (I : PySem.W.InstAt s.heap x ox C od)
    (hs : PySem.W.findIn K (.ref C) "__str__" = some (some (.ref f))) (hf : PySem.W.isFn K (.ref f) = true)
    (h : wpAny (model prog w) A (call (.ref f) [.ref x]) (fun v s' => ∃ y t, v = .str y t ∧ Q v s') E s) : wpAny (model prog w) A (Builtin.Str.strOf (.ref x)) Q E s := by
  unfold Builtin.Str.strOf
  rw [show isExactStr (Value.ref x) = false from rfl]
  refine wpAny_bind (m := cRoomFor _ _) (wpAny_cRoomFor hu ?_)
  refine wpAny_bind (m := callSpecial? (.ref x) (Str.ofString "__str__")) (PySem.W.special_fn X I hs (beq_iff_eq.mp hf) (wpAny_mono h (fun r s' hr => ?_) fun _ _ z => z))
  obtain ⟨y, t, rfl, q⟩ := hr
  exact wpAny_pure q
theorem meetsIn_str_new {prog : Program} {w : World} {v : Value} {S : PySem.Spec} (hs : ∀ (A : Around) (R : Result → Shared → Prop) (s : Shared), S A R s →
      wpAny (model prog w) A.in1 (Builtin.Str.strOf v) (fun r s' => R (.ok (.ret r)) s') (fun e s' => R (.error e) s') s) : MeetsIn prog w (Builtin.«str.__new__» ⟨[.type "str", v], []⟩) S := by
  refine MeetsIn.of_wp fun A R s h => ?_
  rw [str_new_tree v]
  refine wpAny_bind (wpAny_pure ?_)
  refine wpAny_bind (wpAny_of_eq isSubtype_str_str ?_)
  exact wpAny_bind (wpAny_mono (hs A R s h) (fun r s' h' => wpAny_pure ⟨_, rfl, h'⟩) fun _ _ e => e)
section
variable {X : Cx} {CX : CXT} {k : Nat} {C f : Addr} {fd : FuncData} {ps : List Str} {sp : Sp} {E : XK}
theorem call_strI (F : FnOk X.prog X.w X.K X.mg X.base CX k f fd ps sp) (hr : Room (k + 2) X.A) (hb : Binds X.K fd ps []) (hx : Passes CX X E) (hs : PySem.W.findIn X.K (.ref C) "__str__" = some (some (.ref f))) (hf : PySem.W.isFn X.K (.ref f) = true) :
    CallR X (.type "str") (fun xs H Q => ∃ (a dx : Addr) (fs : List (Str × V)), xs = [.ref a] ∧ H a = some (.ins C dx fs) ∧ sp [.ref a] H (fun v H' => ∃ z : Str, v = .str z ∧ Q (.str z) H') E) := by
  intro pins s σ H xs us Q I r h
  obtain ⟨a, dx, fs, rfl, ha, q⟩ := h
  obtain ⟨u, rfl, ra⟩ := vals1 r
  obtain rfl : u = Value.ref a := ra
  obtain ⟨mA, J, _⟩ := ins_get I.hok ha
  obtain ⟨od, J, _⟩ := J.look
  have hu := hr.in1.in1.un
  refine PySem.callType_newIn PySem.F.called_str (by decide) (PySem.F.typeCall_str_1 _) (PySem.F.newCall_str_1 _) (fun obj => PySem.F.args_object_init_2 obj _) PySem.F.entry_str_new
    (meetsIn_str_new (prog := X.prog) (w := X.w) (v := .ref a) (S := fun A' R s' => A'.in1.units < cLine ∧ (∃ ox, X.K.In s'.heap ∧ PySem.W.InstAt s'.heap a ox C od) ∧ wpAny (model X.prog X.w) A'.in1 (call (.ref f) [.ref a]) (fun v s2 => ∃ y t, v = .str y t ∧ R (.ok (.ret v)) s2) (fun e s2 => R (.error e) s2) s')
      fun A' R s' hq => by
        obtain ⟨h1, ⟨ox, h2, h3⟩, h4⟩ := hq
        exact strOf_own h1 h2 h3 hs hf h4) ?_
  refine ⟨by omega, ⟨_, I.kIn, J⟩, thn (run_at (vs := [.ref a]) F hr.in1.in1 rfl hb hx I (.cons rfl .nil) q) fun r s' ⟨z, H', I', rz, y, ez, q'⟩ => ?_⟩
  subst ez
  obtain ⟨t, rfl⟩ := rz
  exact ⟨y, t, rfl, typeIs_str _ _ _, ⟨.str y, H', I', ⟨_, rfl⟩, q'⟩⟩
end
end Ask

/-! cls(e, ..), the class in a variable -/
namespace Ask
open PySem L2 PySem.Spec PyProof.Rows
def tMakeL (i : Nat) (C : Addr) (sp : Sp) (dvs : List V) (E : XK) (t : TA) : TE := fun σ H Q => σ[i]? = some (some (.ref C)) ∧ tMake C sp dvs E t σ H Q
theorem pe_makeL {X : Cx} {CX : CXT} {k i : Nat} {f C : Addr} {fd : FuncData} {ps : List Str} {sp : Sp} {dvs : List V} {ds : List Value} {E : XK} {x : Str} {p pos : Pos} {e : Expr} {es : List Expr} {t : TA}
    (M : Mk X.K C f) (F : FnOk X.prog X.w X.K X.mg X.base CX k f fd ps sp) (hr : Room (k + 1) X.A) (hN : X.N[i]? = some x) (hv : Vis X.env.scope x) (hb : Binds X.K fd ps ds) (hd : Vals dvs ds) (hx : Passes CX X E)
    (ha : PA X (e :: es) t) (hdb : (x == ("__debug__" : Str)) = false := by decide) (hcd : (x == ("__classdict__" : Str)) = false := by decide) (he : starEach (e :: es) X.env = (false, eval e X.env) :: starEach es X.env := by rfl) (hpl : (backTo pos (starEach es X.env)).any (·.1) = false := by rfl) :
    PE X (.Call (.Name x p) (e :: es) [] pos) (tMakeL i C sp dvs E t) := by
  refine ⟨fun pins s σ H Q I h => ?_⟩
  obtain ⟨hs, ht⟩ := h
  refine wpAny_Call_Name_kw (thn ((pe_var (pos := p) hN hv hdb hcd).run pins s σ H (fun v H1 => v = .ref C ∧ H1 = H) I ⟨.ref C, hs, rfl, rfl⟩) fun u s1 ⟨v, H1, I1, r1, q1⟩ => ?_)
  obtain ⟨rfl, rfl⟩ := q1
  cases r1
  refine PySem.W.callWith_K (h₀ := X.base) I.ok.mod.kin M.kp (thn (ha.run pos pins s1 σ _ _ I1 ht) fun us s2 ⟨vs, H2, I2, r, q⟩ => ⟨I2.kIn, ?_⟩) he hpl
  exact run_make M F hr hb hd hx I2 r q
end Ask

namespace Ask
open PySem L2
def onesR (ws : List Str) : List Run := ws.map fun z => (z, 1)
section
variable {P : Program} {w : World} {K : PySem.W.Frag} {mg : Str → Option Value} {base : Heap}
/-! ### History.spelled -/
def spSpelled (K : PySem.W.Frag) (CL CH : Addr) : Sp := fun vs H Q _ => ∃ (m t a : Addr) (b : Str) (ys ws : List Str), vs = [.ref CH, .ref m, .str b, .ref a] ∧ Mde CL H m t ys ∧ (b = "new" ∨ b = "found") ∧ SqL K H a (ws.map V.str) ∧ (∀ z ∈ ws, z ∈ ys) ∧ ws.length ≤ 100 ∧
  ∀ (H' : Hp) (x : Addr), Same H H' → HistAt K CL CH H' x ys b (joinR (onesR ws)) → Q (.ref x) H'
abbrev s_Spelled : Stmt := inClass (top 48) 1
theorem sc_Spelled : FnScope ["cls", "letters", "beginning", "word", "letter"] ["cls", "letters", "beginning", "word"] (defScope s_Spelled) := ⟨rfl, rfl, rfl, by decide +kernel, rfl, by decide +kernel, by decide +kernel⟩
theorem ok_spelled {f fY CL CH : Addr} {fd fdY : FuncData} (F : Fun K "spelled" "History.spelled" s_Spelled f fd)
    (MY : Mk K CH fY) (bY : Binds K fdY ["self", "letters", "beginning", "runs"] []) (GY : FnOk P w K mg base CX0 5 fY fdY ["self", "letters", "beginning", "runs"] (spHist K CL CH)) :
    FnOk P w K mg base CX0 7 f fd ["cls", "letters", "beginning", "word"] (spSpelled K CL CH) := by
  refine F.ok sc_Spelled (fun vs H Q E h => ?_) (fun cdv A outer s H vs Q E hr h => ?_)
  · obtain ⟨m, t, a, b, ys, ws, rfl, _⟩ := h
    rfl
  · obtain ⟨m, t, a, b, ys, ws, rfl, hM, hb, hS, hw, hn, k⟩ := h
    refine ⟨_, (pss_one (ps_ret (pe_makeL (i := 0) MY GY hr rfl (Or.inl rfl) bY .nil pass0 (pa_cons (pv 1) (pa_cons (pv 2) (pa_cons (pe_lc (own := [("letter", 4)]) rfl sc_Spelled.nd (pi_list (pv 3)) (blkOk_by (N := ["cls", "letters", "beginning", "word", "letter"]) (sc := defScope s_Spelled) (by decide +kernel)) (fun _ _ _ _ _ => (pg_name (i := 4) sc_Spelled.nd rfl (Or.inl rfl))) (fun _ _ _ _ _ => pts_nil) (fun _ _ _ _ _ => (pe_tup (pa_cons (pv 4) (pa_cons pe_int pa_nil))))) pa_nil)))))), ?_⟩
    have z1 : (1000 : Nat) ≤ sizeLine := by decide
    refine ⟨rfl, _, rfl, _, rfl, _, rfl, a, rfl, ⟨_, hS⟩, fun L hL => ?_⟩
    refine lc_it (walk_list (xs := ws.map V.str)) (fun i H' => Same H H' ∧ ∃ ks, H' L = some (.lst ks) ∧ PairsV H' ks (onesR (ws.take i))) ⟨Ask.Same.upd_new (Same.refl _) hL, [], upd_same, PairsV.nil⟩ (fun i H' _ hh => (hh.1).seq hS) ?_ ?_
    · rintro i v H2 H3 hi ⟨s2, ks, hL2, hk⟩ ⟨rfl, hv⟩
      rw [List.getElem?_map] at hv
      cases hz : ws[i]? with
      | none => rw [hz] at hv; cases hv
      | some z =>
        rw [hz] at hv
        cases hv
        have ek := hk.1
        have el : (onesR (ws.take i)).length ≤ 100 := by unfold onesR; rw [List.length_map, List.length_take]; omega
        refine ⟨rfl, _, rfl, by show 2 ≤ sizeLine; decide, fun u hu => ?_⟩
        have hL3 : upd H3 u (.tup [.str z, .int 1]) L = some (.lst ks) := by rw [upd_ne (ne_of_none hL2 hu)]; exact hL2
        have s3 := Ask.Same.made1 (o := .tup [.str z, .int 1]) s2 hu
        have k3 := hk.same (Ask.Same.made1 (o := .tup [.str z, .int 1]) (Same.refl H3) hu)
        refine ⟨ks, hL3, by omega, Ask.Same.upd_new s3 hL, _, upd_same, ?_⟩
        have e : onesR (ws.take (i + 1)) = onesR (ws.take i) ++ [(z, 1)] := by
          unfold onesR
          rw [List.take_add_one, hz, List.map_append]
          rfl
        rw [e]
        exact (k3.app (b := u) (r := (z, 1)) upd_same).mut hL3
    · rintro H2 ⟨s2, ks, hL2, hk⟩
      rw [List.length_map, List.take_length] at hk
      have el : (onesR ws).length ≤ 100 := by unfold onesR; rw [List.length_map]; exact hn
      refine fun x dx hx hdx hne => hist_made (rs := onesR ws) (hM.same s2) hb (.inl (SqL.of hL2)) hk.runs (by omega) (fun r hr => ?_) (by have := joinR_len (onesR ws); omega) hx hdx hne fun H3 s3 hH => ⟨rfl, k H3 x (s2.trans s3) hH⟩
      obtain ⟨z, hz, rfl⟩ := List.mem_map.mp hr
      exact ⟨hw z hz, by show (1 : Int) ≤ 1; decide, by show (1 : Int) ≤ 1000000000000000000000000000000; decide⟩
end
end Ask

namespace Ask
open PySem L2 ClX
/-- letters by their places -/
def wdAt (ys : List Str) (ks : List Nat) : List Str := ks.map fun k => (ys[k]?).getD Str.empty
theorem wdAt_mem {ys : List Str} {ks : List Nat} (h : ∀ k ∈ ks, k < ys.length) : ∀ z ∈ wdAt ys ks, z ∈ ys := fun z hz => by
  obtain ⟨k, hk, rfl⟩ := List.mem_map.mp hz
  rw [List.getElem?_eq_getElem (h k hk)]
  exact List.getElem_mem _
section
variable {P : Program} {w : World} {K : PySem.W.Frag} {mg : Str → Option Value} {base : Heap}
def spHistOf (K : PySem.W.Frag) (CL CH CM : Addr) : Sp := fun vs H Q _ => ∃ (p wy wd : Addr) (ys : List Str) (rs : List (List Nat)) (ans : List Str) (nw fo : Nat) (b : Str) (ks : List Nat), vs = [.ref p, .ref wy] ∧ MacAt K CL CM H p ys rs ans nw fo ∧ H wy = some (.tup [.str b, .ref wd]) ∧ SqT K H wd (ks.map vN) ∧ (b = "new" ∨ b = "found") ∧ (∀ k ∈ ks, k < ys.length) ∧ ks.length ≤ 100 ∧
  ∀ (H' : Hp) (x : Addr), Same H H' → HistAt K CL CH H' x ys b (joinR (onesR (wdAt ys ks))) → Q (.ref x) H'
abbrev s_Machine_history_of : Stmt := inClass (top 69) 7
theorem sc_Machine_history_of : FnScope ["self", "way", "beginning", "word", "rank"] ["self", "way"] (defScope s_Machine_history_of) := ⟨rfl, rfl, rfl, by decide +kernel, rfl, by decide +kernel, by decide +kernel⟩
theorem ok_histOf {f fP fPl CL CH CM : Addr} {mc : Value} {fd fdP : FuncData} (F : Fun K "history_of" "Machine.history_of" s_Machine_history_of f fd) (hM : MacC K CM) (hL0 : Cls K CL) (nW : NoAttr K CL "words")
    (GP : FnOk P w K mg base CX0 7 fP fdP ["cls", "letters", "beginning", "word"] (spSpelled K CL CH)) (bP : Binds K fdP ["cls", "letters", "beginning", "word"] []) (rP : CRead K CH mc) (cP : CMet K CH mc "spelled" fPl fP) (mH : mg "History" = some (.ref CH)) :
    FnOk P w K mg base CX0 8 f fd ["self", "way"] (spHistOf K CL CH CM) := by
  refine F.ok sc_Machine_history_of (fun vs H Q E h => ?_) (fun cdv A outer s H vs Q E hr h => ?_)
  · obtain ⟨p, wy, wd, ys, rs, ans, nw, fo, b, ks, rfl, _⟩ := h
    rfl
  · obtain ⟨p, wy, wd, ys, rs, ans, nw, fo, b, ks, rfl, hMac, hw, hk, hb, klt, kl, kq⟩ := h
    refine ⟨_, (pss_cons (ps_asg (pv 1) (pg_tup rfl (pgs_cons (pg_name (i := 2) sc_Machine_history_of.nd rfl (Or.inl rfl)) (pgs_cons (pg_name (i := 3) sc_Machine_history_of.nd rfl (Or.inl rfl)) pgs_nil))))
      (pss_one (ps_ret (pe_cmeth (pe_gv (v := .ref CH) rfl ⟨_, mH, rfl⟩) rP cP (FnOk.raw GP bP .nil) hr pass0 (pa_cons (pe_fld (pv 0) rfl) (pa_cons (pv 2) (pa_cons (pe_lc (own := [("rank", 4)]) rfl sc_Machine_history_of.nd (pi_tup (pv 3)) (blkOk_by (N := ["self", "way", "beginning", "word", "rank"]) (sc := defScope s_Machine_history_of) (by decide +kernel)) (fun _ _ _ _ _ => (pg_name (i := 4) sc_Machine_history_of.nd rfl (Or.inl rfl))) (fun _ _ _ _ _ => pts_nil) (fun _ _ _ _ _ => (pe_ix (show IxR _ (rIx K) from ix_seq) (show PE _ _ (tFld K _ "words") from pe_fld (show PE _ _ (tFld K _ "letters") from pe_fld (pv 0) rfl) rfl) (pv 4) (fun _ _ => rfl)))) pa_nil))))))), ?_⟩
    have z1 : (100000 : Nat) ≤ sizeLine := by decide
    obtain ⟨dx, m, t, ra, aa, hp, hL, hR, hA⟩ := id hMac
    refine ⟨_, rfl, wy, _, rfl, SqT.of hw, rfl, _, _, rfl, _, _, rfl, rfl, ?_⟩
    try dsimp only
    refine ⟨rfl, _, rfl, p, CM, dx, _, _, rfl, hp, hM.c, hM.a1, rfl, _, rfl, ?_⟩
    refine ⟨_, rfl, wd, rfl, ⟨_, hk⟩, fun D hD => ?_⟩
    obtain ⟨dl, ol, hm, ht, hol⟩ := id hL
    refine lc_it (walk_tup (xs := ks.map vN)) (fun i H' => Same H H' ∧ H' D = some (.lst ((wdAt ys (ks.take i)).map V.str))) ⟨Ask.Same.upd_new (Same.refl H) hD, upd_same⟩ (fun i H' _ hh => seqT_same hh.1 hk) ?_ ?_
    · rintro i v H2 H3 hi ⟨s2, eD⟩ ⟨rfl, hv⟩
      rw [List.getElem?_map] at hv
      cases hz : ks[i]? with
      | none => rw [hz] at hv; cases hv
      | some n =>
        rw [hz] at hv
        cases hv
        have nl := klt n (List.mem_of_getElem? hz)
        have hn : ys[n]? = some ys[n] := List.getElem?_eq_getElem nl
        refine ⟨rfl, _, rfl, p, CM, dx, _, _, rfl, s2 _ _ hp, hM.c, hM.a1, rfl, m, CL, dl, _, _, rfl, s2 _ _ hm, hL0, nW, rfl, _, rfl, .inr (.inl ⟨t, _, _, .str ys[n], rfl, rfl, .inl (.inr ⟨ol, s2 _ _ ht⟩), at_by (j := n) rfl (by rw [List.getElem?_map, hn]; rfl), ?_⟩)⟩
        have tl : (wdAt ys (ks.take i)).length ≤ 100 := by unfold wdAt; rw [List.length_map, List.length_take]; omega
        refine ⟨_, eD, by rw [List.length_map]; omega, Ask.Same.upd_new s2 hD, ?_⟩
        have e : wdAt ys (ks.take (i + 1)) = wdAt ys (ks.take i) ++ [ys[n]] := by
          unfold wdAt
          rw [List.take_add_one, hz, List.map_append]
          show _ ++ [(ys[n]?).getD Str.empty] = _
          rw [hn]
          rfl
        rw [upd_same, e, List.map_append]
        rfl
    · rintro H2 ⟨s2, eD⟩
      rw [List.length_map, List.take_length] at eD
      exact ⟨m, t, D, b, ys, wdAt ys ks, rfl, hL.same s2, hb, SqL.of eD, wdAt_mem klt, by unfold wdAt; rw [List.length_map]; omega, fun H' x s' hx => kq H' x (s2.trans s') hx⟩
end
end Ask

namespace Ask
open PySem L2
/-- the pairs behind a pair of states, letter by letter -/
def nxP (rs ss : List (List Nat)) (m : Nat) (p : Pr) : List Pr := (List.range m).map fun j => (mvN rs j p.1, mvN ss j p.2)
theorem nxP_at {rs ss : List (List Nat)} {m : Nat} {p : Pr} {j : Nat} {t : Pr} : (nxP rs ss m p)[j]? = some t ↔ j < m ∧ t = (mvN rs j p.1, mvN ss j p.2) := by
  unfold nxP
  rw [List.getElem?_map]
  by_cases h : j < m
  · rw [List.getElem?_range h]
    simp [h, eq_comm]
  · rw [List.getElem?_eq_none (by simpa using h)]
    simp [h]
theorem nxP_len {rs ss : List (List Nat)} {m : Nat} {p : Pr} : (nxP rs ss m p).length = m := by unfold nxP; rw [List.length_map, List.length_range]
def sw (e : Ent) : Ent := ((e.1.2, e.1.1), e.2)
theorem addE_sw (es : List Ent) (p : Pr) (w : Nat × List Nat) : addE (es.map sw) (p.2, p.1) w = (addE es p w).map sw := by
  unfold addE
  have q : ((p.2, p.1) ∈ (es.map sw).map (·.1)) ↔ p ∈ es.map (·.1) := by
    constructor
    · intro h
      obtain ⟨e, he, e1⟩ := List.mem_map.mp h
      obtain ⟨e', he', rfl⟩ := List.mem_map.mp he
      refine List.mem_map.mpr ⟨e', he', ?_⟩
      have a := congrArg Prod.fst e1
      have b := congrArg Prod.snd e1
      exact Prod.ext b a
    · intro h
      obtain ⟨e, he, rfl⟩ := List.mem_map.mp h
      exact List.mem_map.mpr ⟨sw e, List.mem_map.mpr ⟨e, he, rfl⟩, rfl⟩
  by_cases h : p ∈ es.map (·.1)
  · rw [if_pos h, if_pos (q.mpr h)]
  · rw [if_neg h, if_neg (fun z => h (q.mp z)), List.map_append]
    rfl
theorem expJ_sw {rs ss : List (List Nat)} {m : Nat} {p : Pr} {k : Nat} {wd : List Nat} : ∀ (j : Nat) (es : List Ent), expJ (nxP ss rs m (p.2, p.1)) k wd j (es.map sw) = (expJ (nxP rs ss m p) k wd j es).map sw
  | 0, es => rfl
  | j + 1, es => by
    have ih := expJ_sw (rs := rs) (ss := ss) (m := m) (p := p) (k := k) (wd := wd) j es
    unfold expJ
    by_cases h : j < m
    · rw [nxP_at.mpr ⟨h, rfl⟩, nxP_at.mpr ⟨h, rfl⟩, ih]
      exact addE_sw _ (mvN rs j p.1, mvN ss j p.2) _
    · rw [List.getElem?_eq_none (by rw [nxP_len]; omega), List.getElem?_eq_none (by rw [nxP_len]; omega)]
      exact ih
theorem bfs_sw {rs ss : List (List Nat)} {m : Nat} {e0 : List Ent} : ∀ n, bfs (nxP ss rs m) (e0.map sw) n = (bfs (nxP rs ss m) e0 n).map sw
  | 0 => rfl
  | n + 1 => by
    have ih := bfs_sw (rs := rs) (ss := ss) (m := m) (e0 := e0) n
    rw [bfs, bfs, ih, List.getElem?_map]
    cases (bfs (nxP rs ss m) e0 n)[n]? with
    | none => rfl
    | some e =>
      show expJ (nxP ss rs m (e.1.2, e.1.1)) e.2.1 e.2.2 (nxP ss rs m (e.1.2, e.1.1)).length _ = _
      rw [nxP_len, expJ_sw]
      show _ = List.map sw (expJ (nxP rs ss m e.1) e.2.1 e.2.2 (nxP rs ss m e.1).length (bfs (nxP rs ss m) e0 n))
      rw [nxP_len]
theorem beg0_sw (a b : Pr) : beg0 (a.2, a.1) (b.2, b.1) = (beg0 a b).map sw := addE_sw [(a, (0, []))] b (1, [])
theorem head_sw {es : List Ent} {d d' : Pr → Bool} (h : ∀ e ∈ es, d' (e.1.2, e.1.1) = d e.1) : (((es.map sw).filter fun e => d' e.1).map (·.2)) = ((es.filter fun e => d e.1).map (·.2)) := by
  induction es with
  | nil => rfl
  | cons e es ih =>
    have h1 := h e (List.mem_cons_self ..)
    have ih' := ih fun x hx => h x (List.mem_cons_of_mem _ hx)
    rw [List.map_cons, List.filter_cons, List.filter_cons]
    rw [show d' (sw e).1 = d e.1 from h1]
    split
    · rw [List.map_cons, List.map_cons, ih']
      rfl
    · exact ih'
theorem bfs_wl {nx : Pr → List Pr} {a b : Pr} : ∀ n, ∀ e ∈ bfs nx (beg0 a b) n, e.2.2.length ≤ n
  | 0 => beg0_all (P := fun e => e.2.2.length ≤ 0) (Nat.le_refl _) (Nat.le_refl _)
  | n + 1 => by
    have ih := bfs_wl (nx := nx) (a := a) (b := b) n
    have ih' : ∀ e ∈ bfs nx (beg0 a b) n, e.2.2.length ≤ n + 1 := fun e he => Nat.le_succ_of_le (ih e he)
    rw [bfs]
    split
    · rename_i e he
      refine expJ_all (P := fun e => e.2.2.length ≤ n + 1) (fun j t ht => ?_) _ _ ih'
      have := ih e (List.mem_of_getElem? he)
      show (e.2.2 ++ [j]).length ≤ n + 1
      rw [List.length_append]
      exact Nat.succ_le_succ this
    · exact ih'
/-! ### the states behind words -/
def walkN (rs : List (List Nat)) (s : Nat) (wd : List Nat) : Nat := wd.foldl (fun s k => mvN rs k s) s
/-- what is known of an entry -/
structure EntOk (rs ss : List (List Nat)) (m n1 f1 n2 f2 : Nat) (e : Ent) : Prop where
  k : e.2.1 = 0 ∨ e.2.1 = 1
  wd : ∀ k ∈ e.2.2, k < m
  a : e.1.1 = walkN rs (if e.2.1 = 0 then n1 else f1) e.2.2
  b : e.1.2 = walkN ss (if e.2.1 = 0 then n2 else f2) e.2.2
  la : e.1.1 < rs.length
  lb : e.1.2 < ss.length
theorem ents_ok {rs ss : List (List Nat)} {m n1 f1 n2 f2 : Nat} (hr : RowsOk rs m) (hs : RowsOk ss m) (h1 : n1 < rs.length) (h2 : f1 < rs.length) (h3 : n2 < ss.length) (h4 : f2 < ss.length) (n : Nat) : ∀ e ∈ bfs (nxP rs ss m) (beg0 (n1, n2) (f1, f2)) n, EntOk rs ss m n1 f1 n2 f2 e := by
  refine bfs_all (beg0_all ⟨.inl rfl, (fun _ h => nomatch h), rfl, rfl, h1, h3⟩ ⟨.inr rfl, (fun _ h => nomatch h), rfl, rfl, h2, h4⟩) (fun p k wd h j t ht => ?_) n
  obtain ⟨jm, rfl⟩ := nxP_at.mp ht
  refine ⟨h.k, fun x hx => ?_, ?_, ?_, ?_, ?_⟩
  · rcases List.mem_append.mp hx with hx | hx
    · exact h.wd x hx
    · rw [List.mem_singleton.mp hx]
      exact jm
  · show mvN rs j p.1 = walkN rs _ (wd ++ [j])
    unfold walkN
    rw [List.foldl_append, h.a]
    rfl
  · show mvN ss j p.2 = walkN ss _ (wd ++ [j])
    unfold walkN
    rw [List.foldl_append, h.b]
    rfl
  · exact (mvN_at hr jm h.la).choose_spec.2.2
  · exact (mvN_at hs jm h.lb).choose_spec.2.2
/-- runs joined lead where the runs lead -/
theorem aftN_join {rs : List (List Nat)} {ys : List Str} {s : Nat} {runs : List Run} (h : ∀ r ∈ runs, 0 ≤ r.2) : aftN rs ys s (joinR runs) = aftN rs ys s runs := by
  have key : ∀ (l : List Run) (st : List Run × Option Run) (s0 : Nat), (∀ r ∈ l, 0 ≤ r.2) → (∀ r, st.2 = some r → 0 ≤ r.2) → aftN rs ys s0 (let z := l.foldl jstep st; z.1 ++ z.2.toList) = aftN rs ys s0 (st.1 ++ st.2.toList ++ l) := by
    intro l
    induction l with
    | nil => intro st s0 _ _; rw [List.append_nil]; rfl
    | cons r l ih =>
      intro st s0 hl hst
      have hr := hl r (List.mem_cons_self ..)
      have hl' : ∀ x ∈ l, 0 ≤ x.2 := fun x hx => hl x (List.mem_cons_of_mem _ hx)
      obtain ⟨st1, st2⟩ := st
      cases st2 with
      | none =>
        have e := ih (st1, some r) s0 hl' (fun x hx => by cases hx; exact hr)
        show aftN rs ys s0 (let z := l.foldl jstep (st1, some r); z.1 ++ z.2.toList) = _
        rw [e]
        show aftN rs ys s0 (st1 ++ [r] ++ l) = aftN rs ys s0 (st1 ++ [] ++ r :: l)
        rw [List.append_nil, List.append_assoc]
        rfl
      | some q =>
        have hq := hst q rfl
        by_cases c : q.1 = r.1
        · have e := ih (st1, some (q.1, q.2 + r.2)) s0 hl' (fun x hx => by cases hx; show (0 : Int) ≤ q.2 + r.2; omega)
          rw [List.foldl_cons, jstep_eq c, e]
          show aftN rs ys s0 (st1 ++ [(q.1, q.2 + r.2)] ++ l) = aftN rs ys s0 (st1 ++ [q] ++ r :: l)
          unfold aftN
          simp only [List.foldl_append, List.foldl_cons, List.foldl_nil]
          have e2 : (q.2 + r.2).toNat = q.2.toNat + r.2.toNat := Int.toNat_add hq hr
          rw [e2, itN_add, c]
        · have e := ih (st1 ++ [q], some r) s0 hl' (fun x hx => by cases hx; exact hr)
          rw [List.foldl_cons, jstep_ne c, e]
          show aftN rs ys s0 (st1 ++ [q] ++ [r] ++ l) = aftN rs ys s0 (st1 ++ [q] ++ r :: l)
          rw [List.append_assoc (st1 ++ [q])]
          rfl
  have q := key runs ([], none) s h (fun r hr => by cases hr)
  exact q
theorem ixOf_nd {ys : List Str} (nd : ys.Nodup) {k : Nat} {y : Str} (h : ys[k]? = some y) : ixOf ys y = k := by
  obtain ⟨a, b⟩ := ixOf_at (List.mem_of_getElem? h)
  have la := (List.getElem?_eq_some_iff.mp a).1
  have lk := (List.getElem?_eq_some_iff.mp h).1
  exact (List.getElem?_inj la nd).mp (by rw [a, h])
theorem aft_word {rs : List (List Nat)} {ys : List Str} (nd : ys.Nodup) {wd : List Nat} (h : ∀ k ∈ wd, k < ys.length) (s : Nat) : aftN rs ys s (joinR (onesR (wdAt ys wd))) = walkN rs s wd := by
  rw [aftN_join (fun r hr => by obtain ⟨z, _, rfl⟩ := List.mem_map.mp hr; show (0 : Int) ≤ 1; decide)]
  induction wd generalizing s with
  | nil => rfl
  | cons k wd ih =>
    have hk := h k (List.mem_cons_self ..)
    have e : ys[k]? = some ys[k] := List.getElem?_eq_getElem hk
    have e1 : aftN rs ys s (onesR (wdAt ys (k :: wd))) = aftN rs ys (mvN rs k s) (onesR (wdAt ys wd)) := by
      show aftN rs ys s (((ys[k]?).getD Str.empty, 1) :: onesR (wdAt ys wd)) = _
      rw [e]
      show aftN rs ys (itN (mvN rs (ixOf ys ys[k])) (1 : Int).toNat s) _ = _
      rw [ixOf_nd nd e]
      rfl
    rw [e1, ih (fun x hx => h x (List.mem_cons_of_mem _ hx))]
    rfl
end Ask

/-! lambdas as values: made, handed on, called by whoever has them -/
namespace Ask
open PySem L2 PySem.Spec PyProof.Rows LamX NdefX
/-- a lambda's words, the cells it captured, its defaults (none, or a tuple's address and its items), its code object -/
structure LF where
  qual : Str
  params : Arguments
  body : Expr
  scope : Scope
  cl : List (Str × Addr)
  dV : Option (Addr × List V)
  c : Addr
def LF.dv (F : LF) : Value := match F.dV with
  | none => .none
  | some p => .ref p.1
abbrev LF.fd (F : LF) (doc pm ctv : Value) : FuncData := PySem.W.kdv_fn "<lambda>" F.qual F.params (.expr F.body) F.scope F.cl F.dv doc pm (.ref F.c) ctv
abbrev LF.nf (F : LF) : NF := ⟨"<lambda>", F.qual, F.params, [], F.scope, F.cl, F.c⟩
def LamO (f : Addr) (F : LF) : HO := .ext fun h => ∃ (od : Option Addr) (sl : Array (Option Value)) (doc pm ctv : Value), h.get? f = some (⟨.type "function", od, .func (F.fd doc pm ctv), sl⟩ : Obj)
theorem lamO_at {P : Program} {w : World} {H : Hp} {h : Heap} {f : Addr} {F : LF} (hok : HOk P w H h) (e : H f = some (LamO f F)) : ∃ (od : Option Addr) (sl : Array (Option Value)) (doc pm ctv : Value), h.get? f = some (⟨.type "function", od, .func (F.fd doc pm ctv), sl⟩ : Obj) := by
  obtain ⟨z, _, _⟩ := hok f _ e
  exact z
/-- the lambda F stands at f, with its code object and its defaults -/
structure LamIn (H : Hp) (f : Addr) (F : LF) : Prop where
  fn : H f = some (LamO f F)
  co : H F.c = some (CodeO F.c F.qual)
  df : ∀ p, F.dV = some p → H p.1 = some (.tup p.2)
theorem LamIn.keep {H H' : Hp} {f : Addr} {F : LF} (l : LamIn H f F) (k : ∀ b o, H b = some o → (∀ ps, o ≠ .tbl ps) → H' b = some o) : LamIn H' f F :=
  ⟨k _ _ l.fn (fun ps z => by unfold LamO at z; cases z), k _ _ l.co (fun ps z => by unfold CodeO at z; cases z), fun p e => k _ _ (l.df p e) fun ps z => by cases z⟩
theorem LamIn.same {H H' : Hp} {f : Addr} {F : LF} (l : LamIn H f F) (s : Same H H') : LamIn H' f F := l.keep fun b o e _ => s b o e
section
variable {X : Cx} {pins : List (Addr × Obj)} {σ : L2.St} {H : Hp} {s : Shared}
theorem inv_lam {F : LF} {o : Obj} {t' : Nat} {doc pm ctv : Value} (I : Inv X pins σ H s) (ho : o = { cls := .type "function", data := .func (F.fd doc pm ctv) }) :
    Inv X pins σ (upd H s.heap.objs.size (LamO s.heap.objs.size F)) { s with heap := s.heap.push o, toks := t' } := by
  subst ho
  refine I.laid (a := s.heap.objs.size) (fun b u e => Heap.get?_push_of_some _ e) (Nat.le_refl _) ?_
  have e : (s.heap.push ({ cls := .type "function", data := .func (F.fd doc pm ctv) } : Obj)).get? s.heap.objs.size = some ({ cls := .type "function", data := .func (F.fd doc pm ctv) } : Obj) := Heap.get?_push_size _ rfl
  exact ⟨⟨_, _, doc, pm, ctv, e⟩, ⟨_, e⟩, fun h1 h2 ⟨od, sl, d, p, t, z⟩ st => ⟨od, sl, d, p, t, st _ z⟩⟩
/-- one more code object in a table: the tables stand, nothing else is touched -/
theorem tabs_more {T : List NTab} {nm : Nat → Nat → Str} {P c' : Addr} {ps : Array Value} {pos : Pos} {q : Str} (hT : TabsN T H) (hm : (P, nm) ∈ T) (hu : ∀ p ∈ T, p.1 = P → p.2 = nm) (hP : H P = some (.tbl ps)) (hc : H c' = none) (hq : nm pos.line pos.col = q) :
    ExtN H (upd (upd H P (.tbl (ps ++ #[rawInt pos.line, rawInt pos.col, .ref c']))) c' (CodeO c' q)) ∧ TabsN T (upd (upd H P (.tbl (ps ++ #[rawInt pos.line, rawInt pos.col, .ref c']))) c' (CodeO c' q)) ∧
      ∀ b, upd (upd H P (.tbl (ps ++ #[rawInt pos.line, rawInt pos.col, .ref c']))) c' (CodeO c' q) b = none → H b = none := by
  have other : ∀ b, b ≠ P → b ≠ c' → upd (upd H P (.tbl (ps ++ #[rawInt pos.line, rawInt pos.col, .ref c']))) c' (CodeO c' q) b = H b := fun b n1 n2 => by rw [upd_ne n2, upd_ne n1]
  have ext : ExtN H (upd (upd H P (.tbl (ps ++ #[rawInt pos.line, rawInt pos.col, .ref c']))) c' (CodeO c' q)) := by
    intro b o e notT
    rw [other b ?_ (ne_of_none e hc)]
    · exact e
    · rintro rfl
      rw [hP] at e
      exact notT ps (Option.some.inj e).symm
  refine ⟨ext, ?_, fun b z => upd_none (upd_none z)⟩
  rintro ⟨P1, nm1⟩ hp
  obtain ⟨us, u1, u2, u3⟩ := hT _ hp
  by_cases same : P1 = P
  · subst same
    obtain rfl : nm1 = nm := hu _ hp rfl
    rw [hP] at u1
    cases u1
    have app : (ps ++ #[rawInt pos.line, rawInt pos.col, Value.ref c']).toList = ps.toList ++ [rawInt pos.line, rawInt pos.col, .ref c'] := by simp
    refine ⟨ps ++ #[rawInt pos.line, rawInt pos.col, .ref c'], (upd_ne (ne_of_none hP hc)).trans upd_same, ?_, fun p1 v1 among => ?_⟩
    · rw [app]
      exact PySem.TriplesOk_snoc _ _ _ _ u2
    · rw [app] at among
      rcases among_app2 _ u2 among with old | ⟨rfl, e1, e2⟩
      · obtain ⟨d, d1, d2⟩ := u3 p1 v1 old
        exact ⟨d, d1, ext _ _ d2 codeO_ne⟩
      · rw [← e1, ← e2]
        exact ⟨c', rfl, by rw [show (P1, nm1).2 pos.line pos.col = q from hq]; exact upd_same⟩
  · refine ⟨us, (other P1 same (ne_of_none u1 hc)).trans u1, u2, fun p1 v1 among => ?_⟩
    obtain ⟨d, d1, d2⟩ := u3 p1 v1 among
    exact ⟨d, d1, ext _ _ d2 codeO_ne⟩
/-- the function's object is laid behind that -/
theorem lam_push {T : List NTab} {F : LF} {H1 : Hp} {tk : Nat} {h' : Heap} {doc pm ctv : Value} {Q : Value → Shared → Prop} (I1 : Inv X pins σ H1 { s with heap := h', toks := tk }) (hF : H h'.objs.size = none) (ext : ExtN H H1) (low : ∀ b, H1 b = Option.none → H b = Option.none) (hT : TabsN T H1)
    (hco : H1 F.c = some (CodeO F.c F.qual)) (hdt : ∀ p, F.dV = some p → H p.1 = some (.tup p.2))
    (h : ∀ (f : Addr) (H2 : Hp) (s' : Shared), Inv X pins σ H2 s' → ExtN H H2 → (∀ b, H2 b = Option.none → H b = Option.none) → TabsN T H2 → H f = none → LamIn H2 f F → Q (.ref f) s') :
    Q (.ref h'.objs.size) { s with heap := h'.push { cls := .type "function", data := .func (F.fd doc pm ctv) }, toks := tk } := by
  have free : H1 h'.objs.size = none := I1.hok.fresh (Nat.le_refl _)
  have stay : ∀ {b o}, H1 b = some o → upd H1 h'.objs.size (LamO h'.objs.size F) b = some o := fun e => (upd_ne (ne_of_none e free)).trans e
  exact h _ _ _ (inv_lam (F := F) (t' := tk) I1 rfl) (fun b o e n => stay (ext b o e n)) (fun b z => low b (upd_none z)) (hT.ext fun b o e => stay e) hF ⟨upd_same, stay hco, fun p e => stay (ext _ _ (hdt p e) fun ps z => nomatch z)⟩
/-- the lambda's object is made, its defaults known -/
theorem lam_tail {T : List NTab} {nm : Nat → Nat → Str} {c P : Addr} {params : Arguments} {body : Expr} {scope : Scope} {pos : Pos} {dV : Option (Addr × List V)} {dv : Value} {E : Value → Shared → Prop} {Q : Value → Shared → Prop} (I : Inv X pins σ H s) (TB : TabB X.base X.mg c P) (hcode : X.env.code = .ref c)
    (hm : (P, nm) ∈ T) (hn : nm pos.line pos.col = X.env.qual ++ "<lambda>") (hu : ∀ p ∈ T, p.1 = P → p.2 = nm) (hT : TabsN T H) (hfree : ∀ y ∈ scope.names, y.2 = .free → ∃ c, X.env.cells.lookup y.1 = some c)
    (hdv : ∀ c', (LF.dv ⟨X.env.qual ++ "<lambda>", params, body, scope, cloFrom X.env.cells scope.names [], dV, c'⟩) = dv) (hdt : ∀ p, dV = some p → H p.1 = some (.tup p.2))
    (h : ∀ (f c' : Addr) (H1 : Hp) (s' : Shared), Inv X pins σ H1 s' → ExtN H H1 → (∀ b, H1 b = Option.none → H b = Option.none) → TabsN T H1 → H f = none → LamIn H1 f ⟨X.env.qual ++ "<lambda>", params, body, scope, cloFrom X.env.cells scope.names [], dV, c'⟩ → Q (.ref f) s') :
    wpAny (model X.prog X.w) X.A (makeTail "<lambda>" (X.env.qual ++ "<lambda>") params (.expr body) scope X.env dv .none none pos pos.line) Q E s := by
  obtain ⟨us, hP, u2, u3⟩ := hT _ hm
  cases among : codeAmong pos us.toList with
  | none =>
    refine PySem.W.kdv_makeTail (mg := X.mg) (closure_ok hfree) I.ok.glob (I.mod.glob.keeps I.bk) hcode (TB.code.keeps I.bk) (I.hok _ _ hP) u2 among TB.gP (TB.bm.keeps I.bk) fun c' ctv doc h' tk ext lo hi hrec tab => ?_
    obtain ⟨_, oc, vs, t, ⟨⟩, r1, r2, r3⟩ := hrec
    obtain ⟨e1, e2, e3⟩ := tabs_more (pos := pos) hT hm hu hP (I.hok.fresh lo) hn
    have I1 := inv_table (t' := tk) I hP ext tab lo ⟨oc, vs, t, r1, r2, r3⟩
    rw [← hdv c']
    exact lam_push (F := ⟨_, params, body, scope, _, dV, c'⟩) I1 (I.hok.fresh (Nat.le_trans lo (Nat.le_of_lt hi))) e1 e3 e2 upd_same hdt fun f H2 s' J a1 a2 a3 a4 a5 => h f c' H2 s' J a1 a2 a3 a4 a5
  | some cv =>
    obtain ⟨c', rfl, co⟩ := u3 pos cv among
    replace co : H c' = some (CodeO c' (nm pos.line pos.col)) := co
    rw [hn] at co
    refine PySem.W.kdv_makeTailHit (mg := X.mg) (closure_ok hfree) I.ok.glob (I.mod.glob.keeps I.bk) hcode (TB.code.keeps I.bk) (I.hok _ _ hP) u2 among (TB.bm.keeps I.bk) fun ctv doc h' tk keep hi => ?_
    rw [← hdv c']
    exact lam_push (F := ⟨_, params, body, scope, _, dV, c'⟩) (I.kept (t' := tk) keep) (I.hok.fresh hi) (fun _ _ e _ => e) (fun _ z => z) hT co hdt fun f H2 s' J a1 a2 a3 a4 a5 => h f c' H2 s' J a1 a2 a3 a4 a5
end
/-- lambda ..: ..; mk tells its words by its code object -/
def tLamN (T : List NTab) (mk : Addr → LF) : TE := fun _ H Q => TabsN T H ∧ ∀ (f c' : Addr) (H1 : Hp), ExtN H H1 → (∀ b, H1 b = Option.none → H b = Option.none) → TabsN T H1 → H f = none → LamIn H1 f (mk c') → Q (.ref f) H1
/-- with one default, a whole number -/
def tLamD (T : List NTab) (d : Int) (mk : Option (Addr × List V) → Addr → LF) : TE := fun _ H Q => TabsN T H ∧ ∀ (t f c' : Addr) (H1 : Hp), H t = none → ExtN H H1 → (∀ b, H1 b = Option.none → H b = Option.none) → TabsN T H1 → H f = none → LamIn H1 f (mk (some (t, [.int d])) c') → Q (.ref f) H1
section
variable {X : Cx}
theorem pe_lamN {T : List NTab} {nm : Nat → Nat → Str} {c P : Addr} {params : Arguments} {body : Expr} {scope : Scope} {pos : Pos} (TB : TabB X.base X.mg c P) (hcode : X.env.code = .ref c) (hm : (P, nm) ∈ T) (hn : nm pos.line pos.col = X.env.qual ++ "<lambda>") (hu : ∀ p ∈ T, p.1 = P → p.2 = nm)
    (hfree : ∀ y ∈ scope.names, y.2 = .free → X.env.scope.names.lookup y.1 = some .cell ∨ X.env.scope.names.lookup y.1 = some .free) (hdef : defaultsOf params X.env = ([], [])) :
    PE X (.Lambda params body scope pos) (tLamN T fun c' => ⟨X.env.qual ++ "<lambda>", params, body, scope, cloFrom X.env.cells scope.names [], none, c'⟩) := by
  refine ⟨fun pins s σ H Q I h => ?_⟩
  obtain ⟨hT, h⟩ := h
  have hfr : ∀ y ∈ scope.names, y.2 = .free → ∃ c, X.env.cells.lookup y.1 = some c := fun y hy e => (hfree y hy e).elim (fun z => I.ok.has _ (.inl z)) fun z => I.ok.has _ (.inr z)
  refine PySem.W.kla_eval hdef ?_
  rw [makeFunction_eq]
  simp only [List.zip_nil_right, List.filterMap_nil, List.isEmpty_nil, if_true, pure_bind]
  exact lam_tail (dV := none) I TB hcode hm hn hu hT hfr (fun _ => rfl) (fun p e => by cases e) fun f c' H1 s' I1 eN nn T1 f0 f1 => ⟨.ref f, H1, I1, rfl, h f c' H1 eN nn T1 f0 f1⟩
theorem pe_lamD {T : List NTab} {nm : Nat → Nat → Str} {c P : Addr} {params : Arguments} {body : Expr} {scope : Scope} {pos dp : Pos} {d : Int} {dj : Nat} (TB : TabB X.base X.mg c P) (hcode : X.env.code = .ref c) (hm : (P, nm) ∈ T) (hn : nm pos.line pos.col = X.env.qual ++ "<lambda>") (hu : ∀ p ∈ T, p.1 = P → p.2 = nm)
    (hfree : ∀ y ∈ scope.names, y.2 = .free → X.env.scope.names.lookup y.1 = some .cell ∨ X.env.scope.names.lookup y.1 = some .free) (hd0 : params.defaults = [.Constant (.int d) dj dp]) (hk0 : params.kw_defaults = []) :
    PE X (.Lambda params body scope pos) (tLamD T d fun dV c' => ⟨X.env.qual ++ "<lambda>", params, body, scope, cloFrom X.env.cells scope.names [], dV, c'⟩) := by
  refine ⟨fun pins s σ H Q I h => ?_⟩
  obtain ⟨hT, h⟩ := h
  have hfr : ∀ y ∈ scope.names, y.2 = .free → ∃ c, X.env.cells.lookup y.1 = some c := fun y hy e => (hfree y hy e).elim (fun z => I.ok.has _ (.inl z)) fun z => I.ok.has _ (.inr z)
  refine PySem.W.kdv_lam (by rw [hd0]; rfl) hk0 ?_
  rw [hd0]
  refine PySem.W.kdv_all1 (thn ((pe_int (X := X)).run pins s σ H (fun v H1 => v = .int d ∧ H1 = H) I ⟨rfl, rfl⟩) fun u s1 ⟨v, H1, I1, r, ev, eH⟩ => ?_)
  rw [eH] at I1
  rw [ev] at r
  refine PySem.W.kdv_all0 ?_
  rw [makeFunction_eq]
  simp only [List.zip_nil_right, List.filterMap_nil, List.isEmpty_nil, if_true, pure_bind, List.isEmpty_cons, Bool.false_eq_true, if_false]
  refine wpAny_bind (wpAny_newTextTuple ?_)
  have hf : H s1.heap.objs.size = none := I1.hok.fresh (Nat.le_refl _)
  have I2 : Inv X pins σ (upd H s1.heap.objs.size (.tup [V.int d])) { s1 with heap := s1.heap.push { cls := .type "tuple", data := .seq [u].toArray } } :=
    I1.laid (t' := s1.toks) (fun b u e => Heap.get?_push_of_some _ e) (Nat.le_refl _) ⟨(by show 1 ≤ sizeLine; decide), [u], .cons r .nil, ⟨_, Heap.get?_push_size _ rfl, rfl, _, rfl⟩⟩
  refine lam_tail (dV := some (s1.heap.objs.size, [V.int d])) I2 TB hcode hm hn hu (hT.ext fun b o e => (upd_ne (ne_of_none e hf)).trans e) hfr (fun _ => rfl) (fun p e => by cases e; exact upd_same) fun f c' H1 s' I1 eN nn T1 f0 f1 => ⟨.ref f, H1, I1, rfl, h s1.heap.objs.size f c' H1 hf ?_ ?_ T1 (upd_none f0) f1⟩
  · exact fun b o e n => eN b o ((upd_ne (ne_of_none e hf)).trans e) n
  · exact fun b e => upd_none (nn b e)
end
end Ask

/-! what a lambda promises; a def that is handed one; calls -/
namespace Ask
open PySem L2 PySem.Spec PyProof.Rows LamX NdefX
/-- the lambda F at f, called: sp ws, ws what its captured cells hold at the call -/
structure LOk (P : Program) (w : World) (K : PySem.W.Frag) (mg : Str → Option Value) (base : Heap) (CX : CXT) (k : Nat) (f : Addr) (F : LF) (fr : List Str) (sp : List (Option V) → Sp) : Prop where
  run : ∀ (A : Around) (outer : List Env) (s : Shared) (H : Hp) (us : List Value) (vs : List V) (ws : List (Option V)) (Q : VK) (E : XK), Room k A → Env0 P w K mg base A outer s H → LamIn H f F →
    CellsAt F.cl fr ws s.heap H → Vals vs us → sp ws vs H Q E → codeAny (model P w) A (.call (.ref f) ⟨us, []⟩) (CR CX outer P w H s Q E) s
/-- how a lambda's parameters are bound: ds its defaults, all of them wanted -/
def LBinds (F : LF) (ps : List Str) (n : Nat) : Prop := ∀ (P : Program) (w : World) (H : Hp) (s : Shared) (doc pm ctv : Value) (us : List Value) (vs ds : List V), us.length = n → Vals vs us → (F.dV = none ∧ ds = [] ∨ ∃ t, F.dV = some (t, ds)) → HOk P w H s.heap → (∀ p, F.dV = some p → H p.1 = some (.tup p.2)) →
  ∃ us', Vals (vs ++ ds) us' ∧ BindsTo s (F.fd doc pm ctv) ⟨us, []⟩ (ps.zip us')
section
variable {CX : CXT} {P : Program} {w : World} {K : PySem.W.Frag} {mg : Str → Option Value} {base : Heap} {N ps fr : List Str} {F : LF} {f : Addr} {k j n : Nat} {sp sp' : List (Option V) → Sp} {ds : List V}
theorem LBinds.plain (h : F.dV = none) (hb : ∀ (doc pm ctv : Value) (us : List Value), us.length = n → bindArgs (PySem.W.kdv_fn "<lambda>" F.qual F.params (.expr F.body) F.scope F.cl .none doc pm (.ref F.c) ctv) ⟨us, []⟩ = pure (ps.zip us)) : LBinds F ps n := by
  intro P w H s doc pm ctv us vs ds hl r hd hok ht
  have e : F.dv = .none := by unfold LF.dv; rw [h]
  rcases hd with ⟨_, rfl⟩ | ⟨t, z⟩
  · exact ⟨us, by rw [List.append_nil]; exact r, .of_eq (by rw [LF.fd, e]; exact hb doc pm ctv us hl)⟩
  · rw [h] at z; cases z
/-- one default, nothing handed over -/
theorem LBinds.dflt {t : Addr} {d : Int} {x : Str} (h : F.dV = some (t, [V.int d])) (k : Option (Array Value) → Sem (List (Str × Value))) (h1 : ∀ (doc pm ctv : Value), bindArgs (PySem.W.kdv_fn "<lambda>" F.qual F.params (.expr F.body) F.scope F.cl (.ref t) doc pm (.ref F.c) ctv) ⟨[], []⟩ = seqItems? (.ref t) >>= k)
    (h2 : ∀ u, k (some #[u]) = pure [(x, u)]) : LBinds F [x] 0 := by
  intro P w H s doc pm ctv us vs ds hl r hd hok ht
  have e : F.dv = .ref t := by unfold LF.dv; rw [h]
  obtain rfl : us = [] := List.eq_nil_of_length_eq_zero hl
  cases r
  rcases hd with ⟨z, _⟩ | ⟨t', z⟩
  · rw [h] at z; cases z
  · rw [h] at z
    cases z
    obtain ⟨_, its, rv, ob, ho, hc, n, hdat⟩ := (show ObjOk P w H s.heap t (.tup [V.int d]) from hok t _ (ht _ h))
    obtain ⟨u, r2, e2⟩ : ∃ u, its = [u] ∧ L2.RelV (.int d) u := by
      cases rv with
      | cons a b => cases b with
        | nil => exact ⟨_, rfl, a⟩
    subst r2
    refine ⟨[u], .cons e2 .nil, BindsTo.of_defaults (T := t) (o := ob) (items := #[u]) (n := n) (by show F.dv = _; exact e) ho hdat (k := k) ?_ (h2 u)⟩
    rw [LF.fd, e]
    exact h1 doc pm ctv
theorem LOk.mono (o : LOk P w K mg base CX j f F fr sp) (h : j ≤ k) : LOk P w K mg base CX k f F fr sp := ⟨fun A outer s H us vs ws Q E hr => o.run A outer s H us vs ws Q E (hr.mono h)⟩
theorem inv_startL {h₁ : Heap} {tk : Nat} {us : List Value} {vs : List V} {A : Around} {outer : List Env} {s : Shared} {H : Hp} {E : XK} {ws : List (Option V)} (S : NScope N ps fr F.scope) (hd : A.handled = none) (e0 : Env0 P w K mg base A outer s H) (hl : vs.length = ps.length) (r : Vals vs us) (C : CellsAt F.cl fr ws s.heap H) (hns : h₁.Ns s.heap.objs.size fun y => (ps.zip us).reverse.lookup y)
    (kp : ∀ b o, s.heap.get? b = some o → h₁.get? b = some o) : Inv (ncx CX P w K mg base N F.nf f A outer s H E) [] (startF N vs ws) H { s with heap := h₁, toks := tk } := inv_startN (F := F.nf) S hd e0 hl r C hns kp
/-- a lambda by its body -/
theorem lok_of (S : NScope N ps fr F.scope) (hb : LBinds F ps n) (hds : F.dV = none ∧ ds = [] ∨ ∃ t, F.dV = some (t, ds)) (hps : ps.length = n + ds.length) (len : ∀ ws vs H Q E, sp ws vs H Q E → vs.length = n)
    (hbody : ∀ (A : Around) (outer : List Env) (s : Shared) (H : Hp) (vs : List V) (ws : List (Option V)) (Q : VK) (E : XK), Room k (A.deeper (envF F.nf f s.heap.objs.size)) → LamIn H f F → ws.length = fr.length → sp ws vs H Q E →
      ∃ t, PE (ncx CX P w K mg base N F.nf f A outer s H E) F.body t ∧ t (startF N (vs ++ ds) ws) H Q) :
    LOk P w K mg base CX (k + 1) f F fr sp := by
  refine ⟨fun A outer s H us vs ws Q E hr e0 hf C r hsp => ?_⟩
  have hl := len _ _ _ _ _ hsp
  have lim : s.heap.NoLimit := e0.mod.nolimit.keeps fun b o e => (e0.bs b o e).1
  obtain ⟨od, sl, doc, pm, ctv, ho⟩ := lamO_at e0.hok hf.fn
  obtain ⟨us', r', bind⟩ := hb P w H s doc pm ctv us vs ds (by rw [← r.length]; exact hl) r hds e0.hok hf.df
  refine PySem.W.kla_callFunE hr.depth ho rfl S.co S.gen rfl (codeO_at e0.hok hf.co) (bind _ _ _ _ ?_)
  refine wpAny_newFunctionEnv S.nocell (fun ⟨n, _⟩ hy => S.par n (List.of_mem_zip hy).1) (fun h₁ hns hsb => ⟨lim.fresh _ hsb, ?_⟩) S.kind
  show codeAny _ _ (.expr F.body (envF F.nf f s.heap.objs.size)) _ _
  have kp : ∀ b o, s.heap.get? b = some o → h₁.get? b = some o := fun b o e => hsb.extBut b o (Nat.ne_of_lt (Heap.lt_size e)) (Heap.get?_push_of_some _ e)
  obtain ⟨t, ht, hq⟩ := hbody A outer s H vs ws Q E (hr.deeper _) hf C.len hsp
  have I : Inv (ncx CX P w K mg base N F.nf f A outer s H E) [] (startF N (vs ++ ds) ws) H { s with heap := h₁, toks := s.toks + (ps.zip us').length } := inv_startL S hr.hd e0 (by rw [List.length_append]; omega) r' C hns kp
  refine PySem.W.kla_codeExpr (wpAny_mono (ht.run [] _ (startF N (vs ++ ds) ws) H Q I hq) (fun v s' hs => ?_) fun e s' hs => hs)
  obtain ⟨v', H', J, rv, q⟩ := hs
  exact ⟨v', H', J.os, J.bare, J.base, J.hok, rv, q⟩
/-! ### held by another frame -/
/-- from the state s0, H0 on (frames fs may get slots), the lambda F at f promises sp -/
structure LamAt (P : Program) (w : World) (K : PySem.W.Frag) (mg : Str → Option Value) (base : Heap) (CX : CXT) (k : Nat) (fs : List Addr) (s0 : Shared) (H0 : Hp) (f : Addr) (F : LF) (sp : Sp) : Prop where
  run : ∀ (A : Around) (outer : List Env) (s : Shared) (H : Hp) (us : List Value) (vs : List V) (Q : VK) (E : XK), Room k A → Env0 P w K mg base A outer s H → Un fs [] H0 H s0.heap s.heap → LamIn H f F → Vals vs us → sp vs H Q E →
    codeAny (model P w) A (.call (.ref f) ⟨us, []⟩) (CR CX outer P w H s Q E) s
theorem lamAt_of {X : Cx} {pins : List (Addr × Obj)} {σ : L2.St} {H : Hp} {s : Shared} {js : List Nat} {fs : List Addr} (o : LOk X.prog X.w X.K X.mg X.base CX k f F fr sp) (cp : Caps X F.cl fr js) (I : Inv X pins σ H s) :
    LamAt X.prog X.w X.K X.mg X.base CX k fs s H f F (sp (js.map (slotAt σ))) := by
  refine ⟨fun A outer s' H' us vs Q E hr e0 un lin r hsp => o.run A outer s' H' us vs _ Q E hr e0 lin ?_ r hsp⟩
  have C := cells_of I cp
  have kp : ∀ y c, F.cl.lookup y = some c → ∀ v, s.heap.IsCell c v → s'.heap.IsCell c v := fun y c e v ⟨o, ho, hd⟩ => by
    obtain ⟨sl, q⟩ := un.any ho (C.all y c e).1 (by simp)
    exact ⟨_, q, hd⟩
  refine ⟨C.len, fun y c e => ?_, C.inj, fun i y e => ?_⟩
  · obtain ⟨n, v, z⟩ := C.all y c e
    refine ⟨?_, v, kp y c e v z⟩
    obtain ⟨o, ho, _⟩ := z
    exact un.free c o ho n (by simp)
  · obtain ⟨c, hc, hv⟩ := C.has i y e
    refine ⟨c, hc, fun v ev => ?_⟩
    obtain ⟨u, r, z⟩ := hv v ev
    exact ⟨u, r, kp y c hc _ z⟩
end
/-- which lambdas are known, with their promises -/
abbrev LPr := Addr → LF → Sp → Prop
/-- a def that may be handed lambdas: its promise may speak of what they promise -/
structure FnOkH (P : Program) (w : World) (K : PySem.W.Frag) (mg : Str → Option Value) (base : Heap) (CXL CX : CXT) (j k : Nat) (f : Addr) (fd : FuncData) (ps : List Str) (sp : LPr → Sp) : Prop where
  len : ∀ L vs H Q E, sp L vs H Q E → vs.length = ps.length
  run : ∀ (A : Around) (outer : List Env) (s : Shared) (H : Hp) (args : Args) (us : List Value) (vs : List V) (Q : VK) (E : XK), Room k A → Env0 P w K mg base A outer s H → BindsTo s fd args (ps.zip us) → Vals vs us → sp (LamAt P w K mg base CXL j (frs outer) s H) vs H Q E →
    codeAny (model P w) A (.call (.ref f) args) (CR CX outer P w H s Q E) s
/-- it is so whatever is known of the lambdas beside -/
def MonoH (sp : LPr → Sp) : Prop := ∀ L L' : LPr, (∀ f F s, L f F s → L' f F s) → ∀ vs H Q E, sp L vs H Q E → sp L' vs H Q E
section
variable {CXL CX : CXT} {P : Program} {w : World} {K : PySem.W.Frag} {mg : Str → Option Value} {base : Heap} {N ps : List Str} {f : Addr} {j k : Nat} {sp : LPr → Sp} {x qual : Str} {st : Stmt} {fd : FuncData}
theorem FnOkH.mono {k' : Nat} (F : FnOkH P w K mg base CXL CX j k f fd ps sp) (h : k ≤ k') : FnOkH P w K mg base CXL CX j k' f fd ps sp := ⟨F.len, fun A outer s H args us vs Q E hr => F.run A outer s H args us vs Q E (hr.mono h)⟩
theorem okH (F : Fun K x qual st f fd) (S : FnScope N ps (defScope st)) (len : ∀ L vs H Q E, sp L vs H Q E → vs.length = ps.length)
    (hbody : ∀ (cdv : Value) (A : Around) (outer : List Env) (s : Shared) (H : Hp) (vs : List V) (Q : VK) (E : XK), Room k (A.deeper (envOfC qual (defScope st) s.heap.objs.size f cdv)) → sp (LamAt P w K mg base CXL j (frs outer) s H) vs H Q E →
      ∃ t, PSs (cxOf CX P w K mg base N qual (defScope st) f cdv A outer s H E) (defBody st) t ∧ t { nx := fun _ H' => Q .non H', rt := Q } (start N vs) H) :
    FnOkH P w K mg base CXL CX j (k + 1) f fd ps sp :=
  ⟨len, fun A outer s H args us vs Q E hr e0 hb r hsp => fn_run F S hr e0 hb r (len _ _ _ _ _ hsp) fun cdv hr' => hbody cdv A outer s H vs Q E hr' hsp⟩
end
/-- a name of one's own that holds a lambda, called -/
def tCallP (i : Nat) (f : Addr) (F : LF) (sp : Sp) (E : XK) (t : TA) : TE := fun σ H Q => σ[i]? = some (some (.ref f)) ∧ LamIn H f F ∧ t σ H fun vs H1 => LamIn H1 f F ∧ sp vs H1 Q E
/-- a def called that may be handed lambdas -/
def tCallH (L : L2.St → LPr) (sp : LPr → Sp) (E : XK) (t : TA) : TE := fun σ H Q => t σ H fun vs H1 => sp (L σ) vs H1 Q E
section
variable {X : Cx} {CXL CX : CXT} {j k i : Nat} {f : Addr} {F : LF} {fd : FuncData} {ps : List Str} {sp : Sp} {spH : LPr → Sp} {L : L2.St → LPr} {E : XK} {x : Str} {p pos : Pos} {e : Expr} {es : List Expr} {t : TA}
theorem lamFn {pins : List (Addr × Obj)} {σ : L2.St} {H : Hp} {s : Shared} (I : Inv X pins σ H s) (l : LamIn H f F) : PySem.W.FnAt f s.heap := by
  obtain ⟨od, sl, doc, pm, ctv, ho⟩ := lamO_at I.hok l.fn
  exact ⟨_, od, _, sl, ho⟩
theorem run_p {pins : List (Addr × Obj)} {σ : L2.St} {H : Hp} {s : Shared} {Q : VK} {us : List Value} {vs : List V} (la : LamAt X.prog X.w X.K X.mg X.base CX k X.fs X.s_0 X.H_0 f F sp) (hex : X.ex = []) (hr : Room k X.A) (hx : Passes CX X E) (I : Inv X pins σ H s) (l : LamIn H f F) (r : Vals vs us) (q : sp vs H Q E) :
    wpAny (model X.prog X.w) X.A (call (.ref f) us) (EP X pins σ Q) X.xe s := by
  have un := I.base
  rw [hex] at un
  refine wpAny_call (codeAny_mono (la.run X.A X.stack s H us vs Q E hr I.env0 un l r q) fun r s' hq => ?_)
  cases r with
  | error e => exact hx pins σ H s e s' I hq
  | ok fl =>
    cases fl with
    | ret u => exact I.after hq
    | next => exact False.elim hq
    | brk => exact False.elim hq
    | cont => exact False.elim hq
theorem pe_callP (la : LamAt X.prog X.w X.K X.mg X.base CX k X.fs X.s_0 X.H_0 f F sp) (hex : X.ex = []) (hr : Room k X.A) (hx : Passes CX X E) (hN : X.N[i]? = some x) (hv : Vis X.env.scope x) (ha : PA X (e :: es) t)
    (hd : (x == ("__debug__" : Str)) = false := by decide) (hcd : (x == ("__classdict__" : Str)) = false := by decide)
    (he : starEach (e :: es) X.env = (false, eval e X.env) :: starEach es X.env := by rfl) (hpl : (backTo pos (starEach es X.env)).any (·.1) = false := by rfl) :
    PE X (.Call (.Name x p) (e :: es) [] pos) (tCallP i f F sp E t) := by
  refine ⟨fun pins s σ H Q I h => ?_⟩
  obtain ⟨hs, hf, ht⟩ := h
  refine wpAny_Call_Name_kw (thn ((pe_var (pos := p) hN hv hd hcd).run pins s σ H (fun v H1 => v = .ref f ∧ H1 = H) I ⟨.ref f, hs, rfl, rfl⟩) fun u s1 ⟨v, H1, I1, r1, q1⟩ => ?_)
  obtain ⟨ev, eH⟩ := q1
  subst ev
  rw [eH] at I1
  obtain rfl : u = Value.ref f := r1
  refine PySem.W.callWith_F (first := []) (lamFn I1 hf) (thn (ha.run pos pins s1 σ H _ I1 ht) fun us s2 ⟨vs, H2, I2, r, l2, q⟩ => ⟨lamFn I2 l2, ?_⟩) he hpl
  exact run_p la hex hr hx I2 l2 r q
theorem pe_callP0 (la : LamAt X.prog X.w X.K X.mg X.base CX k X.fs X.s_0 X.H_0 f F sp) (hex : X.ex = []) (hr : Room k X.A) (hx : Passes CX X E) (hN : X.N[i]? = some x) (hv : Vis X.env.scope x)
    (hd : (x == ("__debug__" : Str)) = false := by decide) (hcd : (x == ("__classdict__" : Str)) = false := by decide) :
    PE X (.Call (.Name x p) [] [] pos) (tCallP i f F sp E tNil) := by
  refine ⟨fun pins s σ H Q I h => ?_⟩
  obtain ⟨hs, hf, l2, q⟩ := h
  refine wpAny_Call_Name_kw (thn ((pe_var (pos := p) hN hv hd hcd).run pins s σ H (fun v H1 => v = .ref f ∧ H1 = H) I ⟨.ref f, hs, rfl, rfl⟩) fun u s1 ⟨v, H1, I1, r1, q1⟩ => ?_)
  obtain ⟨ev, eH⟩ := q1
  subst ev
  rw [eH] at I1
  obtain rfl : u = Value.ref f := r1
  refine PySem.W.callWith_F0 (first := []) (lamFn I1 hf) ?_
  exact run_p la hex hr hx I1 l2 .nil q
/-- the maker's lambdas -/
def Knows (X : Cx) (CXL : CXT) (j : Nat) (L : L2.St → LPr) : Prop := ∀ (pins : List (Addr × Obj)) (σ : L2.St) (H : Hp) (s : Shared), Inv X pins σ H s → ∀ f F sp, L σ f F sp → LamAt X.prog X.w X.K X.mg X.base CXL j (frs X.stack) s H f F sp
theorem pe_callH (G : FnOkH X.prog X.w X.K X.mg X.base CXL CX j k f fd ps spH) (mo : MonoH spH) (kn : Knows X CXL j L) (hr : Room k X.A) (hg : Gl X x) (hm : X.mg x = some (.ref f)) (hk : PySem.W.keepIn X.K (.ref f) = true) (hb : Binds X.K fd ps []) (hx : Passes CX X E)
    (ha : PA X (e :: es) t) (hdb : (x == ("__debug__" : Str)) = false := by decide) (he : starEach (e :: es) X.env = (false, eval e X.env) :: starEach es X.env := by rfl) (hpl : (backTo pos (starEach es X.env)).any (·.1) = false := by rfl) :
    PE X (.Call (.Name x p) (e :: es) [] pos) (tCallH L spH E t) := by
  refine ⟨fun pins s σ H Q I h => ?_⟩
  refine wpAny_Call_Name_kw (ld_glob I hg hm ?_ hdb)
  refine PySem.W.callWith_K (h₀ := X.base) I.ok.mod.kin hk (thn (ha.run pos pins s σ H _ I h) fun us s1 ⟨vs, H1, I1, r, q⟩ => ⟨I1.kIn, ?_⟩) he hpl
  have q' := mo _ _ (kn pins σ H1 s1 I1) vs H1 Q E q
  have hl : (us ++ []).length = ps.length := by rw [List.append_nil, ← r.length]; exact G.len _ _ _ _ _ q
  show wpAny _ _ (call (.ref f) us) _ _ _
  refine wpAny_call (codeAny_mono (G.run X.A X.stack s1 H1 ⟨us, []⟩ us vs Q E hr I1.env0 (by have z := hb s1 us I1.kIn hl; rw [List.append_nil] at z; exact z) r q') fun r s' hq => ?_)
  cases r with
  | error e => exact hx pins σ H1 s1 e s' I1 hq
  | ok fl =>
    cases fl with
    | ret u => exact I1.after hq
    | next => exact False.elim hq
    | brk => exact False.elim hq
    | cont => exact False.elim hq
end
end Ask

/-! d.setdefault(k, x), the keys tuples -/
namespace Ask
open PySem L2 PySem.Spec PyProof.Rows
def tDSetT (td ty tx : TE) : TE := fun σ H Q => td σ H fun x H1 => ∃ a, x = .ref a ∧ IsD H1 a ∧ ty σ H1 fun y H2 => tx σ H2 fun z H3 => ∃ (kvs : List (List Key × V)) (k : List Key) (b : Addr), H3 a = some (.dT kvs) ∧ y = .ref b ∧ H3 b = some (.tup (k.map kV)) ∧ kvs.length < sizeLine ∧
  (∀ v, valV kvs k = some v → Q v H3) ∧ (valV kvs k = none → Q z (upd H3 a (.dT (putK kvs k z))))
section
variable {X : Cx} {o e f : Expr} {td ty tx : TE} {apos cpos : Pos}
theorem pe_dsetT (hu : X.A.units + 1 < cLine) (ho : PE X o td) (he : PE X e ty) (hf : PE X f tx) (m : M2 X o "setdefault" apos e f cpos) : PE X (.Call (.Attribute o "setdefault" apos) [e, f] [] cpos) (tDSetT td ty tx) := by
  refine ⟨fun pins s σ H Q I h => ?_⟩
  refine wpAny_Call_method m.base m.few m.line PySem.F.plainAttrs_dict PySem.F.slot_dict_setdefault PySem.F.type_dict_setdefault (thn (ho.run pins s σ H _ I h) fun u s1 ⟨x, H1, I1, rx, a, ex, d, q1⟩ => ?_)
  subst ex
  obtain rfl : u = Value.ref a := rx
  obtain ⟨t1, t2, _⟩ := isD_at I1 d
  refine ⟨t1, t2, ?_⟩
  rw [m.trees]
  refine Calls.callWith_builtin rfl (Calls.evalArgs_plain (Calls.spliced_cons (thn (he.run pins s1 σ H1 _ I1 q1) fun iv s2 ⟨y, H2, I2, ry, q2⟩ =>
    Calls.spliced_cons (thn (hf.run pins s2 σ H2 _ I2 q2) fun fv s3 ⟨z, H3, I3, rz, kvs, k, b, ea, ey, eb, hl, q3, q4⟩ => Calls.spliced_nil ?_))))
  subst ey
  cases (show iv = Value.ref b from ry)
  obtain ⟨zl, hd, xs, rel, dd⟩ := dt_of I3.hok ea
  have hz : xs.length ≤ sizeLine := by rw [← Paired.length rel]; exact zl
  have hl' : (putK kvs k z).length ≤ sizeLine := by have := length_putK kvs k z; omega
  refine call_setdefault_heap (hsz := hz) (tupleKind_room_in1 hu) (key_of I3.hok eb) hd dd (fun p hp => ?_) fun hn h' dd' hs => ?_
  · have r := rel.val k
    rw [hp] at r
    cases ev : valV kvs k with
    | none => rw [ev] at r; exact (show False from r).elim
    | some v0 =>
      rw [ev] at r
      exact ⟨v0, H3, I3.tok _, r, q3 v0 ev⟩
  · have r := rel.val k
    rw [hn] at r
    have ev : valV kvs k = none := by
      cases ev : valV kvs k with
      | none => rfl
      | some v0 => rw [ev] at r; exact (show False from r).elim
    obtain ⟨q, es, ep, hq, h2, h3, h4, _, h5⟩ := dd'
    refine ⟨z, _, d_write (ob := .dT (putK kvs k z)) I3 (by rw [ea]; exact True.intro) hs ⟨q, hq⟩ ⟨hl', hd, _, (rel.put k eb rz).keeps fun c ys ec => ?_, q, es, ep, hq, h2, h3, h4, h5⟩, rz, q4 ev⟩
    rw [upd_ne (ne_of ec ea (fun z => nomatch z))]
    exact ec
end
end Ask

namespace Ask
open PySem L2
def prV (p : Pr) : List V := [vN p.1, vN p.2]
def keyP (p : Pr) : List Key := [.inl (p.1 : Int), .inl (p.2 : Int)]
theorem keyP_inj {p q : Pr} (h : keyP p = keyP q) : p = q := by
  unfold keyP at h
  injection h with h1 h2
  injection h2 with h2 _
  injection h1 with h1
  injection h2 with h2
  exact Prod.ext (by omega) (by omega)
def begS (k : Nat) : Str := if k = 0 then "new" else "found"
/-- a way: a tuple of a beginning and a word -/
def WayAt (H : Hp) (w : Addr) (x : Nat × List Nat) : Prop := ∃ t, H w = some (.tup [.str (begS x.1), .ref t]) ∧ H t = some (.tup (x.2.map vN))
theorem WayAt.tups {H H' : Hp} {w : Addr} {x : Nat × List Nat} (h : WayAt H w x) (k : ∀ b xs, H b = some (.tup xs) → H' b = some (.tup xs)) : WayAt H' w x := by
  obtain ⟨t, a, b⟩ := h
  exact ⟨t, k _ _ a, k _ _ b⟩
def dictK (es : List Ent) (ws : List Addr) : List (List Key × V) := List.zipWith (fun e w => (keyP e.1, V.ref w)) es ws
theorem dictK_none {p : Pr} : ∀ {es : List Ent} {ws : List Addr}, p ∉ es.map (·.1) → valV (dictK es ws) (keyP p) = none
  | [], _, _ => by unfold dictK; simp [valV]
  | _ :: _, [], _ => by unfold dictK; simp [valV]
  | e :: es, w :: ws, h => by
    have ne : ¬ keyP e.1 = keyP p := fun q => h (List.mem_cons.mpr (.inl (keyP_inj q).symm))
    show valV ((keyP e.1, V.ref w) :: dictK es ws) (keyP p) = none
    rw [valV_neg ne]
    exact dictK_none fun q => h (List.mem_cons_of_mem _ q)
theorem dictK_some : ∀ {es : List Ent} {ws : List Addr} {i : Nat} {e : Ent} {w : Addr}, (es.map (·.1)).Nodup → es[i]? = some e → ws[i]? = some w → valV (dictK es ws) (keyP e.1) = some (.ref w)
  | [], _, _, _, _, _, h, _ => by simp at h
  | _ :: _, [], _, _, _, _, _, h => by simp at h
  | e0 :: es, w0 :: ws, 0, e, w, nd, h1, h2 => by
    obtain rfl : e0 = e := by simpa using h1
    obtain rfl : w0 = w := by simpa using h2
    exact valV_pos rfl
  | e0 :: es, w0 :: ws, i + 1, e, w, nd, h1, h2 => by
    have nd' := List.nodup_cons.mp nd
    have h1' : es[i]? = some e := by simpa using h1
    have ne : ¬ keyP e0.1 = keyP e.1 := fun q => nd'.1 (List.mem_map.mpr ⟨e, List.mem_of_getElem? h1', (keyP_inj q).symm⟩)
    show valV ((keyP e0.1, V.ref w0) :: dictK es ws) (keyP e.1) = _
    rw [valV_neg ne]
    exact dictK_some nd'.2 h1' (by simpa using h2)
theorem dictK_len {es : List Ent} {ws : List Addr} (h : ws.length = es.length) : (dictK es ws).length = es.length := by unfold dictK; rw [List.length_zipWith, h, Nat.min_self]
theorem dictK_put {es : List Ent} {ws : List Addr} {p : Pr} {x : Nat × List Nat} {w : Addr} (h : ws.length = es.length) (hp : p ∉ es.map (·.1)) : putK (dictK es ws) (keyP p) (.ref w) = dictK (es ++ [(p, x)]) (ws ++ [w]) := by
  rw [putK_new _ (dictK_none hp)]
  unfold dictK
  rw [List.zipWith_append h.symm]
  rfl
theorem dictK_get {es : List Ent} {ws : List Addr} {i : Nat} {k : List Key} {v : V} (h : (dictK es ws)[i]? = some (k, v)) : ∃ e w, es[i]? = some e ∧ ws[i]? = some w ∧ k = keyP e.1 ∧ v = .ref w := by
  unfold dictK at h
  rw [List.getElem?_zipWith] at h
  split at h
  · rename_i e w h1 h2
    cases h
    exact ⟨e, w, h1, h2, rfl, rfl⟩
  · cases h
/-- the dict of the ways to the nodes -/
structure DicE (H : Hp) (d : Addr) (es : List Ent) (ws : List Addr) : Prop where
  at_ : H d = some (.dT (dictK es ws))
  len : ws.length = es.length
  way : ∀ (i : Nat) (e : Ent) (w : Addr), es[i]? = some e → ws[i]? = some w → WayAt H w e.2
theorem DicE.same {H H' : Hp} {d : Addr} {es : List Ent} {ws : List Addr} (h : DicE H d es ws) (s : Same H H') : DicE H' d es ws :=
  ⟨s _ _ h.at_, h.len, fun i e w h1 h2 => (h.way i e w h1 h2).tups fun b xs q => s b _ q⟩
theorem DicE.put {H : Hp} {d : Addr} {es : List Ent} {ws : List Addr} {p : Pr} {x : Nat × List Nat} {w : Addr} (h : DicE H d es ws) (hp : p ∉ es.map (·.1)) (hw : WayAt H w x) :
    DicE (upd H d (.dT (putK (dictK es ws) (keyP p) (.ref w)))) d (es ++ [(p, x)]) (ws ++ [w]) := by
  have k : ∀ b xs, H b = some (.tup xs) → upd H d (.dT (putK (dictK es ws) (keyP p) (.ref w))) b = some (.tup xs) := fun b xs q => by
    rw [upd_ne (ne_of q h.at_ (fun z => nomatch z))]
    exact q
  refine ⟨by rw [upd_same, dictK_put h.len hp], by rw [List.length_append, List.length_append, h.len]; rfl, fun i e v h1 h2 => ?_⟩
  by_cases c : i < es.length
  · rw [List.getElem?_append_left c] at h1
    rw [List.getElem?_append_left (by rw [h.len]; exact c)] at h2
    exact (h.way i e v h1 h2).tups k
  · rw [List.getElem?_append_right (Nat.le_of_not_lt c)] at h1
    rw [List.getElem?_append_right (by rw [h.len]; exact Nat.le_of_not_lt c), h.len] at h2
    cases q : i - es.length with
    | succ m => rw [q] at h1; simp at h1
    | zero =>
      rw [q] at h1 h2
      obtain rfl : (p, x) = e := by simpa using h1
      obtain rfl : w = v := by simpa using h2
      exact hw.tups k
theorem walk_zipT {K : PySem.W.Frag} {a b : Addr} {xs ys : List V} {n : Nat} (hn : n = min xs.length ys.length) : Walk (RZ.ItzT K a b) n (fun H => SqT K H a xs ∧ SqT K H b ys) (YPair (fun i => xs[i]?) (fun i => ys[i]?)) := by
  subst hn
  refine ⟨fun i _ hi q => ?_, fun _ q => ⟨xs, ys, q.1, q.2, by omega⟩, fun i H v H' _ q y => ?_⟩
  · have h1 : i < xs.length := by omega
    have h2 : i < ys.length := by omega
    exact ⟨xs, ys, xs[i], ys[i], q.1, q.2, by simp [h1], by simp [h2]⟩
  · obtain ⟨T, x, z, h1, h2, h3, h4, h5⟩ := y
    exact ⟨T, x, z, h1, h2, h3, h4 xs q.1, h5 ys q.2⟩
theorem same_tups {H H' : Hp} (s : Same H H') : ∀ b xs, H b = some (.tup xs) → H' b = some (.tup xs) := fun b xs q => s b _ q
/-- refs to pairs -/
def PrsAt (H : Hp) (os : List Addr) (ps : List Pr) : Prop := os.length = ps.length ∧ ∀ (i : Nat) (o : Addr) (p : Pr), os[i]? = some o → ps[i]? = some p → H o = some (.tup (prV p))
theorem PrsAt.tups {H H' : Hp} {os : List Addr} {ps : List Pr} (h : PrsAt H os ps) (k : ∀ b xs, H b = some (.tup xs) → H' b = some (.tup xs)) : PrsAt H' os ps := ⟨h.1, fun i o p h1 h2 => k _ _ (h.2 i o p h1 h2)⟩
theorem PrsAt.snoc {H : Hp} {os : List Addr} {ps : List Pr} {o : Addr} {p : Pr} (h : PrsAt H os ps) (e : H o = some (.tup (prV p))) : PrsAt H (os ++ [o]) (ps ++ [p]) := by
  refine ⟨by rw [List.length_append, List.length_append, h.1]; rfl, fun i a q h1 h2 => ?_⟩
  by_cases c : i < os.length
  · rw [List.getElem?_append_left c] at h1
    rw [List.getElem?_append_left (by rw [← h.1]; exact c)] at h2
    exact h.2 i a q h1 h2
  · rw [List.getElem?_append_right (Nat.le_of_not_lt c)] at h1
    rw [List.getElem?_append_right (by rw [← h.1]; exact Nat.le_of_not_lt c), ← h.1] at h2
    cases z : i - os.length with
    | succ m => rw [z] at h1; simp at h1
    | zero =>
      rw [z] at h1 h2
      obtain rfl : o = a := by simpa using h1
      obtain rfl : p = q := by simpa using h2
      exact e
def begI (p q : Pr) : Nat → List Ent
  | 0 => []
  | 1 => [(p, (0, []))]
  | _ + 2 => beg0 p q
section
variable {P : Program} {w : World} {K : PySem.W.Frag} {mg : Str → Option Value} {base : Heap}
/-- what the lambda handed over does with a node -/
def spOnw (nx : Pr → List Pr) (R : Pr → Prop) (H0 : Hp) (sp : Sp) : Prop := ∀ (H : Hp) (c : Addr) (x : Pr) (Q : VK) (E : XK), Same H0 H → H c = some (.tup (prV x)) → R x →
  (∀ (H2 : Hp) (l : Addr) (ts : List Addr), Same H H2 → H l = none → H2 l = some (.lst (ts.map V.ref)) → PrsAt H2 ts (nx x) → Q (.ref l) H2) → sp [.ref c] H Q E
def spFirstH (K : PySem.W.Frag) : LPr → Sp := fun L vs H Q _ => ∃ (st a b f : Addr) (F : LF) (sp : Sp) (nx : Pr → List Pr) (M N : Nat) (p q : Pr), vs = [.ref st, .ref f] ∧ SqT K H st [.ref a, .ref b] ∧ H a = some (.tup (prV p)) ∧ H b = some (.tup (prV q)) ∧ LamIn H f F ∧ L f F sp ∧
  (p.1 < M ∧ p.2 < N) ∧ (q.1 < M ∧ q.2 < N) ∧ (∀ x : Pr, x.1 < M ∧ x.2 < N → (nx x).length ≤ 1000 ∧ ∀ y ∈ nx x, y.1 < M ∧ y.2 < N) ∧ M * N ≤ 10000 ∧ spOnw nx (fun x => x.1 < M ∧ x.2 < N) H sp ∧
  ∀ (H' : Hp) (d : Addr) (ws : List Addr) (n : Nat), Same H H' → H d = none → (bfs nx (beg0 p q) n).length ≤ n → n ≤ M * N → DicE H' d (bfs nx (beg0 p q) n) ws → Q (.ref d) H'
theorem firstH_mono : MonoH (spFirstH K) := fun L L' h vs H Q E ⟨st, a, b, f, F, sp, nx, M, N, p, q, e, h1, h2, h3, h4, h5, r⟩ => ⟨st, a, b, f, F, sp, nx, M, N, p, q, e, h1, h2, h3, h4, h f F sp h5, r⟩

abbrev s_first_histories : Stmt := top 68
theorem sc_first_histories : FnScope ["starts", "onward", "found", "beginning", "node", "order", "at", "word", "rank", "target"] ["starts", "onward"] (defScope s_first_histories) := ⟨rfl, rfl, rfl, by decide +kernel, rfl, by decide +kernel, by decide +kernel⟩
theorem ok_firstH {j : Nat} {f : Addr} {fd : FuncData} (F : Fun K "first_histories" "first_histories" s_first_histories f fd) (T : Blt mg) (nZ : mg "zip" = none) (C : Gv K mg) (hj : j ≤ 1) :
    FnOkH P w K mg base CX0 CX0 j 2 f fd ["starts", "onward"] (spFirstH K) := by
  refine okH F sc_first_histories (fun L vs H Q E h => ?_) (fun cdv A outer s H vs Q E hr h => ?_)
  · obtain ⟨st, a, b, f, F, sp, nx, M, N, p, q, rfl, _⟩ := h
    rfl
  · obtain ⟨st, a, b, g, G, sp, nx, M, N, p, q, rfl, hst, ha, hb, hG, la, rp, rq, rn, lMN, onw, kq⟩ := h
    obtain ⟨tB, uB, mB, rB, sB⟩ := C.begins
    have hu := hu_of hr
    have z1 : (100000 : Nat) ≤ sizeLine := by decide
    refine ⟨_, PSs.nox (pss_cons (ps_set (i := 2) sc_first_histories.nd rfl (Or.inl rfl) pe_dnewT)
      (pss_cons (ps_for PassesOwn.never rfl (RZ.pi_zipA (by rfl) nZ (pa_cons (pe_glob rfl mB rB) (pa_cons (pv 0) pa_nil))) (pg_tup rfl (pgs_cons (pg_name (i := 3) sc_first_histories.nd rfl (Or.inl rfl)) (pgs_cons (pg_name (i := 4) sc_first_histories.nd rfl (Or.inl rfl)) pgs_nil))) (pss_one (ps_expr (pe_dsetT hu (pv 2) (pv 4) (pe_tup (pa_cons (pv 3) (pa_cons (pe_tup pa_nil) pa_nil))) ⟨rfl, rfl, rfl, rfl⟩))))
      (pss_cons (ps_set (i := 5) sc_first_histories.nd rfl (Or.inl rfl) (pe_callTy (call_list_dT rfl) (by rfl) T.n_list (by decide +kernel) (pa_cons (pv 2) pa_nil)))
      (pss_cons (ps_set (i := 6) sc_first_histories.nd rfl (Or.inl rfl) pe_int)
      (pss_cons (ps_while PassesOwn.never (pt_cmpR op_lt (pv 6) (pe_callB call_len_seq (by rfl) T.n_len (by decide +kernel) (pa_cons (pv 5) pa_nil)) (nomark _)) (pss_cons (ps_set (i := 4) sc_first_histories.nd rfl (Or.inl rfl) (pe_ix ix_list (pv 5) (pv 6) (fun _ _ => rfl)))
      (pss_cons (ps_asg (pe_dget hu (pv 2) (pv 4) (fun _ _ => rfl)) (pg_tup rfl (pgs_cons (pg_name (i := 3) sc_first_histories.nd rfl (Or.inl rfl)) (pgs_cons (pg_name (i := 7) sc_first_histories.nd rfl (Or.inl rfl)) pgs_nil))))
      (pss_cons (ps_for PassesOwn.never rfl (pi_enum (by rfl) T.n_enumerate (pa_cons (pe_callP (i := 1) (CX := CX0) (E := E0) la rfl (hr.mono hj) pass0 rfl (Or.inl rfl) (pa_cons (pv 4) pa_nil)) pa_nil)) (pg_tup rfl (pgs_cons (pg_name (i := 8) sc_first_histories.nd rfl (Or.inl rfl)) (pgs_cons (pg_name (i := 9) sc_first_histories.nd rfl (Or.inl rfl)) pgs_nil))) (pss_one (ps_if (pt_cmp (pc_dnotin hu (pv 9) (pv 2)) rfl) (pss_cons (ps_dput hu (pv 2) (pv 9) (pe_tup (pa_cons (pv 3) (pa_cons (pe_tup (StX.pa_star (pv 7) (pa_cons (pv 8) pa_nil))) pa_nil))) rfl)
      (pss_one (ps_expr (pe_bm PySem.F.plainAttrs_list PySem.F.slot_list_append PySem.F.type_list_append mt_append (pv 5) (pa_cons (pv 9) pa_nil))))) pss_nil)))
      (pss_one (ps_aug (i := 6) sc_first_histories.nd rfl (Or.inl rfl) pe_int ip_add))))))
      (pss_one (ps_ret (pv 2)))))))), ?_⟩
    have sst := hst
    refine fun d hd => ?_
    have s1 : Same H (upd H d (.dT [])) := Ask.Same.made1 (Same.refl H) hd
    have f1 : DicE (upd H d (.dT [])) d [] [] := ⟨upd_same, rfl, fun i e w h => by simp at h⟩
    generalize upd H d (.dT []) = H1 at s1 f1 ⊢
    try dsimp only
    refine ⟨_, rfl, tB, st, _, _, rfl, .inr ⟨sB _, seqT_same s1 hst, ?_⟩⟩
    refine for_it (walk_zipT (n := 2) rfl) (fun i σ' H' => ∃ (o3 o4 : Option V) (ws : List Addr), σ' = [some (.ref st), some (.ref g), some (.ref d), o3, o4, none, none, none, none, none] ∧ Same H H' ∧ DicE H' d (begI p q i) ws) ⟨none, none, [], rfl, s1, f1⟩ (fun i σ' H' _ ⟨_, _, _, _, e, _⟩ => ⟨sB _, seqT_same e hst⟩) ?_ ?_
    · rintro i x σ' H2 H3 hi ⟨o3, o4, ws, rfl, s2, f2⟩ ⟨T0, x0, y0, rfl, hT0, rfl, ex, ey⟩
      have sT := Ask.Same.made1 (o := .tup [x0, y0]) (Same.refl H2) hT0
      have hT : upd H2 T0 (.tup [x0, y0]) T0 = some (.tup [x0, y0]) := upd_same
      generalize upd H2 T0 (.tup [x0, y0]) = H4 at sT hT ⊢
      have s4 := s2.trans sT
      have f4 := f2.same sT
      refine ⟨T0, _, rfl, SqT.of hT, rfl, _, _, rfl, _, _, rfl, rfl, ?_⟩
      try dsimp only
      refine ⟨_, rfl, d, rfl, .inr ⟨_, .inl f4.at_⟩, _, rfl, _, rfl, Nat.zero_le _, fun t ht => ?_⟩
      have st5 := Ask.Same.made1 (o := .tup []) (Same.refl H4) ht
      have ft : upd H4 t (.tup []) t = some (.tup []) := upd_same
      generalize upd H4 t (.tup []) = H5 at st5 ft ⊢
      refine ⟨by show 2 ≤ sizeLine; omega, fun w hw => ?_⟩
      have sw6 := Ask.Same.made1 (o := .tup [x0, .ref t]) (Same.refl H5) hw
      have fw : upd H5 w (.tup [x0, .ref t]) w = some (.tup [x0, .ref t]) := upd_same
      generalize upd H5 w (.tup [x0, .ref t]) = H6 at sw6 fw ⊢
      have s6 := (s4.trans st5).trans sw6
      have f6 := (f4.same st5).same sw6
      have ft6 := sw6 _ _ ft
      have dn : H d = none := hd
      match i, hi, ex, ey, f6 with
      | 0, _, ex, ey, f6 =>
        cases ex
        cases ey
        have hw6 : WayAt H6 w (0, []) := ⟨t, fw, ft6⟩
        refine ⟨_, keyP p, a, f6.at_, rfl, s6 _ _ ha, by rw [dictK_len f6.len]; show 0 < sizeLine; omega, fun v hv => ?_, fun _ => ⟨_, _, _, rfl, Ask.Same.upd_new s6 dn, f6.put (x := (0, [])) (fun z => nomatch z) hw6⟩⟩
        rw [dictK_none (es := begI p q 0) (fun z => nomatch z)] at hv
        cases hv
      | 1, _, ex, ey, f6 =>
        cases ex
        cases ey
        have hw6 : WayAt H6 w (1, []) := ⟨t, fw, ft6⟩
        refine ⟨_, keyP q, b, f6.at_, rfl, s6 _ _ hb, by rw [dictK_len f6.len]; show 1 < sizeLine; omega, fun v hv => ⟨_, _, ws, rfl, s6, ?_⟩, fun hn => ⟨_, _, ws ++ [w], rfl, Ask.Same.upd_new s6 dn, ?_⟩⟩
        · have e : beg0 p q = begI p q 1 := by
            have m : q ∈ (begI p q 1).map (·.1) := Decidable.byContradiction fun z => by
              rw [dictK_none z] at hv
              cases hv
            exact if_pos m
          show DicE H6 d (beg0 p q) ws
          rw [e]
          exact f6
        · have z : q ∉ (begI p q 1).map (·.1) := fun m => by
            obtain ⟨e, he, eq⟩ := List.mem_map.mp m
            obtain ⟨n, hn'⟩ := List.mem_iff_getElem?.mp he
            have ln : n < ws.length := by rw [f6.len]; exact (List.getElem?_eq_some_iff.mp hn').1
            have e2 := dictK_some (es := begI p q 1) (by show [p].Nodup; simp) hn' (List.getElem?_eq_getElem ln)
            rw [show e.1 = q from eq] at e2
            rw [e2] at hn
            cases hn
          have e : beg0 p q = begI p q 1 ++ [(q, (1, []))] := if_neg z
          show DicE _ d (beg0 p q) (ws ++ [w])
          rw [e]
          exact f6.put z hw6
    · rintro σ' H2 ⟨o3, o4, ws, rfl, s2, f2⟩
      replace f2 : DicE H2 d (bfs nx (beg0 p q) 0) ws := f2
      try dsimp only
      refine ⟨_, rfl, d, _, rfl, .inl f2.at_, fun o bs ho hk => ?_⟩
      have pb : PrsAt H2 bs ((bfs nx (beg0 p q) 0).map (·.1)) := by
        refine ⟨by rw [← Paired.length hk, dictK_len f2.len, List.length_map], fun i a x h1 h2 => ?_⟩
        rw [List.getElem?_map] at h2
        cases he : (bfs nx (beg0 p q) 0)[i]? with
        | none => rw [he] at h2; cases h2
        | some e =>
          rw [he] at h2
          cases h2
          have lw : i < ws.length := by rw [f2.len]; exact (List.getElem?_eq_some_iff.mp he).1
          have hd' : (dictK (bfs nx (beg0 p q) 0) ws)[i]? = some (keyP e.1, .ref ws[i]) := by
            unfold dictK
            rw [List.getElem?_zipWith, he, List.getElem?_eq_getElem lw]
          obtain ⟨b', hb', eq⟩ := paired_get hk hd'
          rw [h1] at hb'
          cases hb'
          exact eq
      have s3 := Ask.Same.made1 (o := .lst (bs.map V.ref)) s2 ho
      have f3 := f2.same (Ask.Same.made1 (o := .lst (bs.map V.ref)) (Same.refl H2) ho)
      have p3 := pb.tups (same_tups (Ask.Same.made1 (o := .lst (bs.map V.ref)) (Same.refl H2) ho))
      have o3' : upd H2 o (.lst (bs.map V.ref)) o = some (.lst (bs.map V.ref)) := upd_same
      have on : H o = none := s2.free ho
      generalize upd H2 o (.lst (bs.map V.ref)) = H3 at s3 f3 p3 o3' ⊢
      try dsimp only
      have bound : ∀ n, (bfs nx (beg0 p q) n).length ≤ M * N := fun n => ents_le (bfs_nd (beg0_nd p q) n) (bfs_all (P := fun e => e.1.1 < M ∧ e.1.2 < N) (beg0_all rp rq) (fun x k wd hx j t ht => (rn x hx).2 t (List.mem_of_getElem? ht)) n)
      have inR : ∀ n, ∀ e ∈ bfs nx (beg0 p q) n, e.1.1 < M ∧ e.1.2 < N := fun n => bfs_all (P := fun e => e.1.1 < M ∧ e.1.2 < N) (beg0_all rp rq) (fun x k wd hx j t ht => (rn x hx).2 t (List.mem_of_getElem? ht)) n
      refine ⟨fun m σ' H' => ∃ (n : Nat) (os ws : List Addr) (o3 o4 o7 o8 o9 : Option V), m = M * N + 1 - n ∧ σ' = [some (.ref st), some (.ref g), some (.ref d), o3, o4, some (.ref o), some (vN n), o7, o8, o9] ∧ Same H H' ∧ DicE H' d (bfs nx (beg0 p q) n) ws ∧ H' o = some (.lst (os.map V.ref)) ∧
        PrsAt H' os ((bfs nx (beg0 p q) n).map (·.1)) ∧ n ≤ (bfs nx (beg0 p q) n).length, ⟨_, 0, bs, ws, _, _, none, none, none, rfl, rfl, s3, f3, o3', p3, Nat.zero_le _⟩, ?_⟩
      rintro m σ' H4 ⟨n, os, ws, o3, o4, o7, o8, o9, rfl, rfl, s4, f4, e4, p4, nle⟩
      have lo : os.length = (bfs nx (beg0 p q) n).length := by rw [p4.1, List.length_map]
      have lb := bound n
      refine ⟨_, rfl, _, rfl, o, _, rfl, .inl (SqL.of e4), _, _, rfl, rfl, _, rfl, ?_⟩
      rw [List.length_map]
      by_cases lt : n < os.length
      · rw [decide_eq_true (show (n : Int) < (os.length : Nat) by omega)]
        refine iteT ⟨_, fun σ' H' h => h, ?_⟩
        have nl : n < (bfs nx (beg0 p q) n).length := by rw [← lo]; exact lt
        obtain ⟨e, he⟩ : ∃ e, (bfs nx (beg0 p q) n)[n]? = some e := ⟨_, List.getElem?_eq_getElem nl⟩
        have ho4 : os[n]? = some os[n] := List.getElem?_eq_getElem lt
        have hno := p4.2 n _ e.1 ho4 (by rw [List.getElem?_map, he]; rfl)
        obtain ⟨wa, hwa⟩ : ∃ w, ws[n]? = some w := ⟨_, List.getElem?_eq_getElem (by rw [f4.len]; exact nl)⟩
        obtain ⟨t, hw1, hw2⟩ := f4.way n e wa he hwa
        have nd := bfs_nd (nx := nx) (beg0_nd p q) n
        refine ⟨_, rfl, _, rfl, o, _, _, .ref os[n], rfl, rfl, SqL.of e4, at_by (j := n) rfl (by rw [List.getElem?_map, ho4]; rfl), ?_⟩
        try dsimp only
        refine ⟨_, rfl, _, rfl, d, .ref wa, rfl, by have z := DGet.t (k := keyP e.1) f4.at_ hno; rw [dictK_some nd he hwa] at z; exact z, wa, _, rfl, SqT.of hw1, rfl, _, _, rfl, _, _, rfl, rfl, ?_⟩
        try dsimp only
        refine ⟨rfl, hG.same s4, _, rfl, hG.same s4, onw _ os[n] e.1 _ _ s4 hno (inR n e (List.mem_of_getElem? he)) fun H5 l ts s5 hl el pl => ?_⟩
        refine ⟨l, _, rfl, SqL.of el, ?_⟩
        have s5' := s4.trans s5
        have f5 := f4.same s5
        have e5 := s5 _ _ e4
        have p5 := p4.tups (same_tups s5)
        have w5 := s5 _ _ hw2
        have tl := (rn e.1 (inR n e (List.mem_of_getElem? he))).1
        have lo' : l ≠ o := fun z => by rw [z, e4] at hl; cases hl
        have ld : l ≠ d := fun z => by rw [z, f4.at_] at hl; cases hl
        have od : o ≠ d := fun z => by rw [z, f4.at_] at e4; cases e4
        generalize os[n] = cn at *
        refine for_it (walk_enum (xs := ts.map V.ref)) (fun i σ' H' => ∃ (os ws : List Addr) (o8 o9 : Option V), σ' = [some (.ref st), some (.ref g), some (.ref d), some (.str (begS e.2.1)), some (.ref cn), some (.ref o), some (vN n), some (.ref t), o8, o9] ∧ Same H H' ∧ DicE H' d (expJ (nx e.1) e.2.1 e.2.2 i (bfs nx (beg0 p q) n)) ws ∧ H' o = some (.lst (os.map V.ref)) ∧
          PrsAt H' os ((expJ (nx e.1) e.2.1 e.2.2 i (bfs nx (beg0 p q) n)).map (·.1)) ∧ H' l = some (.lst (ts.map V.ref)) ∧ ∀ b xs, H5 b = some (.tup xs) → H' b = some (.tup xs)) ⟨os, ws, o8, o9, rfl, s5', f5, e5, p5, el, fun _ _ h => h⟩ (fun i σ' H' _ ⟨_, _, _, _, _, _, _, _, _, h, _⟩ => SqL.of h) ?_ ?_
        · rintro i x σ' H6 H7 hi ⟨os, ws, o8, o9, rfl, s6, f6, e6, p6, l6, t6⟩ ⟨T0, x0, y0, rfl, hT0, rfl, ex, ey⟩
          cases ex
          have lts : i < ts.length := by simpa using hi
          obtain ⟨tg, htg⟩ : ∃ tg, ts[i]? = some tg := ⟨_, List.getElem?_eq_getElem lts⟩
          obtain ⟨tn, htn⟩ : ∃ tn, (nx e.1)[i]? = some tn := ⟨_, List.getElem?_eq_getElem (by rw [← pl.1]; exact lts)⟩
          obtain rfl : y0 = .ref tg := by
            have z : (ts.map V.ref)[i]? = some (.ref tg) := by rw [List.getElem?_map, htg]; rfl
            exact Option.some.inj (ey.symm.trans z)
          have hT : upd H6 T0 (.tup [.int (i : Nat), .ref tg]) T0 = some (.tup [.int (i : Nat), .ref tg]) := upd_same
          have sT := Ask.Same.made1 (o := .tup [.int (i : Nat), .ref tg]) (Same.refl H6) hT0
          generalize upd H6 T0 (.tup [.int (i : Nat), .ref tg]) = H7 at hT sT ⊢
          have s7 := s6.trans sT
          have f7 := f6.same sT
          have e7 := sT _ _ e6
          have p7 := p6.tups (same_tups sT)
          have l7 := sT _ _ l6
          have t7 : ∀ b xs, H5 b = some (.tup xs) → H7 b = some (.tup xs) := fun b xs h => sT _ _ (t6 b xs h)
          have htg7 := t7 _ _ (pl.2 i tg tn htg htn)
          have nd7 : ((expJ (nx e.1) e.2.1 e.2.2 i (bfs nx (beg0 p q) n)).map (·.1)).Nodup := expJ_nd i _ nd
          have es : expJ (nx e.1) e.2.1 e.2.2 (i + 1) (bfs nx (beg0 p q) n) = addE (expJ (nx e.1) e.2.1 e.2.2 i (bfs nx (beg0 p q) n)) tn (e.2.1, e.2.2 ++ [i]) := by
            rw [expJ, htn]
          have lei : (expJ (nx e.1) e.2.1 e.2.2 i (bfs nx (beg0 p q) n)).length ≤ M * N := ents_le nd7 (expJ_all (P := fun e => e.1.1 < M ∧ e.1.2 < N) (fun j t ht => (rn e.1 (inR n e (List.mem_of_getElem? he))).2 t (List.mem_of_getElem? ht)) i _ (inR n))
          generalize expJ (nx e.1) e.2.1 e.2.2 i (bfs nx (beg0 p q) n) = ei at f7 p7 nd7 es lei ⊢
          refine ⟨T0, _, rfl, SqT.of hT, rfl, _, _, rfl, _, _, rfl, rfl, ?_⟩
          try dsimp only
          refine ⟨_, rfl, _, rfl, d, _, rfl, DGet.t (k := keyP tn) f7.at_ htg7, _, rfl, ?_⟩
          by_cases hm : tn ∈ ei.map (·.1)
          · obtain ⟨e', he', rfl⟩ := List.mem_map.mp hm
            obtain ⟨m, hm'⟩ := List.mem_iff_getElem?.mp he'
            rw [dictK_some nd7 hm' (List.getElem?_eq_getElem (by rw [f7.len]; exact (List.getElem?_eq_some_iff.mp hm').1))]
            refine iteF ⟨os, ws, _, _, rfl, s7, ?_, e7, ?_, l7, t7⟩
            · rw [es, addE, if_pos hm]
              exact f7
            · rw [es, addE, if_pos hm]
              exact p7
          · rw [dictK_none hm]
            refine iteT ?_
            have t8 := t7 _ _ w5
            have wl : e.2.2.length ≤ n := bfs_wl n e (List.mem_of_getElem? he)
            have nb : n ≤ M * N := Nat.le_trans nle (bound n)
            refine ⟨_, rfl, _, rfl, t, _, rfl, .inl (SqT.of t8), _, rfl, by rw [List.length_append, List.length_map]; show _ + 1 ≤ _; omega, fun t2 ht2 => ?_⟩
            have sA := Ask.Same.made1 (o := .tup (e.2.2.map vN ++ [.int (i : Nat)])) (Same.refl H7) ht2
            have fA : upd H7 t2 (.tup (e.2.2.map vN ++ [.int (i : Nat)])) t2 = some (.tup ((e.2.2 ++ [i]).map vN)) := by rw [upd_same, List.map_append]; rfl
            generalize upd H7 t2 (.tup (e.2.2.map vN ++ [.int (i : Nat)])) = H8 at sA fA ⊢
            refine ⟨by show 2 ≤ sizeLine; omega, fun w2 hw2 => ?_⟩
            have sB' := Ask.Same.made1 (o := .tup [.str (begS e.2.1), .ref t2]) (Same.refl H8) hw2
            have fB : upd H8 w2 (.tup [.str (begS e.2.1), .ref t2]) w2 = some (.tup [.str (begS e.2.1), .ref t2]) := upd_same
            generalize upd H8 w2 (.tup [.str (begS e.2.1), .ref t2]) = H9 at sB' fB ⊢
            have s79 := sA.trans sB'
            have s9 := s7.trans s79
            have f9 := f7.same s79
            have hw9 : WayAt H9 w2 (e.2.1, e.2.2 ++ [i]) := ⟨t2, fB, sB' _ _ fA⟩
            refine ⟨_, rfl, _, rfl, d, _, rfl, DPut.t (k := keyP tn) f9.at_ (s79 _ _ htg7) (by rw [dictK_len f9.len]; omega), ?_⟩
            have fC := f9.put (x := (e.2.1, e.2.2 ++ [i])) hm hw9
            have sC := Ask.Same.upd_new (o := .dT (putK (dictK ei ws) (keyP tn) (.ref w2))) s9 hd
            have off : ∀ b o', b ≠ d → H9 b = some o' → upd H9 d (.dT (putK (dictK ei ws) (keyP tn) (.ref w2))) b = some o' := fun b o' nb e => by rw [upd_ne nb]; exact e
            have tC : ∀ b xs, H9 b = some (.tup xs) → upd H9 d (.dT (putK (dictK ei ws) (keyP tn) (.ref w2))) b = some (.tup xs) := fun b xs q => off b _ (ne_of q f9.at_ (fun z => nomatch z)) q
            have eC := off _ _ od (s79 _ _ e7)
            have lC := off _ _ ld (s79 _ _ l7)
            have pC := (p7.tups (same_tups s79)).tups tC
            have gC := tC _ _ (s79 _ _ htg7)
            have uC : ∀ b xs, H5 b = some (.tup xs) → upd H9 d (.dT (putK (dictK ei ws) (keyP tn) (.ref w2))) b = some (.tup xs) := fun b xs q => tC _ _ (s79 _ _ (t7 _ _ q))
            generalize upd H9 d (.dT (putK (dictK ei ws) (keyP tn) (.ref w2))) = HC at fC sC eC lC pC gC uC ⊢
            have osl : os.length ≤ M * N := by rw [pC.1, List.length_map]; exact lei
            refine ⟨_, rfl, .inl ⟨rfl, _, SqL.of eC⟩, _, rfl, o, _, _, rfl, rfl, eC, by rw [List.length_map]; omega, ?_⟩
            have tD : ∀ b xs, HC b = some (.tup xs) → upd HC o (.lst (os.map V.ref ++ [.ref tg])) b = some (.tup xs) := fun b xs q => by rw [upd_ne (ne_of q eC (fun z => nomatch z))]; exact q
            refine ⟨os ++ [tg], ws ++ [w2], _, _, rfl, Ask.Same.upd_new sC on, ?_, by rw [upd_same, List.map_append]; rfl, ?_, by rw [upd_ne lo']; exact lC, fun b xs q => tD _ _ (uC _ _ q)⟩
            · rw [es, addE, if_neg hm]
              exact ⟨by rw [upd_ne od.symm]; exact fC.at_, fC.len, fun i e w h1 h2 => (fC.way i e w h1 h2).tups tD⟩
            · rw [es, addE, if_neg hm, List.map_append]
              exact (pC.snoc gC).tups tD
        · rintro σ' H6 ⟨os, ws, o8, o9, rfl, s6, f6, e6, p6, l6, t6⟩
          have nxt : bfs nx (beg0 p q) (n + 1) = expJ (nx e.1) e.2.1 e.2.2 (ts.map V.ref).length (bfs nx (beg0 p q) n) := by
            rw [bfs, he, List.length_map, pl.1]
          try dsimp only
          refine ⟨_, rfl, _, _, rfl, rfl, _, ?_, n + 1, os, ws, _, _, _, _, _, rfl, rfl, s6, ?_, e6, ?_, ?_⟩
          · omega
          · rw [nxt]
            exact f6
          · rw [nxt]
            exact p6
          · rw [nxt]
            obtain ⟨r, hr'⟩ := expJ_pre (nx e.1) e.2.1 e.2.2 (ts.map V.ref).length (bfs nx (beg0 p q) n)
            rw [hr', List.length_append]
            omega
      · rw [decide_eq_false (show ¬ (n : Int) < (os.length : Nat) by omega)]
        refine iteF ?_
        try dsimp only
        exact ⟨_, rfl, kq _ d ws n s4 hd (by omega) (by omega) f4⟩
end
end Ask

namespace Ask
open PySem L2
/-- nodes that are whole numbers: pairs of one number twice -/
def Dg (p : Pr) : Prop := p.2 = p.1
def keyI (p : Pr) : Key := .inl (p.1 : Int)
theorem keyI_inj {p q : Pr} (hp : Dg p) (hq : Dg q) (h : keyI p = keyI q) : p = q := by
  unfold keyI at h
  injection h with h1
  have e : p.1 = q.1 := by omega
  exact Prod.ext e (hp.trans (e.trans hq.symm))
def dictI (es : List Ent) (ws : List Addr) : List (Key × V) := List.zipWith (fun e w => (keyI e.1, V.ref w)) es ws
theorem dictI_none {p : Pr} (hp : Dg p) : ∀ {es : List Ent} {ws : List Addr}, (∀ e ∈ es, Dg e.1) → p ∉ es.map (·.1) → valV (dictI es ws) (keyI p) = none
  | [], _, _, _ => by unfold dictI; simp [valV]
  | _ :: _, [], _, _ => by unfold dictI; simp [valV]
  | e :: es, w :: ws, hd, h => by
    have ne : ¬ keyI e.1 = keyI p := fun q => h (List.mem_cons.mpr (.inl (keyI_inj (hd e (List.mem_cons_self ..)) hp q).symm))
    show valV ((keyI e.1, V.ref w) :: dictI es ws) (keyI p) = none
    rw [valV_neg ne]
    exact dictI_none hp (fun e he => hd e (List.mem_cons_of_mem _ he)) fun q => h (List.mem_cons_of_mem _ q)
theorem dictI_some : ∀ {es : List Ent} {ws : List Addr} {i : Nat} {e : Ent} {w : Addr}, (∀ e ∈ es, Dg e.1) → (es.map (·.1)).Nodup → es[i]? = some e → ws[i]? = some w → valV (dictI es ws) (keyI e.1) = some (.ref w)
  | [], _, _, _, _, _, _, h, _ => by simp at h
  | _ :: _, [], _, _, _, _, _, _, h => by simp at h
  | e0 :: es, w0 :: ws, 0, e, w, _, nd, h1, h2 => by
    obtain rfl : e0 = e := by simpa using h1
    obtain rfl : w0 = w := by simpa using h2
    exact valV_pos rfl
  | e0 :: es, w0 :: ws, i + 1, e, w, hd, nd, h1, h2 => by
    have nd' := List.nodup_cons.mp nd
    have h1' : es[i]? = some e := by simpa using h1
    have ne : ¬ keyI e0.1 = keyI e.1 := fun q => nd'.1 (List.mem_map.mpr ⟨e, List.mem_of_getElem? h1', (keyI_inj (hd e0 (List.mem_cons_self ..)) (hd e (List.mem_cons_of_mem _ (List.mem_of_getElem? h1'))) q).symm⟩)
    show valV ((keyI e0.1, V.ref w0) :: dictI es ws) (keyI e.1) = _
    rw [valV_neg ne]
    exact dictI_some (fun e he => hd e (List.mem_cons_of_mem _ he)) nd'.2 h1' (by simpa using h2)
theorem dictI_len {es : List Ent} {ws : List Addr} (h : ws.length = es.length) : (dictI es ws).length = es.length := by unfold dictI; rw [List.length_zipWith, h, Nat.min_self]
theorem dictI_put {es : List Ent} {ws : List Addr} {p : Pr} {x : Nat × List Nat} {w : Addr} (hd : ∀ e ∈ es, Dg e.1) (dp : Dg p) (h : ws.length = es.length) (hp : p ∉ es.map (·.1)) : putK (dictI es ws) (keyI p) (.ref w) = dictI (es ++ [(p, x)]) (ws ++ [w]) := by
  rw [putK_new _ (dictI_none dp hd hp)]
  unfold dictI
  rw [List.zipWith_append h.symm]
  rfl
theorem dictI_get {es : List Ent} {ws : List Addr} {i : Nat} {k : Key} {v : V} (h : (dictI es ws)[i]? = some (k, v)) : ∃ e w, es[i]? = some e ∧ ws[i]? = some w ∧ k = keyI e.1 ∧ v = .ref w := by
  unfold dictI at h
  rw [List.getElem?_zipWith] at h
  split at h
  · rename_i e w h1 h2
    cases h
    exact ⟨e, w, h1, h2, rfl, rfl⟩
  · cases h
theorem dictI_keys {es : List Ent} : ∀ {ws : List Addr}, ws.length = es.length → (dictI es ws).map (fun kv => kV kv.1) = es.map fun e => vN e.1.1 := by
  induction es with
  | nil => intro ws _; rfl
  | cons e es ih =>
    intro ws h
    cases ws with
    | nil => cases h
    | cons w ws =>
      show kV (keyI e.1) :: (dictI es ws).map (fun kv => kV kv.1) = vN e.1.1 :: es.map fun e => vN e.1.1
      rw [ih (Nat.succ.inj h)]
      rfl
/-- the dict of the ways to the nodes -/
structure DicI (H : Hp) (d : Addr) (es : List Ent) (ws : List Addr) : Prop where
  at_ : H d = some (.dK (dictI es ws))
  len : ws.length = es.length
  way : ∀ (i : Nat) (e : Ent) (w : Addr), es[i]? = some e → ws[i]? = some w → WayAt H w e.2
theorem DicI.same {H H' : Hp} {d : Addr} {es : List Ent} {ws : List Addr} (h : DicI H d es ws) (s : Same H H') : DicI H' d es ws :=
  ⟨s _ _ h.at_, h.len, fun i e w h1 h2 => (h.way i e w h1 h2).tups fun b xs q => s b _ q⟩
theorem DicI.put {H : Hp} {d : Addr} {es : List Ent} {ws : List Addr} {p : Pr} {x : Nat × List Nat} {w : Addr} (h : DicI H d es ws) (hd : ∀ e ∈ es, Dg e.1) (dp : Dg p) (hp : p ∉ es.map (·.1)) (hw : WayAt H w x) :
    DicI (upd H d (.dK (putK (dictI es ws) (keyI p) (.ref w)))) d (es ++ [(p, x)]) (ws ++ [w]) := by
  have k : ∀ b xs, H b = some (.tup xs) → upd H d (.dK (putK (dictI es ws) (keyI p) (.ref w))) b = some (.tup xs) := fun b xs q => by
    rw [upd_ne (ne_of q h.at_ (fun z => nomatch z))]
    exact q
  refine ⟨by rw [upd_same, dictI_put hd dp h.len hp], by rw [List.length_append, List.length_append, h.len]; rfl, fun i e v h1 h2 => ?_⟩
  by_cases c : i < es.length
  · rw [List.getElem?_append_left c] at h1
    rw [List.getElem?_append_left (by rw [h.len]; exact c)] at h2
    exact (h.way i e v h1 h2).tups k
  · rw [List.getElem?_append_right (Nat.le_of_not_lt c)] at h1
    rw [List.getElem?_append_right (by rw [h.len]; exact Nat.le_of_not_lt c), h.len] at h2
    cases q : i - es.length with
    | succ m => rw [q] at h1; simp at h1
    | zero =>
      rw [q] at h1 h2
      obtain rfl : (p, x) = e := by simpa using h1
      obtain rfl : w = v := by simpa using h2
      exact hw.tups k
theorem sqT_off {K : PySem.W.Frag} {H : Hp} {d b : Addr} {o o' : HO} {xs : List V} (e : H d = some o) (n1 : ∀ ys, o ≠ .tup ys) (n2 : ∀ u v, o ≠ .frz u v) (h : SqT K H b xs) : SqT K (upd H d o') b xs := by
  rcases h with (h | ⟨u, h⟩) | h
  · exact .inl (.inl (by rw [upd_ne (fun z => by rw [z, e] at h; exact n1 _ (Option.some.inj h))]; exact h))
  · exact .inl (.inr ⟨u, by rw [upd_ne (fun z => by rw [z, e] at h; exact n2 _ _ (Option.some.inj h))]; exact h⟩)
  · exact .inr h
section
variable {P : Program} {w : World} {K : PySem.W.Frag} {mg : Str → Option Value} {base : Heap}
/-- what the lambda handed over does with a node -/
def spOnwI (K : PySem.W.Frag) (nx : Pr → List Pr) (R : Pr → Prop) (H0 : Hp) (sp : Sp) : Prop := ∀ (H : Hp) (x : Pr) (Q : VK) (E : XK), Same H0 H → R x →
  (∀ a : Addr, SqT K H a ((nx x).map fun y => vN y.1) → Q (.ref a) H) → sp [vN x.1] H Q E
def spFirstI (K : PySem.W.Frag) : LPr → Sp := fun L vs H Q _ => ∃ (st f : Addr) (F : LF) (sp : Sp) (nx : Pr → List Pr) (M : Nat) (p q : Pr), vs = [.ref st, .ref f] ∧ SqT K H st [vN p.1, vN q.1] ∧ LamIn H f F ∧ L f F sp ∧
  (p.1 < M ∧ Dg p) ∧ (q.1 < M ∧ Dg q) ∧ (∀ x : Pr, x.1 < M ∧ Dg x → (nx x).length ≤ 1000 ∧ ∀ y ∈ nx x, y.1 < M ∧ Dg y) ∧ M * M ≤ 10000 ∧ spOnwI K nx (fun x => x.1 < M ∧ Dg x) H sp ∧
  ∀ (H' : Hp) (d : Addr) (ws : List Addr) (n : Nat), Same H H' → H d = none → (bfs nx (beg0 p q) n).length ≤ n → n ≤ M * M → DicI H' d (bfs nx (beg0 p q) n) ws → Q (.ref d) H'
theorem firstI_mono : MonoH (spFirstI K) := fun L L' h vs H Q E ⟨st, f, F, sp, nx, M, p, q, e, h1, h2, h5, r⟩ => ⟨st, f, F, sp, nx, M, p, q, e, h1, h2, h f F sp h5, r⟩

theorem ok_firstI {j : Nat} {f : Addr} {fd : FuncData} (F : Fun K "first_histories" "first_histories" s_first_histories f fd) (T : Blt mg) (nZ : mg "zip" = none) (C : Gv K mg) (hj : j ≤ 1) :
    FnOkH P w K mg base CX0 CX0 j 2 f fd ["starts", "onward"] (spFirstI K) := by
  refine okH F sc_first_histories (fun L vs H Q E h => ?_) (fun cdv A outer s H vs Q E hr h => ?_)
  · obtain ⟨st, f, F, sp, nx, M, p, q, rfl, _⟩ := h
    rfl
  · obtain ⟨st, g, G, sp, nx, M, p, q, rfl, hst, hG, la, rp, rq, rn, lMN, onw, kq⟩ := h
    obtain ⟨tB, uB, mB, rB, sB⟩ := C.begins
    have hu := hu_of hr
    have z1 : (100000 : Nat) ≤ sizeLine := by decide
    refine ⟨_, PSs.nox (pss_cons (ps_set (i := 2) sc_first_histories.nd rfl (Or.inl rfl) pe_dnewK)
      (pss_cons (ps_for PassesOwn.never rfl (RZ.pi_zipA (by rfl) nZ (pa_cons (pe_glob rfl mB rB) (pa_cons (pv 0) pa_nil))) (pg_tup rfl (pgs_cons (pg_name (i := 3) sc_first_histories.nd rfl (Or.inl rfl)) (pgs_cons (pg_name (i := 4) sc_first_histories.nd rfl (Or.inl rfl)) pgs_nil))) (pss_one (ps_expr (pe_dsetd (pv 2) (pv 4) (pe_tup (pa_cons (pv 3) (pa_cons (pe_tup pa_nil) pa_nil))) ⟨rfl, rfl, rfl, rfl⟩))))
      (pss_cons (ps_set (i := 5) sc_first_histories.nd rfl (Or.inl rfl) (pe_callTy (call_list_dK rfl) (by rfl) T.n_list (by decide +kernel) (pa_cons (pv 2) pa_nil)))
      (pss_cons (ps_set (i := 6) sc_first_histories.nd rfl (Or.inl rfl) pe_int)
      (pss_cons (ps_while PassesOwn.never (pt_cmpR op_lt (pv 6) (pe_callB call_len_seq (by rfl) T.n_len (by decide +kernel) (pa_cons (pv 5) pa_nil)) (nomark _)) (pss_cons (ps_set (i := 4) sc_first_histories.nd rfl (Or.inl rfl) (pe_ix ix_list (pv 5) (pv 6) (fun _ _ => rfl)))
      (pss_cons (ps_asg (pe_dget hu (pv 2) (pv 4) (fun _ _ => rfl)) (pg_tup rfl (pgs_cons (pg_name (i := 3) sc_first_histories.nd rfl (Or.inl rfl)) (pgs_cons (pg_name (i := 7) sc_first_histories.nd rfl (Or.inl rfl)) pgs_nil))))
      (pss_cons (ps_for PassesOwn.never rfl (pi_enumA (by rfl) T.n_enumerate (pa_cons (pe_callP (i := 1) (CX := CX0) (E := E0) la rfl (hr.mono hj) pass0 rfl (Or.inl rfl) (pa_cons (pv 4) pa_nil)) pa_nil)) (pg_tup rfl (pgs_cons (pg_name (i := 8) sc_first_histories.nd rfl (Or.inl rfl)) (pgs_cons (pg_name (i := 9) sc_first_histories.nd rfl (Or.inl rfl)) pgs_nil))) (pss_one (ps_if (pt_cmp (pc_dnotin hu (pv 9) (pv 2)) rfl) (pss_cons (ps_dput hu (pv 2) (pv 9) (pe_tup (pa_cons (pv 3) (pa_cons (pe_tup (StX.pa_star (pv 7) (pa_cons (pv 8) pa_nil))) pa_nil))) rfl)
      (pss_one (ps_expr (pe_bm PySem.F.plainAttrs_list PySem.F.slot_list_append PySem.F.type_list_append mt_append (pv 5) (pa_cons (pv 9) pa_nil))))) pss_nil)))
      (pss_one (ps_aug (i := 6) sc_first_histories.nd rfl (Or.inl rfl) pe_int ip_add))))))
      (pss_one (ps_ret (pv 2)))))))), ?_⟩
    refine fun d hd => ?_
    have s1 : Same H (upd H d (.dK [])) := Ask.Same.made1 (Same.refl H) hd
    have f1 : DicI (upd H d (.dK [])) d [] [] := ⟨upd_same, rfl, fun i e w h => by simp at h⟩
    generalize upd H d (.dK []) = H1 at s1 f1 ⊢
    try dsimp only
    refine ⟨_, rfl, tB, st, _, _, rfl, .inr ⟨sB _, seqT_same s1 hst, ?_⟩⟩
    refine for_it (walk_zipT (n := 2) rfl) (fun i σ' H' => ∃ (o3 o4 : Option V) (ws : List Addr), σ' = [some (.ref st), some (.ref g), some (.ref d), o3, o4, none, none, none, none, none] ∧ Same H H' ∧ DicI H' d (begI p q i) ws) ⟨none, none, [], rfl, s1, f1⟩ (fun i σ' H' _ ⟨_, _, _, _, e, _⟩ => ⟨sB _, seqT_same e hst⟩) ?_ ?_
    · rintro i x σ' H2 H3 hi ⟨o3, o4, ws, rfl, s2, f2⟩ ⟨T0, x0, y0, rfl, hT0, rfl, ex, ey⟩
      have sT := Ask.Same.made1 (o := .tup [x0, y0]) (Same.refl H2) hT0
      have hT : upd H2 T0 (.tup [x0, y0]) T0 = some (.tup [x0, y0]) := upd_same
      generalize upd H2 T0 (.tup [x0, y0]) = H4 at sT hT ⊢
      have s4 := s2.trans sT
      have f4 := f2.same sT
      refine ⟨T0, _, rfl, SqT.of hT, rfl, _, _, rfl, _, _, rfl, rfl, ?_⟩
      try dsimp only
      refine ⟨_, rfl, d, rfl, .inl ⟨_, .inl f4.at_⟩, _, rfl, _, rfl, Nat.zero_le _, fun t ht => ?_⟩
      have st5 := Ask.Same.made1 (o := .tup []) (Same.refl H4) ht
      have ft : upd H4 t (.tup []) t = some (.tup []) := upd_same
      generalize upd H4 t (.tup []) = H5 at st5 ft ⊢
      refine ⟨by show 2 ≤ sizeLine; omega, fun w hw => ?_⟩
      have sw6 := Ask.Same.made1 (o := .tup [x0, .ref t]) (Same.refl H5) hw
      have fw : upd H5 w (.tup [x0, .ref t]) w = some (.tup [x0, .ref t]) := upd_same
      generalize upd H5 w (.tup [x0, .ref t]) = H6 at sw6 fw ⊢
      have s6 := (s4.trans st5).trans sw6
      have f6 := (f4.same st5).same sw6
      have ft6 := sw6 _ _ ft
      have dn : H d = none := hd
      match i, hi, ex, ey, f6 with
      | 0, _, ex, ey, f6 =>
        cases ex
        cases ey
        have hw6 : WayAt H6 w (0, []) := ⟨t, fw, ft6⟩
        refine ⟨_, keyI p, f6.at_, rfl, by rw [dictI_len f6.len]; show 0 < sizeLine; omega, fun v hv => ?_, fun _ => ⟨_, _, _, rfl, Ask.Same.upd_new s6 dn, f6.put (x := (0, [])) (fun _ z => nomatch z) rp.2 (fun z => nomatch z) hw6⟩⟩
        rw [dictI_none rp.2 (es := begI p q 0) (fun _ z => nomatch z) (fun z => nomatch z)] at hv
        cases hv
      | 1, _, ex, ey, f6 =>
        cases ex
        cases ey
        have hw6 : WayAt H6 w (1, []) := ⟨t, fw, ft6⟩
        have d1 : ∀ e ∈ begI p q 1, Dg e.1 := fun e he => by rw [List.mem_singleton.mp he]; exact rp.2
        refine ⟨_, keyI q, f6.at_, rfl, by rw [dictI_len f6.len]; show 1 < sizeLine; omega, fun v hv => ⟨_, _, ws, rfl, s6, ?_⟩, fun hn => ⟨_, _, ws ++ [w], rfl, Ask.Same.upd_new s6 dn, ?_⟩⟩
        · have e : beg0 p q = begI p q 1 := by
            have m : q ∈ (begI p q 1).map (·.1) := Decidable.byContradiction fun z => by
              rw [dictI_none rq.2 d1 z] at hv
              cases hv
            exact if_pos m
          show DicI H6 d (beg0 p q) ws
          rw [e]
          exact f6
        · have z : q ∉ (begI p q 1).map (·.1) := fun m => by
            obtain ⟨e, he, eq⟩ := List.mem_map.mp m
            obtain ⟨n, hn'⟩ := List.mem_iff_getElem?.mp he
            have ln : n < ws.length := by rw [f6.len]; exact (List.getElem?_eq_some_iff.mp hn').1
            have e2 := dictI_some (es := begI p q 1) d1 (by show [p].Nodup; simp) hn' (List.getElem?_eq_getElem ln)
            rw [show e.1 = q from eq] at e2
            rw [e2] at hn
            cases hn
          have e : beg0 p q = begI p q 1 ++ [(q, (1, []))] := if_neg z
          show DicI _ d (beg0 p q) (ws ++ [w])
          rw [e]
          exact f6.put d1 rq.2 z hw6
    · rintro σ' H2 ⟨o3, o4, ws, rfl, s2, f2⟩
      replace f2 : DicI H2 d (bfs nx (beg0 p q) 0) ws := f2
      try dsimp only
      refine ⟨_, rfl, d, _, rfl, f2.at_, fun o ho => ?_⟩
      rw [dictI_keys f2.len]
      have s3 := Ask.Same.made1 (o := .lst ((bfs nx (beg0 p q) 0).map fun e => vN e.1.1)) s2 ho
      have f3 := f2.same (Ask.Same.made1 (o := .lst ((bfs nx (beg0 p q) 0).map fun e => vN e.1.1)) (Same.refl H2) ho)
      have o3' : upd H2 o (.lst ((bfs nx (beg0 p q) 0).map fun e => vN e.1.1)) o = some (.lst ((bfs nx (beg0 p q) 0).map fun e => vN e.1.1)) := upd_same
      have on : H o = none := s2.free ho
      generalize upd H2 o (.lst ((bfs nx (beg0 p q) 0).map fun e => vN e.1.1)) = H3 at s3 f3 o3' ⊢
      try dsimp only
      have inR : ∀ n, ∀ e ∈ bfs nx (beg0 p q) n, e.1.1 < M ∧ Dg e.1 := fun n => bfs_all (P := fun e => e.1.1 < M ∧ Dg e.1) (beg0_all rp rq) (fun x k wd hx j t ht => (rn x hx).2 t (List.mem_of_getElem? ht)) n
      have two : ∀ {x : Pr}, x.1 < M ∧ Dg x → x.1 < M ∧ x.2 < M := fun h => ⟨h.1, by rw [h.2]; exact h.1⟩
      have bound : ∀ n, (bfs nx (beg0 p q) n).length ≤ M * M := fun n => ents_le (bfs_nd (beg0_nd p q) n) fun e he => two (inR n e he)
      refine ⟨fun m σ' H' => ∃ (n : Nat) (ws : List Addr) (o3 o4 o7 o8 o9 : Option V), m = M * M + 1 - n ∧ σ' = [some (.ref st), some (.ref g), some (.ref d), o3, o4, some (.ref o), some (vN n), o7, o8, o9] ∧ Same H H' ∧ DicI H' d (bfs nx (beg0 p q) n) ws ∧ H' o = some (.lst ((bfs nx (beg0 p q) n).map fun e => vN e.1.1)) ∧ n ≤ (bfs nx (beg0 p q) n).length, ⟨_, 0, ws, _, _, none, none, none, rfl, rfl, s3, f3, o3', Nat.zero_le _⟩, ?_⟩
      rintro m σ' H4 ⟨n, ws, o3, o4, o7, o8, o9, rfl, rfl, s4, f4, e4, nle⟩
      have lb := bound n
      refine ⟨_, rfl, _, rfl, o, _, rfl, .inl (SqL.of e4), _, _, rfl, rfl, _, rfl, ?_⟩
      rw [List.length_map]
      by_cases lt : n < (bfs nx (beg0 p q) n).length
      · rw [decide_eq_true (show (n : Int) < ((bfs nx (beg0 p q) n).length : Nat) by omega)]
        refine iteT ⟨_, fun σ' H' h => h, ?_⟩
        have nl := lt
        obtain ⟨e, he⟩ : ∃ e, (bfs nx (beg0 p q) n)[n]? = some e := ⟨_, List.getElem?_eq_getElem nl⟩
        have dgn : ∀ e ∈ bfs nx (beg0 p q) n, Dg e.1 := fun e he => (inR n e he).2
        obtain ⟨wa, hwa⟩ : ∃ w, ws[n]? = some w := ⟨_, List.getElem?_eq_getElem (by rw [f4.len]; exact nl)⟩
        obtain ⟨t, hw1, hw2⟩ := f4.way n e wa he hwa
        have nd := bfs_nd (nx := nx) (beg0_nd p q) n
        refine ⟨_, rfl, _, rfl, o, _, _, vN e.1.1, rfl, rfl, SqL.of e4, at_by (j := n) rfl (by rw [List.getElem?_map, he]; rfl), ?_⟩
        try dsimp only
        refine ⟨_, rfl, _, rfl, d, .ref wa, rfl, by have z := DGet.k (k := keyI e.1) f4.at_; rw [dictI_some dgn nd he hwa] at z; exact z, wa, _, rfl, SqT.of hw1, rfl, _, _, rfl, _, _, rfl, rfl, ?_⟩
        try dsimp only
        refine ⟨rfl, hG.same s4, _, rfl, hG.same s4, onw _ e.1 _ _ s4 (inR n e (List.mem_of_getElem? he)) fun l hl => ?_⟩
        refine ⟨l, _, rfl, .inr ⟨hl, ?_⟩⟩
        have tl := (rn e.1 (inR n e (List.mem_of_getElem? he))).1
        have od : o ≠ d := fun z => by rw [z, f4.at_] at e4; cases e4
        refine for_it (walk_enumT (xs := (nx e.1).map fun y => vN y.1)) (fun i σ' H' => ∃ (ws : List Addr) (o8 o9 : Option V), σ' = [some (.ref st), some (.ref g), some (.ref d), some (.str (begS e.2.1)), some (vN e.1.1), some (.ref o), some (vN n), some (.ref t), o8, o9] ∧ Same H H' ∧ DicI H' d (expJ (nx e.1) e.2.1 e.2.2 i (bfs nx (beg0 p q) n)) ws ∧
          H' o = some (.lst ((expJ (nx e.1) e.2.1 e.2.2 i (bfs nx (beg0 p q) n)).map fun e => vN e.1.1)) ∧ ∀ b xs, SqT K H4 b xs → SqT K H' b xs) ⟨ws, o8, o9, rfl, s4, f4, e4, fun _ _ h => h⟩ (fun i σ' H' _ ⟨_, _, _, _, _, _, _, h⟩ => h _ _ hl) ?_ ?_
        · rintro i x σ' H6 H7 hi ⟨ws, o8, o9, rfl, s6, f6, e6, t6⟩ ⟨T0, x0, y0, rfl, hT0, rfl, ex, ey⟩
          cases ex
          have lts : i < (nx e.1).length := by simpa using hi
          obtain ⟨tn, htn⟩ : ∃ tn, (nx e.1)[i]? = some tn := ⟨_, List.getElem?_eq_getElem lts⟩
          obtain rfl : y0 = vN tn.1 := by
            dsimp only at ey
            rw [List.getElem?_map, htn] at ey
            exact (Option.some.inj ey).symm
          have rtn := (rn e.1 (inR n e (List.mem_of_getElem? he))).2 tn (List.mem_of_getElem? htn)
          have hT : upd H6 T0 (.tup [.int (i : Nat), vN tn.1]) T0 = some (.tup [.int (i : Nat), vN tn.1]) := upd_same
          have sT := Ask.Same.made1 (o := .tup [.int (i : Nat), vN tn.1]) (Same.refl H6) hT0
          generalize upd H6 T0 (.tup [.int (i : Nat), vN tn.1]) = H7 at hT sT ⊢
          have s7 := s6.trans sT
          have f7 := f6.same sT
          have e7 := sT _ _ e6
          have t7 : ∀ b xs, SqT K H4 b xs → SqT K H7 b xs := fun b xs h => seqT_same sT (t6 b xs h)
          have nd7 : ((expJ (nx e.1) e.2.1 e.2.2 i (bfs nx (beg0 p q) n)).map (·.1)).Nodup := expJ_nd i _ nd
          have es : expJ (nx e.1) e.2.1 e.2.2 (i + 1) (bfs nx (beg0 p q) n) = addE (expJ (nx e.1) e.2.1 e.2.2 i (bfs nx (beg0 p q) n)) tn (e.2.1, e.2.2 ++ [i]) := by
            rw [expJ, htn]
          have inE : ∀ x ∈ expJ (nx e.1) e.2.1 e.2.2 i (bfs nx (beg0 p q) n), x.1.1 < M ∧ Dg x.1 := expJ_all (P := fun e => e.1.1 < M ∧ Dg e.1) (fun j t ht => (rn e.1 (inR n e (List.mem_of_getElem? he))).2 t (List.mem_of_getElem? ht)) i _ (inR n)
          have lei : (expJ (nx e.1) e.2.1 e.2.2 i (bfs nx (beg0 p q) n)).length ≤ M * M := ents_le nd7 fun x hx => two (inE x hx)
          generalize expJ (nx e.1) e.2.1 e.2.2 i (bfs nx (beg0 p q) n) = ei at f7 e7 nd7 es lei inE ⊢
          have dE : ∀ x ∈ ei, Dg x.1 := fun x hx => (inE x hx).2
          refine ⟨T0, _, rfl, SqT.of hT, rfl, _, _, rfl, _, _, rfl, rfl, ?_⟩
          try dsimp only
          refine ⟨_, rfl, _, rfl, d, _, rfl, DGet.k (k := keyI tn) f7.at_, _, rfl, ?_⟩
          by_cases hm : tn ∈ ei.map (·.1)
          · obtain ⟨e', he', rfl⟩ := List.mem_map.mp hm
            obtain ⟨m, hm'⟩ := List.mem_iff_getElem?.mp he'
            rw [dictI_some dE nd7 hm' (List.getElem?_eq_getElem (by rw [f7.len]; exact (List.getElem?_eq_some_iff.mp hm').1))]
            refine iteF ⟨ws, _, _, rfl, s7, ?_, ?_, t7⟩
            · rw [es, addE, if_pos hm]
              exact f7
            · rw [es, addE, if_pos hm]
              exact e7
          · rw [dictI_none rtn.2 dE hm]
            refine iteT ?_
            have t8 := t7 _ _ (SqT.of hw2)
            have wl : e.2.2.length ≤ n := bfs_wl n e (List.mem_of_getElem? he)
            have nb : n ≤ M * M := Nat.le_trans nle (bound n)
            refine ⟨_, rfl, _, rfl, t, _, rfl, .inl t8, _, rfl, by rw [List.length_append, List.length_map]; show _ + 1 ≤ _; omega, fun t2 ht2 => ?_⟩
            have sA := Ask.Same.made1 (o := .tup (e.2.2.map vN ++ [.int (i : Nat)])) (Same.refl H7) ht2
            have fA : upd H7 t2 (.tup (e.2.2.map vN ++ [.int (i : Nat)])) t2 = some (.tup ((e.2.2 ++ [i]).map vN)) := by rw [upd_same, List.map_append]; rfl
            generalize upd H7 t2 (.tup (e.2.2.map vN ++ [.int (i : Nat)])) = H8 at sA fA ⊢
            refine ⟨by show 2 ≤ sizeLine; omega, fun w2 hw2 => ?_⟩
            have sB' := Ask.Same.made1 (o := .tup [.str (begS e.2.1), .ref t2]) (Same.refl H8) hw2
            have fB : upd H8 w2 (.tup [.str (begS e.2.1), .ref t2]) w2 = some (.tup [.str (begS e.2.1), .ref t2]) := upd_same
            generalize upd H8 w2 (.tup [.str (begS e.2.1), .ref t2]) = H9 at sB' fB ⊢
            have s79 := sA.trans sB'
            have s9 := s7.trans s79
            have f9 := f7.same s79
            have hw9 : WayAt H9 w2 (e.2.1, e.2.2 ++ [i]) := ⟨t2, fB, sB' _ _ fA⟩
            refine ⟨_, rfl, _, rfl, d, _, rfl, DPut.k (k := keyI tn) f9.at_ (by rw [dictI_len f9.len]; omega), ?_⟩
            have fC := f9.put (x := (e.2.1, e.2.2 ++ [i])) dE rtn.2 hm hw9
            have sC := Ask.Same.upd_new (o := .dK (putK (dictI ei ws) (keyI tn) (.ref w2))) s9 hd
            have off : ∀ b o', b ≠ d → H9 b = some o' → upd H9 d (.dK (putK (dictI ei ws) (keyI tn) (.ref w2))) b = some o' := fun b o' nb e => by rw [upd_ne nb]; exact e
            have eC := off _ _ od (s79 _ _ e7)
            have uC : ∀ b xs, SqT K H4 b xs → SqT K (upd H9 d (.dK (putK (dictI ei ws) (keyI tn) (.ref w2)))) b xs := fun b xs q => sqT_off f9.at_ (fun _ z => nomatch z) (fun _ _ z => nomatch z) (seqT_same s79 (t7 _ _ q))
            generalize upd H9 d (.dK (putK (dictI ei ws) (keyI tn) (.ref w2))) = HC at fC sC eC uC ⊢
            refine ⟨_, rfl, .inl ⟨rfl, _, SqL.of eC⟩, _, rfl, o, _, _, rfl, rfl, eC, by rw [List.length_map]; omega, ?_⟩
            have tD : ∀ b xs, HC b = some (.tup xs) → upd HC o (.lst ((ei.map fun e => vN e.1.1) ++ [vN tn.1])) b = some (.tup xs) := fun b xs q => by rw [upd_ne (ne_of q eC (fun z => nomatch z))]; exact q
            refine ⟨ws ++ [w2], _, _, rfl, Ask.Same.upd_new sC on, ?_, ?_, fun b xs q => sqT_off eC (fun _ z => nomatch z) (fun _ _ z => nomatch z) (uC _ _ q)⟩
            · rw [es, addE, if_neg hm]
              exact ⟨by rw [upd_ne od.symm]; exact fC.at_, fC.len, fun i e w h1 h2 => (fC.way i e w h1 h2).tups tD⟩
            · rw [es, addE, if_neg hm, upd_same, List.map_append]
              rfl
        · rintro σ' H6 ⟨ws, o8, o9, rfl, s6, f6, e6, t6⟩
          rw [List.length_map] at f6 e6
          have nxt : bfs nx (beg0 p q) (n + 1) = expJ (nx e.1) e.2.1 e.2.2 (nx e.1).length (bfs nx (beg0 p q) n) := by
            rw [bfs, he]
          try dsimp only
          refine ⟨_, rfl, _, _, rfl, rfl, _, ?_, n + 1, ws, _, _, _, _, _, rfl, rfl, s6, ?_, ?_, ?_⟩
          · omega
          · rw [nxt]
            exact f6
          · rw [nxt]
            exact e6
          · rw [nxt]
            obtain ⟨r, hr'⟩ := expJ_pre (nx e.1) e.2.1 e.2.2 (nx e.1).length (bfs nx (beg0 p q) n)
            rw [hr', List.length_append]
            omega
      · rw [decide_eq_false (show ¬ (n : Int) < ((bfs nx (beg0 p q) n).length : Nat) by omega)]
        refine iteF ?_
        try dsimp only
        exact ⟨_, rfl, kq _ d ws n s4 hd (by omega) (by omega) f4⟩
end
end Ask

namespace Ask
open PySem L2
section
variable {P : Program} {w : World} {K : PySem.W.Frag} {mg : Str → Option Value} {base : Heap}
def spReqE (CL CO : Addr) : Sp := fun vs H Q E => ∃ (m t m' t' : Addr) (ys zs : List Str), vs = [.ref m, .ref m'] ∧ Mde CL H m t ys ∧ Mde CL H m' t' zs ∧ Lts ys ∧ Lts zs ∧ (ys = zs → Q .non H) ∧ (ys ≠ zs → E (.ref CO) none H)
theorem ok_reqSameE {f fQ CL CO : Addr} {fd fdQ : FuncData} (F : Fun K "require_same" "require_same" s_require_same f fd)
    (GQ : FnOk P w K mg base CX0 1 fQ fdQ ["self", "other"] (spEq2 CL)) (bQ : Binds K fdQ ["self", "other"] []) (nQ : OwnNe K CL fQ) (EO : Err0 K mg "OtherLetters" CO) :
    FnOk P w K mg base (L2.CX P w) 3 f fd ["one", "other"] (spReqE CL CO) := by
  refine F.okX sc_require_same (fun vs H Q E h => ?_) (fun cdv A outer s H vs Q E hr h => ?_)
  · obtain ⟨m, t, m', t', ys, zs, rfl, _⟩ := h
    rfl
  · obtain ⟨m, t, m', t', ys, zs, rfl, h1, h2, l1, l2, kq, ke⟩ := h
    have h_eq := hr.mono (j := 2) (by decide)
    refine ⟨_, (pss_one (ps_if (pt_cmpR (op_neI (C := CL) (E := E0) GQ (by exact h_eq) bQ pass0 nQ) (pv 0) (pv 1) (nomark _)) (pss_one (ps_raise rfl (takes_of rfl rfl rfl rfl) (pmk_own0 PySem.F.excBase_ValueError EO.e EO.m EO.k (raises_own EO.b EO.t) (by rfl)))) pss_nil)), ?_⟩
    obtain ⟨d1, o1, e1, _⟩ := id h1
    obtain ⟨d2, o2, e2, _⟩ := id h2
    refine ⟨_, rfl, _, rfl, m, m', d1, d2, _, _, rfl, rfl, e1, e2, m, t, m', t', ys, zs, rfl, h1, h2, l1.fit, l2.fit, _, rfl, _, rfl, ?_⟩
    by_cases q : ys = zs
    · rw [show PyData.eqv (.tuple (ys.map PyData.str)) (.tuple (zs.map PyData.str)) = true from by rw [PyData.eqv, eqvAll_strs, decide_eq_true q]]
      exact iteF (kq q)
    · rw [show PyData.eqv (.tuple (ys.map PyData.str)) (.tuple (zs.map PyData.str)) = false from by rw [PyData.eqv, eqvAll_strs, decide_eq_false q]]
      exact iteT (ke q)
end
end Ask

namespace Ask
open PySem L2 LamX NdefX
/-- all stands but pens and tables of code objects -/
def Sv (H H' : Hp) : Prop := ∀ b o, H b = some o → (∀ ps, o ≠ .tbl ps) → (∀ kvs, o ≠ .dK kvs) → (∀ kvs, o ≠ .dT kvs) → H' b = some o
theorem Sv.of {H H' : Hp} (s : Same H H') : Sv H H' := fun b o e _ _ _ => s b o e
theorem Sv.ext {H H' : Hp} (s : ExtN H H') : Sv H H' := fun b o e n _ _ => s b o e n
theorem Sv.refl (H : Hp) : Sv H H := fun _ _ e _ _ _ => e
theorem Sv.trans {H H1 H2 : Hp} (a : Sv H H1) (b : Sv H1 H2) : Sv H H2 := fun c o e n k j => b c o (a c o e n k j) n k j
theorem Sv.kp {H H' : Hp} {p : Addr} {kvs : List (Key × V)} (k : Kp p H H') (hp : H p = some (.dK kvs)) : Sv H H' := fun b o e _ n _ => k b o (fun z => n kvs (by rw [z, hp] at e; exact (Option.some.inj e).symm)) e
theorem Sv.go {H H' : Hp} {p c : Addr} {ns : List Int} {B : Nat} (g : Go p c ns H H' B) : Sv H H' := by
  obtain ⟨A, b, l, h, _⟩ := g.base
  exact Sv.kp g.kp h
theorem Sv.tup {H H' : Hp} (s : Sv H H') {b : Addr} {xs : List V} (e : H b = some (.tup xs)) : H' b = some (.tup xs) := s b _ e (fun _ z => nomatch z) (fun _ z => nomatch z) (fun _ z => nomatch z)
theorem Sv.lst {H H' : Hp} (s : Sv H H') {b : Addr} {xs : List V} (e : H b = some (.lst xs)) : H' b = some (.lst xs) := s b _ e (fun _ z => nomatch z) (fun _ z => nomatch z) (fun _ z => nomatch z)
theorem Sv.ins {H H' : Hp} (s : Sv H H') {b C dx : Addr} {fs : List (Str × V)} (e : H b = some (.ins C dx fs)) : H' b = some (.ins C dx fs) := s b _ e (fun _ z => nomatch z) (fun _ z => nomatch z) (fun _ z => nomatch z)
theorem Sv.frz {H H' : Hp} (s : Sv H H') {b : Addr} {o : Obj} {u : HO} (e : H b = some (.frz o u)) : H' b = some (.frz o u) := s b _ e (fun _ z => nomatch z) (fun _ z => nomatch z) (fun _ z => nomatch z)
section
variable {K : PySem.W.Frag} {H H' : Hp} {a : Addr} {xs : List V} (s : Sv H H')
include s
theorem sqT_sv (h : SqT K H a xs) : SqT K H' a xs := by
  rcases h with (h | ⟨o, h⟩) | h
  · exact .inl (.inl (s.tup h))
  · exact .inl (.inr ⟨o, s.frz h⟩)
  · exact .inr h
theorem sqL_sv (h : SqL K H a xs) : SqL K H' a xs := by
  rcases h with (h | ⟨o, h⟩) | h
  · exact .inl (.inl (s.lst h))
  · exact .inl (.inr ⟨o, s.frz h⟩)
  · exact .inr h
theorem seqA_sv (h : SqL K H a xs ∨ SqT K H a xs) : SqL K H' a xs ∨ SqT K H' a xs := h.elim (fun z => .inl (sqL_sv s z)) fun z => .inr (sqT_sv s z)
theorem mde_sv {CL t : Addr} {ys : List Str} (h : Mde CL H a t ys) : Mde CL H' a t ys := by
  obtain ⟨dx, o, h1, h2, h3⟩ := h
  exact ⟨dx, o, s.ins h1, s.frz h2, h3⟩
theorem rowsN_sv {rs : List (List Nat)} (h : RowsN K H a rs) : RowsN K H' a rs := by
  obtain ⟨xs, h1, h2, h3⟩ := h
  exact ⟨xs, sqT_sv s h1, h2, fun i v r e1 e2 => let ⟨b, e, q⟩ := h3 i v r e1 e2; ⟨b, e, sqT_sv s q⟩⟩
theorem rowsV_sv {rs : List (List Nat)} (h : RowsV K H xs rs) : RowsV K H' xs rs := ⟨h.1, fun i v r e1 e2 => let ⟨b, e, q⟩ := h.2 i v r e1 e2; ⟨b, e, seqA_sv s q⟩⟩
theorem mac_sv {CL CM : Addr} {ys : List Str} {rs : List (List Nat)} {ans : List Str} {nw fo : Nat} (h : MacAt K CL CM H a ys rs ans nw fo) : MacAt K CL CM H' a ys rs ans nw fo := by
  obtain ⟨dx, m, t, ra, aa, h1, h2, h3, h4⟩ := h
  exact ⟨dx, m, t, ra, aa, s.ins h1, mde_sv s h2, rowsN_sv s h3, sqT_sv s h4⟩
theorem pairsV_sv {rs : List Run} (h : PairsV H xs rs) : PairsV H' xs rs := ⟨h.1, fun i v r e1 e2 => let ⟨b, e, q⟩ := h.2 i v r e1 e2; ⟨b, e, s.tup q⟩⟩
theorem hist_sv {CL CH : Addr} {ys : List Str} {b : Str} {rs : List Run} (h : HistAt K CL CH H a ys b rs) : HistAt K CL CH H' a ys b rs := by
  obtain ⟨dx, m, t, c, ks, h1, h2, h3, h4⟩ := h
  exact ⟨dx, m, t, c, ks, s.ins h1, mde_sv s h2, sqT_sv s h3, pairsV_sv s h4⟩
end
theorem LamIn.sv {H H' : Hp} {f : Addr} {F : LF} (l : LamIn H f F) (s : Sv H H') : LamIn H' f F :=
  ⟨s _ _ l.fn (fun ps z => by unfold LamO at z; cases z) (fun ps z => by unfold LamO at z; cases z) (fun ps z => by unfold LamO at z; cases z), s _ _ l.co (fun ps z => by unfold CodeO at z; cases z) (fun ps z => by unfold CodeO at z; cases z) (fun ps z => by unfold CodeO at z; cases z), fun p e => s.tup (l.df p e)⟩
/-- a def by its body, its code object known -/
theorem fun_okC {CX : CXT} {P : Program} {w : World} {K : PySem.W.Frag} {mg : Str → Option Value} {base : Heap} {x qual : Str} {st : Stmt} {f : Addr} {fd : FuncData} {N ps : List Str} {k : Nat} {sp : Sp} (F : Fun K x qual st f fd) (S : FnScope N ps (defScope st)) (len : ∀ vs H Q E, sp vs H Q E → vs.length = ps.length)
    (hbody : ∀ (A : Around) (outer : List Env) (s : Shared) (H : Hp) (vs : List V) (Q : VK) (E : XK), Room k (A.deeper (PyProof.Rows.envOfC qual (defScope st) s.heap.objs.size f fd.code)) → sp vs H Q E →
      ∃ t, PSs (cxOf CX P w K mg base N qual (defScope st) f fd.code A outer s H E) (defBody st) t ∧ t { nx := fun _ H' => Q .non H', rt := Q } (start N vs) H) : FnOk P w K mg base CX (k + 1) f fd ps sp := by
  obtain ⟨oc, od, kV, doc, pm, an, cdv, ct, osl, rfl, lk, hcd⟩ := F.ex
  exact fn_of lk hcd S len fun A outer s H vs Q E hr hsp => hbody A outer s H vs Q E hr hsp
end Ask

namespace Ask
open PySem L2 LamX NdefX
def argN : Nat → Expr → Expr
  | i, .Call _ as _ _ => as.getD i (.Constant .none 0 ⟨0, 0, 0, 0⟩)
  | _, e => e
def stE1 : Stmt → Expr
  | .Assign _ e _ => e
  | .Expr e _ => e
  | .Return (some e) _ => e
  | _ => .Constant .none 0 ⟨0, 0, 0, 0⟩
def lamP : Expr → Arguments
  | .Lambda p _ _ _ => p
  | _ => ⟨[], [], none, [], [], none, []⟩
def lamB : Expr → Expr
  | .Lambda _ b _ _ => b
  | e => e
def lamS (d : Scope) : Expr → Scope
  | .Lambda _ _ s _ => s
  | _ => d
abbrev s_Machine_reached : Stmt := inClass (top 69) 6
theorem sc_Machine_reached : FnScope ["self"] ["self"] (defScope s_Machine_reached) := ⟨rfl, rfl, rfl, by decide +kernel, rfl, by decide +kernel, by decide +kernel⟩
abbrev lam_re : Expr := argN 1 (stE1 ((defBody s_Machine_reached).getD 0 (.Pass ⟨0, 0, 0, 0⟩)))
abbrev LF_re (q : Str) (cl : List (Str × Addr)) (c : Addr) : LF := ⟨q, lamP lam_re, lamB lam_re, lamS (defScope s_Machine_reached) lam_re, cl, none, c⟩
theorem ns_re (q : Str) (cl : List (Str × Addr)) (c : Addr) : NScope ["state", "self"] ["state"] ["self"] (LF_re q cl c).scope := nscope_by (by show nscB _ _ _ (lamS (defScope s_Machine_reached) lam_re) = true; decide +kernel)
theorem nb_re : ndefB (defScope s_Machine_reached) (lamS (defScope s_Machine_reached) lam_re) ["self"] = true := by decide +kernel
theorem RowsOk.row {rs : List (List Nat)} {m s : Nat} (h : RowsOk rs m) (hs : s < rs.length) : ∃ r, rs[s]? = some r ∧ r.length = m ∧ ∀ j, j < m → r[j]? = some (mvN rs j s) := by
  have e : rs[s]? = some rs[s] := List.getElem?_eq_getElem hs
  refine ⟨rs[s], e, h.len _ (List.mem_of_getElem? e), fun j hj => ?_⟩
  obtain ⟨r, e1, e2, _⟩ := mvN_at h hj hs
  rw [e] at e1
  cases e1
  exact e2
theorem RowsN.at {K : PySem.W.Frag} {H : Hp} {a : Addr} {rs : List (List Nat)} {s : Nat} {r : List Nat} (h : RowsN K H a rs) (e : rs[s]? = some r) : ∃ xs b, SqT K H a xs ∧ xs[s]? = some (.ref b) ∧ SqT K H b (r.map vN) := by
  obtain ⟨xs, h1, h2, h3⟩ := h
  have l : s < xs.length := by rw [h2]; exact (List.getElem?_eq_some_iff.mp e).1
  obtain ⟨b, q, z⟩ := h3 s _ r (List.getElem?_eq_getElem l) e
  exact ⟨xs, b, h1, by rw [List.getElem?_eq_getElem l, q], z⟩
theorem row_nx {rs : List (List Nat)} {m : Nat} {x : Pr} {r : List Nat} (l : r.length = m) (h : ∀ j, j < m → r[j]? = some (mvN rs j x.1)) : (nxP rs rs m x).map (fun y => vN y.1) = r.map vN := by
  unfold nxP
  rw [List.map_map]
  refine List.ext_getElem? fun j => ?_
  rw [List.getElem?_map, List.getElem?_map]
  by_cases hj : j < m
  · rw [List.getElem?_range hj, h j hj]
    rfl
  · rw [List.getElem?_eq_none (by rw [List.length_range]; omega), List.getElem?_eq_none (by omega)]
    rfl
theorem nx1_in {rs : List (List Nat)} {m : Nat} (ok : RowsOk rs m) (lm : m ≤ 1000) : ∀ x : Pr, x.1 < rs.length ∧ Dg x → (nxP rs rs m x).length ≤ 1000 ∧ ∀ y ∈ nxP rs rs m x, y.1 < rs.length ∧ Dg y := fun x hx => by
  refine ⟨by rw [nxP_len]; exact lm, fun y hy => ?_⟩
  obtain ⟨j, hj⟩ := List.mem_iff_getElem?.mp hy
  obtain ⟨jm, rfl⟩ := nxP_at.mp hj
  exact ⟨(mvN_at ok jm hx.1).choose_spec.2.2, by show mvN rs j x.2 = mvN rs j x.1; rw [hx.2]⟩
section
variable {P : Program} {w : World} {K : PySem.W.Frag} {mg : Str → Option Value} {base : Heap}
def spLamRe (K : PySem.W.Frag) (CL CM : Addr) : List (Option V) → Sp := fun ws vs H Q _ => ∃ (p : Addr) (ys : List Str) (rs : List (List Nat)) (ans : List Str) (n1 f1 m : Nat) (x : Pr), ws = [some (.ref p)] ∧ vs = [vN x.1] ∧ MacAt K CL CM H p ys rs ans n1 f1 ∧ RowsOk rs m ∧ x.1 < rs.length ∧
  ∀ a : Addr, SqT K H a ((nxP rs rs m x).map fun y => vN y.1) → Q (.ref a) H
theorem lok_re {f c : Addr} {q : Str} {cl : List (Str × Addr)} {CL CM : Addr} (hM : MacC K CM) : LOk P w K mg base CX0 1 f (LF_re q cl c) ["self"] (spLamRe K CL CM) := by
  refine lok_of (ns_re q cl c) (LBinds.plain rfl fun doc pm ctv us hl => match us, hl with | [_], _ => rfl) (ds := []) (.inl ⟨rfl, rfl⟩) rfl (fun ws vs H Q E h => ?_) (fun A outer s H vs ws Q E hr hf hw h => ?_)
  · obtain ⟨p, ys, rs, ans, n1, f1, m, x, _, rfl, _⟩ := h
    rfl
  · obtain ⟨p, ys, rs, ans, n1, f1, m, x, rfl, rfl, hp, ok, l1, k⟩ := h
    refine ⟨_, (pe_ix ix_tup (pe_fld (pv 1) rfl) (pv 0) (fun _ _ => rfl)), ?_⟩
    obtain ⟨r1, e1, b1, c1⟩ := ok.row l1
    obtain ⟨d1, m1, t1, ra1, aa1, p1, p2, p3, p4⟩ := hp
    obtain ⟨xs, u, x1, x2, x3⟩ := p3.at e1
    exact ⟨_, rfl, p, CM, d1, _, _, rfl, p1, hM.c, hM.a2, rfl, _, rfl, ra1, xs, _, .ref u, rfl, rfl, x1, at_by (j := x.1) rfl x2, k u (by rw [row_nx b1 c1]; exact x3)⟩
def nx1 (rs : List (List Nat)) (m : Nat) : Pr → List Pr := nxP rs rs m
def spReached (T : List NTab) (K : PySem.W.Frag) (CL CM : Addr) : Sp := fun vs H Q _ => ∃ (p : Addr) (ys : List Str) (rs : List (List Nat)) (ans : List Str) (n1 f1 : Nat), vs = [.ref p] ∧ TabsN T H ∧ MacAt K CL CM H p ys rs ans n1 f1 ∧ MacOk ys rs ans n1 f1 ∧
  ∀ (H' : Hp) (d : Addr) (ws : List Addr) (N : Nat), ExtN H H' → TabsN T H' → H d = none → (bfs (nx1 rs ys.length) (beg0 (n1, n1) (f1, f1)) N).length ≤ N → N ≤ rs.length * rs.length → DicI H' d (bfs (nx1 rs ys.length) (beg0 (n1, n1) (f1, f1)) N) ws → Q (.ref d) H'
theorem ok_reached {T : List NTab} {nm : Nat → Nat → Str} {f fF c PT CL CM : Addr} {fd fdF : FuncData} (F : Fun K "reached" "Machine.reached" s_Machine_reached f fd) (hM : MacC K CM)
    (TB : TabB base mg c PT) (hcode : fd.code = .ref c) (hmT : (PT, nm) ∈ T) (hn : ∀ i j, nm i j = "Machine.reached.<locals>.<lambda>") (hu : ∀ p ∈ T, p.1 = PT → p.2 = nm)
    (G_first : FnOkH P w K mg base CX0 CX0 1 2 fF fdF ["starts", "onward"] (spFirstI K)) (A_first : At K mg "first_histories" fF fdF ["starts", "onward"]) :
    FnOk P w K mg base CX0 3 f fd ["self"] (spReached T K CL CM) := by
  refine fun_okC F sc_Machine_reached (fun vs H Q E h => ?_) (fun A outer s H vs Q E hr h => ?_)
  · obtain ⟨p, ys, rs, ans, n1, f1, rfl, _⟩ := h
    rfl
  · obtain ⟨p, ys, rs, ans, n1, f1, rfl, hT, hp, ok, kq⟩ := h
    have h_first := hr.mono (j := 2) (by decide)
    have z1 : (100000 : Nat) ≤ sizeLine := by decide
    refine ⟨_, (pss_one (ps_ret (pe_callH (E := E0) (L := fun σ f F sp => ∃ c', F = LF_re ((PyProof.Rows.envOfC "Machine.reached" (defScope s_Machine_reached) s.heap.objs.size f fd.code).qual ++ "<lambda>") (cloFrom (PyProof.Rows.envOfC "Machine.reached" (defScope s_Machine_reached) s.heap.objs.size f fd.code).cells (lamS (defScope s_Machine_reached) lam_re).names []) c' ∧ sp = spLamRe K CL CM ([0].map (slotAt σ))) G_first firstI_mono ?_ (by exact h_first) (by rfl) A_first.m A_first.k A_first.b pass0 (pa_cons (pe_tup (pa_cons (pe_fld (pv 0) rfl) (pa_cons (pe_fld (pv 0) rfl) pa_nil))) (pa_cons (pe_lamN (T := T) (nm := nm) TB hcode hmT ?_ hu ?_ rfl) pa_nil))))), ?_⟩
    · rintro pins σ H s I f F sp ⟨c', rfl, rfl⟩
      exact lamAt_of (lok_re hM) (Caps.made I.ok (ndef_free nb_re) (ndef_fr nb_re) rfl) I
    · exact (hn _ _).trans (by rfl)
    · exact ndef_free nb_re
    obtain ⟨d1, m1, t1, ra1, aa1, p1, p2, p3, p4⟩ := id hp
    refine ⟨_, rfl, p, CM, d1, _, _, rfl, p1, hM.c, hM.a4, rfl, _, rfl, p, CM, d1, _, _, rfl, p1, hM.c, hM.a5, rfl, by show 2 ≤ sizeLine; omega, fun a ha => ?_⟩
    have sA := Ask.Same.made1 (o := .tup [vN n1, vN f1]) (Same.refl H) ha
    have fA : upd H a (.tup [vN n1, vN f1]) a = some (.tup [vN n1, vN f1]) := upd_same
    generalize upd H a (.tup [vN n1, vN f1]) = H1 at sA fA ⊢
    refine ⟨hT.ext sA, fun g c' H4 ext low T4 g0 lin => ?_⟩
    have x4 : ExtN H H4 := (ExtN.of sA).trans ext
    have fA4 := (Sv.ext ext).tup fA
    have hp4 := mac_sv (Sv.ext x4) hp
    have lw : ∀ b, H4 b = none → H b = none := fun b z => sA.free (low b z)
    have l1 := ok.lts.l1
    have l40 := ok.len
    refine ⟨a, g, _, _, nx1 rs ys.length, rs.length, (n1, n1), (f1, f1), rfl, SqT.of fA4, lin, ⟨c', rfl, rfl⟩, ⟨ok.nw, rfl⟩, ⟨ok.fo, rfl⟩, nx1_in ok.rows (by omega), Nat.le_trans (Nat.mul_le_mul l40 l40) (by decide), ?_, fun H5 d ws n s5 dn hl hn5 hd => ?_⟩
    · intro H5 x Q' E' s5 hx k
      exact ⟨p, ys, rs, ans, n1, f1, ys.length, x, rfl, rfl, hp4.same s5, ok.rows, hx.1, k⟩
    · exact kq H5 d ws n (x4.trans (ExtN.of s5)) (T4.ext s5) (lw _ dn) hl hn5 hd
end
end Ask

namespace Ask
open PySem L2 LamX NdefX
/-- what may be asked: a state and a way to it -/
abbrev Spk := Nat × (Nat × List Nat)
def SpkAt (H : Hp) (gs : List Addr) (es : List Spk) : Prop := gs.length = es.length ∧ ∀ (i : Nat) (g : Addr) (e : Spk), gs[i]? = some g → es[i]? = some e → ∃ w, H g = some (.tup [vN e.1, .ref w]) ∧ WayAt H w e.2
theorem SpkAt.tups {H H' : Hp} {gs : List Addr} {es : List Spk} (h : SpkAt H gs es) (k : ∀ b xs, H b = some (.tup xs) → H' b = some (.tup xs)) : SpkAt H' gs es :=
  ⟨h.1, fun i g e a b => let ⟨w, z1, z2⟩ := h.2 i g e a b; ⟨w, k _ _ z1, z2.tups k⟩⟩
theorem SpkAt.snoc {H : Hp} {gs : List Addr} {es : List Spk} {g w : Addr} {e : Spk} (h : SpkAt H gs es) (z1 : H g = some (.tup [vN e.1, .ref w])) (z2 : WayAt H w e.2) : SpkAt H (gs ++ [g]) (es ++ [e]) := by
  refine ⟨by rw [List.length_append, List.length_append, h.1]; rfl, fun i a x h1 h2 => ?_⟩
  by_cases c : i < gs.length
  · rw [List.getElem?_append_left c] at h1
    rw [List.getElem?_append_left (by rw [← h.1]; exact c)] at h2
    exact h.2 i a x h1 h2
  · rw [List.getElem?_append_right (Nat.le_of_not_lt c)] at h1
    rw [List.getElem?_append_right (by rw [← h.1]; exact Nat.le_of_not_lt c), ← h.1] at h2
    cases z : i - gs.length with
    | succ m => rw [z] at h1; simp at h1
    | zero =>
      rw [z] at h1 h2
      obtain rfl : g = a := by simpa using h1
      obtain rfl : e = x := by simpa using h2
      exact ⟨w, z1, z2⟩
/-- a dict locked and set free -/
theorem lock_back {T : List NTab} {H2 H6 : Hp} {d : Addr} {od : Obj} {kvs : List (Key × V)} (hd : H2 d = some (.dK kvs)) (s6 : Same (upd H2 d (.frz od (.dK kvs))) H6) :
    (∀ b o', b ≠ d → H2 b = some o' → upd H6 d (.dK kvs) b = some o') ∧ (∀ b xs, H6 b = some (.tup xs) → upd H6 d (.dK kvs) b = some (.tup xs)) ∧ (∀ b xs, H6 b = some (.lst xs) → upd H6 d (.dK kvs) b = some (.lst xs)) ∧ (TabsN T H2 → TabsN T (upd H6 d (.dK kvs))) := by
  have fL : upd H2 d (.frz od (.dK kvs)) d = some (.frz od (.dK kvs)) := upd_same
  have e' := s6 _ _ fL
  have off : ∀ b o', b ≠ d → H2 b = some o' → upd H6 d (.dK kvs) b = some o' := fun b o' nb e => by rw [upd_ne nb]; exact s6 _ _ (by rw [upd_ne nb]; exact e)
  refine ⟨off, fun b xs e => by rw [upd_ne (ne_of e e' (fun z => nomatch z))]; exact e, fun b xs e => by rw [upd_ne (ne_of e e' (fun z => nomatch z))]; exact e, fun hT => ?_⟩
  rintro pq hpq
  obtain ⟨us, u1, u2, u3⟩ := hT pq hpq
  exact ⟨us, off _ _ (ne_of u1 hd (fun z => nomatch z)) u1, u2, fun pos cv hc => let ⟨c0, e1, e2⟩ := u3 pos cv hc; ⟨c0, e1, off _ _ (ne_of e2 hd (fun z => by unfold CodeO at z; cases z)) e2⟩⟩
theorem nx1_all {rs : List (List Nat)} {m n1 f1 : Nat} (ok : RowsOk rs m) (lm : m ≤ 1000) (hn : n1 < rs.length) (hf : f1 < rs.length) (N : Nat) : ∀ e ∈ bfs (nx1 rs m) (beg0 (n1, n1) (f1, f1)) N, e.1.1 < rs.length ∧ Dg e.1 := by
  have h0 : ∀ e ∈ beg0 (n1, n1) (f1, f1), e.1.1 < rs.length ∧ Dg e.1 := beg0_all (P := fun e => e.1.1 < rs.length ∧ Dg e.1) (a := (n1, n1)) (b := (f1, f1)) (And.intro hn (Eq.refl n1)) (And.intro hf (Eq.refl f1))
  exact bfs_all (P := fun e => e.1.1 < rs.length ∧ Dg e.1) h0 (fun x k wd hx j t ht => (nx1_in ok lm x hx).2 t (List.mem_of_getElem? ht)) N
def stepE (rs : List (List Nat)) (j : Option Nat) (e : Ent) : Spk := match j with
  | none => (e.1.1, e.2)
  | some j => (mvN rs j e.1.1, (e.2.1, e.2.2 ++ [j]))
section
variable {P : Program} {w : World} {K : PySem.W.Frag} {mg : Str → Option Value} {base : Heap}
def spSpoken (T : List NTab) (K : PySem.W.Frag) (CL CM : Addr) : Sp := fun vs H Q _ => ∃ (p : Addr) (ys : List Str) (rs : List (List Nat)) (ans : List Str) (n1 f1 : Nat) (k : Str) (lt : V) (j : Option Nat), vs = [.ref p, .str k, lt] ∧ TabsN T H ∧ MacAt K CL CM H p ys rs ans n1 f1 ∧ MacOk ys rs ans n1 f1 ∧
  (k = "behind" → ∃ i z, j = some i ∧ lt = .str z ∧ ys[i]? = some z) ∧ (k ≠ "behind" → j = none) ∧
  (k = "still" ∨ k = "fresh" → ∀ (H' : Hp) (L : Addr) (gs : List Addr), ExtN H H' → TabsN T H' → H' L = some (.lst (gs.map V.ref)) → SpkAt H' gs [(n1, (0, []))] → Q (.ref L) H') ∧
  (¬ (k = "still" ∨ k = "fresh") → ∀ (H' : Hp) (L : Addr) (gs : List Addr) (N : Nat), ExtN H H' → TabsN T H' → (bfs (nx1 rs ys.length) (beg0 (n1, n1) (f1, f1)) N).length ≤ N → N ≤ rs.length * rs.length → H' L = some (.lst (gs.map V.ref)) →
    SpkAt H' gs ((bfs (nx1 rs ys.length) (beg0 (n1, n1) (f1, f1)) N).map (stepE rs j)) → Q (.ref L) H')

abbrev s_Machine_spoken : Stmt := inClass (top 69) 9
theorem sc_Machine_spoken : FnScope ["self", "kind", "letter", "ways", "rank", "state"] ["self", "kind", "letter"] (defScope s_Machine_spoken) := ⟨rfl, rfl, rfl, by decide +kernel, rfl, by decide +kernel, by decide +kernel⟩
theorem ok_spoken {T : List NTab} {f fR fQ CL CM CE : Addr} {fd fdR fdQ : FuncData} (F : Fun K "spoken" "Machine.spoken" s_Machine_spoken f fd) (Bl : Blt mg) (hM : MacC K CM) (hC : Cls K CL)
    (GQ : FnOk P w K mg base CX0 3 fQ fdQ ["self"] (spReached T K CL CM)) (bQ : Binds K fdQ ["self"] []) (mQ : Meth K CM "reached" fQ)
    (GR : FnOk P w K mg base (L2.CX P w) 4 fR fdR ["self", "x"] (spRank CL CE)) (bR : Binds K fdR ["self", "x"] []) (mR : Meth K CL "rank" fR) :
    FnOk P w K mg base CX0 5 f fd ["self", "kind", "letter"] (spSpoken T K CL CM) := by
  refine F.ok sc_Machine_spoken (fun vs H Q E h => ?_) (fun cdv A outer s H vs Q E hr h => ?_)
  · obtain ⟨p, ys, rs, ans, n1, f1, k, lt, j, rfl, _⟩ := h
    rfl
  · obtain ⟨p, ys, rs, ans, n1, f1, k, lt, j, rfl, hT, hp, ok, hb, hnb, k1, k2⟩ := h
    have hu := hu_of hr
    have h3 := hr.mono (j := 3) (by decide)
    have z1 : (100000 : Nat) ≤ sizeLine := by decide
    refine ⟨_, (pss_cons (ps_if (pt_cmpR op_in_seq (pv 1) (pe_tup (pa_cons pe_str (pa_cons pe_str pa_nil))) rfl) (pss_one (ps_ret (pe_lst (pa_cons (pe_tup (pa_cons (pe_fld (pv 0) rfl) (pa_cons (pe_tup (pa_cons pe_str (pa_cons (pe_tup pa_nil) pa_nil))) pa_nil))) pa_nil)))) pss_nil)
      (pss_cons (ps_set (i := 3) sc_Machine_spoken.nd rfl (Or.inr rfl) (pe_meth0 (pv 0) hM.c mQ GQ h3 bQ .nil pass0))
      (pss_cons (ps_if (pt_cmpR op_ne (pv 1) pe_str (nomark _)) (pss_one (ps_ret (pe_lock (pe_lc (own := [("state", 5)]) rfl sc_Machine_spoken.nd (pi_keys (pv 3)) (blkOk_by (N := ["self", "kind", "letter", "ways", "rank", "state"]) (sc := defScope s_Machine_spoken) (by decide +kernel)) (fun _ _ _ _ _ => (pg_name (i := 5) sc_Machine_spoken.nd rfl (Or.inl rfl))) (fun _ _ _ _ _ => pts_nil) (fun _ _ _ _ _ => (pe_tup (pa_cons (pv 5) (pa_cons (pe_dget hu (pv 3) (pv 5) (fun _ _ => rfl)) pa_nil)))))))) pss_nil)
      (pss_cons (ps_set (i := 4) sc_Machine_spoken.nd rfl (Or.inr rfl) (pe_meth (pe_fld (pv 0) rfl) hC mR GR hr bR .nil passE (pa_cons (pv 2) pa_nil)))
      (pss_one (ps_ret (pe_lock (pe_lc (own := [("state", 5)]) rfl sc_Machine_spoken.nd (pi_keys (pv 3)) (blkOk_by (N := ["self", "kind", "letter", "ways", "rank", "state"]) (sc := defScope s_Machine_spoken) (by decide +kernel)) (fun _ _ _ _ _ => (pg_name (i := 5) sc_Machine_spoken.nd rfl (Or.inl rfl))) (fun _ _ _ _ _ => pts_nil) (fun _ _ _ _ _ => (pe_tup (pa_cons (pe_ix (show IxR _ (rIxT K) from ix_tup) (pe_ix (show IxR _ (rIxT K) from ix_tup) (show PE _ _ (tFld K _ "rows") from pe_fld (pv 0) rfl) (pv 5) (fun _ _ => rfl)) (pv 4) (fun _ _ => rfl)) (pa_cons (pe_tup (pa_cons (pe_ix (show IxR _ (rIxT K) from ix_tup) (pe_dget hu (pv 3) (pv 5) (fun _ _ => rfl)) pe_int (fun _ _ => rfl)) (pa_cons (pe_tup (show PA _ _ (StX.tStar K _ _) from StX.pa_star (pe_ix (show IxR _ (rIxT K) from ix_tup) (pe_dget hu (pv 3) (pv 5) (fun _ _ => rfl)) pe_int (fun _ _ => rfl)) (pa_cons (pv 4) pa_nil))) pa_nil))) pa_nil)))))))))))), ?_⟩
    have l1 := ok.lts.l1
    have lr40 := ok.len
    obtain ⟨d1, m1, t1, ra1, aa1, p1, p2, p3, p4⟩ := id hp
    refine ⟨_, rfl, by show 2 ≤ sizeLine; omega, fun t0 ht0 => ?_⟩
    have s1 := Ask.Same.made1 (o := .tup [.str "still", .str "fresh"]) (Same.refl H) ht0
    have e1 : upd H t0 (.tup [.str "still", .str "fresh"]) t0 = some (.tup [.str "still", .str "fresh"]) := upd_same
    generalize upd H t0 (.tup [.str "still", .str "fresh"]) = H1 at s1 e1 ⊢
    refine ⟨t0, [.str "still", .str "fresh"], rfl, .inr (SqT.of e1), rfl, rfl, _, rfl, ?_⟩
    rw [show (if false = true then !inV (.str k) [.str "still", .str "fresh"] else inV (.str k) [.str "still", .str "fresh"]) = decide (k ∈ (["still", "fresh"] : List Str)) from inV_str k ["still", "fresh"]]
    by_cases sf : k = "still" ∨ k = "fresh"
    · rw [decide_eq_true (show k ∈ (["still", "fresh"] : List Str) by simpa using sf)]
      refine iteT ?_
      replace k1 := k1 sf
      refine ⟨_, rfl, p, CM, d1, _, _, rfl, s1 _ _ p1, hM.c, hM.a4, rfl, Nat.zero_le _, fun w0 hw0 => ?_⟩
      have s2 := Ask.Same.made1 (o := .tup []) (Same.refl H1) hw0
      have e2 : upd H1 w0 (.tup []) w0 = some (.tup []) := upd_same
      generalize upd H1 w0 (.tup []) = H2 at s2 e2 ⊢
      refine ⟨by show 2 ≤ sizeLine; omega, fun w1 hw1 => ?_⟩
      have s3 := Ask.Same.made1 (o := .tup [.str "new", .ref w0]) (Same.refl H2) hw1
      have e3 : upd H2 w1 (.tup [.str "new", .ref w0]) w1 = some (.tup [.str "new", .ref w0]) := upd_same
      generalize upd H2 w1 (.tup [.str "new", .ref w0]) = H3 at s3 e3 ⊢
      refine ⟨by show 2 ≤ sizeLine; omega, fun g hg => ?_⟩
      have s4 := Ask.Same.made1 (o := .tup [vN n1, .ref w1]) (Same.refl H3) hg
      have e4 : upd H3 g (.tup [vN n1, .ref w1]) g = some (.tup [vN n1, .ref w1]) := upd_same
      generalize upd H3 g (.tup [vN n1, .ref w1]) = H4 at s4 e4 ⊢
      refine ⟨by show 1 ≤ sizeLine; omega, fun L hL => ?_⟩
      have s14 := ((s1.trans s2).trans s3).trans s4
      have s5 := Ask.Same.made1 (o := .lst [.ref g]) (Same.refl H4) hL
      refine k1 _ L [g] (ExtN.of (s14.trans s5)) (hT.ext (s14.trans s5)) upd_same ⟨rfl, fun i a e h1 h2 => ?_⟩
      match i, h1, h2 with
      | 0, h1, h2 =>
        cases h1
        cases h2
        exact ⟨w1, s5 _ _ e4, w0, s5 _ _ (s4 _ _ e3), s5 _ _ (s4 _ _ (s3 _ _ e2))⟩
    rw [decide_eq_false (show ¬ k ∈ (["still", "fresh"] : List Str) by simpa using sf)]
    refine iteF ?_
    replace k2 := k2 sf
    clear k1
    try dsimp only [tNext]
    have hp1 := hp.same s1
    refine ⟨_, rfl, p, d1, _, rfl, s1 _ _ p1, rfl, p, ys, rs, ans, n1, f1, rfl, hT.ext s1, hp1, ok, fun H2 d ws N x2 T2 dn cl nle hd => ?_⟩
    have x02 : ExtN H H2 := (ExtN.of s1).trans x2
    have hp2 := mac_sv (Sv.ext x2) hp1
    have dn0 : H d = none := s1.free dn
    have inR := nx1_all ok.rows (by omega) ok.nw ok.fo N
    have nd := bfs_nd (nx := nx1 rs ys.length) (beg0_nd (n1, n1) (f1, f1)) N
    have wlE : ∀ e ∈ bfs (nx1 rs ys.length) (beg0 (n1, n1) (f1, f1)) N, e.2.2.length ≤ N := bfs_wl N
    have n16 : rs.length * rs.length ≤ 1600 := Nat.mul_le_mul lr40 lr40
    replace k2 := fun H' L gs a b => k2 H' L gs N a b cl nle
    have l16 : (bfs (nx1 rs ys.length) (beg0 (n1, n1) (f1, f1)) N).length ≤ 1600 := by omega
    generalize bfs (nx1 rs ys.length) (beg0 (n1, n1) (f1, f1)) N = es at *
    have dE : ∀ e ∈ es, Dg e.1 := fun e he => (inR e he).2
    have fL : ∀ od, upd H2 d (.frz od (.dK (dictI es ws))) d = some (.frz od (.dK (dictI es ws))) := fun od => upd_same
    have back : ∀ od H6, Same (upd H2 d (.frz od (.dK (dictI es ws)))) H6 → _ := fun od H6 s6 => lock_back (T := T) hd.at_ s6
    have offd : ∀ od b xs, H2 b = some (.tup xs) → upd H2 d (.frz od (.dK (dictI es ws))) b = some (.tup xs) := fun od b xs e => by rw [upd_ne (ne_of e hd.at_ (fun z => nomatch z))]; exact e
    have xE : ∀ od H6, Same (upd H2 d (.frz od (.dK (dictI es ws)))) H6 → ExtN H (upd H6 d (.dK (dictI es ws))) := fun od H6 s6 b o e n => (back od H6 s6).1 b o (fun z => by subst z; rw [dn0] at e; cases e) (x02 b o e n)
    clear x2 s1 e1 hp1 dn
    try dsimp only
    refine ⟨_, rfl, rfl, _, rfl, ?_⟩
    by_cases kb : k = "behind"
    · rw [show (!decide (V.str k = V.str "behind")) = false from by rw [kb, decide_eq_true rfl]; rfl]
      refine iteF ?_
      try dsimp only [tNext]
      obtain ⟨jj, z, rfl, rfl, ez⟩ := hb kb
      obtain ⟨d2, m2, t2, ra2, aa2, q1, q2, q3, q4⟩ := id hp2
      obtain ⟨dl, ol, hm, ht, hol⟩ := id q2
      refine ⟨_, rfl, p, CM, d2, _, _, rfl, q1, hM.c, hM.a1, rfl, m2, dl, _, rfl, hm, rfl, _, rfl, m2, t2, ys, _, rfl, q2, ok.lts.nd, .inl ⟨jj, z, rfl, ez, fun H3 s3 => ?_⟩⟩
      try dsimp only
      have x03 := x02.trans (ExtN.of s3)
      have T3 := T2.ext s3
      have hd3 := hd.same s3
      have hp3 := hp2.same s3
      have jl : jj < ys.length := (List.getElem?_eq_some_iff.mp ez).1
      refine ⟨d, _, hd3.at_, True.intro, fun od => ?_⟩
      have fL3 : upd H3 d (.frz od (.dK (dictI es ws))) d = some (.frz od (.dK (dictI es ws))) := upd_same
      have back3 := fun H6 (s6 : Same (upd H3 d (.frz od (.dK (dictI es ws)))) H6) => lock_back (T := T) hd3.at_ s6
      have off3 : ∀ b xs, H3 b = some (.tup xs) → upd H3 d (.frz od (.dK (dictI es ws))) b = some (.tup xs) := fun b xs e => by rw [upd_ne (ne_of e hd3.at_ (fun z => nomatch z))]; exact e
      have xE3 : ∀ H6, Same (upd H3 d (.frz od (.dK (dictI es ws)))) H6 → ExtN H (upd H6 d (.dK (dictI es ws))) := fun H6 s6 b o e n => (back3 H6 s6).1 b o (fun z => by subst z; rw [dn0] at e; cases e) (x03 b o e n)
      have svL : Sv H3 (upd H3 d (.frz od (.dK (dictI es ws)))) := fun b o e _ k _ => by rw [upd_ne (fun z => by subst z; rw [hd3.at_] at e; exact k _ (Option.some.inj e).symm)]; exact e
      have hpL := mac_sv svL hp3
      refine ⟨_, rfl, d, od, rfl, .inl ⟨_, fL3, fun D hD => ?_⟩⟩
      generalize upd H3 d (.frz od (.dK (dictI es ws))) = HL at *
      refine lc_it (walk_keys (kvs := dictI es ws)) (fun i H' => ∃ gs : List Addr, H' D = some (.lst (gs.map V.ref)) ∧ Same HL H' ∧ SpkAt H' gs ((es.take i).map (stepE rs (some jj)))) ⟨[], upd_same, Ask.Same.upd_new (Same.refl _) hD, rfl, fun i g e h => by simp at h⟩ (fun i H' _ ⟨_, _, s', _⟩ => s' _ _ fL3) ?_ ?_
      · rintro i v H6 H7 hi ⟨gs, eD, s6, wG⟩ ⟨rfl, k0, v0, hk, rfl⟩
        obtain ⟨e, wa, he, hwa, rfl, rfl⟩ := dictI_get hk
        have tk : (es.take (i + 1)).map (stepE rs (some jj)) = (es.take i).map (stepE rs (some jj)) ++ [stepE rs (some jj) e] := by rw [List.take_add_one, he, List.map_append]; rfl
        obtain ⟨t9, wy1, wy2⟩ := ((hd3.way i e wa he hwa).tups off3).tups (same_tups s6)
        have em := List.mem_of_getElem? he
        obtain ⟨r1, er1, _, c1⟩ := ok.rows.row (inR e em).1
        obtain ⟨d5, m5, t5, ra5, aa5, w1, w2, w3, w4⟩ := hpL.same s6
        obtain ⟨xs5, u5, y1, y2, y3⟩ := w3.at er1
        have dg : DGet H7 d (vN e.1.1) (some (.ref wa)) := .inl ⟨dictI es ws, keyI e.1, .inr ⟨od, s6 _ _ fL3⟩, rfl, (dictI_some dE nd he hwa).symm⟩
        refine ⟨rfl, _, rfl, p, CM, d5, _, _, rfl, w1, hM.c, hM.a2, rfl, _, rfl, ra5, xs5, _, .ref u5, rfl, rfl, y1, at_by (j := e.1.1) rfl y2, _, rfl, u5, _, _, vN (mvN rs jj e.1.1), rfl, rfl, y3, at_by (j := jj) rfl (by rw [List.getElem?_map, c1 jj jl]; rfl), ?_⟩
        refine ⟨_, rfl, _, rfl, d, .ref wa, rfl, dg, wa, _, _, .str (begS e.2.1), rfl, rfl, SqT.of wy1, at_by (j := 0) rfl rfl, ?_⟩
        refine ⟨_, rfl, _, rfl, d, .ref wa, rfl, dg, wa, _, _, .ref t9, rfl, rfl, SqT.of wy1, at_by (j := 1) rfl rfl, t9, _, rfl, .inl (SqT.of wy2), _, rfl, ?_⟩
        have wl9 := wlE e em
        refine ⟨by rw [List.length_append, List.length_map]; show _ + 1 ≤ sizeLine; omega, fun g1 hg1 => ?_⟩
        have sa := Ask.Same.made1 (o := .tup (e.2.2.map vN ++ [.int (jj : Nat)])) (Same.refl H7) hg1
        have ea : upd H7 g1 (.tup (e.2.2.map vN ++ [.int (jj : Nat)])) g1 = some (.tup ((e.2.2 ++ [jj]).map vN)) := by rw [upd_same, List.map_append]; rfl
        generalize upd H7 g1 (.tup (e.2.2.map vN ++ [.int (jj : Nat)])) = H8 at sa ea ⊢
        refine ⟨by show 2 ≤ sizeLine; omega, fun g2 hg2 => ?_⟩
        have sb := Ask.Same.made1 (o := .tup [.str (begS e.2.1), .ref g1]) (Same.refl H8) hg2
        have eb : upd H8 g2 (.tup [.str (begS e.2.1), .ref g1]) g2 = some (.tup [.str (begS e.2.1), .ref g1]) := upd_same
        generalize upd H8 g2 (.tup [.str (begS e.2.1), .ref g1]) = H9 at sb eb ⊢
        refine ⟨by show 2 ≤ sizeLine; omega, fun g hg => ?_⟩
        have sc := Ask.Same.made1 (o := .tup [vN (mvN rs jj e.1.1), .ref g2]) (Same.refl H9) hg
        have ec : upd H9 g (.tup [vN (mvN rs jj e.1.1), .ref g2]) g = some (.tup [vN (mvN rs jj e.1.1), .ref g2]) := upd_same
        generalize upd H9 g (.tup [vN (mvN rs jj e.1.1), .ref g2]) = HA at sc ec ⊢
        have s7 := (sa.trans sb).trans sc
        have eD7 := s7 _ _ eD
        have gl : gs.length ≤ 1600 := by rw [wG.1, List.length_map, List.length_take]; omega
        refine ⟨_, eD7, by rw [List.length_map]; omega, gs ++ [g], by rw [upd_same, List.map_append]; rfl, Ask.Same.upd_new (s6.trans s7) hD, ?_⟩
        rw [tk]
        exact ((wG.tups (same_tups s7)).snoc (e := stepE rs (some jj) e) ec ⟨g1, sc _ _ eb, sc _ _ (sb _ _ ea)⟩).tups fun b xs q => by rw [upd_ne (ne_of q eD7 (fun z => nomatch z))]; exact q
      · rintro H6 ⟨gs, eD, s6, wG⟩
        rw [dictI_len hd3.len, List.take_length] at wG
        obtain ⟨b1, b2, b3, b4⟩ := back3 H6 s6
        exact ⟨s6 _ _ fL3, k2 _ D gs (xE3 H6 s6) (b4 T3) (b3 _ _ eD) (wG.tups b2)⟩
    · rw [show (!decide (V.str k = V.str "behind")) = true from by rw [decide_eq_false (fun z => kb (V.str.inj z))]; rfl]
      refine iteT ?_
      obtain rfl := hnb kb
      refine ⟨d, _, hd.at_, True.intro, fun od => ?_⟩
      refine ⟨_, rfl, d, od, rfl, .inl ⟨_, fL od, fun D hD => ?_⟩⟩
      refine lc_it (walk_keys (kvs := dictI es ws)) (fun i H' => ∃ gs : List Addr, H' D = some (.lst (gs.map V.ref)) ∧ Same (upd H2 d (.frz od (.dK (dictI es ws)))) H' ∧ SpkAt H' gs ((es.take i).map (stepE rs none))) ⟨[], upd_same, Ask.Same.upd_new (Same.refl _) hD, rfl, fun i g e h => by simp at h⟩ (fun i H' _ ⟨_, _, s', _⟩ => s' _ _ (fL od)) ?_ ?_
      · rintro i v H6 H7 hi ⟨gs, eD, s6, wG⟩ ⟨rfl, k0, v0, hk, rfl⟩
        obtain ⟨e, wa, he, hwa, rfl, rfl⟩ := dictI_get hk
        have tk : (es.take (i + 1)).map (stepE rs none) = (es.take i).map (stepE rs none) ++ [stepE rs none e] := by rw [List.take_add_one, he, List.map_append]; rfl
        have wy := ((hd.way i e wa he hwa).tups (offd od)).tups (same_tups s6)
        refine ⟨rfl, _, rfl, _, rfl, _, rfl, d, .ref wa, rfl, .inl ⟨dictI es ws, keyI e.1, .inr ⟨od, s6 _ _ (fL od)⟩, rfl, (dictI_some dE nd he hwa).symm⟩, by show 2 ≤ sizeLine; omega, fun g hg => ?_⟩
        have s7 := Ask.Same.made1 (o := .tup [vN e.1.1, .ref wa]) (Same.refl H7) hg
        have e7 : upd H7 g (.tup [vN e.1.1, .ref wa]) g = some (.tup [vN e.1.1, .ref wa]) := upd_same
        have eD7 := s7 _ _ eD
        have gl : gs.length ≤ 1600 := by rw [wG.1, List.length_map, List.length_take]; omega
        refine ⟨_, eD7, by rw [List.length_map]; omega, gs ++ [g], by rw [upd_same, List.map_append]; rfl, Ask.Same.upd_new (s6.trans s7) hD, ?_⟩
        rw [tk]
        exact ((wG.tups (same_tups s7)).snoc (e := stepE rs none e) e7 (wy.tups (same_tups s7))).tups fun b xs q => by rw [upd_ne (ne_of q eD7 (fun z => nomatch z))]; exact q
      · rintro H6 ⟨gs, eD, s6, wG⟩
        rw [dictI_len hd.len, List.take_length] at wG
        obtain ⟨b1, b2, b3, b4⟩ := back od H6 s6
        exact ⟨s6 _ _ (fL od), k2 _ D gs (xE od H6 s6) (b4 T2) (b3 _ _ eD) (wG.tups b2)⟩
end
end Ask

namespace Ask
open PySem L2
theorem flat_strs (ys : List Str) : (ys.map V.str).all flatV = true := by
  rw [List.all_eq_true]
  intro y hy
  obtain ⟨z, _, rfl⟩ := List.mem_map.mp hy
  rfl
section
variable {P : Program} {w : World} {K : PySem.W.Frag} {mg : Str → Option Value} {base : Heap}
/-! ### the one form, by the law -/
def spNormal (K : PySem.W.Frag) : Sp := fun vs H Q _ => ∃ (a tr : Addr) (ys : List Str) (k x : Str) (s : V), vs = [.ref a, .ref tr] ∧ SqL K H a (ys.map V.str) ∧ H tr = some (.tup [.str k, .str x, s]) ∧ x ∈ ys ∧ (k ∉ LK → ∃ y, s = .str y ∧ y ∈ ys) ∧ (k ∈ LK → s = .non) ∧
  ∀ (H' : Hp) (q : Addr), Same H H' → H' q = some (.tup (nfT ys k x s)) → Q (.ref q) H'
/-! ### a drawn sentence -/
/-- a letter or nothing, as the kind wants it -/
def SOk (ys : List Str) (k : Str) (s : V) : Prop := (k ∉ LK → ∃ y, s = .str y ∧ y ∈ ys) ∧ (k ∈ LK → s = .non)
/-- a triple that is a sentence -/
def DrOk (ys : List Str) (k x : Str) (s : V) : Prop := k ∈ KL ∧ x ∈ ys ∧ SOk ys k s ∧ ¬ (k = "alike" ∧ V.str x = s)
theorem DrOk.lone {ys : List Str} {k x : Str} (h : k ∈ LK) (hk : k ∈ KL) (hx : x ∈ ys) : DrOk ys k x .non := ⟨hk, hx, ⟨fun z => absurd h z, fun _ => rfl⟩, fun z => by cases z.2⟩
theorem DrOk.two {ys : List Str} {k x y : Str} (h : k ∉ LK) (hk : k ∈ KL) (hx : x ∈ ys) (hy : y ∈ ys) (n : ¬ (k = "alike" ∧ x = y)) : DrOk ys k x (.str y) := ⟨hk, hx, ⟨fun _ => ⟨y, rfl, hy⟩, fun z => absurd z h⟩, fun z => n ⟨z.1, V.str.inj z.2⟩⟩
def spDrawn (K : PySem.W.Frag) : Sp := fun vs H Q _ => ∃ (p c : Addr) (ns : List Int) (B : Nat) (a : Addr) (ys : List Str), vs = [.ref p, .ref a] ∧ Pen c ns H p B ∧ B ≤ 500000000 ∧ SqL K H a (ys.map V.str) ∧ 0 < ys.length ∧ ys.length ≤ 1000 ∧
  ∀ (H' : Hp) (q : Addr) (k x : Str) (s : V), Go p c ns H H' (B + 3) → H' q = some (.tup [.str k, .str x, s]) → DrOk ys k x s → Q (.ref q) H'
end
end Ask

namespace Ask
open PySem L2
theorem vals_rev : ∀ {xs : List V} {us : List Value}, Vals xs us → Vals xs.reverse us.reverse
  | _, _, .nil => .nil
  | _, _, .cons r t => by
    rw [List.reverse_cons, List.reverse_cons]
    exact (vals_rev t).append (.cons r .nil)
/-- the ways in which a machine's arguments are written -/
structure MacB (K : PySem.W.Frag) (fd : FuncData) : Prop where
  b0 : ∃ ds, Vals [.int 0, .int 0] ds ∧ Binds K fd ["self", "letters", "rows", "answers", "new", "found"] ds
  bF : ∃ g, KBn K fd ["self", "letters", "rows", "answers", "new", "found"] 4 ["found"] g (fun vs zs => vs ++ [.int 0] ++ zs)
  bFN : ∃ g, KBn K fd ["self", "letters", "rows", "answers", "new", "found"] 4 ["found", "new"] g (fun vs zs => vs ++ zs.reverse)
  bNF : ∃ g, KBn K fd ["self", "letters", "rows", "answers", "new", "found"] 4 ["new", "found"] g (fun vs zs => vs ++ zs)
theorem mac_binds {K : PySem.W.Frag} {f : Addr} {fd : FuncData} (F : FunD K "__init__" "Machine.__init__" (defArgs s_Machine___init__) (defBody s_Machine___init__) (defScope s_Machine___init__) [] [("new", .int 0), ("found", .int 0)] f fd) : MacB K fd := by
  refine ⟨?_, ?_, ?_, ?_⟩
  · exact F.binds0 (ps := ["self", "letters", "rows", "answers", "new", "found"]) 4 (by simp) rfl fun D doc pm an cdv ct us ks h1 h2 => match us, h1, ks, h2 with
      | [_, _, _, _], _, [_, _], _ => ⟨_, _, _, _, _, _, rfl, rfl, _, _, _, _, _, _, rfl, rfl, rfl⟩
  · obtain ⟨mv, h⟩ := F.kbinds0 (ps := ["self", "letters", "rows", "answers", "new", "found"]) 4 ["found"] [("new", .int 0)] (fun vs mz zs => vs ++ mz ++ zs) (by simp) (by simp) (fun r1 r2 r3 => (r1.append r2).append r3) fun D doc pm an cdv ct us mv ws h1 h2 h3 => match us, h1, mv, h2, ws, h3 with
      | [_, _, _, _], _, [_], _, [_], _ => ⟨_, _, _, _, _, _, rfl, rfl, rfl⟩
    exact ⟨_, h⟩
  · obtain ⟨mv, h⟩ := F.kbinds0 (ps := ["self", "letters", "rows", "answers", "new", "found"]) 4 ["found", "new"] [] (fun vs mz zs => vs ++ zs.reverse) (by simp) (by simp) (fun r1 r2 r3 => r1.append (vals_rev r3)) fun D doc pm an cdv ct us mv ws h1 h2 h3 => match us, h1, mv, h2, ws, h3 with
      | [_, _, _, _], _, [], _, [_, _], _ => rfl
    exact ⟨_, h⟩
  · obtain ⟨mv, h⟩ := F.kbinds0 (ps := ["self", "letters", "rows", "answers", "new", "found"]) 4 ["new", "found"] [] (fun vs mz zs => vs ++ zs) (by simp) (by simp) (fun r1 r2 r3 => r1.append r3) fun D doc pm an cdv ct us mv ws h1 h2 h3 => match us, h1, mv, h2, ws, h3 with
      | [_, _, _, _], _, [], _, [_, _], _ => rfl
    exact ⟨_, h⟩
section
variable {P : Program} {w : World} {K : PySem.W.Frag} {mg : Str → Option Value} {base : Heap} {CL CM CH : Addr} {H : Hp} {m t a b : Addr} {ys : List Str} {xs : List V} {rs : List (List Nat)} {ans : List Str} {nw fo : Nat} {Q : VK} {E : XK}
/-- a machine is made -/
theorem mac_made (ok : MacOk ys rs ans nw fo) (aok : ∀ z ∈ ans, shortL z.cps.toList = true ∧ z.length ≤ 500) (hM : Mde CL H m t ys) (ha : SqL K H a xs ∨ SqT K H a xs) (hR : RowsV K H xs rs) (hb : SqL K H b (ans.map V.str) ∨ SqT K H b (ans.map V.str)) {x dx : Addr} (hx : H x = none) (hdx : H dx = none) (hne : dx ≠ x)
    (k : ∀ H', Same H H' → MacAt K CL CM H' x ys rs ans nw fo → Q .non H') : spMac K CL CM [.ref x, .ref m, .ref a, .ref b, vN nw, vN fo] (upd (upd H dx (.own x)) x (.ins CM dx [])) Q E := by
  have sm : Same H (upd (upd H dx (.own x)) x (.ins CM dx [])) := Ask.Same.made1 (Ask.Same.made1 (Same.refl H) hdx) (by rw [upd_ne hne.symm]; exact hx)
  exact ⟨x, dx, m, t, a, b, ys, xs, rs, ans, nw, fo, rfl, upd_same, hM.same sm, seqA_same ha sm, hR.same sm, seqA_same hb sm, ok, aok, fun H' kk hm => k H' (Same.made hx hdx fun b o e hb => kk b o hb e) hm⟩
/-- all that a call of Machine wants -/
structure MacK (P : Program) (w : World) (K : PySem.W.Frag) (mg : Str → Option Value) (base : Heap) (CL CM : Addr) : Prop where
  ex : ∃ (f : Addr) (fd : FuncData), Mk K CM f ∧ FnOk P w K mg base CX0 4 f fd ["self", "letters", "rows", "answers", "new", "found"] (spMac K CL CM) ∧ MacB K fd
  m : mg "Machine" = some (.ref CM)
end
end Ask

namespace Ask
open PySem L2
theorem ty_pop : typeOf (.builtin "list.pop") = pure (.type "method_descriptor") := by show builtinType _ = _; rw [builtinType_eq_fast]; kernel_rfl
theorem ty_insert : typeOf (.builtin "list.insert") = pure (.type "method_descriptor") := by show builtinType _ = _; rw [builtinType_eq_fast]; kernel_rfl
theorem perm_take {α : Type} {ls : List α} {k : Nat} {y : α} (h : ls[k]? = some y) : (y :: ls.eraseIdx k).Perm ls := by
  induction ls generalizing k with
  | nil => cases h
  | cons z zs ih =>
    cases k with
    | zero =>
      cases h
      exact List.Perm.refl _
    | succ k =>
      have h : zs[k]? = some y := h
      exact (List.Perm.swap z y _).trans ((ih h).cons z)
theorem erase_map {α β : Type} (g : α → β) : ∀ (ls : List α) (k : Nat), (ls.map g).eraseIdx k = (ls.eraseIdx k).map g
  | [], _ => rfl
  | l :: ls, 0 => rfl
  | l :: ls, k + 1 => by
    show g l :: (ls.map g).eraseIdx k = g l :: (ls.eraseIdx k).map g
    rw [erase_map g ls k]
section
variable {P : Program} {w : World} {K : PySem.W.Frag} {mg : Str → Option Value} {base : Heap}
/-! ### the shuffle -/
def spShuf (K : PySem.W.Frag) : Sp := fun vs H Q _ => ∃ (p c a : Addr) (ns : List Int) (B : Nat) (ys : List Str), vs = [.ref p, .ref a] ∧ Pen c ns H p B ∧ B ≤ 500000000 ∧ SqL K H a (ys.map V.str) ∧ ys.length ≤ 100 ∧ (∀ y ∈ ys, y.length ≤ 500 ∧ Asc y) ∧
  ∀ (H' : Hp) (q : Addr) (zs : List Str), Go p c ns H H' (B + 100) → H q = none → H' q = some (.lst (zs.map V.str)) → zs.Perm ys → Q (.ref q) H'
abbrev s__law_shuffled : Stmt := top 74
theorem sc__law_shuffled : FnScope ["_law_pen_here", "_law_items", "_law_left", "_law_got"] ["_law_pen_here", "_law_items"] (defScope s__law_shuffled) := ⟨rfl, rfl, rfl, by decide +kernel, rfl, by decide +kernel, by decide +kernel⟩
theorem ok_shuf {f fD : Addr} {fd fdD : FuncData} (F : Fun K "_law_shuffled" "_law_shuffled" s__law_shuffled f fd) (T : Blt mg)
    (GD : FnOk P w K mg base CX0 1 fD fdD ["_law_pen_here", "_law_many"] spDraw) (D : At K mg "_law_draw" fD fdD ["_law_pen_here", "_law_many"]) :
    FnOk P w K mg base CX0 2 f fd ["_law_pen_here", "_law_items"] (spShuf K) := by
  refine F.ok sc__law_shuffled (fun vs H Q E h => ?_) (fun cdv A outer s H vs Q E hr h => ?_)
  · obtain ⟨p, c, a, ns, B, ys, rfl, _⟩ := h
    rfl
  · obtain ⟨p, c, a, ns, B, ys, rfl, hpen, hB, hS, hl, hy, kq⟩ := h
    refine ⟨_, (pss_cons (ps_par (i := 2) (j := 3) rfl sc__law_shuffled.nd rfl rfl (by decide) rfl rfl (pa_cons (pe_callTy call_list_of (by rfl) T.n_list (by decide +kernel) (pa_cons (pv 1) pa_nil)) (pa_cons (pe_lst pa_nil) pa_nil)) (by rfl))
      (pss_cons (ps_while PassesOwn.never (pt_cmpR (op_neD hr.units) (pv 2) (pe_lst pa_nil) (nomark _))
        (pss_one (ps_expr (pe_bm PySem.F.plainAttrs_list PySem.F.slot_list_append PySem.F.type_list_append mt_append (pv 3) (pa_cons (pe_bm PySem.F.plainAttrs_list PySem.F.slot_list_pop ty_pop mt_popAt (pv 2) (pa_cons (pe_call GD (by exact hr) (by rfl) D.m D.k D.b .nil pass0 (pa_cons (pv 0) (pa_cons (pe_callB call_len_seq (by rfl) T.n_len (by decide +kernel) (pa_cons (pv 2) pa_nil)) pa_nil))) pa_nil)) pa_nil)))))
      (pss_one (ps_ret (pv 3))))), ?_⟩
    have z1 : (1000 : Nat) ≤ sizeLine := by decide
    refine ⟨_, rfl, a, _, rfl, .inl hS, fun L hL => ?_⟩
    have g1 := (Go.refl hpen).new (o := .lst (ys.map V.str)) hL
    have hL0 := hL
    have eL : upd H L (.lst (ys.map V.str)) L = some (.lst (ys.map V.str)) := upd_same
    generalize upd H L (.lst (ys.map V.str)) = H1 at g1 eL ⊢
    refine ⟨Nat.zero_le _, fun G hG => ⟨_, _, rfl, ?_⟩⟩
    have hG0 := g1.free hG
    have neL : L ≠ G := ne_of_none eL hG
    replace g1 := g1.new (o := .lst []) hG
    replace eL : upd H1 G (.lst []) L = some (.lst (ys.map V.str)) := by rw [upd_ne neL]; exact eL
    have eG : upd H1 G (.lst []) G = some (.lst []) := upd_same
    generalize upd H1 G (.lst []) = H2 at g1 eL eG ⊢
    refine ⟨fun m σ' H' => ∃ ls gs : List Str, m = ls.length ∧ σ' = [some (.ref p), some (.ref a), some (.ref L), some (.ref G)] ∧ Go p c ns H H' (B + gs.length) ∧ H' L = some (.lst (ls.map V.str)) ∧ H' G = some (.lst (gs.map V.str)) ∧ (gs ++ ls).Perm ys,
      ⟨_, ys, [], rfl, rfl, g1, eL, eG, List.Perm.refl _⟩, ?_⟩
    rintro m σ' H3 ⟨ls, gs, rfl, rfl, g3, e3, f3, pm⟩
    have len := pm.length_eq
    rw [List.length_append] at len
    refine ⟨_, rfl, Nat.zero_le _, fun u hu => ?_⟩
    have st := Ask.Same.made1 (o := .lst []) (Same.refl H3) hu
    replace g3 := g3.new (o := .lst []) hu
    replace e3 := st _ _ e3
    replace f3 := st _ _ f3
    have fu : upd H3 u (.lst []) u = some (.lst []) := upd_same
    generalize upd H3 u (.lst []) = H4 at g3 e3 f3 fu ⊢
    clear st hu
    have fit : ∀ y ∈ ls, y.length ≤ 500 ∧ Asc y := fun y h => hy y (pm.mem_iff.mp (List.mem_append_right _ h))
    refine ⟨.list (ls.map PyData.str), .list [], .lst (SqL.of e3) (dp_strs ls), .lst (SqL.of fu) .nil, (fit_strs fit).shapedL, by decide, _, rfl, ?_⟩
    rw [eqv_nil]
    cases ls with
    | nil =>
      show (if (!true) = true then _ else _)
      rw [if_neg (by decide)]
      rw [List.append_nil] at pm
      exact ⟨_, rfl, kq H4 G gs (g3.mono (by omega)) hG0 f3 pm⟩
    | cons l0 ls0 =>
      show (if (!false) = true then _ else _)
      rw [if_pos (by decide)]
      refine ⟨_, fun σ' H' h => h, ?_⟩
      refine ⟨_, rfl, .inl ⟨rfl, _, SqL.of f3⟩, _, rfl, .inl ⟨rfl, _, SqL.of e3⟩, _, rfl, _, rfl, L, _, rfl, .inl (SqL.of e3), p, c, ns, _, _, rfl, g3.pen, by omega, by rw [List.length_map, List.length_cons]; omega, by rw [List.length_map]; omega, fun H5 r g5 r0 r1 => ?_⟩
      rw [List.length_map] at r1
      have e5 := g5.lst e3
      have f5 := g5.lst f3
      replace g5 := g3.step g5
      obtain ⟨k, rfl⟩ : ∃ k : Nat, r = (k : Int) := ⟨r.toNat, by omega⟩
      have hk : k < (l0 :: ls0).length := by omega
      have lc : (l0 :: ls0).length = ls0.length + 1 := rfl
      obtain ⟨y, hy'⟩ : ∃ y, (l0 :: ls0)[k]? = some y := ⟨_, List.getElem?_eq_getElem hk⟩
      refine ⟨L, _, (k : Int), k, .str y, rfl, rfl, e5, by omega, by omega, ?_, by rw [List.getElem?_map, hy']; rfl, ?_⟩
      · unfold seqIndex?
        rw [List.length_map]
        simp only [if_neg (show ¬ ((k : Int) < 0) by omega)]
        rw [if_pos (by simp; omega)]
        rfl
      refine ⟨G, _, _, rfl, rfl, by rw [upd_ne neL.symm]; exact f5, by rw [List.length_map]; omega, ?_⟩
      have pm2 := perm_take hy'
      have lz : ((l0 :: ls0).eraseIdx k).length = ls0.length := by rw [List.length_eraseIdx, if_pos hk]; rfl
      refine ⟨_, ?_, (l0 :: ls0).eraseIdx k, gs ++ [y], rfl, rfl, ((g5.mut hL0).mut hG0).mono (by rw [List.length_append]; show B + gs.length + 1 ≤ B + (gs.length + 1); omega), ?_, ?_, ?_⟩
      · rw [lz]
        exact Nat.lt_succ_self _
      · rw [upd_ne neL, upd_same, erase_map]
      · rw [upd_same, List.map_append]
        rfl
      · rw [List.append_assoc]
        exact ((List.Perm.append_left gs pm2)).trans pm
end
end Ask

/-! text * int(test) -/
namespace Ask
open PySem L2 PySem.Spec PyProof.Rows
theorem op_mulB {X : Cx} : OpR X (binaryOp .Mult) (fun x y H Q => ∃ (z : Str) (b : Bool), x = .str z ∧ y = .int (if b = true then 1 else 0) ∧ z.length ≤ 1000 ∧ Q (.str (if b = true then z else Str.empty)) H) := by
  intro pins s σ H x y v u Q I rx ry h
  obtain ⟨z, b, rfl, rfl, z1, q⟩ := h
  obtain ⟨t, rfl⟩ := rx
  obtain ⟨t2, rfl⟩ := ry
  cases b with
  | false => exact P.mul_str_none (by decide) (by decide) ⟨.str Str.empty, H, I.tok _, ⟨_, rfl⟩, q⟩
  | true =>
    refine P.mul_str (by decide) (fun _ e => by simp at e) (fun _ e => by simp at e) ?_
    rw [if_neg (by decide), if_pos (by simp)]
    exact ⟨.str z, H, I, ⟨_, rfl⟩, q⟩
theorem app_empty (z : Str) : z ++ Str.empty = z := by
  have h : (z ++ Str.empty).cps = z.cps := by
    rw [Str.cps_append]
    show z.cps ++ #[] = z.cps
    rw [Array.append_empty]
  cases z
  cases hz : (_ : Str) ++ Str.empty
  rw [hz] at h
  cases h
  rfl
theorem empty_app (z : Str) : Str.empty ++ z = z := by
  have h : (Str.empty ++ z).cps = z.cps := by
    rw [Str.cps_append]
    show #[] ++ z.cps = z.cps
    rw [Array.empty_append]
  cases z
  cases hz : Str.empty ++ (_ : Str)
  rw [hz] at h
  cases h
  rfl
end Ask

namespace Ask
open PySem L2
/-- the word of turn i, ahead of its last look -/
def preW (hd stem : Str) (at_ fr st i : Nat) : Str := if at_ = 0 then (⟨#[sgN small fr st i]⟩ : Str) ++ stem else ((hd ++ cutS stem none (some ((at_ - 1 : Nat) : Int))) ++ (⟨#[sgN signs fr st i]⟩ : Str)) ++ cutS stem (some ((at_ - 1 : Nat) : Int)) none
def wrdW (hd stem : Str) (at_ fr st i : Nat) : Str := fixS (preW hd stem at_ fr st i)
theorem one_list (c : Nat) : (⟨#[c]⟩ : Str).cps.toList = [c] := rfl
theorem preW_len {hd stem : Str} {at_ fr st i : Nat} (h1 : hd.length = 1) (h2 : stem.length ≤ 9) : (preW hd stem at_ fr st i).length ≤ 23 := by
  unfold preW
  split
  · rw [Str.length_append]
    show 1 + stem.length ≤ 23
    omega
  · have a := cutS_length stem none (some ((at_ - 1 : Nat) : Int))
    have b := cutS_length stem (some ((at_ - 1 : Nat) : Int)) none
    rw [Str.length_append, Str.length_append, Str.length_append]
    show hd.length + _ + 1 + _ ≤ 23
    omega
theorem wrdW_ok {hd stem : Str} {at_ fr st c : Nat} (hc : hd = ⟨#[c]⟩) (hs : c ∈ smallL) (hl : stem.length ≤ 9) (hg : ∀ d ∈ stem.cps.toList, d ∈ signsL) (ha : at_ ≤ stem.length + 1) (hst : st ∈ [1, 5, 7, 11, 17, 19, 23, 25]) : Wds (wrdW hd stem at_ fr st) 26 := by
  have len := tl_len stem
  have a97 : (97 : Nat) ∈ smallL := by decide +kernel
  by_cases h0 : at_ = 0
  · refine wds_mk (S := 97 :: stem.cps.toList) (a := 0) (sg := sgN small fr st) (T := fun _ => stem.cps.toList) (Nat.zero_le _) (by rw [List.length_cons]; omega) (fun d hd => ?_) (fun d hd => ?_) (fun k hk => ?_) (fun _ k hk => ?_) (fun j k hj hk q => ?_) (fun k => ⟨hg, by rw [List.length_cons]; omega⟩) (fun k hk => ⟨preW hd stem at_ fr st k, rfl, ?_⟩)
    · rcases List.mem_cons.mp hd with rfl | hd
      · exact small_signs _ a97
      · exact hg d hd
    · cases hd
      exact a97
    · exact small_signs _ (sgN_mem small fr st k (by rw [small_len]; decide))
    · exact sgN_mem small fr st k (by rw [small_len]; decide)
    · have e1 := sgN_at small fr st j (by rw [small_len]; decide)
      have e2 := sgN_at small fr st k (by rw [small_len]; decide)
      rw [q] at e1
      exact step_inj (.inl small_len) hst hj hk (nodup_at small_nodup e1 e2)
    · unfold preW
      rw [if_pos h0, app_list, one_list]
      rfl
  · refine wds_mk (S := c :: stem.cps.toList) (a := at_) (sg := sgN signs fr st) (T := fun _ => stem.cps.toList.drop (at_ - 1)) (by rw [List.length_cons]; omega) (by rw [List.length_cons]; omega) (fun d hd => ?_) (fun d hd => ?_) (fun k hk => ?_) (fun q => absurd q h0) (fun j k hj hk q => ?_) (fun k => ⟨fun d hd => hg d (List.mem_of_mem_drop hd), by rw [List.length_drop, List.length_cons]; omega⟩) (fun k hk => ⟨preW hd stem at_ fr st k, rfl, ?_⟩)
    · rcases List.mem_cons.mp hd with rfl | hd
      · exact small_signs _ hs
      · exact hg d hd
    · cases hd
      exact hs
    · exact sgN_mem signs fr st k (by rw [signs_len]; decide)
    · have e1 := sgN_at signs fr st j (by rw [signs_len]; decide)
      have e2 := sgN_at signs fr st k (by rw [signs_len]; decide)
      rw [q] at e1
      exact step_inj (.inr signs_len) hst hj hk (nodup_at signs_nodup e1 e2)
    · unfold preW
      rw [if_neg h0, app_list, app_list, app_list, one_list, cut_pre, cut_suf, hc, one_list]
      obtain ⟨n, rfl⟩ : ∃ n, at_ = n + 1 := ⟨at_ - 1, by omega⟩
      rw [Nat.add_sub_cancel, List.take_succ_cons]
      show ([c] ++ stem.cps.toList.take n ++ [sgN signs fr st k]) ++ stem.cps.toList.drop n = (c :: stem.cps.toList.take n) ++ sgN signs fr st k :: stem.cps.toList.drop n
      simp
theorem fix_cat (z : Str) : z ++ (if decide (z = newW ∨ z = foundW) = true then ("0" : Str) else Str.empty) = fixS z := by
  unfold fixS
  by_cases h : z = newW ∨ z = foundW
  · rw [if_pos (decide_eq_true h), if_pos h]
  · rw [if_neg (fun q => h (of_decide_eq_true q)), if_neg h, app_empty]
theorem in_two (z : Str) : inV (.str z) [.str "new", .str "found"] = decide (z = newW ∨ z = foundW) := by
  unfold inV
  simp only [List.any_cons, List.any_nil, Bool.or_false, eq_V]
  by_cases c1 : z = newW
  · rw [decide_eq_true (show (Str.ofString "new") = z from c1.symm), decide_eq_true (show z = newW ∨ z = foundW from .inl c1)]
    rfl
  · by_cases c2 : z = foundW
    · rw [decide_eq_true (show (Str.ofString "found") = z from c2.symm), decide_eq_true (show z = newW ∨ z = foundW from .inr c2), Bool.or_true]
    · rw [decide_eq_false (show ¬ (Str.ofString "new") = z from fun q => c1 q.symm), decide_eq_false (show ¬ (Str.ofString "found") = z from fun q => c2 q.symm), decide_eq_false (show ¬ (z = newW ∨ z = foundW) from fun q => q.elim c1 c2)]
      rfl
end Ask

namespace Ask
open PySem L2
def nWo : List Str := ["_law_pen_here", "_law_many", "_law_small", "_law_signs", "_law_first", "_law_step", "_law_head", "_law_stem", "_law_at", "_law_got", "_law_k", "_law_word", "_law_sign"]
theorem preW_len11 {hd stem : Str} {at_ fr st i : Nat} (h1 : hd.length = 1) (h2 : stem.length ≤ 9) : (preW hd stem at_ fr st i).length ≤ 11 := by
  unfold preW
  split
  · rw [Str.length_append]
    show 1 + stem.length ≤ 11
    omega
  · have e : (cutS stem none (some ((at_ - 1 : Nat) : Int))).length + (cutS stem (some ((at_ - 1 : Nat) : Int)) none).length = stem.length := by
      rw [← tl_len, ← tl_len, ← tl_len, cut_pre, cut_suf, List.length_take, List.length_drop]
      omega
    rw [Str.length_append, Str.length_append, Str.length_append]
    show hd.length + _ + 1 + _ ≤ 11
    omega
theorem wrdW_len {hd stem : Str} {at_ fr st i : Nat} (h1 : hd.length = 1) (h2 : stem.length ≤ 9) : (wrdW hd stem at_ fr st i).length ≤ 11 := by
  have p := preW_len11 (at_ := at_) (fr := fr) (st := st) (i := i) h1 h2
  unfold wrdW fixS
  split
  · rename_i z
    rw [Str.length_append]
    rcases z with z | z <;> rw [z] <;> decide
  · exact p
section
variable {P : Program} {w : World} {K : PySem.W.Frag} {mg : Str → Option Value} {base : Heap}
def spWords : Sp := fun vs H Q _ => ∃ (p c : Addr) (ns : List Int) (m : Int) (B : Nat), vs = [.ref p, .int m] ∧ Pen c ns H p B ∧ B ≤ 400000000 ∧ 0 ≤ m ∧ m ≤ 26 ∧
  ∀ (H' : Hp) (q : Addr) (ys : List Str), Go p c ns H H' (B + 150) → H q = none → H' q = some (.lst (ys.map V.str)) → (ys.length : Int) = m → ys.Nodup → (∀ y ∈ ys, goodW y = true) → (∀ y ∈ ys, y.length ≤ 11) → Q (.ref q) H'
abbrev s__law_words : Stmt := top 75
theorem sc__law_words : FnScope nWo ["_law_pen_here", "_law_many"] (defScope s__law_words) := ⟨rfl, rfl, rfl, by decide +kernel, rfl, by decide +kernel, by decide +kernel⟩
theorem ok_words {f fD fP fS : Addr} {fd fdD fdP fdS : FuncData} (F : Fun K "_law_words" "_law_words" s__law_words f fd) (T : Blt mg)
    (GD : FnOk P w K mg base CX0 1 fD fdD ["_law_pen_here", "_law_many"] spDraw) (D : At K mg "_law_draw" fD fdD ["_law_pen_here", "_law_many"])
    (GP : FnOk P w K mg base CX0 2 fP fdP ["_law_pen_here", "_law_items"] (spPick K)) (C : At K mg "_law_pick" fP fdP ["_law_pen_here", "_law_items"])
    (GS : FnOk P w K mg base CX0 2 fS fdS ["_law_pen_here", "_law_items"] (spShuf K)) (AS : At K mg "_law_shuffled" fS fdS ["_law_pen_here", "_law_items"]) :
    FnOk P w K mg base CX0 3 f fd ["_law_pen_here", "_law_many"] spWords := by
  refine F.ok sc__law_words (fun vs H Q E h => ?_) (fun cdv A outer s H vs Q E hr h => ?_)
  · obtain ⟨p, c, ns, m, B, rfl, _⟩ := h
    rfl
  · obtain ⟨p, c, ns, m, B, rfl, hpen, hB, hm0, hm1, k⟩ := h
    have h1 : Room 1 _ := hr.mono (by decide)
    have h2 : Room 2 _ := hr.mono (by decide)
    refine ⟨_, (pss_cons (ps_asg (pe_tup (pa_cons pe_str (pa_cons pe_str pa_nil))) (pg_tup rfl (pgs_cons (pg_name (i := 2) sc__law_words.nd rfl (Or.inl rfl)) (pgs_cons (pg_name (i := 3) sc__law_words.nd rfl (Or.inr rfl)) pgs_nil))))
      (pss_cons (ps_par (i := 4) (j := 5) rfl sc__law_words.nd rfl rfl (by decide) rfl rfl (pa_cons (pe_call GD (by exact h1) (by rfl) D.m D.k D.b .nil pass0 (pa_cons (pv 0) (pa_cons pe_int pa_nil))) (pa_cons (pe_call GP (by exact h2) (by rfl) C.m C.k C.b .nil pass0 (pa_cons (pv 0) (pa_cons (pe_lst (pa_cons pe_int (pa_cons pe_int (pa_cons pe_int (pa_cons pe_int pa_nil))))) pa_nil))) pa_nil)) (by rfl))
      (pss_cons (ps_par (i := 6) (j := 7) rfl sc__law_words.nd rfl rfl (by decide) rfl rfl (pa_cons (pe_call GP (by exact h2) (by rfl) C.m C.k C.b .nil pass0 (pa_cons (pv 0) (pa_cons (pv 2) pa_nil))) (pa_cons (pe_join pe_str (pe_lc (own := [("_law_k", 10)]) rfl sc__law_words.nd (pi_range1 rfl T.n_range (pa_cons (pe_call GD (by exact h1) (by rfl) D.m D.k D.b .nil pass0 (pa_cons (pv 0) (pa_cons pe_int pa_nil))) pa_nil)) (blkOk_by (N := nWo) (sc := defScope s__law_words) (by decide +kernel)) (fun _ _ _ _ _ => (pg_name (i := 10) sc__law_words.nd rfl (Or.inl rfl))) (fun _ _ _ _ _ => pts_nil) (fun _ _ _ _ _ => (pe_call GP (by exact h2) (by rfl) C.m C.k C.b .nil pass0 (pa_cons (pv 0) (pa_cons (pv 3) pa_nil)))))) pa_nil)) (by rfl))
      (pss_cons (ps_par (i := 8) (j := 9) rfl sc__law_words.nd rfl rfl (by decide) rfl rfl (pa_cons (pe_call GD (by exact h1) (by rfl) D.m D.k D.b .nil pass0 (pa_cons (pv 0) (pa_cons (pe_op op_add (pe_callB call_len_str (by rfl) T.n_len (by decide +kernel) (pa_cons (pv 7) pa_nil)) pe_int) pa_nil))) (pa_cons (pe_lst pa_nil) pa_nil)) (by rfl))
      (pss_cons (ps_for PassesOwn.never rfl (pi_range1 rfl T.n_range (pa_cons (pv 1) pa_nil)) (pg_name (i := 10) sc__law_words.nd rfl (Or.inl rfl)) (pss_cons (ps_set (i := 11) sc__law_words.nd rfl (Or.inl rfl) (pe_op op_add_str (pe_ix ix_str (pv 2) (pe_op op_mod (pe_callTy call_int1 (by rfl) T.n_int (by decide +kernel) (pa_cons (pe_op op_add (pv 4) (pe_op op_mul (pv 5) (pv 10))) pa_nil)) pe_int) (fun _ _ => rfl)) (pv 7)))
      (pss_cons (ps_if (pt_cmpR op_gt (pv 8) pe_int (nomark _)) (pss_cons (ps_set (i := 12) sc__law_words.nd rfl (Or.inl rfl) (pe_ix ix_str (pv 3) (pe_op op_mod (pe_callTy call_int1 (by rfl) T.n_int (by decide +kernel) (pa_cons (pe_op op_add (pv 4) (pe_op op_mul (pv 5) (pv 10))) pa_nil)) pe_int) (fun _ _ => rfl)))
      (pss_one (ps_set (i := 11) sc__law_words.nd rfl (Or.inl rfl) (pe_op op_add_str (pe_op op_add_str (pe_op op_add_str (pv 6) (pe_slice sl_str (pv 7) po_none (po_some (pe_op op_sub (pv 8) pe_int)))) (pv 12)) (pe_slice sl_str (pv 7) (po_some (pe_op op_sub (pv 8) pe_int)) po_none))))) pss_nil)
      (pss_one (ps_expr (pe_bm PySem.F.plainAttrs_list PySem.F.slot_list_append PySem.F.type_list_append mt_append (pv 9) (pa_cons (pe_op op_add_str (pv 11) (pe_op op_mulB pe_str (pe_callTy call_int1 (by rfl) T.n_int (by decide +kernel) (pa_cons (pe_cmpR op_in_seq (pv 11) (pe_lst (pa_cons pe_str (pa_cons pe_str pa_nil))) rfl) pa_nil)))) pa_nil)))))))
      (pss_one (ps_ret (pe_call GS (by exact h2) (by rfl) AS.m AS.k AS.b .nil pass0 (pa_cons (pv 0) (pa_cons (pv 9) pa_nil)))))))))), ?_⟩
    have z1 : (1000 : Nat) ≤ sizeLine := by decide
    have g0 := Go.refl hpen
    -- small, signs
    refine ⟨by show 2 ≤ sizeLine; decide, fun t1 ht1 => ⟨t1, _, rfl, SqT.of upd_same, rfl, _, _, rfl, _, _, rfl, rfl, ?_⟩⟩
    have g1 := g0.new (o := .tup [.str small, .str signs]) ht1
    change Go p c ns H (upd H t1 (.tup [.str "abcdefghijklmnopqrstuvwxyz", .str "abcdefghijklmnopqrstuvwxyz0123456789"])) B at g1
    generalize upd H t1 _ = H1 at g1 ⊢
    -- first, step
    refine ⟨_, rfl, p, c, ns, 36, B, rfl, g1.pen, by omega, by decide, by decide, fun H2 fr g2 f0 f1 => ?_⟩
    replace g2 := g1.step g2
    refine ⟨_, rfl, by show 4 ≤ sizeLine; decide, fun o ho => ⟨p, c, ns, _, _, rfl, (g2.new ho).pen, by omega, .inl ⟨o, _, rfl, SqL.of upd_same, by show 0 < 4; decide, by show 4 ≤ 1000; decide, fun H3 v g3 hv => ⟨_, _, rfl, ?_⟩⟩⟩⟩
    replace g3 := (g2.new ho).step g3
    obtain ⟨st, rfl, hst⟩ : ∃ s : Nat, v = .int (s : Int) ∧ s ∈ [1, 5, 7, 11, 17, 19, 23, 25] := by
      simp only [List.mem_cons, List.not_mem_nil, or_false] at hv
      rcases hv with rfl | rfl | rfl | rfl
      · exact ⟨1, rfl, by decide⟩
      · exact ⟨5, rfl, by decide⟩
      · exact ⟨7, rfl, by decide⟩
      · exact ⟨11, rfl, by decide⟩
    have st1 : st ≤ 25 := by
      simp only [List.mem_cons, List.not_mem_nil, or_false] at hst
      omega
    obtain ⟨frN, rfl⟩ : ∃ n : Nat, fr = (n : Int) := ⟨fr.toNat, by omega⟩
    clear hv g2 g1 ho
    -- head
    refine ⟨_, rfl, _, rfl, p, c, ns, _, _, rfl, g3.pen, by omega, .inr ⟨small, rfl, by rw [small_len]; decide, by rw [small_len]; decide, fun H4 hc g4 hhc => ?_⟩⟩
    replace g4 := (g3.step g4).mono (B := B + 5) (by omega)
    obtain ⟨hd, ehd⟩ : ∃ hd : Str, hd = ⟨#[hc]⟩ := ⟨_, rfl⟩
    have hd1 : hd.length = 1 := by rw [ehd]; rfl
    rw [← ehd]
    clear g3
    -- stem
    refine ⟨⟨_, rfl⟩, _, rfl, p, c, ns, 10, _, rfl, g4.pen, by omega, by decide, by decide, fun H5 r g5 r0 r1 => ⟨_, rfl, by omega, by omega, fun L hL => ?_⟩⟩
    replace g5 := (g4.step g5).mono (B := B + 6) (by omega)
    have hL0 := g5.free hL
    refine lc_range (lo := 0) (n := r.toNat) (SgL signsL p c ns H L (B + 6)) ⟨[], g5.new hL, upd_same, rfl, by simp⟩ (fun i H6 hi hs => ?_) (fun H6 hs => ?_)
    · obtain ⟨cs, g6, _⟩ := id hs
      refine ⟨rfl, ?_⟩
      exact ⟨_, rfl, _, rfl, p, c, ns, _, B + 6 + i, rfl, g6.pen, by omega, .inr ⟨signs, rfl, by rw [signs_len]; decide, by rw [signs_len]; decide, fun H7 j g7 hj => hs.next hL0 g7 (by omega) hj⟩⟩
    obtain ⟨cs, g6, hL6, hl6, h16⟩ := hs
    have one1 : ∀ (cs : List Nat) (y : Str), y ∈ (cs.map fun c => (⟨#[c]⟩ : Str)) → y.length = 1 := fun cs y hy => by
      obtain ⟨c', _, rfl⟩ := List.mem_map.mp hy
      rfl
    refine ⟨_, L, cs.map fun c => (⟨#[c]⟩ : Str), rfl, rfl, .inl (SqL.of hL6), (by rw [len_sum1 _ (one1 cs), List.length_map]; show cs.length + cs.length * 0 ≤ _; omega), ?_⟩
    have hst2 := joinT_ones cs
    generalize Txt.join (Str.ofString "") (cs.map fun c => (⟨#[c]⟩ : Str)) = stem at hst2 ⊢
    have hstem : stem.length ≤ 9 := by rw [← tl_len, hst2, hl6]; omega
    have hsg : ∀ d ∈ stem.cps.toList, d ∈ signsL := by rw [hst2]; exact h16
    replace g6 : Go p c ns H H6 (B + 20) := g6.mono (by omega)
    clear g5 g4 hL6 hl6 h16 hst2
    -- at
    refine ⟨_, _, rfl, ?_⟩
    try dsimp only
    refine ⟨_, rfl, _, rfl, stem, rfl, by omega, _, _, rfl, rfl, p, c, ns, _, _, rfl, g6.pen, by omega, by omega, by omega, fun H7 at_ g7 a0 a1 => ?_⟩
    replace g7 := g6.step g7
    obtain ⟨atN, rfl⟩ : ∃ n : Nat, at_ = (n : Int) := ⟨at_.toNat, by omega⟩
    have W : Wds (wrdW hd stem atN frN st) 26 := wrdW_ok ehd hhc hstem hsg (by omega) hst
    -- gained
    refine ⟨Nat.zero_le _, fun q hq => ⟨_, _, rfl, ?_⟩⟩
    have hq0 := g7.free hq
    have g8 : Go p c ns H (upd H7 q (.lst [])) (B + 21) := (g7.new hq).mono (by omega)
    have hq1 : upd H7 q (.lst []) q = some (.lst (((List.range 0).map (wrdW hd stem atN frN st)).map V.str)) := upd_same
    generalize upd H7 q (.lst []) = H8 at g8 hq1 ⊢
    clear g7 g6 hq
    refine ⟨_, rfl, m, rfl, by omega, by omega, for_range (lo := 0) (n := m.toNat) (fun i σ' H' => ∃ (o1 o2 o3 : Option V),
      σ' = [some (.ref p), some (.int m), some (.str small), some (.str signs), some (.int (frN : Int)), some (.int (st : Int)), some (.str hd), some (.str stem), some (.int (atN : Int)), some (.ref q), o1, o2, o3] ∧
      Go p c ns H H' (B + 21) ∧ H' q = some (.lst (((List.range i).map (wrdW hd stem atN frN st)).map V.str)))
      ⟨none, none, none, rfl, g8, hq1⟩ ?_ ?_⟩
    · rintro i σ' H9 hi ⟨o1, o2, o3, rfl, g, hL⟩
      have hi' : i < 26 := by omega
      have idx : ∀ n : Nat, ((frN : Int) + (st : Int) * (0 + (i : Int))) % ((n : Nat) : Int) = (((frN + st * i) % n : Nat) : Int) := fun n => by
        rw [Int.zero_add, Int.natCast_emod, Int.natCast_add, Int.natCast_mul]
      have eS : small.length = 26 := small_len
      have eG : signs.length = 36 := signs_len
      -- word, the first way
      refine ⟨_, rfl, _, rfl, _, rfl, _, rfl, _, _, rfl, rfl, mul_small (by omega), _, _, rfl, rfl, .inl ⟨_, rfl, _, _, rfl, rfl, (by show (0 : Int) < _; decide), small, _, sgN small frN st i, rfl, rfl, by omega, at_by (by rw [eS]; exact idx 26) (sgN_at small frN st i (by omega)), _, rfl, _, _, rfl, rfl, (by show 1 + stem.length ≤ sizeLine; omega), ?_⟩⟩
      try dsimp only
      refine seqIf_mid (fun σ' H' => ∃ o3 : Option V, σ' = [some (.ref p), some (.int m), some (.str small), some (.str signs), some (.int (frN : Int)), some (.int (st : Int)), some (.str hd), some (.str stem), some (.int (atN : Int)), some (.ref q), some (.int (0 + (i : Int))), some (.str (preW hd stem atN frN st i)), o3] ∧ H' = H9) (fun N hN => ?_) (fun σ' H' hm => ?_)
      · refine ⟨_, rfl, _, _, rfl, rfl, _, rfl, ite2 (fun h => ?_) (fun h => ?_)⟩
        · have h : (0 : Int) < (atN : Int) := of_decide_eq_true h
          have hne : ¬ atN = 0 := by omega
          have ea : (atN : Int) - 1 = ((atN - 1 : Nat) : Int) := by omega
          have cl1 := cutS_length stem none (some ((atN - 1 : Nat) : Int))
          have cl2 := cutS_length stem (some ((atN - 1 : Nat) : Int)) none
          refine ⟨_, rfl, _, rfl, _, rfl, _, rfl, _, _, rfl, rfl, mul_small (by omega), _, _, rfl, rfl, .inl ⟨_, rfl, _, _, rfl, rfl, (by show (0 : Int) < _; decide), signs, _, sgN signs frN st i, rfl, rfl, by omega, at_by (by rw [eG]; exact idx 36) (sgN_at signs frN st i (by omega)), ?_⟩⟩
          refine ⟨_, rfl, _, rfl, _, rfl, _, _, rfl, rfl, _, rfl, stem, rfl, by omega, ?_⟩
          rw [ea]
          refine ⟨_, _, rfl, rfl, (by rw [hd1]; omega), _, rfl, _, _, rfl, rfl, (by rw [Str.length_append, hd1]; show 1 + _ + 1 ≤ sizeLine; omega), _, rfl, _, rfl, _, _, rfl, rfl, _, rfl, stem, rfl, by omega, ?_⟩
          rw [ea]
          refine ⟨_, _, rfl, rfl, (by rw [Str.length_append, Str.length_append, hd1]; show 1 + _ + 1 + _ ≤ sizeLine; omega), hN _ _ ⟨some (.str ⟨#[sgN signs frN st i]⟩), ?_, rfl⟩⟩
          unfold preW
          rw [if_neg hne]
          rfl
        · have h : ¬ (0 : Int) < (atN : Int) := fun q => h (decide_eq_true q)
          have h0 : atN = 0 := by omega
          refine hN _ _ ⟨o3, ?_, rfl⟩
          unfold preW
          rw [if_pos h0]
          rfl
      obtain ⟨o4, rfl, rfl⟩ := hm
      have pl := preW_len (fr := frN) (st := st) (i := i) (at_ := atN) hd1 hstem
      have ef : wrdW hd stem atN frN st i = fixS (preW hd stem atN frN st i) := rfl
      generalize preW hd stem atN frN st i = pw at pl ef ⊢
      refine ⟨_, rfl, .inl ⟨rfl, _, SqL.of hL⟩, _, rfl, _, rfl, by show 2 ≤ sizeLine; decide, fun t ht => ?_⟩
      have gt := g.new (o := .lst [.str "new", .str "found"]) ht
      have hLt : upd H' t (.lst [.str "new", .str "found"]) q = some (.lst (((List.range i).map (wrdW hd stem atN frN st)).map V.str)) := by rw [upd_ne (ne_of_none hL ht)]; exact hL
      have ft : upd H' t (.lst [.str "new", .str "found"]) t = some (.lst [.str "new", .str "found"]) := upd_same
      generalize upd H' t (.lst [.str "new", .str "found"]) = Ha at gt hLt ft ⊢
      refine ⟨t, _, rfl, .inl (SqL.of ft), rfl, rfl, .inr ⟨_, rfl, ?_⟩⟩
      rw [in_two]
      refine ⟨_, _, rfl, rfl, by decide, _, _, rfl, rfl, ?_, q, _, _, rfl, rfl, hLt, by rw [List.length_map, List.length_map, List.length_range]; omega, ?_⟩
      · show pw.length + (if decide (pw = newW ∨ pw = foundW) = true then ("0" : Str) else Str.empty).length ≤ sizeLine
        split
        · show pw.length + 1 ≤ sizeLine
          omega
        · show pw.length + 0 ≤ sizeLine
          omega
      refine ⟨_, _, _, rfl, gt.mut hq0, ?_⟩
      simp only [Bool.false_eq_true, ↓reduceIte]
      rw [upd_same, fix_cat, ← ef, List.range_succ, List.map_append, List.map_append]
      rfl
    · rintro σ' H9 ⟨o1, o2, o3, rfl, g, hL⟩
      have good : ∀ y ∈ (List.range m.toNat).map (wrdW hd stem atN frN st), goodW y = true := fun y hy => by
        obtain ⟨j, hj, rfl⟩ := List.mem_map.mp hy
        rw [List.mem_range] at hj
        exact W.good j (by omega)
      have nd : ((List.range m.toNat).map (wrdW hd stem atN frN st)).Nodup := by
        refine List.pairwise_map.mpr (List.Pairwise.imp_of_mem ?_ (List.nodup_range (n := m.toNat)))
        intro a b ha hb ne q
        rw [List.mem_range] at ha hb
        exact ne (W.inj a b (by omega) (by omega) q)
      have len : ((List.range m.toNat).map (wrdW hd stem atN frN st)).length = m.toNat := by rw [List.length_map, List.length_range]
      have short : ∀ y ∈ (List.range m.toNat).map (wrdW hd stem atN frN st), y.length ≤ 11 := fun y hy => by
        obtain ⟨j, hj, rfl⟩ := List.mem_map.mp hy
        exact wrdW_len hd1 hstem
      generalize (List.range m.toNat).map (wrdW hd stem atN frN st) = ws at hL good nd len short
      refine ⟨_, rfl, _, rfl, p, c, q, ns, _, ws, rfl, g.pen, by omega, SqL.of hL, by omega, fun y hy => ⟨by have := good_len (good y hy); omega, good_asc (good y hy)⟩, fun Hb q2 zs gb hq2 hz pm => ?_⟩
      exact k Hb q2 zs ((g.step gb).mono (by omega)) (g.free hq2) hz (by rw [pm.length_eq, len]; omega) (pm.nodup_iff.mpr nd) (fun y hy => good y (pm.mem_iff.mp hy)) (fun y hy => short y (pm.mem_iff.mp hy))
end
end Ask

namespace Ask
open PySem L2
theorem word_mark {z : Str} : wordS (tildeS ++ z) = z := by
  refine str_ext ?_
  show (wordOf (tildeS ++ z).cps.toList).toArray.toList = _
  have e2 : (tildeS ++ z).cps.toList = 126 :: z.cps.toList := by
    rw [app_list]
    have : tildeS.cps.toList = [126] := by decide +kernel
    rw [this]
    rfl
  rw [e2]
  rfl
def zzS : Str := "zzzzzzzzzzzz"
theorem mark_nz {y : Str} (h : y.length ≤ 11) (b : Bool) : (if b = true then ("~" : Str) else Str.empty) ++ y ≠ zzS := by
  intro e
  cases b with
  | false =>
    rw [if_neg (by decide), empty_app] at e
    have := congrArg Str.length e
    rw [show zzS.length = 12 from by decide +kernel] at this
    omega
  | true =>
    rw [if_pos rfl] at e
    have := congrArg (fun z : Str => z.cps.toList.head?) e
    simp only [app_list] at this
    exact absurd this (by show ¬ (some 126 : Option Nat) = some 122; decide)
/-- marked letters gs of the words ys -/
structure Mks (gs ys : List Str) : Prop where
  wd : gs.map wordS = ys
  ok : ∀ g ∈ gs, isLs g = true ∧ g.length ≤ 13 ∧ Asc g
  nz : ∀ g ∈ gs, g ≠ zzS
theorem mark_ok {y : Str} (h : goodW y = true) (b : Bool) : wordS ((if b = true then ("~" : Str) else Str.empty) ++ y) = y ∧ isLs ((if b = true then ("~" : Str) else Str.empty) ++ y) = true ∧ ((if b = true then ("~" : Str) else Str.empty) ++ y).length ≤ 13 ∧ Asc ((if b = true then ("~" : Str) else Str.empty) ++ y) := by
  have gl := good_len h
  cases b with
  | false =>
    rw [if_neg (by decide), empty_app]
    exact ⟨word_same (good_no h), good_is h, by omega, good_asc h⟩
  | true =>
    rw [if_pos rfl]
    refine ⟨word_mark, tilde_is h, ?_, Asc.app (.lit (by decide)) (good_asc h)⟩
    rw [Str.length_append]
    show 1 + y.length ≤ 13
    omega
theorem Mks.nd {gs ys : List Str} (h : Mks gs ys) (nd : ys.Nodup) : gs.Nodup := by
  have := h.wd ▸ nd
  exact List.Pairwise.of_map wordS (fun a b ne e => ne (congrArg wordS e)) this
theorem Mks.more {gs ys : List Str} {g y : Str} (h : Mks gs ys) (e : wordS g = y) (k : isLs g = true ∧ g.length ≤ 13 ∧ Asc g) (kz : g ≠ zzS) : Mks (gs ++ [g]) (ys ++ [y]) := by
  refine ⟨by rw [List.map_append, h.wd, ← e]; rfl, fun x hx => ?_, fun x hx => (List.mem_append.mp hx).elim (h.nz x) fun q => by rw [List.mem_singleton.mp q]; exact kz⟩
  rcases List.mem_append.mp hx with hx | hx
  · exact h.ok x hx
  · rw [List.mem_singleton] at hx
    subst hx
    exact k

section
variable {P : Program} {w : World} {K : PySem.W.Frag} {mg : Str → Option Value} {base : Heap}
def spLets : Sp := fun vs H Q _ => ∃ (p c : Addr) (ns : List Int) (B : Nat) (lo hi : Int), vs = [.ref p, .int lo, .int hi] ∧ Pen c ns H p B ∧ B ≤ 300000000 ∧ 1 ≤ lo ∧ lo ≤ hi ∧ hi ≤ 10 ∧
  ∀ (H' : Hp) (q : Addr) (zs : List Str), Go p c ns H H' (B + 200) → H q = none → H' q = some (.lst (zs.map V.str)) → Lts zs → lo ≤ zs.length → (zs.length : Int) ≤ hi → (∀ z ∈ zs, z ≠ zzS) → Q (.ref q) H'
abbrev s__law_letters : Stmt := top 76
theorem sc__law_letters : FnScope ["_law_pen_here", "_law_least", "_law_most", "_law_got", "_law_word"] ["_law_pen_here", "_law_least", "_law_most"] (defScope s__law_letters) := ⟨rfl, rfl, rfl, by decide +kernel, rfl, by decide +kernel, by decide +kernel⟩

theorem ok_lets {f fD fW : Addr} {fd fdD fdW : FuncData} (F : Fun K "_law_letters" "_law_letters" s__law_letters f fd) (T : Blt mg)
    (G__law_draw : FnOk P w K mg base CX0 1 fD fdD ["_law_pen_here", "_law_many"] spDraw) (A__law_draw : At K mg "_law_draw" fD fdD ["_law_pen_here", "_law_many"])
    (G__law_words : FnOk P w K mg base CX0 3 fW fdW ["_law_pen_here", "_law_many"] spWords) (A__law_words : At K mg "_law_words" fW fdW ["_law_pen_here", "_law_many"]) :
    FnOk P w K mg base CX0 4 f fd ["_law_pen_here", "_law_least", "_law_most"] spLets := by
  refine F.ok sc__law_letters (fun vs H Q E h => ?_) (fun cdv A outer s H vs Q E hr h => ?_)
  · obtain ⟨p, c, ns, B, lo, hi, rfl, _⟩ := h
    rfl
  · obtain ⟨p, c, ns, B, lo, hi', rfl, hpen, hB, l1, l2, l3, k⟩ := h
    have h__law_draw := hr.mono (j := 1) (by decide)
    have h__law_words := hr.mono (j := 3) (by decide)
    refine ⟨_, (pss_cons (ps_set (i := 3) sc__law_letters.nd rfl (Or.inl rfl) (pe_call G__law_words (by exact h__law_words) (by rfl) A__law_words.m A__law_words.k A__law_words.b .nil pass0 (pa_cons (pv 0) (pa_cons (pe_op op_add (pv 1) (pe_call G__law_draw (by exact h__law_draw) (by rfl) A__law_draw.m A__law_draw.k A__law_draw.b .nil pass0 (pa_cons (pv 0) (pa_cons (pe_op op_add (pe_op op_sub (pv 2) (pv 1)) pe_int) pa_nil)))) pa_nil))))
      (pss_one (ps_ret (pe_lc (own := [("_law_word", 4)]) rfl sc__law_letters.nd (pi_list (pv 3)) (blkOk_by (N := ["_law_pen_here", "_law_least", "_law_most", "_law_got", "_law_word"]) (sc := defScope s__law_letters) (by decide +kernel)) (fun _ _ _ _ _ => (pg_name (i := 4) sc__law_letters.nd rfl (Or.inl rfl))) (fun _ _ _ _ _ => pts_nil) (fun _ _ _ _ _ => (pe_op op_add_str (pe_op op_mulB pe_str (pe_callTy call_int1 (by rfl) T.n_int (by decide +kernel) (pa_cons (pe_cmpR op_eq (pe_call G__law_draw (by exact h__law_draw) (by rfl) A__law_draw.m A__law_draw.k A__law_draw.b .nil pass0 (pa_cons (pv 0) (pa_cons pe_int pa_nil))) pe_int (nomark _)) pa_nil))) (pv 4))))))), ?_⟩
    have z1 : (1000 : Nat) ≤ sizeLine := by decide
    refine ⟨_, rfl, _, rfl, _, rfl, _, rfl, _, rfl, _, _, rfl, rfl, _, _, rfl, rfl, p, c, ns, _, _, rfl, hpen, by omega, by omega, by omega, fun H1 r g1 r0 r1 => ?_⟩
    refine ⟨_, _, rfl, rfl, p, c, ns, _, _, rfl, g1.pen, by omega, by omega, by omega, fun H2 a ys g2 ha0 ha yl nd good short => ?_⟩
    have g12 := (g1.mono (B := B + 1) (by omega)).step g2
    try dsimp only
    have hS : SqL K H2 a (ys.map V.str) := SqL.of ha
    refine ⟨_, rfl, a, rfl, ⟨_, hS⟩, fun L hL => ?_⟩
    refine lc_it (walk_list (xs := ys.map V.str)) (fun i H' => ∃ gs, Go p c ns H2 H' (B + 160 + i) ∧ H' L = some (.lst (gs.map V.str)) ∧ Mks gs (ys.take i)) ⟨[], ((Go.refl g12.pen).new hL).mono (by omega), upd_same, rfl, (fun g hg => by cases hg), fun g hg => by cases hg⟩ (fun i H' _ hh => by obtain ⟨gs, g, _⟩ := hh; exact g.seq hS) ?_ ?_
    · rintro i v H3' H3 hi ⟨gs, g2, eL, mk⟩ ⟨rfl, hv⟩
      rw [List.getElem?_map] at hv
      rw [List.length_map] at hi
      cases hz : ys[i]? with
      | none => rw [hz] at hv; cases hv
      | some y =>
        rw [hz] at hv
        cases hv
        have gy := good y (List.mem_of_getElem? hz)
        have gl := good_len gy
        have lg : gs.length = i := by
          have := congrArg List.length mk.wd
          rw [List.length_map, List.length_take] at this
          omega
        refine ⟨rfl, _, rfl, p, c, ns, 5, _, rfl, g2.pen, by omega, by decide, by decide, fun H4 r g4 r0 r1 => ?_⟩
        refine ⟨rfl, .inr ⟨_, rfl, _, _, rfl, rfl, by decide, _, rfl, _, _, rfl, rfl, ?_, ?_⟩⟩
        · have := (mark_ok gy (decide (V.int r = V.int 0))).2.2.1
          rw [Str.length_append] at this
          omega
        obtain ⟨m1, m2⟩ := mark_ok gy (decide (V.int r = V.int 0))
        have eL4 := g4.lst eL
        refine ⟨_, eL4, by rw [List.length_map, lg]; omega, gs ++ [(if decide (V.int r = V.int 0) = true then ("~" : Str) else Str.empty) ++ y], ((g2.step g4).mut hL).mono (by omega), ?_, ?_⟩
        · rw [upd_same, List.map_append]
          rfl
        · have e : ys.take (i + 1) = ys.take i ++ [y] := by rw [List.take_add_one, hz]; rfl
          rw [e]
          exact mk.more m1 m2 (mark_nz (short y (List.mem_of_getElem? hz)) _)
    · rintro H3 ⟨gs, g3, eL, mk⟩
      rw [List.length_map, List.take_length] at mk
      have lg : gs.length = ys.length := by
        have := congrArg List.length mk.wd
        rwa [List.length_map] at this
      rw [List.length_map] at g3
      exact k H3 L gs ((g12.mono (B := B + 160 + ys.length) (by omega)).step g3 |>.mono (by omega)) (g12.free hL) eL ⟨mk.nd nd, mk.ok, by omega, by omega⟩ (by omega) (by omega) mk.nz
end
end Ask

namespace Ask
open PySem L2
/-- lists of numbers at the addresses bs -/
def RowsL (H : Hp) (bs : List Addr) (rs : List (List Nat)) : Prop := bs.length = rs.length ∧ ∀ (i : Nat) (b : Addr) (r : List Nat), bs[i]? = some b → rs[i]? = some r → H b = some (.lst (r.map vN))
theorem RowsL.lsts {H H' : Hp} {bs : List Addr} {rs : List (List Nat)} (h : RowsL H bs rs) (k : ∀ b xs, b ∈ bs → H b = some (.lst xs) → H' b = some (.lst xs)) : RowsL H' bs rs := ⟨h.1, fun i b r h1 h2 => k _ _ (List.mem_of_getElem? h1) (h.2 i b r h1 h2)⟩
theorem RowsL.snoc {H : Hp} {bs : List Addr} {rs : List (List Nat)} {b : Addr} {r : List Nat} (h : RowsL H bs rs) (e : H b = some (.lst (r.map vN))) : RowsL H (bs ++ [b]) (rs ++ [r]) := by
  refine ⟨by rw [List.length_append, List.length_append, h.1]; rfl, fun i a x h1 h2 => ?_⟩
  by_cases c : i < bs.length
  · rw [List.getElem?_append_left c] at h1
    rw [List.getElem?_append_left (by rw [← h.1]; exact c)] at h2
    exact h.2 i a x h1 h2
  · rw [List.getElem?_append_right (Nat.le_of_not_lt c)] at h1
    rw [List.getElem?_append_right (by rw [← h.1]; exact Nat.le_of_not_lt c), ← h.1] at h2
    cases z : i - bs.length with
    | succ m => rw [z] at h1; simp at h1
    | zero =>
      rw [z] at h1 h2
      obtain rfl : b = a := by simpa using h1
      obtain rfl : r = x := by simpa using h2
      exact e
theorem RowsL.v {K : PySem.W.Frag} {H : Hp} {bs : List Addr} {rs : List (List Nat)} (h : RowsL H bs rs) : RowsV K H (bs.map V.ref) rs := by
  refine ⟨by rw [List.length_map, h.1], fun i v r e1 e2 => ?_⟩
  rw [List.getElem?_map] at e1
  cases q : bs[i]? with
  | none => rw [q] at e1; cases e1
  | some b =>
    rw [q] at e1
    cases e1
    exact ⟨b, rfl, .inl (SqL.of (h.2 i b r q e2))⟩
section
variable {P : Program} {w : World} {K : PySem.W.Frag} {mg : Str → Option Value} {base : Heap}
/-- rows drawn, none missing -/
def spMachF (K : PySem.W.Frag) : Sp := fun vs H Q _ => ∃ (p c a : Addr) (ns : List Int) (B most : Nat) (ys : List Str), vs = [.ref p, .ref a, vN most, .bl false] ∧ Pen c ns H p B ∧ B ≤ 300000000 ∧ SqT K H a (ys.map V.str) ∧ ys.length ≤ 12 ∧ 1 ≤ most ∧ most ≤ 40 ∧
  ∀ (H' : Hp) (t R : Addr) (e : V) (bs : List Addr) (rs : List (List Nat)), Go p c ns H H' (B + 1000) → H t = none → H R = none → H' t = some (.tup [.ref R, e]) → H' R = some (.lst (bs.map V.ref)) → RowsL H' bs rs → (∀ b ∈ bs, H b = none ∧ b ≠ R) → RowsOk rs ys.length → 1 ≤ rs.length → rs.length ≤ most → Q (.ref t) H'

abbrev s__law_machine : Stmt := top 77
theorem sc__law_machine : FnScope ["_law_pen_here", "_law_words_here", "_law_most", "_law_missing", "_law_many", "_law_gap", "_law_rows", "_law_state", "_law_row", "_law_letter", "_law_is_gap", "_law_ends"] ["_law_pen_here", "_law_words_here", "_law_most", "_law_missing"] (defScope s__law_machine) := ⟨rfl, rfl, rfl, by decide +kernel, rfl, by decide +kernel, by decide +kernel⟩
theorem ok_machF {f fD fP : Addr} {fd fdD fdP : FuncData} (F : Fun K "_law_machine" "_law_machine" s__law_machine f fd) (T : Blt mg)
    (G__law_draw : FnOk P w K mg base CX0 1 fD fdD ["_law_pen_here", "_law_many"] spDraw) (A__law_draw : At K mg "_law_draw" fD fdD ["_law_pen_here", "_law_many"])
    (G__law_pick : FnOk P w K mg base CX0 2 fP fdP ["_law_pen_here", "_law_items"] (spPick K)) (A__law_pick : At K mg "_law_pick" fP fdP ["_law_pen_here", "_law_items"]) :
    FnOk P w K mg base CX0 3 f fd ["_law_pen_here", "_law_words_here", "_law_most", "_law_missing"] (spMachF K) := by
  refine F.ok sc__law_machine (fun vs H Q E h => ?_) (fun cdv A outer s H vs Q E hr h => ?_)
  · obtain ⟨p, c, a, ns, B, most, ys, rfl, _⟩ := h
    rfl
  · obtain ⟨p, c, a, ns, B, most, ys, rfl, hpen, hB, hS, yl, m1, m2, k⟩ := h
    have h__law_draw := hr.mono (j := 1) (by decide)
    have h__law_pick := hr.mono (j := 2) (by decide)
    refine ⟨_, (pss_cons (ps_set (i := 4) sc__law_machine.nd rfl (Or.inl rfl) (pe_op op_add pe_int (pe_call G__law_draw (by exact h__law_draw) (by rfl) A__law_draw.m A__law_draw.k A__law_draw.b .nil pass0 (pa_cons (pv 0) (pa_cons (pv 2) pa_nil)))))
      (pss_cons (ps_set (i := 5) sc__law_machine.nd rfl (Or.inl rfl) (pe_ifExp (pt_val (pv 3)) (pe_call G__law_pick (by exact h__law_pick) (by rfl) A__law_pick.m A__law_pick.k A__law_pick.b .nil pass0 (pa_cons (pv 0) (pa_cons (pe_lst (pa_cons pe_int (pa_cons pe_int (pa_cons pe_int pa_nil)))) pa_nil))) pe_int))
      (pss_cons (ps_set (i := 6) sc__law_machine.nd rfl (Or.inl rfl) (pe_lst pa_nil))
      (pss_cons (ps_for PassesOwn.never rfl (pi_range1 rfl T.n_range (pa_cons (pv 4) pa_nil)) (pg_name (i := 7) sc__law_machine.nd rfl (Or.inl rfl)) (pss_cons (ps_set (i := 8) sc__law_machine.nd rfl (Or.inl rfl) (pe_lst pa_nil))
      (pss_cons (ps_for PassesOwn.never rfl (pi_tup (pv 1)) (pg_name (i := 9) sc__law_machine.nd rfl (Or.inl rfl)) (pss_cons (ps_set (i := 10) sc__law_machine.nd rfl (Or.inl rfl) (pe_and (pe_cmpR op_gt (pv 5) pe_int (nomark _)) (pe_one (pe_cmpR op_lt (pe_call G__law_draw (by exact h__law_draw) (by rfl) A__law_draw.m A__law_draw.k A__law_draw.b .nil pass0 (pa_cons (pv 0) (pa_cons pe_int pa_nil))) (pv 5) (nomark _)))))
      (pss_one (ps_expr (pe_bm PySem.F.plainAttrs_list PySem.F.slot_list_append PySem.F.type_list_append mt_append (pv 8) (pa_cons (pe_ifExp (pt_val (pv 10)) pe_non (pe_call G__law_draw (by exact h__law_draw) (by rfl) A__law_draw.m A__law_draw.k A__law_draw.b .nil pass0 (pa_cons (pv 0) (pa_cons (pv 4) pa_nil)))) pa_nil))))))
      (pss_one (ps_expr (pe_bm PySem.F.plainAttrs_list PySem.F.slot_list_append PySem.F.type_list_append mt_append (pv 6) (pa_cons (pv 8) pa_nil)))))))
      (pss_cons (ps_setLc (i := 11) (own := [("_law_state", 7)]) rfl sc__law_machine.nd rfl rfl (sw_true rfl rfl rfl (by decide +kernel)) (pi_range1 rfl T.n_range (pa_cons (pv 4) pa_nil)) (blkOk_by (N := ["_law_pen_here", "_law_words_here", "_law_most", "_law_missing", "_law_many", "_law_gap", "_law_rows", "_law_state", "_law_row", "_law_letter", "_law_is_gap", "_law_ends"]) (sc := defScope s__law_machine) (by decide +kernel)) (fun _ _ _ _ _ => (pg_name (i := 7) sc__law_machine.nd rfl (Or.inl rfl))) (fun _ _ _ _ _ => pts_one (pt_cmpR op_eq (pe_call G__law_draw (by exact h__law_draw) (by rfl) A__law_draw.m A__law_draw.k A__law_draw.b .nil pass0 (pa_cons (pv 0) (pa_cons pe_int pa_nil))) pe_int (nomark _))) (fun _ _ _ _ _ => (pv 7)))
      (pss_one (ps_ret (pe_tup (pa_cons (pv 6) (pa_cons (pe_ifExp (PW.pt (pw_or (pt_cmpR (op_neD hr.units) (pv 11) (pe_lst pa_nil) (nomark _)) (pw_or1 (pt_cmpR op_eq (pe_call G__law_draw (by exact h__law_draw) (by rfl) A__law_draw.m A__law_draw.k A__law_draw.b .nil pass0 (pa_cons (pv 0) (pa_cons pe_int pa_nil))) pe_int (nomark _))))) (pv 11) (pe_lst (pa_cons (pe_call G__law_draw (by exact h__law_draw) (by rfl) A__law_draw.m A__law_draw.k A__law_draw.b .nil pass0 (pa_cons (pv 0) (pa_cons (pv 4) pa_nil))) pa_nil))) pa_nil)))))))))), ?_⟩
    have z1 : (100000 : Nat) ≤ sizeLine := by decide
    refine ⟨_, rfl, _, rfl, p, c, ns, _, B, rfl, hpen, by omega, by omega, by omega, fun H1 r g1 r0 r1 => ?_⟩
    obtain ⟨n, rfl⟩ : ∃ n : Nat, r = (n : Int) := ⟨r.toNat, by omega⟩
    refine ⟨_, _, rfl, rfl, ?_⟩
    try dsimp only
    refine ⟨_, rfl, _, rfl, iteF ?_⟩
    try dsimp only
    refine ⟨Nat.zero_le _, fun R hR => ?_⟩
    have hR0 := g1.free hR
    have g2 : Go p c ns H (upd H1 R (.lst [])) (B + 1) := g1.new hR
    have eR : upd H1 R (.lst []) R = some (.lst (([] : List Addr).map V.ref)) := upd_same
    generalize upd H1 R (.lst []) = H2 at g2 eR ⊢
    try dsimp only
    refine ⟨_, rfl, (1 + n : Int), rfl, by omega, by omega, for_range (lo := 0) (n := (1 + (n : Int)).toNat) (fun i σ' H' => ∃ (bs : List Addr) (rs : List (List Nat)) (o7 o8 o9 o10 : Option V), σ' = [some (.ref p), some (.ref a), some (vN most), some (.bl false), some (.int (1 + n)), some (.int 0), some (.ref R), o7, o8, o9, o10, none] ∧ Go p c ns H H' (B + 1 + 12 * i) ∧ H' R = some (.lst (bs.map V.ref)) ∧
      RowsL H' bs rs ∧ (∀ b ∈ bs, H b = none ∧ b ≠ R) ∧ rs.length = i ∧ (∀ r ∈ rs, r.length = ys.length) ∧ ∀ r ∈ rs, ∀ x ∈ r, x < 1 + n) ⟨[], [], none, none, none, none, rfl, g2, eR, ⟨rfl, fun i b r h => by simp at h⟩, (fun _ h => nomatch h), rfl, (fun _ h => nomatch h), fun _ h => nomatch h⟩ ?_ ?_⟩
    · rintro i σ' H3 hi ⟨bs, rs, o7, o8, o9, o10, rfl, g3, eR3, hr3, nb3, l3, w3, x3⟩
      try dsimp only
      refine ⟨Nat.zero_le _, fun b hb => ?_⟩
      have gA : Go p c ns H3 (upd H3 b (.lst [])) (B + 1 + 12 * i) := (Go.refl g3.pen).new hb
      have eb : upd H3 b (.lst []) b = some (.lst (([] : List Nat).map vN)) := upd_same
      generalize upd H3 b (.lst []) = H4 at gA eb ⊢
      have bR : b ≠ R := fun z => by rw [z, eR3] at hb; cases hb
      have hb0 := g3.free hb
      have hS3 := sqT_sv (Sv.go g3) hS
      try dsimp only
      refine ⟨_, rfl, a, rfl, ⟨_, sqT_sv (Sv.go gA) hS3⟩, ?_⟩
      refine for_it (walk_tup (xs := ys.map V.str)) (fun j σ' H' => ∃ (row : List Nat) (o9 o10 : Option V), σ' = [some (.ref p), some (.ref a), some (vN most), some (.bl false), some (.int (1 + n)), some (.int 0), some (.ref R), some (.int (0 + (i : Int))), some (.ref b), o9, o10, none] ∧ Go p c ns H3 H' (B + 1 + 12 * i + j) ∧ H' b = some (.lst (row.map vN)) ∧
        row.length = j ∧ ∀ x ∈ row, x < 1 + n) ⟨[], _, _, rfl, gA, eb, rfl, fun _ h => nomatch h⟩ (fun j σ' H' _ ⟨_, _, _, _, g, _⟩ => sqT_sv (Sv.go g) hS3) ?_ ?_
      · rintro j v σ' H5 H6 hj ⟨row, o9, o10, rfl, g5, e5, l5, x5⟩ ⟨rfl, hv⟩
        rw [List.length_map] at hj
        refine ⟨_, rfl, _, _, rfl, rfl, _, rfl, ?_⟩
        rw [show decide ((0 : Int) < 0) = false from rfl]
        refine iteF ?_
        try dsimp only
        refine ⟨_, rfl, .inl ⟨rfl, _, SqL.of e5⟩, _, rfl, _, rfl, iteF ⟨_, rfl, _, rfl, p, c, ns, _, _, rfl, g5.pen, by omega, by omega, by omega, fun H7 r g7 r0 r1 => ?_⟩⟩
        have e7 := g7.lst e5
        obtain ⟨x, rfl⟩ : ∃ x : Nat, r = (x : Int) := ⟨r.toNat, by omega⟩
        refine ⟨b, _, _, rfl, rfl, e7, by rw [List.length_map, l5]; omega, row ++ [x], _, _, rfl, ((g5.step g7).mut hb).mono (by omega), by rw [upd_same, List.map_append]; rfl, by rw [List.length_append, l5]; rfl, fun y hy => ?_⟩
        rcases List.mem_append.mp hy with hy | hy
        · exact x5 y hy
        · rw [List.mem_singleton.mp hy]
          omega
      · rintro σ' H5 ⟨row, o9, o10, rfl, g5, e5, l5, x5⟩
        rw [List.length_map] at l5 g5
        try dsimp only
        have eR5 := g5.lst eR3
        have hr5 := hr3.lsts (H' := H5) fun b' xs _ e => g5.lst e
        refine ⟨_, rfl, .inl ⟨rfl, _, SqL.of eR5⟩, _, rfl, R, _, _, rfl, rfl, eR5, by rw [List.length_map, hr3.1, l3]; omega, ?_⟩
        refine ⟨bs ++ [b], rs ++ [row], _, _, _, _, rfl, ((g3.step g5).mut hR0).mono (by omega), by rw [upd_same, List.map_append]; rfl, (hr5.snoc e5).lsts fun b' xs hb' e => ?_, fun b' hb' => ?_, by rw [List.length_append, l3]; rfl, fun r hr => ?_, fun r hr => ?_⟩
        · rw [upd_ne ?_]
          · exact e
          · rcases List.mem_append.mp hb' with h | h
            · exact (nb3 b' h).2
            · rw [List.mem_singleton.mp h]
              exact bR
        · rcases List.mem_append.mp hb' with h | h
          · exact nb3 b' h
          · rw [List.mem_singleton.mp h]
            exact ⟨hb0, bR⟩
        · rcases List.mem_append.mp hr with h | h
          · exact w3 r h
          · rw [List.mem_singleton.mp h, l5]
        · rcases List.mem_append.mp hr with h | h
          · exact x3 r h
          · rw [List.mem_singleton.mp h]
            exact x5
    · rintro σ' H3 ⟨bs, rs, o7, o8, o9, o10, rfl, g3, eR3, hr3, nb3, l3, w3, x3⟩
      try dsimp only
      have l1 : (1 + (n : Int)).toNat = 1 + n := by omega
      rw [l1] at l3 g3
      have fin : ∀ (H' : Hp) (e : V), Go p c ns H3 H' (B + 600) → ∀ t, H' t = none → Q (.ref t) (upd H' t (.tup [.ref R, e])) := fun H' e g t ht => by
        have g' := g.new (o := .tup [.ref R, e]) ht
        refine k _ t R e bs rs ((g3.step g').mono (by omega)) ((g3.step g).free ht) hR0 upd_same (g'.lst eR3) (hr3.lsts fun b' xs _ e => g'.lst e) nb3 ⟨w3, fun r hr x hx => by rw [l3]; exact x3 r hr x hx⟩ (by omega) (by omega)
      refine ⟨_, rfl, _, rfl, by omega, by omega, fun D hD => ?_⟩
      have hD3 := hD
      refine lc_it (walk_range (lo := 0) (n := (1 + (n : Int)).toNat)) (fun i H' => ∃ es : List Nat, H' D = some (.lst (es.map vN)) ∧ es.length ≤ i ∧ (∀ x ∈ es, x ≤ 1000) ∧ Go p c ns H3 H' (B + 500 + i)) ⟨[], upd_same, Nat.le_refl _, (fun _ h => nomatch h), ((Go.refl g3.pen).new hD).mono (by omega)⟩ (fun i H' _ _ => True.intro) ?_ ?_
      · rintro i v H4 H5 hi ⟨es, e4, le, lx, g4⟩ ⟨rfl, rfl⟩
        refine ⟨rfl, _, rfl, p, c, ns, 3, _, rfl, g4.pen, by omega, by decide, by decide, fun H6 r g6 r0 r1 => ⟨rfl, _, rfl, ?_⟩⟩
        have e6 := g6.lst e4
        refine ite2 (fun _ => ?_) (fun _ => ?_)
        · exact ⟨_, rfl, _, e6, by rw [List.length_map]; omega, es ++ [i], by rw [upd_same, List.map_append]; show some (HO.lst (es.map vN ++ [V.int (0 + (i : Int))])) = _; rw [Int.zero_add]; rfl, by rw [List.length_append]; show es.length + 1 ≤ _; omega, fun x hx => (List.mem_append.mp hx).elim (lx x) fun h => by rw [List.mem_singleton.mp h]; omega, ((g4.step g6).mut hD3).mono (by omega)⟩
        · exact ⟨es, e6, by omega, lx, (g4.step g6).mono (by omega)⟩
      · rintro H4 ⟨es, e4, le, lx, g4⟩
        rw [l1] at g4 le
        try dsimp only
        refine ⟨_, rfl, _, rfl, Nat.zero_le _, fun u hu => ?_⟩
        have gu := (g4.new (o := .lst []) hu)
        have eu : upd H4 u (.lst []) u = some (.lst []) := upd_same
        have e4u : upd H4 u (.lst []) D = some (.lst (es.map vN)) := by rw [upd_ne (ne_of_none e4 hu)]; exact e4
        generalize upd H4 u (.lst []) = H5 at gu eu e4u ⊢
        refine ⟨.list (es.map fun k : Nat => PyData.int k), .list [], .lst (SqL.of e4u) (dp_ints es), .lst (SqL.of eu) .nil, ints_shaped lx, by decide, _, rfl, ?_⟩
        rw [eqv_nil]
        cases es with
        | cons x es =>
          show (if (!false) = true then _ else _)
          rw [if_pos (by decide)]
          refine iteT ⟨_, rfl, ?_⟩
          exact ⟨by show 2 ≤ sizeLine; omega, fun t ht => fin _ _ (gu.mono (by omega)) t ht⟩
        | nil =>
          show (if (!true) = true then _ else _)
          rw [if_neg (by decide)]
          refine ⟨_, rfl, p, c, ns, _, _, rfl, gu.pen, by omega, by decide, by decide, fun H6 r g6 r0 r1 => ⟨rfl, _, rfl, ?_⟩⟩
          have gu6 := gu.step g6
          refine ite2 (fun _ => ?_) (fun _ => ?_)
          · exact ⟨_, rfl, by show 2 ≤ sizeLine; omega, fun t ht => fin _ _ (gu6.mono (by omega)) t ht⟩
          · refine ⟨_, rfl, _, rfl, p, c, ns, _, _, rfl, gu6.pen, by omega, by omega, by omega, fun H7 r g7 r0 r1 => ?_⟩
            refine ⟨by show 1 ≤ sizeLine; omega, fun o ho => ⟨by show 2 ≤ sizeLine; omega, fun t ht => fin _ _ (((gu6.step g7).new ho).mono (by omega)) t ht⟩⟩
end
end Ask

namespace Ask
open PySem L2
/-- a machine as the law tells it: rows, answers, starts -/
structure Desc (K : PySem.W.Frag) (H : Hp) (t R A S : Addr) (bs : List Addr) (rs : List (List Nat)) (ans : List Str) (n1 n2 : Nat) : Prop where
  t : H t = some (.tup [.ref R, .ref A, .ref S])
  R : H R = some (.lst (bs.map V.ref))
  rows : RowsL H bs rs
  A : H A = some (.lst (ans.map V.str))
  S : H S = some (.lst [vN n1, vN n2])
theorem Desc.sv {K : PySem.W.Frag} {H H' : Hp} {t R A S : Addr} {bs : List Addr} {rs : List (List Nat)} {ans : List Str} {n1 n2 : Nat} (h : Desc K H t R A S bs rs ans n1 n2) (s : Sv H H') : Desc K H' t R A S bs rs ans n1 n2 :=
  ⟨s.tup h.t, s.lst h.R, h.rows.lsts fun b xs _ e => s.lst e, s.lst h.A, s.lst h.S⟩
structure DescOk (m : Nat) (zs : List Str) (rs : List (List Nat)) (ans : List Str) (n1 n2 : Nat) : Prop where
  rows : RowsOk rs m
  l0 : 1 ≤ rs.length
  l6 : rs.length ≤ 6
  alen : ans.length = rs.length
  a : ∀ z ∈ ans, z ∈ zs
  n1 : n1 < rs.length
  n2 : n2 < rs.length
section
variable {P : Program} {w : World} {K : PySem.W.Frag} {mg : Str → Option Value} {base : Heap}
def spAnsw (K : PySem.W.Frag) : Sp := fun vs H Q _ => ∃ (p c a pl : Addr) (ns : List Int) (B : Nat) (ys zs : List Str), vs = [.ref p, .ref a, .int 6, .ref pl] ∧ Pen c ns H p B ∧ B ≤ 200000000 ∧ SqT K H a (ys.map V.str) ∧ ys.length ≤ 12 ∧ SqL K H pl (zs.map V.str) ∧ 1 ≤ zs.length ∧ zs.length ≤ 100 ∧
  ∀ (H' : Hp) (t R A S : Addr) (bs : List Addr) (rs : List (List Nat)) (ans : List Str) (n1 n2 : Nat), Go p c ns H H' (B + 2000) → Desc K H' t R A S bs rs ans n1 n2 → DescOk ys.length zs rs ans n1 n2 → Q (.ref t) H'

abbrev s__law_answering : Stmt := top 86
theorem sc__law_answering : FnScope ["_law_pen_here", "_law_letters_here", "_law_most", "_law_pool", "_law_rows", "_law_answers", "_law_starts", "_law_row"] ["_law_pen_here", "_law_letters_here", "_law_most", "_law_pool"] (defScope s__law_answering) := ⟨rfl, rfl, rfl, by decide +kernel, rfl, by decide +kernel, by decide +kernel⟩
theorem ok_answ {f fD fP fM : Addr} {fd fdD fdP fdM : FuncData} (F : Fun K "_law_answering" "_law_answering" s__law_answering f fd) (T : Blt mg)
    (G__law_draw : FnOk P w K mg base CX0 1 fD fdD ["_law_pen_here", "_law_many"] spDraw) (A__law_draw : At K mg "_law_draw" fD fdD ["_law_pen_here", "_law_many"])
    (G__law_pick : FnOk P w K mg base CX0 2 fP fdP ["_law_pen_here", "_law_items"] (spPick K)) (A__law_pick : At K mg "_law_pick" fP fdP ["_law_pen_here", "_law_items"])
    (G__law_machine : FnOk P w K mg base CX0 3 fM fdM ["_law_pen_here", "_law_words_here", "_law_most", "_law_missing"] (spMachF K)) (A__law_machine : At K mg "_law_machine" fM fdM ["_law_pen_here", "_law_words_here", "_law_most", "_law_missing"]) :
    FnOk P w K mg base CX0 4 f fd ["_law_pen_here", "_law_letters_here", "_law_most", "_law_pool"] (spAnsw K) := by
  refine F.ok sc__law_answering (fun vs H Q E h => ?_) (fun cdv A outer s H vs Q E hr h => ?_)
  · obtain ⟨p, c, a, pl, ns, B, ys, zs, rfl, _⟩ := h
    rfl
  · obtain ⟨p, c, a, pl, ns, B, ys, zs, rfl, hpen, hB, hS, yl, hZ, z0, zl, k⟩ := h
    have h__law_draw := hr.mono (j := 1) (by decide)
    have h__law_pick := hr.mono (j := 2) (by decide)
    have h__law_machine := hr.mono (j := 3) (by decide)
    refine ⟨_, (pss_cons (ps_set (i := 4) sc__law_answering.nd rfl (Or.inl rfl) (pe_ix ix_tup (pe_call G__law_machine (by exact h__law_machine) (by rfl) A__law_machine.m A__law_machine.k A__law_machine.b .nil pass0 (pa_cons (pv 0) (pa_cons (pv 1) (pa_cons (pv 2) (pa_cons pe_bl pa_nil))))) pe_int (fun _ _ => rfl)))
      (pss_cons (ps_setLc (i := 5) (own := [("_law_row", 7)]) rfl sc__law_answering.nd rfl rfl (sw_true rfl rfl rfl (by decide +kernel)) (pi_list (pv 4)) (blkOk_by (N := ["_law_pen_here", "_law_letters_here", "_law_most", "_law_pool", "_law_rows", "_law_answers", "_law_starts", "_law_row"]) (sc := defScope s__law_answering) (by decide +kernel)) (fun _ _ _ _ _ => (pg_name (i := 7) sc__law_answering.nd rfl (Or.inl rfl))) (fun _ _ _ _ _ => pts_nil) (fun _ _ _ _ _ => (pe_call G__law_pick (by exact h__law_pick) (by rfl) A__law_pick.m A__law_pick.k A__law_pick.b .nil pass0 (pa_cons (pv 0) (pa_cons (pv 3) pa_nil)))))
      (pss_cons (ps_set (i := 6) sc__law_answering.nd rfl (Or.inl rfl) (pe_lst (pa_cons (pe_call G__law_draw (by exact h__law_draw) (by rfl) A__law_draw.m A__law_draw.k A__law_draw.b .nil pass0 (pa_cons (pv 0) (pa_cons (pe_callB call_len_seq (by rfl) T.n_len (by decide +kernel) (pa_cons (pv 4) pa_nil)) pa_nil))) (pa_cons (pe_call G__law_draw (by exact h__law_draw) (by rfl) A__law_draw.m A__law_draw.k A__law_draw.b .nil pass0 (pa_cons (pv 0) (pa_cons (pe_callB call_len_seq (by rfl) T.n_len (by decide +kernel) (pa_cons (pv 4) pa_nil)) pa_nil))) pa_nil))))
      (pss_cons (ps_if (pt_cmpR op_eq (pe_call G__law_draw (by exact h__law_draw) (by rfl) A__law_draw.m A__law_draw.k A__law_draw.b .nil pass0 (pa_cons (pv 0) (pa_cons pe_int pa_nil))) pe_int (nomark _)) (pss_one (ps_set (i := 6) sc__law_answering.nd rfl (Or.inl rfl) (pe_lst (pa_cons (pe_ix ix_list (pv 6) pe_int (fun _ _ => rfl)) (pa_cons (pe_ix ix_list (pv 6) pe_int (fun _ _ => rfl)) pa_nil))))) pss_nil)
      (pss_one (ps_ret (pe_tup (pa_cons (pv 4) (pa_cons (pv 5) (pa_cons (pv 6) pa_nil)))))))))), ?_⟩
    have z1 : (100000 : Nat) ≤ sizeLine := by decide
    refine ⟨_, rfl, _, rfl, _, rfl, p, c, a, ns, B, 6, ys, rfl, hpen, by omega, hS, yl, by decide, by decide, fun H1 t0 R e bs rs g1 _ _ ht hR hrow hbs hok l0 l6 => ?_⟩
    refine ⟨t0, _, _, .ref R, rfl, rfl, SqT.of ht, at_by (j := 0) rfl rfl, ?_⟩
    try dsimp only
    refine ⟨_, rfl, R, rfl, ⟨_, SqL.of hR⟩, fun D hD => ?_⟩
    have hD1 := hD
    have lbs : bs.length = rs.length := hrow.1
    refine lc_it (walk_list (xs := bs.map V.ref)) (fun i H' => ∃ ans : List Str, H' D = some (.lst (ans.map V.str)) ∧ ans.length = i ∧ (∀ z ∈ ans, z ∈ zs) ∧ Go p c ns H1 H' (B + 1000 + i)) ⟨[], upd_same, rfl, (fun _ h => nomatch h), ((Go.refl g1.pen).new hD).mono (by omega)⟩ (fun i H' _ ⟨_, _, _, _, g⟩ => SqL.of (g.lst hR)) ?_ ?_
    · rintro i v H2 H3 hi ⟨ans, e2, l2, m2, g2⟩ ⟨rfl, hv⟩
      rw [List.length_map, lbs] at hi
      refine ⟨rfl, _, rfl, _, rfl, p, c, ns, _, _, rfl, g2.pen, by omega, .inl ⟨pl, _, rfl, sqL_sv (Sv.go (g1.step g2)) hZ, by rw [List.length_map]; omega, by rw [List.length_map]; omega, fun H4 x g4 hx => ?_⟩⟩
      obtain ⟨z, hz, rfl⟩ := List.mem_map.mp hx
      have e4 := g4.lst e2
      exact ⟨_, e4, by rw [List.length_map, l2]; omega, ans ++ [z], by rw [upd_same, List.map_append]; rfl, by rw [List.length_append, l2]; rfl, fun y hy => (List.mem_append.mp hy).elim (m2 y) fun h => by rw [List.mem_singleton.mp h]; exact hz, ((g2.step g4).mut hD1).mono (by omega)⟩
    · rintro H2 ⟨ans, e2, l2, m2, g2⟩
      rw [List.length_map, lbs] at l2 g2
      try dsimp only
      have hR2 := g2.lst hR
      have fin : ∀ (H' : Hp) (S : Addr) (n1 n2 : Nat), Go p c ns H1 H' (B + 1100) → H' R = some (.lst (bs.map V.ref)) → H' D = some (.lst (ans.map V.str)) → H' S = some (.lst [vN n1, vN n2]) → n1 < rs.length → n2 < rs.length → ∀ t, H' t = none → Q (.ref t) (upd H' t (.tup [.ref R, .ref D, .ref S])) := fun H' S n1 n2 g hR' hD' hS' h1 h2 t ht => by
        have g' := g.new (o := .tup [.ref R, .ref D, .ref S]) ht
        have st := Ask.Same.made1 (o := .tup [.ref R, .ref D, .ref S]) (Same.refl H') ht
        exact k _ t R D S bs rs ans n1 n2 ((g1.step g').mono (by omega)) ⟨upd_same, st _ _ hR', hrow.lsts fun b xs _ e => g'.lst e, st _ _ hD', st _ _ hS'⟩ ⟨hok, l0, l6, l2, m2, h1, h2⟩
      refine ⟨_, rfl, _, rfl, R, _, rfl, .inl (SqL.of hR2), p, c, ns, _, _, rfl, g2.pen, by omega, by rw [List.length_map]; omega, by rw [List.length_map]; omega, fun H3 r1 g3 r10 r11 => ?_⟩
      obtain ⟨n1, rfl⟩ : ∃ x : Nat, r1 = (x : Int) := ⟨r1.toNat, by omega⟩
      rw [List.length_map] at r11
      have hR3 := g3.lst hR2
      refine ⟨_, rfl, _, rfl, R, _, rfl, .inl (SqL.of hR3), p, c, ns, _, _, rfl, g3.pen, by omega, by rw [List.length_map]; omega, by rw [List.length_map]; omega, fun H4 r2 g4 r20 r21 => ?_⟩
      obtain ⟨n2, rfl⟩ : ∃ x : Nat, r2 = (x : Int) := ⟨r2.toNat, by omega⟩
      rw [List.length_map] at r21
      have g24 := (g2.step g3).step g4
      have hR4 := g4.lst hR3
      have hD4 := g4.lst (g3.lst e2)
      refine ⟨by show 2 ≤ sizeLine; omega, fun S hS => ?_⟩
      have g5 := g24.new (o := .lst [vN n1, vN n2]) hS
      have st := Ask.Same.made1 (o := .lst [vN n1, vN n2]) (Same.refl H4) hS
      have hS5 : upd H4 S (.lst [vN n1, vN n2]) S = some (.lst [vN n1, vN n2]) := upd_same
      have hR5 := st _ _ hR4
      have hD5 := st _ _ hD4
      generalize upd H4 S (.lst [vN n1, vN n2]) = H5 at g5 hS5 hR5 hD5 ⊢
      try dsimp only
      refine ⟨_, rfl, p, c, ns, 3, _, rfl, g5.pen, by omega, by decide, by decide, fun H6 r g6 r0 r1 => ⟨rfl, _, rfl, ?_⟩⟩
      have g16 := g5.step g6
      have hS6 := g6.lst hS5
      have hR6 := g6.lst hR5
      have hD6 := g6.lst hD5
      refine ite2 (fun _ => ?_) (fun _ => ?_)
      · refine ⟨_, rfl, S, _, _, vN n1, rfl, rfl, SqL.of hS6, at_by (j := 0) rfl rfl, _, rfl, S, _, _, vN n1, rfl, rfl, SqL.of hS6, at_by (j := 0) rfl rfl, by show 2 ≤ sizeLine; omega, fun S2 hS2 => ?_⟩
        have g7 := g16.new (o := .lst [vN n1, vN n1]) hS2
        have st7 := Ask.Same.made1 (o := .lst [vN n1, vN n1]) (Same.refl H6) hS2
        have hS7 : upd H6 S2 (.lst [vN n1, vN n1]) S2 = some (.lst [vN n1, vN n1]) := upd_same
        have hR7 := st7 _ _ hR6
        have hD7 := st7 _ _ hD6
        generalize upd H6 S2 (.lst [vN n1, vN n1]) = H7 at g7 hS7 hR7 hD7 ⊢
        try dsimp only
        exact ⟨_, rfl, _, rfl, _, rfl, by show 3 ≤ sizeLine; omega, fun t ht => fin H7 S2 n1 n1 (g7.mono (by omega)) hR7 hD7 hS7 (by omega) (by omega) t ht⟩
      · exact ⟨_, rfl, _, rfl, _, rfl, by show 3 ≤ sizeLine; omega, fun t ht => fin H6 S n1 n2 (g16.mono (by omega)) hR6 hD6 hS6 (by omega) (by omega) t ht⟩
end
end Ask

namespace Ask
open PySem L2
section
variable {P : Program} {w : World} {K : PySem.W.Frag} {mg : Str → Option Value} {base : Heap}
def spProg (K : PySem.W.Frag) (CL CM : Addr) : Sp := fun vs H Q _ => ∃ (p c m t R A S : Addr) (ns : List Int) (B : Nat) (ys : List Str) (bs : List Addr) (rs : List (List Nat)) (ans : List Str) (n1 n2 : Nat), vs = [.ref p, .ref m, .ref R, .ref A, .ref S] ∧ Pen c ns H p B ∧ B ≤ 200000000 ∧ Mde CL H m t ys ∧
  H R = some (.lst (bs.map V.ref)) ∧ RowsL H bs rs ∧ H A = some (.lst (ans.map V.str)) ∧ H S = some (.lst [vN n1, vN n2]) ∧ MacOk ys rs ans n1 n2 ∧ (∀ z ∈ ans, shortL z.cps.toList = true ∧ z.length ≤ 500) ∧
  ∀ (H' : Hp) (x : Addr), Go p c ns H H' (B + 2) → MacAt K CL CM H' x ys rs ans n1 n2 → Q (.ref x) H'
theorem seqIf_R {c : TT} {t v u : TS} {D : Ends} {σ : L2.St} {H : Hp} (R : Bool → Hp → Prop) (h : ∀ Q : Bool → Hp → Prop, (∀ b H', R b H' → Q b H') → c σ H Q) (k : ∀ b H', R b H' → if b = true then t { D with nx := u D } σ H' else v { D with nx := u D } σ H') : tSeq (tIfS c t v) u D σ H := h _ k
theorem eqv_zeros {a b : Nat} (h : PyData.eqv (.list [.int (a : Int), .int (b : Int)]) (.list [.int 0, .int 0]) = true) : a = 0 ∧ b = 0 := by
  simp [PyData.eqv, PyData.eqvAll] at h
  omega

abbrev s__law_program : Stmt := top 85
theorem sc__law_program : FnScope ["_law_pen_here", "_law_letters_here", "_law_rows", "_law_answers", "_law_starts"] ["_law_pen_here", "_law_letters_here", "_law_rows", "_law_answers", "_law_starts"] (defScope s__law_program) := ⟨rfl, rfl, rfl, by decide +kernel, rfl, by decide +kernel, by decide +kernel⟩
theorem ok_prog {f fD CL CM : Addr} {fd fdD : FuncData} (F : Fun K "_law_program" "_law_program" s__law_program f fd) (T : Blt mg) (KM : MacK P w K mg base CL CM)
    (G__law_draw : FnOk P w K mg base CX0 1 fD fdD ["_law_pen_here", "_law_many"] spDraw) (A__law_draw : At K mg "_law_draw" fD fdD ["_law_pen_here", "_law_many"]) :
    FnOk P w K mg base CX0 6 f fd ["_law_pen_here", "_law_letters_here", "_law_rows", "_law_answers", "_law_starts"] (spProg K CL CM) := by
  obtain ⟨fI, fdI, MkM, GI, BI⟩ := KM.ex
  obtain ⟨d0, r0, b0⟩ := BI.b0
  obtain ⟨gF, bF⟩ := BI.bF
  obtain ⟨gFN, bFN⟩ := BI.bFN
  refine F.ok sc__law_program (fun vs H Q E h => ?_) (fun cdv A outer s H vs Q E hr h => ?_)
  · obtain ⟨p, c, m, t, R, A, S, ns, B, ys, bs, rs, ans, n1, n2, rfl, _⟩ := h
    rfl
  · obtain ⟨p, c, m, t, R, A, S, ns, B, ys, bs, rs, ans, n1, n2, rfl, hpen, hB, hL, hR, hrow, hA, hS, ok, aok, k⟩ := h
    have h__law_draw := hr.mono (j := 1) (by decide)
    refine ⟨_, (pss_cons (ps_if (PW.pt (pw_and (pt_cmpR (op_eqD hr.units) (pv 4) (pe_lst (pa_cons pe_int (pa_cons pe_int pa_nil))) (nomark _)) (pw_and1 (pt_cmpR op_eq (pe_call G__law_draw (by exact h__law_draw) (by rfl) A__law_draw.m A__law_draw.k A__law_draw.b .nil pass0 (pa_cons (pv 0) (pa_cons pe_int pa_nil))) pe_int (nomark _))))) (pss_one (ps_ret (pe_make MkM GI hr (by rfl) KM.m b0 r0 pass0 (pa_cons (pv 1) (pa_cons (pv 2) (pa_cons (pv 3) pa_nil)))))) pss_nil)
      (pss_cons (ps_if (PW.pt (pw_and (pt_cmpR op_eq (pe_ix ix_list (pv 4) pe_int (fun _ _ => rfl)) pe_int (nomark _)) (pw_and1 (pt_cmpR op_eq (pe_call G__law_draw (by exact h__law_draw) (by rfl) A__law_draw.m A__law_draw.k A__law_draw.b .nil pass0 (pa_cons (pv 0) (pa_cons pe_int pa_nil))) pe_int (nomark _))))) (pss_one (ps_ret (pe_makeK (n := 3) MkM GI hr (by rfl) KM.m bF pass0 (pa_cons (pv 1) (pa_cons (pv 2) (pa_cons (pv 3) pa_nil))) (pk_cons (pe_ix ix_list (pv 4) pe_int (fun _ _ => rfl)) pk_nil)))) pss_nil)
      (pss_one (ps_ret (pe_makeK (n := 3) MkM GI hr (by rfl) KM.m bFN pass0 (pa_cons (pv 1) (pa_cons (pe_callTy call_tuple_of (by rfl) T.n_tuple (by decide +kernel) (pa_cons (pv 2) pa_nil)) (pa_cons (pe_callTy call_tuple_of (by rfl) T.n_tuple (by decide +kernel) (pa_cons (pv 3) pa_nil)) pa_nil))) (pk_cons (pe_ix ix_list (pv 4) pe_int (fun _ _ => rfl)) (pk_cons (pe_ix ix_list (pv 4) pe_int (fun _ _ => rfl)) pk_nil))))))), ?_⟩
    have z1 : (100000 : Nat) ≤ sizeLine := by decide
    have hRV : RowsV K H (bs.map V.ref) rs := hrow.v
    refine seqIf_R (fun b H' => Go p c ns H H' (B + 1) ∧ (b = true → n1 = 0 ∧ n2 = 0)) (fun Q' hQ => ?_) ?_
    · refine ⟨_, rfl, by show 2 ≤ sizeLine; omega, fun u hu => ?_⟩
      have gu := (Go.refl hpen).new (o := .lst [.int 0, .int 0]) hu
      have eu : upd H u (.lst [.int 0, .int 0]) u = some (.lst [.int 0, .int 0]) := upd_same
      have hS' := gu.lst hS
      generalize upd H u (.lst [.int 0, .int 0]) = H1 at gu eu hS' ⊢
      refine ⟨.list [.int (n1 : Int), .int (n2 : Int)], .list [.int 0, .int 0], .lst (SqL.of hS') (.cons (.int _) (.cons (.int _) .nil)), .lst (SqL.of eu) (.cons (.int _) (.cons (.int _) .nil)), by rfl, by decide, _, rfl, ?_⟩
      cases q : PyData.eqv (.list [.int (n1 : Int), .int (n2 : Int)]) (.list [.int 0, .int 0]) with
      | false => exact iteF (hQ false _ ⟨gu.mono (by omega), fun z => nomatch z⟩)
      | true => exact iteT ⟨_, rfl, p, c, ns, 2, _, rfl, gu.pen, by omega, by decide, by decide, fun H2 r g2 r0 r1 => ⟨rfl, _, rfl, hQ _ _ ⟨gu.step g2, fun _ => eqv_zeros q⟩⟩⟩
    rintro b H1 ⟨g1, hz⟩
    have v1 := Sv.go g1
    have hL1 := mde_sv v1 hL
    have hR1 := v1.lst hR
    have hA1 := v1.lst hA
    have hS1 := v1.lst hS
    have hV1 := rowsV_sv v1 hRV
    cases b with
    | true =>
      obtain ⟨rfl, rfl⟩ := hz rfl
      refine iteT ⟨_, rfl, _, rfl, _, rfl, fun x dx hx hdx hne => ?_⟩
      exact mac_made ok aok hL1 (.inl (SqL.of hR1)) hV1 (.inl (SqL.of hA1)) hx hdx hne fun H' s' hm => ⟨rfl, k H' x ((g1.same s').mono (by omega)) hm⟩
    | false =>
      refine iteF ?_
      try dsimp only [tNext]
      refine seqIf_R (fun b H' => Go p c ns H H' (B + 2) ∧ (b = true → n1 = 0)) (fun Q' hQ => ?_) ?_
      · refine ⟨_, rfl, S, _, _, vN n1, rfl, rfl, SqL.of hS1, at_by (j := 0) rfl rfl, rfl, _, rfl, ?_⟩
        by_cases q : n1 = 0
        · rw [decide_eq_true (show vN n1 = V.int 0 by rw [q]; rfl)]
          exact iteT ⟨_, rfl, p, c, ns, 2, _, rfl, g1.pen, by omega, by decide, by decide, fun H2 r g2 r0 r1 => ⟨rfl, _, rfl, hQ _ _ ⟨g1.step g2, fun _ => q⟩⟩⟩
        · rw [decide_eq_false (show ¬ vN n1 = V.int 0 from fun z => q (by have := V.int.inj z; omega))]
          exact iteF (hQ false _ ⟨g1.mono (by omega), fun z => nomatch z⟩)
      rintro b H2 ⟨g2, hz2⟩
      have v2 := Sv.go g2
      have hL2 := mde_sv v2 hL
      have hR2 := v2.lst hR
      have hA2 := v2.lst hA
      have hS2 := v2.lst hS
      have hV2 := rowsV_sv v2 hRV
      cases b with
      | true =>
        obtain rfl := hz2 rfl
        refine iteT ⟨_, rfl, _, rfl, _, rfl, _, rfl, S, _, _, vN n2, rfl, rfl, SqL.of hS2, at_by (j := 1) rfl rfl, rfl, rfl, fun x dx hx hdx hne => ?_⟩
        exact mac_made ok aok hL2 (.inl (SqL.of hR2)) hV2 (.inl (SqL.of hA2)) hx hdx hne fun H' s' hm => ⟨rfl, k H' x (g2.same s') hm⟩
      | false =>
        refine iteF ?_
        try dsimp only [tNext]
        refine ⟨_, rfl, _, rfl, R, _, rfl, .inl ⟨SqL.of hR2, fun R' hR' => ?_⟩⟩
        have s3 := Ask.Same.made1 (o := .tup (bs.map V.ref)) (Same.refl H2) hR'
        have e3 : upd H2 R' (.tup (bs.map V.ref)) R' = some (.tup (bs.map V.ref)) := upd_same
        generalize upd H2 R' (.tup (bs.map V.ref)) = H3 at s3 e3 ⊢
        refine ⟨_, rfl, A, _, rfl, .inl ⟨SqL.of (s3 _ _ hA2), fun A' hA' => ?_⟩⟩
        have s4 := Ask.Same.made1 (o := .tup (ans.map V.str)) (Same.refl H3) hA'
        have e4 : upd H3 A' (.tup (ans.map V.str)) A' = some (.tup (ans.map V.str)) := upd_same
        generalize upd H3 A' (.tup (ans.map V.str)) = H4 at s4 e4 ⊢
        have s24 := s3.trans s4
        have hS4 := s24 _ _ hS2
        refine ⟨_, rfl, S, _, _, vN n2, rfl, rfl, SqL.of hS4, at_by (j := 1) rfl rfl, _, rfl, S, _, _, vN n1, rfl, rfl, SqL.of hS4, at_by (j := 0) rfl rfl, rfl, rfl, fun x dx hx hdx hne => ?_⟩
        exact mac_made ok aok (hL2.same s24) (.inr (SqT.of (s4 _ _ e3))) (hV2.same s24) (.inr (SqT.of e4)) hx hdx hne fun H' s' hm => ⟨rfl, k H' x ((g2.same s24).same s') hm⟩
end
end Ask

namespace Ask
open PySem L2
section
variable {P : Program} {w : World} {K : PySem.W.Frag} {mg : Str → Option Value} {base : Heap}
/-! ### History.spelled -/
def spSpelledT (K : PySem.W.Frag) (CL CH : Addr) : Sp := fun vs H Q _ => ∃ (m t a : Addr) (b : Str) (ys ws : List Str), vs = [.ref CH, .ref m, .str b, .ref a] ∧ Mde CL H m t ys ∧ (b = "new" ∨ b = "found") ∧ SqT K H a (ws.map V.str) ∧ (∀ z ∈ ws, z ∈ ys) ∧ ws.length ≤ 100 ∧
  ∀ (H' : Hp) (x : Addr), Same H H' → HistAt K CL CH H' x ys b (joinR (onesR ws)) → Q (.ref x) H'
theorem ok_spelledT {f fY CL CH : Addr} {fd fdY : FuncData} (F : Fun K "spelled" "History.spelled" s_Spelled f fd)
    (MY : Mk K CH fY) (bY : Binds K fdY ["self", "letters", "beginning", "runs"] []) (GY : FnOk P w K mg base CX0 5 fY fdY ["self", "letters", "beginning", "runs"] (spHist K CL CH)) :
    FnOk P w K mg base CX0 7 f fd ["cls", "letters", "beginning", "word"] (spSpelledT K CL CH) := by
  refine F.ok sc_Spelled (fun vs H Q E h => ?_) (fun cdv A outer s H vs Q E hr h => ?_)
  · obtain ⟨m, t, a, b, ys, ws, rfl, _⟩ := h
    rfl
  · obtain ⟨m, t, a, b, ys, ws, rfl, hM, hb, hS, hw, hn, k⟩ := h
    refine ⟨_, (pss_one (ps_ret (pe_makeL (i := 0) MY GY hr rfl (Or.inl rfl) bY .nil pass0 (pa_cons (pv 1) (pa_cons (pv 2) (pa_cons (pe_lc (own := [("letter", 4)]) rfl sc_Spelled.nd (pi_tup (pv 3)) (blkOk_by (N := ["cls", "letters", "beginning", "word", "letter"]) (sc := defScope s_Spelled) (by decide +kernel)) (fun _ _ _ _ _ => (pg_name (i := 4) sc_Spelled.nd rfl (Or.inl rfl))) (fun _ _ _ _ _ => pts_nil) (fun _ _ _ _ _ => (pe_tup (pa_cons (pv 4) (pa_cons pe_int pa_nil))))) pa_nil)))))), ?_⟩
    have z1 : (1000 : Nat) ≤ sizeLine := by decide
    refine ⟨rfl, _, rfl, _, rfl, _, rfl, a, rfl, ⟨_, hS⟩, fun L hL => ?_⟩
    refine lc_it (walk_tup (xs := ws.map V.str)) (fun i H' => Same H H' ∧ ∃ ks, H' L = some (.lst ks) ∧ PairsV H' ks (onesR (ws.take i))) ⟨Ask.Same.upd_new (Same.refl _) hL, [], upd_same, PairsV.nil⟩ (fun i H' _ hh => seqT_same hh.1 hS) ?_ ?_
    · rintro i v H2 H3 hi ⟨s2, ks, hL2, hk⟩ ⟨rfl, hv⟩
      rw [List.getElem?_map] at hv
      cases hz : ws[i]? with
      | none => rw [hz] at hv; cases hv
      | some z =>
        rw [hz] at hv
        cases hv
        have ek := hk.1
        have el : (onesR (ws.take i)).length ≤ 100 := by unfold onesR; rw [List.length_map, List.length_take]; omega
        refine ⟨rfl, _, rfl, by show 2 ≤ sizeLine; decide, fun u hu => ?_⟩
        have hL3 : upd H3 u (.tup [.str z, .int 1]) L = some (.lst ks) := by rw [upd_ne (ne_of_none hL2 hu)]; exact hL2
        have s3 := Ask.Same.made1 (o := .tup [.str z, .int 1]) s2 hu
        have k3 := hk.same (Ask.Same.made1 (o := .tup [.str z, .int 1]) (Same.refl H3) hu)
        refine ⟨ks, hL3, by omega, Ask.Same.upd_new s3 hL, _, upd_same, ?_⟩
        have e : onesR (ws.take (i + 1)) = onesR (ws.take i) ++ [(z, 1)] := by
          unfold onesR
          rw [List.take_add_one, hz, List.map_append]
          rfl
        rw [e]
        exact (k3.app (b := u) (r := (z, 1)) upd_same).mut hL3
    · rintro H2 ⟨s2, ks, hL2, hk⟩
      rw [List.length_map, List.take_length] at hk
      have el : (onesR ws).length ≤ 100 := by unfold onesR; rw [List.length_map]; exact hn
      refine fun x dx hx hdx hne => hist_made (rs := onesR ws) (hM.same s2) hb (.inl (SqL.of hL2)) hk.runs (by omega) (fun r hr => ?_) (by have := joinR_len (onesR ws); omega) hx hdx hne fun H3 s3 hH => ⟨rfl, k H3 x (s2.trans s3) hH⟩
      obtain ⟨z, hz, rfl⟩ := List.mem_map.mp hr
      exact ⟨hw z hz, by show (1 : Int) ≤ 1; decide, by show (1 : Int) ≤ 1000000000000000000000000000000; decide⟩
end
end Ask

namespace Ask
open PySem L2 ClX
section
variable {P : Program} {w : World} {K : PySem.W.Frag} {mg : Str → Option Value} {base : Heap}
def spLSp (K : PySem.W.Frag) : Sp := fun vs H Q _ => ∃ (a b : Addr) (ys : List Str) (wd : List Nat), vs = [.ref a, .ref b] ∧ SqT K H a (ys.map V.str) ∧ H b = some (.tup (wd.map vN)) ∧ (∀ k ∈ wd, k < ys.length) ∧ wd.length ≤ 100 ∧
  ∀ (H' : Hp) (q : Addr), Same H H' → H' q = some (.tup ((wdAt ys wd).map V.str)) → Q (.ref q) H'

abbrev s__law_spelled : Stmt := top 79
theorem sc__law_spelled : FnScope ["_law_words_here", "_law_word", "_law_k"] ["_law_words_here", "_law_word"] (defScope s__law_spelled) := ⟨rfl, rfl, rfl, by decide +kernel, rfl, by decide +kernel, by decide +kernel⟩
theorem ok_lsp {f : Addr} {fd : FuncData} (F : Fun K "_law_spelled" "_law_spelled" s__law_spelled f fd) (T : Blt mg) : FnOk P w K mg base CX0 1 f fd ["_law_words_here", "_law_word"] (spLSp K) := by
  refine F.ok sc__law_spelled (fun vs H Q E h => ?_) (fun cdv A outer s H vs Q E hr h => ?_)
  · obtain ⟨a, b, ys, wd, rfl, _⟩ := h
    rfl
  · obtain ⟨a, b, ys, wd, rfl, hS, hb, hk, hl, k⟩ := h
    refine ⟨_, (pss_one (ps_ret (pe_callTy call_tuple_of (by rfl) T.n_tuple (by decide +kernel) (pa_cons (pe_lc (own := [("_law_k", 2)]) rfl sc__law_spelled.nd (pi_tup (pv 1)) (blkOk_by (N := ["_law_words_here", "_law_word", "_law_k"]) (sc := defScope s__law_spelled) (by decide +kernel)) (fun _ _ _ _ _ => (pg_name (i := 2) sc__law_spelled.nd rfl (Or.inl rfl))) (fun _ _ _ _ _ => pts_nil) (fun _ _ _ _ _ => (pe_ix (show IxR _ (rIxT K) from ix_tup) (pv 0) (pv 2) (fun _ _ => rfl)))) pa_nil)))), ?_⟩
    have z1 : (100000 : Nat) ≤ sizeLine := by decide
    refine ⟨_, rfl, b, rfl, ⟨_, SqT.of hb⟩, fun L hL => ?_⟩
    refine lc_it (walk_tup (xs := wd.map vN)) (fun i H' => Same H H' ∧ H' L = some (.lst ((wdAt ys (wd.take i)).map V.str))) ⟨Ask.Same.upd_new (Same.refl _) hL, upd_same⟩ (fun i H' _ hh => SqT.of (hh.1 _ _ hb)) ?_ ?_
    · rintro i v H2 H3 hi ⟨s2, e2⟩ ⟨rfl, hv⟩
      rw [List.length_map] at hi
      obtain ⟨x, hx⟩ : ∃ x, wd[i]? = some x := ⟨_, List.getElem?_eq_getElem hi⟩
      obtain rfl : v = vN x := by
        rw [List.getElem?_map, hx] at hv
        exact (Option.some.inj hv).symm
      have lx := hk x (List.mem_of_getElem? hx)
      have e : ys[x]? = some ys[x] := List.getElem?_eq_getElem lx
      have tk : wdAt ys (wd.take (i + 1)) = wdAt ys (wd.take i) ++ [ys[x]] := by
        unfold wdAt
        rw [List.take_add_one, hx, List.map_append]
        show _ ++ [(ys[x]?).getD Str.empty] = _
        rw [e]
        rfl
      refine ⟨rfl, _, rfl, _, rfl, a, _, _, .str ys[x], rfl, rfl, seqT_same s2 hS, at_by (j := x) rfl (by rw [List.getElem?_map, e]; rfl), _, e2, ?_, Ask.Same.upd_new s2 hL, by rw [upd_same, tk, List.map_append]; rfl⟩
      unfold wdAt
      rw [List.length_map, List.length_map, List.length_take]
      omega
    · rintro H2 ⟨s2, e2⟩
      rw [List.length_map, List.take_length] at e2
      exact ⟨L, _, rfl, .inl ⟨SqL.of e2, fun q hq => k _ q (s2.trans (Ask.Same.made1 (Same.refl H2) hq)) upd_same⟩⟩
def spLHi (K : PySem.W.Frag) (CL CH : Addr) : Sp := fun vs H Q _ => ∃ (m t b : Addr) (s : Str) (ys : List Str) (wd : List Nat), vs = [.ref m, .str s, .ref b] ∧ Mde CL H m t ys ∧ (s = "new" ∨ s = "found") ∧ H b = some (.tup (wd.map vN)) ∧ (∀ k ∈ wd, k < ys.length) ∧ wd.length ≤ 100 ∧
  ∀ (H' : Hp) (x : Addr), Same H H' → HistAt K CL CH H' x ys s (joinR (onesR (wdAt ys wd))) → Q (.ref x) H'
abbrev s__law_history : Stmt := top 83
theorem sc__law_history : FnScope ["_law_letters_here", "_law_beginning", "_law_word"] ["_law_letters_here", "_law_beginning", "_law_word"] (defScope s__law_history) := ⟨rfl, rfl, rfl, by decide +kernel, rfl, by decide +kernel, by decide +kernel⟩
theorem ok_lhi {f fS fP fPl CL CH : Addr} {mc : Value} {fd fdS fdP : FuncData} (F : Fun K "_law_history" "_law_history" s__law_history f fd) (hL0 : Cls K CL) (nW : NoAttr K CL "words")
    (G__law_spelled : FnOk P w K mg base CX0 1 fS fdS ["_law_words_here", "_law_word"] (spLSp K)) (A__law_spelled : At K mg "_law_spelled" fS fdS ["_law_words_here", "_law_word"])
    (GP : FnOk P w K mg base CX0 7 fP fdP ["cls", "letters", "beginning", "word"] (spSpelledT K CL CH)) (bP : Binds K fdP ["cls", "letters", "beginning", "word"] []) (rP : CRead K CH mc) (cP : CMet K CH mc "spelled" fPl fP) (mH : mg "History" = some (.ref CH)) :
    FnOk P w K mg base CX0 8 f fd ["_law_letters_here", "_law_beginning", "_law_word"] (spLHi K CL CH) := by
  refine F.ok sc__law_history (fun vs H Q E h => ?_) (fun cdv A outer s H vs Q E hr h => ?_)
  · obtain ⟨m, t, b, s, ys, wd, rfl, _⟩ := h
    rfl
  · obtain ⟨m, t, b, s, ys, wd, rfl, hM, hs, hb, hk, hl, k⟩ := h
    have h__law_spelled := hr.mono (j := 1) (by decide)
    refine ⟨_, (pss_one (ps_ret (pe_cmeth (pe_gv (v := .ref CH) rfl ⟨_, mH, rfl⟩) rP cP (FnOk.raw GP bP .nil) hr pass0 (pa_cons (pv 0) (pa_cons (pv 1) (pa_cons (pe_call G__law_spelled (by exact h__law_spelled) (by rfl) A__law_spelled.m A__law_spelled.k A__law_spelled.b .nil pass0 (pa_cons (pe_fld (pv 0) rfl) (pa_cons (pv 2) pa_nil))) pa_nil)))))), ?_⟩
    obtain ⟨dl, ol, hm, ht, hol⟩ := id hM
    refine ⟨rfl, _, rfl, _, rfl, _, rfl, m, CL, dl, _, _, rfl, hm, hL0, nW, rfl, _, rfl, t, b, ys, wd, rfl, .inl (.inr ⟨ol, ht⟩), hb, hk, hl, fun H2 q s2 hq => ?_⟩
    refine ⟨m, t, q, s, ys, wdAt ys wd, rfl, hM.same s2, hs, SqT.of hq, wdAt_mem hk, by unfold wdAt; rw [List.length_map]; exact hl, fun H' x s' hx => k H' x (s2.trans s') hx⟩
end
end Ask

/-! a lambda in a name of one's own, called within a try -/
namespace Ask
open PySem L2 PySem.Spec PyProof.Rows LamX NdefX
def tCallPS (i : Nat) (f : Addr) (F : LF) (sp : Sp) (E : L2.St → XK) : TE := fun σ H Q => σ[i]? = some (some (.ref f)) ∧ LamIn H f F ∧ sp [] H Q (E σ)
theorem pe_callPS {X : Cx} {CX : CXT} {k i : Nat} {f : Addr} {F : LF} {sp : Sp} {E : L2.St → XK} {x : Str} {p pos : Pos} (la : LamAt X.prog X.w X.K X.mg X.base CX k X.fs X.s_0 X.H_0 f F sp) (hex : X.ex = []) (hr : Room k X.A) (hx : ∀ σ, PassesAt CX X σ (E σ)) (hN : X.N[i]? = some x) (hv : Vis X.env.scope x)
    (hd : (x == ("__debug__" : Str)) = false := by decide) (hcd : (x == ("__classdict__" : Str)) = false := by decide) :
    PE X (.Call (.Name x p) [] [] pos) (tCallPS i f F sp E) := by
  refine ⟨fun pins s σ H Q I h => ?_⟩
  obtain ⟨hs, hf, q⟩ := h
  refine wpAny_Call_Name_kw (thn ((pe_var (pos := p) hN hv hd hcd).run pins s σ H (fun v H1 => v = .ref f ∧ H1 = H) I ⟨.ref f, hs, rfl, rfl⟩) fun u s1 ⟨v, H1, I1, r1, q1⟩ => ?_)
  obtain ⟨ev, eH⟩ := q1
  subst ev
  rw [eH] at I1
  obtain rfl : u = Value.ref f := r1
  refine PySem.W.callWith_F0 (first := []) (lamFn I1 hf) ?_
  have un := I1.base
  rw [hex] at un
  refine wpAny_call (codeAny_mono (la.run X.A X.stack s1 H [] [] Q (E σ) hr I1.env0 un hf .nil q) fun r s' hq => ?_)
  cases r with
  | error e => exact hx σ _ H s1 e s' I1 hq
  | ok fl =>
    cases fl with
    | ret u => exact I1.after hq
    | next => exact False.elim hq
    | brk => exact False.elim hq
    | cont => exact False.elim hq
end Ask

namespace Ask
open PySem L2 LamX NdefX
section
variable {P : Program} {w : World} {K : PySem.W.Frag} {mg : Str → Option Value} {base : Heap}
/-- a deed that is refused -/
def spRefd (CO : Addr) : LPr → Sp := fun L vs H Q _ => ∃ (f : Addr) (F : LF) (sp : Sp), vs = [.ref f] ∧ L f F sp ∧ LamIn H f F ∧ (∀ Q' E', E' (.ref CO) none H → sp [] H Q' E') ∧ Q (.bl true) H
theorem refd_mono (CO : Addr) : MonoH (spRefd CO) := fun L L' hL vs H Q E ⟨f, F, sp, a, b, c⟩ => ⟨f, F, sp, a, hL _ _ _ b, c⟩
abbrev tsTrue : TS := tRet (tC (.bl true))
abbrev s__law_is_refused : Stmt := top 92
theorem sc__law_is_refused : FnScope ["_law_deed"] ["_law_deed"] (defScope s__law_is_refused) := ⟨rfl, rfl, rfl, by decide +kernel, rfl, by decide +kernel, by decide +kernel⟩
theorem ok_refd {f CO : Addr} {fd : FuncData} (F : Fun K "_law_is_refused" "_law_is_refused" s__law_is_refused f fd) (mO : mg "OtherLetters" = some (.ref CO)) (ee : PySem.W.exmOne K (.ref CO) (.ref CO) = some true) :
    FnOkH P w K mg base (L2.CX P w) CX0 11 12 f fd ["_law_deed"] (spRefd CO) := by
  refine okH F sc__law_is_refused (fun L vs H Q E h => ?_) (fun cdv A outer s H vs Q E hr h => ?_)
  · obtain ⟨g, G, sp, rfl, _⟩ := h
    rfl
  · obtain ⟨g, G, sp, rfl, la, lin, hsp, k⟩ := h
    refine ⟨_, (pss_cons (ps_try_hands (tb := fun W => tDrop (tCallPS 0 g G sp (WE W))) (Wf := fun D => wNo K (.ref CO) tsTrue (fun _ _ _ _ => False) D) rfl rfl
        (fun W pn xe tk _ => pss_one (ps_expr (by exact (pe_callPS la rfl hr (fun σ => passAt tk σ) rfl (Or.inl rfl)))))
        (fun D => hands_no (ts := tsTrue) rfl ⟨rfl, by decide, Or.inl mO⟩ (fun a oe pn => pss_one (ps_ret pe_bl)) (hands_nil rfl rfl L2.takes0)))
      (pss_one (ps_ret pe_bl))), ?_⟩
    refine ⟨rfl, lin, hsp _ _ ?_⟩
    exact ⟨true, ee, fun _ => k, fun q => Bool.noConfusion q⟩
end
end Ask

namespace Ask
open PySem L2
/-! ### runs as data -/
def runD (r : Run) : PyData := .tuple [.str r.1, .int r.2]
def runsD (rs : List Run) : PyData := .tuple (rs.map runD)
theorem dp_runs {K : PySem.W.Frag} {H : Hp} : ∀ {xs : List V} {rs : List Run}, PairsV H xs rs → DpAll K H xs (rs.map runD)
  | [], [], _ => .nil
  | [], _ :: _, h => by have := h.1; simp at this
  | _ :: _, [], h => by have := h.1; simp at this
  | x :: xs, r :: rs, h => by
    obtain ⟨b, rfl, hb⟩ := h.2 0 x r rfl rfl
    refine .cons (.tup (SqT.of hb) (.cons (.str _) (.cons (.int _) .nil))) (dp_runs ⟨Nat.succ.inj h.1, fun i v r' h1 h2 => h.2 (i + 1) v r' h1 h2⟩)
theorem eqv_int1 (a b : Int) : PyData.eqv (.int a) (.int b) = decide (a = b) := by
  simp only [PyData.eqv]
  by_cases h : a = b
  · subst h; simp
  · rw [decide_eq_false h]; simpa using h
theorem eqv_run (r s : Run) : PyData.eqv (runD r) (runD s) = decide (r = s) := by
  unfold runD
  rw [PyData.eqv, PyData.eqvAll, PyData.eqvAll, PyData.eqvAll, eqv_str1, eqv_int1, Bool.and_true]
  by_cases h : r = s
  · subst h; simp
  · rw [decide_eq_false h]
    by_cases h1 : r.1 = s.1
    · have h2 : ¬ r.2 = s.2 := fun z => h (Prod.ext h1 z)
      rw [decide_eq_false h2, Bool.and_false]
    · rw [decide_eq_false h1, Bool.false_and]
theorem eqvAll_runs : ∀ rs ss : List Run, PyData.eqvAll (rs.map runD) (ss.map runD) = decide (rs = ss)
  | [], [] => by simp [PyData.eqvAll]
  | [], _ :: _ => by simp [PyData.eqvAll]
  | _ :: _, [] => by simp [PyData.eqvAll]
  | r :: rs, s :: ss => by
    rw [List.map_cons, List.map_cons, PyData.eqvAll, eqv_run, eqvAll_runs rs ss]
    by_cases h : r = s
    · subst h
      by_cases h2 : rs = ss
      · subst h2; simp
      · simp [h2]
    · simp [h]
theorem eqv_runs (rs ss : List Run) : PyData.eqv (runsD rs) (runsD ss) = decide (rs = ss) := by
  unfold runsD
  rw [PyData.eqv]
  exact eqvAll_runs rs ss
theorem lay_runs : ∀ {rs : List Run}, (∀ r ∈ rs, Asc r.1) → PyData.canLayAll0 (rs.map runD) = true ∧ PyData.depthAll (rs.map runD) ≤ 1 ∧ PyData.hasDictAll (rs.map runD) = false
  | [], _ => ⟨rfl, Nat.zero_le _, rfl⟩
  | r :: rs, h => by
    obtain ⟨h1, h2, h3⟩ := lay_runs (rs := rs) fun x hx => h x (List.mem_cons_of_mem _ hx)
    have a := asc_ok (h r (List.mem_cons_self ..))
    refine ⟨?_, ?_, ?_⟩
    · show (((PyData.canLay0 (.str r.1)) && (PyData.canLay0 (.int r.2) && true)) && PyData.canLayAll0 (rs.map runD)) = true
      rw [h1]
      show (((PyData.strOk r.1) && (true && true)) && true) = true
      rw [a] <;> rfl
    · show max (PyData.depth (runD r)) (PyData.depthAll (rs.map runD)) ≤ 1
      refine Nat.max_le.mpr ⟨?_, h2⟩
      show max 0 (max 0 0) + 1 ≤ 1
      decide
    · show ((false || (false || false)) || PyData.hasDictAll (rs.map runD)) = false
      rw [h3] <;> rfl
theorem shaped_runs {rs : List Run} (h : ∀ r ∈ rs, Asc r.1) : SeqAt.shaped (runsD rs) = true := by
  obtain ⟨h1, h2, _⟩ := lay_runs h
  exact shaped_of h1 (by show PyData.depthAll (rs.map runD) + 1 ≤ 64; omega)
/-- letters whose signs are plain ones -/
def Plain (ys : List Str) : Prop := ∀ y ∈ ys, y.length ≤ 500 ∧ Asc y
def OfL (ys : List Str) (rs : List Run) : Prop := ∀ r ∈ rs, r.1 ∈ ys
theorem OfL.asc {ys : List Str} {rs : List Run} (h : OfL ys rs) (p : Plain ys) : ∀ r ∈ rs, Asc r.1 := fun r hr => (p _ (h r hr)).2
section
variable {P : Program} {w : World} {K : PySem.W.Frag} {mg : Str → Option Value} {base : Heap}
/-! ### History.__eq__ -/
def spHEq (K : PySem.W.Frag) (CL CH : Addr) : Sp := fun vs H Q _ => ∃ (p q : Addr) (ys zs : List Str) (b c : Str) (rs ss : List Run), vs = [.ref p, .ref q] ∧ HistAt K CL CH H p ys b rs ∧ HistAt K CL CH H q zs c ss ∧ Plain ys ∧ Plain zs ∧ OfL ys rs ∧ OfL zs ss ∧
  Q (.bl (decide (ys = zs) && (decide (b = c) && decide (rs = ss)))) H
abbrev s_HEq : Stmt := inClass (top 48) 7
theorem sc_HEq : FnScope ["self", "other"] ["self", "other"] (defScope s_HEq) := ⟨rfl, rfl, rfl, by decide +kernel, rfl, by decide +kernel, by decide +kernel⟩
theorem ok_heq {f fQ CL CH : Addr} {fd fdQ : FuncData} (F : Fun K "__eq__" "History.__eq__" s_HEq f fd) (T : Blt mg) (hC : HsC K CH) (Y : XkC K CH) (mH : mg "History" = some (.ref CH))
    (GQ : FnOk P w K mg base CX0 1 fQ fdQ ["self", "other"] (spEq2 CL)) (bQ : Binds K fdQ ["self", "other"] []) (hQ : PySem.W.findIn K (.ref CL) "__eq__" = some (some (.ref fQ))) (iQ : PySem.W.isFn K (.ref fQ) = true) :
    FnOk P w K mg base CX0 2 f fd ["self", "other"] (spHEq K CL CH) := by
  refine F.ok sc_HEq (fun vs H Q E h => ?_) (fun cdv A outer s H vs Q E hr h => ?_)
  · obtain ⟨p, q, ys, zs, b, c, rs, ss, rfl, _⟩ := h
    rfl
  · obtain ⟨p, q, ys, zs, b, c, rs, ss, rfl, ⟨dx, m, t, c1, ks, hp, hM, hc1, hks⟩, ⟨dx', m', t', c2, ls, hq, hM', hc2, hls⟩, py, pz, oy, oz, k⟩ := h
    refine ⟨_, (pss_one (ps_ret (pe_and (pe_callB call_isi (by rfl) T.n_isinstance (by decide +kernel) (pa_cons (pv 1) (pa_cons (pe_gv (v := .ref CH) rfl ⟨_, mH, rfl⟩) pa_nil))) (pe_and (pe_cmpR (op_eqI (C := CL) (E := E0) GQ hr bQ pass0 hQ iQ) (pe_fld (pv 0) rfl) (pe_fld (pv 1) rfl) (nomark _)) (pe_and (pe_cmpR op_eq (pe_fld (pv 0) rfl) (pe_fld (pv 1) rfl) (nomark _)) (pe_one (pe_cmpR (op_eqD hr.units) (pe_fld (pv 0) rfl) (pe_fld (pv 1) rfl) (nomark _)))))))), ?_⟩
    have kk : PySem.W.kitOne K (.ref CH) (.ref CH) = some true := by
      unfold PySem.W.kitOne
      rw [if_pos (by simp)]
    refine ⟨_, rfl, _, _, _, _, true, rfl, .own CH, .base (.ins hq hC.c Y.ha Y.hn Y.ht Y.hm), kk, _, rfl, ite2 (fun _ => ?_) (fun q => absurd rfl q)⟩
    obtain ⟨d1, o1, e1, e2, e3⟩ := id hM
    obtain ⟨d2, o2, g1, g2, g3⟩ := id hM'
    refine ⟨_, rfl, p, CH, dx, _, _, rfl, hp, hC.c, hC.a1, rfl, _, rfl, q, CH, dx', _, _, rfl, hq, hC.c, hC.a1, rfl, m, m', d1, d2, _, _, rfl, rfl, e1, g1, m, t, m', t', ys, zs, rfl, hM, hM', py, pz, _, rfl, _, rfl, ?_⟩
    rw [eqv_strs]
    refine ite2 (fun h => ?_) (fun h => ?_)
    · rw [h, Bool.true_and] at k
      refine ⟨_, rfl, p, CH, dx, _, _, rfl, hp, hC.c, hC.a2, rfl, _, rfl, q, CH, dx', _, _, rfl, hq, hC.c, hC.a2, rfl, rfl, _, rfl, ?_⟩
      have e : decide (V.str b = V.str c) = decide (b = c) := by
        by_cases h : b = c
        · rw [decide_eq_true h, decide_eq_true (congrArg V.str h)]
        · rw [decide_eq_false h, decide_eq_false (fun z => h (V.str.inj z))]
      rw [e]
      refine ite2 (fun h => ?_) (fun h => ?_)
      · rw [h, Bool.true_and] at k
        refine ⟨_, rfl, p, CH, dx, _, _, rfl, hp, hC.c, hC.a3, rfl, _, rfl, q, CH, dx', _, _, rfl, hq, hC.c, hC.a3, rfl, runsD rs, runsD ss, .tup hc1 (dp_runs hks), .tup hc2 (dp_runs hls), shaped_runs (oy.asc py), shaped_runs (oz.asc pz), ?_⟩
        rw [eqv_runs]
        exact k
      · have h : decide (b = c) = false := (Bool.not_eq_true _).mp h
        rw [h, Bool.false_and] at k
        exact k
    · have h : decide (ys = zs) = false := (Bool.not_eq_true _).mp h
      rw [h, Bool.false_and] at k
      exact k
end
end Ask

namespace Ask
open PySem L2
theorem SOk.cases {ys : List Str} {k : Str} {s : V} (h : SOk ys k s) : s = .non ∨ ∃ y, s = .str y ∧ y ∈ ys := by
  by_cases l : k ∈ LK
  · exact .inl (h.2 l)
  · exact .inr (h.1 l)
/-- a sentence in its one form at p -/
def SenAt (K : PySem.W.Frag) (CL CS : Addr) (H : Hp) (p : Addr) (ys : List Str) (k x : Str) (s : V) : Prop := ∃ (dx m t : Addr), H p = some (.ins CS dx [("letters", .ref m), ("kind", .str k), ("first", .str x), ("second", s)]) ∧ Mde CL H m t ys
theorem SenAt.same {K : PySem.W.Frag} {CL CS p : Addr} {H H' : Hp} {ys : List Str} {k x : Str} {s : V} (h : SenAt K CL CS H p ys k x s) (e : Same H H') : SenAt K CL CS H' p ys k x s := by
  obtain ⟨dx, m, t, h1, h2⟩ := h
  exact ⟨dx, m, t, e _ _ h1, h2.same e⟩
theorem nf_bg {ys : List Str} {k x k' x' : Str} {s s' : V} (h : nfT ys k x s = [.str k', .str x', s']) : bgR k' = bgR k := by
  unfold nfT at h
  split at h
  · rename_i q
    injection h with h1 _
    rw [← V.str.inj h1, q.1]
    rfl
  · split at h
    · injection h with h1 _
      rw [V.str.inj h1]
    · injection h with h1 _
      rw [V.str.inj h1]
section
variable {P : Program} {w : World} {K : PySem.W.Frag} {mg : Str → Option Value} {base : Heap}
/-! ### equality of sentences -/
def spSEq (K : PySem.W.Frag) (CL CS : Addr) : Sp := fun vs H Q _ => ∃ (p : Addr) (v : V) (ys : List Str) (k x : Str) (s : V), vs = [.ref p, v] ∧ SenAt K CL CS H p ys k x s ∧ SOk ys k s ∧ Plain ys ∧
  ((∃ (q : Addr) (zs : List Str) (k2 x2 : Str) (s2 : V), v = .ref q ∧ SenAt K CL CS H q zs k2 x2 s2 ∧ SOk zs k2 s2 ∧ Plain zs ∧ Q (.bl (decide (ys = zs ∧ k = k2 ∧ x = x2 ∧ s = s2))) H) ∨
    (∃ ty, TyX K H v ty ∧ PySem.W.kitOne K ty (.ref CS) = some false ∧ Q (.bl false) H))
abbrev s_SEq : Stmt := inClass (top 60) 3
theorem sc_SEq : FnScope ["self", "other"] ["self", "other"] (defScope s_SEq) := ⟨rfl, rfl, rfl, by decide +kernel, rfl, by decide +kernel, by decide +kernel⟩
theorem ok_seq {f fQ CL CS : Addr} {fd fdQ : FuncData} (F : Fun K "__eq__" "Sentence.__eq__" s_SEq f fd) (T : Blt mg) (hC : SnC K CS) (Y : XkC K CS) (mS : mg "Sentence" = some (.ref CS))
    (GQ : FnOk P w K mg base CX0 1 fQ fdQ ["self", "other"] (spEq2 CL)) (bQ : Binds K fdQ ["self", "other"] []) (hQ : PySem.W.findIn K (.ref CL) "__eq__" = some (some (.ref fQ))) (iQ : PySem.W.isFn K (.ref fQ) = true) :
    FnOk P w K mg base CX0 2 f fd ["self", "other"] (spSEq K CL CS) := by
  refine F.ok sc_SEq (fun vs H Q E h => ?_) (fun cdv A outer s H vs Q E hr h => ?_)
  · obtain ⟨p, v, ys, k, x, s, rfl, _⟩ := h
    rfl
  · obtain ⟨p, v, ys, k, x, s', rfl, ⟨dx, m, t, hp, hM⟩, so, py, h⟩ := h
    refine ⟨_, (pss_one (ps_ret (pe_and (pe_callB call_isi (by rfl) T.n_isinstance (by decide +kernel) (pa_cons (pv 1) (pa_cons (pe_gv (v := .ref CS) rfl ⟨_, mS, rfl⟩) pa_nil))) (pe_and (pe_cmpR (op_eqI (C := CL) (E := E0) GQ hr bQ pass0 hQ iQ) (pe_fld (pv 0) rfl) (pe_fld (pv 1) rfl) (nomark _)) (pe_and (pe_cmpR op_eq (pe_fld (pv 0) rfl) (pe_fld (pv 1) rfl) (nomark _)) (pe_and (pe_cmpR op_eq (pe_fld (pv 0) rfl) (pe_fld (pv 1) rfl) (nomark _)) (pe_one (pe_cmpR op_eq (pe_fld (pv 0) rfl) (pe_fld (pv 1) rfl) (nomark _))))))))), ?_⟩
    rcases h with ⟨q, zs, k2, x2, s2, rfl, ⟨dx', m', t', hq, hM'⟩, so2, pz, kq⟩ | ⟨ty, hty, hkt, kq⟩
    · have kk : PySem.W.kitOne K (.ref CS) (.ref CS) = some true := by
        unfold PySem.W.kitOne
        rw [if_pos (by simp)]
      refine ⟨_, rfl, _, _, _, _, true, rfl, .own CS, .base (.ins hq hC.c Y.ha Y.hn Y.ht Y.hm), kk, _, rfl, ite2 (fun _ => ?_) (fun q => absurd rfl q)⟩
      obtain ⟨d1, o1, e1, e2, e3⟩ := id hM
      obtain ⟨d2, o2, g1, g2, g3⟩ := id hM'
      refine ⟨_, rfl, p, CS, dx, _, _, rfl, hp, hC.c, hC.a1, rfl, _, rfl, q, CS, dx', _, _, rfl, hq, hC.c, hC.a1, rfl, m, m', d1, d2, _, _, rfl, rfl, e1, g1, m, t, m', t', ys, zs, rfl, hM, hM', py, pz, _, rfl, _, rfl, ?_⟩
      rw [eqv_strs]
      by_cases e1 : ys = zs
      case neg =>
        rw [decide_eq_false (fun z => e1 z.1)] at kq
        rw [decide_eq_false e1]
        exact iteF kq
      rw [decide_eq_true e1]
      refine iteT ⟨_, rfl, p, CS, dx, _, _, rfl, hp, hC.c, hC.a2, rfl, _, rfl, q, CS, dx', _, _, rfl, hq, hC.c, hC.a2, rfl, rfl, _, rfl, ?_⟩
      by_cases e2 : k = k2
      case neg =>
        rw [decide_eq_false (fun z => e2 z.2.1)] at kq
        rw [decide_eq_false (fun z => e2 (V.str.inj z))]
        exact iteF kq
      rw [decide_eq_true (congrArg V.str e2)]
      refine iteT ⟨_, rfl, p, CS, dx, _, _, rfl, hp, hC.c, hC.a3, rfl, _, rfl, q, CS, dx', _, _, rfl, hq, hC.c, hC.a3, rfl, rfl, _, rfl, ?_⟩
      by_cases e3 : x = x2
      case neg =>
        rw [decide_eq_false (fun z => e3 z.2.2.1)] at kq
        rw [decide_eq_false (fun z => e3 (V.str.inj z))]
        exact iteF kq
      rw [decide_eq_true (congrArg V.str e3)]
      have sc : scal s' s2 = true := by
        rcases so.cases with rfl | ⟨y, rfl, _⟩ <;> rcases so2.cases with rfl | ⟨z, rfl, _⟩ <;> rfl
      refine iteT ⟨_, rfl, p, CS, dx, _, _, rfl, hp, hC.c, hC.a4, rfl, _, rfl, q, CS, dx', _, _, rfl, hq, hC.c, hC.a4, rfl, sc, ?_⟩
      have e : decide (s' = s2) = decide (ys = zs ∧ k = k2 ∧ x = x2 ∧ s' = s2) := by
        by_cases q : s' = s2
        · rw [decide_eq_true q, decide_eq_true ⟨e1, e2, e3, q⟩]
        · rw [decide_eq_false q, decide_eq_false (fun z => q z.2.2.2)]
      rw [e]
      exact kq
    · exact ⟨_, rfl, _, _, _, _, false, rfl, .own CS, hty, hkt, _, rfl, iteF kq⟩
end
end Ask

namespace Ask
open PySem L2
section
variable {P : Program} {w : World} {K : PySem.W.Frag} {mg : Str → Option Value} {base : Heap}
/-! ### a history of checked runs -/
def spChk (CK : Addr) : Sp := fun vs H Q _ => ∃ (p dx : Addr) (c : Addr), vs = [.ref p, .ref c] ∧ H p = some (.ins CK dx []) ∧ ∀ H', H' p = some (.ins CK dx [("runs", .ref c)]) → (∀ b o, b ≠ p → H b = some o → H' b = some o) → Q .non H'
abbrev s_Chk_init : Stmt := inClass (top 47) 0
theorem sc_Chk_init : FnScope ["self", "runs"] ["self", "runs"] (defScope s_Chk_init) := ⟨rfl, rfl, rfl, by decide +kernel, rfl, by decide +kernel, by decide +kernel⟩
theorem ok_chk {f CK : Addr} {fd : FuncData} (F : Fun K "__init__" "CheckedRuns.__init__" s_Chk_init f fd) (cK : Cls K CK) (nK : NoAttr K CK "runs") : FnOk P w K mg base CX0 1 f fd ["self", "runs"] (spChk CK) := by
  refine F.ok sc_Chk_init (fun vs H Q E h => ?_) (fun cdv A outer s H vs Q E hr h => ?_)
  · obtain ⟨p, dx, c, rfl, _⟩ := h
    rfl
  · obtain ⟨p, dx, c, rfl, hp, k⟩ := h
    refine ⟨_, pss_one (ps_fld (pv 0) (pv 1) rfl), ?_⟩
    refine ⟨_, rfl, _, rfl, p, CK, dx, [], rfl, hp, cK, nK, (by show 0 < 1000; decide), k _ upd_same fun b o hb e => by rw [upd_ne hb]; exact e⟩
def spHistC (K : PySem.W.Frag) (CL CH CK : Addr) : Sp := fun vs H Q _ => ∃ (p dx m t a dk c : Addr) (b : Str) (ys : List Str) (ks : List V) (rs : List Run), vs = [.ref p, .ref m, .str b, .ref a] ∧ H p = some (.ins CH dx []) ∧ Mde CL H m t ys ∧ (b = "new" ∨ b = "found") ∧
  H a = some (.ins CK dk [("runs", .ref c)]) ∧ SqT K H c ks ∧ PairsV H ks rs ∧ rs.length ≤ 1000 ∧
  ∀ H', H' p = some (.ins CH dx (hf m c b rs)) → Mde CL H' m t ys → SqT K H' c ks → PairsV H' ks rs → (∀ b o, b ≠ p → H b = some o → H' b = some o) → Q .non H'
theorem ok_histInitC {dvs : List V} {f fB fX fZ CL CH CK : Addr} {fd fdB fdX fdZ : FuncData} (F : FunD K "__init__" "History.__init__" (defArgs s_Hist_init) (defBody s_Hist_init) (defScope s_Hist_init) dvs [] f fd) (T : Blt mg) (hC : HsC K CH) (O : OnC K mg "CheckedRuns" CK) (cK : Cls K CK) (nK : NoAttr K CK "runs") (YK : XkC K CK)
    (GB : FnOk P w K mg base CX0 2 fB fdB ["value"] spReqBeg) (AB : At K mg "require_beginning" fB fdB ["value"])
    (GX : FnOk P w K mg base CX0 4 fX fdX ["letters", "kept", "runs"] (spExtOk K CL)) (AX : At K mg "extended" fX fdX ["letters", "kept", "runs"])
    (GZ : FnOk P w K mg base CX0 1 fZ fdZ ["runs"] (spSize K)) (AZ : At K mg "size_of" fZ fdZ ["runs"]) :
    FnOk P w K mg base CX0 5 f fd ["self", "letters", "beginning", "runs"] (spHistC K CL CH CK) := by
  refine F.ok sc_Hist_init (fun vs H Q E h => ?_) (fun cdv A outer s H vs Q E hr h => ?_)
  · obtain ⟨p, dx, m, t, a, dk, c, b, ys, ks, rs, rfl, _⟩ := h
    rfl
  · obtain ⟨p, dx, m, t, a, dk, c, b, ys, ks, rs, rfl, hp, hM, hb, ha, hc0, hR, ln, k⟩ := h
    have hr1 := hr.mono (j := 1) (by decide)
    refine ⟨_, PSs.nox (pss_cons (ps_expr (pe_call GB (hr.mono (by decide)) (by rfl) AB.m AB.k AB.b .nil pass0 (pa_cons (pv 2) pa_nil)))
      (pss_cons (ps_fld (pv 0) (pv 1) rfl)
      (pss_cons (ps_fld (pv 0) (pv 2) rfl)
      (pss_cons (ps_fld (pv 0) (pe_ifExp (pt_val (pe_callB call_isi (by rfl) T.n_isinstance (by decide +kernel) (pa_cons (pv 3) (pa_cons (pe_gv (v := .ref CK) rfl ⟨_, O.m, rfl⟩) pa_nil)))) (pe_fld (pv 3) rfl) (pe_call GX hr (by rfl) AX.m AX.k AX.b .nil pass0 (pa_cons (pv 1) (pa_cons (pe_tup pa_nil) (pa_cons (pv 3) pa_nil))))) rfl)
      (pss_cons (ps_fld (pv 0) (pe_call GZ hr1 (by rfl) AZ.m AZ.k AZ.b .nil pass0 (pa_cons (pe_fld (pv 0) rfl) pa_nil)) rfl)
      (pss_one (ps_fld (pv 0) (pe_ifExp (pt_truth (pe_fld (pv 0) rfl) (by intro _; rfl)) (pe_ix ix_tup (pe_ix ix_tup (pe_fld (pv 0) rfl) (pe_un un_neg pe_int) (fun _ _ => rfl)) pe_int (fun _ _ => rfl)) (pv 2)) rfl))))))), ?_⟩
    refine ⟨_, rfl, b, rfl, hb, ?_⟩
    -- letters, beginning
    refine ⟨_, rfl, _, rfl, p, CH, dx, [], rfl, hp, hC.c, hC.a1, (by show 0 < 1000; decide), ?_⟩
    have p1 : upd H p (.ins CH dx [("letters", .ref m)]) p = some (.ins CH dx [("letters", .ref m)]) := upd_same
    refine ⟨_, rfl, _, rfl, p, CH, dx, _, rfl, p1, hC.c, hC.a2, (by show 1 < 1000; decide), ?_⟩
    have p2 : upd (upd H p (.ins CH dx (putF "letters" (.ref m) []))) p (.ins CH dx (putF "beginning" (.str b) [("letters", .ref m)])) p = some (.ins CH dx [("letters", .ref m), ("beginning", .str b)]) := upd_same
    have k2 : ∀ b' o, b' ≠ p → H b' = some o → upd (upd H p (.ins CH dx (putF "letters" (.ref m) []))) p (.ins CH dx (putF "beginning" (.str b) [("letters", .ref m)])) b' = some o := fun b' o hb e => by rw [upd_ne hb, upd_ne hb]; exact e
    generalize upd (upd H p (.ins CH dx (putF "letters" (.ref m) []))) p (.ins CH dx (putF "beginning" (.str b) [("letters", .ref m)])) = H2 at p2 k2 ⊢
    have hM2 := hM.but k2 hp
    have nap : a ≠ p := ne_of ha hp (by intro z; injection z with z1 z2 z3; cases z3)
    have ha2 := k2 _ _ nap ha
    have hc := seqT_but hc0 k2 hp
    have hks := hR.but k2 hp
    -- runs
    have kk : PySem.W.kitOne K (.ref CK) (.ref CK) = some true := by
      unfold PySem.W.kitOne
      rw [if_pos (by simp)]
    refine ⟨_, rfl, .ref a, .ref CK, _, _, true, rfl, .own CK, .base (.ins ha2 cK YK.ha YK.hn YK.ht YK.hm), kk, _, rfl, iteT ?_⟩
    refine ⟨_, rfl, a, CK, dk, _, _, rfl, ha2, cK, nK, rfl, ?_⟩
    have s24 := Same.refl H2
    refine ⟨_, rfl, p, CH, dx, _, rfl, s24 _ _ p2, hC.c, hC.a3, (by show 2 < 1000; decide), ?_⟩
    have p5 : upd H2 p (.ins CH dx (putF "runs" (.ref c) [("letters", .ref m), ("beginning", .str b)])) p = some (.ins CH dx [("letters", .ref m), ("beginning", .str b), ("runs", .ref c)]) := upd_same
    have k5 : ∀ b' o, b' ≠ p → H2 b' = some o → upd H2 p (.ins CH dx (putF "runs" (.ref c) [("letters", .ref m), ("beginning", .str b)])) b' = some o := fun b' o hb e => by rw [upd_ne hb]; exact e
    generalize upd H2 p (.ins CH dx (putF "runs" (.ref c) [("letters", .ref m), ("beginning", .str b)])) = H5 at p5 k5 ⊢
    have p4 := s24 _ _ p2
    have hM5 := (hM2.same s24).but k5 p4
    have hc5 := seqT_but hc k5 p4
    have hks5 := hks.but k5 p4
    have kk5 : ∀ b' o, b' ≠ p → H b' = some o → H5 b' = some o := fun b' o hb e => k5 _ _ hb (s24 _ _ (k2 _ _ hb e))
    -- size
    refine ⟨_, rfl, p, CH, dx, _, _, rfl, p5, hC.c, hC.a3, rfl, c, ks, rs, rfl, .inr hc5, hks5.runs, by omega, fun H6 s6 => ?_⟩
    have p6 := s6 _ _ p5
    refine ⟨_, rfl, p, CH, dx, _, rfl, p6, hC.c, hC.a4, (by show 3 < 1000; decide), ?_⟩
    have p7 : upd H6 p (.ins CH dx (putF "size" (.int (sizeR rs)) [("letters", .ref m), ("beginning", .str b), ("runs", .ref c)])) p = some (.ins CH dx [("letters", .ref m), ("beginning", .str b), ("runs", .ref c), ("size", .int (sizeR rs))]) := upd_same
    have k7 : ∀ b' o, b' ≠ p → H6 b' = some o → upd H6 p (.ins CH dx (putF "size" (.int (sizeR rs)) [("letters", .ref m), ("beginning", .str b), ("runs", .ref c)])) b' = some o := fun b' o hb e => by rw [upd_ne hb]; exact e
    generalize upd H6 p (.ins CH dx (putF "size" (.int (sizeR rs)) [("letters", .ref m), ("beginning", .str b), ("runs", .ref c)])) = H7 at p7 k7 ⊢
    have hM7 := (hM5.same s6).but k7 p6
    have hc7 := seqT_but (seqT_same s6 hc5) k7 p6
    have hks7 := (hks5.same s6).but k7 p6
    have kk7 : ∀ b' o, b' ≠ p → H b' = some o → H7 b' = some o := fun b' o hb e => k7 _ _ hb (s6 _ _ (kk5 _ _ hb e))
    -- last
    have fin : ∀ z : Str, z = lastR b rs → Q .non (upd H7 p (.ins CH dx (putF "last" (.str z) [("letters", .ref m), ("beginning", .str b), ("runs", .ref c), ("size", .int (sizeR rs))]))) := fun z hz => by
      have p8 : upd H7 p (.ins CH dx (putF "last" (.str z) [("letters", .ref m), ("beginning", .str b), ("runs", .ref c), ("size", .int (sizeR rs))])) p = some (.ins CH dx (hf m c b rs)) := by
        rw [hz]
        exact upd_same
      have k8 : ∀ b' o, b' ≠ p → H7 b' = some o → upd H7 p (.ins CH dx (putF "last" (.str z) [("letters", .ref m), ("beginning", .str b), ("runs", .ref c), ("size", .int (sizeR rs))])) b' = some o := fun b' o hb e => by rw [upd_ne hb]; exact e
      exact k _ p8 (hM7.but k8 p7) (seqT_but hc7 k8 p7) (hks7.but k8 p7) fun b' o hb e => k8 _ _ hb (kk7 _ _ hb e)
    refine ⟨_, rfl, p, CH, dx, _, _, rfl, p7, hC.c, hC.a3, rfl, !ks.isEmpty, .inr (.inl ⟨ks, hc7, rfl⟩), ite2 (fun q => ?_) (fun q => ?_)⟩
    · have q0 : ks ≠ [] := fun z => by subst z; cases q
      have l1 : 1 ≤ ks.length := List.length_pos_iff.mpr q0
      have e1 := hks7.1
      obtain ⟨l, hl⟩ : ∃ l, rs[rs.length - 1]? = some l := ⟨_, List.getElem?_eq_getElem (by omega)⟩
      obtain ⟨x, hx, hx2⟩ := hks7.get hl
      rw [← e1] at hx
      refine ⟨_, rfl, p, CH, dx, _, _, rfl, p7, hC.c, hC.a3, rfl, _, rfl, c, _, _, _, rfl, rfl, hc7, atI_back hx, x, _, _, _, rfl, rfl, SqT.of hx2, at_by (j := 0) rfl rfl, ?_⟩
      refine ⟨_, rfl, p, CH, dx, _, rfl, p7, hC.c, hC.a5, (by show 4 < 1000; decide), fin l.1 ?_⟩
      unfold lastR
      rw [List.getLast?_eq_getElem?, hl]
      rfl
    · have q : (!ks.isEmpty) = false := (Bool.not_eq_true _).mp q
      have q0 : ks = [] := by cases ks with | nil => rfl | cons => cases q
      have q1 : rs = [] := List.eq_nil_of_length_eq_zero (by rw [← hks7.1, q0]; rfl)
      refine ⟨_, rfl, _, rfl, p, CH, dx, _, rfl, p7, hC.c, hC.a5, (by show 4 < 1000; decide), fin b ?_⟩
      rw [q1]
      rfl
end
end Ask

namespace Ask
open PySem L2
section
variable {P : Program} {w : World} {K : PySem.W.Frag} {mg : Str → Option Value} {base : Heap} {CL CH CK CE : Addr} {H : Hp} {a m t c dk : Addr} {ys : List Str} {b : Str} {ks : List V} {rs : List Run} {Q : VK} {E : XK}
theorem chk_made {x dx : Addr} (hx : H x = none) (hdx : H dx = none) (hne : dx ≠ x) (k : ∀ H', Same H H' → H' x = some (.ins CK dx [("runs", .ref c)]) → Q .non H') :
    spChk CK [.ref x, .ref c] (upd (upd H dx (.own x)) x (.ins CK dx [])) Q E :=
  ⟨x, dx, c, rfl, upd_same, fun H' e kk => k H' (Same.made hx hdx fun b o e hb => kk b o hb e) e⟩
theorem histC_made (hM : Mde CL H m t ys) (hb : b = "new" ∨ b = "found") (ha : H a = some (.ins CK dk [("runs", .ref c)])) (hc : SqT K H c ks) (hR : PairsV H ks rs) (ln : rs.length ≤ 1000) {x dx : Addr} (hx : H x = none) (hdx : H dx = none) (hne : dx ≠ x)
    (k : ∀ H', Same H H' → HistAt K CL CH H' x ys b rs → Q .non H') : spHistC K CL CH CK [.ref x, .ref m, .str b, .ref a] (upd (upd H dx (.own x)) x (.ins CH dx [])) Q E := by
  have sm : Same H (upd (upd H dx (.own x)) x (.ins CH dx [])) := Ask.Same.made1 (Ask.Same.made1 (Same.refl H) hdx) (by rw [upd_ne hne.symm]; exact hx)
  exact ⟨x, dx, m, t, a, dk, c, b, ys, ks, rs, rfl, upd_same, hM.same sm, hb, sm _ _ ha, seqT_same sm hc, hR.same sm, ln, fun H' e1 e2 e3 e4 kk => k H' (Same.made hx hdx fun b o e hb => kk b o hb e) ⟨dx, m, t, c, ks, e1, e2, e3, e4⟩⟩
end
section
variable {P : Program} {w : World} {K : PySem.W.Frag} {mg : Str → Option Value} {base : Heap}
/-- a side of a sentence, as a new history -/
def sdW (j : Int) (k x : Str) (s : V) : List Run := if j = 0 then sdL k x s else sdR k x s
def spSideOf (K : PySem.W.Frag) (CL CH CS : Addr) : Sp := fun vs H Q _ => ∃ (p : Addr) (j : Int) (ys : List Str) (k x : Str) (s : V), vs = [.ref p, .int j] ∧ (j = 0 ∨ j = 1) ∧ SenAt K CL CS H p ys k x s ∧ k ∈ KL ∧ x ∈ ys ∧ SOk ys k s ∧
  ∀ (H' : Hp) (q : Addr), Same H H' → H q = none → HistAt K CL CH H' q ys (bgR k) (joinR (sdW j k x s)) → Q (.ref q) H'
abbrev s_side_of : Stmt := top 59
theorem sc_side_of : FnScope ["sentence", "which", "runs"] ["sentence", "which"] (defScope s_side_of) := ⟨rfl, rfl, rfl, by decide +kernel, rfl, by decide +kernel, by decide +kernel⟩
theorem ok_sideOf {f fS fJ fY fK CL CH CS CK : Addr} {fd fdS fdJ fdY fdK : FuncData} (F : Fun K "side_of" "side_of" s_side_of f fd) (hC : SnC K CS)
    (GS : FnOk P w K mg base CX0 1 fS fdS ["kind", "first", "second", "times"] (spSides K)) (AS : At K mg "sides" fS fdS ["kind", "first", "second", "times"])
    (GJ : FnOk P w K mg base CX0 1 fJ fdJ ["runs"] (spJoined K)) (AJ : At K mg "joined" fJ fdJ ["runs"])
    (MH : Mk K CH fY) (mH : mg "History" = some (.ref CH)) (bH : Binds K fdY ["self", "letters", "beginning", "runs"] []) (GH : FnOk P w K mg base CX0 5 fY fdY ["self", "letters", "beginning", "runs"] (spHistC K CL CH CK))
    (MK : Mk K CK fK) (mK : mg "CheckedRuns" = some (.ref CK)) (bK : Binds K fdK ["self", "runs"] []) (GK : FnOk P w K mg base CX0 1 fK fdK ["self", "runs"] (spChk CK)) :
    FnOk P w K mg base CX0 7 f fd ["sentence", "which"] (spSideOf K CL CH CS) := by
  refine F.ok sc_side_of (fun vs H Q E h => ?_) (fun cdv A outer s H vs Q E hr h => ?_)
  · obtain ⟨p, j, ys, k, x, s, rfl, _⟩ := h
    rfl
  · obtain ⟨p, j, ys, k, x, s', rfl, hj, ⟨dx, m, t, hp, hM⟩, hk, hx, so, kq⟩ := h
    have hr1 := hr.mono (j := 1) (by decide)
    have hr2 := hr.mono (j := 2) (by decide)
    refine ⟨_, (pss_cons (ps_set (i := 2) sc_side_of.nd rfl (Or.inl rfl) (pe_ix ix_tup (pe_call GS hr1 (by rfl) AS.m AS.k AS.b .nil pass0 (pa_cons (pe_fld (pv 0) rfl) (pa_cons (pe_fld (pv 0) rfl) (pa_cons (pe_fld (pv 0) rfl) (pa_cons pe_int pa_nil))))) (pv 1) (fun _ _ => rfl)))
      (pss_one (ps_ret (pe_make MH GH hr (by rfl) mH bH .nil pass0 (pa_cons (pe_fld (pv 0) rfl) (pa_cons (pe_ifExp (pt_cmpR op_eq (pe_fld (pv 0) rfl) pe_str (nomark _)) pe_str pe_str) (pa_cons (pe_make MK GK hr2 (by rfl) mK bK .nil pass0 (pa_cons (pe_call GJ hr1 (by rfl) AJ.m AJ.k AJ.b .nil pass0 (pa_cons (pv 2) pa_nil)) pa_nil)) pa_nil))))))), ?_⟩
    refine ⟨_, rfl, p, CS, dx, _, _, rfl, hp, hC.c, hC.a2, rfl, _, rfl, p, CS, dx, _, _, rfl, hp, hC.c, hC.a3, rfl, _, rfl, p, CS, dx, _, _, rfl, hp, hC.c, hC.a4, rfl, ys, k, x, s', rfl, hk, hx, so.1, fun H4 q4 l r ls rs a b s4 hq4 hl pl hrr pr la lb oa ob ea eb => ?_⟩
    have hp4 := s4 _ _ hp
    have pick : ∃ (e : Addr) (es : List V) (rr : List Run), atI [V.ref l, V.ref r] j = some (.ref e) ∧ SqT K H4 e es ∧ PairsV H4 es rr ∧ rr.length ≤ 2 ∧ rr = sdW j k x s' := by
      rcases hj with rfl | rfl
      · exact ⟨l, ls, a, at_by (j := 0) rfl rfl, hl, pl, la, ea⟩
      · exact ⟨r, rs, b, at_by (j := 1) rfl rfl, hrr, pr, lb, eb⟩
    obtain ⟨e, es, rr, hat, hes, pes, le, re⟩ := pick
    refine ⟨_, rfl, q4, _, _, _, rfl, rfl, SqT.of hq4, hat, ?_⟩
    refine ⟨_, rfl, p, CS, dx, _, _, rfl, hp4, hC.c, hC.a1, rfl, _, rfl, p, CS, dx, _, _, rfl, hp4, hC.c, hC.a2, rfl, rfl, _, rfl, ?_⟩
    have l400 := joinR_small le
    subst re
    refine ite2 (fun q => ?_) (fun q => ?_)
    · have eb : bgR k = "new" := if_pos (V.str.inj (of_decide_eq_true q))
      exact ⟨_, rfl, e, es, _, rfl, .inr hes, pes.runs, by omega, fun H5 t1 ks s5 ht1 hks => fun x1 xd hx1 hxd hne => chk_made hx1 hxd hne fun H6 s6 hx6 => ⟨rfl, fun r1 rd hr1' hrd hner => histC_made (hM.same (s4.trans (s5.trans s6))) (.inl rfl) hx6 (seqT_same s6 (SqT.of ht1)) (hks.same s6) (by omega) hr1' hrd hner fun H7 s7 hH => ⟨rfl, kq H7 r1 (s4.trans (s5.trans (s6.trans s7))) ((s4.trans (s5.trans s6)).free hr1') (by rw [eb]; exact hH)⟩⟩⟩
    · have eb : bgR k = "found" := if_neg (fun z => q (decide_eq_true (congrArg V.str z)))
      exact ⟨_, rfl, e, es, _, rfl, .inr hes, pes.runs, by omega, fun H5 t1 ks s5 ht1 hks => fun x1 xd hx1 hxd hne => chk_made hx1 hxd hne fun H6 s6 hx6 => ⟨rfl, fun r1 rd hr1' hrd hner => histC_made (hM.same (s4.trans (s5.trans s6))) (.inr rfl) hx6 (seqT_same s6 (SqT.of ht1)) (hks.same s6) (by omega) hr1' hrd hner fun H7 s7 hH => ⟨rfl, kq H7 r1 (s4.trans (s5.trans (s6.trans s7))) ((s4.trans (s5.trans s6)).free hr1') (by rw [eb]; exact hH)⟩⟩⟩
theorem sdW0 {k x : Str} {s : V} : sdW 0 k x s = sdL k x s := if_pos rfl
theorem sdW1 {k x : Str} {s : V} : sdW 1 k x s = sdR k x s := if_neg (by decide)
/-- the properties left and right -/
def spSideP (K : PySem.W.Frag) (CL CH CS : Addr) (fw : Str → Str → V → List Run) : Sp := fun vs H Q _ => ∃ (p : Addr) (ys : List Str) (k x : Str) (s : V), vs = [.ref p] ∧ SenAt K CL CS H p ys k x s ∧ k ∈ KL ∧ x ∈ ys ∧ SOk ys k s ∧
  ∀ (H' : Hp) (q : Addr), Same H H' → H q = none → HistAt K CL CH H' q ys (bgR k) (joinR (fw k x s)) → Q (.ref q) H'
abbrev s_left : Stmt := inClass (top 60) 1
theorem sc_left : FnScope ["self"] ["self"] (defScope s_left) := ⟨rfl, rfl, rfl, by decide +kernel, rfl, by decide +kernel, by decide +kernel⟩
abbrev s_right : Stmt := inClass (top 60) 2
theorem sc_right : FnScope ["self"] ["self"] (defScope s_right) := ⟨rfl, rfl, rfl, by decide +kernel, rfl, by decide +kernel, by decide +kernel⟩
theorem ok_left {f fO CL CH CS : Addr} {fd fdO : FuncData} (F : Fun K "left" "Sentence.left" s_left f fd)
    (GO : FnOk P w K mg base CX0 7 fO fdO ["sentence", "which"] (spSideOf K CL CH CS)) (AO : At K mg "side_of" fO fdO ["sentence", "which"]) : FnOk P w K mg base CX0 8 f fd ["self"] (spSideP K CL CH CS sdL) := by
  refine F.ok sc_left (fun vs H Q E h => ?_) (fun cdv A outer s H vs Q E hr h => ?_)
  · obtain ⟨p, ys, k, x, s, rfl, _⟩ := h
    rfl
  · obtain ⟨p, ys, k, x, s, rfl, hS, hk, hx, so, kq⟩ := h
    refine ⟨_, pss_one (ps_ret (pe_call GO hr (by rfl) AO.m AO.k AO.b .nil pass0 (pa_cons (pv 0) (pa_cons pe_int pa_nil)))), ?_⟩
    exact ⟨_, rfl, p, 0, ys, k, x, s, rfl, .inl rfl, hS, hk, hx, so, fun H' q e n hh => kq H' q e n (by rw [← sdW0]; exact hh)⟩
theorem ok_right {f fO CL CH CS : Addr} {fd fdO : FuncData} (F : Fun K "right" "Sentence.right" s_right f fd)
    (GO : FnOk P w K mg base CX0 7 fO fdO ["sentence", "which"] (spSideOf K CL CH CS)) (AO : At K mg "side_of" fO fdO ["sentence", "which"]) : FnOk P w K mg base CX0 8 f fd ["self"] (spSideP K CL CH CS sdR) := by
  refine F.ok sc_right (fun vs H Q E h => ?_) (fun cdv A outer s H vs Q E hr h => ?_)
  · obtain ⟨p, ys, k, x, s, rfl, _⟩ := h
    rfl
  · obtain ⟨p, ys, k, x, s, rfl, hS, hk, hx, so, kq⟩ := h
    refine ⟨_, pss_one (ps_ret (pe_call GO hr (by rfl) AO.m AO.k AO.b .nil pass0 (pa_cons (pv 0) (pa_cons pe_int pa_nil)))), ?_⟩
    exact ⟨_, rfl, p, 1, ys, k, x, s, rfl, .inr rfl, hS, hk, hx, so, fun H' q e n hh => kq H' q e n (by rw [← sdW1]; exact hh)⟩
end
end Ask

namespace Ask
open PySem L2 LamX NdefX
/-- a limit at p -/
def LimAt (K : PySem.W.Frag) (CL CI : Addr) (H : Hp) (p : Addr) (ws : List Str) (k : Str) (lt : V) (ks : List Str) : Prop := ∃ (dx m t t2 : Addr), H p = some (.ins CI dx [("letters", .ref m), ("kind", .str k), ("answers", .ref t2), ("letter", lt)]) ∧ Mde CL H m t ws ∧ H t2 = some (.tup (ks.map V.str))
def brkS (rs : List (List Nat)) (ys : List Str) (L R : List Run) (x : Spk) : Bool := !decide (aftN rs ys x.1 L = aftN rs ys x.1 R)
def brkL (ans ks : List Str) (x : Spk) : Bool := match ans[x.1]? with
  | some y => !decide (y ∈ ks)
  | none => false
def BrkV (K : PySem.W.Frag) (CL CH : Addr) (ys : List Str) (es : List Spk) (d : Spk → Bool) (v : V) (H : Hp) : Prop :=
  (es.filter d = [] ∧ v = .non) ∨ ∃ (x : Spk) (a : Addr), (es.filter d).head? = some x ∧ v = .ref a ∧ HistAt K CL CH H a ys (begS x.2.1) (joinR (onesR (wdAt ys x.2.2)))
theorem jrun_ok {ys : List Str} : ∀ (rs : List Run) (st : List Run × Option Run), (∀ r ∈ rs, r.1 ∈ ys ∧ 0 ≤ r.2) → (∀ x ∈ st.1 ++ st.2.toList, x.1 ∈ ys ∧ 0 ≤ x.2) → ∀ x ∈ (rs.foldl jstep st).1 ++ (rs.foldl jstep st).2.toList, x.1 ∈ ys ∧ 0 ≤ x.2
  | [], _, _, h => h
  | r :: rs, (st, o), hr, h => by
    rw [List.foldl_cons]
    have h1 := hr r (List.mem_cons_self ..)
    refine jrun_ok rs _ (fun x hx => hr x (List.mem_cons_of_mem _ hx)) fun x hx => ?_
    cases o with
    | none =>
      rcases List.mem_append.mp hx with hx | hx
      · exact h x (List.mem_append_left _ hx)
      · rw [show x = r from by simpa [jstep] using hx]
        exact h1
    | some l =>
      have hl := h l (List.mem_append_right _ (by simp))
      by_cases c : l.1 = r.1
      · rw [jstep_eq c] at hx
        rcases List.mem_append.mp hx with hx | hx
        · exact h x (List.mem_append_left _ hx)
        · rw [show x = (l.1, l.2 + r.2) from by simpa using hx]
          exact ⟨hl.1, Int.add_nonneg hl.2 h1.2⟩
      · rw [jstep_ne c] at hx
        rcases List.mem_append.mp hx with hx | hx
        · rcases List.mem_append.mp hx with hx | hx
          · exact h x (List.mem_append_left _ hx)
          · rw [List.mem_singleton.mp hx]
            exact hl
        · rw [show x = r from by simpa using hx]
          exact h1
theorem join_in {ys : List Str} {rs : List Run} (h : ∀ r ∈ rs, r.1 ∈ ys ∧ 0 ≤ r.2) : ∀ r ∈ joinR rs, r.1 ∈ ys ∧ 0 ≤ r.2 := jrun_ok rs ([], none) h fun x hx => by simp at hx
theorem sd_in {ys : List Str} {k x : Str} {s : V} (hx : x ∈ ys) (so : SOk ys k s) : (∀ r ∈ sdL k x s, r.1 ∈ ys ∧ 0 ≤ r.2) ∧ ∀ r ∈ sdR k x s, r.1 ∈ ys ∧ 0 ≤ r.2 := by
  have one : (0 : Int) ≤ 1 := by decide
  by_cases l : k ∈ LK
  · unfold sdL sdR
    rw [if_pos l, if_pos l]
    refine ⟨fun r hr => ?_, fun r hr => nomatch hr⟩
    rw [List.mem_singleton.mp hr]
    exact ⟨hx, one⟩
  · obtain ⟨y, rfl, hy⟩ := so.1 l
    unfold sdL sdR
    rw [if_neg l, if_neg l]
    constructor
    · intro r hr
      split at hr
      · rw [List.mem_singleton.mp hr]
        exact ⟨hx, one⟩
      · simp only [List.mem_cons, List.not_mem_nil, or_false] at hr
        rcases hr with rfl | rfl
        · exact ⟨hx, one⟩
        · exact ⟨hy, one⟩
    · intro r hr
      split at hr
      · rw [List.mem_singleton.mp hr]
        exact ⟨hy, one⟩
      · split at hr
        · rw [List.mem_singleton.mp hr]
          exact ⟨hx, one⟩
        · split at hr
          · rw [List.mem_singleton.mp hr]
            exact ⟨hy, one⟩
          · cases hr
/-- ways, with what is asked at them -/
def WsAt (H : Hp) (gs : List Addr) (es : List Spk) : Prop := gs.length = es.length ∧ ∀ (i : Nat) (g : Addr) (e : Spk), gs[i]? = some g → es[i]? = some e → WayAt H g e.2
theorem WsAt.tups {H H' : Hp} {gs : List Addr} {es : List Spk} (h : WsAt H gs es) (k : ∀ b xs, H b = some (.tup xs) → H' b = some (.tup xs)) : WsAt H' gs es := ⟨h.1, fun i g e a b => (h.2 i g e a b).tups k⟩
theorem WsAt.snoc {H : Hp} {gs : List Addr} {es : List Spk} {g : Addr} {e : Spk} (h : WsAt H gs es) (w : WayAt H g e.2) : WsAt H (gs ++ [g]) (es ++ [e]) := by
  refine ⟨by rw [List.length_append, List.length_append, h.1]; rfl, fun i a x h1 h2 => ?_⟩
  by_cases c : i < gs.length
  · rw [List.getElem?_append_left c] at h1
    rw [List.getElem?_append_left (by rw [← h.1]; exact c)] at h2
    exact h.2 i a x h1 h2
  · rw [List.getElem?_append_right (Nat.le_of_not_lt c)] at h1
    rw [List.getElem?_append_right (by rw [← h.1]; exact Nat.le_of_not_lt c), ← h.1] at h2
    cases z : i - gs.length with
    | succ m => rw [z] at h1; simp at h1
    | zero =>
      rw [z] at h1 h2
      obtain rfl : g = a := by simpa using h1
      obtain rfl : e = x := by simpa using h2
      exact w
/-- what is known of a way that is asked -/
structure SpkOk (m n : Nat) (e : Spk) : Prop where
  s : e.1 < n
  k : e.2.1 = 0 ∨ e.2.1 = 1
  wd : ∀ x ∈ e.2.2, x < m
  l : e.2.2.length ≤ 100
theorem spk_ok {rs : List (List Nat)} {m n1 f1 N : Nat} {j : Option Nat} (ok : RowsOk rs m) (lm : m ≤ 1000) (l9 : rs.length ≤ 9) (hn : n1 < rs.length) (hf : f1 < rs.length) (cl : (bfs (nx1 rs m) (beg0 (n1, n1) (f1, f1)) N).length ≤ N) (hj : ∀ i, j = some i → i < m) :
    ∀ e ∈ (bfs (nx1 rs m) (beg0 (n1, n1) (f1, f1)) N).map (stepE rs j), SpkOk m rs.length e := by
  have len : (bfs (nx1 rs m) (beg0 (n1, n1) (f1, f1)) N).length ≤ rs.length * rs.length := ents_le (bfs_nd (beg0_nd (n1, n1) (f1, f1)) N) fun e he => by
    obtain ⟨a, b⟩ := nx1_all ok lm hn hf N e he
    exact ⟨a, by rw [b]; exact a⟩
  have l81 : rs.length * rs.length ≤ 81 := Nat.mul_le_mul l9 l9
  have wl : ∀ e ∈ bfs (nx1 rs m) (beg0 (n1, n1) (f1, f1)) N, e.2.2.length ≤ 81 := by
    obtain ⟨L, hL⟩ : ∃ L, L = (bfs (nx1 rs m) (beg0 (n1, n1) (f1, f1)) N).length := ⟨_, rfl⟩
    have pre := bfs_pre (nx1 rs m) (beg0 (n1, n1) (f1, f1)) L (N - L)
    rw [show L + (N - L) = N from by omega] at pre
    obtain ⟨r, hr⟩ := pre
    have cL : (bfs (nx1 rs m) (beg0 (n1, n1) (f1, f1)) L).length ≤ L := by
      have := congrArg List.length hr
      rw [List.length_append] at this
      omega
    have eq := bfs_end cL (N - L)
    rw [show L + (N - L) = N from by omega] at eq
    intro e he
    rw [eq] at he
    have := bfs_wl L e he
    omega
  intro e he
  obtain ⟨e0, h0, rfl⟩ := List.mem_map.mp he
  have eo := ents_ok (n1 := n1) (f1 := f1) (n2 := n1) (f2 := f1) ok ok hn hf hn hf N e0 h0
  cases j with
  | none => exact ⟨eo.la, eo.k, eo.wd, by have := wl e0 h0; exact Nat.le_trans this (by decide)⟩
  | some i =>
    have hi := hj i rfl
    refine ⟨(mvN_at ok hi eo.la).choose_spec.2.2, eo.k, fun x hx => ?_, ?_⟩
    · rcases List.mem_append.mp hx with hx | hx
      · exact eo.wd x hx
      · rw [List.mem_singleton.mp hx]
        exact hi
    · show (e0.2.2 ++ [i]).length ≤ 100
      rw [List.length_append]
      have := wl e0 h0
      show e0.2.2.length + 1 ≤ 100
      omega
section
variable {P : Program} {w : World} {K : PySem.W.Frag} {mg : Str → Option Value} {base : Heap}
/-- what is asked, whatever the kind -/
def EsOf (rs : List (List Nat)) (m n1 f1 : Nat) (k : Str) (j : Option Nat) (es : List Spk) : Prop :=
  ((k = "still" ∨ k = "fresh") ∧ es = [(n1, (0, []))]) ∨ (¬ (k = "still" ∨ k = "fresh") ∧ ∃ N, (bfs (nx1 rs m) (beg0 (n1, n1) (f1, f1)) N).length ≤ N ∧ es = (bfs (nx1 rs m) (beg0 (n1, n1) (f1, f1)) N).map (stepE rs j))
theorem spoken_any {T : List NTab} {CL CM p : Addr} {H : Hp} {ys : List Str} {rs : List (List Nat)} {ans : List Str} {n1 f1 : Nat} {kd : Str} {lt : V} {j : Option Nat} {Q : VK} {E : XK} (hT : TabsN T H) (hp : MacAt K CL CM H p ys rs ans n1 f1) (ok : MacOk ys rs ans n1 f1) (l9 : rs.length ≤ 9)
    (hb : kd = "behind" → ∃ i z, j = some i ∧ lt = .str z ∧ ys[i]? = some z) (hn : kd ≠ "behind" → j = none)
    (k : ∀ (H' : Hp) (L : Addr) (gs : List Addr) (es : List Spk), ExtN H H' → TabsN T H' → H' L = some (.lst (gs.map V.ref)) → SpkAt H' gs es → (∀ e ∈ es, SpkOk ys.length rs.length e) → EsOf rs ys.length n1 f1 kd j es → Q (.ref L) H') :
    spSpoken T K CL CM [.ref p, .str kd, lt] H Q E := by
  have l1 := ok.lts.l1
  have hj : ∀ i, j = some i → i < ys.length := fun i e => by
    by_cases q : kd = "behind"
    · obtain ⟨i', z, e', _, ez⟩ := hb q
      rw [e] at e'
      cases e'
      exact (List.getElem?_eq_some_iff.mp ez).1
    · rw [hn q] at e
      cases e
  refine ⟨p, ys, rs, ans, n1, f1, kd, lt, j, rfl, hT, hp, ok, hb, hn, fun sf H' L gs x t e w => k H' L gs _ x t e w (fun y hy => ?_) (.inl ⟨sf, rfl⟩), fun sf H' L gs N x t cl nle e w => k H' L gs _ x t e w (spk_ok ok.rows (by omega) l9 ok.nw ok.fo cl hj) (.inr ⟨sf, N, cl, rfl⟩)⟩
  rw [List.mem_singleton.mp hy]
  exact ⟨ok.nw, .inl rfl, (fun _ h => nomatch h), Nat.zero_le _⟩
theorem es_len {rs : List (List Nat)} {m n1 f1 : Nat} {k : Str} {j : Option Nat} {es : List Spk} (ok : RowsOk rs m) (lm : m ≤ 1000) (l9 : rs.length ≤ 9) (hn : n1 < rs.length) (hf : f1 < rs.length) (h : EsOf rs m n1 f1 k j es) : es.length ≤ 1600 := by
  rcases h with ⟨_, rfl⟩ | ⟨_, N, _, rfl⟩
  · show 1 ≤ 1600
    decide
  · rw [List.length_map]
    have a := ents_le (bfs_nd (nx := nx1 rs m) (beg0_nd (n1, n1) (f1, f1)) N) (M := rs.length) (N := rs.length) fun e he => by
      obtain ⟨a, b⟩ := nx1_all ok lm hn hf N e he
      exact ⟨a, by rw [b]; exact a⟩
    have b : rs.length * rs.length ≤ 81 := Nat.mul_le_mul l9 l9
    omega
/-- a sentence or a limit, and of which ways it is broken -/
def ItmAt (K : PySem.W.Frag) (CL CS CI : Addr) (H : Hp) (q : Addr) (zs : List Str) (rs : List (List Nat)) (ans : List Str) (k : Str) (j : Option Nat) (d : Spk → Bool) : Prop :=
  (∃ (x : Str) (s : V), SenAt K CL CS H q zs k x s ∧ k ∈ KL ∧ x ∈ zs ∧ SOk zs k s ∧ j = none ∧ d = brkS rs zs (joinR (sdL k x s)) (joinR (sdR k x s))) ∨
  ∃ (lt : V) (ks : List Str), LimAt K CL CI H q zs k lt ks ∧ k ∈ LM ∧ ks.length ≤ 100 ∧ (k = "behind" → ∃ i z, j = some i ∧ lt = .str z ∧ zs[i]? = some z) ∧ (k ≠ "behind" → j = none) ∧ d = brkL ans ks
def spBreaks (T : List NTab) (K : PySem.W.Frag) (CL CH CS CI CM CO : Addr) : Sp := fun vs H Q E => ∃ (p q : Addr) (ys zs : List Str) (rs : List (List Nat)) (ans : List Str) (n1 f1 : Nat) (k : Str) (j : Option Nat) (d : Spk → Bool), vs = [.ref p, .ref q] ∧ TabsN T H ∧ MacAt K CL CM H p ys rs ans n1 f1 ∧ MacOk ys rs ans n1 f1 ∧ Lts zs ∧ rs.length ≤ 9 ∧
  ItmAt K CL CS CI H q zs rs ans k j d ∧
  (ys = zs → (k = "still" ∨ k = "fresh" → ∀ (H' : Hp) (v : V), ExtN H H' → TabsN T H' → BrkV K CL CH ys [(n1, (0, []))] d v H' → Q v H') ∧
    (¬ (k = "still" ∨ k = "fresh") → ∀ (H' : Hp) (v : V) (N : Nat), ExtN H H' → TabsN T H' → (bfs (nx1 rs ys.length) (beg0 (n1, n1) (f1, f1)) N).length ≤ N → BrkV K CL CH ys ((bfs (nx1 rs ys.length) (beg0 (n1, n1) (f1, f1)) N).map (stepE rs j)) d v H' → Q v H')) ∧
  (ys ≠ zs → E (.ref CO) none H)

abbrev s_Machine_breaks : Stmt := inClass (top 69) 8
theorem sc_Machine_breaks : FnScope ["self", "sentence", "left", "right", "wrong", "state", "way"] ["self", "sentence"] (defScope s_Machine_breaks) := ⟨rfl, rfl, rfl, by decide +kernel, rfl, by decide +kernel, by decide +kernel⟩
theorem ok_breaks {T : List NTab} {f fR fP fA fO fLf fRg pl pr CL CH CS CI CM CO : Addr} {fd fdR fdP fdA fdO fdLf fdRg : FuncData} (F : Fun K "breaks" "Machine.breaks" s_Machine_breaks f fd) (Bl : Blt mg) (hM : MacC K CM) (hS : SnC K CS) (hI : LiC K CI) (hH : HsC K CH)
    (mS : mg "Sentence" = some (.ref CS)) (YS : XkC K CS) (YI : XkC K CI) (nSI : PySem.W.kitOne K (.ref CI) (.ref CS) = some false)
    (G_require_same : FnOk P w K mg base (L2.CX P w) 3 fR fdR ["one", "other"] (spReqE CL CO)) (A_require_same : At K mg "require_same" fR fdR ["one", "other"])
    (GP : FnOk P w K mg base CX0 5 fP fdP ["self", "kind", "letter"] (spSpoken T K CL CM)) (bP : Binds K fdP ["self", "kind", "letter"] []) (mP : Meth K CM "spoken" fP)
    (GA : FnOk P w K mg base CX0 5 fA fdA ["self", "state", "runs"] (spAfter K CL CM)) (bA : Binds K fdA ["self", "state", "runs"] []) (mA : Meth K CM "after_runs" fA)
    (GO : FnOk P w K mg base CX0 8 fO fdO ["self", "way"] (spHistOf K CL CH CM)) (bO : Binds K fdO ["self", "way"] []) (mO : Meth K CM "history_of" fO)
    (GLf : FnOk P w K mg base CX0 8 fLf fdLf ["self"] (spSideP K CL CH CS sdL)) (bLf : Binds K fdLf ["self"] []) (pLf : PropOf K CS "left" pl fLf)
    (GRg : FnOk P w K mg base CX0 8 fRg fdRg ["self"] (spSideP K CL CH CS sdR)) (bRg : Binds K fdRg ["self"] []) (pRg : PropOf K CS "right" pr fRg) :
    FnOk P w K mg base (L2.CX P w) 10 f fd ["self", "sentence"] (spBreaks T K CL CH CS CI CM CO) := by
  refine fun_okC F sc_Machine_breaks (fun vs H Q E h => ?_) (fun A outer s H vs Q E hr h => ?_)
  · obtain ⟨p, q, ys, zs, rs, ans, n1, f1, k, j, d, rfl, _⟩ := h
    rfl
  · obtain ⟨p, q, ys, zs, rs, ans, n1, f1, k, j, d, rfl, hT, hp, ok, lz, l9, hI0, kq, ke⟩ := h
    have hu := hu_of hr
    have h_require_same := hr.mono (j := 3) (by decide)
    have h5 := hr.mono (j := 5) (by decide)
    have h8 := hr.mono (j := 8) (by decide)
    have h9 := hr.mono (j := 9) (by decide)
    have z1 : (100000 : Nat) ≤ sizeLine := by decide
    refine ⟨_, (pss_cons (ps_expr (pe_call G_require_same (by exact h_require_same) (by rfl) A_require_same.m A_require_same.k A_require_same.b .nil (passes_call (E := E) (takes_of rfl rfl rfl rfl) (fun _ _ _ _ h => h)) (pa_cons (pe_fld (pv 0) rfl) (pa_cons (pe_fld (pv 1) rfl) pa_nil))))
      (pss_cons (ps_if (pt_val (pe_callB call_isi (by rfl) Bl.n_isinstance (by decide +kernel) (pa_cons (pv 1) (pa_cons (pe_gv (v := .ref CS) rfl ⟨_, mS, rfl⟩) pa_nil)))) (pss_cons (ps_asg (pe_tup (pa_cons (pe_fld (pe_prop (pv 1) hS.c pLf GLf h9 bLf .nil pass0 rfl) rfl) (pa_cons (pe_fld (pe_prop (pv 1) hS.c pRg GRg h9 bRg .nil pass0 rfl) rfl) pa_nil))) (pg_tup rfl (pgs_cons (pg_name (i := 2) sc_Machine_breaks.nd rfl (Or.inr rfl)) (pgs_cons (pg_name (i := 3) sc_Machine_breaks.nd rfl (Or.inr rfl)) pgs_nil))))
      (pss_one (ps_setLc (i := 4) (own := [("state", 5), ("way", 6)]) rfl sc_Machine_breaks.nd rfl rfl (sw_true rfl rfl rfl (by decide +kernel)) (pi_list (pe_meth (pv 0) hM.c mP GP h5 bP .nil pass0 (pa_cons (pe_fld (pv 1) rfl) (pa_cons pe_non pa_nil)))) (blkOk_by (N := ["self", "sentence", "left", "right", "wrong", "state", "way"]) (sc := defScope s_Machine_breaks) (by decide +kernel)) (fun _ _ _ _ _ => (show PG _ _ (gTup K 2 _) from (pg_tup rfl (pgs_cons (pg_name (i := 5) sc_Machine_breaks.nd rfl (Or.inl rfl)) (pgs_cons (pg_name (i := 6) sc_Machine_breaks.nd rfl (Or.inl rfl)) pgs_nil))))) (fun _ _ _ _ _ => pts_one (pt_cmpR op_ne (pe_meth (pv 0) hM.c mA GA h5 bA .nil pass0 (pa_cons (pv 5) (pa_cons (pv 2) pa_nil))) (pe_meth (pv 0) hM.c mA GA h5 bA .nil pass0 (pa_cons (pv 5) (pa_cons (pv 3) pa_nil))) (nomark _))) (fun _ _ _ _ _ => (pv 6))))) (pss_one (ps_setLc (i := 4) (own := [("state", 5), ("way", 6)]) rfl sc_Machine_breaks.nd rfl rfl (sw_true rfl rfl rfl (by decide +kernel)) (pi_list (pe_meth (pv 0) hM.c mP GP h5 bP .nil pass0 (pa_cons (pe_fld (pv 1) rfl) (pa_cons (pe_fld (pv 1) rfl) pa_nil)))) (blkOk_by (N := ["self", "sentence", "left", "right", "wrong", "state", "way"]) (sc := defScope s_Machine_breaks) (by decide +kernel)) (fun _ _ _ _ _ => (show PG _ _ (gTup K 2 _) from (pg_tup rfl (pgs_cons (pg_name (i := 5) sc_Machine_breaks.nd rfl (Or.inl rfl)) (pgs_cons (pg_name (i := 6) sc_Machine_breaks.nd rfl (Or.inl rfl)) pgs_nil))))) (fun _ _ _ _ _ => pts_one (pt_cmpR (show OpR _ _ (rIn K true) from op_notIn_seq) (pe_ix (show IxR _ (rIxT K) from ix_tup) (show PE _ _ (tFld K _ "answers") from pe_fld (pv 0) rfl) (pv 5) (fun _ _ => rfl)) (show PE _ _ (tFld K _ "answers") from pe_fld (pv 1) rfl) rfl)) (fun _ _ _ _ _ => (pv 6)))))
      (pss_one (ps_ret (pe_ifExp (pt_truth (pv 4) (by intro _; rfl)) (pe_meth (pv 0) hM.c mO GO h8 bO .nil pass0 (pa_cons (pe_ix ix_list (pv 4) pe_int (fun _ _ => rfl)) pa_nil)) pe_non))))), ?_⟩
    obtain ⟨d1, m1, t1, ra1, aa1, p1, p2, p3, p4⟩ := id hp
    have l1 := ok.lts.l1
    have gen : ∃ (C dx : Addr) (fs : List (Str × V)) (m t : Addr), H q = some (.ins C dx fs) ∧ Cls K C ∧ NoAttr K C "letters" ∧ fs.lookup ("letters" : Str) = some (V.ref m) ∧ Mde CL H m t zs := by
      rcases hI0 with ⟨x, s', ⟨dq, m2, t2, q1, q2⟩, _⟩ | ⟨lt, ks, ⟨dq, m2, t2, t3, q1, q2, q3⟩, _⟩
      · exact ⟨_, _, _, _, _, q1, hS.c, hS.a1, rfl, q2⟩
      · exact ⟨_, _, _, _, _, q1, hI.c, hI.a1, rfl, q2⟩
    obtain ⟨C9, dx9, fs9, m9, t9, g1, g2, g3, g4, g5⟩ := gen
    refine ⟨_, rfl, p, CM, d1, _, _, rfl, p1, hM.c, hM.a1, rfl, _, rfl, q, C9, dx9, _, _, rfl, g1, g2, g3, g4, ?_⟩
    refine ⟨m1, t1, m9, t9, ys, zs, rfl, p2, g5, ok.lts, lz, fun hys => ?_, ke⟩
    subst hys
    replace kq := kq rfl
    clear g1 g2 g3 g4 g5
    try dsimp only
    have el1600 : ∀ {es : List Spk} {j}, EsOf rs ys.length n1 f1 k j es → es.length ≤ 1600 := fun h => es_len ok.rows (by have := ok.lts.l1; omega) l9 ok.nw ok.fo h
    refine seqIf_mid (fun σ' H' => ∃ (W : Addr) (gs : List Addr) (es : List Spk) (o2 o3 o5 o6 : Option V), σ' = [some (.ref p), some (.ref q), o2, o3, some (.ref W), o5, o6] ∧ H' W = some (.lst (gs.map V.ref)) ∧ WsAt H' gs (es.filter d) ∧ ExtN H H' ∧ TabsN T H' ∧ (∀ e ∈ es, SpkOk ys.length rs.length e) ∧
        ∀ (H'' : Hp) (v : V), ExtN H H'' → TabsN T H'' → BrkV K CL CH ys es d v H'' → Q v H'') (fun K' hK => ?_) ?_
    · rcases hI0 with ⟨x, s', hSen, hk, hx, so, rfl, rfl⟩ | ⟨lt, ks, hLim, hk, kl, jb, jn, rfl⟩
      · obtain ⟨dq, m2, t2, q1, q2⟩ := id hSen
        have kk : PySem.W.kitOne K (.ref CS) (.ref CS) = some true := by
          unfold PySem.W.kitOne
          rw [if_pos (by simp)]
        refine ⟨_, rfl, _, _, _, _, true, rfl, .own CS, .base (.ins q1 hS.c YS.ha YS.hn YS.ht YS.hm), kk, _, rfl, iteT ?_⟩
        have kq' : ∀ es, EsOf rs ys.length n1 f1 k none es → ∀ (H'' : Hp) (v : V), ExtN H H'' → TabsN T H'' → BrkV K CL CH ys es _ v H'' → Q v H'' := fun es ho => ho.elim (fun ⟨a, b⟩ => by subst b; exact kq.1 a) fun ⟨a, N, b, c⟩ => by subst c; exact fun H'' v x t h => kq.2 a H'' v N x t b h
        refine ⟨_, rfl, q, dq, _, rfl, q1, q, ys, k, x, s', rfl, hSen, hk, hx, so, fun H2 h2 s2 hn2 hh2 => ?_⟩
        obtain ⟨dA, mA1, tA, cA, kA, i1, i2, i3, i4⟩ := id hh2
        refine ⟨h2, CH, dA, _, _, rfl, i1, hH.c, hH.a3, rfl, ?_⟩
        refine ⟨_, rfl, q, dq, _, rfl, s2 _ _ q1, q, ys, k, x, s', rfl, hSen.same s2, hk, hx, so, fun H3 h3 s3 hn3 hh3 => ?_⟩
        obtain ⟨dB, mB1, tB, cB, kB, j1, j2, j3, j4⟩ := id hh3
        refine ⟨h3, CH, dB, _, _, rfl, j1, hH.c, hH.a3, rfl, ?_⟩
        refine ⟨by show 2 ≤ sizeLine; omega, fun tt htt => ?_⟩
        have s4 := Ask.Same.made1 (o := .tup [.ref cA, .ref cB]) (Same.refl H3) htt
        have e4 : upd H3 tt (.tup [.ref cA, .ref cB]) tt = some (.tup [.ref cA, .ref cB]) := upd_same
        generalize upd H3 tt (.tup [.ref cA, .ref cB]) = H4 at s4 e4 ⊢
        have s24 := s2.trans (s3.trans s4)
        have a3 := seqT_same (s3.trans s4) i3
        have a4 := i4.same (s3.trans s4)
        have b3 := seqT_same s4 j3
        have b4 := j4.same s4
        refine ⟨tt, _, rfl, SqT.of e4, rfl, _, _, rfl, _, _, rfl, rfl, ?_⟩
        try dsimp only
        refine ⟨_, rfl, p, d1, _, rfl, s24 _ _ p1, rfl, _, rfl, q, CS, dq, _, _, rfl, s24 _ _ q1, hS.c, hS.a2, rfl, ?_⟩
        delta tNil tCons tC
        dsimp only [List.cons_append, List.nil_append]
        refine spoken_any (hT.ext s24) (hp.same s24) ok l9 (fun z => ?_) (fun _ => rfl) fun H5 L gs es x5 T5 eL wG eok ho => ?_
        · rw [z] at hk
          exact absurd hk (by decide)
        have hp5 := mac_sv (Sv.ext x5) (hp.same s24)
        have x05 : ExtN H H5 := (ExtN.of s24).trans x5
        have v5 := Sv.ext x5
        have a5 := sqT_sv v5 a3
        have b5 := pairsV_sv v5 a4
        have a6 := sqT_sv v5 b3
        have b6 := pairsV_sv v5 b4
        have sdi := sd_in hx so
        refine ⟨L, rfl, ⟨_, SqL.of eL⟩, fun D hD => ?_⟩
        refine lc_it (walk_list (xs := gs.map V.ref)) (fun i H' => ∃ us : List Addr, H' D = some (.lst (us.map V.ref)) ∧ Same H5 H' ∧ WsAt H' us ((es.take i).filter (brkS rs ys (joinR (sdL k x s')) (joinR (sdR k x s'))))) ⟨[], upd_same, Ask.Same.upd_new (Same.refl _) hD, rfl, fun i g e h => by simp at h⟩ (fun i H' _ ⟨_, _, s', _⟩ => SqL.of (s' _ _ eL)) ?_ ?_
        · rintro i v H6 H7 hi ⟨us, eD, s6, wU⟩ ⟨rfl, hv⟩
          rw [List.length_map] at hi
          obtain ⟨g, hg⟩ : ∃ g, gs[i]? = some g := ⟨_, List.getElem?_eq_getElem hi⟩
          obtain rfl : v = .ref g := by
            rw [List.getElem?_map, hg] at hv
            exact (Option.some.inj hv).symm
          obtain ⟨e, he⟩ : ∃ e, es[i]? = some e := ⟨_, List.getElem?_eq_getElem (by rw [← wG.1]; exact hi)⟩
          obtain ⟨wa, w1, w2⟩ := wG.2 i g e hg he
          have ek := eok e (List.mem_of_getElem? he)
          have tk : es.take (i + 1) = es.take i ++ [e] := by rw [List.take_add_one, he]; rfl
          have hp7 := hp5.same s6
          obtain ⟨d7, m7, t7, ra7, aa7, n7, _⟩ := id hp7
          refine ⟨g, _, rfl, SqT.of (s6 _ _ w1), rfl, _, _, rfl, _, _, rfl, rfl, rfl, ?_⟩
          refine ⟨_, rfl, p, d7, _, rfl, n7, rfl, _, rfl, _, rfl, p, cA, ys, rs, ans, n1, f1, e.1, _, _, rfl, hp7, ok.lts.nd, ok.rows, by have := ok.len; omega, ek.s, seqT_same s6 a5, b5.same s6, join_in sdi.1, fun H8 s8 => ?_⟩
          refine ⟨_, rfl, p, d7, _, rfl, s8 _ _ n7, rfl, _, rfl, _, rfl, p, cB, ys, rs, ans, n1, f1, e.1, _, _, rfl, hp7.same s8, ok.lts.nd, ok.rows, by have := ok.len; omega, ek.s, seqT_same (s6.trans s8) a6, b6.same (s6.trans s8), join_in sdi.2, fun H9 s9 => ⟨rfl, _, rfl, ?_⟩⟩
          have s89 := s8.trans s9
          have eD9 := s89 _ _ eD
          have hbv : (!decide (vN (aftN rs ys e.1 (joinR (sdL k x s'))) = vN (aftN rs ys e.1 (joinR (sdR k x s'))))) = brkS rs ys (joinR (sdL k x s')) (joinR (sdR k x s')) e := by
            unfold brkS
            congr 1
            exact decide_eq_decide.mpr ⟨fun z => by have := V.int.inj z; omega, fun z => by rw [z]⟩
          rw [hbv]
          have ul : us.length ≤ es.length := by rw [wU.1]; exact Nat.le_trans (List.length_filter_le _ _) (by rw [List.length_take]; exact Nat.min_le_right _ _)
          cases hb9 : brkS rs ys (joinR (sdL k x s')) (joinR (sdR k x s')) e with
          | false =>
            refine iteF ⟨us, eD9, s6.trans s89, ?_⟩
            rw [tk, List.filter_append, List.filter_cons, if_neg (by rw [hb9]; simp), List.filter_nil, List.append_nil]
            exact wU.tups (same_tups s89)
          | true =>
            refine iteT ⟨_, rfl, _, eD9, by rw [List.length_map]; have := el1600 ho; omega, us ++ [wa], by rw [upd_same, List.map_append]; rfl, Ask.Same.upd_new (s6.trans s89) hD, ?_⟩
            rw [tk, List.filter_append, List.filter_cons, if_pos hb9, List.filter_nil]
            exact ((wU.tups (same_tups s89)).snoc (w2.tups (same_tups (s6.trans s89)))).tups fun b xs q => by rw [upd_ne (ne_of q eD9 (fun z => nomatch z))]; exact q
        · rintro H6 ⟨us, eD, s6, wU⟩
          rw [List.length_map, wG.1, List.take_length] at wU
          exact hK _ _ ⟨D, us, es, _, _, _, _, rfl, eD, wU, x05.trans (ExtN.of s6), T5.ext s6, eok, kq' es ho⟩
      · obtain ⟨dq, m2, t2, t3, q1, q2, q3⟩ := id hLim
        refine ⟨_, rfl, _, _, _, _, false, rfl, .own CS, .base (.ins q1 hI.c YI.ha YI.hn YI.ht YI.hm), nSI, _, rfl, iteF ?_⟩
        have kq' : ∀ es, EsOf rs ys.length n1 f1 k j es → ∀ (H'' : Hp) (v : V), ExtN H H'' → TabsN T H'' → BrkV K CL CH ys es _ v H'' → Q v H'' := fun es ho => ho.elim (fun ⟨a, b⟩ => by subst b; exact kq.1 a) fun ⟨a, N, b, c⟩ => by subst c; exact fun H'' v x t h => kq.2 a H'' v N x t b h
        refine ⟨_, rfl, p, d1, _, rfl, p1, rfl, _, rfl, q, CI, dq, _, _, rfl, q1, hI.c, hI.a2, rfl, _, rfl, q, CI, dq, _, _, rfl, q1, hI.c, hI.a4, rfl, ?_⟩
        delta tNil
        dsimp only [List.cons_append, List.nil_append]
        refine spoken_any hT hp ok l9 jb jn fun H5 L gs es x5 T5 eL wG eok ho => ?_
        have v5 := Sv.ext x5
        have hp5 := mac_sv v5 hp
        have qi5 := v5.ins q1
        have qt5 := v5.tup q3
        refine ⟨L, rfl, ⟨_, SqL.of eL⟩, fun D hD => ?_⟩
        refine lc_it (walk_list (xs := gs.map V.ref)) (fun i H' => ∃ us : List Addr, H' D = some (.lst (us.map V.ref)) ∧ Same H5 H' ∧ WsAt H' us ((es.take i).filter (brkL ans ks))) ⟨[], upd_same, Ask.Same.upd_new (Same.refl _) hD, rfl, fun i g e h => by simp at h⟩ (fun i H' _ ⟨_, _, s', _⟩ => SqL.of (s' _ _ eL)) ?_ ?_
        · rintro i v H6 H7 hi ⟨us, eD, s6, wU⟩ ⟨rfl, hv⟩
          rw [List.length_map] at hi
          obtain ⟨g, hg⟩ : ∃ g, gs[i]? = some g := ⟨_, List.getElem?_eq_getElem hi⟩
          obtain rfl : v = .ref g := by
            rw [List.getElem?_map, hg] at hv
            exact (Option.some.inj hv).symm
          obtain ⟨e, he⟩ : ∃ e, es[i]? = some e := ⟨_, List.getElem?_eq_getElem (by rw [← wG.1]; exact hi)⟩
          obtain ⟨wa, w1, w2⟩ := wG.2 i g e hg he
          have ek := eok e (List.mem_of_getElem? he)
          have tk : es.take (i + 1) = es.take i ++ [e] := by rw [List.take_add_one, he]; rfl
          obtain ⟨d7, m7, t7, ra7, aa7, n7, _, _, n10⟩ := hp5.same s6
          obtain ⟨y, hy⟩ : ∃ y, ans[e.1]? = some y := ⟨_, List.getElem?_eq_getElem (by rw [ok.alen]; exact ek.s)⟩
          refine ⟨g, _, rfl, SqT.of (s6 _ _ w1), rfl, _, _, rfl, _, _, rfl, rfl, rfl, ?_⟩
          refine ⟨_, rfl, p, CM, d7, _, _, rfl, n7, hM.c, hM.a3, rfl, _, rfl, aa7, _, _, .str y, rfl, rfl, n10, at_by (j := e.1) rfl (by rw [List.getElem?_map, hy]; rfl), ?_⟩
          refine ⟨_, rfl, q, CI, dq, _, _, rfl, s6 _ _ qi5, hI.c, hI.a3, rfl, t3, _, rfl, .inr (SqT.of (s6 _ _ qt5)), rfl, by rw [List.all_map]; exact List.all_eq_true.mpr fun _ _ => rfl, _, rfl, ?_⟩
          rw [show (if true = true then !inV (.str y) (ks.map V.str) else inV (.str y) (ks.map V.str)) = brkL ans ks e from by unfold brkL; rw [hy, if_pos rfl, inV_str]]
          have ul : us.length ≤ es.length := by rw [wU.1]; exact Nat.le_trans (List.length_filter_le _ _) (by rw [List.length_take]; exact Nat.min_le_right _ _)
          cases hb9 : brkL ans ks e with
          | false =>
            refine iteF ⟨us, eD, s6, ?_⟩
            rw [tk, List.filter_append, List.filter_cons, if_neg (by rw [hb9]; simp), List.filter_nil, List.append_nil]
            exact wU
          | true =>
            refine iteT ⟨_, rfl, _, eD, by rw [List.length_map]; have := el1600 ho; omega, us ++ [wa], by rw [upd_same, List.map_append]; rfl, Ask.Same.upd_new s6 hD, ?_⟩
            rw [tk, List.filter_append, List.filter_cons, if_pos hb9, List.filter_nil]
            exact (wU.snoc (w2.tups (same_tups s6))).tups fun b xs q => by rw [upd_ne (ne_of q eD (fun z => nomatch z))]; exact q
        · rintro H6 ⟨us, eD, s6, wU⟩
          rw [List.length_map, wG.1, List.take_length] at wU
          exact hK _ _ ⟨D, us, es, _, _, _, _, rfl, eD, wU, x5.trans (ExtN.of s6), T5.ext s6, eok, kq' es ho⟩
    rintro σ' H' ⟨W, gs, es, o2, o3, o5, o6, rfl, eW, wG, xH, TH, eok, k⟩
    have hp' := mac_sv (Sv.ext xH) hp
    obtain ⟨d8, m8, t8, ra8, aa8, r1, _⟩ := id hp'
    refine ⟨_, rfl, _, .inl ⟨_, SqL.of eW, rfl⟩, ?_⟩
    cases hf : es.filter d with
    | nil =>
      obtain rfl : gs = [] := List.eq_nil_of_length_eq_zero (by rw [wG.1, hf]; rfl)
      exact iteF (k H' .non xH TH (.inl ⟨hf, rfl⟩))
    | cons e r =>
      cases gs with
      | nil => have z := wG.1; rw [hf] at z; cases z
      | cons g0 gs =>
        obtain ⟨t, w1, w2⟩ := wG.2 0 g0 e rfl (by rw [hf]; rfl)
        have em : e ∈ es := (List.mem_filter.mp (by rw [hf]; exact List.mem_cons_self ..)).1
        have ek := eok e em
        refine iteT ⟨_, rfl, p, d8, _, rfl, r1, rfl, _, rfl, W, _, _, .ref g0, rfl, rfl, SqL.of eW, at_by (j := 0) rfl rfl, ?_⟩
        refine ⟨p, g0, t, ys, rs, ans, n1, f1, begS e.2.1, e.2.2, rfl, hp', w1, SqT.of w2, ?_, ek.wd, ek.l, fun H8 x s8 hx => k H8 (.ref x) (xH.trans (ExtN.of s8)) (TH.ext s8) (.inr ⟨e, x, by rw [hf]; rfl, rfl, hx⟩)⟩
        unfold begS
        rcases ek.k with z | z <;> rw [z]
        · exact .inl rfl
        · exact .inr rfl
end
end Ask

namespace Ask
open PySem L2
section
variable {P : Program} {w : World} {K : PySem.W.Frag} {mg : Str → Option Value} {base : Heap}
def spLed (K : PySem.W.Frag) : Sp := fun vs H Q _ => ∃ (t R wd : Addr) (e2 : V) (bs : List Addr) (rs : List (List Nat)) (s m : Nat) (ks : List Nat), vs = [.ref t, vN s, .ref wd] ∧ H t = some (.tup [.ref R, e2]) ∧ H R = some (.lst (bs.map V.ref)) ∧ RowsL H bs rs ∧ RowsOk rs m ∧ s < rs.length ∧ SqL K H wd (ks.map vN) ∧ (∀ k ∈ ks, k < m) ∧
  Q (vN (walkN rs s ks)) H

abbrev s__law_led : Stmt := top 78
theorem sc__law_led : FnScope ["_law_machine_here", "_law_state", "_law_word", "_law_k"] ["_law_machine_here", "_law_state", "_law_word"] (defScope s__law_led) := ⟨rfl, rfl, rfl, by decide +kernel, rfl, by decide +kernel, by decide +kernel⟩
theorem ok_led {f : Addr} {fd : FuncData} (F : Fun K "_law_led" "_law_led" s__law_led f fd) : FnOk P w K mg base CX0 1 f fd ["_law_machine_here", "_law_state", "_law_word"] (spLed K) := by
  refine F.ok sc__law_led (fun vs H Q E h => ?_) (fun cdv A outer s H vs Q E hr h => ?_)
  · obtain ⟨t, R, wd, e2, bs, rs, s, m, ks, rfl, _⟩ := h
    rfl
  · obtain ⟨t, R, wd, e2, bs, rs, s, m, ks, rfl, ht, hR, hrow, ok, hs, hW, hk, kq⟩ := h
    refine ⟨_, (pss_cons (ps_for PassesOwn.never rfl (pi_list (pv 2)) (pg_name (i := 3) sc__law_led.nd rfl (Or.inl rfl)) (pss_one (ps_set (i := 1) sc__law_led.nd rfl (Or.inl rfl) (pe_ifExp (pt_cmpR op_isN (pv 1) pe_non (nomark _)) pe_non (pe_ix ix_list (pe_ix ix_list (pe_ix ix_tup (pv 0) pe_int (fun _ _ => rfl)) (pv 1) (fun _ _ => rfl)) (pv 3) (fun _ _ => rfl))))))
      (pss_one (ps_ret (pv 1)))), ?_⟩
    have wN : ∀ i, i ≤ ks.length → walkN rs s (ks.take i) < rs.length := fun i => by
      induction i with
      | zero => intro _; exact hs
      | succ i ih =>
        intro hi
        have e : ks[i]? = some ks[i] := List.getElem?_eq_getElem (by omega)
        rw [List.take_add_one, e]
        show walkN rs s (ks.take i ++ [ks[i]]) < rs.length
        unfold walkN
        rw [List.foldl_append]
        exact (mvN_at ok (hk _ (List.mem_of_getElem? e)) (ih (by omega))).choose_spec.2.2
    refine ⟨_, rfl, wd, rfl, ⟨_, hW⟩, ?_⟩
    refine for_it (walk_list (xs := ks.map vN)) (fun i σ' H' => ∃ o3 : Option V, σ' = [some (.ref t), some (vN (walkN rs s (ks.take i))), some (.ref wd), o3] ∧ H' = H) ⟨none, rfl, rfl⟩ (fun i σ' H' _ ⟨_, _, e⟩ => by rw [e]; exact hW) ?_ ?_
    · rintro i v σ' H2 H3 hi ⟨o3, rfl, rfl⟩ ⟨rfl, hv⟩
      rw [List.length_map] at hi
      have e : ks[i]? = some ks[i] := List.getElem?_eq_getElem hi
      obtain rfl : v = vN ks[i] := by
        rw [List.getElem?_map, e] at hv
        exact (Option.some.inj hv).symm
      have hn := wN i (by omega)
      obtain ⟨r, er, erk, _⟩ := mvN_at ok (hk _ (List.mem_of_getElem? e)) hn
      obtain ⟨b, eb⟩ : ∃ b, bs[walkN rs s (ks.take i)]? = some b := ⟨_, List.getElem?_eq_getElem (by rw [hrow.1]; exact hn)⟩
      have hb := hrow.2 _ b r eb er
      have tk : walkN rs s (ks.take (i + 1)) = mvN rs ks[i] (walkN rs s (ks.take i)) := by
        rw [List.take_add_one, e]
        show walkN rs s (ks.take i ++ [ks[i]]) = _
        unfold walkN
        rw [List.foldl_append]
        rfl
      refine ⟨_, rfl, rfl, _, rfl, ?_⟩
      rw [show decide (vN (walkN rs s (ks.take i)) = V.non) = false from decide_eq_false (fun z => nomatch z)]
      refine iteF ⟨_, rfl, t, _, _, .ref R, rfl, rfl, SqT.of ht, at_by (j := 0) rfl rfl, _, rfl, R, _, _, .ref b, rfl, rfl, SqL.of hR, at_by (j := walkN rs s (ks.take i)) rfl (by rw [List.getElem?_map, eb]; rfl), _, rfl, b, _, _, vN (mvN rs ks[i] (walkN rs s (ks.take i))), rfl, rfl, SqL.of hb, at_by (j := ks[i]) rfl (by rw [List.getElem?_map, erk]; rfl), ?_⟩
      exact ⟨some (vN ks[i]), by rw [tk]; rfl, rfl⟩
    · rintro σ' H2 ⟨o3, rfl, rfl⟩
      rw [List.length_map, List.take_length]
      exact ⟨_, rfl, kq⟩
end
end Ask

namespace Ask
open PySem L2
def KA : List Str := ["idle", "still", "kept", "over", "undone", "alike"]
theorem ka_kl : ∀ k ∈ KA, k ∈ KL := by decide
def sdV : Option Nat → V
  | none => .non
  | some b => vN b
structure SaidOk (m : Nat) (k : Str) (a : Nat) (ob : Option Nat) : Prop where
  kl : k ∈ KL
  al : a < m
  lk : k ∈ LK → ob = none
  ne : k ∉ LK → ∃ b, ob = some b ∧ b < m ∧ ¬ (k = "alike" ∧ a = b)
section
variable {P : Program} {w : World} {K : PySem.W.Frag} {mg : Str → Option Value} {base : Heap}
def spAny (K : PySem.W.Frag) : Sp := fun vs H Q _ => ∃ (p c : Addr) (ns : List Int) (m B : Nat), vs = [.ref p, vN m] ∧ Pen c ns H p B ∧ B ≤ 100000000 ∧ 0 < m ∧ m ≤ 100 ∧
  ∀ (H' : Hp) (t : Addr) (k : Str) (a : Nat) (ob : Option Nat), Go p c ns H H' (B + 10) → H' t = some (.tup [.str k, vN a, sdV ob]) → SaidOk m k a ob → Q (.ref t) H'

abbrev s__law_any_said : Stmt := top 88
theorem sc__law_any_said : FnScope ["_law_pen_here", "_law_many", "_law_kind", "_law_first", "_law_second"] ["_law_pen_here", "_law_many"] (defScope s__law_any_said) := ⟨rfl, rfl, rfl, by decide +kernel, rfl, by decide +kernel, by decide +kernel⟩
theorem ok_any {f fD fP : Addr} {fd fdD fdP : FuncData} (F : Fun K "_law_any_said" "_law_any_said" s__law_any_said f fd)
    (G__law_draw : FnOk P w K mg base CX0 1 fD fdD ["_law_pen_here", "_law_many"] spDraw) (A__law_draw : At K mg "_law_draw" fD fdD ["_law_pen_here", "_law_many"])
    (G__law_pick : FnOk P w K mg base CX0 2 fP fdP ["_law_pen_here", "_law_items"] (spPick K)) (A__law_pick : At K mg "_law_pick" fP fdP ["_law_pen_here", "_law_items"]) :
    FnOk P w K mg base CX0 3 f fd ["_law_pen_here", "_law_many"] (spAny K) := by
  refine F.ok sc__law_any_said (fun vs H Q E h => ?_) (fun cdv A outer s H vs Q E hr h => ?_)
  · obtain ⟨p, c, ns, m, B, rfl, _⟩ := h
    rfl
  · obtain ⟨p, c, ns, m, B, rfl, hpen, hB, m0, m100, k⟩ := h
    have h__law_draw := hr.mono (j := 1) (by decide)
    have h__law_pick := hr.mono (j := 2) (by decide)
    have z1 : (100000 : Nat) ≤ sizeLine := by decide
    refine ⟨_, (pss_cons (ps_set (i := 2) sc__law_any_said.nd rfl (Or.inl rfl) (pe_call G__law_pick (by exact h__law_pick) (by rfl) A__law_pick.m A__law_pick.k A__law_pick.b .nil pass0 (pa_cons (pv 0) (pa_cons (pe_lst (pa_cons pe_str (pa_cons pe_str (pa_cons pe_str (pa_cons pe_str (pa_cons pe_str (pa_cons pe_str pa_nil))))))) pa_nil))))
      (pss_cons (ps_par (i := 3) (j := 4) rfl sc__law_any_said.nd rfl rfl (by decide) rfl rfl (pa_cons (pe_call G__law_draw (by exact h__law_draw) (by rfl) A__law_draw.m A__law_draw.k A__law_draw.b .nil pass0 (pa_cons (pv 0) (pa_cons (pv 1) pa_nil))) (pa_cons (pe_call G__law_draw (by exact h__law_draw) (by rfl) A__law_draw.m A__law_draw.k A__law_draw.b .nil pass0 (pa_cons (pv 0) (pa_cons (pv 1) pa_nil))) pa_nil)) (by rfl))
      (pss_cons (ps_if (pt_cmpR op_in_seq (pv 2) (pe_lst (pa_cons pe_str (pa_cons pe_str pa_nil))) rfl) (pss_one (ps_ret (pe_tup (pa_cons (pv 2) (pa_cons (pv 3) (pa_cons pe_non pa_nil)))))) pss_nil)
      (pss_cons (ps_if (PW.pt (pw_and (pt_cmpR op_eq (pv 2) pe_str (nomark _)) (pw_and1 (pt_cmpR op_eq (pv 3) (pv 4) (nomark _))))) (pss_one (ps_ret (pe_tup (pa_cons pe_str (pa_cons (pv 3) (pa_cons (pv 4) pa_nil)))))) pss_nil)
      (pss_one (ps_ret (pe_tup (pa_cons (pv 2) (pa_cons (pv 3) (pa_cons (pv 4) pa_nil)))))))))), ?_⟩
    refine ⟨_, rfl, by show 6 ≤ sizeLine; omega, fun l hl => ?_⟩
    have g1 := (Go.refl hpen).new (o := .lst (KA.map V.str)) hl
    have e1 : upd H l (.lst (KA.map V.str)) l = some (.lst (KA.map V.str)) := upd_same
    generalize hH1 : upd H l (.lst (KA.map V.str)) = H1 at g1 e1
    obtain rfl : upd H l _ = H1 := hH1
    refine ⟨p, c, ns, .ref l, B, rfl, g1.pen, by omega, .inl ⟨l, KA.map V.str, rfl, SqL.of e1, by decide, by decide, fun H2 v g2 hv => ?_⟩⟩
    replace g2 := g1.step g2
    obtain ⟨k0, hk, rfl⟩ := List.mem_map.mp hv
    try dsimp only
    refine ⟨_, rfl, _, rfl, p, c, ns, (m : Int), _, rfl, g2.pen, by omega, by omega, by omega, fun H3 r1 g3 r10 r1m => ?_⟩
    replace g3 := g2.step g3
    refine ⟨_, rfl, _, rfl, p, c, ns, (m : Int), _, rfl, g3.pen, by omega, by omega, by omega, fun H4 r2 g4 r20 r2m => ⟨_, _, rfl, ?_⟩⟩
    replace g4 := g3.step g4
    obtain ⟨a, rfl⟩ : ∃ a : Nat, r1 = (a : Int) := ⟨r1.toNat, by omega⟩
    obtain ⟨b, rfl⟩ : ∃ b : Nat, r2 = (b : Int) := ⟨r2.toNat, by omega⟩
    try dsimp only
    refine ⟨_, rfl, by show 2 ≤ sizeLine; omega, fun l2 hl2 => ?_⟩
    have g5 := g4.new (o := .lst (LK.map V.str)) hl2
    have e5 : upd H4 l2 (.lst (LK.map V.str)) l2 = some (.lst (LK.map V.str)) := upd_same
    refine ⟨l2, LK.map V.str, rfl, .inl (SqL.of e5), rfl, rfl, _, rfl, ?_⟩
    rw [show (if false = true then !inV (.str k0) (LK.map V.str) else inV (.str k0) (LK.map V.str)) = decide (k0 ∈ LK) from inV_str k0 LK]
    have kl := ka_kl k0 hk
    by_cases lk : k0 ∈ LK
    · rw [decide_eq_true lk]
      refine iteT ⟨_, rfl, _, rfl, by show 3 ≤ sizeLine; omega, fun t ht => ?_⟩
      exact k _ t k0 a none ((g5.new ht).mono (by omega)) upd_same ⟨kl, by omega, fun _ => rfl, fun z => absurd lk z⟩
    · rw [decide_eq_false lk]
      refine iteF ?_
      try dsimp only [tNext]
      refine ⟨_, rfl, rfl, _, rfl, ?_⟩
      by_cases ka : k0 = "alike"
      · rw [decide_eq_true (congrArg V.str ka)]
        refine iteT ⟨_, rfl, _, rfl, rfl, _, rfl, ?_⟩
        by_cases ab : a = b
        · rw [decide_eq_true (show V.int (a : Int) = V.int (b : Int) by rw [ab])]
          refine iteT ⟨_, rfl, _, rfl, by show 3 ≤ sizeLine; omega, fun t ht => ?_⟩
          exact k _ t "undone" a (some b) ((g5.new ht).mono (by omega)) upd_same ⟨by decide, by omega, fun z => absurd z (by decide), fun _ => ⟨b, rfl, by omega, fun z => absurd z.1 (by decide)⟩⟩
        · rw [decide_eq_false (show ¬ V.int (a : Int) = V.int (b : Int) from fun z => ab (by have := V.int.inj z; omega))]
          refine iteF ?_
          try dsimp only [tNext]
          refine ⟨_, rfl, _, rfl, _, rfl, by show 3 ≤ sizeLine; omega, fun t ht => ?_⟩
          exact k _ t k0 a (some b) ((g5.new ht).mono (by omega)) upd_same ⟨kl, by omega, fun z => absurd z lk, fun _ => ⟨b, rfl, by omega, fun z => ab z.2⟩⟩
      · rw [decide_eq_false (show ¬ V.str k0 = V.str "alike" from fun z => ka (V.str.inj z))]
        refine iteF (iteF ?_)
        try dsimp only [tNext]
        refine ⟨_, rfl, _, rfl, _, rfl, by show 3 ≤ sizeLine; omega, fun t ht => ?_⟩
        exact k _ t k0 a (some b) ((g5.new ht).mono (by omega)) upd_same ⟨kl, by omega, fun z => absurd z lk, fun _ => ⟨b, rfl, by omega, fun z => ka z.1⟩⟩
end
end Ask

namespace Ask
open PySem L2
def sdLn (k : Str) (a : Nat) (ob : Option Nat) : List V := if k ∈ (["idle", "still", "alike"] : List Str) then [vN a] else [vN a, sdV ob]
def sdRn (k : Str) (a : Nat) (ob : Option Nat) : List V := if k = "kept" then [vN a] else if k = "over" then [sdV ob] else if k = "alike" then [sdV ob] else []
theorem m3 (x y z : V) : mergeK [] [((Sum.inr ("kept" : Str) : Key), x), (Sum.inr ("over" : Str), y), (Sum.inr ("alike" : Str), z)] = [(Sum.inr ("kept" : Str), x), (Sum.inr ("over" : Str), y), (Sum.inr ("alike" : Str), z)] := by
  have n1 : ¬ (Sum.inr ("kept" : Str) : Key) = Sum.inr ("over" : Str) := fun h => absurd (Sum.inr.inj h) (by decide)
  have n2 : ¬ (Sum.inr ("kept" : Str) : Key) = Sum.inr ("alike" : Str) := fun h => absurd (Sum.inr.inj h) (by decide)
  have n3 : ¬ (Sum.inr ("over" : Str) : Key) = Sum.inr ("alike" : Str) := fun h => absurd (Sum.inr.inj h) (by decide)
  have e1 : putK ([] : List (Key × V)) (Sum.inr ("kept" : Str)) x = [(Sum.inr ("kept" : Str), x)] := putK_new _ rfl
  have e2 : putK [((Sum.inr ("kept" : Str) : Key), x)] (Sum.inr ("over" : Str)) y = [(Sum.inr ("kept" : Str), x), (Sum.inr ("over" : Str), y)] := putK_new _ ((valV_neg n1).trans rfl)
  have e3 : putK [((Sum.inr ("kept" : Str) : Key), x), (Sum.inr ("over" : Str), y)] (Sum.inr ("alike" : Str)) z = [(Sum.inr ("kept" : Str), x), (Sum.inr ("over" : Str), y), (Sum.inr ("alike" : Str), z)] := putK_new _ ((valV_neg n2).trans ((valV_neg n3).trans rfl))
  unfold mergeK
  simp only [List.foldl_cons, List.foldl_nil]
  rw [e1, e2, e3]
theorem v3 (x y z : V) (k : Str) : valV [((Sum.inr ("kept" : Str) : Key), x), (Sum.inr ("over" : Str), y), (Sum.inr ("alike" : Str), z)] (Sum.inr k) = if k = "kept" then some x else if k = "over" then some y else if k = "alike" then some z else none := by
  by_cases h1 : k = "kept"
  · rw [if_pos h1, h1]
    exact valV_pos rfl
  rw [if_neg h1, valV_neg (fun h => h1 (Sum.inr.inj h).symm)]
  by_cases h2 : k = "over"
  · rw [if_pos h2, h2]
    exact valV_pos rfl
  rw [if_neg h2, valV_neg (fun h => h2 (Sum.inr.inj h).symm)]
  by_cases h3 : k = "alike"
  · rw [if_pos h3, h3]
    exact valV_pos rfl
  rw [if_neg h3, valV_neg (fun h => h3 (Sum.inr.inj h).symm)]
  rfl
theorem tIf_two {t : TT} {ta tb : TE} {σ : L2.St} {H : Hp} {Q : VK} (Pv : V → Hp → Prop) (h : ∀ Q' : VK, (∀ v H', Pv v H' → Q' v H') → tIf t ta tb σ H Q') (k : ∀ v H', Pv v H' → Q v H') : tIf t ta tb σ H Q := h Q k
section
variable {P : Program} {w : World} {K : PySem.W.Frag} {mg : Str → Option Value} {base : Heap}
def spLSd (K : PySem.W.Frag) : Sp := fun vs H Q _ => ∃ (t : Addr) (k : Str) (a : Nat) (ob : Option Nat), vs = [.ref t] ∧ H t = some (.tup [.str k, vN a, sdV ob]) ∧
  ∀ (H' : Hp) (r l0 r0 : Addr), Same H H' → H' r = some (.tup [.str (if k = "still" then "new" else "found"), .ref l0, .ref r0]) → H' l0 = some (.lst (sdLn k a ob)) → H' r0 = some (.lst (sdRn k a ob)) → Q (.ref r) H'

abbrev s__law_sides : Stmt := top 81
theorem sc__law_sides : FnScope ["_law_said", "_law_kind", "_law_first", "_law_second", "_law_left", "_law_right"] ["_law_said"] (defScope s__law_sides) := ⟨rfl, rfl, rfl, by decide +kernel, rfl, by decide +kernel, by decide +kernel⟩
theorem ok_lsd {f : Addr} {fd : FuncData} (F : Fun K "_law_sides" "_law_sides" s__law_sides f fd) : FnOk P w K mg base CX0 1 f fd ["_law_said"] (spLSd K) := by
  refine F.ok sc__law_sides (fun vs H Q E h => ?_) (fun cdv A outer s H vs Q E hr h => ?_)
  · obtain ⟨t, k, a, ob, rfl, _⟩ := h
    rfl
  · obtain ⟨t, k, a, ob, rfl, ht, kq⟩ := h
    have hu := hu_of hr
    have z1 : (100000 : Nat) ≤ sizeLine := by decide
    refine ⟨_, (pss_cons (ps_asg (pv 0) (pg_tup rfl (pgs_cons (pg_name (i := 1) sc__law_sides.nd rfl (Or.inl rfl)) (pgs_cons (pg_name (i := 2) sc__law_sides.nd rfl (Or.inl rfl)) (pgs_cons (pg_name (i := 3) sc__law_sides.nd rfl (Or.inl rfl)) pgs_nil)))))
      (pss_cons (ps_set (i := 4) sc__law_sides.nd rfl (Or.inl rfl) (pe_ifExp (pt_cmpR op_in_seq (pv 1) (pe_lst (pa_cons pe_str (pa_cons pe_str (pa_cons pe_str pa_nil)))) rfl) (pe_lst (pa_cons (pv 2) pa_nil)) (pe_lst (pa_cons (pv 2) (pa_cons (pv 3) pa_nil)))))
      (pss_cons (ps_set (i := 5) sc__law_sides.nd rfl (Or.inl rfl) (pe_dget2 hu (pe_disp (pps_cons pe_str (pe_lst (pa_cons (pv 2) pa_nil)) (pps_cons pe_str (pe_lst (pa_cons (pv 3) pa_nil)) (pps_cons pe_str (pe_lst (pa_cons (pv 3) pa_nil)) pps_nil))) (by rfl) (by rfl) (fun z => by cases z) (by decide)) (pv 1) (pe_lst pa_nil) ⟨rfl, rfl, rfl, rfl⟩))
      (pss_one (ps_ret (pe_tup (pa_cons (pe_ifExp (pt_cmpR op_eq (pv 1) pe_str (nomark _)) pe_str pe_str) (pa_cons (pv 4) (pa_cons (pv 5) pa_nil))))))))), ?_⟩
    refine ⟨_, rfl, t, _, rfl, SqT.of ht, rfl, _, _, rfl, _, _, rfl, _, _, rfl, rfl, ?_⟩
    try dsimp only
    refine tIf_two (fun v H' => ∃ l0, v = .ref l0 ∧ Same H H' ∧ H' l0 = some (.lst (sdLn k a ob))) (fun Q' hQ => ?_) ?_
    · refine ⟨_, rfl, by show 3 ≤ sizeLine; omega, fun l hl => ?_⟩
      have s1 := Ask.Same.made1 (o := .lst ((["idle", "still", "alike"] : List Str).map V.str)) (Same.refl H) hl
      have e1 : upd H l (.lst ((["idle", "still", "alike"] : List Str).map V.str)) l = some (.lst ((["idle", "still", "alike"] : List Str).map V.str)) := upd_same
      refine ⟨l, (["idle", "still", "alike"] : List Str).map V.str, rfl, .inl (SqL.of e1), rfl, rfl, _, rfl, ?_⟩
      rw [show (if false = true then !inV (.str k) ((["idle", "still", "alike"] : List Str).map V.str) else inV (.str k) ((["idle", "still", "alike"] : List Str).map V.str)) = decide (k ∈ (["idle", "still", "alike"] : List Str)) from inV_str k _]
      by_cases c : k ∈ (["idle", "still", "alike"] : List Str)
      · rw [decide_eq_true c]
        refine iteT ⟨_, rfl, by show 1 ≤ sizeLine; omega, fun l2 hl2 => hQ _ _ ⟨l2, rfl, Ask.Same.made1 s1 hl2, ?_⟩⟩
        unfold sdLn
        rw [if_pos c]
        exact upd_same
      · rw [decide_eq_false c]
        refine iteF ⟨_, rfl, _, rfl, by show 2 ≤ sizeLine; omega, fun l2 hl2 => hQ _ _ ⟨l2, rfl, Ask.Same.made1 s1 hl2, ?_⟩⟩
        unfold sdLn
        rw [if_neg c]
        exact upd_same
    rintro v H1 ⟨l0, rfl, s1, e1⟩
    try dsimp only
    refine fun d hd => ?_
    have s2 := Ask.Same.made1 (o := .dK []) s1 hd
    have dn : H d = none := s1.free hd
    have eD : upd H1 d (.dK []) d = some (.dK []) := upd_same
    have el0 := (Ask.Same.made1 (o := .dK []) (Same.refl H1) hd) _ _ e1
    generalize upd H1 d (.dK []) = HA at s2 eD el0 ⊢
    refine ⟨_, rfl, by show 1 ≤ sizeLine; omega, fun a1 ha1 => ?_⟩
    have t1 := Ask.Same.made1 (o := .lst [vN a]) (Same.refl HA) ha1
    have f1 : upd HA a1 (.lst [vN a]) a1 = some (.lst [vN a]) := upd_same
    generalize upd HA a1 (.lst [vN a]) = HB at t1 f1 ⊢
    refine ⟨_, rfl, by show 1 ≤ sizeLine; omega, fun a2 ha2 => ?_⟩
    have t2 := Ask.Same.made1 (o := .lst [sdV ob]) (Same.refl HB) ha2
    have f2 : upd HB a2 (.lst [sdV ob]) a2 = some (.lst [sdV ob]) := upd_same
    generalize upd HB a2 (.lst [sdV ob]) = HC at t2 f2 ⊢
    refine ⟨_, rfl, by show 1 ≤ sizeLine; omega, fun a3 ha3 => ?_⟩
    have t3 := Ask.Same.made1 (o := .lst [sdV ob]) (Same.refl HC) ha3
    have f3 : upd HC a3 (.lst [sdV ob]) a3 = some (.lst [sdV ob]) := upd_same
    generalize upd HC a3 (.lst [sdV ob]) = HD at t3 f3 ⊢
    have t23 := t2.trans t3
    have t13 := t1.trans t23
    refine ⟨t13 _ _ eD, [(Sum.inr ("kept" : Str), .ref a1), (Sum.inr ("over" : Str), .ref a2), (Sum.inr ("alike" : Str), .ref a3)], rfl, by show 3 ≤ 15; decide, ?_⟩
    rw [m3]
    have sE : Same H (upd HD d (.dK [(Sum.inr ("kept" : Str), .ref a1), (Sum.inr ("over" : Str), .ref a2), (Sum.inr ("alike" : Str), .ref a3)])) := Ask.Same.upd_new (s2.trans t13) dn
    have eE : upd HD d (.dK [(Sum.inr ("kept" : Str), .ref a1), (Sum.inr ("over" : Str), .ref a2), (Sum.inr ("alike" : Str), .ref a3)]) d = some (.dK [(Sum.inr ("kept" : Str), .ref a1), (Sum.inr ("over" : Str), .ref a2), (Sum.inr ("alike" : Str), .ref a3)]) := upd_same
    have offE : ∀ b xs, HD b = some (.lst xs) → upd HD d (.dK [(Sum.inr ("kept" : Str), .ref a1), (Sum.inr ("over" : Str), .ref a2), (Sum.inr ("alike" : Str), .ref a3)]) b = some (.lst xs) := fun b xs e => by rw [upd_ne (ne_of e (t13 _ _ eD) (fun z => nomatch z))]; exact e
    have l0E := offE _ _ (t13 _ _ el0)
    have l1E := offE _ _ (t23 _ _ f1)
    have l2E := offE _ _ (t3 _ _ f2)
    have l3E := offE _ _ f3
    generalize upd HD d (.dK [(Sum.inr ("kept" : Str), .ref a1), (Sum.inr ("over" : Str), .ref a2), (Sum.inr ("alike" : Str), .ref a3)]) = HE at sE eE l0E l1E l2E l3E ⊢
    refine ⟨d, rfl, .inl ⟨_, .inl eE⟩, _, rfl, Nat.zero_le _, fun z hz => ?_⟩
    have t4 := Ask.Same.made1 (o := .lst []) (Same.refl HE) hz
    have f4 : upd HE z (.lst []) z = some (.lst []) := upd_same
    generalize upd HE z (.lst []) = HF at t4 f4 ⊢
    refine ⟨_, .inl ⟨_, Sum.inr k, .inl (t4 _ _ eE), rfl, rfl⟩, ?_⟩
    rw [v3]
    obtain ⟨r0, er0, hr0⟩ : ∃ r0, ((if k = "kept" then some (V.ref a1) else if k = "over" then some (V.ref a2) else if k = "alike" then some (V.ref a3) else none).getD (V.ref z)) = .ref r0 ∧ HF r0 = some (.lst (sdRn k a ob)) := by
      unfold sdRn
      by_cases c1 : k = "kept"
      · rw [if_pos c1, if_pos c1]; exact ⟨a1, rfl, t4 _ _ l1E⟩
      rw [if_neg c1, if_neg c1]
      by_cases c2 : k = "over"
      · rw [if_pos c2, if_pos c2]; exact ⟨a2, rfl, t4 _ _ l2E⟩
      rw [if_neg c2, if_neg c2]
      by_cases c3 : k = "alike"
      · rw [if_pos c3, if_pos c3]; exact ⟨a3, rfl, t4 _ _ l3E⟩
      rw [if_neg c3, if_neg c3]
      exact ⟨z, rfl, f4⟩
    rw [er0]
    try dsimp only
    have sF := sE.trans t4
    have l0F := t4 _ _ l0E
    refine ⟨_, rfl, rfl, _, rfl, ?_⟩
    by_cases st : k = "still"
    · rw [decide_eq_true (congrArg V.str st)]
      refine iteT ⟨_, rfl, _, rfl, by show 3 ≤ sizeLine; omega, fun r hr' => ?_⟩
      have t5 := Ask.Same.made1 (o := .tup [.str "new", .ref l0, .ref r0]) (Same.refl HF) hr'
      exact kq _ r l0 r0 (sF.trans t5) (by rw [if_pos st]; exact upd_same) (t5 _ _ l0F) (t5 _ _ hr0)
    · rw [decide_eq_false (show ¬ V.str k = V.str "still" from fun z => st (V.str.inj z))]
      refine iteF ⟨_, rfl, _, rfl, by show 3 ≤ sizeLine; omega, fun r hr' => ?_⟩
      have t5 := Ask.Same.made1 (o := .tup [.str "found", .ref l0, .ref r0]) (Same.refl HF) hr'
      exact kq _ r l0 r0 (sF.trans t5) (by rw [if_neg st]; exact upd_same) (t5 _ _ l0F) (t5 _ _ hr0)
end
end Ask

namespace Ask
open PySem L2
theorem DrOk.out {ys : List Str} {k x : Str} {s : V} (h : DrOk ys k x s) : outS ys (.str k) (.str x) s = 4 := by
  obtain ⟨hk, hx, so, n⟩ := h
  have b2 : (if inB LK (.str k) = true then isN s else inB ys s) = true := by
    by_cases l : k ∈ LK
    · rw [if_pos (show inB LK (.str k) = true from decide_eq_true l), so.2 l]
      rfl
    · rw [if_neg (show ¬ inB LK (.str k) = true from fun z => l (of_decide_eq_true z))]
      obtain ⟨y, rfl, hy⟩ := so.1 l
      exact decide_eq_true hy
  unfold outS
  rw [if_neg (by rw [show inB KL (.str k) = true from decide_eq_true hk]; decide), if_neg (by rw [show inB ys (.str x) = true from decide_eq_true hx]; decide), if_neg (by rw [b2]; decide), if_neg (fun z => n ⟨V.str.inj z.1, z.2⟩)]
theorem DrOk.flat {ys : List Str} {k x : Str} {s : V} (h : DrOk ys k x s) : flatV s = true := by
  rcases h.2.2.1.cases with rfl | ⟨y, rfl, _⟩ <;> rfl
theorem DrOk.mono {ys zs : List Str} {k x : Str} {s : V} (h : DrOk ys k x s) (m : ∀ y ∈ ys, y ∈ zs) : DrOk zs k x s :=
  ⟨h.1, m _ h.2.1, ⟨fun l => let ⟨y, e, hy⟩ := h.2.2.1.1 l; ⟨y, e, m _ hy⟩, h.2.2.1.2⟩, h.2.2.2⟩
/-- the one form is one, too -/
theorem DrOk.nf {ys : List Str} {k x : Str} {s : V} (h : DrOk ys k x s) : ∃ (k' x' : Str) (s' : V), nfT ys k x s = [.str k', .str x', s'] ∧ k' ∈ KL ∧ x' ∈ ys ∧ SOk ys k' s' := by
  obtain ⟨k', x', s', e, a, b, c, d⟩ := nfT_ok h.1 h.2.1 h.2.2.1.1 h.2.2.1.2
  exact ⟨k', x', s', e, a, b, c, d⟩
section
variable {P : Program} {w : World} {K : PySem.W.Frag} {mg : Str → Option Value} {base : Heap}
/-- Sentence(m, k, x, s) is made -/
theorem sen_made {CL CS CK CT CN : Addr} {H : Hp} {m t pp : Addr} {ys : List Str} {k x : Str} {s : V} {Q : VK} {E : XK} (hM : Mde CL H m t ys) (nd : ys.Nodup) (dr : DrOk ys k x s) {p dx : Addr} (hp : H p = none) (hdx : H dx = none) (hne : dx ≠ p)
    (kq : ∀ (H' : Hp) (k' x' : Str) (s' : V), Same H H' → nfT ys k x s = [.str k', .str x', s'] → SenAt K CL CS H' p ys k' x' s' → Q .non H') :
    spSen K CL CS CK CT CN [.ref p, .ref m, .str k, .str x, s] (upd (upd H dx (.own p)) p (.ins CS dx [])) Q E := by
  have sm : Same H (upd (upd H dx (.own p)) p (.ins CS dx [])) := Ask.Same.made1 (Ask.Same.made1 (Same.refl H) hdx) (by rw [upd_ne hne.symm]; exact hp)
  have o := dr.out
  refine ⟨p, dx, m, t, m, .str k, .str x, s, ys, rfl, upd_same, hM.same sm, nd, .inl rfl, .inl rfl, .inl dr.flat, fun z => absurd (o.symm.trans z) (by decide), fun j z hj H' d sd e => absurd (o.symm.trans z) (by omega), fun z => absurd (o.symm.trans z) (by decide), fun _ k0 x0 ek ex hk hx h1 h2 H' k' x' s' hp' kk enf => ?_⟩
  cases ek
  cases ex
  have s1 : Same H H' := Same.made hp hdx fun b o e hb => kk b o hb e
  exact kq H' k' x' s' s1 enf ⟨dx, m, t, hp', hM.same s1⟩
/-- a letter by its place -/
def ltN (ys : List Str) (a : Nat) : Str := (ys[a]?).getD Str.empty
theorem ltN_at {ys : List Str} {a : Nat} (h : a < ys.length) : ys[a]? = some (ltN ys a) := by unfold ltN; rw [List.getElem?_eq_getElem h]; rfl
def ltV (ys : List Str) : Option Nat → V
  | none => .non
  | some b => .str (ltN ys b)
theorem said_dr {ys : List Str} {k : Str} {a : Nat} {ob : Option Nat} (nd : ys.Nodup) (h : SaidOk ys.length k a ob) : DrOk ys k (ltN ys a) (ltV ys ob) := by
  have ha := ltN_at h.al
  refine ⟨h.kl, List.mem_of_getElem? ha, ⟨fun l => ?_, fun l => by rw [h.lk l]; rfl⟩, ?_⟩
  · obtain ⟨b, rfl, hb, _⟩ := h.ne l
    exact ⟨_, rfl, List.mem_of_getElem? (ltN_at hb)⟩
  · rintro ⟨e1, e2⟩
    have l : k ∉ LK := by rw [e1]; decide
    obtain ⟨b, rfl, hb, ne⟩ := h.ne l
    have e3 : ltN ys a = ltN ys b := V.str.inj e2
    refine ne ⟨e1, ?_⟩
    have hb' := ltN_at hb
    rw [← e3] at hb'
    exact (List.getElem?_inj h.al nd).mp (ha.trans hb'.symm)
def spLSen (K : PySem.W.Frag) (CL CS : Addr) : Sp := fun vs H Q _ => ∃ (m t0 t : Addr) (ys : List Str) (k : Str) (a : Nat) (ob : Option Nat), vs = [.ref m, .ref t] ∧ Mde CL H m t0 ys ∧ ys.Nodup ∧ H t = some (.tup [.str k, vN a, sdV ob]) ∧ SaidOk ys.length k a ob ∧
  ∀ (H' : Hp) (q : Addr) (k' x' : Str) (s' : V), Same H H' → nfT ys k (ltN ys a) (ltV ys ob) = [.str k', .str x', s'] → SenAt K CL CS H' q ys k' x' s' → Q (.ref q) H'

abbrev s__law_sentence : Stmt := top 80
theorem sc__law_sentence : FnScope ["_law_letters_here", "_law_said", "_law_kind", "_law_first", "_law_second"] ["_law_letters_here", "_law_said"] (defScope s__law_sentence) := ⟨rfl, rfl, rfl, by decide +kernel, rfl, by decide +kernel, by decide +kernel⟩
theorem ok_lsen {f fS CL CS CK CT CN : Addr} {fd fdS : FuncData} (F : Fun K "_law_sentence" "_law_sentence" s__law_sentence f fd) (hL0 : Cls K CL) (nW : NoAttr K CL "words")
    (MS : Mk K CS fS) (mS : mg "Sentence" = some (.ref CS)) (bS : Binds K fdS ["self", "letters", "kind", "first", "second"] []) (GS : FnOk P w K mg base (L2.CX P w) 7 fS fdS ["self", "letters", "kind", "first", "second"] (spSen K CL CS CK CT CN)) :
    FnOk P w K mg base CX0 9 f fd ["_law_letters_here", "_law_said"] (spLSen K CL CS) := by
  refine F.ok sc__law_sentence (fun vs H Q E h => ?_) (fun cdv A outer s H vs Q E hr h => ?_)
  · obtain ⟨m, t0, t, ys, k, a, ob, rfl, _⟩ := h
    rfl
  · obtain ⟨m, t0, t, ys, k, a, ob, rfl, hM, nd, ht, so, kq⟩ := h
    have z1 : (100000 : Nat) ≤ sizeLine := by decide
    refine ⟨_, (pss_cons (ps_asg (pv 1) (pg_tup rfl (pgs_cons (pg_name (i := 2) sc__law_sentence.nd rfl (Or.inl rfl)) (pgs_cons (pg_name (i := 3) sc__law_sentence.nd rfl (Or.inl rfl)) (pgs_cons (pg_name (i := 4) sc__law_sentence.nd rfl (Or.inl rfl)) pgs_nil)))))
      (pss_one (ps_ret (pe_make MS GS hr (by rfl) mS bS .nil passE (pa_cons (pv 0) (pa_cons (pv 2) (pa_cons (pe_ix ix_tup (pe_fld (pv 0) rfl) (pv 3) (fun _ _ => rfl)) (pa_cons (pe_ifExp (pt_cmpR op_isN (pv 4) pe_non (nomark _)) pe_non (pe_ix ix_tup (pe_fld (pv 0) rfl) (pv 4) (fun _ _ => rfl))) pa_nil)))))))), ?_⟩
    obtain ⟨dl, ol, hm, ht0, hol⟩ := id hM
    refine ⟨_, rfl, t, _, rfl, SqT.of ht, rfl, _, _, rfl, _, _, rfl, _, _, rfl, rfl, ?_⟩
    try dsimp only
    refine ⟨_, rfl, _, rfl, _, rfl, m, CL, dl, _, _, rfl, hm, hL0, nW, rfl, _, rfl, t0, _, _, .str (ltN ys a), rfl, rfl, .inl (.inr ⟨ol, ht0⟩), at_by (j := a) rfl (by rw [List.getElem?_map, ltN_at so.al]; rfl), ?_⟩
    refine ⟨_, rfl, rfl, _, rfl, ?_⟩
    have dr := said_dr nd so
    cases ob with
    | none =>
      refine iteT ?_
      refine fun x dx hx hdx hne => ?_
      exact sen_made (pp := m) hM nd dr hx hdx hne fun H' k' x' s' s1 e hs => ⟨rfl, kq H' x k' x' s' s1 e hs⟩
    | some b =>
      have hb : b < ys.length := by
        by_cases l : k ∈ LK
        · have := so.lk l; cases this
        · obtain ⟨b', e, hb, _⟩ := so.ne l
          cases e
          exact hb
      rw [show decide (sdV (some b) = V.non) = false from decide_eq_false (fun z => nomatch z)]
      refine iteF ⟨_, rfl, m, CL, dl, _, _, rfl, hm, hL0, nW, rfl, _, rfl, t0, _, _, .str (ltN ys b), rfl, rfl, .inl (.inr ⟨ol, ht0⟩), at_by (j := b) rfl (by rw [List.getElem?_map, ltN_at hb]; rfl), ?_⟩
      refine fun x dx hx hdx hne => ?_
      exact sen_made (pp := m) hM nd dr hx hdx hne fun H' k' x' s' s1 e hs => ⟨rfl, kq H' x k' x' s' s1 e hs⟩
end
end Ask

namespace Ask
open PySem L2
open PyProof.Rows (sortedS risingS)
/-! ### texts, ascending -/
def Lt (x y : Str) : Prop := x.cps.toList < y.cps.toList
instance (x y : Str) : Decidable (Lt x y) := inferInstanceAs (Decidable (x.cps.toList < y.cps.toList))
theorem Lt.irr {x : Str} : ¬ Lt x x := List.lt_irrefl _
theorem Lt.tr {x y z : Str} (a : Lt x y) (b : Lt y z) : Lt x z := List.lt_trans a b
theorem Lt.as {x y : Str} (a : Lt x y) (b : Lt y x) : False := Lt.irr (a.tr b)
theorem str_same {x y : Str} (h : x.cps.toList = y.cps.toList) : x = y := by
  cases x
  cases y
  exact congrArg Str.mk (Array.toList_inj.mp h)
theorem lt_or {x y : Str} (n : x ≠ y) (h : ¬ Lt x y) : Lt y x := by
  refine Decidable.byContradiction fun g => n (str_same ?_)
  exact List.le_antisymm (List.not_lt.mp g) (List.not_lt.mp h)
theorem not_tr {x y z : Str} (a : ¬ Lt y x) (b : ¬ Lt z y) : ¬ Lt z x := fun h => by
  by_cases e : x = y
  · rw [e] at h; exact b h
  · exact b (h.tr (lt_or (fun q => e q.symm) a))
def Up (ks : List Str) : Prop := ks.Pairwise Lt
theorem rise_all : ∀ {r : List Str} {p : Str}, risingS p r = true → (∀ y ∈ r, ¬ Lt y p) ∧ sortedS r = true
  | [], p, _ => ⟨fun y h => (by cases h), rfl⟩
  | x :: r, p, h => by
    have h : (!PySem.Spec.ltCps x.cps.toList p.cps.toList && risingS x r) = true := h
    rw [Bool.and_eq_true] at h
    have n : ¬ Lt x p := fun q => by
      have := h.1
      rw [PyProof.Rows.ltCps_eq, decide_eq_true (show x.cps.toList < p.cps.toList from q)] at this
      cases this
    refine ⟨fun y hy => ?_, h.2⟩
    rcases List.mem_cons.mp hy with rfl | hy
    · exact n
    · exact not_tr n ((rise_all h.2).1 y hy)
theorem up_of : ∀ {ks : List Str}, sortedS ks = true → ks.Nodup → Up ks
  | [], _, _ => List.Pairwise.nil
  | k :: ks, h, nd => by
    obtain ⟨new, nd⟩ := List.nodup_cons.mp nd
    obtain ⟨a, b⟩ := rise_all (p := k) (r := ks) h
    exact List.Pairwise.cons (fun y hy => lt_or (fun e => new (e ▸ hy)) (a y hy)) (up_of b nd)
theorem Up.nd {ks : List Str} (h : Up ks) : ks.Nodup := List.Pairwise.imp (fun {x y} (l : Lt x y) (e : x = y) => Lt.irr (x := y) (by rw [e] at l; exact l)) h
theorem Up.so {ks : List Str} (h : Up ks) : sortedS ks = true := PyProof.Rows.sortedS_of_pairwise ks (List.Pairwise.imp (fun {x y} (l : Lt x y) => by
  rw [PyProof.Rows.ltCps_eq]
  exact decide_eq_false fun q => l.as q) h)
theorem up_eq : ∀ {ks js : List Str}, Up ks → Up js → (∀ z, z ∈ ks ↔ z ∈ js) → ks = js
  | [], [], _, _, _ => rfl
  | [], j :: js, _, _, h => by have := (h j).mpr List.mem_cons_self; cases this
  | k :: ks, [], _, _, h => by have := (h k).mp List.mem_cons_self; cases this
  | k :: ks, j :: js, u, v, h => by
    obtain ⟨u1, u2⟩ := List.pairwise_cons.mp u
    obtain ⟨v1, v2⟩ := List.pairwise_cons.mp v
    have e : k = j := by
      rcases List.mem_cons.mp ((h k).mp List.mem_cons_self) with e | m
      · exact e
      · rcases List.mem_cons.mp ((h j).mpr List.mem_cons_self) with e | n
        · exact e.symm
        · exact ((v1 k m).as (u1 j n)).elim
    subst e
    refine congrArg (k :: ·) (up_eq u2 v2 fun z => ⟨fun m => ?_, fun m => ?_⟩)
    · rcases List.mem_cons.mp ((h z).mp (List.mem_cons_of_mem _ m)) with e | q
      · exact (Lt.irr (e ▸ u1 z m)).elim
      · exact q
    · rcases List.mem_cons.mp ((h z).mpr (List.mem_cons_of_mem _ m)) with e | q
      · exact (Lt.irr (e ▸ v1 z m)).elim
      · exact q
theorem setOf_one {ys ks js : List Str} (a : SetOfS ys ks) (b : SetOfS ys js) : ks = js := up_eq (up_of a.2.1 a.1) (up_of b.2.1 b.1) fun z => (a.2.2 z).trans (b.2.2 z).symm
def less (ks : List Str) (z : Str) : List Str := ks.filter fun x => decide (Lt x z)
theorem put_up {z : Str} : ∀ {ks : List Str}, Up ks → z ∉ ks → Up (less ks z ++ [z] ++ ks.drop (less ks z).length) ∧ ∀ x, x ∈ less ks z ++ [z] ++ ks.drop (less ks z).length ↔ x ∈ ks ∨ x = z
  | [], _, _ => ⟨List.pairwise_singleton _ _, fun x => by simp [less]⟩
  | k :: ks, u, n => by
    obtain ⟨u1, u2⟩ := List.pairwise_cons.mp u
    have n2 : z ∉ ks := fun h => n (List.mem_cons_of_mem _ h)
    have nk : k ≠ z := fun e => n (e ▸ List.mem_cons_self)
    by_cases c : Lt k z
    · have e : less (k :: ks) z = k :: less ks z := by
        unfold less
        rw [List.filter_cons, if_pos (decide_eq_true c)]
      obtain ⟨w1, w2⟩ := put_up u2 n2
      rw [e]
      refine ⟨List.Pairwise.cons (fun y hy => ?_) w1, fun x => ?_⟩
      · rcases (w2 y).mp hy with h | rfl
        · exact u1 y h
        · exact c
      · show x ∈ k :: (less ks z ++ [z] ++ ks.drop (less ks z).length) ↔ _
        rw [List.mem_cons, w2 x, List.mem_cons, or_assoc]
    · have g := lt_or nk c
      have e : less (k :: ks) z = [] := by
        unfold less
        rw [List.filter_eq_nil_iff]
        intro y hy q
        have q := of_decide_eq_true q
        rcases List.mem_cons.mp hy with rfl | hy
        · exact q.as g
        · exact q.as (g.tr (u1 y hy))
      rw [e]
      refine ⟨List.Pairwise.cons (fun y hy => ?_) u, fun x => ?_⟩
      · have hy : y ∈ k :: ks := hy
        rcases List.mem_cons.mp hy with rfl | hy
        · exact g
        · exact g.tr (u1 y hy)
      · show x ∈ z :: (k :: ks) ↔ _
        rw [List.mem_cons]
        exact Or.comm

theorem cutV_from (xs : List V) (k : Nat) (h : k ≤ xs.length) : cutV xs (some (k : Int)) none = xs.drop k := by
  unfold cutV
  rw [HT.sIx_none, HT.sIx_nat, Nat.min_eq_left h]
  exact List.take_of_length_le (by rw [List.length_drop]; omega)
theorem less_more {ks : List Str} {j : Nat} {k y : Str} (h : ks[j]? = some k) : less (ks.take (j + 1)) y = less (ks.take j) y ++ (if decide (Lt k y) = true then [k] else []) := by
  unfold less
  rw [List.take_add_one, h, List.filter_append, Option.toList_some, List.filter_cons, List.filter_nil]
theorem less_len (ks : List Str) (y : Str) : (less ks y).length ≤ ks.length := List.length_filter_le _ _
theorem take_mem {ys : List Str} {i : Nat} {y x : Str} (h : ys[i]? = some y) : x ∈ ys.take (i + 1) ↔ x ∈ ys.take i ∨ x = y := by
  rw [List.take_add_one, h, List.mem_append, Option.toList_some, List.mem_singleton]
theorem setOf_put {ys ks : List Str} {i : Nat} {y : Str} (h : SetOfS (ys.take i) ks) (e : ys[i]? = some y) (n : y ∉ ks) : SetOfS (ys.take (i + 1)) (less ks y ++ [y] ++ ks.drop (less ks y).length) := by
  obtain ⟨u, m⟩ := put_up (up_of h.2.1 h.1) n
  exact ⟨u.nd, u.so, fun x => (m x).trans (by rw [take_mem e, h.2.2 x])⟩
theorem setOf_keep {ys ks : List Str} {i : Nat} {y : Str} (h : SetOfS (ys.take i) ks) (e : ys[i]? = some y) (n : y ∈ ks) : SetOfS (ys.take (i + 1)) ks := by
  refine ⟨h.1, h.2.1, fun x => ?_⟩
  rw [take_mem e, h.2.2 x]
  exact ⟨.inl, fun q => q.elim id fun q => by rw [q]; exact (h.2.2 y).mp n⟩
theorem setOf_nil : SetOfS [] [] := ⟨List.nodup_nil, rfl, fun z => Iff.rfl⟩
def FitL (ys : List Str) : Prop := ∀ y ∈ ys, y.length ≤ 500 ∧ Asc y
def NonS (v : V) : Prop := v = .non ∨ ∃ y, v = .str y
theorem strs_inj : ∀ {ys zs : List Str}, ys.map V.str = zs.map V.str → ys = zs
  | [], [], _ => rfl
  | [], _ :: _, h => by cases h
  | _ :: _, [], h => by cases h
  | y :: ys, z :: zs, h => by
    injection h with h1 h2
    injection h1 with h1
    rw [h1, strs_inj h2]
theorem wrong_no {ys : List Str} {i : Int} (h : wrongAt (ys.map V.str) i) (n : ys ≠ []) (ok : ∀ y ∈ ys, ansS y = true) : False := by
  rcases h with ⟨e, _⟩ | ⟨j, v, _, e, b, _⟩
  · exact n (List.map_eq_nil_iff.mp e)
  · rw [List.getElem?_map] at e
    cases hz : ys[j]? with
    | none => rw [hz] at e; cases e
    | some z =>
      rw [hz] at e
      cases e
      have := ok z (List.mem_of_getElem? hz)
      have b : ansS z = false := b
      rw [this] at b
      cases b
theorem ans_fit {z : Str} (h : ansS z = true) : z.length ≤ 12 ∧ Asc z := by
  have l := (short_len h).2
  rw [tl_len] at l
  exact ⟨l, fun c hc => signs_asc' c (short_signs h c hc)⟩
theorem ans_fits {ys : List Str} (h : ∀ y ∈ ys, ansS y = true) : FitL ys := fun y hy => ⟨by have := (ans_fit (h y hy)).1; omega, (ans_fit (h y hy)).2⟩
theorem due_non {ws : List Str} {k : Str} {lt : V} (h : dueB ws (.str k) lt = true) : NonS lt ∧ ∀ z, lt = .str z → z ∈ ws := by
  unfold dueB at h
  split at h
  · obtain ⟨z, rfl, hz⟩ := inB_some h
    exact ⟨.inr ⟨z, rfl⟩, fun y e => by cases e; exact hz⟩
  · cases lt <;> first | exact ⟨.inl rfl, fun z e => by cases e⟩ | cases h
theorem NonS.val {p : Addr} {H : Hp} {v : V} (h : NonS v) : Val p H v := by
  rcases h with rfl | ⟨z, rfl⟩ <;> exact .inl rfl
theorem lm_asc : ∀ k ∈ LM, Asc k ∧ k.length ≤ 13 := by
  intro k hk
  simp only [LM, List.mem_cons, List.not_mem_nil, or_false] at hk
  rcases hk with rfl | rfl | rfl <;> exact ⟨.lit (by decide +kernel), by decide⟩
theorem setOf_more {ys zs ks : List Str} (h : SetOfS ys ks) (m : ∀ z, z ∈ zs ↔ z ∈ ys) : SetOfS zs ks := ⟨h.1, h.2.1, fun z => (h.2.2 z).trans (m z).symm⟩
/-- Limit(m, k, a, lt) is made -/
theorem lim_made {CL CI CK CA CM CT : Addr} {K : PySem.W.Frag} {H : Hp} {m t a : Addr} {ws ys ks : List Str} {k : Str} {lt : V} {Q : VK} {E : XK} (hM : Mde CL H m t ws) (hk : k ∈ LM) (due : dueB ws (.str k) lt = true) (hS : SqL K H a (ys.map V.str)) (hn : ys.length ≤ 60) (ny : ys ≠ []) (ok : ∀ y ∈ ys, ansS y = true) (so : SetOfS ys ks) (le : ks.length ≤ 6)
    {p dx : Addr} (hp : H p = none) (hdx : H dx = none) (hne : dx ≠ p) (kq : ∀ H', Same H H' → LimAt K CL CI H' p ws k lt ks → Q .non H') :
    spLim K CL CI CK CA CM CT [.ref p, .ref m, .str k, .ref a, lt] (upd (upd H dx (.own p)) p (.ins CI dx [])) Q E := by
  have sm : Same H (upd (upd H dx (.own p)) p (.ins CI dx [])) := Ask.Same.made1 (Ask.Same.made1 (Same.refl H) hdx) (by rw [upd_ne hne.symm]; exact hp)
  have bk : inB LM (.str k) = true := decide_eq_true hk
  refine ⟨p, dx, m, t, m, a, .str k, lt, ys.map V.str, ws, rfl, upd_same, hM.same sm, .inl rfl, (due_non due).1.val, sm.seq hS, by rw [List.length_map]; exact hn, fun v hv => ?_, fun q => ?_, fun _ => ⟨fun H' d i wr s' e => (wrong_no wr ny ok).elim, fun ys2 ks2 ex ny2 ok2 so2 => ?_⟩⟩
  · obtain ⟨z, hz, rfl⟩ := List.mem_map.mp hv
    exact ⟨.inl rfl, fun y e => by cases e; exact ans_fits ok z hz⟩
  · rw [bk] at q
    cases q
  · have e := strs_inj ex
    subst e
    have e := setOf_one so so2
    subst e
    refine ⟨fun H' d l6 => by omega, fun _ => ⟨fun q => (by rw [due] at q; cases q), fun _ k2 H' t2 ek hk2 e1 e2 kk => ?_⟩⟩
    cases ek
    have s' : Same H H' := Same.made hp hdx fun b o e hb => kk b o hb e
    exact kq H' s' ⟨dx, m, t, t2, e1, hM.same s', e2⟩
theorem setOf_ex (ys : List Str) : ∃ ks, SetOfS ys ks := by
  have h : ∀ i, i ≤ ys.length → ∃ ks, SetOfS (ys.take i) ks := fun i => by
    induction i with
    | zero => intro _; exact ⟨[], by rw [List.take_zero]; exact setOf_nil⟩
    | succ i ih =>
      intro hi
      obtain ⟨ks, hk⟩ := ih (by omega)
      have e : ys[i]? = some ys[i] := List.getElem?_eq_getElem (by omega)
      by_cases m : ys[i] ∈ ks
      · exact ⟨ks, setOf_keep hk e m⟩
      · exact ⟨_, setOf_put hk e m⟩
  obtain ⟨ks, hk⟩ := h ys.length (Nat.le_refl _)
  rw [List.take_length] at hk
  exact ⟨ks, hk⟩
end Ask

namespace Ask
open PySem L2
theorem set_len {ys ks : List Str} (h : SetOfS ys ks) : ks.length ≤ ys.length := sub_len _ _ h.1 fun z hz => (h.2.2 z).mp hz
section
variable {P : Program} {w : World} {K : PySem.W.Frag} {mg : Str → Option Value} {base : Heap}
def spLLim (K : PySem.W.Frag) (CL CI : Addr) : Sp := fun vs H Q _ => ∃ (m t0 t a : Addr) (ws ys : List Str) (k : Str) (oj : Option Nat), vs = [.ref m, .ref t] ∧ Mde CL H m t0 ws ∧ H t = some (.tup [.str k, sdV oj, .ref a]) ∧ SqL K H a (ys.map V.str) ∧ ys ≠ [] ∧ ys.length ≤ 6 ∧ (∀ y ∈ ys, ansS y = true) ∧ k ∈ LM ∧
  (k = "behind" → ∃ j, oj = some j ∧ j < ws.length) ∧ (k ≠ "behind" → oj = none) ∧
  ∀ (H' : Hp) (q : Addr) (ks : List Str), Same H H' → SetOfS ys ks → LimAt K CL CI H' q ws k (ltV ws oj) ks → Q (.ref q) H'

abbrev s__law_limit : Stmt := top 82
theorem sc__law_limit : FnScope ["_law_letters_here", "_law_limit_here", "_law_kind", "_law_letter", "_law_answers"] ["_law_letters_here", "_law_limit_here"] (defScope s__law_limit) := ⟨rfl, rfl, rfl, by decide +kernel, rfl, by decide +kernel, by decide +kernel⟩
theorem ok_llim {f fI CL CI CK CA CM CT : Addr} {u : Value} {fd fdI : FuncData} (F : Fun K "_law_limit" "_law_limit" s__law_limit f fd) (hL0 : Cls K CL) (nW : NoAttr K CL "words")
    (MI : Mk K CI fI) (mI : mg "Limit" = some (.ref CI)) (ru : RelV .non u) (bI0 : Binds K fdI ["self", "letters", "kind", "answers", "letter"] [u]) (bI : Binds K fdI ["self", "letters", "kind", "answers", "letter"] []) (GI : FnOk P w K mg base (L2.CX P w) 5 fI fdI ["self", "letters", "kind", "answers", "letter"] (spLim K CL CI CK CA CM CT)) :
    FnOk P w K mg base CX0 7 f fd ["_law_letters_here", "_law_limit_here"] (spLLim K CL CI) := by
  refine F.ok sc__law_limit (fun vs H Q E h => ?_) (fun cdv A outer s H vs Q E hr h => ?_)
  · obtain ⟨m, t0, t, a, ws, ys, k, oj, rfl, _⟩ := h
    rfl
  · obtain ⟨m, t0, t, a, ws, ys, k, oj, rfl, hM, ht, hS, ny, l6, ok, hk, jb, jn, kq⟩ := h
    have z1 : (100000 : Nat) ≤ sizeLine := by decide
    refine ⟨_, (pss_cons (ps_asg (pv 1) (pg_tup rfl (pgs_cons (pg_name (i := 2) sc__law_limit.nd rfl (Or.inl rfl)) (pgs_cons (pg_name (i := 3) sc__law_limit.nd rfl (Or.inl rfl)) (pgs_cons (pg_name (i := 4) sc__law_limit.nd rfl (Or.inl rfl)) pgs_nil)))))
      (pss_cons (ps_if (pt_cmpR op_isN (pv 3) pe_non (nomark _)) (pss_one (ps_ret (pe_make MI GI hr (by rfl) mI bI0 (.cons ru .nil) passE (pa_cons (pv 0) (pa_cons (pv 2) (pa_cons (pv 4) pa_nil)))))) pss_nil)
      (pss_one (ps_ret (pe_make MI GI hr (by rfl) mI bI .nil passE (pa_cons (pv 0) (pa_cons (pv 2) (pa_cons (pv 4) (pa_cons (pe_ix ix_tup (pe_fld (pv 0) rfl) (pv 3) (fun _ _ => rfl)) pa_nil))))))))), ?_⟩
    obtain ⟨dl, ol, hm, ht0, hol⟩ := id hM
    obtain ⟨ks, so⟩ := setOf_ex ys
    have kl : ks.length ≤ 6 := Nat.le_trans (set_len so) l6
    refine ⟨_, rfl, t, _, rfl, SqT.of ht, rfl, _, _, rfl, _, _, rfl, _, _, rfl, rfl, ?_⟩
    try dsimp only
    refine ⟨_, rfl, rfl, _, rfl, ?_⟩
    cases oj with
    | none =>
      refine iteT ⟨_, rfl, _, rfl, _, rfl, fun x dx hx hdx hne => ?_⟩
      have due : dueB ws (.str k) .non = true := by
        unfold dueB
        rw [if_neg (fun z => by obtain ⟨j, e, _⟩ := jb (V.str.inj z); cases e)]
        rfl
      exact lim_made hM hk due hS (by omega) ny ok so kl hx hdx hne fun H' s1 hl => ⟨rfl, kq H' x ks s1 so hl⟩
    | some j =>
      have kb : k = "behind" := Decidable.byContradiction fun z => by have := jn z; cases this
      obtain ⟨j', e, hj⟩ := jb kb
      cases e
      rw [show decide (sdV (some j) = V.non) = false from decide_eq_false (fun z => nomatch z)]
      refine iteF ?_
      try dsimp only [tNext]
      refine ⟨_, rfl, _, rfl, _, rfl, _, rfl, m, CL, dl, _, _, rfl, hm, hL0, nW, rfl, _, rfl, t0, _, _, .str (ltN ws j), rfl, rfl, .inl (.inr ⟨ol, ht0⟩), at_by (j := j) rfl (by rw [List.getElem?_map, ltN_at hj]; rfl), fun x dx hx hdx hne => ?_⟩
      have due : dueB ws (.str k) (.str (ltN ws j)) = true := by
        unfold dueB
        rw [if_pos (congrArg V.str kb)]
        exact decide_eq_true (List.mem_of_getElem? (ltN_at hj))
      exact lim_made hM hk due hS (by omega) ny ok so kl hx hdx hne fun H' s1 hl => ⟨rfl, kq H' x ks s1 so hl⟩
end
end Ask

namespace Ask
open PySem L2
theorem dg_mem {es : List Ent} {p : Pr} (hd : ∀ e ∈ es, Dg e.1) (hp : Dg p) : p ∈ es.map (·.1) ↔ p.1 ∈ es.map (·.1.1) := by
  constructor
  · intro h
    obtain ⟨e, he, rfl⟩ := List.mem_map.mp h
    exact List.mem_map.mpr ⟨e, he, rfl⟩
  · intro h
    obtain ⟨e, he, e1⟩ := List.mem_map.mp h
    exact List.mem_map.mpr ⟨e, he, Prod.ext e1 ((hd e he).trans (e1.trans hp.symm))⟩
/-- the law's queue, states for pairs -/
def QuI (H : Hp) (qs : List Addr) (es : List Ent) : Prop := qs.length = es.length ∧ ∀ (i : Nat) (q : Addr) (e : Ent), qs[i]? = some q → es[i]? = some e → ∃ w, H q = some (.tup [vN e.1.1, vN e.2.1, .ref w]) ∧ H w = some (.tup (e.2.2.map vN))
theorem QuI.tups {H H' : Hp} {qs : List Addr} {es : List Ent} (h : QuI H qs es) (k : ∀ b xs, H b = some (.tup xs) → H' b = some (.tup xs)) : QuI H' qs es :=
  ⟨h.1, fun i q e a b => let ⟨w, z1, z2⟩ := h.2 i q e a b; ⟨w, k _ _ z1, k _ _ z2⟩⟩
theorem QuI.snoc {H : Hp} {qs : List Addr} {es : List Ent} {q w : Addr} {e : Ent} (h : QuI H qs es) (z1 : H q = some (.tup [vN e.1.1, vN e.2.1, .ref w])) (z2 : H w = some (.tup (e.2.2.map vN))) : QuI H (qs ++ [q]) (es ++ [e]) := by
  refine ⟨by rw [List.length_append, List.length_append, h.1]; rfl, fun i a x h1 h2 => ?_⟩
  by_cases c : i < qs.length
  · rw [List.getElem?_append_left c] at h1
    rw [List.getElem?_append_left (by rw [← h.1]; exact c)] at h2
    exact h.2 i a x h1 h2
  · rw [List.getElem?_append_right (Nat.le_of_not_lt c)] at h1
    rw [List.getElem?_append_right (by rw [← h.1]; exact Nat.le_of_not_lt c), ← h.1] at h2
    cases z : i - qs.length with
    | succ m => rw [z] at h1; simp at h1
    | zero =>
      rw [z] at h1 h2
      obtain rfl : q = a := by simpa using h1
      obtain rfl : e = x := by simpa using h2
      exact ⟨w, z1, z2⟩
def snS (es : List Ent) : List V := (es.map (·.1.1)).map vN
theorem cat_one {K : PySem.W.Frag} {H : Hp} {a b : Addr} {wd : List Nat} {j : Nat} {Q : VK} (ha : H a = some (.tup (wd.map vN))) (hb : H b = some (.tup [vN j])) (hl : wd.length ≤ 10000) (k : ∀ (H' : Hp) (r : Addr), Same H H' → H' r = some (.tup ((wd ++ [j]).map vN)) → Q (.ref r) H') : rCatA K (.ref a) (.ref b) H Q := by
  have z1 : (100000 : Nat) ≤ sizeLine := by decide
  refine ⟨a, b, wd.map vN, [vN j], rfl, rfl, SqT.of ha, SqT.of hb, by rw [List.length_map]; show _ + 1 ≤ _; omega, fun z => ?_, fun _ z => (List.cons_ne_nil _ _ z).elim, fun _ _ p hp => ?_⟩
  · have : wd = [] := List.map_eq_nil_iff.mp z
    subst this
    exact k H b (Same.refl H) hb
  · exact k _ p (Ask.Same.made1 (Same.refl H) hp) (by rw [upd_same, List.map_append]; rfl)
section
variable {P : Program} {w : World} {K : PySem.W.Frag} {mg : Str → Option Value} {base : Heap}
def spFirsts (K : PySem.W.Frag) : Sp := fun vs H Q _ => ∃ (R S0 : Addr) (bs : List Addr) (rs : List (List Nat)) (n1 f1 m : Nat), vs = [.ref R, .ref S0] ∧ H R = some (.lst (bs.map V.ref)) ∧ RowsL H bs rs ∧ RowsOk rs m ∧ rs.length ≤ 9 ∧ m ≤ 12 ∧ n1 < rs.length ∧ f1 < rs.length ∧ H S0 = some (.lst [vN n1, vN f1]) ∧
  ∀ (H' : Hp) (U : Addr) (qs : List Addr) (N : Nat), Same H H' → (bfs (nx1 rs m) (beg0 (n1, n1) (f1, f1)) N).length ≤ N → H' U = some (.lst (qs.map V.ref)) → QuI H' qs (bfs (nx1 rs m) (beg0 (n1, n1) (f1, f1)) N) → Q (.ref U) H'

abbrev s__law_firsts : Stmt := top 84
theorem sc__law_firsts : FnScope ["_law_table", "_law_starts", "_law_got", "_law_seen", "_law_k", "_law_at", "_law_state", "_law_start", "_law_word", "_law_far"] ["_law_table", "_law_starts"] (defScope s__law_firsts) := ⟨rfl, rfl, rfl, by decide +kernel, rfl, by decide +kernel, by decide +kernel⟩
theorem ok_firsts {f : Addr} {fd : FuncData} (F : Fun K "_law_firsts" "_law_firsts" s__law_firsts f fd) (T : Blt mg) : FnOk P w K mg base CX0 1 f fd ["_law_table", "_law_starts"] (spFirsts K) := by
  refine F.ok sc__law_firsts (fun vs H Q E h => ?_) (fun cdv A outer s H vs Q E hr h => ?_)
  · obtain ⟨R, S0, bs, rs, n1, f1, m, rfl, _⟩ := h
    rfl
  · obtain ⟨R, S0, bs, rs, n1, f1, m, rfl, hR, hrow, ok, l9, m12, hn1, hf1, hS0', k⟩ := h
    refine ⟨_, (pss_cons (ps_par (i := 2) (j := 3) rfl sc__law_firsts.nd rfl rfl (by decide) rfl rfl (pa_cons (pe_lst pa_nil) (pa_cons (pe_lst pa_nil) pa_nil)) (by rfl))
      (pss_cons (ps_for PassesOwn.never rfl (pi_range1 rfl T.n_range (pa_cons (pe_callB call_len_seq (by rfl) T.n_len (by decide +kernel) (pa_cons (pv 1) pa_nil)) pa_nil)) (pg_name (i := 4) sc__law_firsts.nd rfl (Or.inl rfl)) (pss_one (ps_if (pt_cmpR op_notIn_seq (pe_ix ix_list (pv 1) (pv 4) (fun _ _ => rfl)) (pv 3) rfl) (pss_cons (ps_expr (pe_bm PySem.F.plainAttrs_list PySem.F.slot_list_append PySem.F.type_list_append mt_append (pv 3) (pa_cons (pe_ix ix_list (pv 1) (pv 4) (fun _ _ => rfl)) pa_nil)))
      (pss_one (ps_expr (pe_bm PySem.F.plainAttrs_list PySem.F.slot_list_append PySem.F.type_list_append mt_append (pv 2) (pa_cons (pe_tup (pa_cons (pe_ix ix_list (pv 1) (pv 4) (fun _ _ => rfl)) (pa_cons (pv 4) (pa_cons (pe_tup pa_nil) pa_nil)))) pa_nil))))) pss_nil)))
      (pss_cons (ps_set (i := 5) sc__law_firsts.nd rfl (Or.inl rfl) pe_int)
      (pss_cons (ps_while PassesOwn.never (pt_cmpR op_lt (pv 5) (pe_callB call_len_seq (by rfl) T.n_len (by decide +kernel) (pa_cons (pv 2) pa_nil)) (nomark _)) (pss_cons (ps_asg (pe_ix ix_list (pv 2) (pv 5) (fun _ _ => rfl)) (pg_tup rfl (pgs_cons (pg_name (i := 6) sc__law_firsts.nd rfl (Or.inl rfl)) (pgs_cons (pg_name (i := 7) sc__law_firsts.nd rfl (Or.inl rfl)) (pgs_cons (pg_name (i := 8) sc__law_firsts.nd rfl (Or.inl rfl)) pgs_nil)))))
      (pss_cons (ps_set (i := 5) sc__law_firsts.nd rfl (Or.inl rfl) (pe_op op_add (pv 5) pe_int))
      (pss_one (ps_for PassesOwn.never rfl (pi_range1 rfl T.n_range (pa_cons (pe_callB call_len_seq (by rfl) T.n_len (by decide +kernel) (pa_cons (pe_ix ix_list (pv 0) (pv 6) (fun _ _ => rfl)) pa_nil)) pa_nil)) (pg_name (i := 4) sc__law_firsts.nd rfl (Or.inl rfl)) (pss_cons (ps_set (i := 9) sc__law_firsts.nd rfl (Or.inl rfl) (pe_ix ix_list (pe_ix ix_list (pv 0) (pv 6) (fun _ _ => rfl)) (pv 4) (fun _ _ => rfl)))
      (pss_one (ps_if (pt_cmpR op_notIn_seq (pv 9) (pv 3) rfl) (pss_cons (ps_expr (pe_bm PySem.F.plainAttrs_list PySem.F.slot_list_append PySem.F.type_list_append mt_append (pv 3) (pa_cons (pv 9) pa_nil)))
      (pss_one (ps_expr (pe_bm PySem.F.plainAttrs_list PySem.F.slot_list_append PySem.F.type_list_append mt_append (pv 2) (pa_cons (pe_tup (pa_cons (pv 9) (pa_cons (pv 7) (pa_cons (pe_op op_catA (pv 8) (pe_tup (pa_cons (pv 4) pa_nil))) pa_nil)))) pa_nil))))) pss_nil))))))))
      (pss_one (ps_ret (pv 2))))))), ?_⟩
    have z1 : (100000 : Nat) ≤ sizeLine := by decide
    refine ⟨Nat.zero_le _, fun U hU => ⟨Nat.zero_le _, fun S hS => ⟨_, _, rfl, ?_⟩⟩⟩
    have sU := Ask.Same.made1 (o := .lst []) (Same.refl H) hU
    have eU : upd H U (.lst []) U = some (.lst []) := upd_same
    have hS0 := sU.free hS
    have US : U ≠ S := ne_of_none eU hS
    generalize upd H U (.lst []) = H1 at sU eU hS US ⊢
    have sS := sU.trans (Ask.Same.made1 (o := .lst []) (Same.refl H1) hS)
    have eS : upd H1 S (.lst []) S = some (.lst []) := upd_same
    have eU2 : upd H1 S (.lst []) U = some (.lst (([] : List Addr).map V.ref)) := by rw [upd_ne US]; exact eU
    generalize upd H1 S (.lst []) = H2 at sS eS eU2 ⊢
    try dsimp only
    have dgB : ∀ i, ∀ e ∈ begI (n1, n1) (f1, f1) i, Dg e.1 := fun i => match i with
      | 0 => fun _ h => nomatch h
      | 1 => fun e h => by rw [List.mem_singleton.mp h]; rfl
      | _ + 2 => beg0_all (P := fun e => Dg e.1) (a := (n1, n1)) (b := (f1, f1)) (Eq.refl n1) (Eq.refl f1)
    refine ⟨_, rfl, S0, _, rfl, .inl (SqL.of (sS _ _ hS0')), 2, rfl, by decide, by decide, ?_⟩
    refine for_range (lo := 0) (n := 2) (fun i σ' H' => ∃ (qs : List Addr) (o4 : Option V), σ' = [some (.ref R), some (.ref S0), some (.ref U), some (.ref S), o4, none, none, none, none, none] ∧ Same H H' ∧ H' U = some (.lst (qs.map V.ref)) ∧ H' S = some (.lst (snS (begI (n1, n1) (f1, f1) i))) ∧
      QuI H' qs (begI (n1, n1) (f1, f1) i)) ⟨[], none, rfl, sS, eU2, eS, rfl, fun i q e h => by simp at h⟩ ?_ ?_
    · rintro i σ' H3 hi ⟨qs, o4, rfl, s3, u3, e3, q3⟩
      obtain ⟨x, hx, hx2, hn⟩ : ∃ x : Nat, [vN n1, vN f1][i]? = some (vN x) ∧ True ∧ begI (n1, n1) (f1, f1) (i + 1) = addE (begI (n1, n1) (f1, f1) i) (x, x) (i, []) := by
        match i, hi with
        | 0, _ => exact ⟨n1, rfl, trivial, by show [((n1, n1), (0, []))] = addE [] (n1, n1) (0, []); unfold addE; rw [if_neg (fun z => nomatch z)]; rfl⟩
        | 1, _ => exact ⟨f1, rfl, trivial, rfl⟩
      have hi0 : (0 + (i : Int)) = ((i : Nat) : Int) := Int.zero_add _
      have lt2 : (begI (n1, n1) (f1, f1) i).length ≤ 2 := match i, hi with
        | 0, _ => Nat.zero_le _
        | 1, _ => Nat.le_succ _
      have dg := dgB i
      have ixS : ∀ H', Same H H' → H' S0 = some (.lst [vN n1, vN f1]) := fun H' s => s _ _ hS0'
      generalize begI (n1, n1) (f1, f1) i = es at *
      try dsimp only
      refine ⟨_, rfl, _, rfl, S0, _, _, vN x, rfl, rfl, SqL.of (ixS _ s3), at_by (j := i) hi0 hx, ?_⟩
      refine ⟨_, rfl, S, snS es, rfl, .inl (SqL.of e3), rfl, by unfold snS; rw [List.all_map]; exact List.all_eq_true.mpr fun _ _ => rfl, _, rfl, ?_⟩
      rw [show (if true = true then !inV (vN x) (snS es) else inV (vN x) (snS es)) = !decide ((x, x) ∈ es.map (·.1)) from by rw [if_pos rfl]; unfold snS; rw [inV_nats]; congr 1; exact decide_eq_decide.mpr (dg_mem (p := (x, x)) dg (Eq.refl x)).symm]
      by_cases hm : (x, x) ∈ es.map (·.1)
      · rw [decide_eq_true hm]
        refine iteF ⟨qs, _, rfl, s3, u3, ?_, ?_⟩
        · rw [hn, addE, if_pos hm]
          exact e3
        · rw [hn, addE, if_pos hm]
          exact q3
      · rw [decide_eq_false hm]
        refine iteT ?_
        refine ⟨_, rfl, .inl ⟨rfl, _, SqL.of e3⟩, _, rfl, _, rfl, S0, _, _, vN x, rfl, rfl, SqL.of (ixS _ s3), at_by (j := i) hi0 hx, S, _, _, rfl, rfl, e3, by unfold snS; rw [List.length_map, List.length_map]; omega, ?_⟩
        have o5' : ∀ {b xs}, H3 b = some (.tup xs) → upd H3 S (.lst (snS es ++ [vN x])) b = some (.tup xs) := fun e => by rw [upd_ne (ne_of e e3 (fun z => nomatch z))]; exact e
        have s5 := Ask.Same.upd_new (o := .lst (snS es ++ [vN x])) s3 hS0
        have e5 : upd H3 S (.lst (snS es ++ [vN x])) S = some (.lst (snS (es ++ [((x, x), (i, []))]))) := by rw [upd_same]; unfold snS; rw [List.map_append, List.map_append]; rfl
        have u5 : upd H3 S (.lst (snS es ++ [vN x])) U = some (.lst (qs.map V.ref)) := by rw [upd_ne US]; exact u3
        have q5 := q3.tups (fun b xs e => o5' e)
        generalize upd H3 S (.lst (snS es ++ [vN x])) = H5 at s5 e5 u5 q5 ⊢
        refine ⟨_, rfl, .inl ⟨rfl, _, SqL.of u5⟩, _, rfl, _, rfl, S0, _, _, vN x, rfl, rfl, SqL.of (ixS _ s5), at_by (j := i) hi0 hx, _, rfl, Nat.zero_le _, fun w hw => ?_⟩
        have s6 := Ask.Same.made1 (o := .tup []) (Same.refl H5) hw
        have fw : upd H5 w (.tup []) w = some (.tup (([] : List Nat).map vN)) := upd_same
        generalize upd H5 w (.tup []) = H6 at s6 fw ⊢
        refine ⟨by show 3 ≤ sizeLine; omega, fun q hq => ?_⟩
        have s7 := Ask.Same.made1 (o := .tup [vN x, .int (0 + (i : Int)), .ref w]) (Same.refl H6) hq
        have fq : upd H6 q (.tup [vN x, .int (0 + (i : Int)), .ref w]) q = some (.tup [vN x, vN i, .ref w]) := by rw [upd_same, hi0]
        generalize upd H6 q (.tup [vN x, .int (0 + (i : Int)), .ref w]) = H7 at s7 fq ⊢
        have s57 := s6.trans s7
        have u7 := s57 _ _ u5
        refine ⟨U, _, _, rfl, rfl, u7, by rw [List.length_map, q5.1]; omega, ?_⟩
        have o8 : ∀ {b xs}, H7 b = some (.tup xs) → upd H7 U (.lst (qs.map V.ref ++ [.ref q])) b = some (.tup xs) := fun e => by rw [upd_ne (ne_of e u7 (fun z => nomatch z))]; exact e
        refine ⟨qs ++ [q], _, rfl, Ask.Same.upd_new (s5.trans s57) hU, by rw [upd_same, List.map_append]; rfl, ?_, ?_⟩
        · rw [hn, addE, if_neg hm, upd_ne US.symm]
          exact s57 _ _ e5
        · rw [hn, addE, if_neg hm]
          exact ((q5.tups (same_tups s57)).snoc (e := ((x, x), (i, []))) fq (s7 _ _ fw)).tups (fun b xs e => o8 e)
    rintro σ' H3 ⟨qs, o4, rfl, s3, u3, e3, q3⟩
    try dsimp only
    have inR := fun N => nx1_all (N := N) ok (by omega : m ≤ 1000) hn1 hf1
    have l81 : rs.length * rs.length ≤ 81 := Nat.mul_le_mul l9 l9
    have bnd : ∀ n, (bfs (nx1 rs m) (beg0 (n1, n1) (f1, f1)) n).length ≤ 81 := fun n => Nat.le_trans (ents_le (M := rs.length) (N := rs.length) (bfs_nd (beg0_nd _ _) n) fun e he => ⟨(inR n e he).1, by rw [(inR n e he).2]; exact (inR n e he).1⟩) l81
    refine ⟨fun mm σ' H' => ∃ (n : Nat) (qs : List Addr) (o4 o6 o7 o8 o9 : Option V), mm = 82 - n ∧ σ' = [some (.ref R), some (.ref S0), some (.ref U), some (.ref S), o4, some (vN n), o6, o7, o8, o9] ∧ Same H H' ∧ H' U = some (.lst (qs.map V.ref)) ∧ H' S = some (.lst (snS (bfs (nx1 rs m) (beg0 (n1, n1) (f1, f1)) n))) ∧
      QuI H' qs (bfs (nx1 rs m) (beg0 (n1, n1) (f1, f1)) n) ∧ n ≤ (bfs (nx1 rs m) (beg0 (n1, n1) (f1, f1)) n).length,
      ⟨_, 0, qs, _, none, none, none, none, rfl, rfl, s3, u3, e3, q3, Nat.zero_le _⟩, ?_⟩
    rintro mm σ' H4 ⟨n, qs, o4, o6, o7, o8, o9, rfl, rfl, s4, u4, e4, q4, nle⟩
    have lq : qs.length = (bfs (nx1 rs m) (beg0 (n1, n1) (f1, f1)) n).length := q4.1
    have lb := bnd n
    refine ⟨_, rfl, _, rfl, U, _, rfl, .inl (SqL.of u4), _, _, rfl, rfl, _, rfl, ?_⟩
    rw [List.length_map]
    by_cases lt : n < qs.length
    · rw [decide_eq_true (show (n : Int) < (qs.length : Nat) by omega)]
      refine iteT ⟨_, fun σ' H' h => h, ?_⟩
      obtain ⟨e, he⟩ : ∃ e, (bfs (nx1 rs m) (beg0 (n1, n1) (f1, f1)) n)[n]? = some e := ⟨_, List.getElem?_eq_getElem (by rw [← lq]; exact lt)⟩
      obtain ⟨q, hq⟩ : ∃ q, qs[n]? = some q := ⟨_, List.getElem?_eq_getElem lt⟩
      obtain ⟨w, fq, fw⟩ := q4.2 n q e hq he
      obtain ⟨ea, ed⟩ := inR n e (List.mem_of_getElem? he)
      have wl := bfs_wl n e (List.mem_of_getElem? he)
      refine ⟨_, rfl, _, rfl, U, _, _, .ref q, rfl, rfl, SqL.of u4, at_by (j := n) rfl (by rw [List.getElem?_map, hq]; rfl), q, _, rfl, SqT.of fq, rfl, _, _, rfl, _, _, rfl, _, _, rfl, rfl, ?_⟩
      try dsimp only
      refine ⟨_, rfl, _, _, rfl, rfl, ?_⟩
      try dsimp only
      obtain ⟨c1, hc1⟩ : ∃ b, bs[e.1.1]? = some b := ⟨_, List.getElem?_eq_getElem (by rw [hrow.1]; exact ea)⟩
      obtain ⟨r1, e1, l1, x1⟩ := ok.row ea
      have rowAt : ∀ H', Same H H' → H' c1 = some (.lst (r1.map vN)) := fun H' s' => s' _ _ (hrow.2 _ c1 r1 hc1 e1)
      refine ⟨_, rfl, _, rfl, R, _, _, .ref c1, rfl, rfl, SqL.of (s4 _ _ hR), at_by (j := e.1.1) rfl (by rw [List.getElem?_map, hc1]; rfl), c1, _, rfl, .inl (SqL.of (rowAt _ s4)), _, rfl, by rw [List.length_map]; omega, by rw [List.length_map]; omega, ?_⟩
      rw [List.length_map, l1]
      refine for_range (lo := 0) (n := (m : Int).toNat) (fun i σ' H' => ∃ (qs : List Addr) (o4 o9 : Option V), σ' = [some (.ref R), some (.ref S0), some (.ref U), some (.ref S), o4, some (.int ((n : Int) + 1)), some (vN e.1.1), some (vN e.2.1), some (.ref w), o9] ∧ Same H H' ∧ H' U = some (.lst (qs.map V.ref)) ∧ H' S = some (.lst (snS (expJ (nx1 rs m e.1) e.2.1 e.2.2 i (bfs (nx1 rs m) (beg0 (n1, n1) (f1, f1)) n)))) ∧
        QuI H' qs (expJ (nx1 rs m e.1) e.2.1 e.2.2 i (bfs (nx1 rs m) (beg0 (n1, n1) (f1, f1)) n)) ∧ H' w = some (.tup (e.2.2.map vN))) ⟨qs, _, _, rfl, s4, u4, e4, q4, fw⟩ ?_ ?_
      · rintro i σ' H5 hi ⟨qs, o4, o9, rfl, s5, u5, e5, q5, fw5⟩
        have hi0 : (0 + (i : Int)) = ((i : Nat) : Int) := Int.zero_add _
        have im : i < m := by omega
        refine ⟨_, rfl, _, rfl, R, _, _, .ref c1, rfl, rfl, SqL.of (s5 _ _ hR), at_by (j := e.1.1) rfl (by rw [List.getElem?_map, hc1]; rfl), _, rfl, c1, _, _, vN (mvN rs i e.1.1), rfl, rfl, SqL.of (rowAt _ s5), at_by (j := i) hi0 (by rw [List.getElem?_map, x1 i im]; rfl), ?_⟩
        have tn : (nx1 rs m e.1)[i]? = some (mvN rs i e.1.1, mvN rs i e.1.2) := nxP_at.mpr ⟨im, rfl⟩
        rw [show mvN rs i e.1.2 = mvN rs i e.1.1 from by rw [ed]] at tn
        have dgI : ∀ y ∈ expJ (nx1 rs m e.1) e.2.1 e.2.2 i (bfs (nx1 rs m) (beg0 (n1, n1) (f1, f1)) n), Dg y.1 := expJ_all (P := fun e => Dg e.1) (fun j t ht => ((nx1_in ok (by omega) e.1 ⟨ea, ed⟩).2 t (List.mem_of_getElem? ht)).2) i _ (fun y hy => (inR n y hy).2)
        generalize mvN rs i e.1.1 = x at *
        have es1 : expJ (nx1 rs m e.1) e.2.1 e.2.2 (i + 1) (bfs (nx1 rs m) (beg0 (n1, n1) (f1, f1)) n) = addE (expJ (nx1 rs m e.1) e.2.1 e.2.2 i (bfs (nx1 rs m) (beg0 (n1, n1) (f1, f1)) n)) (x, x) (e.2.1, e.2.2 ++ [i]) := by
          rw [expJ, tn]
        have lei : (expJ (nx1 rs m e.1) e.2.1 e.2.2 i (bfs (nx1 rs m) (beg0 (n1, n1) (f1, f1)) n)).length ≤ 100 := by
          have a : ∀ j (es : List Ent), (expJ (nx1 rs m e.1) e.2.1 e.2.2 j es).length ≤ es.length + j := fun j es => by
            induction j with
            | zero => exact Nat.le_refl _
            | succ j ih =>
              rw [expJ]
              split
              · unfold addE
                split
                · omega
                · rw [List.length_append]; show _ + 1 ≤ _; omega
              · omega
          have := a i (bfs (nx1 rs m) (beg0 (n1, n1) (f1, f1)) n)
          omega
        generalize expJ (nx1 rs m e.1) e.2.1 e.2.2 i (bfs (nx1 rs m) (beg0 (n1, n1) (f1, f1)) n) = es at *
        try dsimp only
        refine ⟨_, rfl, _, rfl, S, snS es, rfl, .inl (SqL.of e5), rfl, by unfold snS; rw [List.all_map]; exact List.all_eq_true.mpr fun _ _ => rfl, _, rfl, ?_⟩
        rw [show (if true = true then !inV (vN x) (snS es) else inV (vN x) (snS es)) = !decide ((x, x) ∈ es.map (·.1)) from by rw [if_pos rfl]; unfold snS; rw [inV_nats]; congr 1; exact decide_eq_decide.mpr (dg_mem (p := (x, x)) dgI (Eq.refl x)).symm]
        by_cases hm : (x, x) ∈ es.map (·.1)
        · rw [decide_eq_true hm]
          refine iteF ⟨qs, _, _, rfl, s5, u5, ?_, ?_, fw5⟩
          · rw [es1, addE, if_pos hm]
            exact e5
          · rw [es1, addE, if_pos hm]
            exact q5
        · rw [decide_eq_false hm]
          refine iteT ?_
          refine ⟨_, rfl, .inl ⟨rfl, _, SqL.of e5⟩, _, rfl, S, _, _, rfl, rfl, e5, by unfold snS; rw [List.length_map, List.length_map]; omega, ?_⟩
          have o7 : ∀ {b xs}, H5 b = some (.tup xs) → upd H5 S (.lst (snS es ++ [vN x])) b = some (.tup xs) := fun e => by rw [upd_ne (ne_of e e5 (fun z => nomatch z))]; exact e
          have s7 := Ask.Same.upd_new (o := .lst (snS es ++ [vN x])) s5 hS0
          have e7 : upd H5 S (.lst (snS es ++ [vN x])) S = some (.lst (snS (es ++ [((x, x), (e.2.1, e.2.2 ++ [i]))]))) := by rw [upd_same]; unfold snS; rw [List.map_append, List.map_append]; rfl
          have u7 : upd H5 S (.lst (snS es ++ [vN x])) U = some (.lst (qs.map V.ref)) := by rw [upd_ne US]; exact u5
          have q7 := q5.tups (fun b xs e => o7 e)
          have fw7 := o7 fw5
          generalize upd H5 S (.lst (snS es ++ [vN x])) = H7 at s7 e7 u7 q7 fw7 ⊢
          refine ⟨_, rfl, .inl ⟨rfl, _, SqL.of u7⟩, _, rfl, _, rfl, _, rfl, _, rfl, by show 1 ≤ sizeLine; omega, fun g hg => ?_⟩
          have s8 := Ask.Same.made1 (o := .tup [V.int (0 + (i : Int))]) (Same.refl H7) hg
          have fg : upd H7 g (.tup [V.int (0 + (i : Int))]) g = some (.tup [vN i]) := by rw [upd_same, hi0]
          generalize upd H7 g (.tup [V.int (0 + (i : Int))]) = H8 at s8 fg ⊢
          refine cat_one (s8 _ _ fw7) fg (by omega) fun H9 w' s9 hw' => ?_
          have s79 := s8.trans s9
          refine ⟨by show 3 ≤ sizeLine; omega, fun q' hq' => ?_⟩
          have sA := Ask.Same.made1 (o := .tup [vN x, vN e.2.1, .ref w']) (Same.refl H9) hq'
          have fA : upd H9 q' (.tup [vN x, vN e.2.1, .ref w']) q' = some (.tup [vN x, vN e.2.1, .ref w']) := upd_same
          generalize upd H9 q' (.tup [vN x, vN e.2.1, .ref w']) = HA at sA fA ⊢
          have s7A := s79.trans sA
          have uA := s7A _ _ u7
          refine ⟨U, _, _, rfl, rfl, uA, by rw [List.length_map, q7.1]; omega, ?_⟩
          have oB : ∀ {b xs}, HA b = some (.tup xs) → upd HA U (.lst (qs.map V.ref ++ [.ref q'])) b = some (.tup xs) := fun e => by rw [upd_ne (ne_of e uA (fun z => nomatch z))]; exact e
          refine ⟨qs ++ [q'], _, _, rfl, Ask.Same.upd_new (s7.trans s7A) hU, by rw [upd_same, List.map_append]; rfl, ?_, ?_, oB (s7A _ _ fw7)⟩
          · rw [es1, addE, if_neg hm, upd_ne US.symm]
            exact s7A _ _ e7
          · rw [es1, addE, if_neg hm]
            exact ((q7.tups (same_tups s7A)).snoc (e := ((x, x), (e.2.1, e.2.2 ++ [i]))) fA (sA _ _ hw')).tups (fun b xs e => oB e)
      · rintro σ' H5 ⟨qs, o4, o9, rfl, s5, u5, e5, q5, fw5⟩
        have nxt : bfs (nx1 rs m) (beg0 (n1, n1) (f1, f1)) (n + 1) = expJ (nx1 rs m e.1) e.2.1 e.2.2 (m : Int).toNat (bfs (nx1 rs m) (beg0 (n1, n1) (f1, f1)) n) := by
          rw [bfs, he, Int.toNat_natCast]
          show expJ (nx1 rs m e.1) e.2.1 e.2.2 (nxP rs rs m e.1).length _ = _
          rw [nxP_len]
        try dsimp only
        refine ⟨_, ?_, n + 1, qs, _, _, _, _, _, rfl, rfl, s5, u5, ?_, ?_, ?_⟩
        · omega
        · rw [nxt]
          exact e5
        · rw [nxt]
          exact q5
        · rw [nxt]
          obtain ⟨r, hr'⟩ := expJ_pre (nx1 rs m e.1) e.2.1 e.2.2 (m : Int).toNat (bfs (nx1 rs m) (beg0 (n1, n1) (f1, f1)) n)
          rw [hr', List.length_append]
          omega
    · rw [decide_eq_false (show ¬ (n : Int) < (qs.length : Nat) by omega)]
      refine iteF ?_
      try dsimp only
      exact ⟨_, rfl, k H4 U qs n s4 (by omega) u4 q4⟩
end
end Ask

namespace Ask
open PySem L2
def sdlN (k : Str) (a : Nat) (ob : Option Nat) : List Nat := if k ∈ (["idle", "still", "alike"] : List Str) then [a] else [a, ob.getD 0]
def sdrN (k : Str) (a : Nat) (ob : Option Nat) : List Nat := if k = "kept" then [a] else if k = "over" then [ob.getD 0] else if k = "alike" then [ob.getD 0] else []
theorem sdl_n {m : Nat} {k : Str} {a : Nat} {ob : Option Nat} (h : SaidOk m k a ob) : sdLn k a ob = (sdlN k a ob).map vN ∧ ∀ x ∈ sdlN k a ob, x < m := by
  unfold sdLn sdlN
  by_cases c : k ∈ (["idle", "still", "alike"] : List Str)
  · rw [if_pos c, if_pos c]
    exact ⟨rfl, fun x hx => by rw [List.mem_singleton.mp hx]; exact h.al⟩
  · rw [if_neg c, if_neg c]
    have l : k ∉ LK := fun z => c (by
      have z' : k ∈ (["idle", "still"] : List Str) := z
      simp only [List.mem_cons, List.not_mem_nil, or_false] at z' ⊢
      exact z'.elim .inl fun z => .inr (.inl z))
    obtain ⟨b, rfl, hb, _⟩ := h.ne l
    refine ⟨rfl, fun x hx => ?_⟩
    simp only [List.mem_cons, List.not_mem_nil, or_false] at hx
    rcases hx with rfl | rfl
    · exact h.al
    · exact hb
theorem sdr_n {m : Nat} {k : Str} {a : Nat} {ob : Option Nat} (h : SaidOk m k a ob) : sdRn k a ob = (sdrN k a ob).map vN ∧ ∀ x ∈ sdrN k a ob, x < m := by
  unfold sdRn sdrN
  by_cases c1 : k = "kept"
  · rw [if_pos c1, if_pos c1]
    exact ⟨rfl, fun x hx => by rw [List.mem_singleton.mp hx]; exact h.al⟩
  rw [if_neg c1, if_neg c1]
  by_cases c2 : k = "over"
  · obtain ⟨b, rfl, hb, _⟩ := h.ne (by rw [c2]; decide)
    rw [if_pos c2, if_pos c2]
    exact ⟨rfl, fun x hx => by rw [List.mem_singleton.mp hx]; exact hb⟩
  rw [if_neg c2, if_neg c2]
  by_cases c3 : k = "alike"
  · obtain ⟨b, rfl, hb, _⟩ := h.ne (by rw [c3]; decide)
    rw [if_pos c3, if_pos c3]
    exact ⟨rfl, fun x hx => by rw [List.mem_singleton.mp hx]; exact hb⟩
  rw [if_neg c3, if_neg c3]
  exact ⟨rfl, fun x hx => nomatch hx⟩
def sdG (rs : List (List Nat)) (k : Str) (L R : List Nat) (e : Ent) : Bool := (decide (k ≠ "still") || (decide (e.2.1 = 0) && decide (e.2.2 = []))) && !decide (walkN rs e.1.1 L = walkN rs e.1.1 R)
def DueT (H : Hp) (es : List Ent) (v : V) : Prop := (es = [] ∧ v = .non) ∨ ∃ (e : Ent) (t w : Addr), es.head? = some e ∧ v = .ref t ∧ H t = some (.tup [vN e.2.1, .ref w]) ∧ H w = some (.tup (e.2.2.map vN))
theorem ifS_R {c : TT} {t v : TS} {D : Ends} {σ : L2.St} {H : Hp} (R : Bool → Hp → Prop) (h : ∀ Q : Bool → Hp → Prop, (∀ b H', R b H' → Q b H') → c σ H Q) (k : ∀ b H', R b H' → if b = true then t D σ H' else v D σ H') : tIfS c t v D σ H := h _ k
def ndD (n : Nat) : PyData := .int (n : Int)
theorem shaped_nats (ks : List Nat) : SeqAt.shaped (.tuple (ks.map ndD)) = true := by
  have h : PyData.canLayAll0 (ks.map ndD) = true ∧ PyData.depthAll (ks.map ndD) ≤ 0 := by
    induction ks with
    | nil => exact ⟨rfl, Nat.zero_le _⟩
    | cons k ks ih =>
      refine ⟨?_, Nat.max_le.mpr ⟨?_, ih.2⟩⟩
      · show (PyData.canLay0 (ndD k) && PyData.canLayAll0 (ks.map ndD)) = true
        rw [ih.1]
        rfl
      · exact Nat.le_refl _
  exact shaped_of h.1 (by show PyData.depthAll _ + 1 ≤ 64; have := h.2; omega)
theorem eqv_nilN (ks : List Nat) : PyData.eqv (.tuple (ks.map ndD)) (.tuple []) = decide (ks = []) := by
  cases ks with
  | nil => rfl
  | cons k ks => rw [decide_eq_false (fun z => nomatch z)]; rfl
theorem dp_natsN {K : PySem.W.Frag} {H : Hp} : ∀ ks : List Nat, DpAll K H (ks.map vN) (ks.map ndD)
  | [] => .nil
  | k :: ks => .cons (.int _) (dp_natsN ks)
section
variable {P : Program} {w : World} {K : PySem.W.Frag} {mg : Str → Option Value} {base : Heap}
def spSDue (K : PySem.W.Frag) : Sp := fun vs H Q _ => ∃ (R S0 t : Addr) (bs : List Addr) (rs : List (List Nat)) (n1 f1 m : Nat) (k : Str) (a : Nat) (ob : Option Nat), vs = [.ref R, .ref S0, .ref t] ∧ H R = some (.lst (bs.map V.ref)) ∧ RowsL H bs rs ∧ RowsOk rs m ∧ rs.length ≤ 9 ∧ m ≤ 12 ∧ n1 < rs.length ∧ f1 < rs.length ∧ H S0 = some (.lst [vN n1, vN f1]) ∧
  H t = some (.tup [.str k, vN a, sdV ob]) ∧ SaidOk m k a ob ∧
  ∀ (H' : Hp) (v : V) (N : Nat), Same H H' → (bfs (nx1 rs m) (beg0 (n1, n1) (f1, f1)) N).length ≤ N → DueT H' ((bfs (nx1 rs m) (beg0 (n1, n1) (f1, f1)) N).filter (sdG rs k (sdlN k a ob) (sdrN k a ob))) v → Q v H'

abbrev s__law_state_due : Stmt := top 89
theorem sc__law_state_due : FnScope ["_law_rows", "_law_starts", "_law_said", "_law_beginning", "_law_left", "_law_right", "_law_state", "_law_k", "_law_word"] ["_law_rows", "_law_starts", "_law_said"] (defScope s__law_state_due) := ⟨rfl, rfl, rfl, by decide +kernel, rfl, by decide +kernel, by decide +kernel⟩
theorem ok_sdue {f fS fF fL : Addr} {fd fdS fdF fdL : FuncData} (F : Fun K "_law_state_due" "_law_state_due" s__law_state_due f fd)
    (G__law_sides : FnOk P w K mg base CX0 1 fS fdS ["_law_said"] (spLSd K)) (A__law_sides : At K mg "_law_sides" fS fdS ["_law_said"])
    (G__law_firsts : FnOk P w K mg base CX0 1 fF fdF ["_law_table", "_law_starts"] (spFirsts K)) (A__law_firsts : At K mg "_law_firsts" fF fdF ["_law_table", "_law_starts"])
    (G__law_led : FnOk P w K mg base CX0 1 fL fdL ["_law_machine_here", "_law_state", "_law_word"] (spLed K)) (A__law_led : At K mg "_law_led" fL fdL ["_law_machine_here", "_law_state", "_law_word"]) :
    FnOk P w K mg base CX0 2 f fd ["_law_rows", "_law_starts", "_law_said"] (spSDue K) := by
  refine F.ok sc__law_state_due (fun vs H Q E h => ?_) (fun cdv A outer s H vs Q E hr h => ?_)
  · obtain ⟨R, S0, t, bs, rs, n1, f1, m, k, a, ob, rfl, _⟩ := h
    rfl
  · obtain ⟨R, S0, t, bs, rs, n1, f1, m, k, a, ob, rfl, hR, hrow, ok, l9, m12, hn1, hf1, hS0', ht, so, kq⟩ := h
    have h__law_sides := hr.mono (j := 1) (by decide)
    have h__law_firsts := hr.mono (j := 1) (by decide)
    have h__law_led := hr.mono (j := 1) (by decide)
    have z1 : (100000 : Nat) ≤ sizeLine := by decide
    refine ⟨_, (pss_cons (ps_asg (pe_call G__law_sides (by exact h__law_sides) (by rfl) A__law_sides.m A__law_sides.k A__law_sides.b .nil pass0 (pa_cons (pv 2) pa_nil)) (pg_tup rfl (pgs_cons (pg_name (i := 3) sc__law_state_due.nd rfl (Or.inl rfl)) (pgs_cons (pg_name (i := 4) sc__law_state_due.nd rfl (Or.inl rfl)) (pgs_cons (pg_name (i := 5) sc__law_state_due.nd rfl (Or.inl rfl)) pgs_nil)))))
      (pss_cons (ps_for PassesOwn.never rfl (pi_list (pe_call G__law_firsts (by exact h__law_firsts) (by rfl) A__law_firsts.m A__law_firsts.k A__law_firsts.b .nil pass0 (pa_cons (pv 0) (pa_cons (pv 1) pa_nil)))) (pg_tup rfl (pgs_cons (pg_name (i := 6) sc__law_state_due.nd rfl (Or.inl rfl)) (pgs_cons (pg_name (i := 7) sc__law_state_due.nd rfl (Or.inl rfl)) (pgs_cons (pg_name (i := 8) sc__law_state_due.nd rfl (Or.inl rfl)) pgs_nil)))) (pss_one (ps_if (PW.pt (pw_or (pt_cmpR op_eq (pv 3) pe_str (nomark _)) (pw_or1 (PW.pt (pw_and (pt_cmpR op_eq (pv 7) pe_int (nomark _)) (pw_and1 (pt_cmpR (op_eqD hr.units) (pv 8) (pe_tup pa_nil) (nomark _)))))))) (pss_one (ps_if (pt_cmpR op_ne (pe_call G__law_led (by exact h__law_led) (by rfl) A__law_led.m A__law_led.k A__law_led.b .nil pass0 (pa_cons (pe_tup (pa_cons (pv 0) (pa_cons (pe_lst pa_nil) pa_nil))) (pa_cons (pv 6) (pa_cons (pv 4) pa_nil)))) (pe_call G__law_led (by exact h__law_led) (by rfl) A__law_led.m A__law_led.k A__law_led.b .nil pass0 (pa_cons (pe_tup (pa_cons (pv 0) (pa_cons (pe_lst pa_nil) pa_nil))) (pa_cons (pv 6) (pa_cons (pv 5) pa_nil)))) (nomark _)) (pss_one (ps_ret (pe_tup (pa_cons (pv 7) (pa_cons (pv 8) pa_nil))))) pss_nil)) pss_nil)))
      (pss_one (ps_ret pe_non)))), ?_⟩
    obtain ⟨eL, inL⟩ := sdl_n so
    obtain ⟨eR, inR'⟩ := sdr_n so
    refine ⟨_, rfl, t, k, a, ob, rfl, ht, fun H1 r l0 r0 s1 hr1 hl1 hr0 => ?_⟩
    rw [eL] at hl1
    rw [eR] at hr0
    refine ⟨r, _, rfl, SqT.of hr1, rfl, _, _, rfl, _, _, rfl, _, _, rfl, rfl, ?_⟩
    try dsimp only
    refine ⟨_, rfl, _, rfl, R, S0, bs, rs, n1, f1, m, rfl, s1 _ _ hR, hrow.lsts fun b xs _ e => s1 _ _ e, ok, l9, m12, hn1, hf1, s1 _ _ hS0', fun H2 U qs N s2 cl hU hq => ?_⟩
    have s12 := s1.trans s2
    have inR := nx1_all (N := N) ok (by omega : m ≤ 1000) hn1 hf1
    have wlN := bfs_wl (nx := nx1 rs m) (a := (n1, n1)) (b := (f1, f1)) N
    replace kq := fun H' v a b => kq H' v N a cl b
    generalize bfs (nx1 rs m) (beg0 (n1, n1) (f1, f1)) N = es at *
    refine ⟨U, rfl, ⟨_, SqL.of hU⟩, ?_⟩
    refine for_it (walk_list (xs := qs.map V.ref)) (fun i σ' H' => ∃ o6 o7 o8 : Option V, σ' = [some (.ref R), some (.ref S0), some (.ref t), some (.str (if k = "still" then "new" else "found")), some (.ref l0), some (.ref r0), o6, o7, o8] ∧ Same H2 H' ∧ (es.take i).filter (sdG rs k (sdlN k a ob) (sdrN k a ob)) = []) ⟨none, none, none, rfl, Same.refl _, rfl⟩ (fun i σ' H' _ ⟨_, _, _, _, s', _⟩ => SqL.of (s' _ _ hU)) ?_ ?_
    · rintro i v σ' H3 H4 hi ⟨o6, o7, o8, rfl, s3, no⟩ ⟨rfl, hv⟩
      rw [List.length_map] at hi
      obtain ⟨q, hq'⟩ : ∃ q, qs[i]? = some q := ⟨_, List.getElem?_eq_getElem hi⟩
      obtain rfl : v = .ref q := by
        rw [List.getElem?_map, hq'] at hv
        exact (Option.some.inj hv).symm
      obtain ⟨e, he⟩ : ∃ e, es[i]? = some e := ⟨_, List.getElem?_eq_getElem (by rw [← hq.1]; exact hi)⟩
      obtain ⟨w, fq, fw⟩ := hq.2 i q e hq' he
      have em := List.mem_of_getElem? he
      have tk : es.take (i + 1) = es.take i ++ [e] := by rw [List.take_add_one, he]; rfl
      refine ⟨q, _, rfl, SqT.of (s3 _ _ fq), rfl, _, _, rfl, _, _, rfl, _, _, rfl, rfl, ?_⟩
      try dsimp only
      refine ifS_R (fun b H' => Same H4 H' ∧ b = (decide (k ≠ "still") || (decide (e.2.1 = 0) && decide (e.2.2 = [])))) (fun Q' hQ => ?_) ?_
      · by_cases st : k = "still"
        · rw [show (decide (k ≠ "still") || (decide (e.2.1 = 0) && decide (e.2.2 = []))) = (decide (e.2.1 = 0) && decide (e.2.2 = [])) from by rw [decide_eq_false (fun z => z st), Bool.false_or]] at hQ
          refine ⟨_, rfl, rfl, _, rfl, ?_⟩
          rw [show decide (V.str (if k = "still" then "new" else "found") = V.str "found") = false from decide_eq_false (fun z => by rw [if_pos st] at z; exact absurd (V.str.inj z) (by decide))]
          refine iteF ⟨_, rfl, rfl, _, rfl, ?_⟩
          by_cases z0 : e.2.1 = 0
          · rw [show decide (vN e.2.1 = V.int 0) = true from decide_eq_true (by rw [z0]; rfl)]
            refine iteT ⟨_, rfl, Nat.zero_le _, fun u hu => ?_⟩
            have su := Ask.Same.made1 (o := .tup []) (Same.refl H4) hu
            refine ⟨.tuple (e.2.2.map ndD), .tuple [], .tup (SqT.of (su _ _ (s3 _ _ fw))) (dp_natsN _), .tup (SqT.of upd_same) .nil, ?_, by rfl, _, rfl, ?_⟩
            · exact shaped_nats _
            · rw [eqv_nilN]
              exact hQ _ _ ⟨su, by rw [decide_eq_true z0, Bool.true_and]⟩
          · rw [show decide (vN e.2.1 = V.int 0) = false from decide_eq_false (fun z => z0 (by have := V.int.inj z; omega))]
            exact iteF (hQ _ _ ⟨Same.refl _, by rw [decide_eq_false z0, Bool.false_and]⟩)
        · refine ⟨_, rfl, rfl, _, rfl, ?_⟩
          rw [show decide (V.str (if k = "still" then "new" else "found") = V.str "found") = true from decide_eq_true (by rw [if_neg st])]
          exact iteT (hQ _ _ ⟨Same.refl _, by rw [decide_eq_true st, Bool.true_or]⟩)
      rintro b H5 ⟨s5, rfl⟩
      have s25 := s3.trans s5
      cases hc : (decide (k ≠ "still") || (decide (e.2.1 = 0) && decide (e.2.2 = []))) with
      | false =>
        refine iteF ⟨_, _, _, rfl, s25, ?_⟩
        rw [tk, List.filter_append, no, List.filter_cons, if_neg (by unfold sdG; rw [hc]; simp)]
        rfl
      | true =>
        refine iteT ?_
        have s05 := s12.trans s25
        have row5 : ∀ H', Same H2 H' → RowsL H' bs rs := fun H' s' => hrow.lsts fun b xs _ e => (s12.trans s') _ _ e
        obtain ⟨ea, ed⟩ := inR e em
        refine ⟨_, rfl, Nat.zero_le _, fun u hu => ?_⟩
        have t1 := Ask.Same.made1 (o := .lst []) (Same.refl H5) hu
        generalize upd H5 u (.lst []) = H6 at t1 ⊢
        refine ⟨by show 2 ≤ sizeLine; omega, fun tt htt => ?_⟩
        have t2 := Ask.Same.made1 (o := .tup [.ref R, .ref u]) (Same.refl H6) htt
        have e2 : upd H6 tt (.tup [.ref R, .ref u]) tt = some (.tup [.ref R, .ref u]) := upd_same
        generalize upd H6 tt (.tup [.ref R, .ref u]) = H7 at t2 e2 ⊢
        have s57 := s25.trans (t1.trans t2)
        refine ⟨_, rfl, _, rfl, tt, R, l0, .ref u, bs, rs, e.1.1, m, sdlN k a ob, rfl, e2, (s12.trans s57) _ _ hR, row5 _ s57, ok, ea, SqL.of ((s2.trans s57) _ _ hl1), inL, ?_⟩
        refine ⟨_, rfl, Nat.zero_le _, fun u2 hu2 => ?_⟩
        have t3 := Ask.Same.made1 (o := .lst []) (Same.refl H7) hu2
        generalize upd H7 u2 (.lst []) = H8 at t3 ⊢
        refine ⟨by show 2 ≤ sizeLine; omega, fun tu htu => ?_⟩
        have t4 := Ask.Same.made1 (o := .tup [.ref R, .ref u2]) (Same.refl H8) htu
        have e4 : upd H8 tu (.tup [.ref R, .ref u2]) tu = some (.tup [.ref R, .ref u2]) := upd_same
        generalize upd H8 tu (.tup [.ref R, .ref u2]) = H9 at t4 e4 ⊢
        have s59 := s57.trans (t3.trans t4)
        refine ⟨_, rfl, _, rfl, tu, R, r0, .ref u2, bs, rs, e.1.1, m, sdrN k a ob, rfl, e4, (s12.trans s59) _ _ hR, row5 _ s59, ok, ea, SqL.of ((s2.trans s59) _ _ hr0), inR', rfl, _, rfl, ?_⟩
        by_cases dw : walkN rs e.1.1 (sdlN k a ob) = walkN rs e.1.1 (sdrN k a ob)
        · rw [show (!decide (vN (walkN rs e.1.1 (sdlN k a ob)) = vN (walkN rs e.1.1 (sdrN k a ob)))) = false from by rw [dw, decide_eq_true rfl]; rfl]
          refine iteF ⟨_, _, _, rfl, s59, ?_⟩
          rw [tk, List.filter_append, no, List.filter_cons, if_neg (by unfold sdG; rw [hc, decide_eq_true dw]; simp)]
          rfl
        · rw [show (!decide (vN (walkN rs e.1.1 (sdlN k a ob)) = vN (walkN rs e.1.1 (sdrN k a ob)))) = true from by rw [decide_eq_false (fun z => dw (by have := V.int.inj z; omega))]; rfl]
          refine iteT ⟨_, rfl, _, rfl, by show 2 ≤ sizeLine; omega, fun o ho => ?_⟩
          have t5 := Ask.Same.made1 (o := .tup [vN e.2.1, .ref w]) (Same.refl H9) ho
          refine kq _ (.ref o) (s12.trans (s59.trans t5)) (.inr ⟨e, o, w, ?_, rfl, upd_same, (s59.trans t5) _ _ fw⟩)
          have split : es = es.take i ++ (e :: es.drop (i + 1)) := by
            conv => lhs; rw [← List.take_append_drop i es]
            rw [List.drop_eq_getElem_cons (List.getElem?_eq_some_iff.mp he).1, (List.getElem?_eq_some_iff.mp he).2]
          rw [split, List.filter_append, no, List.filter_cons, if_pos (by unfold sdG; rw [hc, decide_eq_false dw]; rfl)]
          rfl
    · rintro σ' H3 ⟨o6, o7, o8, rfl, s3, no⟩
      rw [List.length_map, hq.1, List.take_length] at no
      exact kq H3 .non (s12.trans s3) (.inl ⟨no, rfl⟩)
end
end Ask

namespace Ask
open PySem L2
/-- at which entries a limit is broken, by its kind -/
def adG (rs : List (List Nat)) (ans good : List Str) (kd : Str) (oj : Option Nat) (e : Ent) : Bool := (decide (kd ≠ "fresh") || (decide (e.2.1 = 0) && decide (e.2.2 = []))) && brkL ans good (stepE rs oj e)
def DueP (H : Hp) (xs : List Spk) (v : V) : Prop := (xs = [] ∧ v = .non) ∨ ∃ (e : Spk) (t w : Addr), xs.head? = some e ∧ v = .ref t ∧ H t = some (.tup [vN e.2.1, .ref w]) ∧ H w = some (.tup (e.2.2.map vN))
section
variable {P : Program} {w : World} {K : PySem.W.Frag} {mg : Str → Option Value} {base : Heap}
def spADue (K : PySem.W.Frag) : Sp := fun vs H Q _ => ∃ (R A S0 t g : Addr) (bs : List Addr) (rs : List (List Nat)) (ans good : List Str) (n1 f1 m : Nat) (k : Str) (oj : Option Nat), vs = [.ref R, .ref A, .ref S0, .ref t] ∧ H R = some (.lst (bs.map V.ref)) ∧ RowsL H bs rs ∧ RowsOk rs m ∧ rs.length ≤ 9 ∧ m ≤ 12 ∧ n1 < rs.length ∧ f1 < rs.length ∧ H S0 = some (.lst [vN n1, vN f1]) ∧
  H A = some (.lst (ans.map V.str)) ∧ ans.length = rs.length ∧ H t = some (.tup [.str k, sdV oj, .ref g]) ∧ H g = some (.lst (good.map V.str)) ∧ k ∈ LM ∧ (k = "behind" → ∃ j, oj = some j ∧ j < m) ∧ (k ≠ "behind" → oj = none) ∧
  ∀ (H' : Hp) (v : V) (N : Nat), Same H H' → (bfs (nx1 rs m) (beg0 (n1, n1) (f1, f1)) N).length ≤ N → DueP H' (((bfs (nx1 rs m) (beg0 (n1, n1) (f1, f1)) N).filter (adG rs ans good k oj)).map (stepE rs oj)) v → Q v H'

abbrev s__law_answer_due : Stmt := top 90
theorem sc__law_answer_due : FnScope ["_law_rows", "_law_answers", "_law_starts", "_law_limit_here", "_law_kind", "_law_letter", "_law_good", "_law_state", "_law_k", "_law_word", "_law_is_asked"] ["_law_rows", "_law_answers", "_law_starts", "_law_limit_here"] (defScope s__law_answer_due) := ⟨rfl, rfl, rfl, by decide +kernel, rfl, by decide +kernel, by decide +kernel⟩
theorem ok_adue {f fF : Addr} {fd fdF : FuncData} (F : Fun K "_law_answer_due" "_law_answer_due" s__law_answer_due f fd)
    (G__law_firsts : FnOk P w K mg base CX0 1 fF fdF ["_law_table", "_law_starts"] (spFirsts K)) (A__law_firsts : At K mg "_law_firsts" fF fdF ["_law_table", "_law_starts"]) :
    FnOk P w K mg base CX0 2 f fd ["_law_rows", "_law_answers", "_law_starts", "_law_limit_here"] (spADue K) := by
  refine F.ok sc__law_answer_due (fun vs H Q E h => ?_) (fun cdv A outer s H vs Q E hr h => ?_)
  · obtain ⟨R, A, S0, t, g, bs, rs, ans, good, n1, f1, m, k, oj, rfl, _⟩ := h
    rfl
  · obtain ⟨R, A0, S0, t, g, bs, rs, ans, good, n1, f1, m, k, oj, rfl, hR, hrow, ok, l9, m12, hn1, hf1, hS0', hA, al, ht, hg, hk, jb, jn, kq⟩ := h
    have h__law_firsts := hr.mono (j := 1) (by decide)
    have z1 : (100000 : Nat) ≤ sizeLine := by decide
    refine ⟨_, (pss_cons (ps_asg (pv 3) (pg_tup rfl (pgs_cons (pg_name (i := 4) sc__law_answer_due.nd rfl (Or.inl rfl)) (pgs_cons (pg_name (i := 5) sc__law_answer_due.nd rfl (Or.inl rfl)) (pgs_cons (pg_name (i := 6) sc__law_answer_due.nd rfl (Or.inl rfl)) pgs_nil)))))
      (pss_cons (ps_for PassesOwn.never rfl (pi_list (pe_call G__law_firsts (by exact h__law_firsts) (by rfl) A__law_firsts.m A__law_firsts.k A__law_firsts.b .nil pass0 (pa_cons (pv 0) (pa_cons (pv 2) pa_nil)))) (pg_tup rfl (pgs_cons (pg_name (i := 7) sc__law_answer_due.nd rfl (Or.inl rfl)) (pgs_cons (pg_name (i := 8) sc__law_answer_due.nd rfl (Or.inl rfl)) (pgs_cons (pg_name (i := 9) sc__law_answer_due.nd rfl (Or.inl rfl)) pgs_nil)))) (pss_cons (ps_if (PW.pt (pw_and (pt_cmpR op_eq (pv 4) pe_str (nomark _)) (pw_and1 (pt_cmpR op_notIn_seq (pe_ix ix_list (pv 1) (pe_ix ix_list (pe_ix ix_list (pv 0) (pv 7) (fun _ _ => rfl)) (pv 5) (fun _ _ => rfl)) (fun _ _ => rfl)) (pv 6) rfl)))) (pss_one (ps_ret (pe_tup (pa_cons (pv 8) (pa_cons (pe_op op_catA (pv 9) (pe_tup (pa_cons (pv 5) pa_nil))) pa_nil))))) pss_nil)
      (pss_cons (ps_set (i := 10) sc__law_answer_due.nd rfl (Or.inl rfl) (pe_or (pe_cmpR op_eq (pv 4) pe_str (nomark _)) (pe_one (pe_and (pe_cmpR op_eq (pv 4) pe_str (nomark _)) (pe_and (pe_cmpR op_eq (pv 8) pe_int (nomark _)) (pe_one (pe_cmpR (op_eqD hr.units) (pv 9) (pe_tup pa_nil) (nomark _))))))))
      (pss_one (ps_if (PW.pt (pw_and (pt_val (pv 10)) (pw_and1 (pt_cmpR op_notIn_seq (pe_ix ix_list (pv 1) (pv 7) (fun _ _ => rfl)) (pv 6) rfl)))) (pss_one (ps_ret (pe_tup (pa_cons (pv 8) (pa_cons (pv 9) pa_nil))))) pss_nil)))))
      (pss_one (ps_ret pe_non)))), ?_⟩
    refine ⟨_, rfl, t, _, rfl, SqT.of ht, rfl, _, _, rfl, _, _, rfl, _, _, rfl, rfl, ?_⟩
    try dsimp only
    refine ⟨_, rfl, _, rfl, R, S0, bs, rs, n1, f1, m, rfl, hR, hrow, ok, l9, m12, hn1, hf1, hS0', fun H2 U qs N s2 cl hU hq => ?_⟩
    have inR := nx1_all (N := N) ok (by omega : m ≤ 1000) hn1 hf1
    have wlN : ∀ e ∈ bfs (nx1 rs m) (beg0 (n1, n1) (f1, f1)) N, e.2.2.length ≤ 100 := fun e he => (spk_ok (j := none) ok (by omega) l9 hn1 hf1 cl (fun _ z => nomatch z) (stepE rs none e) (List.mem_map.mpr ⟨e, he, rfl⟩)).l
    have l81 : (bfs (nx1 rs m) (beg0 (n1, n1) (f1, f1)) N).length ≤ 81 := Nat.le_trans (ents_le (M := rs.length) (N := rs.length) (bfs_nd (beg0_nd _ _) N) fun e he => ⟨(inR e he).1, by rw [(inR e he).2]; exact (inR e he).1⟩) (Nat.mul_le_mul l9 l9)
    replace kq := fun H' v a b => kq H' v N a cl b
    generalize bfs (nx1 rs m) (beg0 (n1, n1) (f1, f1)) N = es at *
    refine ⟨U, rfl, ⟨_, SqL.of hU⟩, ?_⟩
    refine for_it (walk_list (xs := qs.map V.ref)) (fun i σ' H' => ∃ o7 o8 o9 o10 : Option V, σ' = [some (.ref R), some (.ref A0), some (.ref S0), some (.ref t), some (.str k), some (sdV oj), some (.ref g), o7, o8, o9, o10] ∧ Same H2 H' ∧ (es.take i).filter (adG rs ans good k oj) = []) ⟨none, none, none, none, rfl, Same.refl _, rfl⟩ (fun i σ' H' _ ⟨_, _, _, _, _, s', _⟩ => SqL.of (s' _ _ hU)) ?_ ?_
    · rintro i v σ' H3 H4 hi ⟨o7, o8, o9, o10, rfl, s3, no⟩ ⟨rfl, hv⟩
      rw [List.length_map] at hi
      obtain ⟨q, hq'⟩ : ∃ q, qs[i]? = some q := ⟨_, List.getElem?_eq_getElem hi⟩
      obtain rfl : v = .ref q := by
        rw [List.getElem?_map, hq'] at hv
        exact (Option.some.inj hv).symm
      obtain ⟨e, he⟩ : ∃ e, es[i]? = some e := ⟨_, List.getElem?_eq_getElem (by rw [← hq.1]; exact hi)⟩
      obtain ⟨w, fq, fw⟩ := hq.2 i q e hq' he
      have em := List.mem_of_getElem? he
      obtain ⟨ea, ed⟩ := inR e em
      have tk : es.take (i + 1) = es.take i ++ [e] := by rw [List.take_add_one, he]; rfl
      have split : es = es.take i ++ (e :: es.drop (i + 1)) := by
        conv => lhs; rw [← List.take_append_drop i es]
        rw [List.drop_eq_getElem_cons (List.getElem?_eq_some_iff.mp he).1, (List.getElem?_eq_some_iff.mp he).2]
      refine ⟨q, _, rfl, SqT.of (s3 _ _ fq), rfl, _, _, rfl, _, _, rfl, _, _, rfl, rfl, ?_⟩
      try dsimp only
      by_cases kb : k = "behind"
      · obtain ⟨j, rfl, hj⟩ := jb kb
        obtain ⟨r, er, erk, lr⟩ := mvN_at ok hj ea
        obtain ⟨c1, hc1⟩ : ∃ b, bs[e.1.1]? = some b := ⟨_, List.getElem?_eq_getElem (by rw [hrow.1]; exact ea)⟩
        obtain ⟨y, hy⟩ : ∃ y, ans[mvN rs j e.1.1]? = some y := ⟨_, List.getElem?_eq_getElem (by rw [al]; exact lr)⟩
        refine ⟨_, rfl, rfl, _, rfl, ?_⟩
        rw [decide_eq_true (congrArg V.str kb)]
        refine iteT ⟨_, rfl, _, rfl, _, rfl, R, _, _, .ref c1, rfl, rfl, SqL.of ((s2.trans s3) _ _ hR), at_by (j := e.1.1) rfl (by rw [List.getElem?_map, hc1]; rfl), _, rfl, c1, _, _, vN (mvN rs j e.1.1), rfl, rfl, SqL.of ((s2.trans s3) _ _ (hrow.2 _ c1 r hc1 er)), at_by (j := j) rfl (by rw [List.getElem?_map, erk]; rfl), A0, _, _, .str y, rfl, rfl, SqL.of ((s2.trans s3) _ _ hA), at_by (j := mvN rs j e.1.1) rfl (by rw [List.getElem?_map, hy]; rfl), ?_⟩
        refine ⟨_, rfl, g, _, rfl, .inl (SqL.of ((s2.trans s3) _ _ hg)), rfl, by rw [List.all_map]; exact List.all_eq_true.mpr fun _ _ => rfl, _, rfl, ?_⟩
        rw [show (if true = true then !inV (.str y) (good.map V.str) else inV (.str y) (good.map V.str)) = brkL ans good (stepE rs (some j) e) from by show _ = brkL ans good (mvN rs j e.1.1, (e.2.1, e.2.2 ++ [j])); unfold brkL; rw [hy, if_pos rfl, inV_str]]
        cases hb9 : brkL ans good (stepE rs (some j) e) with
        | false =>
          refine iteF ?_
          try dsimp only [tNext]
          refine ⟨_, rfl, rfl, _, rfl, ?_⟩
          rw [show decide (V.str k = V.str "always") = false from decide_eq_false (fun z => by rw [kb] at z; exact absurd (V.str.inj z) (by decide))]
          refine iteF ⟨_, rfl, rfl, _, rfl, ?_⟩
          rw [show decide (V.str k = V.str "fresh") = false from decide_eq_false (fun z => by rw [kb] at z; exact absurd (V.str.inj z) (by decide))]
          refine iteF ⟨_, rfl, _, rfl, iteF ⟨_, _, _, _, rfl, s3, ?_⟩⟩
          rw [tk, List.filter_append, no, List.filter_cons, if_neg (by unfold adG; rw [hb9]; simp)]
          rfl
        | true =>
          have wl := wlN e em
          refine iteT ⟨_, rfl, _, rfl, _, rfl, by show 1 ≤ sizeLine; omega, fun g1 hg1 => ?_⟩
          have t1 := Ask.Same.made1 (o := .tup [sdV (some j)]) (Same.refl H4) hg1
          have f1' : upd H4 g1 (.tup [sdV (some j)]) g1 = some (.tup [vN j]) := upd_same
          generalize upd H4 g1 (.tup [sdV (some j)]) = H5 at t1 f1' ⊢
          refine cat_one (t1 _ _ (s3 _ _ fw)) f1' (by omega) fun H9 w' s9 hw' => ?_
          have s39 := s3.trans (t1.trans s9)
          refine ⟨by show 2 ≤ sizeLine; omega, fun o ho => ?_⟩
          have t5 := Ask.Same.made1 (o := .tup [vN e.2.1, .ref w']) (Same.refl H9) ho
          refine kq _ (.ref o) (s2.trans (s39.trans t5)) (.inr ⟨stepE rs (some j) e, o, w', ?_, rfl, upd_same, t5 _ _ hw'⟩)
          rw [split, List.filter_append, no, List.filter_cons, if_pos (by unfold adG; rw [hb9, kb]; rfl)]
          rfl
      · obtain rfl := jn kb
        obtain ⟨y, hy⟩ : ∃ y, ans[e.1.1]? = some y := ⟨_, List.getElem?_eq_getElem (by rw [al]; exact ea)⟩
        refine ⟨_, rfl, rfl, _, rfl, ?_⟩
        rw [show decide (V.str k = V.str "behind") = false from decide_eq_false (fun z => kb (V.str.inj z))]
        refine iteF (iteF ?_)
        try dsimp only [tNext]
        refine ⟨_, rfl, rfl, _, rfl, ?_⟩
        by_cases ka : k = "always"
        · rw [decide_eq_true (congrArg V.str ka)]
          refine iteT ?_
          refine ⟨_, rfl, _, rfl, iteT ?_⟩
          refine ⟨_, rfl, _, rfl, A0, _, _, .str y, rfl, rfl, SqL.of ((s2.trans s3) _ _ hA), at_by (j := e.1.1) rfl (by rw [List.getElem?_map, hy]; rfl), ?_⟩
          refine ⟨_, rfl, g, _, rfl, .inl (SqL.of ((s2.trans s3) _ _ hg)), rfl, by rw [List.all_map]; exact List.all_eq_true.mpr fun _ _ => rfl, _, rfl, ?_⟩
          rw [show (if true = true then !inV (.str y) (good.map V.str) else inV (.str y) (good.map V.str)) = brkL ans good (stepE rs none e) from by show _ = brkL ans good (e.1.1, e.2); unfold brkL; rw [hy, if_pos rfl, inV_str]]
          cases hb9 : brkL ans good (stepE rs none e) with
          | false =>
            refine iteF ⟨_, _, _, _, rfl, s3, ?_⟩
            rw [tk, List.filter_append, no, List.filter_cons, if_neg (by unfold adG; rw [hb9]; simp)]
            rfl
          | true =>
            refine iteT ⟨_, rfl, _, rfl, by show 2 ≤ sizeLine; omega, fun o ho => ?_⟩
            have t5 := Ask.Same.made1 (o := .tup [vN e.2.1, .ref w]) (Same.refl _) ho
            refine kq _ (.ref o) (s2.trans (s3.trans t5)) (.inr ⟨stepE rs none e, o, w, ?_, rfl, upd_same, (s3.trans t5) _ _ fw⟩)
            rw [split, List.filter_append, no, List.filter_cons, if_pos (by unfold adG; rw [hb9]; rw [ka]; rfl)]
            rfl
        · have kf : k = "fresh" := by
            simp only [LM, List.mem_cons, List.not_mem_nil, or_false] at hk
            rcases hk with h | h | h
            · exact absurd h ka
            · exact h
            · exact absurd h kb
          rw [show decide (V.str k = V.str "always") = false from decide_eq_false (fun z => ka (V.str.inj z))]
          refine iteF ⟨_, rfl, rfl, _, rfl, ?_⟩
          rw [decide_eq_true (congrArg V.str kf)]
          refine iteT ⟨_, rfl, rfl, _, rfl, ?_⟩
          by_cases z0 : e.2.1 = 0
          · rw [show decide (vN e.2.1 = V.int 0) = true from decide_eq_true (by rw [z0]; rfl)]
            refine iteT ⟨_, rfl, Nat.zero_le _, fun u hu => ?_⟩
            have su := Ask.Same.made1 (o := .tup []) (Same.refl H4) hu
            refine ⟨.tuple (e.2.2.map ndD), .tuple [], .tup (SqT.of (su _ _ (s3 _ _ fw))) (dp_natsN _), .tup (SqT.of upd_same) .nil, shaped_nats _, by rfl, ?_⟩
            rw [eqv_nilN]
            generalize upd H4 u (.tup []) = H5 at su ⊢
            have s35 := s3.trans su
            cases hw : decide (e.2.2 = []) with
            | false =>
              refine ⟨_, rfl, _, rfl, iteF ⟨_, _, _, _, rfl, s35, ?_⟩⟩
              rw [tk, List.filter_append, no, List.filter_cons, if_neg (by unfold adG; rw [kf, hw]; simp)]
              rfl
            | true =>
              refine ⟨_, rfl, _, rfl, iteT ?_⟩
              refine ⟨_, rfl, _, rfl, A0, _, _, .str y, rfl, rfl, SqL.of ((s2.trans s35) _ _ hA), at_by (j := e.1.1) rfl (by rw [List.getElem?_map, hy]; rfl), ?_⟩
              refine ⟨_, rfl, g, _, rfl, .inl (SqL.of ((s2.trans s35) _ _ hg)), rfl, by rw [List.all_map]; exact List.all_eq_true.mpr fun _ _ => rfl, _, rfl, ?_⟩
              rw [show (if true = true then !inV (.str y) (good.map V.str) else inV (.str y) (good.map V.str)) = brkL ans good (stepE rs none e) from by show _ = brkL ans good (e.1.1, e.2); unfold brkL; rw [hy, if_pos rfl, inV_str]]
              cases hb9 : brkL ans good (stepE rs none e) with
              | false =>
                refine iteF ⟨_, _, _, _, rfl, s35, ?_⟩
                rw [tk, List.filter_append, no, List.filter_cons, if_neg (by unfold adG; rw [hb9]; simp)]
                rfl
              | true =>
                refine iteT ⟨_, rfl, _, rfl, by show 2 ≤ sizeLine; omega, fun o ho => ?_⟩
                have t5 := Ask.Same.made1 (o := .tup [vN e.2.1, .ref w]) (Same.refl _) ho
                refine kq _ (.ref o) (s2.trans (s35.trans t5)) (.inr ⟨stepE rs none e, o, w, ?_, rfl, upd_same, (s35.trans t5) _ _ fw⟩)
                rw [split, List.filter_append, no, List.filter_cons, if_pos (by unfold adG; rw [hb9]; rw [z0, hw]; simp)]
                rfl
          · rw [show decide (vN e.2.1 = V.int 0) = false from decide_eq_false (fun z => z0 (by have := V.int.inj z; omega))]
            refine iteF ⟨_, rfl, _, rfl, iteF ⟨_, _, _, _, rfl, s3, ?_⟩⟩
            rw [tk, List.filter_append, no, List.filter_cons, if_neg (by unfold adG; rw [kf, decide_eq_false z0]; simp)]
            rfl
    · rintro σ' H3 ⟨o7, o8, o9, o10, rfl, s3, no⟩
      rw [List.length_map, hq.1, List.take_length] at no
      exact kq H3 .non (s2.trans s3) (.inl ⟨by rw [no]; rfl, rfl⟩)
end
end Ask

namespace Ask
open PySem L2 LamX NdefX
section
variable {P : Program} {w : World} {K : PySem.W.Frag} {mg : Str → Option Value} {base : Heap}
def spIsBr (T : List NTab) (K : PySem.W.Frag) (CL CS CI CM : Addr) : Sp := fun vs H Q _ => ∃ (p q : Addr) (due : V) (ys : List Str) (rs : List (List Nat)) (ans : List Str) (n1 f1 : Nat) (k : Str) (j : Option Nat) (d : Spk → Bool) (xs : List Spk), vs = [.ref p, .ref q, due] ∧ TabsN T H ∧ MacAt K CL CM H p ys rs ans n1 f1 ∧ MacOk ys rs ans n1 f1 ∧ rs.length ≤ 9 ∧
  ItmAt K CL CS CI H q ys rs ans k j d ∧ DueP H xs due ∧ (∀ es, EsOf rs ys.length n1 f1 k j es → (es.filter d).head?.map (·.2) = xs.head?.map (·.2)) ∧ (∀ e ∈ xs, (e.2.1 = 0 ∨ e.2.1 = 1) ∧ (∀ x ∈ e.2.2, x < ys.length) ∧ e.2.2.length ≤ 100) ∧
  ∀ H', ExtN H H' → TabsN T H' → Q (.bl true) H'
theorem breaks_any {T : List NTab} {CL CH CS CI CM CO p q : Addr} {H : Hp} {ys : List Str} {rs : List (List Nat)} {ans : List Str} {n1 f1 : Nat} {kd : Str} {j : Option Nat} {d : Spk → Bool} {Q : VK} {E : XK} (hT : TabsN T H) (hp : MacAt K CL CM H p ys rs ans n1 f1) (ok : MacOk ys rs ans n1 f1) (l9 : rs.length ≤ 9) (hI : ItmAt K CL CS CI H q ys rs ans kd j d)
    (k : ∀ (H' : Hp) (v : V) (es : List Spk), EsOf rs ys.length n1 f1 kd j es → ExtN H H' → TabsN T H' → BrkV K CL CH ys es d v H' → Q v H') : spBreaks T K CL CH CS CI CM CO [.ref p, .ref q] H Q E :=
  ⟨p, q, ys, ys, rs, ans, n1, f1, kd, j, d, rfl, hT, hp, ok, ok.lts, l9, hI, fun _ => ⟨fun sf H' v x t b => k H' v _ (.inl ⟨sf, rfl⟩) x t b, fun sf H' v N x t cl b => k H' v _ (.inr ⟨sf, N, cl, rfl⟩) x t b⟩, fun z => absurd rfl z⟩

abbrev s__law_is_broken : Stmt := top 91
theorem sc__law_is_broken : FnScope ["_law_machine_here", "_law_item", "_law_due", "_law_told"] ["_law_machine_here", "_law_item", "_law_due"] (defScope s__law_is_broken) := ⟨rfl, rfl, rfl, by decide +kernel, rfl, by decide +kernel, by decide +kernel⟩
theorem ok_isbr {T : List NTab} {f fB fH fE CL CH CS CI CM CO : Addr} {fd fdB fdH fdE : FuncData} (F : Fun K "_law_is_broken" "_law_is_broken" s__law_is_broken f fd) (hM : MacC K CM)
    (GB : FnOk P w K mg base (L2.CX P w) 10 fB fdB ["self", "sentence"] (spBreaks T K CL CH CS CI CM CO)) (bB : Binds K fdB ["self", "sentence"] []) (mB : Meth K CM "breaks" fB)
    (G__law_history : FnOk P w K mg base CX0 8 fH fdH ["_law_letters_here", "_law_beginning", "_law_word"] (spLHi K CL CH)) (A__law_history : At K mg "_law_history" fH fdH ["_law_letters_here", "_law_beginning", "_law_word"])
    (GE : FnOk P w K mg base CX0 2 fE fdE ["self", "other"] (spHEq K CL CH)) (bE : Binds K fdE ["self", "other"] []) (qE : PySem.W.findIn K (.ref CH) "__eq__" = some (some (.ref fE))) (iE : PySem.W.isFn K (.ref fE) = true) :
    FnOk P w K mg base CX0 11 f fd ["_law_machine_here", "_law_item", "_law_due"] (spIsBr T K CL CS CI CM) := by
  refine F.ok sc__law_is_broken (fun vs H Q E h => ?_) (fun cdv A outer s H vs Q E hr h => ?_)
  · obtain ⟨p, q, due, ys, rs, ans, n1, f1, k, j, d, xs, rfl, _⟩ := h
    rfl
  · obtain ⟨p, q, due, ys, rs, ans, n1, f1, k, j, d, xs, rfl, hT, hp, ok, l9, hI, hD, hes, xok, kq⟩ := h
    have h__law_history := hr.mono (j := 8) (by decide)
    have h2 := hr.mono (j := 2) (by decide)
    have z1 : (100000 : Nat) ≤ sizeLine := by decide
    refine ⟨_, (pss_cons (ps_set (i := 3) sc__law_is_broken.nd rfl (Or.inl rfl) (pe_meth (pv 0) hM.c mB GB hr bB .nil passE (pa_cons (pv 1) pa_nil)))
      (pss_cons (ps_if (pt_cmpR op_isN (pv 2) pe_non (nomark _)) (pss_one (ps_ret (pe_cmpR op_isN (pv 3) pe_non (nomark _)))) pss_nil)
      (pss_one (ps_ret (pe_cmpR (op_eqI (C := CH) (E := E0) GE h2 bE pass0 qE iE) (pv 3) (pe_call G__law_history (by exact h__law_history) (by rfl) A__law_history.m A__law_history.k A__law_history.b .nil pass0 (pa_cons (pe_fld (pv 0) rfl) (pa_cons (pe_ix ix_list (pe_lst (pa_cons pe_str (pa_cons pe_str pa_nil))) (pe_ix ix_tup (pv 2) pe_int (fun _ _ => rfl)) (fun _ _ => rfl)) (pa_cons (pe_ix ix_tup (pv 2) pe_int (fun _ _ => rfl)) pa_nil)))) (nomark _)))))), ?_⟩
    obtain ⟨d1, m1, t1, ra1, aa1, p1, p2, p3, p4⟩ := id hp
    refine ⟨_, rfl, p, d1, _, rfl, p1, rfl, _, rfl, ?_⟩
    delta tNil
    dsimp only [List.cons_append, List.nil_append]
    refine breaks_any hT hp ok l9 hI fun H2 v es ho x2 T2 hB => ?_
    have hes' := hes es ho
    have hp2 := mac_sv (Sv.ext x2) hp
    have v2 := Sv.ext x2
    try dsimp only
    rcases hD with ⟨rfl, rfl⟩ | ⟨e, t, wd, hx, rfl, ht, hw⟩
    · refine ⟨_, rfl, rfl, _, rfl, iteT ⟨_, rfl, rfl, ?_⟩⟩
      have hv : v = .non := by
        rcases hB with ⟨_, h⟩ | ⟨y, a, h, _⟩
        · exact h
        · rw [h] at hes'
          cases hes'
      rw [hv]
      exact kq H2 x2 T2
    · obtain ⟨y, a, hy, rfl, hh⟩ : ∃ (y : Spk) (a : Addr), (es.filter d).head? = some y ∧ v = .ref a ∧ HistAt K CL CH H2 a ys (begS y.2.1) (joinR (onesR (wdAt ys y.2.2))) := by
        rcases hB with ⟨h, _⟩ | h
        · rw [h, hx] at hes'
          cases hes'
        · exact h
      have e2 : y.2 = e.2 := by
        rw [hy, hx] at hes'
        exact Option.some.inj hes'
      rw [e2] at hh
      obtain ⟨ek, ew, el⟩ := xok e (List.mem_of_head? hx)
      refine ⟨_, rfl, rfl, _, rfl, iteF ?_⟩
      try dsimp only [tNext]
      obtain ⟨dm, mm, tm, rm, am, i1, i2, i3, i4⟩ := id hp2
      have ebs : ([V.str "new", V.str "found"] : List V)[e.2.1]? = some (.str (begS e.2.1)) := by
        rcases ek with z | z <;> rw [z] <;> rfl
      have eb : begS e.2.1 = "new" ∨ begS e.2.1 = "found" := by
        unfold begS
        rcases ek with z | z <;> rw [z]
        · exact .inl rfl
        · exact .inr rfl
      refine ⟨_, rfl, _, rfl, p, CM, dm, _, _, rfl, i1, hM.c, hM.a1, rfl, by show 2 ≤ sizeLine; omega, fun D hD' => ?_⟩
      have sD := Ask.Same.made1 (o := .lst [V.str "new", V.str "found"]) (Same.refl H2) hD'
      have fD : upd H2 D (.lst [V.str "new", V.str "found"]) D = some (.lst [V.str "new", V.str "found"]) := upd_same
      generalize upd H2 D (.lst [V.str "new", V.str "found"]) = H3 at sD fD ⊢
      refine ⟨_, rfl, t, _, _, vN e.2.1, rfl, rfl, SqT.of (sD _ _ (v2.tup ht)), at_by (j := 0) rfl rfl, D, _, _, .str (begS e.2.1), rfl, rfl, SqL.of fD, at_by (j := e.2.1) rfl ebs, ?_⟩
      refine ⟨_, rfl, t, _, _, .ref wd, rfl, rfl, SqT.of (sD _ _ (v2.tup ht)), at_by (j := 1) rfl rfl, ?_⟩
      refine ⟨mm, tm, wd, begS e.2.1, ys, e.2.2, rfl, i2.same sD, eb, sD _ _ (v2.tup hw), ew, el, fun H4 x4 s4 hh4 => ?_⟩
      have hh' := hh.same (sD.trans s4)
      have ofl := join_in (ys := ys) (rs := onesR (wdAt ys e.2.2)) (fun r hr => by
        obtain ⟨z, hz, rfl⟩ := List.mem_map.mp hr
        exact ⟨wdAt_mem ew z hz, by show (0 : Int) ≤ 1; decide⟩)
      obtain ⟨da, _, _, _, _, j1, _⟩ := id hh'
      obtain ⟨db, _, _, _, _, j2, _⟩ := id hh4
      refine ⟨a, x4, da, db, _, _, rfl, rfl, j1, j2, a, x4, ys, ys, _, _, _, _, rfl, hh', hh4, ok.lts.fit, ok.lts.fit, fun r hr => (ofl r hr).1, fun r hr => (ofl r hr).1, ?_⟩
      rw [show (decide (ys = ys) && (decide (begS e.2.1 = begS e.2.1) && decide (joinR (onesR (wdAt ys e.2.2)) = joinR (onesR (wdAt ys e.2.2))))) = true from by simp]
      exact ⟨true, rfl, kq H4 (x2.trans (ExtN.of (sD.trans s4))) (T2.ext (sD.trans s4))⟩
end
end Ask

namespace Ask
open PySem L2
theorem nf_sides {ys : List Str} {k x k' x' : Str} {s s' : V} (h : nfT ys k x s = [.str k', .str x', s']) : (sdL k' x' s' = sdL k x s ∧ sdR k' x' s' = sdR k x s) ∨ (sdL k' x' s' = sdR k x s ∧ sdR k' x' s' = sdL k x s) := by
  unfold nfT at h
  by_cases c1 : k = "over" ∧ V.str x = s
  · rw [if_pos c1] at h
    obtain ⟨rfl, rfl⟩ := c1
    simp only [List.cons.injEq, V.str.injEq, and_true] at h
    obtain ⟨rfl, rfl, rfl⟩ := h
    exact .inl ⟨rfl, rfl⟩
  rw [if_neg c1] at h
  by_cases c2 : k = "alike" ∧ ahead ys x s = true
  · rw [if_pos c2] at h
    obtain ⟨rfl, _⟩ := c2
    simp only [List.cons.injEq, V.str.injEq, and_true] at h
    obtain ⟨rfl, rfl, rfl⟩ := h
    exact .inr ⟨rfl, rfl⟩
  rw [if_neg c2] at h
  simp only [List.cons.injEq, V.str.injEq, and_true] at h
  obtain ⟨rfl, rfl, rfl⟩ := h
  exact .inl ⟨rfl, rfl⟩
theorem nf_still {ys : List Str} {k x k' x' : Str} {s s' : V} (h : nfT ys k x s = [.str k', .str x', s']) : k' = "still" ↔ k = "still" := by
  unfold nfT at h
  by_cases c1 : k = "over" ∧ V.str x = s
  · rw [if_pos c1] at h
    obtain ⟨rfl, rfl⟩ := c1
    simp only [List.cons.injEq, V.str.injEq, and_true] at h
    obtain ⟨rfl, rfl, rfl⟩ := h
    exact ⟨fun z => absurd z (by decide), fun z => absurd z (by decide)⟩
  rw [if_neg c1] at h
  by_cases c2 : k = "alike" ∧ ahead ys x s = true
  · rw [if_pos c2] at h
    simp only [List.cons.injEq, V.str.injEq, and_true] at h
    rw [h.1]
  rw [if_neg c2] at h
  simp only [List.cons.injEq, V.str.injEq, and_true] at h
  rw [h.1]
/-- the sides of what was said, as words of places -/
theorem said_sides {ys : List Str} {k : Str} {a : Nat} {ob : Option Nat} (h : SaidOk ys.length k a ob) : sdL k (ltN ys a) (ltV ys ob) = onesR (wdAt ys (sdlN k a ob)) ∧ sdR k (ltN ys a) (ltV ys ob) = onesR (wdAt ys (sdrN k a ob)) := by
  have hk := h.kl
  by_cases l : k ∈ LK
  · obtain rfl := h.lk l
    have l' := l
    simp only [LK, List.mem_cons, List.not_mem_nil, or_false] at l'
    rcases l' with rfl | rfl <;> exact ⟨rfl, rfl⟩
  · obtain ⟨b, rfl, hb, _⟩ := h.ne l
    simp only [KL, List.mem_cons, List.not_mem_nil, or_false] at hk
    rcases hk with rfl | rfl | rfl | rfl | rfl | rfl
    · exact absurd (by decide) l
    · exact ⟨rfl, rfl⟩
    · exact absurd (by decide) l
    · exact ⟨rfl, rfl⟩
    · exact ⟨rfl, rfl⟩
    · exact ⟨rfl, rfl⟩
theorem brkS_said {ys : List Str} {rs : List (List Nat)} {k k' x' : Str} {a : Nat} {ob : Option Nat} {s' : V} (nd : ys.Nodup) (h : SaidOk ys.length k a ob) (hn : nfT ys k (ltN ys a) (ltV ys ob) = [.str k', .str x', s']) (e : Spk) :
    brkS rs ys (joinR (sdL k' x' s')) (joinR (sdR k' x' s')) e = !decide (walkN rs e.1 (sdlN k a ob) = walkN rs e.1 (sdrN k a ob)) := by
  obtain ⟨e1, e2⟩ := said_sides h
  have a1 := aft_word (rs := rs) nd (sdl_n h).2 e.1
  have a2 := aft_word (rs := rs) nd (sdr_n h).2 e.1
  unfold brkS
  rcases nf_sides hn with ⟨q1, q2⟩ | ⟨q1, q2⟩
  · rw [q1, q2, e1, e2, a1, a2]
  · rw [q1, q2, e1, e2, a1, a2]
    congr 1
    exact decide_eq_decide.mpr eq_comm
theorem bfs_eq {nx : Pr → List Pr} {e0 : List Ent} {n m : Nat} (hn : (bfs nx e0 n).length ≤ n) (hm : (bfs nx e0 m).length ≤ m) : bfs nx e0 n = bfs nx e0 m := by
  by_cases c : n ≤ m
  · have := bfs_end hn (m - n)
    rw [show n + (m - n) = m from by omega] at this
    exact this.symm
  · have := bfs_end hm (n - m)
    rw [show m + (n - m) = n from by omega] at this
    exact this
theorem filter_map' {α β : Type} (f : α → β) (p : β → Bool) : ∀ l : List α, (l.map f).filter p = (l.filter fun x => p (f x)).map f
  | [] => rfl
  | x :: l => by
    rw [List.map_cons, List.filter_cons, List.filter_cons, filter_map' f p l]
    split <;> rfl
theorem es_meets {rs : List (List Nat)} {m n1 f1 N : Nat} {k : Str} {oj : Option Nat} {es : List Spk} (g : Spk → Bool) (G : Ent → Bool) (ok : RowsOk rs m) (hn : n1 < rs.length) (hf : f1 < rs.length) (hN : (bfs (nx1 rs m) (beg0 (n1, n1) (f1, f1)) N).length ≤ N) (hE : EsOf rs m n1 f1 k oj es)
    (hG : ∀ e ∈ bfs (nx1 rs m) (beg0 (n1, n1) (f1, f1)) N, G e = ((decide (¬ (k = "still" ∨ k = "fresh")) || (decide (e.2.1 = 0) && decide (e.2.2 = []))) && g (stepE rs oj e))) (ho : (k = "still" ∨ k = "fresh") → oj = none) :
    (es.filter g).head?.map (·.2) = (((bfs (nx1 rs m) (beg0 (n1, n1) (f1, f1)) N).filter G).map (stepE rs oj)).head?.map (·.2) := by
  rcases hE with ⟨sf, rfl⟩ | ⟨nf, N', hN', rfl⟩
  · obtain rfl := ho sf
    -- the first entry is the beginning, and no other one is
    obtain ⟨r, hr⟩ := bfs_pre (nx1 rs m) (beg0 (n1, n1) (f1, f1)) 0 N
    rw [Nat.zero_add] at hr
    obtain ⟨r2, hr2⟩ := addE_pre [(((n1, n1), (0, [])) : Ent)] (f1, f1) (1, [])
    have hb : bfs (nx1 rs m) (beg0 (n1, n1) (f1, f1)) N = ((n1, n1), (0, [])) :: (r2 ++ r) := by
      rw [hr]
      show beg0 (n1, n1) (f1, f1) ++ r = _
      unfold beg0
      rw [hr2]
      rfl
    have nd := bfs_nd (nx := nx1 rs m) (beg0_nd (n1, n1) (f1, f1)) N
    have eo := ents_ok (n1 := n1) (f1 := f1) (n2 := n1) (f2 := f1) ok ok hn hf hn hf N
    have eo' : ∀ e ∈ bfs (nx1 rs m) (beg0 (n1, n1) (f1, f1)) N, EntOk rs rs m n1 f1 n1 f1 e := eo
    rw [hb] at nd eo' hG ⊢
    rw [List.map_cons, List.nodup_cons] at nd
    have rest : (r2 ++ r).filter G = [] := by
      rw [List.filter_eq_nil_iff]
      intro e he
      rw [hG e (List.mem_cons_of_mem _ he)]
      have q : (decide (¬ (k = "still" ∨ k = "fresh")) || (decide (e.2.1 = 0) && decide (e.2.2 = []))) = false := by
        rw [decide_eq_false (fun z => z sf), Bool.false_or]
        by_cases c : e.2.1 = 0 ∧ e.2.2 = []
        · exfalso
          have eok := eo' e (List.mem_cons_of_mem _ he)
          have a := eok.a
          have b := eok.b
          rw [c.1, c.2] at a b
          exact nd.1 (List.mem_map.mpr ⟨e, he, Prod.ext a b⟩)
        · rw [Bool.and_eq_false_iff]
          by_cases c1 : e.2.1 = 0
          · exact .inr (decide_eq_false fun z => c ⟨c1, z⟩)
          · exact .inl (decide_eq_false c1)
      rw [q]
      simp
    have h0 := hG _ (List.mem_cons_self ..)
    have h0' : G ((n1, n1), (0, [])) = g (n1, (0, [])) := by
      rw [h0]
      show ((_ || (decide (0 = 0) && decide (([] : List Nat) = []))) && g (n1, (0, []))) = _
      simp
    rw [List.filter_cons, List.filter_cons, rest, h0']
    cases g (n1, (0, [])) with
    | true => rfl
    | false => rfl
  · rw [filter_map', bfs_eq hN' hN]
    congr 3
    refine List.filter_congr fun e he => ?_
    rw [hG e he, decide_eq_true nf]
    simp
theorem DueT.p {H : Hp} {rs : List (List Nat)} {es : List Ent} {v : V} (h : DueT H es v) : DueP H (es.map (stepE rs none)) v := by
  rcases h with ⟨rfl, rfl⟩ | ⟨e, t, w, h1, h2, h3, h4⟩
  · exact .inl ⟨rfl, rfl⟩
  · refine .inr ⟨stepE rs none e, t, w, ?_, h2, h3, h4⟩
    cases es with
    | nil => cases h1
    | cons x l => cases h1; rfl
theorem xs_ok {rs : List (List Nat)} {m n1 f1 N : Nat} {oj : Option Nat} {G : Ent → Bool} (ok : RowsOk rs m) (lm : m ≤ 1000) (l9 : rs.length ≤ 9) (hn : n1 < rs.length) (hf : f1 < rs.length) (cl : (bfs (nx1 rs m) (beg0 (n1, n1) (f1, f1)) N).length ≤ N) (hj : ∀ i, oj = some i → i < m) :
    ∀ e ∈ ((bfs (nx1 rs m) (beg0 (n1, n1) (f1, f1)) N).filter G).map (stepE rs oj), (e.2.1 = 0 ∨ e.2.1 = 1) ∧ (∀ x ∈ e.2.2, x < m) ∧ e.2.2.length ≤ 100 := by
  intro e he
  obtain ⟨e0, h0, rfl⟩ := List.mem_map.mp he
  have := spk_ok ok lm l9 hn hf cl hj (stepE rs oj e0) (List.mem_map.mpr ⟨e0, (List.mem_filter.mp h0).1, rfl⟩)
  exact ⟨this.k, this.wd, this.l⟩
/-- a sentence's due and what the program finds -/
theorem sen_meets {rs : List (List Nat)} {ys : List Str} {n1 f1 N : Nat} {k k' x' : Str} {a : Nat} {ob : Option Nat} {s' : V} {es : List Spk} (nd : ys.Nodup) (h : SaidOk ys.length k a ob) (hn : nfT ys k (ltN ys a) (ltV ys ob) = [.str k', .str x', s']) (ok : RowsOk rs ys.length) (h1 : n1 < rs.length) (h2 : f1 < rs.length)
    (hN : (bfs (nx1 rs ys.length) (beg0 (n1, n1) (f1, f1)) N).length ≤ N) (hk : k' ∈ KL) (hE : EsOf rs ys.length n1 f1 k' none es) :
    (es.filter (brkS rs ys (joinR (sdL k' x' s')) (joinR (sdR k' x' s')))).head?.map (·.2) = (((bfs (nx1 rs ys.length) (beg0 (n1, n1) (f1, f1)) N).filter (sdG rs k (sdlN k a ob) (sdrN k a ob))).map (stepE rs none)).head?.map (·.2) := by
  refine es_meets _ _ ok h1 h2 hN hE (fun e he => ?_) (fun _ => rfl)
  rw [brkS_said nd h hn]
  unfold sdG
  have q : decide (k ≠ "still") = decide (¬ (k' = "still" ∨ k' = "fresh")) := decide_eq_decide.mpr ⟨fun z => by
    rintro (c | c)
    · exact z ((nf_still hn).mp c)
    · rw [c] at hk
      exact absurd hk (by decide), fun z c => z (.inl ((nf_still hn).mpr c))⟩
  rw [q]
  rfl
/-- a limit's due and what the program finds -/
theorem lim_meets {rs : List (List Nat)} {m n1 f1 N : Nat} {ans good ks : List Str} {k : Str} {oj : Option Nat} {es : List Spk} (ok : RowsOk rs m) (h1 : n1 < rs.length) (h2 : f1 < rs.length) (hN : (bfs (nx1 rs m) (beg0 (n1, n1) (f1, f1)) N).length ≤ N) (hk : k ∈ LM) (so : SetOfS good ks) (jn : k ≠ "behind" → oj = none) (hE : EsOf rs m n1 f1 k oj es) :
    (es.filter (brkL ans ks)).head?.map (·.2) = (((bfs (nx1 rs m) (beg0 (n1, n1) (f1, f1)) N).filter (adG rs ans good k oj)).map (stepE rs oj)).head?.map (·.2) := by
  refine es_meets _ _ ok h1 h2 hN hE (fun e he => ?_) (fun z => jn fun c => ?_)
  · unfold adG
    have q : decide (k ≠ "fresh") = decide (¬ (k = "still" ∨ k = "fresh")) := decide_eq_decide.mpr ⟨fun z => by
      rintro (c | c)
      · rw [c] at hk
        exact absurd hk (by decide)
      · exact z c, fun z c => z (.inr c)⟩
    have q2 : brkL ans good (stepE rs oj e) = brkL ans ks (stepE rs oj e) := by
      unfold brkL
      cases ans[(stepE rs oj e).1]? with
      | none => rfl
      | some y =>
        show (!decide (y ∈ good)) = !decide (y ∈ ks)
        congr 1
        exact decide_eq_decide.mpr (so.2.2 y).symm
    rw [q, q2]
  · rcases z with z | z
    · rw [c] at z; exact absurd z (by decide)
    · rw [c] at z; exact absurd z (by decide)
end Ask

set_option maxHeartbeats 8000000
namespace Ask
open PySem L2 ClX LamX NdefX PySem.Spec PyProof.Rows
def retE : Stmt → Expr
  | .Return (some e) _ => e
  | _ => .Constant .none 0 ⟨0, 0, 0, 0⟩
def boolN : Nat → Expr → Expr
  | i, .BoolOp _ es _ => es.getD i (.Constant .none 0 ⟨0, 0, 0, 0⟩)
  | _, e => e
abbrev s_law : Stmt := top 93
theorem sc_law : FnScope ["_law_script", "_law_pen_here", "_law_letters_here", "_law_pool", "_law_rows", "_law_answers", "_law_starts", "_law_machine_here", "_law_many", "_law_items", "_law_turn", "_law_said", "_law_kind", "_law_letter", "_law_limit_here", "_law_item", "_law_due", "_law_other", "_law_strange", "_law_row"] ["_law_script"] (defScope s_law) := ⟨rfl, rfl, rfl, by decide +kernel, rfl, by decide +kernel, by decide +kernel⟩
abbrev lamL (i : Nat) : Expr := argN 0 (boolN 0 (retE ((defBody s_law).getD 10 (.Pass ⟨0, 0, 0, 0⟩))))
abbrev LF_l (i : Nat) (q : Str) (cl : List (Str × Addr)) (dV : Option (Addr × List V)) (c : Addr) : LF := ⟨q, lamP (lamL i), lamB (lamL i), lamS (defScope s_law) (lamL i), cl, dV, c⟩
theorem ns_l1 (q : Str) (cl : List (Str × Addr)) (c : Addr) : NScope ["_law_machine_here", "_law_strange"] [] ["_law_machine_here", "_law_strange"] (LF_l 0 q cl none c).scope := nscope_by (by show nscB _ _ _ (lamS (defScope s_law) (lamL 0)) = true; decide +kernel)
theorem nb_l1 : ndefB (defScope s_law) (lamS (defScope s_law) (lamL 0)) ["_law_machine_here", "_law_strange"] = true := by decide +kernel
section
variable {P : Program} {w : World} {K : PySem.W.Frag} {mg : Str → Option Value} {base : Heap}
/-- a machine asked of a sentence over other letters -/
def Refd (T : List NTab) (K : PySem.W.Frag) (CL CS CI CM CO : Addr) (p q : Addr) (H : Hp) (E : XK) : Prop := ∃ (ys zs : List Str) (rs : List (List Nat)) (ans : List Str) (n1 f1 : Nat) (k : Str) (j : Option Nat) (d : Spk → Bool), TabsN T H ∧ MacAt K CL CM H p ys rs ans n1 f1 ∧ MacOk ys rs ans n1 f1 ∧ Lts zs ∧ rs.length ≤ 9 ∧
  ItmAt K CL CS CI H q zs rs ans k j d ∧ ys ≠ zs ∧ E (.ref CO) none H
def spLam1 (T : List NTab) (K : PySem.W.Frag) (CL CS CI CM CO : Addr) : List (Option V) → Sp := fun ws vs H Q E => ∃ p q : Addr, ws = [some (.ref p), some (.ref q)] ∧ vs = [] ∧ Refd T K CL CS CI CM CO p q H E
theorem refd_at {T : List NTab} {CL CH CS CI CM CO p q : Addr} {H : Hp} {Q : VK} {E : XK} (h : Refd T K CL CS CI CM CO p q H E) : spBreaks T K CL CH CS CI CM CO [.ref p, .ref q] H Q E := by
  obtain ⟨ys, zs, rs, ans, n1, f1, k, j, d, hT, hp, ok, lz, l9, hI, ne, e⟩ := h
  exact ⟨p, q, ys, zs, rs, ans, n1, f1, k, j, d, rfl, hT, hp, ok, lz, l9, hI, fun z => absurd z ne, fun _ => e⟩
theorem lok_l1 {T : List NTab} {f fA c CL CH CS CI CM CO : Addr} {fdA : FuncData} {q : Str} {cl : List (Str × Addr)} (hM : MacC K CM) (GA : FnOk P w K mg base (L2.CX P w) 10 fA fdA ["self", "sentence"] (spBreaks T K CL CH CS CI CM CO)) (bA : Binds K fdA ["self", "sentence"] []) (mA : Meth K CM "breaks" fA) :
    LOk P w K mg base (L2.CX P w) 11 f (LF_l 0 q cl none c) ["_law_machine_here", "_law_strange"] (spLam1 T K CL CS CI CM CO) := by
  refine lok_of (ns_l1 q cl c) (LBinds.plain rfl fun doc pm ctv us hl => match us, hl with | [], _ => rfl) (ds := []) (.inl ⟨rfl, rfl⟩) rfl (fun ws vs H Q E h => ?_) (fun A outer s H vs ws Q E hr hf hw h => ?_)
  · obtain ⟨p, q, _, rfl, _⟩ := h
    rfl
  · obtain ⟨p, q, rfl, rfl, h⟩ := h
    refine ⟨_, pe_meth (pv 0) hM.c mA GA hr bA .nil (passes_call (E := E) (takes_of rfl rfl rfl rfl) (fun _ _ _ _ h => h)) (pa_cons (pv 1) pa_nil), ?_⟩
    have h' := refd_at (CH := CH) (Q := Q) h
    obtain ⟨ys, zs, rs, ans, n1, f1, k, j, d, hT, ⟨dx, m, t, ra, aa, hp, _⟩, _⟩ := h
    exact ⟨_, rfl, p, dx, _, rfl, hp, rfl, _, rfl, h'⟩
end
end Ask

namespace Ask
open PySem L2
theorem RowsL.set {H : Hp} {bs : List Addr} {rs : List (List Nat)} {j : Nat} {b : Addr} {r' : List Nat} (h : RowsL H bs rs) (nd : bs.Nodup) (hb : bs[j]? = some b) : RowsL (upd H b (.lst (r'.map vN))) bs (rs.set j r') := by
  refine ⟨by rw [List.length_set, h.1], fun i a x h1 h2 => ?_⟩
  by_cases c : i = j
  · subst c
    rw [hb] at h1
    cases h1
    rw [List.getElem?_set_self (by rw [← h.1]; exact (List.getElem?_eq_some_iff.mp hb).1)] at h2
    cases h2
    exact upd_same
  · rw [List.getElem?_set_ne (Ne.symm c)] at h2
    have ne : a ≠ b := fun z => c ((List.getElem?_inj (List.getElem?_eq_some_iff.mp h1).1 nd).mp (by rw [h1, hb, z]))
    rw [upd_ne ne]
    exact h.2 i a x h1 h2
theorem ixN_j {n j : Nat} (h : j < n) : ixN n (j : Int) = some j := by
  unfold ixN
  rw [if_pos (by omega), if_pos (by omega), Int.toNat_natCast]
theorem RowsOk.set {rs : List (List Nat)} {m j k x : Nat} {r : List Nat} (h : RowsOk rs m) (hr : rs[j]? = some r) (hx : x < rs.length) : RowsOk (rs.set j (r.set k x)) m := by
  refine ⟨fun q hq => ?_, fun q hq n hn => ?_⟩
  · rcases List.mem_or_eq_of_mem_set hq with hq | rfl
    · exact h.len q hq
    · rw [List.length_set]
      exact h.len r (List.mem_of_getElem? hr)
  · rw [List.length_set]
    rcases List.mem_or_eq_of_mem_set hq with hq | rfl
    · exact h.lt q hq n hn
    · rcases List.mem_or_eq_of_mem_set hn with hn | rfl
      · exact h.lt r (List.mem_of_getElem? hr) n hn
      · exact hx
def rListS (K : PySem.W.Frag) : List V → Hp → VK → Prop := fun xs H Q => ∃ p ys, xs = [.ref p] ∧ (SqL K H p ys ∨ SqT K H p ys) ∧ ∀ l, H l = none → Q (.ref l) (upd H l (.lst ys))
theorem call_listS {X : Cx} : CallR X (.type "list") (rListS X.K) := call_list_of
section
variable {P : Program} {w : World} {K : PySem.W.Frag} {mg : Str → Option Value} {base : Heap}
def spTame (K : PySem.W.Frag) : Sp := fun vs H Q _ => ∃ (p c R : Addr) (ns : List Int) (B m : Nat) (bs : List Addr) (rs : List (List Nat)), vs = [.ref p, .ref R] ∧ Pen c ns H p B ∧ B ≤ 200000000 ∧ H R = some (.lst (bs.map V.ref)) ∧ RowsL H bs rs ∧ RowsOk rs m ∧ 1 ≤ m ∧ m ≤ 12 ∧ 1 ≤ rs.length ∧ rs.length ≤ 6 ∧
  ∀ (H' : Hp) (R' : Addr) (cs : List Addr) (rs' : List (List Nat)), Go p c ns H H' (B + 10) → H' R' = some (.lst (cs.map V.ref)) → RowsL H' cs rs' → RowsOk rs' m → rs'.length = rs.length → Q (.ref R') H'

abbrev s__law_tame : Stmt := top 87
theorem sc__law_tame : FnScope ["_law_pen_here", "_law_rows", "_law_many", "_law_one", "_law_two", "_law_way", "_law_state", "_law_row"] ["_law_pen_here", "_law_rows"] (defScope s__law_tame) := ⟨rfl, rfl, rfl, by decide +kernel, rfl, by decide +kernel, by decide +kernel⟩
theorem ok_tame {f fD : Addr} {fd fdD : FuncData} (F : Fun K "_law_tame" "_law_tame" s__law_tame f fd) (T : Blt mg)
    (G__law_draw : FnOk P w K mg base CX0 1 fD fdD ["_law_pen_here", "_law_many"] spDraw) (A__law_draw : At K mg "_law_draw" fD fdD ["_law_pen_here", "_law_many"]) :
    FnOk P w K mg base CX0 3 f fd ["_law_pen_here", "_law_rows"] (spTame K) := by
  refine F.ok sc__law_tame (fun vs H Q E h => ?_) (fun cdv A outer s H vs Q E hr h => ?_)
  · obtain ⟨p, c, R, ns, B, m, bs, rs, rfl, _⟩ := h
    rfl
  · obtain ⟨p, c, R, ns, B, m, bs, rs, rfl, hpen, hB, hR, hrow, ok, m1, m12, l0, l6, k⟩ := h
    have h__law_draw := hr.mono (j := 1) (by decide)
    refine ⟨_, (pss_cons (ps_par (i := 1) (j := 2) rfl sc__law_tame.nd rfl rfl (by decide) rfl rfl (pa_cons (pe_lc (own := [("_law_row", 7)]) rfl sc__law_tame.nd (pi_list (pv 1)) (blkOk_by (N := ["_law_pen_here", "_law_rows", "_law_many", "_law_one", "_law_two", "_law_way", "_law_state", "_law_row"]) (sc := defScope s__law_tame) (by decide +kernel)) (fun _ _ _ _ _ => (pg_name (i := 7) sc__law_tame.nd rfl (Or.inl rfl))) (fun _ _ _ _ _ => pts_nil) (fun _ _ _ _ _ => (pe_callTy (show CallR _ _ (rListS K) from call_listS) (by rfl) T.n_list (by decide +kernel) (pa_cons (pv 7) pa_nil)))) (pa_cons (pe_callB call_len_seq (by rfl) T.n_len (by decide +kernel) (pa_cons (pe_ix ix_list (pv 1) pe_int (fun _ _ => rfl)) pa_nil)) pa_nil)) (by rfl))
      (pss_cons (ps_par3 (i := 3) (j := 4) (l := 5) rfl sc__law_tame.nd rfl rfl rfl (by decide) (by decide) (by decide) rfl rfl rfl (pa_cons (pe_call G__law_draw (by exact h__law_draw) (by rfl) A__law_draw.m A__law_draw.k A__law_draw.b .nil pass0 (pa_cons (pv 0) (pa_cons (pv 2) pa_nil))) (pa_cons (pe_call G__law_draw (by exact h__law_draw) (by rfl) A__law_draw.m A__law_draw.k A__law_draw.b .nil pass0 (pa_cons (pv 0) (pa_cons (pv 2) pa_nil))) (pa_cons (pe_call G__law_draw (by exact h__law_draw) (by rfl) A__law_draw.m A__law_draw.k A__law_draw.b .nil pass0 (pa_cons (pv 0) (pa_cons pe_int pa_nil))) pa_nil))) (by rfl))
      (pss_cons (ps_for PassesOwn.never rfl (pi_range1 rfl T.n_range (pa_cons (pe_callB call_len_seq (by rfl) T.n_len (by decide +kernel) (pa_cons (pv 1) pa_nil)) pa_nil)) (pg_name (i := 6) sc__law_tame.nd rfl (Or.inl rfl)) (pss_one (ps_if (pt_cmpR op_eq (pv 5) pe_int (nomark _)) (pss_one (ps_asg (pv 6) (pg_sub (pe_ix ix_list (pv 1) (pv 6) (fun _ _ => rfl)) (pv 3) set_list (by intro _; rfl)))) (pss_one (ps_if (pt_cmpR op_eq (pv 5) pe_int (nomark _)) (pss_one (ps_asg (pe_ix ix_list (pe_ix ix_list (pv 1) (pv 6) (fun _ _ => rfl)) (pv 4) (fun _ _ => rfl)) (pg_sub (pe_ix ix_list (pv 1) (pv 6) (fun _ _ => rfl)) (pv 3) set_list (by intro _; rfl)))) (pss_one (ps_if (pt_cmpR op_eq (pv 5) pe_int (nomark _)) (pss_one (ps_asg (pe_ix ix_list (pe_ix ix_list (pv 1) pe_int (fun _ _ => rfl)) (pv 3) (fun _ _ => rfl)) (pg_sub (pe_ix ix_list (pv 1) (pv 6) (fun _ _ => rfl)) (pv 3) set_list (by intro _; rfl)))) (pss_one (ps_if (pt_cmpR op_eq (pv 5) pe_int (nomark _)) (pss_one (ps_asg (pe_ix ix_list (pe_ix ix_list (pv 1) (pv 6) (fun _ _ => rfl)) (pv 3) (fun _ _ => rfl)) (pg_sub (pe_ix ix_list (pv 1) (pe_ix ix_list (pe_ix ix_list (pv 1) (pv 6) (fun _ _ => rfl)) (pv 3) (fun _ _ => rfl)) (fun _ _ => rfl)) (pv 4) set_list (by intro _; rfl)))) pss_nil)))))))))
      (pss_cons (ps_if (pt_cmpR op_eq (pe_call G__law_draw (by exact h__law_draw) (by rfl) A__law_draw.m A__law_draw.k A__law_draw.b .nil pass0 (pa_cons (pv 0) (pa_cons pe_int pa_nil))) pe_int (nomark _)) (pss_one (ps_asg (pe_call G__law_draw (by exact h__law_draw) (by rfl) A__law_draw.m A__law_draw.k A__law_draw.b .nil pass0 (pa_cons (pv 0) (pa_cons (pe_callB call_len_seq (by rfl) T.n_len (by decide +kernel) (pa_cons (pv 1) pa_nil)) pa_nil))) (pg_sub (pe_ix ix_list (pv 1) (pe_call G__law_draw (by exact h__law_draw) (by rfl) A__law_draw.m A__law_draw.k A__law_draw.b .nil pass0 (pa_cons (pv 0) (pa_cons (pe_callB call_len_seq (by rfl) T.n_len (by decide +kernel) (pa_cons (pv 1) pa_nil)) pa_nil))) (fun _ _ => rfl)) (pv 3) set_list (by intro _; rfl)))) pss_nil)
      (pss_one (ps_ret (pv 1))))))), ?_⟩
    have z1 : (100000 : Nat) ≤ sizeLine := by decide
    have hl2 := hrow.1
    obtain ⟨b0, hb0⟩ : ∃ b, bs[0]? = some b := ⟨_, List.getElem?_eq_getElem (by omega)⟩
    obtain ⟨q0, hq0⟩ : ∃ r, rs[0]? = some r := ⟨_, List.getElem?_eq_getElem (by omega)⟩
    have lq : q0.length = m := ok.len q0 (List.mem_of_getElem? hq0)
    refine ⟨_, rfl, R, rfl, ⟨_, SqL.of hR⟩, fun D hD => ?_⟩
    have hD0 := hD
    refine lc_it (walk_list (xs := bs.map V.ref)) (fun i H' => ∃ cs : List Addr, H' D = some (.lst (cs.map V.ref)) ∧ RowsL H' cs (rs.take i) ∧ cs.Nodup ∧ (∀ b ∈ cs, b ≠ D ∧ H b = none) ∧ Go p c ns H H' B) ⟨[], upd_same, ⟨rfl, fun i b r h => by simp at h⟩, List.nodup_nil, (fun _ h => nomatch h), (Go.refl hpen).new hD⟩ (fun i H' _ ⟨_, _, _, _, _, g⟩ => SqL.of (g.lst hR)) ?_ ?_
    · rintro i v H2 H3 hi ⟨cs, e2, r2, nd2, n2', g2⟩ ⟨rfl, hv⟩
      rw [List.length_map] at hi
      obtain ⟨b, hb⟩ : ∃ b, bs[i]? = some b := ⟨_, List.getElem?_eq_getElem hi⟩
      obtain rfl : v = .ref b := by
        rw [List.getElem?_map, hb] at hv
        exact (Option.some.inj hv).symm
      obtain ⟨r, hr'⟩ : ∃ r, rs[i]? = some r := ⟨_, List.getElem?_eq_getElem (by rw [← hrow.1]; exact hi)⟩
      have eb := hrow.2 i b r hb hr'
      have eb3 := g2.lst eb
      refine ⟨rfl, _, rfl, b, _, rfl, .inl (SqL.of eb3), fun l hl => ?_⟩
      have g3 := g2.new (o := .lst (r.map vN)) hl
      have el : upd H3 l (.lst (r.map vN)) l = some (.lst (r.map vN)) := upd_same
      have st := Ask.Same.made1 (o := .lst (r.map vN)) (Same.refl H3) hl
      have lD : l ≠ D := fun z => by rw [z, e2] at hl; cases hl
      have lc : l ∉ cs := fun z => by
        obtain ⟨j, hj⟩ := List.mem_iff_getElem?.mp z
        have lj : j < (rs.take i).length := by rw [← r2.1]; exact (List.getElem?_eq_some_iff.mp hj).1
        rw [r2.2 j l _ hj (List.getElem?_eq_getElem lj)] at hl
        cases hl
      have tk : rs.take (i + 1) = rs.take i ++ [r] := by rw [List.take_add_one, hr']; rfl
      refine ⟨_, st _ _ e2, ?_, cs ++ [l], by rw [upd_same, List.map_append]; rfl, ?_, ?_, fun b' hb' => ?_, g3.mut hD0⟩
      · rw [List.length_map, r2.1, List.length_take]
        omega
      · rw [tk]
        refine ((r2.lsts fun b' xs _ e => st _ _ e).snoc el).lsts fun b' xs hb' e => ?_
        rw [upd_ne ?_]
        · exact e
        · rcases List.mem_append.mp hb' with h | h
          · exact (n2' b' h).1
          · rw [List.mem_singleton.mp h]
            exact lD
      · exact List.nodup_append.mpr ⟨nd2, by simp, fun x hx y hy e => lc (by rw [List.mem_singleton.mp hy] at e; rw [← e]; exact hx)⟩
      · rcases List.mem_append.mp hb' with h | h
        · exact n2' b' h
        · rw [List.mem_singleton.mp h]
          exact ⟨lD, g2.free hl⟩
    rintro H2 ⟨cs, eD, rD, nd2, n2', g2⟩
    rw [List.length_map, hrow.1, List.take_length] at rD
    refine ⟨_, rfl, R, _, _, .ref b0, rfl, rfl, SqL.of (g2.lst hR), at_by (j := 0) rfl (by rw [List.getElem?_map, hb0]; rfl), b0, _, rfl, .inl (SqL.of (g2.lst (hrow.2 0 b0 q0 hb0 hq0))), _, _, rfl, ?_⟩
    rw [List.length_map, lq]
    have put : ∀ (Hx : Hp) (rx : List (List Nat)) (Bx j y x : Nat) (b : Addr) (r : List Nat), Hx D = some (.lst (cs.map V.ref)) → RowsL Hx cs rx → RowsOk rx m → rx.length = rs.length → Go p c ns H Hx Bx → cs[j]? = some b → rx[j]? = some r → x < rs.length →
        upd Hx b (.lst ((r.map vN).set y (vN x))) D = some (.lst (cs.map V.ref)) ∧ RowsL (upd Hx b (.lst ((r.map vN).set y (vN x)))) cs (rx.set j (r.set y x)) ∧ RowsOk (rx.set j (r.set y x)) m ∧ (rx.set j (r.set y x)).length = rs.length ∧ Go p c ns H (upd Hx b (.lst ((r.map vN).set y (vN x)))) Bx := fun Hx rx Bx j y x b r h1 h2 h3 h4 h5 h6 h7 h8 => by
      have bn := n2' b (List.mem_of_getElem? h6)
      refine ⟨by rw [upd_ne bn.1.symm]; exact h1, ?_, h3.set h7 (by omega), by rw [List.length_set]; exact h4, h5.mut bn.2⟩
      rw [← List.map_set]
      exact h2.set nd2 h6
    have at' : ∀ {rx : List (List Nat)} {Hx : Hp} {j : Nat}, RowsL Hx cs rx → rx.length = rs.length → j < rs.length → ∃ b r, cs[j]? = some b ∧ rx[j]? = some r ∧ Hx b = some (.lst (r.map vN)) ∧ (cs.map V.ref)[j]? = some (V.ref b) := fun {rx Hx j} h1 h2 h3 => by
      have h4 := h1.1
      obtain ⟨b, hb⟩ : ∃ b, cs[j]? = some b := ⟨_, List.getElem?_eq_getElem (by omega)⟩
      obtain ⟨r, hr⟩ : ∃ r, rx[j]? = some r := ⟨_, List.getElem?_eq_getElem (by omega)⟩
      exact ⟨b, r, hb, hr, h1.2 j b r hb hr, by rw [List.getElem?_map, hb]; rfl⟩
    have cl : (cs.map V.ref).length = rs.length := by rw [List.length_map, rD.1]
    refine ⟨_, rfl, _, rfl, p, c, ns, m, _, rfl, g2.pen, by omega, by omega, by omega, fun H3 a g3 a0 a1 => ?_⟩
    obtain ⟨a, rfl⟩ : ∃ y : Nat, a = (y : Int) := ⟨a.toNat, by omega⟩
    refine ⟨_, rfl, _, rfl, p, c, ns, m, _, rfl, g3.pen, by omega, by omega, by omega, fun H4 t g4 t0 t1 => ?_⟩
    obtain ⟨t, rfl⟩ : ∃ y : Nat, t = (y : Int) := ⟨t.toNat, by omega⟩
    refine ⟨_, rfl, p, c, ns, 6, _, rfl, g4.pen, by omega, by decide, by decide, fun H5 wy g5 w0 w1 => ?_⟩
    have g25 := (g3.step g4).step g5
    have g5' := g2.step g25
    have eD5 := g25.lst eD
    have rD5 := rD.lsts (H' := H5) fun b xs _ e => g25.lst e
    clear g3 g4 g5
    try dsimp only
    refine ⟨_, _, _, rfl, ?_⟩
    try dsimp only
    refine ⟨_, rfl, D, _, rfl, .inl (SqL.of eD5), _, rfl, by omega, by rw [cl]; omega, for_range (lo := 0) (n := (cs.map V.ref).length) (fun i σ' H' => ∃ (rx : List (List Nat)) (o6 o7 : Option V), σ' = [some (.ref p), some (.ref D), some (.int (m : Int)), some (.int (a : Int)), some (.int (t : Int)), some (.int wy), o6, o7] ∧ H' D = some (.lst (cs.map V.ref)) ∧ RowsL H' cs rx ∧ RowsOk rx m ∧ rx.length = rs.length ∧ Go p c ns H H' (B + 3))
      ⟨rs, none, none, rfl, eD5, rD5, ok, rfl, g5'.mono (by omega)⟩ ?_ ?_⟩
    · rintro i σ' Hi hi ⟨rx, o6, o7, rfl, eDi, rDi, oki, lni, gi⟩
      rw [cl] at hi
      rw [Int.zero_add]
      obtain ⟨b, r, hb, hr', eb, hbm⟩ := at' rDi lni hi
      have lr : r.length = m := oki.len r (List.mem_of_getElem? hr')
      have done : ∀ (y x j : Nat) (b : Addr) (r : List Nat), cs[j]? = some b → rx[j]? = some r → x < rs.length → ∃ (rx' : List (List Nat)), upd Hi b (.lst ((r.map vN).set y (vN x))) D = some (.lst (cs.map V.ref)) ∧ RowsL (upd Hi b (.lst ((r.map vN).set y (vN x)))) cs rx' ∧ RowsOk rx' m ∧ rx'.length = rs.length ∧ Go p c ns H (upd Hi b (.lst ((r.map vN).set y (vN x)))) (B + 3) := fun y x j b r h1 h2 h3 => ⟨_, put Hi rx (B + 3) j y x b r eDi rDi oki lni gi h1 h2 h3⟩
      have vl : ∀ {j : Nat} {b : Addr} {r : List Nat} {y : Nat}, cs[j]? = some b → rx[j]? = some r → y < m → ∃ x, r[y]? = some x ∧ x < rs.length := fun {j b r y} h1 h2 h3 => by
        have h4 : r.length = m := oki.len r (List.mem_of_getElem? h2)
        have h5 : r[y]? = some r[y] := List.getElem?_eq_getElem (by omega)
        exact ⟨_, h5, lni ▸ oki.lt r (List.mem_of_getElem? h2) _ (List.mem_of_getElem? h5)⟩
      have ha : a < m := by omega
      have ht : t < m := by omega
      refine ⟨_, rfl, rfl, _, rfl, ite2 (fun _ => ?_) (fun _ => ?_)⟩
      · refine ⟨_, rfl, _, rfl, _, rfl, D, _, _, .ref b, rfl, rfl, SqL.of eDi, at_by (j := i) rfl hbm, _, rfl, b, _, _, a, rfl, rfl, eb, ixN_j (by rw [List.length_map, lr]; omega), ?_⟩
        obtain ⟨rx', h1, h2, h3, h4, h5⟩ := done a i i b r hb hr' hi
        exact ⟨rx', _, _, rfl, h1, h2, h3, h4, h5⟩
      · obtain ⟨x1, hx1, lx1⟩ := vl hb hr' ha
        obtain ⟨x2, hx2, lx2⟩ := vl hb hr' ht
        refine ⟨_, rfl, rfl, _, rfl, ite2 (fun _ => ?_) (fun _ => ?_)⟩
        · refine ⟨_, rfl, _, rfl, D, _, _, .ref b, rfl, rfl, SqL.of eDi, at_by (j := i) rfl hbm, _, rfl, b, _, _, vN x2, rfl, rfl, SqL.of eb, at_by (j := t) rfl (by rw [List.getElem?_map, hx2]; rfl), _, rfl, _, rfl, D, _, _, .ref b, rfl, rfl, SqL.of eDi, at_by (j := i) rfl hbm, _, rfl, b, _, _, a, rfl, rfl, eb, ixN_j (by rw [List.length_map, lr]; omega), ?_⟩
          obtain ⟨rx', h1, h2, h3, h4, h5⟩ := done a x2 i b r hb hr' lx2
          exact ⟨rx', _, _, rfl, h1, h2, h3, h4, h5⟩
        refine ⟨_, rfl, rfl, _, rfl, ite2 (fun _ => ?_) (fun _ => ?_)⟩
        · obtain ⟨b1, r1, hb1, hr1, eb1, hbm1⟩ := at' rDi lni (j := 0) (by omega)
          obtain ⟨x3, hx3, lx3⟩ := vl hb1 hr1 ha
          refine ⟨_, rfl, D, _, _, .ref b1, rfl, rfl, SqL.of eDi, at_by (j := 0) rfl hbm1, _, rfl, b1, _, _, vN x3, rfl, rfl, SqL.of eb1, at_by (j := a) rfl (by rw [List.getElem?_map, hx3]; rfl), _, rfl, _, rfl, D, _, _, .ref b, rfl, rfl, SqL.of eDi, at_by (j := i) rfl hbm, _, rfl, b, _, _, a, rfl, rfl, eb, ixN_j (by rw [List.length_map, lr]; omega), ?_⟩
          obtain ⟨rx', h1, h2, h3, h4, h5⟩ := done a x3 i b r hb hr' lx3
          exact ⟨rx', _, _, rfl, h1, h2, h3, h4, h5⟩
        refine ⟨_, rfl, rfl, _, rfl, ite2 (fun _ => ?_) (fun _ => ?_)⟩
        · obtain ⟨b4, r4, hb4, hr4, eb4, hbm4⟩ := at' rDi lni lx1
          have lr4 : r4.length = m := oki.len r4 (List.mem_of_getElem? hr4)
          refine ⟨_, rfl, _, rfl, D, _, _, .ref b, rfl, rfl, SqL.of eDi, at_by (j := i) rfl hbm, _, rfl, b, _, _, vN x1, rfl, rfl, SqL.of eb, at_by (j := a) rfl (by rw [List.getElem?_map, hx1]; rfl), _, rfl, _, rfl, _, rfl, D, _, _, .ref b, rfl, rfl, SqL.of eDi, at_by (j := i) rfl hbm, _, rfl, b, _, _, vN x1, rfl, rfl, SqL.of eb, at_by (j := a) rfl (by rw [List.getElem?_map, hx1]; rfl), D, _, _, .ref b4, rfl, rfl, SqL.of eDi, at_by (j := x1) rfl hbm4, _, rfl, b4, _, _, t, rfl, rfl, eb4, ixN_j (by rw [List.length_map, lr4]; omega), ?_⟩
          obtain ⟨rx', h1, h2, h3, h4, h5⟩ := done t x1 x1 b4 r4 hb4 hr4 lx1
          exact ⟨rx', _, _, rfl, h1, h2, h3, h4, h5⟩
        · exact ⟨rx, _, _, rfl, eDi, rDi, oki, lni, gi⟩
    · rintro σ' Hi ⟨rx, o6, o7, rfl, eDi, rDi, oki, lni, gi⟩
      refine ⟨_, rfl, p, c, ns, 3, _, rfl, gi.pen, by omega, by decide, by decide, fun H6 r6 g6 r60 r61 => ?_⟩
      have g06 := gi.step g6
      have fin : ∀ (H' : Hp) (rx' : List (List Nat)), H' D = some (.lst (cs.map V.ref)) → RowsL H' cs rx' → RowsOk rx' m → rx'.length = rs.length → Go p c ns H H' (B + 10) → Q (.ref D) H' := fun H' rx' h1 h2 h3 h4 h5 => k H' D cs rx' h5 h1 h2 h3 h4
      have eD6 := g6.lst eDi
      have rD6 := rDi.lsts (H' := H6) fun b xs _ e => g6.lst e
      refine ⟨rfl, _, rfl, ite2 (fun _ => ?_) (fun _ => ?_)⟩
      · refine ⟨_, rfl, _, rfl, D, _, rfl, .inl (SqL.of eD6), p, c, ns, _, _, rfl, g06.pen, by omega, by rw [cl]; omega, by rw [cl]; omega, fun H7 x g7 x0 x1 => ?_⟩
        rw [cl] at x1
        obtain ⟨x, rfl⟩ : ∃ y : Nat, x = (y : Int) := ⟨x.toNat, by omega⟩
        have eD7 := g7.lst eD6
        have rD7 := rD6.lsts (H' := H7) fun b xs _ e => g7.lst e
        refine ⟨_, rfl, _, rfl, _, rfl, D, _, rfl, .inl (SqL.of eD7), p, c, ns, _, _, rfl, (g06.step g7).pen, by omega, by rw [cl]; omega, by rw [cl]; omega, fun H8 y g8 y0 y1 => ?_⟩
        rw [cl] at y1
        obtain ⟨y, rfl⟩ : ∃ z : Nat, y = (z : Int) := ⟨y.toNat, by omega⟩
        have g08 := (g06.step g7).step g8
        have eD8 := g8.lst eD7
        have rD8 := rD7.lsts (H' := H8) fun b xs _ e => g8.lst e
        obtain ⟨b, r, hb, hr', eb, hbm⟩ := at' rD8 lni (j := y) (by omega)
        have lr : r.length = m := oki.len r (List.mem_of_getElem? hr')
        refine ⟨D, _, _, .ref b, rfl, rfl, SqL.of eD8, at_by (j := y) rfl hbm, _, rfl, b, _, _, a, rfl, rfl, eb, ixN_j (by rw [List.length_map, lr]; omega), ?_⟩
        obtain ⟨h1, h2, h3, h4, h5⟩ := put H8 rx _ y a x b r eD8 rD8 oki lni g08 hb hr' (by omega)
        exact ⟨_, rfl, fin _ _ h1 h2 h3 h4 (h5.mono (by omega))⟩
      · exact ⟨_, rfl, fin H6 rx eD6 rD6 oki lni (g06.mono (by omega))⟩
end
end Ask

set_option maxHeartbeats 8000000
namespace Ask
open PySem L2 ClX LamX NdefX StX
theorem zzS_ok : isLs zzS = true ∧ zzS.length ≤ 13 ∧ Asc zzS := by
  refine ⟨by decide +kernel, by decide +kernel, ?_⟩
  have : zzS.cps.toList.all (fun c => decide (c < 128)) = true := by decide +kernel
  intro c hc
  exact of_decide_eq_true (List.all_eq_true.mp this c hc)
theorem lts_more {ys : List Str} (h : Lts ys) (l : ys.length ≤ 11) (n : ∀ z ∈ ys, z ≠ zzS) : Lts (ys ++ [zzS]) := by
  refine ⟨?_, fun y hy => ?_, by rw [List.length_append]; show 1 ≤ ys.length + 1; omega, by rw [List.length_append]; show ys.length + 1 ≤ 12; omega⟩
  · rw [List.nodup_append]
    refine ⟨h.nd, by simp, fun a ha b hb => ?_⟩
    rw [List.mem_singleton.mp hb]
    exact n a ha
  · rcases List.mem_append.mp hy with hy | hy
    · exact h.ok y hy
    · rw [List.mem_singleton.mp hy]
      exact zzS_ok
def wideR (rs : List (List Nat)) : List (List Nat) := rs.map fun r => r ++ [0]
theorem good_aok {zs : List Str} (g : ∀ y ∈ zs, goodW y = true) (s : ∀ y ∈ zs, y.length ≤ 11) : ∀ ans : List Str, (∀ z ∈ ans, z ∈ zs) → ∀ z ∈ ans, shortL z.cps.toList = true ∧ z.length ≤ 500 := fun ans h z hz => ⟨good_short (g z (h z hz)), by have := s z (h z hz); omega⟩
theorem tabs_kp {T : List NTab} {H H' : Hp} {p : Addr} {kvs : List (Key × V)} (hT : TabsN T H) (k : Kp p H H') (hp : H p = some (.dK kvs)) : TabsN T H' := by
  rintro pq hpq
  obtain ⟨us, u1, u2, u3⟩ := hT pq hpq
  have off : ∀ b o, H b = some o → (∀ kvs, o ≠ .dK kvs) → H' b = some o := fun b o e n => k b o (fun z => by subst z; rw [hp] at e; exact n _ (Option.some.inj e).symm) e
  exact ⟨us, off _ _ u1 (fun _ z => nomatch z), u2, fun pos cv hc => let ⟨c0, e1, e2⟩ := u3 pos cv hc; ⟨c0, e1, off _ _ e2 (fun _ z => by unfold CodeO at z; cases z)⟩⟩
theorem tabs_go {T : List NTab} {H H' : Hp} {p c : Addr} {ns : List Int} {B : Nat} (hT : TabsN T H) (g : Go p c ns H H' B) : TabsN T H' := by
  obtain ⟨A, b, l, h, _⟩ := g.base
  exact tabs_kp hT g.kp h
theorem Pen.ext {c p : Addr} {ns : List Int} {H H' : Hp} {B : Nat} (h : Pen c ns H p B) (x : ExtN H H') : Pen c ns H' p B := by
  obtain ⟨b, l, h1, h2, h3, h4, h5⟩ := h
  exact ⟨b, l, x _ _ h1 (fun _ z => nomatch z), x _ _ h2 (fun _ z => nomatch z), h3, h4, h5⟩
/-- tuples, instances and what is frozen stand -/
structure Kpt (H H' : Hp) : Prop where
  t : ∀ b xs, H b = some (.tup xs) → H' b = some (.tup xs)
  i : ∀ b C dx fs, H b = some (.ins C dx fs) → H' b = some (.ins C dx fs)
  f : ∀ b o u, H b = some (.frz o u) → H' b = some (.frz o u)
theorem Kpt.sv {H H' : Hp} (s : Sv H H') : Kpt H H' := ⟨fun _ _ e => s.tup e, fun _ _ _ _ e => s.ins e, fun _ _ _ e => s.frz e⟩
theorem Kpt.put {H : Hp} {L : Addr} {xs : List V} {o : HO} (h : H L = some (.lst xs)) : Kpt H (upd H L o) :=
  ⟨fun b _ e => by rw [upd_ne (fun z => by subst z; rw [h] at e; cases e)]; exact e, fun b _ _ _ e => by rw [upd_ne (fun z => by subst z; rw [h] at e; cases e)]; exact e, fun b _ _ e => by rw [upd_ne (fun z => by subst z; rw [h] at e; cases e)]; exact e⟩
theorem Mde.kpt {CL m t : Addr} {H H' : Hp} {ys : List Str} (h : Mde CL H m t ys) (k : Kpt H H') : Mde CL H' m t ys := by
  obtain ⟨dx, o, h1, h2, h3⟩ := h
  exact ⟨dx, o, k.i _ _ _ _ h1, k.f _ _ _ h2, h3⟩
theorem ItmAt.kpt {K : PySem.W.Frag} {CL CS CI q : Addr} {H H' : Hp} {ys : List Str} {rs : List (List Nat)} {ans : List Str} {k : Str} {j : Option Nat} {d : Spk → Bool} (h : ItmAt K CL CS CI H q ys rs ans k j d) (s : Kpt H H') : ItmAt K CL CS CI H' q ys rs ans k j d := by
  rcases h with ⟨x, sv, ⟨dx, m, t, h1, h2⟩, r⟩ | ⟨lt, ks, ⟨dx, m, t, t2, h1, h2, h3⟩, r⟩
  · exact .inl ⟨x, sv, ⟨dx, m, t, s.i _ _ _ _ h1, h2.kpt s⟩, r⟩
  · exact .inr ⟨lt, ks, ⟨dx, m, t, t2, s.i _ _ _ _ h1, h2.kpt s, s.t _ _ h3⟩, r⟩
theorem DueP.kpt {H H' : Hp} {xs : List Spk} {v : V} (h : DueP H xs v) (s : Kpt H H') : DueP H' xs v := by
  rcases h with h | ⟨e, t, w, h1, h2, h3, h4⟩
  · exact .inl h
  · exact .inr ⟨e, t, w, h1, h2, s.t _ _ h3, s.t _ _ h4⟩
/-- an item of the law, with what is due of it -/
def IsAt (K : PySem.W.Frag) (CL CS CI : Addr) (H : Hp) (ys : List Str) (rs : List (List Nat)) (ans : List Str) (n1 f1 : Nat) (t : Addr) : Prop := ∃ (q : Addr) (due : V) (k : Str) (j : Option Nat) (d : Spk → Bool) (xs : List Spk), H t = some (.tup [.ref q, due]) ∧ ItmAt K CL CS CI H q ys rs ans k j d ∧ DueP H xs due ∧
  (∀ es, EsOf rs ys.length n1 f1 k j es → (es.filter d).head?.map (·.2) = xs.head?.map (·.2)) ∧ (∀ e ∈ xs, (e.2.1 = 0 ∨ e.2.1 = 1) ∧ (∀ x ∈ e.2.2, x < ys.length) ∧ e.2.2.length ≤ 100)
theorem IsAt.kpt {K : PySem.W.Frag} {CL CS CI t : Addr} {H H' : Hp} {ys : List Str} {rs : List (List Nat)} {ans : List Str} {n1 f1 : Nat} (h : IsAt K CL CS CI H ys rs ans n1 f1 t) (s : Kpt H H') : IsAt K CL CS CI H' ys rs ans n1 f1 t := by
  obtain ⟨q, due, k, j, d, xs, h1, h2, h3, r⟩ := h
  exact ⟨q, due, k, j, d, xs, s.t _ _ h1, h2.kpt s, h3.kpt s, r⟩
theorem seqT_mid {t u : TS} {D : Ends} {σ : L2.St} {H : Hp} (R : L2.St → Hp → Prop) (h : ∀ K' : L2.St → Hp → Prop, (∀ σ' H', R σ' H' → K' σ' H') → t { D with nx := K' } σ H) (k : ∀ σ' H', R σ' H' → u D σ' H') : tSeq t u D σ H := h _ k
def rowD (r : List Nat) : PyData := .tuple (r.map ndD)
theorem lay_nats (ks : List Nat) : PyData.canLayAll0 (ks.map ndD) = true ∧ PyData.depthAll (ks.map ndD) ≤ 0 := by
  induction ks with
  | nil => exact ⟨rfl, Nat.zero_le _⟩
  | cons k ks ih =>
    refine ⟨?_, Nat.max_le.mpr ⟨Nat.le_refl _, ih.2⟩⟩
    show (PyData.canLay0 (ndD k) && PyData.canLayAll0 (ks.map ndD)) = true
    rw [ih.1]
    rfl
theorem lay_rows (rs : List (List Nat)) : PyData.canLayAll0 (rs.map rowD) = true ∧ PyData.depthAll (rs.map rowD) ≤ 1 := by
  induction rs with
  | nil => exact ⟨rfl, Nat.zero_le _⟩
  | cons r rs ih =>
    have h := lay_nats r
    refine ⟨?_, Nat.max_le.mpr ⟨?_, ih.2⟩⟩
    · show (PyData.canLayAll0 (r.map ndD) && PyData.canLayAll0 (rs.map rowD)) = true
      rw [ih.1, h.1]
      rfl
    · show PyData.depthAll (r.map ndD) + 1 ≤ 1
      have := h.2
      omega
theorem shaped_rows (rs : List (List Nat)) : SeqAt.shaped (.tuple (rs.map rowD)) = true := shaped_of (lay_rows rs).1 (by show PyData.depthAll _ + 1 ≤ 64; have := (lay_rows rs).2; omega)
theorem dp_rows {K : PySem.W.Frag} {H : Hp} : ∀ (xs : List V) (rs : List (List Nat)), xs.length = rs.length → (∀ (i : Nat) (v : V) (r : List Nat), xs[i]? = some v → rs[i]? = some r → ∃ b, v = .ref b ∧ SqT K H b (r.map vN)) → DpAll K H xs (rs.map rowD)
  | [], [], _, _ => .nil
  | [], _ :: _, e, _ => nomatch e
  | _ :: _, [], e, _ => nomatch e
  | x :: xs, r :: rs, e, h => by
    obtain ⟨b, rfl, hb⟩ := h 0 x r rfl rfl
    exact .cons (.tup hb (dp_natsN r)) (dp_rows xs rs (Nat.succ.inj e) fun i v r' a b => h (i + 1) v r' a b)
/-- rows as tuples -/
def RowsT (H : Hp) (bs : List Addr) (rs : List (List Nat)) : Prop := bs.length = rs.length ∧ ∀ (i : Nat) (b : Addr) (r : List Nat), bs[i]? = some b → rs[i]? = some r → H b = some (.tup (r.map vN))
theorem RowsT.tups {H H' : Hp} {bs : List Addr} {rs : List (List Nat)} (h : RowsT H bs rs) (k : ∀ b xs, H b = some (.tup xs) → H' b = some (.tup xs)) : RowsT H' bs rs := ⟨h.1, fun i b r a c => k _ _ (h.2 i b r a c)⟩
theorem RowsT.snoc {H : Hp} {gs : List Addr} {es : List (List Nat)} {g : Addr} {e : List Nat} (h : RowsT H gs es) (w : H g = some (.tup (e.map vN))) : RowsT H (gs ++ [g]) (es ++ [e]) := by
  refine ⟨by rw [List.length_append, List.length_append, h.1]; rfl, fun i a x h1 h2 => ?_⟩
  by_cases c : i < gs.length
  · rw [List.getElem?_append_left c] at h1
    rw [List.getElem?_append_left (by rw [← h.1]; exact c)] at h2
    exact h.2 i a x h1 h2
  · rw [List.getElem?_append_right (Nat.le_of_not_lt c)] at h1
    rw [List.getElem?_append_right (by rw [← h.1]; exact Nat.le_of_not_lt c), ← h.1] at h2
    cases z : i - gs.length with
    | succ m => rw [z] at h1; simp at h1
    | zero =>
      rw [z] at h1 h2
      obtain rfl : g = a := by simpa using h1
      obtain rfl : e = x := by simpa using h2
      exact w
section
variable {P : Program} {w : World} {K : PySem.W.Frag} {mg : Str → Option Value} {base : Heap}
def spLaw (T : List NTab) (K : PySem.W.Frag) : Sp := fun vs H Q _ => ∃ (a : Addr) (ns : List Int), vs = [.ref a] ∧ TabsN T H ∧ SqL K H a (ns.map V.int) ∧ ns.length ≤ 63 ∧ ∀ H', Q (.bl true) H'

theorem ok_law {TT : List NTab} {nm : Nat → Nat → Str} {u2 u3 : Value} {f f0 f1 f2 f3 f4 f5 f6 f7 f8 f9 g1 g2 g3 g4 g5 fL fA fS fI co PT CL CH CS CI CM CO CB CE CK CT CN CK2 CA2 CM2 CT2 : Addr} {fd fd0 fd1 fd2 fd3 fd4 fd5 fd6 fd7 fd8 fd9 gd1 gd2 gd3 gd4 gd5 fdL fdA fdS fdI : FuncData}
    (F : Fun K "law" "law" s_law f fd) (T : Blt mg) (hC : MacC K CM) (hL0 : Cls K CL) (nW : NoAttr K CL "words")
    (TB : TabB base mg co PT) (hcode : fd.code = .ref co) (hmT : (PT, nm) ∈ TT) (hn : ∀ i j, nm i j = "law.<locals>.<lambda>") (hu : ∀ p ∈ TT, p.1 = PT → p.2 = nm)
    (G__law_pen : FnOk P w K mg base CX0 1 f0 fd0 ["_law_script"] (spPen K)) (A__law_pen : At K mg "_law_pen" f0 fd0 ["_law_script"])
    (G__law_draw : FnOk P w K mg base CX0 1 f1 fd1 ["_law_pen_here", "_law_many"] spDraw) (A__law_draw : At K mg "_law_draw" f1 fd1 ["_law_pen_here", "_law_many"])
    (G__law_letters : FnOk P w K mg base CX0 4 f2 fd2 ["_law_pen_here", "_law_least", "_law_most"] spLets) (A__law_letters : At K mg "_law_letters" f2 fd2 ["_law_pen_here", "_law_least", "_law_most"])
    (G__law_words : FnOk P w K mg base CX0 3 f3 fd3 ["_law_pen_here", "_law_many"] spWords) (A__law_words : At K mg "_law_words" f3 fd3 ["_law_pen_here", "_law_many"])
    (G__law_answering : FnOk P w K mg base CX0 4 f4 fd4 ["_law_pen_here", "_law_letters_here", "_law_most", "_law_pool"] (spAnsw K)) (A__law_answering : At K mg "_law_answering" f4 fd4 ["_law_pen_here", "_law_letters_here", "_law_most", "_law_pool"])
    (G__law_tame : FnOk P w K mg base CX0 3 f5 fd5 ["_law_pen_here", "_law_rows"] (spTame K)) (A__law_tame : At K mg "_law_tame" f5 fd5 ["_law_pen_here", "_law_rows"])
    (G__law_program : FnOk P w K mg base CX0 6 f6 fd6 ["_law_pen_here", "_law_letters_here", "_law_rows", "_law_answers", "_law_starts"] (spProg K CL CM)) (A__law_program : At K mg "_law_program" f6 fd6 ["_law_pen_here", "_law_letters_here", "_law_rows", "_law_answers", "_law_starts"])
    (G__law_any_said : FnOk P w K mg base CX0 3 f7 fd7 ["_law_pen_here", "_law_many"] (spAny K)) (A__law_any_said : At K mg "_law_any_said" f7 fd7 ["_law_pen_here", "_law_many"])
    (G__law_sentence : FnOk P w K mg base CX0 9 f8 fd8 ["_law_letters_here", "_law_said"] (spLSen K CL CS)) (A__law_sentence : At K mg "_law_sentence" f8 fd8 ["_law_letters_here", "_law_said"])
    (G__law_state_due : FnOk P w K mg base CX0 2 g1 gd1 ["_law_rows", "_law_starts", "_law_said"] (spSDue K)) (A__law_state_due : At K mg "_law_state_due" g1 gd1 ["_law_rows", "_law_starts", "_law_said"])
    (G__law_pick : FnOk P w K mg base CX0 2 g2 gd2 ["_law_pen_here", "_law_items"] (spPick K)) (A__law_pick : At K mg "_law_pick" g2 gd2 ["_law_pen_here", "_law_items"])
    (G__law_shuffled : FnOk P w K mg base CX0 2 g3 gd3 ["_law_pen_here", "_law_items"] (spShuf K)) (A__law_shuffled : At K mg "_law_shuffled" g3 gd3 ["_law_pen_here", "_law_items"])
    (G__law_limit : FnOk P w K mg base CX0 7 g4 gd4 ["_law_letters_here", "_law_limit_here"] (spLLim K CL CI)) (A__law_limit : At K mg "_law_limit" g4 gd4 ["_law_letters_here", "_law_limit_here"])
    (G__law_answer_due : FnOk P w K mg base CX0 2 g5 gd5 ["_law_rows", "_law_answers", "_law_starts", "_law_limit_here"] (spADue K)) (A__law_answer_due : At K mg "_law_answer_due" g5 gd5 ["_law_rows", "_law_answers", "_law_starts", "_law_limit_here"])
    (G__law_is_broken : FnOk P w K mg base CX0 11 fA fdA ["_law_machine_here", "_law_item", "_law_due"] (spIsBr TT K CL CS CI CM)) (A__law_is_broken : At K mg "_law_is_broken" fA fdA ["_law_machine_here", "_law_item", "_law_due"])
    (G_refused : FnOkH P w K mg base (L2.CX P w) CX0 11 12 f9 fd9 ["_law_deed"] (spRefd CO)) (A_refused : At K mg "_law_is_refused" f9 fd9 ["_law_deed"])
    (ML : Mk K CL fL) (mL : mg "Letters" = some (.ref CL)) (bL : Binds K fdL ["self", "words"] []) (GL : FnOk P w K mg base (L2.CX P w) 4 fL fdL ["self", "words"] (spLet K CL CB CE))
    (MS : Mk K CS fS) (mS : mg "Sentence" = some (.ref CS)) (r2 : RelV .non u2) (bS : Binds K fdS ["self", "letters", "kind", "first", "second"] [u2]) (GS : FnOk P w K mg base (L2.CX P w) 7 fS fdS ["self", "letters", "kind", "first", "second"] (spSen K CL CS CK CT CN))
    (MI : Mk K CI fI) (mI : mg "Limit" = some (.ref CI)) (r3 : RelV .non u3) (bI : Binds K fdI ["self", "letters", "kind", "answers", "letter"] [u3]) (GI : FnOk P w K mg base (L2.CX P w) 5 fI fdI ["self", "letters", "kind", "answers", "letter"] (spLim K CL CI CK2 CA2 CM2 CT2))
    {fB : Addr} {fdB : FuncData} (GB : FnOk P w K mg base (L2.CX P w) 10 fB fdB ["self", "sentence"] (spBreaks TT K CL CH CS CI CM CO)) (bB : Binds K fdB ["self", "sentence"] []) (mB : Meth K CM "breaks" fB) :
    FnOk P w K mg base CX0 13 f fd ["_law_script"] (spLaw TT K) := by
  refine fun_okC F sc_law (fun vs H Q E h => ?_) (fun A outer s H vs Q E hr h => ?_)
  · obtain ⟨a, ns, rfl, _⟩ := h
    rfl
  · obtain ⟨a, ns, rfl, hT, hS, hl, kq⟩ := h
    have h__law_pen := hr.mono (j := 1) (by decide)
    have h__law_draw := hr.mono (j := 1) (by decide)
    have h__law_letters := hr.mono (j := 4) (by decide)
    have h__law_words := hr.mono (j := 3) (by decide)
    have h__law_answering := hr.mono (j := 4) (by decide)
    have h__law_tame := hr.mono (j := 3) (by decide)
    have h__law_program := hr.mono (j := 6) (by decide)
    have h__law_any_said := hr.mono (j := 3) (by decide)
    have h__law_sentence := hr.mono (j := 9) (by decide)
    have h__law_state_due := hr.mono (j := 2) (by decide)
    have h__law_pick := hr.mono (j := 2) (by decide)
    have h__law_shuffled := hr.mono (j := 2) (by decide)
    have h__law_limit := hr.mono (j := 7) (by decide)
    have h__law_answer_due := hr.mono (j := 2) (by decide)
    have h__law_is_broken := hr.mono (j := 11) (by decide)
    have h_refused := hr.mono (j := 12) (by decide)
    have h5 := hr.mono (j := 5) (by decide)
    have h8 := hr.mono (j := 8) (by decide)
    have h6 := hr.mono (j := 6) (by decide)
    have z1 : (100000 : Nat) ≤ sizeLine := by decide
    refine ⟨_, PSs.nox (pss_cons (ps_set (i := 1) sc_law.nd rfl (Or.inl rfl) (pe_call G__law_pen (by exact h__law_pen) (by rfl) A__law_pen.m A__law_pen.k A__law_pen.b .nil pass0 (pa_cons (pv 0) pa_nil)))
      (pss_cons (ps_par (i := 2) (j := 3) rfl sc_law.nd rfl rfl (by decide) rfl rfl (pa_cons (pe_make ML GL h5 (by rfl) mL bL .nil passE (pa_cons (pe_call G__law_letters (by exact h__law_letters) (by rfl) A__law_letters.m A__law_letters.k A__law_letters.b .nil pass0 (pa_cons (pv 1) (pa_cons pe_int (pa_cons pe_int pa_nil)))) pa_nil)) (pa_cons (pe_call G__law_words (by exact h__law_words) (by rfl) A__law_words.m A__law_words.k A__law_words.b .nil pass0 (pa_cons (pv 1) (pa_cons pe_int pa_nil))) pa_nil)) (by rfl))
      (pss_cons (ps_asg (pe_call G__law_answering (by exact h__law_answering) (by rfl) A__law_answering.m A__law_answering.k A__law_answering.b .nil pass0 (pa_cons (pv 1) (pa_cons (pe_fld (pv 2) rfl) (pa_cons pe_int (pa_cons (pv 3) pa_nil))))) (pg_tup rfl (pgs_cons (pg_name (i := 4) sc_law.nd rfl (Or.inl rfl)) (pgs_cons (pg_name (i := 5) sc_law.nd rfl (Or.inl rfl)) (pgs_cons (pg_name (i := 6) sc_law.nd rfl (Or.inl rfl)) pgs_nil)))))
      (pss_cons (ps_set (i := 4) sc_law.nd rfl (Or.inl rfl) (pe_ifExp (pt_cmpR op_gt (pe_call G__law_draw (by exact h__law_draw) (by rfl) A__law_draw.m A__law_draw.k A__law_draw.b .nil pass0 (pa_cons (pv 1) (pa_cons pe_int pa_nil))) pe_int (nomark _)) (pe_call G__law_tame (by exact h__law_tame) (by rfl) A__law_tame.m A__law_tame.k A__law_tame.b .nil pass0 (pa_cons (pv 1) (pa_cons (pv 4) pa_nil))) (pv 4)))
      (pss_cons (ps_asg (pe_tup (pa_cons (pe_call G__law_program (by exact h__law_program) (by rfl) A__law_program.m A__law_program.k A__law_program.b .nil pass0 (pa_cons (pv 1) (pa_cons (pv 2) (pa_cons (pv 4) (pa_cons (pv 5) (pa_cons (pv 6) pa_nil)))))) (pa_cons (pe_callB call_len_seq (by rfl) T.n_len (by decide +kernel) (pa_cons (pe_fld (pv 2) rfl) pa_nil)) pa_nil))) (pg_tup rfl (pgs_cons (pg_name (i := 7) sc_law.nd rfl (Or.inr rfl)) (pgs_cons (pg_name (i := 8) sc_law.nd rfl (Or.inl rfl)) pgs_nil))))
      (pss_cons (ps_set (i := 9) sc_law.nd rfl (Or.inl rfl) (pe_lst pa_nil))
      (pss_cons (ps_for PassesOwn.never rfl (pi_range1 rfl T.n_range (pa_cons pe_int pa_nil)) (pg_name (i := 10) sc_law.nd rfl (Or.inl rfl)) (pss_one (ps_if (pt_cmpR op_gt (pe_call G__law_draw (by exact h__law_draw) (by rfl) A__law_draw.m A__law_draw.k A__law_draw.b .nil pass0 (pa_cons (pv 1) (pa_cons pe_int pa_nil))) pe_int (nomark _)) (pss_cons (ps_set (i := 11) sc_law.nd rfl (Or.inl rfl) (pe_call G__law_any_said (by exact h__law_any_said) (by rfl) A__law_any_said.m A__law_any_said.k A__law_any_said.b .nil pass0 (pa_cons (pv 1) (pa_cons (pv 8) pa_nil))))
      (pss_one (ps_expr (pe_bm PySem.F.plainAttrs_list PySem.F.slot_list_append PySem.F.type_list_append mt_append (pv 9) (pa_cons (pe_tup (pa_cons (pe_call G__law_sentence (by exact h__law_sentence) (by rfl) A__law_sentence.m A__law_sentence.k A__law_sentence.b .nil pass0 (pa_cons (pv 2) (pa_cons (pv 11) pa_nil))) (pa_cons (pe_call G__law_state_due (by exact h__law_state_due) (by rfl) A__law_state_due.m A__law_state_due.k A__law_state_due.b .nil pass0 (pa_cons (pv 4) (pa_cons (pv 6) (pa_cons (pv 11) pa_nil)))) pa_nil))) pa_nil))))) (pss_cons (ps_set (i := 12) sc_law.nd rfl (Or.inl rfl) (pe_call G__law_pick (by exact h__law_pick) (by rfl) A__law_pick.m A__law_pick.k A__law_pick.b .nil pass0 (pa_cons (pv 1) (pa_cons (pe_lst (pa_cons pe_str (pa_cons pe_str (pa_cons pe_str pa_nil)))) pa_nil))))
      (pss_cons (ps_set (i := 13) sc_law.nd rfl (Or.inl rfl) (pe_ifExp (pt_cmpR op_eq (pv 12) pe_str (nomark _)) (pe_call G__law_draw (by exact h__law_draw) (by rfl) A__law_draw.m A__law_draw.k A__law_draw.b .nil pass0 (pa_cons (pv 1) (pa_cons (pv 8) pa_nil))) pe_non))
      (pss_cons (ps_set (i := 14) sc_law.nd rfl (Or.inl rfl) (pe_tup (pa_cons (pv 12) (pa_cons (pv 13) (pa_cons (pe_slice sl_list (pe_call G__law_shuffled (by exact h__law_shuffled) (by rfl) A__law_shuffled.m A__law_shuffled.k A__law_shuffled.b .nil pass0 (pa_cons (pv 1) (pa_cons (pv 3) pa_nil))) po_none (po_some (pe_op op_add pe_int (pe_call G__law_draw (by exact h__law_draw) (by rfl) A__law_draw.m A__law_draw.k A__law_draw.b .nil pass0 (pa_cons (pv 1) (pa_cons pe_int pa_nil)))))) pa_nil)))))
      (pss_one (ps_expr (pe_bm PySem.F.plainAttrs_list PySem.F.slot_list_append PySem.F.type_list_append mt_append (pv 9) (pa_cons (pe_tup (pa_cons (pe_call G__law_limit (by exact h__law_limit) (by rfl) A__law_limit.m A__law_limit.k A__law_limit.b .nil pass0 (pa_cons (pv 2) (pa_cons (pv 14) pa_nil))) (pa_cons (pe_call G__law_answer_due (by exact h__law_answer_due) (by rfl) A__law_answer_due.m A__law_answer_due.k A__law_answer_due.b .nil pass0 (pa_cons (pv 4) (pa_cons (pv 5) (pa_cons (pv 6) (pa_cons (pv 14) pa_nil))))) pa_nil))) pa_nil))))))))))
      (pss_cons (ps_for PassesOwn.never rfl (pi_list (pe_op op_cat (pv 9) (pe_slice sl_list (pv 9) po_none (po_some pe_int)))) (pg_tup rfl (pgs_cons (pg_name (i := 15) sc_law.nd rfl (Or.inl rfl)) (pgs_cons (pg_name (i := 16) sc_law.nd rfl (Or.inl rfl)) pgs_nil))) (pss_one (ps_if (pt_not (pt_val (pe_call G__law_is_broken (by exact h__law_is_broken) (by rfl) A__law_is_broken.m A__law_is_broken.k A__law_is_broken.b .nil pass0 (pa_cons (pv 7) (pa_cons (pv 15) (pa_cons (pv 16) pa_nil)))))) (pss_one (ps_ret pe_bl)) pss_nil)))
      (pss_cons (ps_set (i := 17) sc_law.nd rfl (Or.inl rfl) (pe_make ML GL h5 (by rfl) mL bL .nil passE (pa_cons (pe_op op_cat (pe_callTy call_list_of (by rfl) T.n_list (by decide +kernel) (pa_cons (pe_fld (pv 2) rfl) pa_nil)) (pe_lst (pa_cons pe_str pa_nil))) pa_nil)))
      (pss_cons (ps_set (i := 18) sc_law.nd rfl (Or.inr rfl) (pe_call G__law_pick (by exact h__law_pick) (by rfl) A__law_pick.m A__law_pick.k A__law_pick.b .nil pass0 (pa_cons (pv 1) (pa_cons (pe_lst (pa_cons (pe_make MS GS h8 (by rfl) mS bS (.cons r2 .nil) passE (pa_cons (pv 17) (pa_cons pe_str (pa_cons (pe_ix ix_tup (pe_fld (pv 2) rfl) pe_int (fun _ _ => rfl)) pa_nil)))) (pa_cons (pe_make MI GI h6 (by rfl) mI bI (.cons r3 .nil) passE (pa_cons (pv 17) (pa_cons pe_str (pa_cons (pv 3) pa_nil)))) pa_nil))) pa_nil))))
      (pss_one (ps_ret (pe_and (pe_callH (E := E0) (L := fun σ f F sp => ∃ c', F = LF_l 0 ((PyProof.Rows.envOfC "law" (defScope s_law) s.heap.objs.size f fd.code).qual ++ "<lambda>") (cloFrom (PyProof.Rows.envOfC "law" (defScope s_law) s.heap.objs.size f fd.code).cells (lamS (defScope s_law) (lamL 0)).names []) none c' ∧ sp = spLam1 TT K CL CS CI CM CO ([7, 18].map (slotAt σ))) G_refused (refd_mono CO) ?_ (by exact h_refused) (by rfl) A_refused.m A_refused.k A_refused.b pass0 (pa_cons (pe_lamN (T := TT) (nm := nm) TB hcode hmT ?_ hu ?_ rfl) pa_nil)) (pe_one (pe_cmpR (op_eqD hr.units) (pe_fld (pv 7) rfl) (pe_callTy call_tuple_of (by rfl) T.n_tuple (by decide +kernel) (pa_cons (pe_lc (own := [("_law_row", 19)]) rfl sc_law.nd (pi_list (pv 4)) (blkOk_by (N := ["_law_script", "_law_pen_here", "_law_letters_here", "_law_pool", "_law_rows", "_law_answers", "_law_starts", "_law_machine_here", "_law_many", "_law_items", "_law_turn", "_law_said", "_law_kind", "_law_letter", "_law_limit_here", "_law_item", "_law_due", "_law_other", "_law_strange", "_law_row"]) (sc := defScope s_law) (by decide +kernel)) (fun _ _ _ _ _ => (pg_name (i := 19) sc_law.nd rfl (Or.inl rfl))) (fun _ _ _ _ _ => pts_nil) (fun _ _ _ _ _ => (pe_callTy (show CallR _ _ (rTupS K) from call_tupS) (by rfl) T.n_tuple (by decide +kernel) (pa_cons (pv 19) pa_nil)))) pa_nil)) (nomark _)))))))))))))))), ?_⟩
    · rintro pins σ H s I f F sp ⟨c', rfl, rfl⟩
      exact lamAt_of (lok_l1 hC GB bB mB) (Caps.made I.ok (ndef_free nb_l1) (ndef_fr nb_l1) rfl) I
    · exact (hn _ _).trans (by rfl)
    · exact ndef_free nb_l1
    refine ⟨_, rfl, a, ns, rfl, hS, hl, fun H0 p c s0 hp0 hpen => ?_⟩
    have T0 := hT.ext s0
    clear hT
    refine ⟨_, rfl, p, c, ns, _, 1, 4, rfl, hpen, by omega, by decide, by decide, by decide, fun H2 q ys g2 hq0 hL lts l1 l4 zz => ?_⟩
    refine fun x dx hx hdx hne => ?_
    refine let_made lts (.inl (SqL.of hL)) hx hdx hne fun H3 t s3 hM => ⟨rfl, ?_⟩
    replace g2 := g2.same s3
    refine ⟨_, rfl, p, c, ns, 3, _, rfl, g2.pen, by omega, by decide, by decide, fun H4 pl zs g4 hpl hP pl3 znd zgo zsh => ⟨_, _, rfl, ?_⟩⟩
    replace g2 := g2.step g4
    replace hM := mde_sv (Sv.go g4) hM
    have zl : zs.length = 3 := by omega
    have yl : ys.length ≤ 4 := by omega
    have y0 := lts.l0
    have aokz : ∀ (ans : List Str), (∀ z ∈ ans, z ∈ zs) → ∀ z ∈ ans, shortL z.cps.toList = true ∧ z.length ≤ 500 := good_aok zgo zsh
    try dsimp only
    obtain ⟨dl, ol, hm, ht, hol⟩ := id hM
    refine ⟨_, rfl, _, rfl, x, CL, dl, _, _, rfl, hm, hL0, nW, rfl, _, rfl, p, c, t, pl, ns, _, ys, zs, rfl, g2.pen, by omega, .inl (.inr ⟨ol, ht⟩), by omega, SqL.of hP, by omega, by omega, fun H5 t1 R A0 S0 b1 rs ans n1 f1 g5 d1 k1 => ?_⟩
    replace g2 := g2.step g5
    have v5 := Sv.go g5
    replace hM := mde_sv v5 hM
    replace hP := v5.lst hP
    clear v5 g5 hm ht hol g4 hL
    try dsimp only
    refine ⟨t1, _, rfl, SqT.of d1.t, rfl, _, _, rfl, _, _, rfl, _, _, rfl, rfl, ?_⟩
    try dsimp only
    have gB := g2.mono (B := 5000) (by omega)
    refine seqT_mid (fun σ' H' => ∃ (R : Addr) (b1 : List Addr) (rs : List (List Nat)), σ' = [some (.ref a), some (.ref p), some (.ref x), some (.ref pl), some (.ref R), some (.ref A0), some (.ref S0), none, none, none, none, none, none, none, none, none, none, none, none, none] ∧ Go p c ns H0 H' 5100 ∧ Sv H5 H' ∧
      H' R = some (.lst (b1.map V.ref)) ∧ RowsL H' b1 rs ∧ DescOk ys.length zs rs ans n1 f1) (fun K' hK => ?_) ?_
    · refine ⟨_, rfl, p, c, ns, 3, _, rfl, gB.pen, by omega, by decide, by decide, fun H7 r g7 r0 r1 => ?_⟩
      replace gB := gB.step g7
      have v7 := Sv.go g7
      have d1' := d1.sv v7
      refine ⟨_, _, rfl, rfl, _, rfl, ite2 (fun _ => ?_) (fun _ => ⟨_, rfl, hK _ _ ⟨R, b1, rs, rfl, gB.mono (by omega), v7, d1'.R, d1'.rows, k1⟩⟩)⟩
      refine ⟨_, rfl, _, rfl, p, c, R, ns, _, ys.length, b1, rs, rfl, gB.pen, by omega, d1'.R, d1'.rows, k1.rows, by omega, by omega, k1.l0, k1.l6, fun H8 R' cs rs' g8 e8 r8 ok8 ln8 => hK _ _ ⟨R', cs, rs', rfl, (gB.step g8).mono (by omega), v7.trans (Sv.go g8), e8, r8, ?_⟩⟩
      exact ⟨ok8, by rw [ln8]; exact k1.l0, by rw [ln8]; exact k1.l6, by rw [ln8]; exact k1.alen, k1.a, by rw [ln8]; exact k1.n1, by rw [ln8]; exact k1.n2⟩
    have hA5 := d1.A
    have hS5 := d1.S
    clear k1 gB
    rintro σ' H6 ⟨R, b1, rs, rfl, g6, v6, hR, hrow, k1⟩
    have hA := v6.lst hA5
    have hS := v6.lst hS5
    replace hM := mde_sv v6 hM
    replace hP := v6.lst hP
    have T6 := tabs_go T0 g6
    clear hA5 hS5 v6 g2 d1 hx hdx hne hq0
    try dsimp only
    have m1 : MacOk ys rs ans n1 f1 := ⟨lts, k1.rows, by have := k1.l6; omega, k1.alen, k1.n1, k1.n2⟩
    have a1 := aokz ans k1.a
    refine ⟨_, rfl, _, rfl, _, rfl, _, rfl, _, rfl, p, c, x, t, R, A0, S0, ns, _, ys, b1, rs, ans, n1, f1, rfl, g6.pen, by omega, hM, hR, hrow, hA, hS, m1, a1, fun H7 M1 g7 hM1 => ?_⟩
    have v7 := Sv.go g7
    replace g6 := g6.step g7
    replace hM := mde_sv v7 hM
    replace hP := v7.lst hP
    replace hA := v7.lst hA
    replace hS := v7.lst hS
    replace hR := v7.lst hR
    replace hrow := hrow.lsts (H' := H7) fun b xs _ e => v7.lst e
    replace T6 := tabs_go T6 g7
    clear v7 g7
    obtain ⟨dl, ol, hm, ht, hol⟩ := id hM
    refine ⟨_, rfl, x, CL, dl, _, _, rfl, hm, hL0, nW, rfl, t, _, rfl, .inr (.inl (.inr ⟨ol, ht⟩)), by show 2 ≤ sizeLine; omega, fun tp htp => ?_⟩
    have sp := Ask.Same.made1 (o := .tup [.ref M1, .int ((ys.map V.str).length : Nat)]) (Same.refl H7) htp
    have ep : upd H7 tp (.tup [.ref M1, .int ((ys.map V.str).length : Nat)]) tp = some (.tup [.ref M1, .int ((ys.map V.str).length : Nat)]) := upd_same
    generalize upd H7 tp (.tup [.ref M1, .int ((ys.map V.str).length : Nat)]) = H8 at sp ep ⊢
    refine ⟨tp, _, rfl, SqT.of ep, rfl, _, _, rfl, _, _, rfl, rfl, ?_⟩
    have v8 := Sv.of sp
    replace g6 := g6.same sp
    replace hM := mde_sv v8 hM
    replace hM1 := mac_sv v8 hM1
    replace hP := v8.lst hP
    replace hA := v8.lst hA
    replace hS := v8.lst hS
    replace hR := v8.lst hR
    replace hrow := hrow.lsts (H' := H8) fun b xs _ e => v8.lst e
    replace T6 := T6.ext sp
    clear v8 sp ep htp hm ht hol dl ol
    try dsimp only
    rw [List.length_map]
    have pb := g6.pen
    refine ⟨Nat.zero_le _, fun L hL => ?_⟩
    have gb := (Go.refl pb).new (o := .lst []) hL
    have eL0 : upd H8 L (.lst []) L = some (.lst ([].map V.ref)) := upd_same
    refine ⟨16, rfl, by decide, by decide, for_range (lo := 0) (n := 16) (fun i σ' H' => ∃ (ts : List Addr) (o10 o11 o12 o13 o14 : Option V), σ' = [some (.ref a), some (.ref p), some (.ref x), some (.ref pl), some (.ref R), some (.ref A0), some (.ref S0), some (.ref M1), some (.int (ys.length : Nat)), some (.ref L), o10, o11, o12, o13, o14, none, none, none, none, none] ∧
      Go p c ns H8 H' (6000 + 400 * i) ∧ H' L = some (.lst (ts.map V.ref)) ∧ ts.length ≤ i ∧ ∀ t ∈ ts, IsAt K CL CS CI H' ys rs ans n1 f1 t) ⟨[], none, none, none, none, none, rfl, gb.mono (by omega), eL0, Nat.le_refl _, fun _ h => nomatch h⟩ ?_ ?_⟩
    · rintro i σ' H1 hi ⟨ts, o10, o11, o12, o13, o14, rfl, g1, eL, tl, its⟩
      have l6 := k1.l6
      refine ⟨_, rfl, p, c, ns, 3, _, rfl, g1.pen, by omega, by decide, by decide, fun H2 r g2 r0 r1 => ?_⟩
      have g12 := g1.step g2
      have eL2 := g2.lst eL
      have its2 : ∀ t ∈ ts, IsAt K CL CS CI H2 ys rs ans n1 f1 t := fun t h => (its t h).kpt (.sv (Sv.go g2))
      -- what is put behind the list
      have fin : ∀ (σ' : L2.St) (H' : Hp) (tt : Addr) (o10 o11 o12 o13 o14 : Option V), σ' = [some (.ref a), some (.ref p), some (.ref x), some (.ref pl), some (.ref R), some (.ref A0), some (.ref S0), some (.ref M1), some (.int (ys.length : Nat)), some (.ref L), o10, o11, o12, o13, o14, none, none, none, none, none] →
        Go p c ns H8 H' (6000 + 400 * i + 300) → Sv H2 H' → IsAt K CL CS CI H' ys rs ans n1 f1 tt → ∃ (ts' : List Addr) (o10 o11 o12 o13 o14 : Option V), σ' = [some (.ref a), some (.ref p), some (.ref x), some (.ref pl), some (.ref R), some (.ref A0), some (.ref S0), some (.ref M1), some (.int (ys.length : Nat)), some (.ref L), o10, o11, o12, o13, o14, none, none, none, none, none] ∧
          Go p c ns H8 (upd H' L (.lst (ts.map V.ref ++ [.ref tt]))) (6000 + 400 * (i + 1)) ∧ upd H' L (.lst (ts.map V.ref ++ [.ref tt])) L = some (.lst (ts'.map V.ref)) ∧ ts'.length ≤ i + 1 ∧ ∀ t ∈ ts', IsAt K CL CS CI (upd H' L (.lst (ts.map V.ref ++ [.ref tt]))) ys rs ans n1 f1 t := fun σ' H' tt o10 o11 o12 o13 o14 e g v ia => by
        have eL' := v.lst eL2
        refine ⟨ts ++ [tt], o10, o11, o12, o13, o14, e, (g.mut hL).mono (by omega), by rw [upd_same, List.map_append]; rfl, by rw [List.length_append]; show _ + 1 ≤ _; omega, fun t h => ?_⟩
        rcases List.mem_append.mp h with h | h
        · exact ((its2 t h).kpt (.sv v)).kpt (.put eL')
        · rw [List.mem_singleton.mp h]
          exact ia.kpt (.put eL')
      refine ⟨_, _, rfl, rfl, _, rfl, ite2 (fun _ => ?_) (fun _ => ?_)⟩
      · refine ⟨_, rfl, _, rfl, p, c, ns, ys.length, _, rfl, g12.pen, by omega, by omega, by omega, fun H3 st k a9 ob g3 hst so => ?_⟩
        have g13 := g12.step g3
        have v3 := Sv.go g13
        have hM3 := mde_sv v3 hM
        try dsimp only
        refine ⟨_, rfl, .inl ⟨rfl, _, SqL.of (g3.lst eL2)⟩, _, rfl, _, rfl, x, t, st, ys, k, a9, ob, rfl, hM3, lts.nd, hst, so, fun H9 q k' x' s' s9 enf hs => ?_⟩
        have v9 := v3.trans (.of s9)
        refine ⟨_, rfl, _, rfl, _, rfl, R, S0, st, b1, rs, n1, f1, ys.length, k, a9, ob, rfl, v9.lst hR, hrow.lsts (H' := H9) fun b xs _ e => v9.lst e, k1.rows, by omega, by omega, k1.n1, k1.n2, v9.lst hS, s9 _ _ hst, so, fun H10 v N s10 cl due => ?_⟩
        refine ⟨by show 2 ≤ sizeLine; omega, fun tt htt => ?_⟩
        have s11 := Ask.Same.made1 (o := .tup [.ref q, v]) (Same.refl H10) htt
        have e11 : upd H10 tt (.tup [.ref q, v]) tt = some (.tup [.ref q, v]) := upd_same
        generalize upd H10 tt (.tup [.ref q, v]) = H11 at s11 e11 ⊢
        have s311 := (s9.trans s10).trans s11
        have eL3 := s311 _ _ (g3.lst eL2)
        refine ⟨L, _, _, rfl, rfl, eL3, by rw [List.length_map]; omega, ?_⟩
        have nfo := (said_dr lts.nd so).nf
        obtain ⟨k2, x2, s2, enf2, hk2, hx2, so2⟩ := nfo
        rw [enf] at enf2
        simp only [List.cons.injEq, V.str.injEq, and_true] at enf2
        obtain ⟨rfl, rfl, rfl⟩ := enf2
        refine fin _ H11 tt _ _ _ _ _ rfl ((g13.same s311).mono (by omega)) ((Sv.go g3).trans (.of s311)) ⟨q, v, k', none, _, _, e11, .inl ⟨x', s', hs.same (s10.trans s11), hk2, hx2, so2, rfl, rfl⟩, due.p.kpt (.sv (.of s11)), fun es hE => sen_meets lts.nd so enf k1.rows k1.n1 k1.n2 cl hk2 hE, xs_ok k1.rows (by omega) (by omega) k1.n1 k1.n2 cl (fun _ z => nomatch z)⟩
      · refine ⟨_, rfl, by show 3 ≤ sizeLine; omega, fun l hl => ?_⟩
        have g3 := g12.new (o := .lst (LM.map V.str)) hl
        have s3 := Ask.Same.made1 (o := .lst (LM.map V.str)) (Same.refl H2) hl
        have e3 : upd H2 l (.lst (LM.map V.str)) l = some (.lst (LM.map V.str)) := upd_same
        generalize hH3 : upd H2 l (.lst (LM.map V.str)) = H3 at g3 s3 e3
        obtain rfl : upd H2 l _ = H3 := hH3
        refine ⟨p, c, ns, .ref l, _, rfl, g3.pen, by omega, .inl ⟨l, LM.map V.str, rfl, SqL.of e3, by decide, by decide, fun H4 v g4 hv => ?_⟩⟩
        obtain ⟨k, hk, rfl⟩ := List.mem_map.mp hv
        have g14 := g3.step g4
        have v14 := (Sv.of s3).trans (Sv.go g4)
        try dsimp only
        refine seqT_mid (fun σ' H' => ∃ oj : Option Nat, σ' = [some (.ref a), some (.ref p), some (.ref x), some (.ref pl), some (.ref R), some (.ref A0), some (.ref S0), some (.ref M1), some (.int (ys.length : Nat)), some (.ref L), some (.int (0 + (i : Int))), o11, some (.str k), some (sdV oj), o14, none, none, none, none, none] ∧ Go p c ns H8 H' (6000 + 400 * i + 5) ∧ Sv H2 H' ∧
          (k = "behind" → ∃ j, oj = some j ∧ j < ys.length) ∧ (k ≠ "behind" → oj = none)) (fun K' hK => ?_) ?_
        · refine ⟨_, rfl, rfl, _, rfl, ite2 (fun kb => ?_) (fun kb => ?_)⟩
          · refine ⟨_, rfl, _, rfl, p, c, ns, ys.length, _, rfl, g14.pen, by omega, by omega, by omega, fun H5 j g5 j0 j1 => ?_⟩
            obtain ⟨j, rfl⟩ : ∃ y : Nat, j = (y : Int) := ⟨j.toNat, by omega⟩
            exact hK _ _ ⟨some j, rfl, (g14.step g5).mono (by omega), v14.trans (Sv.go g5), fun _ => ⟨j, rfl, by omega⟩, fun z => absurd (V.str.inj (of_decide_eq_true kb)) z⟩
          · exact hK _ _ ⟨none, rfl, g14.mono (by omega), v14, fun z => absurd (decide_eq_true (congrArg V.str z)) kb, fun _ => rfl⟩
        rintro σ' H5 ⟨oj, rfl, g5, v5, jb, jn⟩
        try dsimp only
        have hP5 := v5.lst (g12.lst hP)
        refine ⟨_, rfl, _, rfl, _, rfl, _, rfl, p, c, pl, ns, _, zs, rfl, g5.pen, by omega, SqL.of hP5, by omega, fun y hy => ⟨by have := zsh y hy; omega, good_asc (zgo y hy)⟩, fun H6 q qs g6' hq0' hq' pq => ?_⟩
        refine ⟨_, rfl, p, c, ns, 3, _, rfl, (g5.step g6').pen, by omega, by decide, by decide, fun H7 d g7 d0 d1 => ?_⟩
        obtain ⟨d, rfl⟩ : ∃ y : Nat, d = (y : Int) := ⟨d.toNat, by omega⟩
        have ql : qs.length = 3 := by rw [pq.length_eq]; exact zl
        have g57 := g6'.step g7
        have g17 := g5.step g57
        have v17 := v5.trans (Sv.go g57)
        have hq7 := g7.lst hq'
        refine ⟨_, _, rfl, rfl, _, rfl, q, _, rfl, SqL.of hq7, fun l2 hl2 => ?_⟩
        rw [show (1 + (d : Int)) = ((1 + d : Nat) : Int) from by omega, cutV_take _ _ (by rw [List.length_map]; omega), ← List.map_take]
        have s8 := Ask.Same.made1 (o := .lst ((qs.take (1 + d)).map V.str)) (Same.refl H7) hl2
        have e8 : upd H7 l2 (.lst ((qs.take (1 + d)).map V.str)) l2 = some (.lst ((qs.take (1 + d)).map V.str)) := upd_same
        generalize upd H7 l2 (.lst ((qs.take (1 + d)).map V.str)) = H9 at s8 e8 ⊢
        refine ⟨by show 3 ≤ sizeLine; omega, fun st hst => ?_⟩
        have s9 := Ask.Same.made1 (o := .tup [.str k, sdV oj, .ref l2]) (Same.refl H9) hst
        have e9 : upd H9 st (.tup [.str k, sdV oj, .ref l2]) st = some (.tup [.str k, sdV oj, .ref l2]) := upd_same
        generalize upd H9 st (.tup [.str k, sdV oj, .ref l2]) = H10 at s9 e9 ⊢
        have s79 := s8.trans s9
        have v10 := v17.trans (.of s79)
        have e8' := s9 _ _ e8
        obtain ⟨good, hgood⟩ : ∃ good, good = qs.take (1 + d) := ⟨_, rfl⟩
        rw [← hgood] at e8'
        have gl : good.length = 1 + d := by rw [hgood, List.length_take]; omega
        have gz : ∀ y ∈ good, y ∈ zs := fun y hy => pq.mem_iff.mp (List.mem_of_mem_take (by rw [← hgood]; exact hy))
        try dsimp only
        have vb := (Sv.go g12).trans v10
        have hM10 := mde_sv vb hM
        refine ⟨_, rfl, .inl ⟨rfl, _, SqL.of (v10.lst eL2)⟩, _, rfl, _, rfl, x, t, st, l2, ys, good, k, oj, rfl, hM10, e9, SqL.of e8', (fun z => by rw [z] at gl; exact absurd gl (by show ¬ 0 = 1 + d; omega)), by omega, fun y hy => good_short (zgo y (gz y hy)), hk, jb, jn, fun H11 q2 ks s11 so hLi => ?_⟩
        have v11 := vb.trans (.of s11)
        refine ⟨_, rfl, _, rfl, _, rfl, _, rfl, R, A0, S0, st, l2, b1, rs, ans, good, n1, f1, ys.length, k, oj, rfl, v11.lst hR, hrow.lsts (H' := H11) fun b xs _ e => v11.lst e, k1.rows, by omega, by omega, k1.n1, k1.n2, v11.lst hS, v11.lst hA, k1.alen, s11 _ _ e9, s11 _ _ e8', hk, jb, jn, fun H12 v N s12 cl due => ?_⟩
        refine ⟨by show 2 ≤ sizeLine; omega, fun tt htt => ?_⟩
        have s13 := Ask.Same.made1 (o := .tup [.ref q2, v]) (Same.refl H12) htt
        have e13 : upd H12 tt (.tup [.ref q2, v]) tt = some (.tup [.ref q2, v]) := upd_same
        generalize upd H12 tt (.tup [.ref q2, v]) = H13 at s13 e13 ⊢
        have s1013 := (s11.trans s12).trans s13
        have eL3 := s1013 _ _ (v10.lst eL2)
        refine ⟨L, _, _, rfl, rfl, eL3, by rw [List.length_map]; omega, ?_⟩
        have kl := set_len so
        have hj : ∀ i, oj = some i → i < ys.length := fun i e => by
          by_cases kb : k = "behind"
          · obtain ⟨j, e', hj⟩ := jb kb
            rw [e] at e'
            cases e'
            exact hj
          · rw [jn kb] at e
            cases e
        have im : ItmAt K CL CS CI H11 q2 ys rs ans k oj (brkL ans ks) := .inr ⟨ltV ys oj, ks, hLi, hk, by omega, fun kb => by
          obtain ⟨j, rfl, hj'⟩ := jb kb
          exact ⟨j, _, rfl, rfl, ltN_at hj'⟩, jn, rfl⟩
        exact fin _ H13 tt _ _ _ _ _ rfl ((g17.same (s79.trans s1013)).mono (by omega)) (v10.trans (.of s1013)) ⟨q2, v, k, oj, _, _, e13, im.kpt (.sv (.of (s12.trans s13))), due.kpt (.sv (.of s13)), fun es hE => lim_meets k1.rows k1.n1 k1.n2 cl hk so jn hE, xs_ok k1.rows (by omega) (by omega) k1.n1 k1.n2 cl hj⟩
    · rintro σ' H1 ⟨ts, o10, o11, o12, o13, o14, rfl, g1, eL, tl, its⟩
      have v1 := Sv.go g1
      replace hM := mde_sv v1 hM
      replace hM1 := mac_sv v1 hM1
      replace hP := v1.lst hP
      replace hR := v1.lst hR
      replace hrow := hrow.lsts (H' := H1) fun b xs _ e => v1.lst e
      replace T6 := tabs_go T6 g1
      have pn := g1.pen
      clear v1 g1 gb hA hS eL0 hL g6 pb
      try dsimp only
      refine ⟨_, rfl, _, rfl, _, rfl, L, _, rfl, SqL.of eL, fun l2 hl2 => ?_⟩
      rw [show cutV (ts.map V.ref) none (some 3) = (ts.take 3).map V.ref from by
        by_cases c : 3 ≤ ts.length
        · rw [show (3 : Int) = ((3 : Nat) : Int) from rfl, cutV_take _ _ (by rw [List.length_map]; exact c), ← List.map_take]
        · rw [show (3 : Int) = ((3 : Nat) : Int) from rfl, cutV_whole _ _ (by rw [List.length_map]; omega), List.take_of_length_le (by omega)]]
      have s2 := Ask.Same.made1 (o := .lst ((ts.take 3).map V.ref)) (Same.refl H1) hl2
      have e2 : upd H1 l2 (.lst ((ts.take 3).map V.ref)) l2 = some (.lst ((ts.take 3).map V.ref)) := upd_same
      generalize upd H1 l2 (.lst ((ts.take 3).map V.ref)) = H2 at s2 e2 ⊢
      refine ⟨L, l2, _, _, rfl, rfl, s2 _ _ eL, e2, by rw [List.length_map, List.length_map, List.length_take]; omega, fun l3 hl3 => ?_⟩
      rw [← List.map_append]
      have s3 := Ask.Same.made1 (o := .lst ((ts ++ ts.take 3).map V.ref)) (Same.refl H2) hl3
      have e3 : upd H2 l3 (.lst ((ts ++ ts.take 3).map V.ref)) l3 = some (.lst ((ts ++ ts.take 3).map V.ref)) := upd_same
      generalize upd H2 l3 (.lst ((ts ++ ts.take 3).map V.ref)) = H3 at s3 e3 ⊢
      have s13 := s2.trans s3
      have v3 := Sv.of s13
      replace hM := mde_sv v3 hM
      replace hM1 := mac_sv v3 hM1
      replace hP := v3.lst hP
      replace hR := v3.lst hR
      replace hrow := hrow.lsts (H' := H3) fun b xs _ e => v3.lst e
      replace T6 := T6.ext s13
      replace pn := pn.ext (ExtN.of s13)
      have its3 : ∀ t ∈ ts ++ ts.take 3, IsAt K CL CS CI H3 ys rs ans n1 f1 t := fun t h => (its t ((List.mem_append.mp h).elim id fun z => List.mem_of_mem_take z)).kpt (.sv v3)
      clear v3 s13 s2 s3 e2 eL its
      have l6 := k1.l6
      refine ⟨l3, rfl, ⟨_, SqL.of e3⟩, ?_⟩
      refine for_it (walk_list (xs := (ts ++ ts.take 3).map V.ref)) (fun i σ' H' => ∃ o15 o16 : Option V, σ' = [some (.ref a), some (.ref p), some (.ref x), some (.ref pl), some (.ref R), some (.ref A0), some (.ref S0), some (.ref M1), some (.int (ys.length : Nat)), some (.ref L), o10, o11, o12, o13, o14, o15, o16, none, none, none] ∧ ExtN H3 H' ∧ TabsN TT H') ⟨none, none, rfl, ExtN.refl _, T6⟩ (fun i σ' H' _ ⟨_, _, _, x', _⟩ => SqL.of ((Sv.ext x').lst e3)) ?_ ?_
      · rintro i v σ' H4 H5 hi ⟨o15, o16, rfl, x4, T4⟩ ⟨rfl, hv⟩
        rw [List.length_map] at hi
        obtain ⟨g, hg⟩ : ∃ g, (ts ++ ts.take 3)[i]? = some g := ⟨_, List.getElem?_eq_getElem hi⟩
        obtain rfl : v = .ref g := by
          rw [List.getElem?_map, hg] at hv
          exact (Option.some.inj hv).symm
        have v4 := Sv.ext x4
        obtain ⟨q, due, k, j, d, xs, h1, h2, h3, h4, h5⟩ := (its3 g (List.mem_of_getElem? hg)).kpt (.sv v4)
        refine ⟨g, _, rfl, SqT.of h1, rfl, _, _, rfl, _, _, rfl, rfl, ?_⟩
        try dsimp only
        refine ⟨_, rfl, _, rfl, _, rfl, M1, q, due, ys, rs, ans, n1, f1, k, j, d, xs, rfl, T4, mac_sv v4 hM1, m1, by omega, h2, h3, h4, h5, fun H6 x6 T7 => ?_⟩
        refine ⟨_, rfl, iteF ⟨_, _, rfl, x4.trans x6, T7⟩⟩
      rintro σ' H4 ⟨o15, o16, rfl, x4, T4⟩
      have v4 := Sv.ext x4
      replace hM := mde_sv v4 hM
      replace hM1 := mac_sv v4 hM1
      replace hP := v4.lst hP
      replace hR := v4.lst hR
      replace hrow := hrow.lsts (H' := H4) fun b xs _ e => v4.lst e
      replace pn := pn.ext x4
      clear v4 x4 its3 T6 e3 hl3
      try dsimp only
      obtain ⟨dl, ol, hm, ht, hol⟩ := id hM
      refine ⟨_, rfl, x, CL, dl, _, _, rfl, hm, hL0, nW, rfl, t, ys.map V.str, rfl, .inr (.inl (.inr ⟨ol, ht⟩)), fun L1 hL1 => ?_⟩
      have sL := Ask.Same.made1 (o := .lst (ys.map V.str)) (Same.refl H4) hL1
      have fL : upd H4 L1 (.lst (ys.map V.str)) L1 = some (.lst (ys.map V.str)) := upd_same
      generalize upd H4 L1 (.lst (ys.map V.str)) = He at sL fL ⊢
      refine ⟨by show 1 ≤ sizeLine; omega, fun L2 hL2 => ?_⟩
      have sL2 := Ask.Same.made1 (o := .lst [V.str zzS]) (Same.refl He) hL2
      have fL2 : upd He L2 (.lst [V.str zzS]) L2 = some (.lst [V.str zzS]) := upd_same
      generalize hHf : upd He L2 (.lst [V.str zzS]) = Hf at sL2 fL2
      rw [show upd He L2 (HO.lst [V.str "zzzzzzzzzzzz"]) = Hf from hHf]
      refine ⟨L1, L2, _, _, rfl, rfl, sL2 _ _ fL, fL2, by rw [List.length_map]; show ys.length + 1 ≤ sizeLine; omega, fun L3 hL3 => ?_⟩
      have sL3 := Ask.Same.made1 (o := .lst (ys.map V.str ++ [V.str zzS])) (Same.refl Hf) hL3
      have fL3 : upd Hf L3 (.lst (ys.map V.str ++ [V.str zzS])) L3 = some (.lst (ys.map V.str ++ [V.str zzS])) := upd_same
      generalize upd Hf L3 (.lst (ys.map V.str ++ [V.str zzS])) = Hg at sL3 fL3 ⊢
      have sdg := (sL.trans sL2).trans sL3
      clear sL sL2 sL3 fL fL2 hHf hL1 hL2 hL3
      refine fun x2 dx2 hx2 hdx2 hne2 => ?_
      have fL3' : Hg L3 = some (.lst ((ys ++ [zzS]).map V.str)) := by rw [List.map_append]; exact fL3
      have lts2 := lts_more lts (by omega) zz
      refine let_made lts2 (.inl (SqL.of fL3')) hx2 hdx2 hne2 fun Hh t4 sh hO => ⟨rfl, ?_⟩
      have sdh := sdg.trans sh
      have vh := Sv.of sdh
      replace hM := mde_sv vh hM
      replace hM1 := mac_sv vh hM1
      replace hP := vh.lst hP
      replace hR := vh.lst hR
      replace hrow := hrow.lsts (H' := Hh) fun b xs _ e => vh.lst e
      replace pn := pn.ext (ExtN.of sdh)
      replace T4 := T4.ext sdh
      clear fL3 fL3' sh sdg sdh vh hm ht hol
      try dsimp only
      obtain ⟨y, hy⟩ : ∃ y, ys[0]? = some y := ⟨_, List.getElem?_eq_getElem (by omega)⟩
      have ym : y ∈ ys ++ [zzS] := List.mem_append_left _ (List.mem_of_getElem? hy)
      obtain ⟨dl, ol, hm, ht, hol⟩ := id hM
      refine ⟨_, rfl, _, rfl, _, rfl, x, CL, dl, _, _, rfl, hm, hL0, nW, rfl, t, _, _, .str y, rfl, rfl, .inl (.inr ⟨ol, ht⟩), at_by (j := 0) rfl (by rw [List.getElem?_map, hy]; rfl), fun q1 dq1 hq1 hdq1 hnq1 => ?_⟩
      have dr : DrOk (ys ++ [zzS]) "idle" y .non := ⟨by decide, ym, ⟨fun z => absurd (by decide) z, fun _ => rfl⟩, fun z => absurd z.1 (by decide)⟩
      refine sen_made (pp := x2) hO lts2.nd dr hq1 hdq1 hnq1 fun Hi k' x' s' si enf hse => ⟨rfl, ?_⟩
      obtain ⟨ks, so⟩ := setOf_ex zs
      have kl : ks.length ≤ 3 := Nat.le_trans (set_len so) (by omega)
      refine ⟨_, rfl, _, rfl, fun q2 dq2 hq2 hdq2 hnq2 => ?_⟩
      refine lim_made (lt := .non) (hO.same si) (show ("always" : Str) ∈ LM from by decide) (by
        unfold dueB
        rw [if_neg (fun z => absurd (V.str.inj z) (by decide))]
        rfl) (SqL.of (si _ _ hP)) (by omega) (fun z => by rw [z] at zl; cases zl) (fun y hy => good_short (zgo y hy)) so (by omega) hq2 hdq2 hnq2 fun Hj sj hli => ⟨rfl, ?_⟩
      refine ⟨by show 2 ≤ sizeLine; omega, fun l5 hl5 => ?_⟩
      have s5 := Ask.Same.made1 (o := .lst [.ref q1, .ref q2]) (Same.refl Hj) hl5
      have e5 : upd Hj l5 (.lst [.ref q1, .ref q2]) l5 = some (.lst [.ref q1, .ref q2]) := upd_same
      generalize upd Hj l5 (.lst [.ref q1, .ref q2]) = Hk at s5 e5 ⊢
      have sik := (si.trans sj).trans s5
      refine ⟨p, c, ns, .ref l5, _, rfl, pn.ext (ExtN.of sik), by omega, .inl ⟨l5, _, rfl, SqL.of e5, by show 0 < 2; decide, by show 2 ≤ 1000; decide, fun Hl v gl hv => ?_⟩⟩
      have nfo := dr.nf
      obtain ⟨k2, x3, s2, enf2, hk2, hx3, so2⟩ := nfo
      rw [enf] at enf2
      simp only [List.cons.injEq, V.str.injEq, and_true] at enf2
      obtain ⟨rfl, rfl, rfl⟩ := enf2
      have vkl := Sv.go gl
      have vl := (Sv.of sik).trans vkl
      obtain ⟨q, k, j, d, rfl, hI⟩ : ∃ (q : Addr) (k : Str) (j : Option Nat) (d : Spk → Bool), v = .ref q ∧ ItmAt K CL CS CI Hl q (ys ++ [zzS]) rs ans k j d := by
        simp only [List.mem_cons, List.not_mem_nil, or_false] at hv
        rcases hv with rfl | rfl
        · exact ⟨q1, k', none, _, rfl, (ItmAt.kpt (.inl ⟨x', s', hse, hk2, hx3, so2, rfl, rfl⟩) (.sv ((Sv.of (sj.trans s5)).trans vkl)))⟩
        · exact ⟨q2, "always", none, _, rfl, (ItmAt.kpt (.inr ⟨.non, ks, hli, by decide, by omega, fun z => absurd z (by decide), fun _ => rfl, rfl⟩) (.sv ((Sv.of s5).trans vkl)))⟩
      replace hM1 := mac_sv vl hM1
      replace hR := vl.lst hR
      replace hrow := hrow.lsts (H' := Hl) fun b xs _ e => vl.lst e
      replace T4 := tabs_go (T4.ext sik) gl
      clear vl vkl gl sik e5 s5 hli hse hO hM pn hP
      have ynz : ys ≠ ys ++ [zzS] := fun z => by have := congrArg List.length z; rw [List.length_append] at this; exact absurd this (by simp)
      try dsimp only
      refine ⟨T4, fun g c' Hk ext low Tk g0 lin => ?_⟩
      have vk := Sv.ext ext
      refine ⟨g, _, _, rfl, ⟨c', rfl, rfl⟩, lin, fun Q' E' hE => ⟨M1, q, rfl, rfl, ys, ys ++ [zzS], rs, ans, n1, f1, k, j, d, Tk, mac_sv vk hM1, m1, lts2, by omega, hI.kpt (.sv vk), ynz, hE⟩, ?_⟩
      refine ⟨true, rfl, iteT ?_⟩
      replace hM1 := mac_sv vk hM1
      replace hR := vk.lst hR
      replace hrow := hrow.lsts (H' := Hk) fun b xs _ e => vk.lst e
      obtain ⟨d7, m7, t7, ra7, aa7, n7, _, n9, _⟩ := id hM1
      refine ⟨_, rfl, M1, CM, d7, _, _, rfl, n7, hC.c, hC.a2, rfl, _, rfl, R, rfl, ⟨_, SqL.of hR⟩, fun D hD => ?_⟩
      have hD0 := hD
      refine lc_it (walk_list (xs := b1.map V.ref)) (fun i H' => ∃ cs : List Addr, H' D = some (.lst (cs.map V.ref)) ∧ RowsT H' cs (rs.take i) ∧ Same Hk H') ⟨[], upd_same, ⟨rfl, fun i b r h => by simp at h⟩, Ask.Same.upd_new (Same.refl _) hD⟩ (fun i H' _ ⟨_, _, _, s'⟩ => SqL.of (s' _ _ hR)) ?_ ?_
      · rintro i v H5 H6 hi ⟨cs, eD, r5, s5⟩ ⟨rfl, hv⟩
        rw [List.length_map] at hi
        obtain ⟨b, hb⟩ : ∃ b, b1[i]? = some b := ⟨_, List.getElem?_eq_getElem hi⟩
        obtain rfl : v = .ref b := by
          rw [List.getElem?_map, hb] at hv
          exact (Option.some.inj hv).symm
        obtain ⟨r, hr'⟩ : ∃ r, rs[i]? = some r := ⟨_, List.getElem?_eq_getElem (by rw [← hrow.1]; exact hi)⟩
        refine ⟨rfl, _, rfl, b, _, rfl, .inl ⟨SqL.of (s5 _ _ (hrow.2 i b r hb hr')), fun l hl => ?_⟩⟩
        have s6 := Ask.Same.made1 (o := .tup (r.map vN)) (Same.refl H6) hl
        have e6 : upd H6 l (.tup (r.map vN)) l = some (.tup (r.map vN)) := upd_same
        generalize upd H6 l (.tup (r.map vN)) = H7 at s6 e6 ⊢
        have tk : rs.take (i + 1) = rs.take i ++ [r] := by rw [List.take_add_one, hr']; rfl
        have eD7 := s6 _ _ eD
        have cl := r5.1
        rw [List.length_take] at cl
        refine ⟨_, eD7, by rw [List.length_map]; omega, cs ++ [l], by rw [upd_same, List.map_append]; rfl, ?_, Ask.Same.upd_new (s5.trans s6) hD0⟩
        rw [tk]
        exact ((r5.tups fun b xs q => s6 _ _ q).snoc e6).tups fun b xs q => by rw [upd_ne (ne_of q eD7 (fun z => nomatch z))]; exact q
      rintro H5 ⟨cs, eD, r5, s5⟩
      rw [List.length_map, hrow.1, List.take_length] at r5
      refine ⟨D, _, rfl, .inl ⟨SqL.of eD, fun l hl => ?_⟩⟩
      have s6 := Ask.Same.made1 (o := .tup (cs.map V.ref)) (Same.refl H5) hl
      have e6 : upd H5 l (.tup (cs.map V.ref)) l = some (.tup (cs.map V.ref)) := upd_same
      generalize upd H5 l (.tup (cs.map V.ref)) = H7 at s6 e6 ⊢
      obtain ⟨xs, n1', n2', n3'⟩ := n9.same (s5.trans s6)
      refine ⟨.tuple (rs.map rowD), .tuple (rs.map rowD), .tup n1' (dp_rows _ _ n2' n3'), .tup (SqT.of e6) (dp_rows _ _ (by rw [List.length_map, r5.1]) fun i v r h1 h2 => ?_), shaped_rows rs, shaped_rows rs, ?_⟩
      · rw [List.getElem?_map] at h1
        cases h3 : cs[i]? with
        | none => rw [h3] at h1; cases h1
        | some b =>
          rw [h3] at h1
          cases h1
          exact ⟨b, rfl, SqT.of (s6 _ _ (r5.2 i b r h3 h2))⟩
      · rw [PySem.SeqAt.eqv_refl (.tuple (rs.map rowD)) (lay_rows rs).1]
        exact kq H7
end
end Ask

namespace Ask
open PySem L2 PySem.Spec PyProof.Rows
theorem exm_of {K : PySem.W.Frag} {S T : Addr} {b : Bool} (h1 : PySem.W.subIn K (.ref T) (.type "BaseException") = some true) (h2 : PySem.W.isClsIn K T = true) (h3 : PySem.W.typeIn K (.ref T) = some (.type "type")) (h4 : PySem.W.subIn K (.ref S) (.ref T) = some b) :
    PySem.W.exmOne K (.ref S) (.ref T) = some b := by
  have e1 : (PySem.W.subIn K (.ref T) (.type "BaseException") == some true) = true := by rw [h1] <;> rfl
  have e2 : ((PySem.W.clsIn K T).isSome && PySem.W.typeIn K (.ref T) == some (.type "type")) = true := by
    have h2' : (PySem.W.clsIn K T).isSome = true := h2
    rw [h2', h3] <;> rfl
  show (if (PySem.W.subIn K (.ref T) (.type "BaseException") == some true) = true then (if ((PySem.W.clsIn K T).isSome && PySem.W.typeIn K (.ref T) == some (.type "type")) = true then PySem.W.subIn K (.ref S) (.ref T) else none) else none) = some b
  rw [if_pos e1, if_pos e2]
  exact h4
theorem strKeys_of {es : Array DictEntry} (h : (es.toList.all fun e => match e.key with | .str _ _ => true | _ => false) = true) : StrKeys es := fun e he => by
  have q := List.all_eq_true.mp h e (by simpa using he)
  cases k : e.key <;> rw [k] at q <;> first | exact ⟨_, _, rfl⟩ | cases q
theorem sen_binds {K : PySem.W.Frag} {d : V} {f : Addr} {fd : FuncData} (F : FunD K "__init__" "Sentence.__init__" (defArgs s_Sen_init) (defBody s_Sen_init) (defScope s_Sen_init) [d] [] f fd) : (∃ u, RelV d u ∧ Binds K fd ["self", "letters", "kind", "first", "second"] [u]) ∧ Binds K fd ["self", "letters", "kind", "first", "second"] [] := by
  constructor
  · obtain ⟨ds, r, b⟩ := F.binds1 (ps := ["self", "letters", "kind", "first", "second"]) 4 0 (by simp) rfl fun T kV doc pm an cdv ct us its hu hi => match us, hu, its, hi with | [_, _, _, _], _, [_], _ => ⟨_, rfl, rfl⟩
    obtain ⟨u, rfl, ru⟩ := vals1 r
    exact ⟨u, ru, b⟩
  · obtain ⟨ds, r, b⟩ := F.binds1 (ps := ["self", "letters", "kind", "first", "second"]) 5 1 (by simp) rfl fun T kV doc pm an cdv ct us its hu hi => match us, hu, its, hi with | [_, _, _, _, _], _, [_], _ => ⟨_, rfl, rfl⟩
    cases r
    exact b
theorem lim_binds {K : PySem.W.Frag} {d : V} {f : Addr} {fd : FuncData} (F : FunD K "__init__" "Limit.__init__" (defArgs s_Lim_init) (defBody s_Lim_init) (defScope s_Lim_init) [d] [] f fd) : (∃ u, RelV d u ∧ Binds K fd ["self", "letters", "kind", "answers", "letter"] [u]) ∧ Binds K fd ["self", "letters", "kind", "answers", "letter"] [] := by
  constructor
  · obtain ⟨ds, r, b⟩ := F.binds1 (ps := ["self", "letters", "kind", "answers", "letter"]) 4 0 (by simp) rfl fun T kV doc pm an cdv ct us its hu hi => match us, hu, its, hi with | [_, _, _, _], _, [_], _ => ⟨_, rfl, rfl⟩
    obtain ⟨u, rfl, ru⟩ := vals1 r
    exact ⟨u, ru, b⟩
  · obtain ⟨ds, r, b⟩ := F.binds1 (ps := ["self", "letters", "kind", "answers", "letter"]) 5 1 (by simp) rfl fun T kV doc pm an cdv ct us its hu hi => match us, hu, its, hi with | [_, _, _, _, _], _, [_], _ => ⟨_, rfl, rfl⟩
    cases r
    exact b
theorem kit_ref {K : PySem.W.Frag} {D C : Addr} (h1 : PySem.W.isClsIn K C = true) (h2 : PySem.W.typeIn K (.ref C) = some (.type "type")) (h3 : PySem.W.subIn K (.ref D) (.ref C) = some false) (ne : D ≠ C) : PySem.W.kitOne K (.ref D) (.ref C) = some false := by
  unfold PySem.W.kitOne
  rw [if_neg (by simp; exact ne)]
  have e2 : ((PySem.W.clsIn K C).isSome && PySem.W.typeIn K (.ref C) == some (.type "type")) = true := by
    have h2' : (PySem.W.clsIn K C).isSome = true := h1
    rw [h2', h2] <;> rfl
  show (if ((PySem.W.clsIn K C).isSome && PySem.W.typeIn K (.ref C) == some (.type "type")) = true then PySem.W.subIn K (.ref D) (.ref C) else none) = some false
  rw [if_pos e2]
  exact h3
/-- the tables of code objects told beside the rest of the heap -/
theorem tabs_split {K : Params → PySem.W.Frag} {P1 P2 : Addr} {as : List Addr} {e : ∀ P, as = ((P1, PySem.W.tabObj #[]) :: (P2, PySem.W.tabObj #[]) :: K P).map (·.1)} {w : World} {h : Heap} (Y : (PySem.W.kHook (fun P => (P1, PySem.W.tabObj #[]) :: (P2, PySem.W.tabObj #[]) :: K P) as e).says w h) (ne : P1 ≠ P2)
    (n1 : (K w.params).lookup P1 = none) (n2 : (K w.params).lookup P2 = none) : (K w.params).In h ∧ ∀ P ∈ [P1, P2], h.get? P = some (PySem.W.tabObj #[]) := by
  have X : PySem.W.Frag.In ((P1, PySem.W.tabObj #[]) :: (P2, PySem.W.tabObj #[]) :: K w.params) h := PySem.W.kIn_of Y
  have e1 : ∀ a, ((P1, PySem.W.tabObj #[]) :: (P2, PySem.W.tabObj #[]) :: K w.params).lookup a = if a = P1 then some (PySem.W.tabObj #[]) else if a = P2 then some (PySem.W.tabObj #[]) else (K w.params).lookup a := fun a => by
    rw [List.lookup_cons, List.lookup_cons]
    by_cases h1 : a = P1
    · rw [if_pos h1, h1]
      simp
    · rw [if_neg h1, show (a == P1) = false from beq_eq_false_iff_ne.mpr h1]
      by_cases h2 : a = P2
      · rw [if_pos h2, h2]
        simp
      · rw [if_neg h2, show (a == P2) = false from beq_eq_false_iff_ne.mpr h2]
  refine ⟨fun a o q => X a o ?_, fun P hP => X P _ ?_⟩
  · rw [e1, if_neg (fun z => by rw [z, n1] at q; cases q), if_neg (fun z => by rw [z, n2] at q; cases q)]
    exact q
  · simp only [List.mem_cons, List.not_mem_nil, or_false] at hP
    rw [e1]
    rcases hP with rfl | rfl
    · rw [if_pos rfl]
    · rw [if_neg ne.symm, if_pos rfl]
open LamX NdefX StX in
theorem all_mk {l : PySem.W.OpenLaw} {w : World} {K : PySem.W.Frag} {h : Heap} {mg : Str → Option Value} {fa cap cla Pap Pla : Addr} (X : K.In h) (G : h.Ns mainGlobals mg) (hfa : mg "law" = some (.ref fa)) (hT : ∀ P ∈ [Pap, Pla], h.get? P = some (PySem.W.tabObj #[]))
    {f0 : Addr} {od0 an0 : Option Addr} {sl0 : Array (Option Value)} {oc0 kV0 dc0 pm0 cd0 ct0 : Value}
    {f1 : Addr} {od1 an1 : Option Addr} {sl1 : Array (Option Value)} {oc1 kV1 dc1 pm1 cd1 ct1 : Value}
    {f2 : Addr} {od2 an2 : Option Addr} {sl2 : Array (Option Value)} {oc2 kV2 dc2 pm2 cd2 ct2 : Value}
    {f3 : Addr} {od3 an3 : Option Addr} {sl3 : Array (Option Value)} {oc3 kV3 dc3 pm3 cd3 ct3 : Value}
    {f4 : Addr} {od4 an4 : Option Addr} {sl4 : Array (Option Value)} {oc4 kV4 dc4 pm4 cd4 ct4 : Value}
    {f5 : Addr} {od5 an5 : Option Addr} {sl5 : Array (Option Value)} {oc5 kV5 dc5 pm5 cd5 ct5 : Value}
    {f6 : Addr} {od6 an6 : Option Addr} {sl6 : Array (Option Value)} {oc6 kV6 dc6 pm6 cd6 ct6 : Value}
    {fw : Addr} {odw anw : Option Addr} {slw : Array (Option Value)} {ocw kVw dcw pmw cdw ctw : Value}
    {fv : Addr} {odv anv : Option Addr} {slv : Array (Option Value)} {ocv kVv dcv pmv cdv ctv : Value}
    {fc : Addr} {odc anc : Option Addr} {slc : Array (Option Value)} {occ kVc dcc pmc cdc ctc : Value}
    {fd : Addr} {odd and : Option Addr} {sld : Array (Option Value)} {ocd kVd dcd pmd cdd ctd : Value}
    {ff : Addr} {odf anf : Option Addr} {slf : Array (Option Value)} {ocf kVf dcf pmf cdf ctf : Value}
    {fg : Addr} {odg ang : Option Addr} {slg : Array (Option Value)} {ocg kVg dcg pmg cdg ctg : Value}
    {fh : Addr} {odh anh : Option Addr} {slh : Array (Option Value)} {och kVh dch pmh cdh cth : Value}
    {fi : Addr} {odi ani : Option Addr} {sli : Array (Option Value)} {oci kVi dci pmi cdi cti : Value}
    {fk : Addr} {odk ank : Option Addr} {slk : Array (Option Value)} {ock kVk dck pmk cdk ctk : Value}
    {fj : Addr} {odj anj : Option Addr} {slj : Array (Option Value)} {ocj kVj dcj pmj cdj ctj : Value}
    {fm : Addr} {odm anm : Option Addr} {slm : Array (Option Value)} {ocm kVm dcm pmm cdm ctm : Value}
    {fn : Addr} {odn ann : Option Addr} {sln : Array (Option Value)} {ocn kVn dcn pmn cdn ctn : Value}
    {fo : Addr} {odo ano : Option Addr} {slo : Array (Option Value)} {oco kVo dco pmo cdo cto : Value}
    {f8 : Addr} {od8 an8 : Option Addr} {sl8 : Array (Option Value)} {oc8 kV8 dc8 pm8 cd8 ct8 : Value}
    {fas : Addr} {odas anas : Option Addr} {slas : Array (Option Value)} {ocas kVas dcas pmas cdas ctas : Value}
    {fm1 : Addr} {odm1 anm1 : Option Addr} {slm1 : Array (Option Value)} {ocm1 kVm1 dcm1 pmm1 cdm1 ctm1 : Value}
    {fm2 : Addr} {odm2 anm2 : Option Addr} {slm2 : Array (Option Value)} {ocm2 kVm2 dcm2 pmm2 cdm2 ctm2 : Value}
    {fm3 : Addr} {odm3 anm3 : Option Addr} {slm3 : Array (Option Value)} {ocm3 kVm3 dcm3 pmm3 cdm3 ctm3 : Value}
    {fm4 : Addr} {odm4 anm4 : Option Addr} {slm4 : Array (Option Value)} {ocm4 kVm4 dcm4 pmm4 cdm4 ctm4 : Value}
    {fm5 : Addr} {odm5 anm5 : Option Addr} {slm5 : Array (Option Value)} {ocm5 kVm5 dcm5 pmm5 cdm5 ctm5 : Value}
    {fm6 : Addr} {odm6 anm6 : Option Addr} {slm6 : Array (Option Value)} {ocm6 kVm6 dcm6 pmm6 cdm6 ctm6 : Value}
    {fm7 : Addr} {odm7 anm7 : Option Addr} {slm7 : Array (Option Value)} {ocm7 kVm7 dcm7 pmm7 cdm7 ctm7 : Value}
    {fs1 : Addr} {ods1 ans1 : Option Addr} {sls1 : Array (Option Value)} {ocs1 kVs1 dcs1 pms1 cds1 cts1 : Value}
    {fs2 : Addr} {ods2 ans2 : Option Addr} {sls2 : Array (Option Value)} {ocs2 kVs2 dcs2 pms2 cds2 cts2 : Value}
    {fs3 : Addr} {ods3 ans3 : Option Addr} {sls3 : Array (Option Value)} {ocs3 kVs3 dcs3 pms3 cds3 cts3 : Value}
    {fs4 : Addr} {ods4 ans4 : Option Addr} {sls4 : Array (Option Value)} {ocs4 kVs4 dcs4 pms4 cds4 cts4 : Value}
    {fs5 : Addr} {ods5 ans5 : Option Addr} {sls5 : Array (Option Value)} {ocs5 kVs5 dcs5 pms5 cds5 cts5 : Value}
    {fs8 : Addr} {ods8 ans8 : Option Addr} {sls8 : Array (Option Value)} {ocs8 kVs8 dcs8 pms8 cds8 cts8 : Value}
    {fs9 : Addr} {ods9 ans9 : Option Addr} {sls9 : Array (Option Value)} {ocs9 kVs9 dcs9 pms9 cds9 cts9 : Value}
    {ft1 : Addr} {odt1 ant1 : Option Addr} {slt1 : Array (Option Value)} {oct1 kVt1 dct1 pmt1 cdt1 ctt1 : Value}
    {ft2 : Addr} {odt2 ant2 : Option Addr} {slt2 : Array (Option Value)} {oct2 kVt2 dct2 pmt2 cdt2 ctt2 : Value}
    {ft3 : Addr} {odt3 ant3 : Option Addr} {slt3 : Array (Option Value)} {oct3 kVt3 dct3 pmt3 cdt3 ctt3 : Value}
    {ft4 : Addr} {odt4 ant4 : Option Addr} {slt4 : Array (Option Value)} {oct4 kVt4 dct4 pmt4 cdt4 ctt4 : Value}
    {ft5 : Addr} {odt5 ant5 : Option Addr} {slt5 : Array (Option Value)} {oct5 kVt5 dct5 pmt5 cdt5 ctt5 : Value}
    {ft6 : Addr} {odt6 ant6 : Option Addr} {slt6 : Array (Option Value)} {oct6 kVt6 dct6 pmt6 cdt6 ctt6 : Value}
    {ft7 : Addr} {odt7 ant7 : Option Addr} {slt7 : Array (Option Value)} {oct7 kVt7 dct7 pmt7 cdt7 ctt7 : Value}
    {ft8 : Addr} {odt8 ant8 : Option Addr} {slt8 : Array (Option Value)} {oct8 kVt8 dct8 pmt8 cdt8 ctt8 : Value}
    {ftx : Addr} {odtx antx : Option Addr} {sltx : Array (Option Value)} {octx kVtx dctx pmtx cdtx cttx : Value}
    {fu1 : Addr} {odu1 anu1 : Option Addr} {slu1 : Array (Option Value)} {ocu1 kVu1 dcu1 pmu1 cdu1 ctu1 : Value}
    {fu2 : Addr} {odu2 anu2 : Option Addr} {slu2 : Array (Option Value)} {ocu2 kVu2 dcu2 pmu2 cdu2 ctu2 : Value}
    {f9 : Addr} {od9 an9 : Option Addr} {sl9 : Array (Option Value)} {oc9 kV9 dc9 pm9 cd9 ct9 : Value}
    {CB : Addr}
    {fB : Addr} {odB anB : Option Addr} {slB : Array (Option Value)} {ocB kVB dcB pmB cdB ctB : Value}
    {nmB qB : Str} {NB : Addr} {bsB bmB : List Value} {snB : List Str} {subB : List Value} {abB : Bool} {colB : Option Bool} {ddB : Option Addr} {m0B m1B m2B m3B m5B : Option Value}
    {CM : Addr}
    {fM : Addr} {odM anM : Option Addr} {slM : Array (Option Value)} {ocM kVM dcM pmM cdM ctM : Value}
    {nmM qM : Str} {NM : Addr} {bsM bmM : List Value} {snM : List Str} {subM : List Value} {abM : Bool} {colM : Option Bool} {ddM : Option Addr} {m0M m1M m2M m3M m5M : Option Value}
    {CT : Addr}
    {fT : Addr} {odT anT : Option Addr} {slT : Array (Option Value)} {ocT kVT dcT pmT cdT ctT : Value}
    {nmT qT : Str} {NT : Addr} {bsT bmT : List Value} {snT : List Str} {subT : List Value} {abT : Bool} {colT : Option Bool} {ddT : Option Addr} {m0T m1T m2T m3T m5T : Option Value}
    {CBa : Addr}
    {fBa : Addr} {odBa anBa : Option Addr} {slBa : Array (Option Value)} {ocBa kVBa dcBa pmBa cdBa ctBa : Value}
    {nmBa qBa : Str} {NBa : Addr} {bsBa bmBa : List Value} {snBa : List Str} {subBa : List Value} {abBa : Bool} {colBa : Option Bool} {ddBa : Option Addr} {m0Ba m1Ba m2Ba m3Ba m5Ba : Option Value}
    {CZ : Addr}
    {CN0 : Addr}
    {CO : Addr}
    {CL : Addr}
    {fL : Addr} {odL anL : Option Addr} {slL : Array (Option Value)} {ocL kVL dcL pmL cdL ctL : Value}
    {fH : Addr} {odH anH : Option Addr} {slH : Array (Option Value)} {ocH kVH dcH pmH cdH ctH : Value}
    {fR : Addr} {odR anR : Option Addr} {slR : Array (Option Value)} {ocR kVR dcR pmR cdR ctR : Value}
    {fQ : Addr} {odQ anQ : Option Addr} {slQ : Array (Option Value)} {ocQ kVQ dcQ pmQ cdQ ctQ : Value}
    {fN : Addr} {odN anN : Option Addr} {slN : Array (Option Value)} {ocN kVN dcN pmN cdN ctN : Value}
    {CY : Addr}
    {fY : Addr} {odY anY : Option Addr} {slY : Array (Option Value)} {ocY kVY dcY pmY cdY ctY : Value}
    {TY aDY : Addr} {oTY oDY : Obj} {nTY nDY : Nat}
    {fE : Addr} {odE anE : Option Addr} {slE : Array (Option Value)} {ocE kVE dcE pmE cdE ctE : Value}
    {pP : Addr} {rsP : List Value}
    {fP : Addr} {odP anP : Option Addr} {slP : Array (Option Value)} {ocP kVP dcP pmP cdP ctP : Value}
    {CS : Addr}
    {fS : Addr} {odS anS : Option Addr} {slS : Array (Option Value)} {ocS kVS dcS pmS cdS ctS : Value}
    {TS : Addr} {oTS : Obj} {nTS : Nat}
    {pF : Addr} {rsF : List Value}
    {fF : Addr} {odF anF : Option Addr} {slF : Array (Option Value)} {ocF kVF dcF pmF cdF ctF : Value}
    {pG : Addr} {rsG : List Value}
    {fG : Addr} {odG anG : Option Addr} {slG : Array (Option Value)} {ocG kVG dcG pmG cdG ctG : Value}
    {CI : Addr}
    {fI : Addr} {odI anI : Option Addr} {slI : Array (Option Value)} {ocI kVI dcI pmI cdI ctI : Value}
    {TI : Addr} {oTI : Obj} {nTI : Nat}
    {CK : Addr}
    {fK : Addr} {odK anK : Option Addr} {slK : Array (Option Value)} {ocK kVK dcK pmK cdK ctK : Value}
    {CA : Addr}
    {fA : Addr} {odA anA : Option Addr} {slA : Array (Option Value)} {ocA kVA dcA pmA cdA ctA : Value}
    {DA : Addr} {t1A t2A : Tok}
    {fb4 : Addr} {odb4 anb4 : Option Addr} {slb4 : Array (Option Value)} {ocb4 kVb4 dcb4 pmb4 cdb4 ctb4 : Value}
    {fb5 : Addr} {odb5 anb5 : Option Addr} {slb5 : Array (Option Value)} {ocb5 kVb5 dcb5 pmb5 cdb5 ctb5 : Value}
    {fb6 : Addr} {odb6 anb6 : Option Addr} {slb6 : Array (Option Value)} {ocb6 kVb6 dcb6 pmb6 cdb6 ctb6 : Value}
    {fb7 : Addr} {odb7 anb7 : Option Addr} {slb7 : Array (Option Value)} {ocb7 kVb7 dcb7 pmb7 cdb7 ctb7 : Value}
    {fb8 : Addr} {odb8 anb8 : Option Addr} {slb8 : Array (Option Value)} {ocb8 kVb8 dcb8 pmb8 cdb8 ctb8 : Value}
    {gS : Tok}
    {gW : Tok}
    {gM : Tok}
    {gL : Tok}
    {T_gB : Addr} {o_gB : Obj} {j_gB : Array Value} {n_gB : Nat}
    {T_gK : Addr} {o_gK : Obj} {j_gK : Array Value} {n_gK : Nat}
    {T_gN : Addr} {o_gN : Obj} {j_gN : Array Value} {n_gN : Nat}
    {T_gJ : Addr} {o_gJ : Obj} {j_gJ : Array Value} {n_gJ : Nat}
    {gC : Tok}
    {gR : Tok}
    {gZ : Tok}
    {gA : Tok}
    {nmL qL : Str} {NL : Addr} {bsL bmL : List Value} {hdctL : Bool} {snL : List Str} {subL : List Value} {abL : Bool} {colL : Option Bool} {ddL : Option Addr} {m0L m1L m2L m3L m5L : Option Value} {newL : String} {oNL : Obj} {esNL : Array DictEntry} {epNL : Nat}
    (hn : PySem.W.specialIn K (.builtin "object.__class__") "__get__" = some (some (.builtin "getset_descriptor.__get__")))
    (ht : PySem.W.takesIn K (.builtin "object.__class__") = some true)
    (a0 : PySem.W.nsIn K mainGlobals "is_short_word" = some (some (.ref f0)))
    (l0 : K.lookup f0 = some ⟨oc0, od0, .func (PySem.W.fnOf "is_short_word" "is_short_word" (defArgs s_is_short_word) (defBody s_is_short_word) (defScope s_is_short_word) .none kV0 dc0 pm0 an0 cd0 ct0), sl0⟩)
    (c0 : PySem.W.codeIn K cd0 "is_short_word" = true)
    (k0 : PySem.W.keepIn K (.ref f0) = true)
    (a1 : PySem.W.nsIn K mainGlobals "copied" = some (some (.ref f1)))
    (l1 : K.lookup f1 = some ⟨oc1, od1, .func (PySem.W.fnOf "copied" "copied" (defArgs s_copied) (defBody s_copied) (defScope s_copied) .none kV1 dc1 pm1 an1 cd1 ct1), sl1⟩)
    (c1 : PySem.W.codeIn K cd1 "copied" = true)
    (k1 : PySem.W.keepIn K (.ref f1) = true)
    (a2 : PySem.W.nsIn K mainGlobals "is_letter" = some (some (.ref f2)))
    (l2 : K.lookup f2 = some ⟨oc2, od2, .func (PySem.W.fnOf "is_letter" "is_letter" (defArgs s_is_letter) (defBody s_is_letter) (defScope s_is_letter) .none kV2 dc2 pm2 an2 cd2 ct2), sl2⟩)
    (c2 : PySem.W.codeIn K cd2 "is_letter" = true)
    (k2 : PySem.W.keepIn K (.ref f2) = true)
    (a3 : PySem.W.nsIn K mainGlobals "_law_pen" = some (some (.ref f3)))
    (l3 : K.lookup f3 = some ⟨oc3, od3, .func (PySem.W.fnOf "_law_pen" "_law_pen" (defArgs s__law_pen) (defBody s__law_pen) (defScope s__law_pen) .none kV3 dc3 pm3 an3 cd3 ct3), sl3⟩)
    (c3 : PySem.W.codeIn K cd3 "_law_pen" = true)
    (k3 : PySem.W.keepIn K (.ref f3) = true)
    (a4 : PySem.W.nsIn K mainGlobals "_law_draw" = some (some (.ref f4)))
    (l4 : K.lookup f4 = some ⟨oc4, od4, .func (PySem.W.fnOf "_law_draw" "_law_draw" (defArgs s__law_draw) (defBody s__law_draw) (defScope s__law_draw) .none kV4 dc4 pm4 an4 cd4 ct4), sl4⟩)
    (c4 : PySem.W.codeIn K cd4 "_law_draw" = true)
    (k4 : PySem.W.keepIn K (.ref f4) = true)
    (a5 : PySem.W.nsIn K mainGlobals "_law_pick" = some (some (.ref f5)))
    (l5 : K.lookup f5 = some ⟨oc5, od5, .func (PySem.W.fnOf "_law_pick" "_law_pick" (defArgs s__law_pick) (defBody s__law_pick) (defScope s__law_pick) .none kV5 dc5 pm5 an5 cd5 ct5), sl5⟩)
    (c5 : PySem.W.codeIn K cd5 "_law_pick" = true)
    (k5 : PySem.W.keepIn K (.ref f5) = true)
    (a6 : PySem.W.nsIn K mainGlobals "_law_letters" = some (some (.ref f6)))
    (l6 : K.lookup f6 = some ⟨oc6, od6, .func (PySem.W.fnOf "_law_letters" "_law_letters" (defArgs s__law_letters) (defBody s__law_letters) (defScope s__law_letters) .none kV6 dc6 pm6 an6 cd6 ct6), sl6⟩)
    (c6 : PySem.W.codeIn K cd6 "_law_letters" = true)
    (k6 : PySem.W.keepIn K (.ref f6) = true)
    (aw : PySem.W.nsIn K mainGlobals "is_whole" = some (some (.ref fw)))
    (lw : K.lookup fw = some ⟨ocw, odw, .func (PySem.W.fnOf "is_whole" "is_whole" (defArgs s_is_whole) (defBody s_is_whole) (defScope s_is_whole) .none kVw dcw pmw anw cdw ctw), slw⟩)
    (cw : PySem.W.codeIn K cdw "is_whole" = true)
    (kw : PySem.W.keepIn K (.ref fw) = true)
    (av : PySem.W.nsIn K mainGlobals "is_list_of" = some (some (.ref fv)))
    (lv : K.lookup fv = some ⟨ocv, odv, .func (PySem.W.fnOf "is_list_of" "is_list_of" (defArgs s_is_list_of) (defBody s_is_list_of) (defScope s_is_list_of) .none kVv dcv pmv anv cdv ctv), slv⟩)
    (cv : PySem.W.codeIn K cdv "is_list_of" = true)
    (kv : PySem.W.keepIn K (.ref fv) = true)
    (ac : PySem.W.nsIn K mainGlobals "joined" = some (some (.ref fc)))
    (lc : K.lookup fc = some ⟨occ, odc, .func (PySem.W.fnOf "joined" "joined" (defArgs s_joined) (defBody s_joined) (defScope s_joined) .none kVc dcc pmc anc cdc ctc), slc⟩)
    (cc : PySem.W.codeIn K cdc "joined" = true)
    (kc : PySem.W.keepIn K (.ref fc) = true)
    (ad : PySem.W.nsIn K mainGlobals "spliced" = some (some (.ref fd)))
    (ld : K.lookup fd = some ⟨ocd, odd, .func (PySem.W.fnOf "spliced" "spliced" (defArgs s_spliced) (defBody s_spliced) (defScope s_spliced) .none kVd dcd pmd and cdd ctd), sld⟩)
    (cd : PySem.W.codeIn K cdd "spliced" = true)
    (kd : PySem.W.keepIn K (.ref fd) = true)
    (af : PySem.W.nsIn K mainGlobals "size_of" = some (some (.ref ff)))
    (lf : K.lookup ff = some ⟨ocf, odf, .func (PySem.W.fnOf "size_of" "size_of" (defArgs s_size_of) (defBody s_size_of) (defScope s_size_of) .none kVf dcf pmf anf cdf ctf), slf⟩)
    (cf : PySem.W.codeIn K cdf "size_of" = true)
    (kf : PySem.W.keepIn K (.ref ff) = true)
    (ag : PySem.W.nsIn K mainGlobals "is_beginning" = some (some (.ref fg)))
    (lg : K.lookup fg = some ⟨ocg, odg, .func (PySem.W.fnOf "is_beginning" "is_beginning" (defArgs s_is_beginning) (defBody s_is_beginning) (defScope s_is_beginning) .none kVg dcg pmg ang cdg ctg), slg⟩)
    (cg : PySem.W.codeIn K cdg "is_beginning" = true)
    (kg : PySem.W.keepIn K (.ref fg) = true)
    (ah : PySem.W.nsIn K mainGlobals "require_runs" = some (some (.ref fh)))
    (lh : K.lookup fh = some ⟨och, odh, .func (PySem.W.fnOf "require_runs" "require_runs" (defArgs s_require_runs) (defBody s_require_runs) (defScope s_require_runs) .none kVh dch pmh anh cdh cth), slh⟩)
    (ch : PySem.W.codeIn K cdh "require_runs" = true)
    (kh : PySem.W.keepIn K (.ref fh) = true)
    (ai : PySem.W.nsIn K mainGlobals "require_beginning" = some (some (.ref fi)))
    (li : K.lookup fi = some ⟨oci, odi, .func (PySem.W.fnOf "require_beginning" "require_beginning" (defArgs s_require_beginning) (defBody s_require_beginning) (defScope s_require_beginning) .none kVi dci pmi ani cdi cti), sli⟩)
    (ci : PySem.W.codeIn K cdi "require_beginning" = true)
    (ki : PySem.W.keepIn K (.ref fi) = true)
    (ak : PySem.W.nsIn K mainGlobals "require_count" = some (some (.ref fk)))
    (lk : K.lookup fk = some ⟨ock, odk, .func (PySem.W.fnOf "require_count" "require_count" (defArgs s_require_count) (defBody s_require_count) (defScope s_require_count) .none kVk dck pmk ank cdk ctk), slk⟩)
    (ck : PySem.W.codeIn K cdk "require_count" = true)
    (kk : PySem.W.keepIn K (.ref fk) = true)
    (aj : PySem.W.nsIn K mainGlobals "extended" = some (some (.ref fj)))
    (lj : K.lookup fj = some ⟨ocj, odj, .func (PySem.W.fnOf "extended" "extended" (defArgs s_extended) (defBody s_extended) (defScope s_extended) .none kVj dcj pmj anj cdj ctj), slj⟩)
    (cj : PySem.W.codeIn K cdj "extended" = true)
    (kj : PySem.W.keepIn K (.ref fj) = true)
    (am : PySem.W.nsIn K mainGlobals "is_due" = some (some (.ref fm)))
    (lm : K.lookup fm = some ⟨ocm, odm, .func (PySem.W.fnOf "is_due" "is_due" (defArgs s_is_due) (defBody s_is_due) (defScope s_is_due) .none kVm dcm pmm anm cdm ctm), slm⟩)
    (cm : PySem.W.codeIn K cdm "is_due" = true)
    (km : PySem.W.keepIn K (.ref fm) = true)
    (an : PySem.W.nsIn K mainGlobals "sides" = some (some (.ref fn)))
    (ln : K.lookup fn = some ⟨ocn, odn, .func (PySem.W.fnOf "sides" "sides" (defArgs s_sides) (defBody s_sides) (defScope s_sides) .none kVn dcn pmn ann cdn ctn), sln⟩)
    (cn : PySem.W.codeIn K cdn "sides" = true)
    (kn : PySem.W.keepIn K (.ref fn) = true)
    (ao : PySem.W.nsIn K mainGlobals "one_form" = some (some (.ref fo)))
    (lo : K.lookup fo = some ⟨oco, odo, .func (PySem.W.fnOf "one_form" "one_form" (defArgs s_one_form) (defBody s_one_form) (defScope s_one_form) .none kVo dco pmo ano cdo cto), slo⟩)
    (co : PySem.W.codeIn K cdo "one_form" = true)
    (ko : PySem.W.keepIn K (.ref fo) = true)
    (a8 : PySem.W.nsIn K mainGlobals "side_of" = some (some (.ref f8)))
    (l8 : K.lookup f8 = some ⟨oc8, od8, .func (PySem.W.fnOf "side_of" "side_of" (defArgs s_side_of) (defBody s_side_of) (defScope s_side_of) .none kV8 dc8 pm8 an8 cd8 ct8), sl8⟩)
    (c8 : PySem.W.codeIn K cd8 "side_of" = true)
    (k8 : PySem.W.keepIn K (.ref f8) = true)
    (aas : PySem.W.nsIn K mainGlobals "answer_set" = some (some (.ref fas)))
    (las : K.lookup fas = some ⟨ocas, odas, .func (PySem.W.fnOf "answer_set" "answer_set" (defArgs s_answer_set) (defBody s_answer_set) (defScope s_answer_set) .none kVas dcas pmas anas cdas ctas), slas⟩)
    (cas : PySem.W.codeIn K cdas "answer_set" = true)
    (kas : PySem.W.keepIn K (.ref fas) = true)
    (am1 : PySem.W.nsIn K mainGlobals "is_index" = some (some (.ref fm1)))
    (lm1 : K.lookup fm1 = some ⟨ocm1, odm1, .func (PySem.W.fnOf "is_index" "is_index" (defArgs s_is_index) (defBody s_is_index) (defScope s_is_index) .none kVm1 dcm1 pmm1 anm1 cdm1 ctm1), slm1⟩)
    (cm1 : PySem.W.codeIn K cdm1 "is_index" = true)
    (km1 : PySem.W.keepIn K (.ref fm1) = true)
    (am2 : PySem.W.nsIn K mainGlobals "told_rows" = some (some (.ref fm2)))
    (lm2 : K.lookup fm2 = some ⟨ocm2, odm2, .func (PySem.W.fnOf "told_rows" "told_rows" (defArgs s_told_rows) (defBody s_told_rows) (defScope s_told_rows) .none kVm2 dcm2 pmm2 anm2 cdm2 ctm2), slm2⟩)
    (cm2 : PySem.W.codeIn K cdm2 "told_rows" = true)
    (km2 : PySem.W.keepIn K (.ref fm2) = true)
    (am3 : PySem.W.nsIn K mainGlobals "is_answer" = some (some (.ref fm3)))
    (lm3 : K.lookup fm3 = some ⟨ocm3, odm3, .func (PySem.W.fnOf "is_answer" "is_answer" (defArgs s_is_answer) (defBody s_is_answer) (defScope s_is_answer) .none kVm3 dcm3 pmm3 anm3 cdm3 ctm3), slm3⟩)
    (cm3 : PySem.W.codeIn K cdm3 "is_answer" = true)
    (km3 : PySem.W.keepIn K (.ref fm3) = true)
    (am4 : PySem.W.nsIn K mainGlobals "told_answers" = some (some (.ref fm4)))
    (lm4 : K.lookup fm4 = some ⟨ocm4, odm4, .func (PySem.W.fnOf "told_answers" "told_answers" (defArgs s_told_answers) (defBody s_told_answers) (defScope s_told_answers) .none kVm4 dcm4 pmm4 anm4 cdm4 ctm4), slm4⟩)
    (cm4 : PySem.W.codeIn K cdm4 "told_answers" = true)
    (km4 : PySem.W.keepIn K (.ref fm4) = true)
    (am5 : PySem.W.nsIn K mainGlobals "leap" = some (some (.ref fm5)))
    (lm5 : K.lookup fm5 = some ⟨ocm5, odm5, .func (PySem.W.fnOf "leap" "leap" (defArgs s_leap) (defBody s_leap) (defScope s_leap) .none kVm5 dcm5 pmm5 anm5 cdm5 ctm5), slm5⟩)
    (cm5 : PySem.W.codeIn K cdm5 "leap" = true)
    (km5 : PySem.W.keepIn K (.ref fm5) = true)
    (am6 : PySem.W.nsIn K mainGlobals "require_same" = some (some (.ref fm6)))
    (lm6 : K.lookup fm6 = some ⟨ocm6, odm6, .func (PySem.W.fnOf "require_same" "require_same" (defArgs s_require_same) (defBody s_require_same) (defScope s_require_same) .none kVm6 dcm6 pmm6 anm6 cdm6 ctm6), slm6⟩)
    (cm6 : PySem.W.codeIn K cdm6 "require_same" = true)
    (km6 : PySem.W.keepIn K (.ref fm6) = true)
    (am7 : PySem.W.nsIn K mainGlobals "first_histories" = some (some (.ref fm7)))
    (lm7 : K.lookup fm7 = some ⟨ocm7, odm7, .func (PySem.W.fnOf "first_histories" "first_histories" (defArgs s_first_histories) (defBody s_first_histories) (defScope s_first_histories) .none kVm7 dcm7 pmm7 anm7 cdm7 ctm7), slm7⟩)
    (cm7 : PySem.W.codeIn K cdm7 "first_histories" = true)
    (km7 : PySem.W.keepIn K (.ref fm7) = true)
    (as1 : PySem.W.nsIn K mainGlobals "_law_shuffled" = some (some (.ref fs1)))
    (ls1 : K.lookup fs1 = some ⟨ocs1, ods1, .func (PySem.W.fnOf "_law_shuffled" "_law_shuffled" (defArgs s__law_shuffled) (defBody s__law_shuffled) (defScope s__law_shuffled) .none kVs1 dcs1 pms1 ans1 cds1 cts1), sls1⟩)
    (cs1 : PySem.W.codeIn K cds1 "_law_shuffled" = true)
    (ks1 : PySem.W.keepIn K (.ref fs1) = true)
    (as2 : PySem.W.nsIn K mainGlobals "_law_words" = some (some (.ref fs2)))
    (ls2 : K.lookup fs2 = some ⟨ocs2, ods2, .func (PySem.W.fnOf "_law_words" "_law_words" (defArgs s__law_words) (defBody s__law_words) (defScope s__law_words) .none kVs2 dcs2 pms2 ans2 cds2 cts2), sls2⟩)
    (cs2 : PySem.W.codeIn K cds2 "_law_words" = true)
    (ks2 : PySem.W.keepIn K (.ref fs2) = true)
    (as3 : PySem.W.nsIn K mainGlobals "_law_machine" = some (some (.ref fs3)))
    (ls3 : K.lookup fs3 = some ⟨ocs3, ods3, .func (PySem.W.fnOf "_law_machine" "_law_machine" (defArgs s__law_machine) (defBody s__law_machine) (defScope s__law_machine) .none kVs3 dcs3 pms3 ans3 cds3 cts3), sls3⟩)
    (cs3 : PySem.W.codeIn K cds3 "_law_machine" = true)
    (ks3 : PySem.W.keepIn K (.ref fs3) = true)
    (as4 : PySem.W.nsIn K mainGlobals "_law_answering" = some (some (.ref fs4)))
    (ls4 : K.lookup fs4 = some ⟨ocs4, ods4, .func (PySem.W.fnOf "_law_answering" "_law_answering" (defArgs s__law_answering) (defBody s__law_answering) (defScope s__law_answering) .none kVs4 dcs4 pms4 ans4 cds4 cts4), sls4⟩)
    (cs4 : PySem.W.codeIn K cds4 "_law_answering" = true)
    (ks4 : PySem.W.keepIn K (.ref fs4) = true)
    (as5 : PySem.W.nsIn K mainGlobals "_law_program" = some (some (.ref fs5)))
    (ls5 : K.lookup fs5 = some ⟨ocs5, ods5, .func (PySem.W.fnOf "_law_program" "_law_program" (defArgs s__law_program) (defBody s__law_program) (defScope s__law_program) .none kVs5 dcs5 pms5 ans5 cds5 cts5), sls5⟩)
    (cs5 : PySem.W.codeIn K cds5 "_law_program" = true)
    (ks5 : PySem.W.keepIn K (.ref fs5) = true)
    (as8 : PySem.W.nsIn K mainGlobals "_law_spelled" = some (some (.ref fs8)))
    (ls8 : K.lookup fs8 = some ⟨ocs8, ods8, .func (PySem.W.fnOf "_law_spelled" "_law_spelled" (defArgs s__law_spelled) (defBody s__law_spelled) (defScope s__law_spelled) .none kVs8 dcs8 pms8 ans8 cds8 cts8), sls8⟩)
    (cs8 : PySem.W.codeIn K cds8 "_law_spelled" = true)
    (ks8 : PySem.W.keepIn K (.ref fs8) = true)
    (as9 : PySem.W.nsIn K mainGlobals "_law_history" = some (some (.ref fs9)))
    (ls9 : K.lookup fs9 = some ⟨ocs9, ods9, .func (PySem.W.fnOf "_law_history" "_law_history" (defArgs s__law_history) (defBody s__law_history) (defScope s__law_history) .none kVs9 dcs9 pms9 ans9 cds9 cts9), sls9⟩)
    (cs9 : PySem.W.codeIn K cds9 "_law_history" = true)
    (ks9 : PySem.W.keepIn K (.ref fs9) = true)
    (at1 : PySem.W.nsIn K mainGlobals "_law_is_refused" = some (some (.ref ft1)))
    (lt1 : K.lookup ft1 = some ⟨oct1, odt1, .func (PySem.W.fnOf "_law_is_refused" "_law_is_refused" (defArgs s__law_is_refused) (defBody s__law_is_refused) (defScope s__law_is_refused) .none kVt1 dct1 pmt1 ant1 cdt1 ctt1), slt1⟩)
    (ct1 : PySem.W.codeIn K cdt1 "_law_is_refused" = true)
    (kt1 : PySem.W.keepIn K (.ref ft1) = true)
    (at2 : PySem.W.nsIn K mainGlobals "_law_led" = some (some (.ref ft2)))
    (lt2 : K.lookup ft2 = some ⟨oct2, odt2, .func (PySem.W.fnOf "_law_led" "_law_led" (defArgs s__law_led) (defBody s__law_led) (defScope s__law_led) .none kVt2 dct2 pmt2 ant2 cdt2 ctt2), slt2⟩)
    (ct2 : PySem.W.codeIn K cdt2 "_law_led" = true)
    (kt2 : PySem.W.keepIn K (.ref ft2) = true)
    (at3 : PySem.W.nsIn K mainGlobals "_law_any_said" = some (some (.ref ft3)))
    (lt3 : K.lookup ft3 = some ⟨oct3, odt3, .func (PySem.W.fnOf "_law_any_said" "_law_any_said" (defArgs s__law_any_said) (defBody s__law_any_said) (defScope s__law_any_said) .none kVt3 dct3 pmt3 ant3 cdt3 ctt3), slt3⟩)
    (ct3 : PySem.W.codeIn K cdt3 "_law_any_said" = true)
    (kt3 : PySem.W.keepIn K (.ref ft3) = true)
    (at4 : PySem.W.nsIn K mainGlobals "_law_sides" = some (some (.ref ft4)))
    (lt4 : K.lookup ft4 = some ⟨oct4, odt4, .func (PySem.W.fnOf "_law_sides" "_law_sides" (defArgs s__law_sides) (defBody s__law_sides) (defScope s__law_sides) .none kVt4 dct4 pmt4 ant4 cdt4 ctt4), slt4⟩)
    (ct4 : PySem.W.codeIn K cdt4 "_law_sides" = true)
    (kt4 : PySem.W.keepIn K (.ref ft4) = true)
    (at5 : PySem.W.nsIn K mainGlobals "_law_sentence" = some (some (.ref ft5)))
    (lt5 : K.lookup ft5 = some ⟨oct5, odt5, .func (PySem.W.fnOf "_law_sentence" "_law_sentence" (defArgs s__law_sentence) (defBody s__law_sentence) (defScope s__law_sentence) .none kVt5 dct5 pmt5 ant5 cdt5 ctt5), slt5⟩)
    (ct5 : PySem.W.codeIn K cdt5 "_law_sentence" = true)
    (kt5 : PySem.W.keepIn K (.ref ft5) = true)
    (at6 : PySem.W.nsIn K mainGlobals "_law_limit" = some (some (.ref ft6)))
    (lt6 : K.lookup ft6 = some ⟨oct6, odt6, .func (PySem.W.fnOf "_law_limit" "_law_limit" (defArgs s__law_limit) (defBody s__law_limit) (defScope s__law_limit) .none kVt6 dct6 pmt6 ant6 cdt6 ctt6), slt6⟩)
    (ct6 : PySem.W.codeIn K cdt6 "_law_limit" = true)
    (kt6 : PySem.W.keepIn K (.ref ft6) = true)
    (at7 : PySem.W.nsIn K mainGlobals "_law_firsts" = some (some (.ref ft7)))
    (lt7 : K.lookup ft7 = some ⟨oct7, odt7, .func (PySem.W.fnOf "_law_firsts" "_law_firsts" (defArgs s__law_firsts) (defBody s__law_firsts) (defScope s__law_firsts) .none kVt7 dct7 pmt7 ant7 cdt7 ctt7), slt7⟩)
    (ct7 : PySem.W.codeIn K cdt7 "_law_firsts" = true)
    (kt7 : PySem.W.keepIn K (.ref ft7) = true)
    (at8 : PySem.W.nsIn K mainGlobals "_law_state_due" = some (some (.ref ft8)))
    (lt8 : K.lookup ft8 = some ⟨oct8, odt8, .func (PySem.W.fnOf "_law_state_due" "_law_state_due" (defArgs s__law_state_due) (defBody s__law_state_due) (defScope s__law_state_due) .none kVt8 dct8 pmt8 ant8 cdt8 ctt8), slt8⟩)
    (ct8 : PySem.W.codeIn K cdt8 "_law_state_due" = true)
    (kt8 : PySem.W.keepIn K (.ref ft8) = true)
    (atx : PySem.W.nsIn K mainGlobals "_law_answer_due" = some (some (.ref ftx)))
    (ltx : K.lookup ftx = some ⟨octx, odtx, .func (PySem.W.fnOf "_law_answer_due" "_law_answer_due" (defArgs s__law_answer_due) (defBody s__law_answer_due) (defScope s__law_answer_due) .none kVtx dctx pmtx antx cdtx cttx), sltx⟩)
    (ctx : PySem.W.codeIn K cdtx "_law_answer_due" = true)
    (ktx : PySem.W.keepIn K (.ref ftx) = true)
    (au1 : PySem.W.nsIn K mainGlobals "_law_is_broken" = some (some (.ref fu1)))
    (lu1 : K.lookup fu1 = some ⟨ocu1, odu1, .func (PySem.W.fnOf "_law_is_broken" "_law_is_broken" (defArgs s__law_is_broken) (defBody s__law_is_broken) (defScope s__law_is_broken) .none kVu1 dcu1 pmu1 anu1 cdu1 ctu1), slu1⟩)
    (cu1 : PySem.W.codeIn K cdu1 "_law_is_broken" = true)
    (ku1 : PySem.W.keepIn K (.ref fu1) = true)
    (au2 : PySem.W.nsIn K mainGlobals "_law_tame" = some (some (.ref fu2)))
    (lu2 : K.lookup fu2 = some ⟨ocu2, odu2, .func (PySem.W.fnOf "_law_tame" "_law_tame" (defArgs s__law_tame) (defBody s__law_tame) (defScope s__law_tame) .none kVu2 dcu2 pmu2 anu2 cdu2 ctu2), slu2⟩)
    (cu2 : PySem.W.codeIn K cdu2 "_law_tame" = true)
    (ku2 : PySem.W.keepIn K (.ref fu2) = true)
    (a9 : PySem.W.nsIn K mainGlobals "law" = some (some (.ref f9)))
    (l9 : K.lookup f9 = some ⟨oc9, od9, .func (PySem.W.fnOf "law" "law" (defArgs s_law) (defBody s_law) (defScope s_law) .none kV9 dc9 pm9 an9 cd9 ct9), sl9⟩)
    (c9 : PySem.W.codeIn K cd9 "law" = true)
    (k9 : PySem.W.keepIn K (.ref f9) = true)
    (aB : PySem.W.nsIn K mainGlobals "BadLetters" = some (some (.ref CB)))
    (iB : PySem.W.findIn K (.ref CB) "__init__" = some (some (.ref fB)))
    (lB : K.lookup fB = some ⟨ocB, odB, .func (PySem.W.fnOf "__init__" "BadLetters.__init__" (defArgs s_BadLetters_init) (defBody s_BadLetters_init) (defScope s_BadLetters_init) .none kVB dcB pmB anB cdB ctB), slB⟩)
    (cB : PySem.W.codeIn K cdB "BadLetters.__init__" = true)
    (kB : PySem.W.keepIn K (.ref fB) = true)
    (kcB : PySem.W.keepIn K (.ref CB) = true)
    (saB : PySem.W.findIn K (.ref CB) "__setattr__" = some (some (.builtin "object.__setattr__")))
    (xB : K.lookup CB = some (excClassObj nmB qB CB NB bsB bmB true snB subB abB colB ddB m0B m1B m2B m3B m5B "ValueError.__new__"))
    (vB : PySem.HandSPX.refsVE bmB = true)
    (gaB : PySem.W.findIn K (.ref CB) "__getattribute__" = some (some (.builtin "BaseException.__getattribute__")))
    (ggB : PySem.W.findIn K (.ref CB) "__getattr__" = some none)
    (eCB : PySem.W.subIn K (.ref CB) (.type "BaseException") = some true)
    (tCB : PySem.W.typeIn K (.ref CB) = some (.type "type"))
    (tfB : PySem.W.typeIn K (.ref fB) = some (.type "function"))
    (hCB : PySem.W.hasDictIn K CB = true)
    (nB0 : PySem.W.findIn K (.ref CB) "index" = some none)
    (aM : PySem.W.nsIn K mainGlobals "TooMany" = some (some (.ref CM)))
    (iM : PySem.W.findIn K (.ref CM) "__init__" = some (some (.ref fM)))
    (lM : K.lookup fM = some ⟨ocM, odM, .func (PySem.W.fnOf "__init__" "TooMany.__init__" (defArgs s_TooMany_init) (defBody s_TooMany_init) (defScope s_TooMany_init) .none kVM dcM pmM anM cdM ctM), slM⟩)
    (cM : PySem.W.codeIn K cdM "TooMany.__init__" = true)
    (kM : PySem.W.keepIn K (.ref fM) = true)
    (kcM : PySem.W.keepIn K (.ref CM) = true)
    (saM : PySem.W.findIn K (.ref CM) "__setattr__" = some (some (.builtin "object.__setattr__")))
    (xM : K.lookup CM = some (excClassObj nmM qM CM NM bsM bmM true snM subM abM colM ddM m0M m1M m2M m3M m5M "ValueError.__new__"))
    (vM : PySem.HandSPX.refsVE bmM = true)
    (gaM : PySem.W.findIn K (.ref CM) "__getattribute__" = some (some (.builtin "BaseException.__getattribute__")))
    (ggM : PySem.W.findIn K (.ref CM) "__getattr__" = some none)
    (eCM : PySem.W.subIn K (.ref CM) (.type "BaseException") = some true)
    (tCM : PySem.W.typeIn K (.ref CM) = some (.type "type"))
    (tfM : PySem.W.typeIn K (.ref fM) = some (.type "function"))
    (hCM : PySem.W.hasDictIn K CM = true)
    (nM0 : PySem.W.findIn K (.ref CM) "what" = some none)
    (nM1 : PySem.W.findIn K (.ref CM) "many" = some none)
    (nM2 : PySem.W.findIn K (.ref CM) "most" = some none)
    (aT : PySem.W.nsIn K mainGlobals "BadLetter" = some (some (.ref CT)))
    (iT : PySem.W.findIn K (.ref CT) "__init__" = some (some (.ref fT)))
    (lT : K.lookup fT = some ⟨ocT, odT, .func (PySem.W.fnOf "__init__" "BadLetter.__init__" (defArgs s_BadLetter_init) (defBody s_BadLetter_init) (defScope s_BadLetter_init) .none kVT dcT pmT anT cdT ctT), slT⟩)
    (cT : PySem.W.codeIn K cdT "BadLetter.__init__" = true)
    (kT : PySem.W.keepIn K (.ref fT) = true)
    (kcT : PySem.W.keepIn K (.ref CT) = true)
    (saT : PySem.W.findIn K (.ref CT) "__setattr__" = some (some (.builtin "object.__setattr__")))
    (xT : K.lookup CT = some (excClassObj nmT qT CT NT bsT bmT true snT subT abT colT ddT m0T m1T m2T m3T m5T "ValueError.__new__"))
    (vT : PySem.HandSPX.refsVE bmT = true)
    (gaT : PySem.W.findIn K (.ref CT) "__getattribute__" = some (some (.builtin "BaseException.__getattribute__")))
    (ggT : PySem.W.findIn K (.ref CT) "__getattr__" = some none)
    (eCT : PySem.W.subIn K (.ref CT) (.type "BaseException") = some true)
    (tCT : PySem.W.typeIn K (.ref CT) = some (.type "type"))
    (tfT : PySem.W.typeIn K (.ref fT) = some (.type "function"))
    (hCT : PySem.W.hasDictIn K CT = true)
    (nT0 : PySem.W.findIn K (.ref CT) "index" = some none)
    (aBa : PySem.W.nsIn K mainGlobals "BadAnswers" = some (some (.ref CBa)))
    (iBa : PySem.W.findIn K (.ref CBa) "__init__" = some (some (.ref fBa)))
    (lBa : K.lookup fBa = some ⟨ocBa, odBa, .func (PySem.W.fnOf "__init__" "BadAnswers.__init__" (defArgs s_BadAnswers_init) (defBody s_BadAnswers_init) (defScope s_BadAnswers_init) .none kVBa dcBa pmBa anBa cdBa ctBa), slBa⟩)
    (cBa : PySem.W.codeIn K cdBa "BadAnswers.__init__" = true)
    (kBa : PySem.W.keepIn K (.ref fBa) = true)
    (kcBa : PySem.W.keepIn K (.ref CBa) = true)
    (saBa : PySem.W.findIn K (.ref CBa) "__setattr__" = some (some (.builtin "object.__setattr__")))
    (xBa : K.lookup CBa = some (excClassObj nmBa qBa CBa NBa bsBa bmBa true snBa subBa abBa colBa ddBa m0Ba m1Ba m2Ba m3Ba m5Ba "ValueError.__new__"))
    (vBa : PySem.HandSPX.refsVE bmBa = true)
    (gaBa : PySem.W.findIn K (.ref CBa) "__getattribute__" = some (some (.builtin "BaseException.__getattribute__")))
    (ggBa : PySem.W.findIn K (.ref CBa) "__getattr__" = some none)
    (eCBa : PySem.W.subIn K (.ref CBa) (.type "BaseException") = some true)
    (tCBa : PySem.W.typeIn K (.ref CBa) = some (.type "type"))
    (tfBa : PySem.W.typeIn K (.ref fBa) = some (.type "function"))
    (hCBa : PySem.W.hasDictIn K CBa = true)
    (nBa0 : PySem.W.findIn K (.ref CBa) "index" = some none)
    (aZ : PySem.W.nsIn K mainGlobals "BadKind" = some (some (.ref CZ)))
    (exZ : PySem.W.excIn K CZ [Value.type "ValueError", Value.type "Exception", Value.type "BaseException", Value.type "object"] "ValueError.__new__" = true)
    (kcZ : PySem.W.keepIn K (.ref CZ) = true)
    (eCZ : PySem.W.subIn K (.ref CZ) (.type "BaseException") = some true)
    (tCZ : PySem.W.typeIn K (.ref CZ) = some (.type "type"))
    (aN0 : PySem.W.nsIn K mainGlobals "SaysNothing" = some (some (.ref CN0)))
    (exN0 : PySem.W.excIn K CN0 [Value.type "ValueError", Value.type "Exception", Value.type "BaseException", Value.type "object"] "ValueError.__new__" = true)
    (kcN0 : PySem.W.keepIn K (.ref CN0) = true)
    (eCN0 : PySem.W.subIn K (.ref CN0) (.type "BaseException") = some true)
    (tCN0 : PySem.W.typeIn K (.ref CN0) = some (.type "type"))
    (aO : PySem.W.nsIn K mainGlobals "OtherLetters" = some (some (.ref CO)))
    (exO : PySem.W.excIn K CO [Value.type "ValueError", Value.type "Exception", Value.type "BaseException", Value.type "object"] "ValueError.__new__" = true)
    (kcO : PySem.W.keepIn K (.ref CO) = true)
    (eCO : PySem.W.subIn K (.ref CO) (.type "BaseException") = some true)
    (tCO : PySem.W.typeIn K (.ref CO) = some (.type "type"))
    (icO : PySem.W.isClsIn K CO = true)
    (esO : PySem.W.subIn K (.ref CO) (.ref CO) = some true)
    (aL : PySem.W.nsIn K mainGlobals "Letters" = some (some (.ref CL)))
    (kcL : PySem.W.keepIn K (.ref CL) = true)
    (saL : PySem.W.findIn K (.ref CL) "__setattr__" = some (some (.builtin "object.__setattr__")))
    (pgL : PySem.W.plainGet K CL Str.empty = true)
    (hdL : PySem.W.hasDictIn K CL = true)
    (poL : PySem.W.plainOver K CL = true)
    (mkL : PySem.W.makesIn K CL = true)
    (nL0 : PySem.W.findIn K (.ref CL) "words" = some none)
    (icL : PySem.W.isClsIn K CL = true)
    (haL : PySem.W.findIn K (.ref CL) "__class__" = some (some (.builtin "object.__class__")))
    (hmL : PySem.W.mroIn K CL (.type "object") = some true)
    (iL : PySem.W.findIn K (.ref CL) "__init__" = some (some (.ref fL)))
    (lL : K.lookup fL = some ⟨ocL, odL, .func (PySem.W.fnOf "__init__" "Letters.__init__" (defArgs s_Letters_init) (defBody s_Letters_init) (defScope s_Letters_init) .none kVL dcL pmL anL cdL ctL), slL⟩)
    (cL : PySem.W.codeIn K cdL "Letters.__init__" = true)
    (kL : PySem.W.keepIn K (.ref fL) = true)
    (isL : PySem.W.isFn K (.ref fL) = true)
    (iH : PySem.W.findIn K (.ref CL) "__contains__" = some (some (.ref fH)))
    (lH : K.lookup fH = some ⟨ocH, odH, .func (PySem.W.fnOf "__contains__" "Letters.__contains__" (defArgs s_Has) (defBody s_Has) (defScope s_Has) .none kVH dcH pmH anH cdH ctH), slH⟩)
    (cH : PySem.W.codeIn K cdH "Letters.__contains__" = true)
    (kH : PySem.W.keepIn K (.ref fH) = true)
    (isH : PySem.W.isFn K (.ref fH) = true)
    (iR : PySem.W.findIn K (.ref CL) "rank" = some (some (.ref fR)))
    (lR : K.lookup fR = some ⟨ocR, odR, .func (PySem.W.fnOf "rank" "Letters.rank" (defArgs s_Rank) (defBody s_Rank) (defScope s_Rank) .none kVR dcR pmR anR cdR ctR), slR⟩)
    (cR : PySem.W.codeIn K cdR "Letters.rank" = true)
    (kR : PySem.W.keepIn K (.ref fR) = true)
    (isR : PySem.W.isFn K (.ref fR) = true)
    (iQ : PySem.W.findIn K (.ref CL) "__eq__" = some (some (.ref fQ)))
    (lQ : K.lookup fQ = some ⟨ocQ, odQ, .func (PySem.W.fnOf "__eq__" "Letters.__eq__" (defArgs s_Eq) (defBody s_Eq) (defScope s_Eq) .none kVQ dcQ pmQ anQ cdQ ctQ), slQ⟩)
    (cQ : PySem.W.codeIn K cdQ "Letters.__eq__" = true)
    (kQ : PySem.W.keepIn K (.ref fQ) = true)
    (isQ : PySem.W.isFn K (.ref fQ) = true)
    (iN : PySem.W.findIn K (.ref CL) "__len__" = some (some (.ref fN)))
    (lN : K.lookup fN = some ⟨ocN, odN, .func (PySem.W.fnOf "__len__" "Letters.__len__" (defArgs s_Len) (defBody s_Len) (defScope s_Len) .none kVN dcN pmN anN cdN ctN), slN⟩)
    (cN : PySem.W.codeIn K cdN "Letters.__len__" = true)
    (kN : PySem.W.keepIn K (.ref fN) = true)
    (isN : PySem.W.isFn K (.ref fN) = true)
    (aY : PySem.W.nsIn K mainGlobals "History" = some (some (.ref CY)))
    (kcY : PySem.W.keepIn K (.ref CY) = true)
    (saY : PySem.W.findIn K (.ref CY) "__setattr__" = some (some (.builtin "object.__setattr__")))
    (pgY : PySem.W.plainGet K CY Str.empty = true)
    (hdY : PySem.W.hasDictIn K CY = true)
    (poY : PySem.W.plainOver K CY = true)
    (mkY : PySem.W.makesIn K CY = true)
    (nY0 : PySem.W.findIn K (.ref CY) "letters" = some none)
    (nY1 : PySem.W.findIn K (.ref CY) "beginning" = some none)
    (nY2 : PySem.W.findIn K (.ref CY) "runs" = some none)
    (nY3 : PySem.W.findIn K (.ref CY) "size" = some none)
    (nY4 : PySem.W.findIn K (.ref CY) "last" = some none)
    (icY : PySem.W.isClsIn K CY = true)
    (haY : PySem.W.findIn K (.ref CY) "__class__" = some (some (.builtin "object.__class__")))
    (hmY : PySem.W.mroIn K CY (.type "object") = some true)
    (iY : PySem.W.findIn K (.ref CY) "__init__" = some (some (.ref fY)))
    (lY : K.lookup fY = some ⟨ocY, odY, .func (PySem.W.fnOf "__init__" "History.__init__" (defArgs s_Hist_init) (defBody s_Hist_init) (defScope s_Hist_init) (.ref TY) kVY dcY pmY anY cdY ctY), slY⟩)
    (cY : PySem.W.codeIn K cdY "History.__init__" = true)
    (kY : PySem.W.keepIn K (.ref fY) = true)
    (dTY : K.lookup TY = some oTY)
    (dUY : oTY.data = .seq [Value.ref aDY].toArray nTY)
    (dDY : K.lookup aDY = some oDY)
    (dEY : oDY.cls = .type "tuple")
    (dGY : oDY.data = .seq #[] nDY)
    (isY : PySem.W.isFn K (.ref fY) = true)
    (iE : PySem.W.findIn K (.ref CY) "__eq__" = some (some (.ref fE)))
    (lE : K.lookup fE = some ⟨ocE, odE, .func (PySem.W.fnOf "__eq__" "History.__eq__" (defArgs s_HEq) (defBody s_HEq) (defScope s_HEq) .none kVE dcE pmE anE cdE ctE), slE⟩)
    (cE : PySem.W.codeIn K cdE "History.__eq__" = true)
    (kE : PySem.W.keepIn K (.ref fE) = true)
    (isE : PySem.W.isFn K (.ref fE) = true)
    (rdY : PySem.W.readsIn K CY (.type "type") = true)
    (cgY : PySem.W.specialIn K (.ref CY) "__getattribute__" = some (some (.builtin "type.__getattribute__")))
    (caP : PySem.W.findCls K (.ref CY) (.type "type") "spelled" = some (.get (.builtin "classmethod.__get__") (.ref pP) .none (.ref CY)))
    (crP : PySem.W.recIn K pP "classmethod" = some (.ref fP :: rsP))
    (cfP : PySem.W.fnIn K fP = true)
    (lP : K.lookup fP = some ⟨ocP, odP, .func (PySem.W.fnOf "spelled" "History.spelled" (defArgs s_Spelled) (defBody s_Spelled) (defScope s_Spelled) .none kVP dcP pmP anP cdP ctP), slP⟩)
    (cP : PySem.W.codeIn K cdP "History.spelled" = true)
    (kP : PySem.W.keepIn K (.ref fP) = true)
    (aS : PySem.W.nsIn K mainGlobals "Sentence" = some (some (.ref CS)))
    (kcS : PySem.W.keepIn K (.ref CS) = true)
    (saS : PySem.W.findIn K (.ref CS) "__setattr__" = some (some (.builtin "object.__setattr__")))
    (pgS : PySem.W.plainGet K CS Str.empty = true)
    (hdS : PySem.W.hasDictIn K CS = true)
    (poS : PySem.W.plainOver K CS = true)
    (mkS : PySem.W.makesIn K CS = true)
    (nS0 : PySem.W.findIn K (.ref CS) "letters" = some none)
    (nS1 : PySem.W.findIn K (.ref CS) "kind" = some none)
    (nS2 : PySem.W.findIn K (.ref CS) "first" = some none)
    (nS3 : PySem.W.findIn K (.ref CS) "second" = some none)
    (icS : PySem.W.isClsIn K CS = true)
    (haS : PySem.W.findIn K (.ref CS) "__class__" = some (some (.builtin "object.__class__")))
    (hmS : PySem.W.mroIn K CS (.type "object") = some true)
    (iS : PySem.W.findIn K (.ref CS) "__init__" = some (some (.ref fS)))
    (lS : K.lookup fS = some ⟨ocS, odS, .func (PySem.W.fnOf "__init__" "Sentence.__init__" (defArgs s_Sen_init) (defBody s_Sen_init) (defScope s_Sen_init) (.ref TS) kVS dcS pmS anS cdS ctS), slS⟩)
    (cS : PySem.W.codeIn K cdS "Sentence.__init__" = true)
    (kS : PySem.W.keepIn K (.ref fS) = true)
    (dTS : K.lookup TS = some oTS)
    (dUS : oTS.data = .seq [Value.none].toArray nTS)
    (isS : PySem.W.isFn K (.ref fS) = true)
    (paF : PySem.W.findIn K (.ref CS) "left" = some (some (.ref pF)))
    (pbF : PySem.W.specialIn K (.ref pF) "__get__" = some (some (.builtin "property.__get__")))
    (pcF : PySem.W.takesIn K (.ref pF) = some true)
    (pdF : PySem.W.recIn K pF "property" = some (.ref fF :: rsF))
    (lF : K.lookup fF = some ⟨ocF, odF, .func (PySem.W.fnOf "left" "Sentence.left" (defArgs s_left) (defBody s_left) (defScope s_left) .none kVF dcF pmF anF cdF ctF), slF⟩)
    (cF : PySem.W.codeIn K cdF "Sentence.left" = true)
    (kF : PySem.W.keepIn K (.ref fF) = true)
    (paG : PySem.W.findIn K (.ref CS) "right" = some (some (.ref pG)))
    (pbG : PySem.W.specialIn K (.ref pG) "__get__" = some (some (.builtin "property.__get__")))
    (pcG : PySem.W.takesIn K (.ref pG) = some true)
    (pdG : PySem.W.recIn K pG "property" = some (.ref fG :: rsG))
    (lG : K.lookup fG = some ⟨ocG, odG, .func (PySem.W.fnOf "right" "Sentence.right" (defArgs s_right) (defBody s_right) (defScope s_right) .none kVG dcG pmG anG cdG ctG), slG⟩)
    (cG : PySem.W.codeIn K cdG "Sentence.right" = true)
    (kG : PySem.W.keepIn K (.ref fG) = true)
    (aI : PySem.W.nsIn K mainGlobals "Limit" = some (some (.ref CI)))
    (kcI : PySem.W.keepIn K (.ref CI) = true)
    (saI : PySem.W.findIn K (.ref CI) "__setattr__" = some (some (.builtin "object.__setattr__")))
    (pgI : PySem.W.plainGet K CI Str.empty = true)
    (hdI : PySem.W.hasDictIn K CI = true)
    (poI : PySem.W.plainOver K CI = true)
    (mkI : PySem.W.makesIn K CI = true)
    (nI0 : PySem.W.findIn K (.ref CI) "letters" = some none)
    (nI1 : PySem.W.findIn K (.ref CI) "kind" = some none)
    (nI2 : PySem.W.findIn K (.ref CI) "answers" = some none)
    (nI3 : PySem.W.findIn K (.ref CI) "letter" = some none)
    (icI : PySem.W.isClsIn K CI = true)
    (haI : PySem.W.findIn K (.ref CI) "__class__" = some (some (.builtin "object.__class__")))
    (hmI : PySem.W.mroIn K CI (.type "object") = some true)
    (iI : PySem.W.findIn K (.ref CI) "__init__" = some (some (.ref fI)))
    (lI : K.lookup fI = some ⟨ocI, odI, .func (PySem.W.fnOf "__init__" "Limit.__init__" (defArgs s_Lim_init) (defBody s_Lim_init) (defScope s_Lim_init) (.ref TI) kVI dcI pmI anI cdI ctI), slI⟩)
    (cI : PySem.W.codeIn K cdI "Limit.__init__" = true)
    (kI : PySem.W.keepIn K (.ref fI) = true)
    (dTI : K.lookup TI = some oTI)
    (dUI : oTI.data = .seq [Value.none].toArray nTI)
    (isI : PySem.W.isFn K (.ref fI) = true)
    (neSI : CI ≠ CS)
    (tcS : PySem.W.typeIn K (.ref CS) = some (.type "type"))
    (suSI : PySem.W.subIn K (.ref CI) (.ref CS) = some false)
    (aK : PySem.W.nsIn K mainGlobals "CheckedRuns" = some (some (.ref CK)))
    (kcK : PySem.W.keepIn K (.ref CK) = true)
    (saK : PySem.W.findIn K (.ref CK) "__setattr__" = some (some (.builtin "object.__setattr__")))
    (pgK : PySem.W.plainGet K CK Str.empty = true)
    (hdK : PySem.W.hasDictIn K CK = true)
    (poK : PySem.W.plainOver K CK = true)
    (mkK : PySem.W.makesIn K CK = true)
    (nK0 : PySem.W.findIn K (.ref CK) "runs" = some none)
    (icK : PySem.W.isClsIn K CK = true)
    (haK : PySem.W.findIn K (.ref CK) "__class__" = some (some (.builtin "object.__class__")))
    (hmK : PySem.W.mroIn K CK (.type "object") = some true)
    (tcK : PySem.W.typeIn K (.ref CK) = some (.type "type"))
    (iK : PySem.W.findIn K (.ref CK) "__init__" = some (some (.ref fK)))
    (lK : K.lookup fK = some ⟨ocK, odK, .func (PySem.W.fnOf "__init__" "CheckedRuns.__init__" (defArgs s_Chk_init) (defBody s_Chk_init) (defScope s_Chk_init) .none kVK dcK pmK anK cdK ctK), slK⟩)
    (cK : PySem.W.codeIn K cdK "CheckedRuns.__init__" = true)
    (kK : PySem.W.keepIn K (.ref fK) = true)
    (isK : PySem.W.isFn K (.ref fK) = true)
    (aA : PySem.W.nsIn K mainGlobals "Machine" = some (some (.ref CA)))
    (kcA : PySem.W.keepIn K (.ref CA) = true)
    (saA : PySem.W.findIn K (.ref CA) "__setattr__" = some (some (.builtin "object.__setattr__")))
    (pgA : PySem.W.plainGet K CA Str.empty = true)
    (hdA : PySem.W.hasDictIn K CA = true)
    (poA : PySem.W.plainOver K CA = true)
    (mkA : PySem.W.makesIn K CA = true)
    (nA0 : PySem.W.findIn K (.ref CA) "letters" = some none)
    (nA1 : PySem.W.findIn K (.ref CA) "rows" = some none)
    (nA2 : PySem.W.findIn K (.ref CA) "answers" = some none)
    (nA3 : PySem.W.findIn K (.ref CA) "new" = some none)
    (nA4 : PySem.W.findIn K (.ref CA) "found" = some none)
    (iA : PySem.W.findIn K (.ref CA) "__init__" = some (some (.ref fA)))
    (lA : K.lookup fA = some ⟨ocA, odA, .func (PySem.W.fnOf "__init__" "Machine.__init__" (defArgs s_Machine___init__) (defBody s_Machine___init__) (defScope s_Machine___init__) .none kVA dcA pmA anA cdA ctA), slA⟩)
    (cA : PySem.W.codeIn K cdA "Machine.__init__" = true)
    (kA : PySem.W.keepIn K (.ref fA) = true)
    (hkA : kVA = .ref DA)
    (dnA : PySem.W.nsIn K DA "new" = some (some (.int 0 t1A)))
    (dfA : PySem.W.nsIn K DA "found" = some (some (.int 0 t2A)))
    (isA : PySem.W.isFn K (.ref fA) = true)
    (ib4 : PySem.W.findIn K (.ref CA) "after_runs" = some (some (.ref fb4)))
    (lb4 : K.lookup fb4 = some ⟨ocb4, odb4, .func (PySem.W.fnOf "after_runs" "Machine.after_runs" (defArgs s_Machine_after_runs) (defBody s_Machine_after_runs) (defScope s_Machine_after_runs) .none kVb4 dcb4 pmb4 anb4 cdb4 ctb4), slb4⟩)
    (cb4 : PySem.W.codeIn K cdb4 "Machine.after_runs" = true)
    (kb4 : PySem.W.keepIn K (.ref fb4) = true)
    (isb4 : PySem.W.isFn K (.ref fb4) = true)
    (ib5 : PySem.W.findIn K (.ref CA) "history_of" = some (some (.ref fb5)))
    (lb5 : K.lookup fb5 = some ⟨ocb5, odb5, .func (PySem.W.fnOf "history_of" "Machine.history_of" (defArgs s_Machine_history_of) (defBody s_Machine_history_of) (defScope s_Machine_history_of) .none kVb5 dcb5 pmb5 anb5 cdb5 ctb5), slb5⟩)
    (cb5 : PySem.W.codeIn K cdb5 "Machine.history_of" = true)
    (kb5 : PySem.W.keepIn K (.ref fb5) = true)
    (isb5 : PySem.W.isFn K (.ref fb5) = true)
    (ib6 : PySem.W.findIn K (.ref CA) "reached" = some (some (.ref fb6)))
    (lb6 : K.lookup fb6 = some ⟨ocb6, odb6, .func (PySem.W.fnOf "reached" "Machine.reached" (defArgs s_Machine_reached) (defBody s_Machine_reached) (defScope s_Machine_reached) .none kVb6 dcb6 pmb6 anb6 cdb6 ctb6), slb6⟩)
    (cb6 : PySem.W.codeIn K cdb6 "Machine.reached" = true)
    (kb6 : PySem.W.keepIn K (.ref fb6) = true)
    (isb6 : PySem.W.isFn K (.ref fb6) = true)
    (ib7 : PySem.W.findIn K (.ref CA) "spoken" = some (some (.ref fb7)))
    (lb7 : K.lookup fb7 = some ⟨ocb7, odb7, .func (PySem.W.fnOf "spoken" "Machine.spoken" (defArgs s_Machine_spoken) (defBody s_Machine_spoken) (defScope s_Machine_spoken) .none kVb7 dcb7 pmb7 anb7 cdb7 ctb7), slb7⟩)
    (cb7 : PySem.W.codeIn K cdb7 "Machine.spoken" = true)
    (kb7 : PySem.W.keepIn K (.ref fb7) = true)
    (isb7 : PySem.W.isFn K (.ref fb7) = true)
    (ib8 : PySem.W.findIn K (.ref CA) "breaks" = some (some (.ref fb8)))
    (lb8 : K.lookup fb8 = some ⟨ocb8, odb8, .func (PySem.W.fnOf "breaks" "Machine.breaks" (defArgs s_Machine_breaks) (defBody s_Machine_breaks) (defScope s_Machine_breaks) .none kVb8 dcb8 pmb8 anb8 cdb8 ctb8), slb8⟩)
    (cb8 : PySem.W.codeIn K cdb8 "Machine.breaks" = true)
    (kb8 : PySem.W.keepIn K (.ref fb8) = true)
    (isb8 : PySem.W.isFn K (.ref fb8) = true)
    (g_gS : PySem.W.nsIn K mainGlobals "SMALL_LETTERS" = some (some (.str "abcdefghijklmnopqrstuvwxyz" gS)))
    (g_gW : PySem.W.nsIn K mainGlobals "WORD_SIGNS" = some (some (.str "abcdefghijklmnopqrstuvwxyz0123456789" gW)))
    (g_gM : PySem.W.nsIn K mainGlobals "MOST_SIGNS" = some (some (.int 12 gM)))
    (g_gL : PySem.W.nsIn K mainGlobals "MOST_LETTERS" = some (some (.int 12 gL)))
    (g_gB : PySem.W.nsIn K mainGlobals "BEGINNINGS" = some (some (.ref T_gB)))
    (gl_gB : K.lookup T_gB = some o_gB)
    (gc_gB : o_gB.cls = .type "tuple")
    (gd_gB : o_gB.data = .seq j_gB n_gB)
    (gs_gB : j_gB.size ≤ sizeLine)
    (gv_gB : Vals [.str newW, .str foundW] j_gB.toList)
    (g_gK : PySem.W.nsIn K mainGlobals "KINDS" = some (some (.ref T_gK)))
    (gl_gK : K.lookup T_gK = some o_gK)
    (gc_gK : o_gK.cls = .type "tuple")
    (gd_gK : o_gK.data = .seq j_gK n_gK)
    (gs_gK : j_gK.size ≤ sizeLine)
    (gv_gK : Vals [.str ("idle" : Str), .str ("kept" : Str), .str ("still" : Str), .str ("over" : Str), .str ("undone" : Str), .str ("alike" : Str)] j_gK.toList)
    (g_gN : PySem.W.nsIn K mainGlobals "LONE_KINDS" = some (some (.ref T_gN)))
    (gl_gN : K.lookup T_gN = some o_gN)
    (gc_gN : o_gN.cls = .type "tuple")
    (gd_gN : o_gN.data = .seq j_gN n_gN)
    (gs_gN : j_gN.size ≤ sizeLine)
    (gv_gN : Vals [.str ("idle" : Str), .str ("still" : Str)] j_gN.toList)
    (g_gJ : PySem.W.nsIn K mainGlobals "LIMIT_KINDS" = some (some (.ref T_gJ)))
    (gl_gJ : K.lookup T_gJ = some o_gJ)
    (gc_gJ : o_gJ.cls = .type "tuple")
    (gd_gJ : o_gJ.data = .seq j_gJ n_gJ)
    (gs_gJ : j_gJ.size ≤ sizeLine)
    (gv_gJ : Vals [.str ("always" : Str), .str ("fresh" : Str), .str ("behind" : Str)] j_gJ.toList)
    (g_gC : PySem.W.nsIn K mainGlobals "MOST_COUNT" = some (some (.int 1000000000000000000000000000000 gC)))
    (g_gR : PySem.W.nsIn K mainGlobals "MOST_RUNS" = some (some (.int 400 gR)))
    (g_gZ : PySem.W.nsIn K mainGlobals "MOST_STATES" = some (some (.int 40 gZ)))
    (g_gA : PySem.W.nsIn K mainGlobals "MOST_ANSWERS" = some (some (.int 6 gA)))
    (z0 : PySem.W.nsIn K mainGlobals "int" = some none)
    (z1 : PySem.W.nsIn K mainGlobals "len" = some none)
    (z2 : PySem.W.nsIn K mainGlobals "abs" = some none)
    (z3 : PySem.W.nsIn K mainGlobals "list" = some none)
    (z4 : PySem.W.nsIn K mainGlobals "range" = some none)
    (z5 : PySem.W.nsIn K mainGlobals "min" = some none)
    (z6 : PySem.W.nsIn K mainGlobals "str" = some none)
    (z7 : PySem.W.nsIn K mainGlobals "isinstance" = some none)
    (z8 : PySem.W.nsIn K mainGlobals "all" = some none)
    (z9 : PySem.W.nsIn K mainGlobals "enumerate" = some none)
    (z10 : PySem.W.nsIn K mainGlobals "tuple" = some none)
    (z11 : PySem.W.nsIn K mainGlobals "repr" = some none)
    (z12 : PySem.W.nsIn K mainGlobals "dict" = some none)
    (z13 : PySem.W.nsIn K mainGlobals "bool" = some none)
    (z14 : PySem.W.nsIn K mainGlobals "sum" = some none)
    (z15 : PySem.W.nsIn K mainGlobals "zip" = some none)
    (z16 : PySem.W.nsIn K mainGlobals "sorted" = some none)
    (z17 : PySem.W.nsIn K mainGlobals "set" = some none)
    (xL : K.lookup CL = some (excClassObj nmL qL CL NL bsL bmL hdctL snL subL abL colL ddL m0L m1L m2L m3L m5L newL))
    (vL : bmL = [.type "object"])
    (xNL : K.lookup NL = some oNL)
    (xAL : oNL.data = .dict esNL epNL)
    (xBL : StrKeys esNL)
    (xCL : nsFind esNL "__eq__" = some (.ref fQ))
    (xDL : nsFind esNL "__ne__" = none)
    (hc6 : cdb6 = .ref cap)
    (hc9 : cd9 = .ref cla)
    (hd6 : PySem.W.codeHdIn K cap Pap = true)
    (hd9 : PySem.W.codeHdIn K cla Pla = true)
    (hn6 : K.lookup Pap = none)
    (hn9 : K.lookup Pla = none)
    (neP : Pap ≠ Pla) :
    LamX.LawAtS l w K CX0 13 63 "_law_script" mg fa h := by
  have e := hfa.symm.trans (PySem.W.mg_of X G a9)
  cases e
  have T : Blt mg := ⟨PySem.W.mg_none_of X G z0, PySem.W.mg_none_of X G z1, PySem.W.mg_none_of X G z2, PySem.W.mg_none_of X G z3, PySem.W.mg_none_of X G z4, PySem.W.mg_none_of X G z5, PySem.W.mg_none_of X G z6, PySem.W.mg_none_of X G z7, PySem.W.mg_none_of X G z8, PySem.W.mg_none_of X G z9, PySem.W.mg_none_of X G z10, PySem.W.mg_none_of X G z11⟩
  have F0 := fun_mk (st := s_is_short_word) l0 c0 k0
  have b0 := F0.binds (ps := ["value"]) fun _ _ _ _ _ _ us hl => match us, hl with | [_], _ => rfl
  have A0 : At K mg "is_short_word" f0 _ ["value"] := ⟨PySem.W.mg_of X G a0, k0, b0⟩
  have F1 := fun_mk (st := s_copied) l1 c1 k1
  have b1 := F1.binds (ps := ["value"]) fun _ _ _ _ _ _ us hl => match us, hl with | [_], _ => rfl
  have A1 : At K mg "copied" f1 _ ["value"] := ⟨PySem.W.mg_of X G a1, k1, b1⟩
  have F2 := fun_mk (st := s_is_letter) l2 c2 k2
  have b2 := F2.binds (ps := ["value"]) fun _ _ _ _ _ _ us hl => match us, hl with | [_], _ => rfl
  have A2 : At K mg "is_letter" f2 _ ["value"] := ⟨PySem.W.mg_of X G a2, k2, b2⟩
  have F3 := fun_mk (st := s__law_pen) l3 c3 k3
  have b3 := F3.binds (ps := ["_law_script"]) fun _ _ _ _ _ _ us hl => match us, hl with | [_], _ => rfl
  have A3 : At K mg "_law_pen" f3 _ ["_law_script"] := ⟨PySem.W.mg_of X G a3, k3, b3⟩
  have F4 := fun_mk (st := s__law_draw) l4 c4 k4
  have b4 := F4.binds (ps := ["_law_pen_here", "_law_many"]) fun _ _ _ _ _ _ us hl => match us, hl with | [_, _], _ => rfl
  have A4 : At K mg "_law_draw" f4 _ ["_law_pen_here", "_law_many"] := ⟨PySem.W.mg_of X G a4, k4, b4⟩
  have F5 := fun_mk (st := s__law_pick) l5 c5 k5
  have b5 := F5.binds (ps := ["_law_pen_here", "_law_items"]) fun _ _ _ _ _ _ us hl => match us, hl with | [_, _], _ => rfl
  have A5 : At K mg "_law_pick" f5 _ ["_law_pen_here", "_law_items"] := ⟨PySem.W.mg_of X G a5, k5, b5⟩
  have F6 := fun_mk (st := s__law_letters) l6 c6 k6
  have b6 := F6.binds (ps := ["_law_pen_here", "_law_least", "_law_most"]) fun _ _ _ _ _ _ us hl => match us, hl with | [_, _, _], _ => rfl
  have A6 : At K mg "_law_letters" f6 _ ["_law_pen_here", "_law_least", "_law_most"] := ⟨PySem.W.mg_of X G a6, k6, b6⟩
  have Fw := fun_mk (st := s_is_whole) lw cw kw
  have bw := Fw.binds (ps := ["value"]) fun _ _ _ _ _ _ us hl => match us, hl with | [_], _ => rfl
  have Aw : At K mg "is_whole" fw _ ["value"] := ⟨PySem.W.mg_of X G aw, kw, bw⟩
  have Fv := fun_mk (st := s_is_list_of) lv cv kv
  have bv := Fv.binds (ps := ["value", "many"]) fun _ _ _ _ _ _ us hl => match us, hl with | [_, _], _ => rfl
  have Av : At K mg "is_list_of" fv _ ["value", "many"] := ⟨PySem.W.mg_of X G av, kv, bv⟩
  have Fc := fun_mk (st := s_joined) lc cc kc
  have bc := Fc.binds (ps := ["runs"]) fun _ _ _ _ _ _ us hl => match us, hl with | [_], _ => rfl
  have Ac : At K mg "joined" fc _ ["runs"] := ⟨PySem.W.mg_of X G ac, kc, bc⟩
  have Fd := fun_mk (st := s_spliced) ld cd kd
  have bd := Fd.binds (ps := ["head", "tail"]) fun _ _ _ _ _ _ us hl => match us, hl with | [_, _], _ => rfl
  have Ad : At K mg "spliced" fd _ ["head", "tail"] := ⟨PySem.W.mg_of X G ad, kd, bd⟩
  have Ff := fun_mk (st := s_size_of) lf cf kf
  have bf := Ff.binds (ps := ["runs"]) fun _ _ _ _ _ _ us hl => match us, hl with | [_], _ => rfl
  have Af : At K mg "size_of" ff _ ["runs"] := ⟨PySem.W.mg_of X G af, kf, bf⟩
  have Fg := fun_mk (st := s_is_beginning) lg cg kg
  have bg := Fg.binds (ps := ["value"]) fun _ _ _ _ _ _ us hl => match us, hl with | [_], _ => rfl
  have Ag : At K mg "is_beginning" fg _ ["value"] := ⟨PySem.W.mg_of X G ag, kg, bg⟩
  have Fh := fun_mk (st := s_require_runs) lh ch kh
  have bh := Fh.binds (ps := ["letters", "runs"]) fun _ _ _ _ _ _ us hl => match us, hl with | [_, _], _ => rfl
  have Ah : At K mg "require_runs" fh _ ["letters", "runs"] := ⟨PySem.W.mg_of X G ah, kh, bh⟩
  have Fi := fun_mk (st := s_require_beginning) li ci ki
  have bi := Fi.binds (ps := ["value"]) fun _ _ _ _ _ _ us hl => match us, hl with | [_], _ => rfl
  have Ai : At K mg "require_beginning" fi _ ["value"] := ⟨PySem.W.mg_of X G ai, ki, bi⟩
  have Fk := fun_mk (st := s_require_count) lk ck kk
  have bk := Fk.binds (ps := ["index", "value"]) fun _ _ _ _ _ _ us hl => match us, hl with | [_, _], _ => rfl
  have Ak : At K mg "require_count" fk _ ["index", "value"] := ⟨PySem.W.mg_of X G ak, kk, bk⟩
  have Fj := fun_mk (st := s_extended) lj cj kj
  have bj := Fj.binds (ps := ["letters", "kept", "runs"]) fun _ _ _ _ _ _ us hl => match us, hl with | [_, _, _], _ => rfl
  have Aj : At K mg "extended" fj _ ["letters", "kept", "runs"] := ⟨PySem.W.mg_of X G aj, kj, bj⟩
  have Fm := fun_mk (st := s_is_due) lm cm km
  have bm := Fm.binds (ps := ["letters", "value", "has_letter"]) fun _ _ _ _ _ _ us hl => match us, hl with | [_, _, _], _ => rfl
  have Am : At K mg "is_due" fm _ ["letters", "value", "has_letter"] := ⟨PySem.W.mg_of X G am, km, bm⟩
  have Fn := fun_mk (st := s_sides) ln cn kn
  have bn := Fn.binds (ps := ["kind", "first", "second", "times"]) fun _ _ _ _ _ _ us hl => match us, hl with | [_, _, _, _], _ => rfl
  have An : At K mg "sides" fn _ ["kind", "first", "second", "times"] := ⟨PySem.W.mg_of X G an, kn, bn⟩
  have Fo := fun_mk (st := s_one_form) lo co ko
  have bo := Fo.binds (ps := ["letters", "kind", "first", "second"]) fun _ _ _ _ _ _ us hl => match us, hl with | [_, _, _, _], _ => rfl
  have Ao : At K mg "one_form" fo _ ["letters", "kind", "first", "second"] := ⟨PySem.W.mg_of X G ao, ko, bo⟩
  have F8 := fun_mk (st := s_side_of) l8 c8 k8
  have b8 := F8.binds (ps := ["sentence", "which"]) fun _ _ _ _ _ _ us hl => match us, hl with | [_, _], _ => rfl
  have A8 : At K mg "side_of" f8 _ ["sentence", "which"] := ⟨PySem.W.mg_of X G a8, k8, b8⟩
  have Fas := fun_mk (st := s_answer_set) las cas kas
  have bas := Fas.binds (ps := ["answers"]) fun _ _ _ _ _ _ us hl => match us, hl with | [_], _ => rfl
  have Aas : At K mg "answer_set" fas _ ["answers"] := ⟨PySem.W.mg_of X G aas, kas, bas⟩
  have Fm1 := fun_mk (st := s_is_index) lm1 cm1 km1
  have bm1 := Fm1.binds (ps := ["value", "many"]) fun _ _ _ _ _ _ us hl => match us, hl with | [_, _], _ => rfl
  have Am1 : At K mg "is_index" fm1 _ ["value", "many"] := ⟨PySem.W.mg_of X G am1, km1, bm1⟩
  have Fm2 := fun_mk (st := s_told_rows) lm2 cm2 km2
  have bm2 := Fm2.binds (ps := ["letters", "rows"]) fun _ _ _ _ _ _ us hl => match us, hl with | [_, _], _ => rfl
  have Am2 : At K mg "told_rows" fm2 _ ["letters", "rows"] := ⟨PySem.W.mg_of X G am2, km2, bm2⟩
  have Fm3 := fun_mk (st := s_is_answer) lm3 cm3 km3
  have bm3 := Fm3.binds (ps := ["value"]) fun _ _ _ _ _ _ us hl => match us, hl with | [_], _ => rfl
  have Am3 : At K mg "is_answer" fm3 _ ["value"] := ⟨PySem.W.mg_of X G am3, km3, bm3⟩
  have Fm4 := fun_mk (st := s_told_answers) lm4 cm4 km4
  have bm4 := Fm4.binds (ps := ["answers", "many"]) fun _ _ _ _ _ _ us hl => match us, hl with | [_, _], _ => rfl
  have Am4 : At K mg "told_answers" fm4 _ ["answers", "many"] := ⟨PySem.W.mg_of X G am4, km4, bm4⟩
  have Fm5 := fun_mk (st := s_leap) lm5 cm5 km5
  have bm5 := Fm5.binds (ps := ["moves", "state", "rank", "count"]) fun _ _ _ _ _ _ us hl => match us, hl with | [_, _, _, _], _ => rfl
  have Am5 : At K mg "leap" fm5 _ ["moves", "state", "rank", "count"] := ⟨PySem.W.mg_of X G am5, km5, bm5⟩
  have Fm6 := fun_mk (st := s_require_same) lm6 cm6 km6
  have bm6 := Fm6.binds (ps := ["one", "other"]) fun _ _ _ _ _ _ us hl => match us, hl with | [_, _], _ => rfl
  have Am6 : At K mg "require_same" fm6 _ ["one", "other"] := ⟨PySem.W.mg_of X G am6, km6, bm6⟩
  have Fm7 := fun_mk (st := s_first_histories) lm7 cm7 km7
  have bm7 := Fm7.binds (ps := ["starts", "onward"]) fun _ _ _ _ _ _ us hl => match us, hl with | [_, _], _ => rfl
  have Am7 : At K mg "first_histories" fm7 _ ["starts", "onward"] := ⟨PySem.W.mg_of X G am7, km7, bm7⟩
  have Fs1 := fun_mk (st := s__law_shuffled) ls1 cs1 ks1
  have bs1 := Fs1.binds (ps := ["_law_pen_here", "_law_items"]) fun _ _ _ _ _ _ us hl => match us, hl with | [_, _], _ => rfl
  have As1 : At K mg "_law_shuffled" fs1 _ ["_law_pen_here", "_law_items"] := ⟨PySem.W.mg_of X G as1, ks1, bs1⟩
  have Fs2 := fun_mk (st := s__law_words) ls2 cs2 ks2
  have bs2 := Fs2.binds (ps := ["_law_pen_here", "_law_many"]) fun _ _ _ _ _ _ us hl => match us, hl with | [_, _], _ => rfl
  have As2 : At K mg "_law_words" fs2 _ ["_law_pen_here", "_law_many"] := ⟨PySem.W.mg_of X G as2, ks2, bs2⟩
  have Fs3 := fun_mk (st := s__law_machine) ls3 cs3 ks3
  have bs3 := Fs3.binds (ps := ["_law_pen_here", "_law_words_here", "_law_most", "_law_missing"]) fun _ _ _ _ _ _ us hl => match us, hl with | [_, _, _, _], _ => rfl
  have As3 : At K mg "_law_machine" fs3 _ ["_law_pen_here", "_law_words_here", "_law_most", "_law_missing"] := ⟨PySem.W.mg_of X G as3, ks3, bs3⟩
  have Fs4 := fun_mk (st := s__law_answering) ls4 cs4 ks4
  have bs4 := Fs4.binds (ps := ["_law_pen_here", "_law_letters_here", "_law_most", "_law_pool"]) fun _ _ _ _ _ _ us hl => match us, hl with | [_, _, _, _], _ => rfl
  have As4 : At K mg "_law_answering" fs4 _ ["_law_pen_here", "_law_letters_here", "_law_most", "_law_pool"] := ⟨PySem.W.mg_of X G as4, ks4, bs4⟩
  have Fs5 := fun_mk (st := s__law_program) ls5 cs5 ks5
  have bs5 := Fs5.binds (ps := ["_law_pen_here", "_law_letters_here", "_law_rows", "_law_answers", "_law_starts"]) fun _ _ _ _ _ _ us hl => match us, hl with | [_, _, _, _, _], _ => rfl
  have As5 : At K mg "_law_program" fs5 _ ["_law_pen_here", "_law_letters_here", "_law_rows", "_law_answers", "_law_starts"] := ⟨PySem.W.mg_of X G as5, ks5, bs5⟩
  have Fs8 := fun_mk (st := s__law_spelled) ls8 cs8 ks8
  have bs8 := Fs8.binds (ps := ["_law_words_here", "_law_word"]) fun _ _ _ _ _ _ us hl => match us, hl with | [_, _], _ => rfl
  have As8 : At K mg "_law_spelled" fs8 _ ["_law_words_here", "_law_word"] := ⟨PySem.W.mg_of X G as8, ks8, bs8⟩
  have Fs9 := fun_mk (st := s__law_history) ls9 cs9 ks9
  have bs9 := Fs9.binds (ps := ["_law_letters_here", "_law_beginning", "_law_word"]) fun _ _ _ _ _ _ us hl => match us, hl with | [_, _, _], _ => rfl
  have As9 : At K mg "_law_history" fs9 _ ["_law_letters_here", "_law_beginning", "_law_word"] := ⟨PySem.W.mg_of X G as9, ks9, bs9⟩
  have Ft1 := fun_mk (st := s__law_is_refused) lt1 ct1 kt1
  have bt1 := Ft1.binds (ps := ["_law_deed"]) fun _ _ _ _ _ _ us hl => match us, hl with | [_], _ => rfl
  have At1 : At K mg "_law_is_refused" ft1 _ ["_law_deed"] := ⟨PySem.W.mg_of X G at1, kt1, bt1⟩
  have Ft2 := fun_mk (st := s__law_led) lt2 ct2 kt2
  have bt2 := Ft2.binds (ps := ["_law_machine_here", "_law_state", "_law_word"]) fun _ _ _ _ _ _ us hl => match us, hl with | [_, _, _], _ => rfl
  have At2 : At K mg "_law_led" ft2 _ ["_law_machine_here", "_law_state", "_law_word"] := ⟨PySem.W.mg_of X G at2, kt2, bt2⟩
  have Ft3 := fun_mk (st := s__law_any_said) lt3 ct3 kt3
  have bt3 := Ft3.binds (ps := ["_law_pen_here", "_law_many"]) fun _ _ _ _ _ _ us hl => match us, hl with | [_, _], _ => rfl
  have At3 : At K mg "_law_any_said" ft3 _ ["_law_pen_here", "_law_many"] := ⟨PySem.W.mg_of X G at3, kt3, bt3⟩
  have Ft4 := fun_mk (st := s__law_sides) lt4 ct4 kt4
  have bt4 := Ft4.binds (ps := ["_law_said"]) fun _ _ _ _ _ _ us hl => match us, hl with | [_], _ => rfl
  have At4 : At K mg "_law_sides" ft4 _ ["_law_said"] := ⟨PySem.W.mg_of X G at4, kt4, bt4⟩
  have Ft5 := fun_mk (st := s__law_sentence) lt5 ct5 kt5
  have bt5 := Ft5.binds (ps := ["_law_letters_here", "_law_said"]) fun _ _ _ _ _ _ us hl => match us, hl with | [_, _], _ => rfl
  have At5 : At K mg "_law_sentence" ft5 _ ["_law_letters_here", "_law_said"] := ⟨PySem.W.mg_of X G at5, kt5, bt5⟩
  have Ft6 := fun_mk (st := s__law_limit) lt6 ct6 kt6
  have bt6 := Ft6.binds (ps := ["_law_letters_here", "_law_limit_here"]) fun _ _ _ _ _ _ us hl => match us, hl with | [_, _], _ => rfl
  have At6 : At K mg "_law_limit" ft6 _ ["_law_letters_here", "_law_limit_here"] := ⟨PySem.W.mg_of X G at6, kt6, bt6⟩
  have Ft7 := fun_mk (st := s__law_firsts) lt7 ct7 kt7
  have bt7 := Ft7.binds (ps := ["_law_table", "_law_starts"]) fun _ _ _ _ _ _ us hl => match us, hl with | [_, _], _ => rfl
  have At7 : At K mg "_law_firsts" ft7 _ ["_law_table", "_law_starts"] := ⟨PySem.W.mg_of X G at7, kt7, bt7⟩
  have Ft8 := fun_mk (st := s__law_state_due) lt8 ct8 kt8
  have bt8 := Ft8.binds (ps := ["_law_rows", "_law_starts", "_law_said"]) fun _ _ _ _ _ _ us hl => match us, hl with | [_, _, _], _ => rfl
  have At8 : At K mg "_law_state_due" ft8 _ ["_law_rows", "_law_starts", "_law_said"] := ⟨PySem.W.mg_of X G at8, kt8, bt8⟩
  have Ftx := fun_mk (st := s__law_answer_due) ltx ctx ktx
  have btx := Ftx.binds (ps := ["_law_rows", "_law_answers", "_law_starts", "_law_limit_here"]) fun _ _ _ _ _ _ us hl => match us, hl with | [_, _, _, _], _ => rfl
  have Atx : At K mg "_law_answer_due" ftx _ ["_law_rows", "_law_answers", "_law_starts", "_law_limit_here"] := ⟨PySem.W.mg_of X G atx, ktx, btx⟩
  have Fu1 := fun_mk (st := s__law_is_broken) lu1 cu1 ku1
  have bu1 := Fu1.binds (ps := ["_law_machine_here", "_law_item", "_law_due"]) fun _ _ _ _ _ _ us hl => match us, hl with | [_, _, _], _ => rfl
  have Au1 : At K mg "_law_is_broken" fu1 _ ["_law_machine_here", "_law_item", "_law_due"] := ⟨PySem.W.mg_of X G au1, ku1, bu1⟩
  have Fu2 := fun_mk (st := s__law_tame) lu2 cu2 ku2
  have bu2 := Fu2.binds (ps := ["_law_pen_here", "_law_rows"]) fun _ _ _ _ _ _ us hl => match us, hl with | [_, _], _ => rfl
  have Au2 : At K mg "_law_tame" fu2 _ ["_law_pen_here", "_law_rows"] := ⟨PySem.W.mg_of X G au2, ku2, bu2⟩
  have F9 := fun_mk (st := s_law) l9 c9 k9
  have FB := fun_mk (st := s_BadLetters_init) lB cB kB
  have bB := FB.binds (ps := ["self", "index"]) fun _ _ _ _ _ _ us hl => match us, hl with | [_, _], _ => rfl
  have OB : OexC K CB := ⟨⟨_, _, _, _, _, _, _, _, _, _, _, _, _, _, _, xB, vB⟩, saB, eCB, tCB, kcB⟩
  have EB : ErrAt K mg "BadLetters" CB fB _ _ := ⟨PySem.W.mg_of X G aB, OB, iB, tfB, bB, ⟨gaB, ggB, eCB, hCB⟩⟩
  have FM := fun_mk (st := s_TooMany_init) lM cM kM
  have bM := FM.binds (ps := ["self", "what", "many", "most"]) fun _ _ _ _ _ _ us hl => match us, hl with | [_, _, _, _], _ => rfl
  have OM : OexC K CM := ⟨⟨_, _, _, _, _, _, _, _, _, _, _, _, _, _, _, xM, vM⟩, saM, eCM, tCM, kcM⟩
  have EM : ErrAt K mg "TooMany" CM fM _ _ := ⟨PySem.W.mg_of X G aM, OM, iM, tfM, bM, ⟨gaM, ggM, eCM, hCM⟩⟩
  have FT := fun_mk (st := s_BadLetter_init) lT cT kT
  have bT := FT.binds (ps := ["self", "index"]) fun _ _ _ _ _ _ us hl => match us, hl with | [_, _], _ => rfl
  have OT : OexC K CT := ⟨⟨_, _, _, _, _, _, _, _, _, _, _, _, _, _, _, xT, vT⟩, saT, eCT, tCT, kcT⟩
  have ET : ErrAt K mg "BadLetter" CT fT _ _ := ⟨PySem.W.mg_of X G aT, OT, iT, tfT, bT, ⟨gaT, ggT, eCT, hCT⟩⟩
  have FBa := fun_mk (st := s_BadAnswers_init) lBa cBa kBa
  have bBa := FBa.binds (ps := ["self", "index"]) fun _ _ _ _ _ _ us hl => match us, hl with | [_, _], _ => rfl
  have OBa : OexC K CBa := ⟨⟨_, _, _, _, _, _, _, _, _, _, _, _, _, _, _, xBa, vBa⟩, saBa, eCBa, tCBa, kcBa⟩
  have EBa : ErrAt K mg "BadAnswers" CBa fBa _ _ := ⟨PySem.W.mg_of X G aBa, OBa, iBa, tfBa, bBa, ⟨gaBa, ggBa, eCBa, hCBa⟩⟩
  have hCL : Cls K CL := ⟨pgL, hdL, poL, saL⟩
  have YL : XkC K CL := ⟨icL, haL, hn, ht, hmL⟩
  have FL := fun_mk (st := s_Letters_init) lL cL kL
  have bL := FL.binds (ps := ["self", "words"]) fun _ _ _ _ _ _ us hl => match us, hl with | [_, _], _ => rfl
  have FH := fun_mk (st := s_Has) lH cH kH
  have bH := FH.binds (ps := ["self", "x"]) fun _ _ _ _ _ _ us hl => match us, hl with | [_, _], _ => rfl
  have FR := fun_mk (st := s_Rank) lR cR kR
  have bR := FR.binds (ps := ["self", "x"]) fun _ _ _ _ _ _ us hl => match us, hl with | [_, _], _ => rfl
  have FQ := fun_mk (st := s_Eq) lQ cQ kQ
  have bQ := FQ.binds (ps := ["self", "other"]) fun _ _ _ _ _ _ us hl => match us, hl with | [_, _], _ => rfl
  have FN := fun_mk (st := s_Len) lN cN kN
  have bN := FN.binds (ps := ["self"]) fun _ _ _ _ _ _ us hl => match us, hl with | [_], _ => rfl
  have hCY : Cls K CY := ⟨pgY, hdY, poY, saY⟩
  have YY : XkC K CY := ⟨icY, haY, hn, ht, hmY⟩
  have FY : FunD K "__init__" "History.__init__" (defArgs s_Hist_init) (defBody s_Hist_init) (defScope s_Hist_init) [V.ref aDY] [] fY _ := ⟨⟨_, _, _, _, _, _, _, _, _, _, rfl, lY, cY, .inr ⟨by simp, TY, oTY, [.ref aDY], nTY, rfl, dTY, dUY, .cons rfl .nil⟩, .inl rfl⟩, kY⟩
  have hDY : ∀ H, SqT K H aDY [] := fun H => .inr ⟨oDY, #[], nDY, dDY, dEY, dGY, Nat.zero_le _, .nil⟩
  have FE := fun_mk (st := s_HEq) lE cE kE
  have bE := FE.binds (ps := ["self", "other"]) fun _ _ _ _ _ _ us hl => match us, hl with | [_, _], _ => rfl
  have FP := fun_mk (st := s_Spelled) lP cP kP
  have bP := FP.binds (ps := ["cls", "letters", "beginning", "word"]) fun _ _ _ _ _ _ us hl => match us, hl with | [_, _, _, _], _ => rfl
  have hCS : Cls K CS := ⟨pgS, hdS, poS, saS⟩
  have YS : XkC K CS := ⟨icS, haS, hn, ht, hmS⟩
  have FS : FunD K "__init__" "Sentence.__init__" (defArgs s_Sen_init) (defBody s_Sen_init) (defScope s_Sen_init) [V.non] [] fS _ := ⟨⟨_, _, _, _, _, _, _, _, _, _, rfl, lS, cS, .inr ⟨by simp, TS, oTS, [.none], nTS, rfl, dTS, dUS, .cons rfl .nil⟩, .inl rfl⟩, kS⟩
  have FF := fun_mk (st := s_left) lF cF kF
  have bF := FF.binds (ps := ["self"]) fun _ _ _ _ _ _ us hl => match us, hl with | [_], _ => rfl
  have ppF : PropOf K CS "left" pF fF := ⟨paF, pbF, pcF, rsF, pdF⟩
  have FG := fun_mk (st := s_right) lG cG kG
  have bG := FG.binds (ps := ["self"]) fun _ _ _ _ _ _ us hl => match us, hl with | [_], _ => rfl
  have ppG : PropOf K CS "right" pG fG := ⟨paG, pbG, pcG, rsG, pdG⟩
  have hCI : Cls K CI := ⟨pgI, hdI, poI, saI⟩
  have YI : XkC K CI := ⟨icI, haI, hn, ht, hmI⟩
  have FI : FunD K "__init__" "Limit.__init__" (defArgs s_Lim_init) (defBody s_Lim_init) (defScope s_Lim_init) [V.non] [] fI _ := ⟨⟨_, _, _, _, _, _, _, _, _, _, rfl, lI, cI, .inr ⟨by simp, TI, oTI, [.none], nTI, rfl, dTI, dUI, .cons rfl .nil⟩, .inl rfl⟩, kI⟩
  have nSI := kit_ref icS tcS suSI neSI
  have hCK : Cls K CK := ⟨pgK, hdK, poK, saK⟩
  have YK : XkC K CK := ⟨icK, haK, hn, ht, hmK⟩
  have FK := fun_mk (st := s_Chk_init) lK cK kK
  have bK := FK.binds (ps := ["self", "runs"]) fun _ _ _ _ _ _ us hl => match us, hl with | [_, _], _ => rfl
  have hCA : Cls K CA := ⟨pgA, hdA, poA, saA⟩
  have FA : FunD K "__init__" "Machine.__init__" (defArgs s_Machine___init__) (defBody s_Machine___init__) (defScope s_Machine___init__) [] [("new", .int 0), ("found", .int 0)] fA _ := ⟨⟨_, _, _, _, _, _, _, _, _, _, rfl, lA, cA, .inl ⟨rfl, rfl⟩, .inr ⟨DA, hkA, fun q hq => by
    simp only [List.mem_cons, List.not_mem_nil, or_false] at hq
    rcases hq with rfl | rfl
    · exact ⟨_, dnA, _, rfl⟩
    · exact ⟨_, dfA, _, rfl⟩⟩⟩, kA⟩
  have Fb4 := fun_mk (st := s_Machine_after_runs) lb4 cb4 kb4
  have bb4 := Fb4.binds (ps := ["self", "state", "runs"]) fun _ _ _ _ _ _ us hl => match us, hl with | [_, _, _], _ => rfl
  have Fb5 := fun_mk (st := s_Machine_history_of) lb5 cb5 kb5
  have bb5 := Fb5.binds (ps := ["self", "way"]) fun _ _ _ _ _ _ us hl => match us, hl with | [_, _], _ => rfl
  have Fb6 := fun_mk (st := s_Machine_reached) lb6 cb6 kb6
  have bb6 := Fb6.binds (ps := ["self"]) fun _ _ _ _ _ _ us hl => match us, hl with | [_], _ => rfl
  have Fb7 := fun_mk (st := s_Machine_spoken) lb7 cb7 kb7
  have bb7 := Fb7.binds (ps := ["self", "kind", "letter"]) fun _ _ _ _ _ _ us hl => match us, hl with | [_, _, _], _ => rfl
  have Fb8 := fun_mk (st := s_Machine_breaks) lb8 cb8 kb8
  have bb8 := Fb8.binds (ps := ["self", "sentence"]) fun _ _ _ _ _ _ us hl => match us, hl with | [_, _], _ => rfl
  subst vL
  have hqL : ocQ = .type "function" := by
    have h : (K.lookup fQ).map (·.cls) = some (.type "function") := beq_iff_eq.mp isQ
    rw [lQ] at h
    exact Option.some.inj h
  have nEL : OwnNe K CL fQ := ⟨_, _, NL, _, _, _, _, _, _, _, _, _, _, _, _, _, oNL, esNL, epNL, _, xL, xNL, xAL, xBL, xCL, xDL, lQ, hqL⟩
  have nD := PySem.W.mg_none_of X G z12
  have nB := PySem.W.mg_none_of X G z13
  have nSum := PySem.W.mg_none_of X G z14
  have nZip := PySem.W.mg_none_of X G z15
  have nSo := PySem.W.mg_none_of X G z16
  have nSe := PySem.W.mg_none_of X G z17
  have C : Gv K mg := ⟨⟨_, PySem.W.mg_of X G g_gS, _, rfl⟩, ⟨_, PySem.W.mg_of X G g_gW, _, rfl⟩, ⟨_, PySem.W.mg_of X G g_gM, _, rfl⟩, ⟨T_gB, _, PySem.W.mg_of X G g_gB, rfl, fun H => .inr ⟨o_gB, j_gB, n_gB, gl_gB, gc_gB, gd_gB, gs_gB, gv_gB⟩⟩, ⟨_, PySem.W.mg_of X G g_gL, _, rfl⟩⟩
  have Gk : GvK K mg := ⟨⟨T_gK, _, PySem.W.mg_of X G g_gK, rfl, fun H => .inr ⟨o_gK, j_gK, n_gK, gl_gK, gc_gK, gd_gK, gs_gK, gv_gK⟩⟩, ⟨T_gN, _, PySem.W.mg_of X G g_gN, rfl, fun H => .inr ⟨o_gN, j_gN, n_gN, gl_gN, gc_gN, gd_gN, gs_gN, gv_gN⟩⟩⟩
  have hC : HsC K CY := ⟨hCY, nY0, nY1, nY2, nY3, nY4⟩
  have hM : MacC K CA := ⟨hCA, nA0, nA1, nA2, nA3, nA4⟩
  have hSn : SnC K CS := ⟨hCS, nS0, nS1, nS2, nS3⟩
  have hLi : LiC K CI := ⟨hCI, nI0, nI1, nI2, nI3⟩
  have mL := PySem.W.mg_of X G aL
  have mY := PySem.W.mg_of X G aY
  have mO := PySem.W.mg_of X G aO
  have mS := PySem.W.mg_of X G aS
  have mI := PySem.W.mg_of X G aI
  have mK := PySem.W.mg_of X G aK
  have EO : Err0 K mg "OtherLetters" CO := ⟨mO, exO, kcO, eCO, tCO⟩
  have EZ : Err0 K mg "BadKind" CZ := ⟨PySem.W.mg_of X G aZ, exZ, kcZ, eCZ, tCZ⟩
  have EN : Err0 K mg "SaysNothing" CN0 := ⟨PySem.W.mg_of X G aN0, exN0, kcN0, eCN0, tCN0⟩
  have eeO := exm_of eCO icO tCO esO
  refine ⟨PySem.W.fnOf "law" "law" (defArgs s_law) (defBody s_law) (defScope s_law) .none kV9 dc9 pm9 an9 cd9 ct9, [(cap, Pap), (cla, Pla)], spLaw [(Pap, fun _ _ => "Machine.reached.<locals>.<lambda>"), (Pla, fun _ _ => "law.<locals>.<lambda>")] K, ?_, ?_, ?_, fun s u => .of_eq rfl, fun H a ns hl _ hH hS => ⟨a, ns, rfl, ?_, hS, hl, fun _ => rfl⟩, fun base kb gb TBs => ?_⟩
  · intro p hp
    simp only [List.mem_cons, List.not_mem_nil, or_false] at hp
    rcases hp with rfl | rfl
    · exact hT Pap (by simp)
    · exact hT Pla (by simp)
  · intro p hp
    simp only [List.mem_cons, List.not_mem_nil, or_false] at hp
    rcases hp with rfl | rfl
    · exact hn6
    · exact hn9
  · intro p hp
    simp only [List.mem_cons, List.not_mem_nil, or_false] at hp
    rcases hp with rfl | rfl
    · exact PySem.W.codeHd_of_K X hd6
    · exact PySem.W.codeHd_of_K X hd9
  · intro p hp
    simp only [List.mem_cons, List.not_mem_nil, or_false] at hp
    rcases hp with rfl | rfl
    · exact TabN.nil (hH (cap, Pap) (by simp))
    · exact TabN.nil (hH (cla, Pla) (by simp))
  have G0 := ok_short (P := l.prog) (w := w) (base := base) F0 T C
  have G0v := ok_shortV (P := l.prog) (w := w) (base := base) F0 T C
  have G1 := ok_copied (P := l.prog) (w := w) (base := base) F1 T nD
  have G2 := ok_is_letter (P := l.prog) (w := w) (base := base) F2 T C G0 A0
  have G3 := ok_pen (P := l.prog) (w := w) (base := base) F3 T
  have G4 := ok_draw (P := l.prog) (w := w) (base := base) F4 T
  have G5 := ok_pick (P := l.prog) (w := w) (base := base) F5 T G4 A4
  have Gs1 := ok_shuf (P := l.prog) (w := w) (base := base) Fs1 T G4 A4
  have Gs2 := ok_words (P := l.prog) (w := w) (base := base) Fs2 T G4 A4 G5 A5 Gs1 As1
  have G6 := ok_lets (P := l.prog) (w := w) (base := base) F6 T G4 A4 Gs2 As2
  have GB := ok_badInit (P := l.prog) (w := w) (base := base) FB OB nB0 G1 A1
  have GM := ok_manyInit (P := l.prog) (w := w) (base := base) FM OM nM0 nM1 nM2 G1 A1
  have GT := ok_initBadLetter (P := l.prog) (w := w) (base := base) FT OT nT0 G1 A1
  have GBa := ok_initBadAnswers (P := l.prog) (w := w) (base := base) FBa OBa nBa0 G1 A1
  have GL := ok_letInit (P := l.prog) (w := w) (base := base) FL T C hCL nL0 G2 A2 GB EB GM EM
  have GH := ok_has (P := l.prog) (w := w) (base := base) (mg := mg) FH hCL nL0
  have GN := ok_len (P := l.prog) (w := w) (base := base) FN T hCL nL0
  have GR := ok_rank (P := l.prog) (w := w) (base := base) FR T hCL nL0 GT ET
  have GQ := ok_eq (P := l.prog) (w := w) (base := base) FQ T hCL nL0 YL mL
  have Gw := ok_whole (P := l.prog) (w := w) (base := base) Fw T nB
  have Gv := ok_listOf (P := l.prog) (w := w) (base := base) Fv T
  have Gc := ok_joined (P := l.prog) (w := w) (base := base) Fc T
  have Gd := ok_spliced (P := l.prog) (w := w) (base := base) (mg := mg) Fd
  have Gf := ok_size (P := l.prog) (w := w) (base := base) Ff nSum
  have Gg := ok_isBeg (P := l.prog) (w := w) (base := base) Fg C
  have Gk' := ok_reqCnt (P := l.prog) (w := w) (base := base) Fk ⟨_, PySem.W.mg_of X G g_gC, _, rfl⟩ Gw Aw
  have Gi' := ok_reqBeg (P := l.prog) (w := w) (base := base) (mg := mg) Fi Gg Ag
  have Gh := ok_reqOk (P := l.prog) (w := w) (base := base) Fh T Gv Av Gk' Ak GH bH iH isH
  have Gj := ok_extOk (P := l.prog) (w := w) (base := base) Fj T ⟨_, PySem.W.mg_of X G g_gR, _, rfl⟩ Gh Ah Gd Ad Gc Ac
  have GY := ok_histInit (P := l.prog) (w := w) (base := base) FY T hC ⟨mK, icK, tcK⟩ Gi' Ai Gj Aj Gf Af
  have MY : Mk K CY fY := ⟨mkY, iY, isY, kcY⟩
  have ML : Mk K CL fL := ⟨mkL, iL, isL, kcL⟩
  have MA : Mk K CA fA := ⟨mkA, iA, isA, kcA⟩
  have MS : Mk K CS fS := ⟨mkS, iS, isS, kcS⟩
  have MI : Mk K CI fI := ⟨mkI, iI, isI, kcI⟩
  have MK : Mk K CK fK := ⟨mkK, iK, isK, kcK⟩
  obtain ⟨⟨uD, ru, bY0⟩, bY⟩ := hist_binds FY
  obtain ⟨⟨uS, ruS, bS0⟩, bS⟩ := sen_binds FS
  obtain ⟨⟨uI, ruI, bI0⟩, bI⟩ := lim_binds FI
  have GE := ok_heq (P := l.prog) (w := w) (base := base) FE T hC YY mY GQ bQ iQ isQ
  have Gm1 := ok_isIndex (P := l.prog) (w := w) (base := base) (mg := mg) Fm1 Gw Aw
  have Gm2 := ok_told (P := l.prog) (w := w) (base := base) Fm2 T ⟨_, PySem.W.mg_of X G g_gZ, _, rfl⟩ Gv Av Gm1 Am1 GN bN iN isN
  have Gm3 := ok_isAns (P := l.prog) (w := w) (base := base) (mg := mg) Fm3 G0 A0
  have Gm3v := ok_isAnsV (P := l.prog) (w := w) (base := base) (mg := mg) Fm3 G0v A0
  have Gm4 := ok_tans (P := l.prog) (w := w) (base := base) Fm4 T Gm3 Am3
  have Gm5 := ok_leap (P := l.prog) (w := w) (base := base) Fm5 T
  have Gm6e := ok_reqSameE (P := l.prog) (w := w) (base := base) (mg := mg) Fm6 GQ bQ nEL EO
  have Gm7 := ok_firstI (P := l.prog) (w := w) (base := base) (j := 1) Fm7 T nZip C (by decide)
  have GA := ok_macInit (P := l.prog) (w := w) (base := base) FA T hM Gm2 Am2 Gm4 Am4 Gm1 Am1
  have KM : MacK l.prog w K mg base CL CA := ⟨⟨fA, _, MA, GA, mac_binds FA⟩, PySem.W.mg_of X G aA⟩
  have Gm := ok_isDue (P := l.prog) (w := w) (base := base) (mg := mg) Fm GH bH iH isH
  have Gn := ok_sides (P := l.prog) (w := w) (base := base) Fn Gk
  have Go' := ok_form (P := l.prog) (w := w) (base := base) (mg := mg) Fo hCL ⟨iR, isR, kR⟩ bR GR
  have GS := ok_senInit (P := l.prog) (w := w) (base := base) FS hSn Gk GH bH iH isH Gm Am Go' Ao EZ EN GT ET
  have Gas := ok_ans (P := l.prog) (w := w) (base := base) Fas T nSo nSe ⟨_, PySem.W.mg_of X G g_gA, _, rfl⟩ Gm3v Am3 GBa EBa GM EM
  have GI := ok_limInit (P := l.prog) (w := w) (base := base) FI hLi (PySem.W.mg_of X G g_gJ) rfl (fun H => .inr ⟨o_gJ, j_gJ, n_gJ, gl_gJ, gc_gJ, gd_gJ, gs_gJ, gv_gJ⟩) Gm Am Gas Aas EZ GT ET
  have GK := ok_chk (P := l.prog) (w := w) (base := base) (mg := mg) FK hCK nK0
  have GYC := ok_histInitC (P := l.prog) (w := w) (base := base) (CL := CL) FY T hC ⟨mK, icK, tcK⟩ hCK nK0 YK Gi' Ai Gj Aj Gf Af
  have G8 := ok_sideOf (P := l.prog) (w := w) (base := base) F8 hSn Gn An Gc Ac MY mY bY GYC MK mK bK GK
  have GF := ok_left (P := l.prog) (w := w) (base := base) FF G8 A8
  have GG := ok_right (P := l.prog) (w := w) (base := base) FG G8 A8
  have Gb4 := ok_after (P := l.prog) (w := w) (base := base) (mg := mg) Fb4 hM hCL Gm5 Am5 ⟨iR, isR, kR⟩ bR GR
  have GPs := ok_spelled (P := l.prog) (w := w) (base := base) (mg := mg) FP MY bY GY
  have GPt := ok_spelledT (P := l.prog) (w := w) (base := base) (mg := mg) FP MY bY GY
  have rP : ClX.CRead K CY (.type "type") := ⟨rdY, cgY⟩
  have cP' : ClX.CMet K CY (.type "type") "spelled" pP fP := ⟨caP, ⟨rsP, crP⟩, cfP⟩
  have Gb5 := ok_histOf (P := l.prog) (w := w) (base := base) (mg := mg) Fb5 hM hCL nL0 GPs bP rP cP' mY
  have Gb6 := ok_reached (P := l.prog) (w := w) (base := base) (mg := mg) (CL := CL) (T := [(Pap, fun _ _ => "Machine.reached.<locals>.<lambda>"), (Pla, fun _ _ => "law.<locals>.<lambda>")]) (nm := fun _ _ => "Machine.reached.<locals>.<lambda>") Fb6 hM (TBs (cap, Pap) (by simp)) hc6 (by simp) (fun _ _ => rfl) (fun p hp e => by
    simp only [List.mem_cons, List.not_mem_nil, or_false] at hp
    rcases hp with rfl | rfl
    · rfl
    · exact absurd e.symm neP) Gm7 Am7
  have Gb7 := ok_spoken (P := l.prog) (w := w) (base := base) Fb7 T hM hCL Gb6 bb6 ⟨ib6, isb6, kb6⟩ GR bR ⟨iR, isR, kR⟩
  have Gb8 := ok_breaks (P := l.prog) (w := w) (base := base) Fb8 T hM hSn hLi hC mS YS YI nSI Gm6e Am6 Gb7 bb7 ⟨ib7, isb7, kb7⟩ Gb4 bb4 ⟨ib4, isb4, kb4⟩ Gb5 bb5 ⟨ib5, isb5, kb5⟩ GF bF ppF GG bG ppG
  have Gs3 := ok_machF (P := l.prog) (w := w) (base := base) Fs3 T G4 A4 G5 A5
  have Gs4 := ok_answ (P := l.prog) (w := w) (base := base) Fs4 T G4 A4 G5 A5 Gs3 As3
  have Gs5 := ok_prog (P := l.prog) (w := w) (base := base) Fs5 T KM G4 A4
  have Gs8 := ok_lsp (P := l.prog) (w := w) (base := base) Fs8 T
  have Gs9 := ok_lhi (P := l.prog) (w := w) (base := base) Fs9 hCL nL0 Gs8 As8 GPt bP rP cP' mY
  have Gt1 := ok_refd (P := l.prog) (w := w) (base := base) (mg := mg) Ft1 mO eeO
  have Gt2 := ok_led (P := l.prog) (w := w) (base := base) (mg := mg) Ft2
  have Gt3 := ok_any (P := l.prog) (w := w) (base := base) Ft3 G4 A4 G5 A5
  have Gt4 := ok_lsd (P := l.prog) (w := w) (base := base) (mg := mg) Ft4
  have Gt5 := ok_lsen (P := l.prog) (w := w) (base := base) Ft5 hCL nL0 MS mS bS GS
  have Gt6 := ok_llim (P := l.prog) (w := w) (base := base) Ft6 hCL nL0 MI mI ruI bI0 bI GI
  have Gt7 := ok_firsts (P := l.prog) (w := w) (base := base) Ft7 T
  have Gt8 := ok_sdue (P := l.prog) (w := w) (base := base) (mg := mg) Ft8 Gt4 At4 Gt7 At7 Gt2 At2
  have Gtx := ok_adue (P := l.prog) (w := w) (base := base) (mg := mg) Ftx Gt7 At7
  have Gu1 := ok_isbr (P := l.prog) (w := w) (base := base) (mg := mg) Fu1 hM Gb8 bb8 ⟨ib8, isb8, kb8⟩ Gs9 As9 GE bE iE isE
  have Gu2 := ok_tame (P := l.prog) (w := w) (base := base) Fu2 T G4 A4
  exact ok_law (TT := [(Pap, fun _ _ => "Machine.reached.<locals>.<lambda>"), (Pla, fun _ _ => "law.<locals>.<lambda>")]) (nm := fun _ _ => "law.<locals>.<lambda>") F9 T hM hCL nL0 (TBs (cla, Pla) (by simp)) hc9 (by simp) (fun _ _ => rfl) (fun p hp e => by
    simp only [List.mem_cons, List.not_mem_nil, or_false] at hp
    rcases hp with rfl | rfl
    · exact absurd e neP
    · rfl) G3 A3 G4 A4 G6 A6 Gs2 As2 Gs4 As4 Gu2 Au2 Gs5 As5 Gt3 At3 Gt5 At5 Gt8 At8 G5 A5 Gs1 As1 Gt6 At6 Gtx Atx Gu1 Au1 Gt1 At1 ML mL bL GL MS mS ruS bS0 GS MI mI ruI bI0 GI Gb8 bb8 ⟨ib8, isb8, kb8⟩
end Ask

open PySem PySem.W PyProof.Rows
set_option maxRecDepth 100000
set_option maxHeartbeats 0
set_option maxRecDepth 100000 in
set_option maxHeartbeats 0 in
theorem PySem.Challenge.cw_asksmore_k65_whole_what_machines_break_holds : PySem.Challenge.rw_asksmore_k65_whole_what_machines_break.Holds := by
  refine headK65 ?_
  k_fill
  refine LamX.walk_ofTs (l := PySem.Challenge.rw_asksmore_k65_whole_what_machines_break) (n := 63) (k := 13) (x := "_law_script") (CX := fun _ => L2.CX0) rfl (by decide) rfl ⟨rfl, by decide, by decide⟩ (fun w h Y => (Ask.tabs_split Y (by decide) (by kernel_rfl) (by kernel_rfl)).1) ?F (fun _ _ _ _ _ z => z)
  case F =>
    intro w mg fa h Y KX G hmg
    have hT := (Ask.tabs_split Y (by decide) (by kernel_rfl) (by kernel_rfl)).2
    refine' Ask.all_mk (Pap := 754) (Pla := 946) KX G hmg hT ?hn ?ht ?a0 ?l0 ?c0 ?k0 ?a1 ?l1 ?c1 ?k1 ?a2 ?l2 ?c2 ?k2 ?a3 ?l3 ?c3 ?k3 ?a4 ?l4 ?c4 ?k4 ?a5 ?l5 ?c5 ?k5 ?a6 ?l6 ?c6 ?k6 ?aw ?lw ?cw ?kw ?av ?lv ?cv ?kv ?ac ?lc ?cc ?kc ?ad ?ld ?cd ?kd ?af ?lf ?cf ?kf ?ag ?lg ?cg ?kg ?ah ?lh ?ch ?kh ?ai ?li ?ci ?ki ?ak ?lk ?ck ?kk ?aj ?lj ?cj ?kj ?am ?lm ?cm ?km ?an ?ln ?cn ?kn ?ao ?lo ?co ?ko ?a8 ?l8 ?c8 ?k8 ?aas ?las ?cas ?kas ?am1 ?lm1 ?cm1 ?km1 ?am2 ?lm2 ?cm2 ?km2 ?am3 ?lm3 ?cm3 ?km3 ?am4 ?lm4 ?cm4 ?km4 ?am5 ?lm5 ?cm5 ?km5 ?am6 ?lm6 ?cm6 ?km6 ?am7 ?lm7 ?cm7 ?km7 ?as1 ?ls1 ?cs1 ?ks1 ?as2 ?ls2 ?cs2 ?ks2 ?as3 ?ls3 ?cs3 ?ks3 ?as4 ?ls4 ?cs4 ?ks4 ?as5 ?ls5 ?cs5 ?ks5 ?as8 ?ls8 ?cs8 ?ks8 ?as9 ?ls9 ?cs9 ?ks9 ?at1 ?lt1 ?ct1 ?kt1 ?at2 ?lt2 ?ct2 ?kt2 ?at3 ?lt3 ?ct3 ?kt3 ?at4 ?lt4 ?ct4 ?kt4 ?at5 ?lt5 ?ct5 ?kt5 ?at6 ?lt6 ?ct6 ?kt6 ?at7 ?lt7 ?ct7 ?kt7 ?at8 ?lt8 ?ct8 ?kt8 ?atx ?ltx ?ctx ?ktx ?au1 ?lu1 ?cu1 ?ku1 ?au2 ?lu2 ?cu2 ?ku2 ?a9 ?l9 ?c9 ?k9 ?aB ?iB ?lB ?cB ?kB ?kcB ?saB ?xB ?vB ?gaB ?ggB ?eCB ?tCB ?tfB ?hCB ?nB0 ?aM ?iM ?lM ?cM ?kM ?kcM ?saM ?xM ?vM ?gaM ?ggM ?eCM ?tCM ?tfM ?hCM ?nM0 ?nM1 ?nM2 ?aT ?iT ?lT ?cT ?kT ?kcT ?saT ?xT ?vT ?gaT ?ggT ?eCT ?tCT ?tfT ?hCT ?nT0 ?aBa ?iBa ?lBa ?cBa ?kBa ?kcBa ?saBa ?xBa ?vBa ?gaBa ?ggBa ?eCBa ?tCBa ?tfBa ?hCBa ?nBa0 ?aZ ?exZ ?kcZ ?eCZ ?tCZ ?aN0 ?exN0 ?kcN0 ?eCN0 ?tCN0 ?aO ?exO ?kcO ?eCO ?tCO ?icO ?esO ?aL ?kcL ?saL ?pgL ?hdL ?poL ?mkL ?nL0 ?icL ?haL ?hmL ?iL ?lL ?cL ?kL ?isL ?iH ?lH ?cH ?kH ?isH ?iR ?lR ?cR ?kR ?isR ?iQ ?lQ ?cQ ?kQ ?isQ ?iN ?lN ?cN ?kN ?isN ?aY ?kcY ?saY ?pgY ?hdY ?poY ?mkY ?nY0 ?nY1 ?nY2 ?nY3 ?nY4 ?icY ?haY ?hmY ?iY ?lY ?cY ?kY ?dTY ?dUY ?dDY ?dEY ?dGY ?isY ?iE ?lE ?cE ?kE ?isE ?rdY ?cgY ?caP ?crP ?cfP ?lP ?cP ?kP ?aS ?kcS ?saS ?pgS ?hdS ?poS ?mkS ?nS0 ?nS1 ?nS2 ?nS3 ?icS ?haS ?hmS ?iS ?lS ?cS ?kS ?dTS ?dUS ?isS ?paF ?pbF ?pcF ?pdF ?lF ?cF ?kF ?paG ?pbG ?pcG ?pdG ?lG ?cG ?kG ?aI ?kcI ?saI ?pgI ?hdI ?poI ?mkI ?nI0 ?nI1 ?nI2 ?nI3 ?icI ?haI ?hmI ?iI ?lI ?cI ?kI ?dTI ?dUI ?isI ?neSI ?tcS ?suSI ?aK ?kcK ?saK ?pgK ?hdK ?poK ?mkK ?nK0 ?icK ?haK ?hmK ?tcK ?iK ?lK ?cK ?kK ?isK ?aA ?kcA ?saA ?pgA ?hdA ?poA ?mkA ?nA0 ?nA1 ?nA2 ?nA3 ?nA4 ?iA ?lA ?cA ?kA ?hkA ?dnA ?dfA ?isA ?ib4 ?lb4 ?cb4 ?kb4 ?isb4 ?ib5 ?lb5 ?cb5 ?kb5 ?isb5 ?ib6 ?lb6 ?cb6 ?kb6 ?isb6 ?ib7 ?lb7 ?cb7 ?kb7 ?isb7 ?ib8 ?lb8 ?cb8 ?kb8 ?isb8 ?g_gS ?g_gW ?g_gM ?g_gL ?g_gB ?gl_gB ?gc_gB ?gd_gB ?gs_gB ?gv_gB ?g_gK ?gl_gK ?gc_gK ?gd_gK ?gs_gK ?gv_gK ?g_gN ?gl_gN ?gc_gN ?gd_gN ?gs_gN ?gv_gN ?g_gJ ?gl_gJ ?gc_gJ ?gd_gJ ?gs_gJ ?gv_gJ ?g_gC ?g_gR ?g_gZ ?g_gA ?z0 ?z1 ?z2 ?z3 ?z4 ?z5 ?z6 ?z7 ?z8 ?z9 ?z10 ?z11 ?z12 ?z13 ?z14 ?z15 ?z16 ?z17 ?xL ?vL ?xNL ?xAL ?xBL ?xCL ?xDL ?hc6 ?hc9 ?hd6 ?hd9 ?hn6 ?hn9 ?neP
    (case hn => k_is)
    (case ht => k_is)
    (case a0 => k_is)
    (case l0 => k_is)
    (case c0 => k_is)
    (case k0 => k_is)
    (case a1 => k_is)
    (case l1 => k_is)
    (case c1 => k_is)
    (case k1 => k_is)
    (case a2 => k_is)
    (case l2 => k_is)
    (case c2 => k_is)
    (case k2 => k_is)
    (case a3 => k_is)
    (case l3 => k_is)
    (case c3 => k_is)
    (case k3 => k_is)
    (case a4 => k_is)
    (case l4 => k_is)
    (case c4 => k_is)
    (case k4 => k_is)
    (case a5 => k_is)
    (case l5 => k_is)
    (case c5 => k_is)
    (case k5 => k_is)
    (case a6 => k_is)
    (case l6 => k_is)
    (case c6 => k_is)
    (case k6 => k_is)
    (case aw => k_is)
    (case lw => k_is)
    (case cw => k_is)
    (case kw => k_is)
    (case av => k_is)
    (case lv => k_is)
    (case cv => k_is)
    (case kv => k_is)
    (case ac => k_is)
    (case lc => k_is)
    (case cc => k_is)
    (case kc => k_is)
    (case ad => k_is)
    (case ld => k_is)
    (case cd => k_is)
    (case kd => k_is)
    (case af => k_is)
    (case lf => k_is)
    (case cf => k_is)
    (case kf => k_is)
    (case ag => k_is)
    (case lg => k_is)
    (case cg => k_is)
    (case kg => k_is)
    (case ah => k_is)
    (case lh => k_is)
    (case ch => k_is)
    (case kh => k_is)
    (case ai => k_is)
    (case li => k_is)
    (case ci => k_is)
    (case ki => k_is)
    (case ak => k_is)
    (case lk => k_is)
    (case ck => k_is)
    (case kk => k_is)
    (case aj => k_is)
    (case lj => k_is)
    (case cj => k_is)
    (case kj => k_is)
    (case am => k_is)
    (case lm => k_is)
    (case cm => k_is)
    (case km => k_is)
    (case an => k_is)
    (case ln => k_is)
    (case cn => k_is)
    (case kn => k_is)
    (case ao => k_is)
    (case lo => k_is)
    (case co => k_is)
    (case ko => k_is)
    (case a8 => k_is)
    (case l8 => k_is)
    (case c8 => k_is)
    (case k8 => k_is)
    (case aas => k_is)
    (case las => k_is)
    (case cas => k_is)
    (case kas => k_is)
    (case am1 => k_is)
    (case lm1 => k_is)
    (case cm1 => k_is)
    (case km1 => k_is)
    (case am2 => k_is)
    (case lm2 => k_is)
    (case cm2 => k_is)
    (case km2 => k_is)
    (case am3 => k_is)
    (case lm3 => k_is)
    (case cm3 => k_is)
    (case km3 => k_is)
    (case am4 => k_is)
    (case lm4 => k_is)
    (case cm4 => k_is)
    (case km4 => k_is)
    (case am5 => k_is)
    (case lm5 => k_is)
    (case cm5 => k_is)
    (case km5 => k_is)
    (case am6 => k_is)
    (case lm6 => k_is)
    (case cm6 => k_is)
    (case km6 => k_is)
    (case am7 => k_is)
    (case lm7 => k_is)
    (case cm7 => k_is)
    (case km7 => k_is)
    (case as1 => k_is)
    (case ls1 => k_is)
    (case cs1 => k_is)
    (case ks1 => k_is)
    (case as2 => k_is)
    (case ls2 => k_is)
    (case cs2 => k_is)
    (case ks2 => k_is)
    (case as3 => k_is)
    (case ls3 => k_is)
    (case cs3 => k_is)
    (case ks3 => k_is)
    (case as4 => k_is)
    (case ls4 => k_is)
    (case cs4 => k_is)
    (case ks4 => k_is)
    (case as5 => k_is)
    (case ls5 => k_is)
    (case cs5 => k_is)
    (case ks5 => k_is)
    (case as8 => k_is)
    (case ls8 => k_is)
    (case cs8 => k_is)
    (case ks8 => k_is)
    (case as9 => k_is)
    (case ls9 => k_is)
    (case cs9 => k_is)
    (case ks9 => k_is)
    (case at1 => k_is)
    (case lt1 => k_is)
    (case ct1 => k_is)
    (case kt1 => k_is)
    (case at2 => k_is)
    (case lt2 => k_is)
    (case ct2 => k_is)
    (case kt2 => k_is)
    (case at3 => k_is)
    (case lt3 => k_is)
    (case ct3 => k_is)
    (case kt3 => k_is)
    (case at4 => k_is)
    (case lt4 => k_is)
    (case ct4 => k_is)
    (case kt4 => k_is)
    (case at5 => k_is)
    (case lt5 => k_is)
    (case ct5 => k_is)
    (case kt5 => k_is)
    (case at6 => k_is)
    (case lt6 => k_is)
    (case ct6 => k_is)
    (case kt6 => k_is)
    (case at7 => k_is)
    (case lt7 => k_is)
    (case ct7 => k_is)
    (case kt7 => k_is)
    (case at8 => k_is)
    (case lt8 => k_is)
    (case ct8 => k_is)
    (case kt8 => k_is)
    (case atx => k_is)
    (case ltx => k_is)
    (case ctx => k_is)
    (case ktx => k_is)
    (case au1 => k_is)
    (case lu1 => k_is)
    (case cu1 => k_is)
    (case ku1 => k_is)
    (case au2 => k_is)
    (case lu2 => k_is)
    (case cu2 => k_is)
    (case ku2 => k_is)
    (case a9 => k_is)
    (case l9 => k_is)
    (case c9 => k_is)
    (case k9 => k_is)
    (case aB => k_is)
    (case iB => k_is)
    (case lB => k_is)
    (case cB => k_is)
    (case kB => k_is)
    (case kcB => k_is)
    (case saB => k_is)
    (case xB => k_is)
    (case vB => rfl)
    (case gaB => k_is)
    (case ggB => k_is)
    (case eCB => k_is)
    (case tCB => k_is)
    (case tfB => k_is)
    (case hCB => k_is)
    (case nB0 => k_is)
    (case aM => k_is)
    (case iM => k_is)
    (case lM => k_is)
    (case cM => k_is)
    (case kM => k_is)
    (case kcM => k_is)
    (case saM => k_is)
    (case xM => k_is)
    (case vM => rfl)
    (case gaM => k_is)
    (case ggM => k_is)
    (case eCM => k_is)
    (case tCM => k_is)
    (case tfM => k_is)
    (case hCM => k_is)
    (case nM0 => k_is)
    (case nM1 => k_is)
    (case nM2 => k_is)
    (case aT => k_is)
    (case iT => k_is)
    (case lT => k_is)
    (case cT => k_is)
    (case kT => k_is)
    (case kcT => k_is)
    (case saT => k_is)
    (case xT => k_is)
    (case vT => rfl)
    (case gaT => k_is)
    (case ggT => k_is)
    (case eCT => k_is)
    (case tCT => k_is)
    (case tfT => k_is)
    (case hCT => k_is)
    (case nT0 => k_is)
    (case aBa => k_is)
    (case iBa => k_is)
    (case lBa => k_is)
    (case cBa => k_is)
    (case kBa => k_is)
    (case kcBa => k_is)
    (case saBa => k_is)
    (case xBa => k_is)
    (case vBa => rfl)
    (case gaBa => k_is)
    (case ggBa => k_is)
    (case eCBa => k_is)
    (case tCBa => k_is)
    (case tfBa => k_is)
    (case hCBa => k_is)
    (case nBa0 => k_is)
    (case aZ => k_is)
    (case exZ => k_exc)
    (case kcZ => k_is)
    (case eCZ => k_is)
    (case tCZ => k_is)
    (case aN0 => k_is)
    (case exN0 => k_exc)
    (case kcN0 => k_is)
    (case eCN0 => k_is)
    (case tCN0 => k_is)
    (case aO => k_is)
    (case exO => k_exc)
    (case kcO => k_is)
    (case eCO => k_is)
    (case tCO => k_is)
    (case icO => k_is)
    (case esO => k_is)
    (case aL => k_is)
    (case kcL => k_is)
    (case saL => k_is)
    (case pgL => k_is)
    (case hdL => k_is)
    (case poL => k_is)
    (case mkL => k_is)
    (case nL0 => k_is)
    (case icL => k_is)
    (case haL => k_is)
    (case hmL => k_is)
    (case iL => k_is)
    (case lL => k_is)
    (case cL => k_is)
    (case kL => k_is)
    (case isL => k_is)
    (case iH => k_is)
    (case lH => k_is)
    (case cH => k_is)
    (case kH => k_is)
    (case isH => k_is)
    (case iR => k_is)
    (case lR => k_is)
    (case cR => k_is)
    (case kR => k_is)
    (case isR => k_is)
    (case iQ => k_is)
    (case lQ => k_is)
    (case cQ => k_is)
    (case kQ => k_is)
    (case isQ => k_is)
    (case iN => k_is)
    (case lN => k_is)
    (case cN => k_is)
    (case kN => k_is)
    (case isN => k_is)
    (case aY => k_is)
    (case kcY => k_is)
    (case saY => k_is)
    (case pgY => k_is)
    (case hdY => k_is)
    (case poY => k_is)
    (case mkY => k_is)
    (case nY0 => k_is)
    (case nY1 => k_is)
    (case nY2 => k_is)
    (case nY3 => k_is)
    (case nY4 => k_is)
    (case icY => k_is)
    (case haY => k_is)
    (case hmY => k_is)
    (case iY => k_is)
    (case lY => k_is)
    (case cY => k_is)
    (case kY => k_is)
    (case dTY => k_is)
    (case dUY => rfl)
    (case dDY => k_is)
    (case dEY => rfl)
    (case dGY => rfl)
    (case isY => k_is)
    (case iE => k_is)
    (case lE => k_is)
    (case cE => k_is)
    (case kE => k_is)
    (case isE => k_is)
    (case rdY => k_is)
    (case cgY => k_is)
    (case caP => k_is)
    (case crP => k_is)
    (case cfP => k_is)
    (case lP => k_is)
    (case cP => k_is)
    (case kP => k_is)
    (case aS => k_is)
    (case kcS => k_is)
    (case saS => k_is)
    (case pgS => k_is)
    (case hdS => k_is)
    (case poS => k_is)
    (case mkS => k_is)
    (case nS0 => k_is)
    (case nS1 => k_is)
    (case nS2 => k_is)
    (case nS3 => k_is)
    (case icS => k_is)
    (case haS => k_is)
    (case hmS => k_is)
    (case iS => k_is)
    (case lS => k_is)
    (case cS => k_is)
    (case kS => k_is)
    (case dTS => k_is)
    (case dUS => rfl)
    (case isS => k_is)
    (case paF => k_is)
    (case pbF => k_is)
    (case pcF => k_is)
    (case pdF => k_is)
    (case lF => k_is)
    (case cF => k_is)
    (case kF => k_is)
    (case paG => k_is)
    (case pbG => k_is)
    (case pcG => k_is)
    (case pdG => k_is)
    (case lG => k_is)
    (case cG => k_is)
    (case kG => k_is)
    (case aI => k_is)
    (case kcI => k_is)
    (case saI => k_is)
    (case pgI => k_is)
    (case hdI => k_is)
    (case poI => k_is)
    (case mkI => k_is)
    (case nI0 => k_is)
    (case nI1 => k_is)
    (case nI2 => k_is)
    (case nI3 => k_is)
    (case icI => k_is)
    (case haI => k_is)
    (case hmI => k_is)
    (case iI => k_is)
    (case lI => k_is)
    (case cI => k_is)
    (case kI => k_is)
    (case dTI => k_is)
    (case dUI => rfl)
    (case isI => k_is)
    (case neSI => decide)
    (case tcS => k_is)
    (case suSI => k_is)
    (case aK => k_is)
    (case kcK => k_is)
    (case saK => k_is)
    (case pgK => k_is)
    (case hdK => k_is)
    (case poK => k_is)
    (case mkK => k_is)
    (case nK0 => k_is)
    (case icK => k_is)
    (case haK => k_is)
    (case hmK => k_is)
    (case tcK => k_is)
    (case iK => k_is)
    (case lK => k_is)
    (case cK => k_is)
    (case kK => k_is)
    (case isK => k_is)
    (case aA => k_is)
    (case kcA => k_is)
    (case saA => k_is)
    (case pgA => k_is)
    (case hdA => k_is)
    (case poA => k_is)
    (case mkA => k_is)
    (case nA0 => k_is)
    (case nA1 => k_is)
    (case nA2 => k_is)
    (case nA3 => k_is)
    (case nA4 => k_is)
    (case iA => k_is)
    (case lA => k_is)
    (case cA => k_is)
    (case kA => k_is)
    (case hkA => rfl)
    (case dnA => k_is)
    (case dfA => k_is)
    (case isA => k_is)
    (case ib4 => k_is)
    (case lb4 => k_is)
    (case cb4 => k_is)
    (case kb4 => k_is)
    (case isb4 => k_is)
    (case ib5 => k_is)
    (case lb5 => k_is)
    (case cb5 => k_is)
    (case kb5 => k_is)
    (case isb5 => k_is)
    (case ib6 => k_is)
    (case lb6 => k_is)
    (case cb6 => k_is)
    (case kb6 => k_is)
    (case isb6 => k_is)
    (case ib7 => k_is)
    (case lb7 => k_is)
    (case cb7 => k_is)
    (case kb7 => k_is)
    (case isb7 => k_is)
    (case ib8 => k_is)
    (case lb8 => k_is)
    (case cb8 => k_is)
    (case kb8 => k_is)
    (case isb8 => k_is)
    (case g_gS => k_is)
    (case g_gW => k_is)
    (case g_gM => k_is)
    (case g_gL => k_is)
    (case g_gB => k_is)
    (case gl_gB => k_is)
    (case gc_gB => rfl)
    (case gd_gB => rfl)
    (case gs_gB => decide)
    (case gv_gB => exact .cons ⟨_, rfl⟩ (.cons ⟨_, rfl⟩ (.nil)))
    (case g_gK => k_is)
    (case gl_gK => k_is)
    (case gc_gK => rfl)
    (case gd_gK => rfl)
    (case gs_gK => decide)
    (case gv_gK => exact .cons ⟨_, rfl⟩ (.cons ⟨_, rfl⟩ (.cons ⟨_, rfl⟩ (.cons ⟨_, rfl⟩ (.cons ⟨_, rfl⟩ (.cons ⟨_, rfl⟩ (.nil)))))))
    (case g_gN => k_is)
    (case gl_gN => k_is)
    (case gc_gN => rfl)
    (case gd_gN => rfl)
    (case gs_gN => decide)
    (case gv_gN => exact .cons ⟨_, rfl⟩ (.cons ⟨_, rfl⟩ (.nil)))
    (case g_gJ => k_is)
    (case gl_gJ => k_is)
    (case gc_gJ => rfl)
    (case gd_gJ => rfl)
    (case gs_gJ => decide)
    (case gv_gJ => exact .cons ⟨_, rfl⟩ (.cons ⟨_, rfl⟩ (.cons ⟨_, rfl⟩ (.nil))))
    (case g_gC => k_is)
    (case g_gR => k_is)
    (case g_gZ => k_is)
    (case g_gA => k_is)
    (case z0 => k_is)
    (case z1 => k_is)
    (case z2 => k_is)
    (case z3 => k_is)
    (case z4 => k_is)
    (case z5 => k_is)
    (case z6 => k_is)
    (case z7 => k_is)
    (case z8 => k_is)
    (case z9 => k_is)
    (case z10 => k_is)
    (case z11 => k_is)
    (case z12 => k_is)
    (case z13 => k_is)
    (case z14 => k_is)
    (case z15 => k_is)
    (case z16 => k_is)
    (case z17 => k_is)
    (case xL => k_is)
    (case vL => rfl)
    (case xNL => k_is)
    (case xAL => rfl)
    (case xBL => exact Ask.strKeys_of rfl)
    (case xCL => rfl)
    (case xDL => rfl)
    (case hc6 => rfl)
    (case hc9 => rfl)
    (case hd6 => kernel_rfl)
    (case hd9 => kernel_rfl)
    (case hn6 => kernel_rfl)
    (case hn9 => kernel_rfl)
    (case neP => decide)
