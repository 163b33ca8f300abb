import PyProof.Rows.All
import Wide.All
import OpenK.AllK
import Wide.FinOn
import HandS.ForMost
import HandS.Exc
import HandS.TryOnly
import HandS.ExcInit
import HandS.IsInst
import HandS.Style
import HandS.Wide
import HandS.Deep
import HandS.Walk
import HandS.ExcField
import HandS.WordsExc
import HandS.Flow
import KE.GoesEnum
import PyProof.ReprRoads
import HandS.ExcOwn
import HandS.List
import HandS.OwnEq
import PyProof.InstNe
import PyProof.EqKinds
import KE.KExcIs
import HandS.Strs
import HandS.TupLe
import HandS.TupAny
import HandS.Defaults
import HandS.Base
import HandS.Call
import HandS.SetTxt0
import HandS.SetFor
import HandS.TupSets
import PyProof.Rows.SortStr
import HandS.Words
import HandS.Star
import PyProof.StrLawsChain
import PyProof.StrLawsTight
import HandS.Lambda
import HandS.Nested
import KE.KDflt
import PyProof.SetRoads
import HandS.More
import PyProof.MeetsIn
import PyProof.Rows.Range3
import PyProof.CallStr
import HandS.EndTab
import KE.KNestM
import KE.OsRunLaw
import PySem.Challenge.RW_asksmore_k87_items_as_texts
set_option Elab.async false
set_option linter.all false
set_option maxRecDepth 100000
set_option maxHeartbeats 4000000
section
open PySem PySem.W PyProof.Rows
set_option maxHeartbeats 0
/-- the program's text with the law's def alone: what the walk looks at stands in K -/
def Ask.lawQ : Program := { PySem.Challenge.rw_asksmore_k87_items_as_texts.row.toRowW.1 with main := { PySem.Challenge.rw_asksmore_k87_items_as_texts.row.toRowW.1.main with body := PySem.Challenge.rw_asksmore_k87_items_as_texts.row.toRowW.1.main.body.drop 83 } }
def Ask.looseQ : List PySem.Str := [Str.ofString "_wall", Str.ofString "__name__", Str.ofString "SMALL_LETTERS", Str.ofString "WORD_SIGNS", Str.ofString "MOST_SIGNS", Str.ofString "is_whole", Str.ofString "is_list_of", Str.ofString "is_short_word", Str.ofString "copied", Str.ofString "AsksError", Str.ofString "BadLetters", Str.ofString "BadLetter", Str.ofString "BadBeginning", Str.ofString "BadRuns", Str.ofString "BadCount", Str.ofString "BadPlace", Str.ofString "BadKind", Str.ofString "SaysNothing", Str.ofString "BadAnswers", Str.ofString "TooLong", Str.ofString "TooMany", Str.ofString "BadText", Str.ofString "BEGINNINGS", Str.ofString "MOST_LETTERS", Str.ofString "is_letter", Str.ofString "Letters", Str.ofString "joined", Str.ofString "spliced", Str.ofString "parted", Str.ofString "size_of", Str.ofString "MOST_COUNT", Str.ofString "MOST_RUNS", Str.ofString "MOST_SPELLED", Str.ofString "is_beginning", Str.ofString "require_beginning", Str.ofString "require_count", Str.ofString "require_runs", Str.ofString "extended", Str.ofString "CheckedRuns", Str.ofString "History", Str.ofString "KINDS", Str.ofString "LONE_KINDS", Str.ofString "LIMIT_KINDS", Str.ofString "MOST_ANSWERS", Str.ofString "is_answer", Str.ofString "answer_set", Str.ofString "is_due", Str.ofString "sides", Str.ofString "one_form", Str.ofString "side_of", Str.ofString "Sentence", Str.ofString "Limit", Str.ofString "LineReader", Str.ofString "take_item", Str.ofString "take_answers", Str.ofString "is_one_more", Str.ofString "read_item", Str.ofString "_law_pen", Str.ofString "_law_draw", Str.ofString "_law_pick", Str.ofString "_law_shuffled", Str.ofString "_law_some", Str.ofString "_law_words", Str.ofString "_law_marked", Str.ofString "_law_said", Str.ofString "_law_sentence", Str.ofString "_law_answers", Str.ofString "_law_limit", Str.ofString "_law_item", Str.ofString "_law_pieces", Str.ofString "_law_text_fault", Str.ofString "_law_is_answer", Str.ofString "_law_answers_end", Str.ofString "_law_item_wrong", Str.ofString "_law_item_of"]
local macro_rules | `(tactic| k_head) => `(tactic| k_headL)
local macro_rules | `(tactic| o_headL ($f $K $A $e)) => `(tactic| (
    refine holds_open (q := Ask.lawQ) (loose := Ask.looseQ)
      (Xt := fun s => recOk (RowW.records PySem.Challenge.rw_asksmore_k87_items_as_texts.row.toRowW) s) (XP := fun _ _ => True)
      (Yf := Hook.obs (PySem.W.kHook (fun P => (650, PySem.W.tabObj #[]) :: (671, PySem.W.tabObj #[]) :: (678, PySem.W.tabObj #[]) :: (819, PySem.W.tabObj #[]) :: $K P) (650 :: 671 :: 678 :: 819 :: $A) $e))
      (Ya := Hook.val (PySem.W.kHook (fun P => (650, PySem.W.tabObj #[]) :: (671, PySem.W.tabObj #[]) :: (678, PySem.W.tabObj #[]) :: (819, PySem.W.tabObj #[]) :: $K P) (650 :: 671 :: 678 :: 819 :: $A) $e))
      (YP := Hook.says (PySem.W.kHook (fun P => (650, PySem.W.tabObj #[]) :: (671, PySem.W.tabObj #[]) :: (678, PySem.W.tabObj #[]) :: (819, PySem.W.tabObj #[]) :: $K P) (650 :: 671 :: 678 :: 819 :: $A) $e))
      (N := 14730) ?hl (Hook.of (PySem.W.kHook (fun P => (650, PySem.W.tabObj #[]) :: (671, PySem.W.tabObj #[]) :: (678, PySem.W.tabObj #[]) :: (819, PySem.W.tabObj #[]) :: $K P) (650 :: 671 :: 678 :: 819 :: $A) $e))
      (Hook.keeps (PySem.W.kHook (fun P => (650, PySem.W.tabObj #[]) :: (671, PySem.W.tabObj #[]) :: (678, PySem.W.tabObj #[]) :: (819, PySem.W.tabObj #[]) :: $K P) (650 :: 671 :: 678 :: 819 :: $A) $e))
      (fun _ _ => trivial) (fun _ _ _ _ _ => trivial) (by rfl) (by rfl) (by rfl) (fun s e => recFacts_of e) (by rfl)
      (by decide +kernel) (by decide +kernel) ⟨rfl, rfl, rfl, rfl, rfl, by decide +kernel⟩ ?hw ?hc
    (case hl =>
      refine HeadRun.left_oneK (M := 14030) (by kernel_rfl) (by rfl) (fun s => by kernel_rfl) (by rfl) ?_
      intro w os
      kernel_rfl)))
open_top headK87 for PySem.Challenge.rw_asksmore_k87_items_as_texts
end
namespace Ask
open PySem L2
def top (i : Nat) : Stmt := PySem.Challenge.pw_asksmore_k87_items_as_texts.main.body.getD i (.Pass ⟨0, 0, 0, 0⟩)
/-- the built-in names that the text calls -/
structure Blt (mg : Str → Option Value) : Prop where
  n_int : mg "int" = none
  n_len : mg "len" = none
  n_abs : mg "abs" = none
  n_list : mg "list" = none
  n_range : mg "range" = none
  n_min : mg "min" = none
  n_str : mg "str" = none
  n_isinstance : mg "isinstance" = none
  n_all : mg "all" = none
  n_enumerate : mg "enumerate" = none
  n_tuple : mg "tuple" = none
  n_repr : mg "repr" = none
/-- all but what stands at p is as it was -/
def Kp (p : Addr) (H H' : Hp) : Prop := ∀ b o, b ≠ p → H b = some o → H' b = some o
theorem Kp.refl (p : Addr) (H : Hp) : Kp p H H := fun _ _ _ h => h
theorem Kp.trans {p : Addr} {H H1 H2 : Hp} (a : Kp p H H1) (b : Kp p H1 H2) : Kp p H H2 := fun c o n h => b c o n (a c o n h)
theorem Kp.upd (p : Addr) (H : Hp) (o : HO) : Kp p H (upd H p o) := fun b u n h => by rw [upd_ne n]; exact h
theorem Kp.of {p : Addr} {H H' : Hp} (s : Same H H') : Kp p H H' := fun b o _ h => s b o h
theorem Kp.new {p q : Addr} {H H' : Hp} {o : HO} (k : Kp p H H') (h : H' q = none) : Kp p H (L2.upd H' q o) := fun b u n e => by
  rw [upd_ne (ne_of_none (k b u n e) h)]
  exact k b u n e
theorem kLC : ¬ ((Sum.inr ("rest" : Str) : Key) = Sum.inr ("cells" : Str)) := by decide +kernel
theorem kLB : ¬ ((Sum.inr ("rest" : Str) : Key) = Sum.inr ("at" : Str)) := by decide +kernel
theorem kBC : ¬ ((Sum.inr ("at" : Str) : Key) = Sum.inr ("cells" : Str)) := by decide +kernel
/-- what a pen holds -/
def pk (c : Addr) (b l : Int) : List (Key × V) := [(Sum.inr ("cells" : Str), .ref c), (Sum.inr ("at" : Str), .int b), (Sum.inr ("rest" : Str), .int l)]
theorem pk_cells (c : Addr) (b l : Int) : valV (pk c b l) (Sum.inr ("cells" : Str)) = some (.ref c) := valV_pos rfl
theorem pk_begun (c : Addr) (b l : Int) : valV (pk c b l) (Sum.inr ("at" : Str)) = some (.int b) :=
  (valV_neg (fun z => kBC z.symm)).trans (valV_pos rfl)
theorem pk_left (c : Addr) (b l : Int) : valV (pk c b l) (Sum.inr ("rest" : Str)) = some (.int l) :=
  (valV_neg (fun z => kLC z.symm)).trans ((valV_neg (fun z => kLB z.symm)).trans (valV_pos rfl))
theorem pk_putL (c : Addr) (b l m : Int) : putK (pk c b l) (Sum.inr ("rest" : Str)) (.int m) = pk c b m := by
  unfold putK pk
  have e : (([(Sum.inr ("cells" : Str), .ref c), (Sum.inr ("at" : Str), .int b), (Sum.inr ("rest" : Str), .int l)] : List (Key × V)).any fun kv => decide (kv.1 = Sum.inr ("rest" : Str))) = true := by simp
  rw [if_pos e]
  simp only [List.map_cons, List.map_nil]
  rw [if_neg (fun z => kLC z.symm), if_neg (fun z => kLB z.symm)]
  rfl
theorem pk_putB (c : Addr) (b l m : Int) : putK (pk c b l) (Sum.inr ("at" : Str)) (.int m) = pk c m l := by
  unfold putK pk
  have e : (([(Sum.inr ("cells" : Str), .ref c), (Sum.inr ("at" : Str), .int b), (Sum.inr ("rest" : Str), .int l)] : List (Key × V)).any fun kv => decide (kv.1 = Sum.inr ("at" : Str))) = true := by simp
  rw [if_pos e]
  simp only [List.map_cons, List.map_nil]
  rw [if_neg (fun z => kBC z.symm), if_neg kLB]
  rfl
/-- at p a pen over the cells ns at c, of which at most B were begun -/
def Pen (c : Addr) (ns : List Int) (H : Hp) (p : Addr) (B : Nat) : Prop := ∃ (b l : Int), H p = some (.dK (pk c b l)) ∧ H c = some (.lst (ns.map V.int)) ∧ ns.length ≤ 63 ∧ 0 ≤ b ∧ b ≤ (B : Int)
/-- from H0 to H all but the pen stands as it stood, and the pen is a pen -/
structure Go (p c : Addr) (ns : List Int) (H0 H : Hp) (B : Nat) : Prop where
  kp : Kp p H0 H
  pen : Pen c ns H p B
  base : ∃ A, Pen c ns H0 p A
section
variable {p c q a : Addr} {ns : List Int} {H0 H H' : Hp} {A B : Nat} {o : HO} {xs : List V} {K : PySem.W.Frag}
theorem Pen.mono (h : Pen c ns H p A) (le : A ≤ B) : Pen c ns H p B := by
  obtain ⟨b, l, h1, h2, h3, h4, h5⟩ := h
  exact ⟨b, l, h1, h2, h3, h4, by omega⟩
theorem Pen.at (h : Pen c ns H p A) : ∃ o, H p = some o := by
  obtain ⟨b, l, h1, _⟩ := h
  exact ⟨_, h1⟩
theorem Pen.upd (h : Pen c ns H p A) (h1 : q ≠ p) (h2 : q ≠ c) : Pen c ns (L2.upd H q o) p A := by
  obtain ⟨b, l, e1, e2, e3⟩ := h
  exact ⟨b, l, by rw [upd_ne h1.symm]; exact e1, by rw [upd_ne h2.symm]; exact e2, e3⟩
theorem Go.refl (h : Pen c ns H p B) : Go p c ns H H B := ⟨Kp.refl p H, h, B, h⟩
theorem Go.step (g : Go p c ns H0 H A) (g' : Go p c ns H H' B) : Go p c ns H0 H' B := ⟨g.kp.trans g'.kp, g'.pen, g.base⟩
theorem Go.mono (g : Go p c ns H0 H A) (le : A ≤ B) : Go p c ns H0 H B := ⟨g.kp, g.pen.mono le, g.base⟩
/-- fresh later is fresh before -/
theorem Go.free (g : Go p c ns H0 H B) (n : H q = none) : H0 q = none := by
  by_cases e : q = p
  · subst e
    obtain ⟨o, z⟩ := g.pen.at
    rw [z] at n
    cases n
  · cases z : H0 q with
    | none => rfl
    | some o =>
      rw [g.kp q o e z] at n
      cases n
theorem Go.ne (g : Go p c ns H0 H B) (n : H0 q = none) : q ≠ p ∧ q ≠ c := by
  obtain ⟨A, b, l, h1, h2, _⟩ := g.base
  refine ⟨fun e => ?_, fun e => ?_⟩
  · rw [e, h1] at n
    cases n
  · rw [e, h2] at n
    cases n
/-- what H0 did not know may change -/
theorem Go.mut (g : Go p c ns H0 H B) (n : H0 q = none) : Go p c ns H0 (upd H q o) B :=
  ⟨fun b u e z => by
    rw [upd_ne (ne_of_none z n)]
    exact g.kp b u e z, g.pen.upd (g.ne n).1 (g.ne n).2, g.base⟩
theorem Go.new (g : Go p c ns H0 H B) (n : H q = none) : Go p c ns H0 (upd H q o) B := g.mut (g.free n)
theorem Go.same (g : Go p c ns H0 H B) (s : Same H H') : Go p c ns H0 H' B := by
  obtain ⟨b, l, h1, h2, h3⟩ := g.pen
  exact ⟨g.kp.trans (Kp.of s), ⟨b, l, s _ _ h1, s _ _ h2, h3⟩, g.base⟩
theorem Go.at (g : Go p c ns H0 H B) (e : H0 a = some o) (d : ∀ kvs, o ≠ .dK kvs) : H a = some o := by
  obtain ⟨A, b, l, h1, _⟩ := g.base
  exact g.kp _ _ (ne_of e h1 (d _)) e
theorem Go.lst (g : Go p c ns H0 H B) (e : H0 a = some (.lst xs)) : H a = some (.lst xs) := g.at e (by intro _ z; cases z)
theorem Go.tup (g : Go p c ns H0 H B) (e : H0 a = some (.tup xs)) : H a = some (.tup xs) := g.at e (by intro _ z; cases z)
theorem Go.seq (g : Go p c ns H0 H B) (q : SqL K H0 a xs) : SqL K H a xs := by
  rcases q with (q | ⟨o, q⟩) | q
  · exact .inl (.inl (g.lst q))
  · exact .inl (.inr ⟨o, g.at q (by intro _ z; cases z)⟩)
  · exact .inr q
end

/-- x = a if c else b, its two ways met -/
theorem seqIf_cut {t : TT} {ta tb : TE} {g : TG} {u : TS} {D : Ends} {σ : L2.St} {H : Hp} (Pv : V → Hp → Prop) (h : ∀ Q' : VK, (∀ v H', Pv v H' → Q' v H') → tIf t ta tb σ H Q') (hq : ∀ v H', Pv v H' → g v σ H' (u D)) :
    tSeq (tAsg (tIf t ta tb) g) u D σ H := h _ hq
/-- if c: body, the ways past it met -/
theorem seqIfS_cut {c : TT} {t v u : TS} {D : Ends} {σ : L2.St} {H : Hp} (hn : u D σ H) (h : ∀ N : L2.St → Hp → Prop, N σ H → tIfS c t v { D with nx := N } σ H) : tSeq (tIfS c t v) u D σ H := h (u D) hn

/-- if c: body else: other, its ways met in Mid -/
theorem seqIf_mid {c : TT} {t v u : TS} {D : Ends} {σ : L2.St} {H : Hp} (Mid : L2.St → Hp → Prop) (h : ∀ N : L2.St → Hp → Prop, (∀ σ' H', Mid σ' H' → N σ' H') → tIfS c t v { D with nx := N } σ H) (hq : ∀ σ' H', Mid σ' H' → u D σ' H') :
    tSeq (tIfS c t v) u D σ H := h (u D) hq
/-- what is made new leaves the rest -/
theorem Same.made1 {H H' : Hp} {a : Addr} {o : HO} (s : Same H H') (h : H' a = none) : Same H (upd H' a o) := fun b u e => by
  have q := s b u e
  rw [upd_ne (ne_of_none q h)]
  exact q
/-! ### the draw -/
def spDraw : Sp := fun vs H Q _ => ∃ (p c : Addr) (ns : List Int) (m : Int) (B : Nat), vs = [.ref p, .int m] ∧ Pen c ns H p B ∧ B ≤ 1000000000 ∧ 0 < m ∧ m < 1073741824 ∧
  ∀ (H' : Hp) (r : Int), Go p c ns H H' (B + 1) → 0 ≤ r → r < m → Q (.int r) H'
section
variable {P : Program} {w : World} {K : PySem.W.Frag} {mg : Str → Option Value} {base : Heap}
abbrev s__law_draw : Stmt := top 66
theorem sc__law_draw : FnScope ["_law_pen_here", "_law_many", "_law_digit", "_law_at", "_law_cell", "_law_mixed"] ["_law_pen_here", "_law_many"] (defScope s__law_draw) := ⟨rfl, rfl, rfl, by decide +kernel, rfl, by decide +kernel, by decide +kernel⟩
theorem data_ints {K : PySem.W.Frag} {H : Hp} : ∀ ns : List Int, DpAll K H (ns.map V.int) (ns.map PyData.int)
  | [] => .nil
  | n :: ns => .cons (.int n) (data_ints ns)
theorem lay_ints : ∀ ns : List Int, PyData.canLayAll0 (ns.map PyData.int) = true ∧ PyData.depthAll (ns.map PyData.int) = 0
  | [] => ⟨rfl, rfl⟩
  | n :: ns => by
    obtain ⟨h1, h2⟩ := lay_ints ns
    refine ⟨?_, ?_⟩
    · show (true && PyData.canLayAll0 (ns.map PyData.int)) = true
      rw [h1]
      rfl
    · show max 0 (PyData.depthAll (ns.map PyData.int)) = 0
      rw [h2]
      rfl
theorem shaped_ints (ns : List Int) : SeqAt.shaped (.list (ns.map PyData.int)) = true := by
  obtain ⟨h1, h2⟩ := lay_ints ns
  have a : PyData.canLay0 (.list (ns.map PyData.int)) = true := h1
  have b : (PyData.list (ns.map PyData.int)).depth ≤ 64 := by
    show PyData.depthAll (ns.map PyData.int) + 1 ≤ 64
    rw [h2]
    decide
  unfold SeqAt.shaped
  simp [a, b]
theorem eqv_none (ds : List PyData) : PyData.eqv (.list ds) (.list []) = ds.isEmpty := by
  cases ds with
  | nil => simp [PyData.eqv, PyData.eqvAll]
  | cons d ds => simp [PyData.eqv, PyData.eqvAll]
theorem div_ok {i j : Int} (h : 0 < j) (h2 : j < 1073741824) : CDivW i j := wide_div (b := 30) h (by omega) (by decide) (by decide)
theorem mul_small {i j : Int} (h : -(2 ^ 64) < i ∧ i < 2 ^ 64) : CMul i j := .inl h
theorem ok_draw {f : Addr} {fd : FuncData} (F : Fun K "_law_draw" "_law_draw" s__law_draw f fd) (T : Blt mg) : FnOk P w K mg base CX0 1 f fd ["_law_pen_here", "_law_many"] spDraw := by
  refine F.ok sc__law_draw (fun vs H Q E h => ?_) (fun cdv A outer s H vs Q E hr h => ?_)
  · obtain ⟨p, c, ns, m, B, rfl, _⟩ := h
    rfl
  · obtain ⟨p, c, ns, m, B, rfl, hpen, hB, hm0, hm1, k⟩ := h
    obtain ⟨b, l, hp, hc, hl, hb0, hbB⟩ := id hpen
    have hu := hu_of hr
    refine ⟨_, (pss_cons (ps_if (pt_cmpR op_gt (pe_dget hu (pv 0) pe_str (fun _ _ => rfl)) pe_int (nomark _)) (pss_cons (ps_set (i := 2) sc__law_draw.nd rfl (Or.inl rfl) (pe_op op_mod (pe_callTy call_int1 (by rfl) T.n_int (by decide +kernel) (pa_cons (pe_dget hu (pv 0) pe_str (fun _ _ => rfl)) pa_nil)) (pv 1)))
      (pss_cons (ps_dput hu (pv 0) pe_str (pe_op op_fdivW (pe_dget hu (pv 0) pe_str (fun _ _ => rfl)) (pv 1)) rfl)
      (pss_one (ps_ret (pv 2))))) pss_nil)
      (pss_cons (ps_set (i := 3) sc__law_draw.nd rfl (Or.inl rfl) (pe_dget hu (pv 0) pe_str (fun _ _ => rfl)))
      (pss_cons (ps_dput hu (pv 0) pe_str (pe_op op_add (pv 3) pe_int) rfl)
      (pss_cons (ps_set (i := 4) sc__law_draw.nd rfl (Or.inl rfl) (pe_op op_add (pe_op op_mul pe_int (pv 3)) pe_int))
      (pss_cons (ps_if (pt_cmpR (op_neD hr.units) (pe_dget hu (pv 0) pe_str (fun _ _ => rfl)) (pe_lst pa_nil) (nomark _)) (pss_one (ps_set (i := 4) sc__law_draw.nd rfl (Or.inl rfl) (pe_ix ix_list (pe_dget hu (pv 0) pe_str (fun _ _ => rfl)) (pe_op op_mod (pe_callTy call_int1 (by rfl) T.n_int (by decide +kernel) (pa_cons (pv 3) pa_nil)) (pe_callB call_len_seq (by rfl) T.n_len (by decide +kernel) (pa_cons (pe_dget hu (pv 0) pe_str (fun _ _ => rfl)) pa_nil))) (fun _ _ => rfl)))) pss_nil)
      (pss_cons (ps_if (PW.pt (pw_and (pt_cmpR op_lt (pv 3) (pe_callB call_len_seq (by rfl) T.n_len (by decide +kernel) (pa_cons (pe_dget hu (pv 0) pe_str (fun _ _ => rfl)) pa_nil)) (nomark _)) (pw_and1 (pt_cmpR op_ge (pe_callB call_abs (by rfl) T.n_abs (by decide +kernel) (pa_cons (pv 4) pa_nil)) (pe_op op_pow pe_int pe_int) (nomark _))))) (pss_cons (ps_dput hu (pv 0) pe_str (pe_op op_fdivW (pe_op op_sub (pe_callB call_abs (by rfl) T.n_abs (by decide +kernel) (pa_cons (pv 4) pa_nil)) (pe_op op_pow pe_int pe_int)) (pv 1)) rfl)
      (pss_one (ps_ret (pe_op op_mod (pe_callTy call_int1 (by rfl) T.n_int (by decide +kernel) (pa_cons (pe_op op_sub (pe_callB call_abs (by rfl) T.n_abs (by decide +kernel) (pa_cons (pv 4) pa_nil)) (pe_op op_pow pe_int pe_int)) pa_nil)) (pv 1))))) pss_nil)
      (pss_cons (ps_set (i := 5) sc__law_draw.nd rfl (Or.inl rfl) (pe_op op_add (pe_op op_mul (pe_op op_mod (pe_callTy call_int1 (by rfl) T.n_int (by decide +kernel) (pa_cons (pv 4) pa_nil)) pe_int) pe_int) (pe_op op_mul (pe_op op_mul pe_int (pv 3)) (pv 3))))
      (pss_cons (ps_set (i := 5) sc__law_draw.nd rfl (Or.inl rfl) (pe_op op_mod (pe_callTy call_int1 (by rfl) T.n_int (by decide +kernel) (pa_cons (pe_op op_add (pe_op op_add (pv 5) (pe_op op_mul pe_int (pv 3))) pe_int) pa_nil)) pe_int))
      (pss_cons (ps_set (i := 5) sc__law_draw.nd rfl (Or.inl rfl) (pe_op op_mod (pe_callTy call_int1 (by rfl) T.n_int (by decide +kernel) (pa_cons (pe_op op_add (pe_op op_add (pe_op op_add (pe_op op_mul (pv 5) (pv 5)) (pe_op op_mul pe_int (pv 5))) (pe_op op_mul pe_int (pv 3))) pe_int) pa_nil)) pe_int))
      (pss_one (ps_ret (pe_op op_mod (pe_callTy call_int1 (by rfl) T.n_int (by decide +kernel) (pa_cons (pe_op op_fdivW (pe_op op_mod (pe_callTy call_int1 (by rfl) T.n_int (by decide +kernel) (pa_cons (pe_op op_mul (pv 5) (pe_op op_add (pv 5) pe_int)) pa_nil)) pe_int) pe_int) pa_nil)) (pv 1))))))))))))), ?_⟩
    have gL : ∀ {H : Hp} {b l : Int}, H p = some (.dK (pk c b l)) → DGet H p (.str "rest") (some (.int l)) := fun e => by
      have z := DGet.k (k := Sum.inr ("rest" : Str)) e
      rw [pk_left] at z
      exact z
    have gB : ∀ {H : Hp} {b l : Int}, H p = some (.dK (pk c b l)) → DGet H p (.str "at") (some (.int b)) := fun e => by
      have z := DGet.k (k := Sum.inr ("at" : Str)) e
      rw [pk_begun] at z
      exact z
    have gC : ∀ {H : Hp} {b l : Int}, H p = some (.dK (pk c b l)) → DGet H p (.str "cells") (some (.ref c)) := fun e => by
      have z := DGet.k (k := Sum.inr ("cells" : Str)) e
      rw [pk_cells] at z
      exact z
    have three : ∀ b l : Int, (pk c b l).length < sizeLine := fun b l => by show 3 < sizeLine; decide
    have pL : ∀ {H : Hp} {b l : Int} (m : Int), H p = some (.dK (pk c b l)) → DPut H p (.str "rest") (.int m) (upd H p (.dK (pk c b m))) := fun m e => by
      have z := DPut.k (k := Sum.inr ("rest" : Str)) (v := .int m) e (three _ _)
      rw [pk_putL] at z
      exact z
    have pB : ∀ {H : Hp} {b l : Int} (m : Int), H p = some (.dK (pk c b l)) → DPut H p (.str "at") (.int m) (upd H p (.dK (pk c m l))) := fun m e => by
      have z := DPut.k (k := Sum.inr ("at" : Str)) (v := .int m) e (three _ _)
      rw [pk_putB] at z
      exact z
    have ncp : c ≠ p := ne_of hc hp (by intro z; cases z)
    -- if pen['left'] > 0
    refine ⟨_, rfl, p, _, rfl, gL hp, _, _, rfl, rfl, _, rfl, ?_⟩
    refine ite2 (fun h0 => ?_) (fun h0 => ?_)
    · -- digit = int(left) % many; left = left // many; return digit
      refine ⟨_, rfl, p, _, rfl, gL hp, .inl ⟨_, rfl, _, rfl, _, _, rfl, rfl, hm0, ?_⟩⟩
      refine ⟨_, rfl, p, _, rfl, gL hp, _, rfl, _, _, rfl, rfl, div_ok hm0 hm1, _, rfl, p, _, rfl, pL _ hp, ?_⟩
      refine ⟨_, rfl, ?_⟩
      refine k _ _ ⟨Kp.upd _ _ _, ⟨b, _, upd_same, by rw [upd_ne ncp]; exact hc, hl, hb0, by omega⟩, B, hpen⟩ (Int.emod_nonneg _ (by omega)) (Int.emod_lt_of_pos _ hm0)
    · -- at = pen['at']; pen['at'] = at + 1
      refine ⟨_, rfl, p, _, rfl, gB hp, ?_⟩
      refine ⟨_, rfl, _, _, rfl, rfl, _, rfl, p, _, rfl, pB _ hp, ?_⟩
      have hp1 : upd H p (.dK (pk c (b + 1) l)) p = some (.dK (pk c (b + 1) l)) := upd_same
      have hc1 : upd H p (.dK (pk c (b + 1) l)) c = some (.lst (ns.map V.int)) := by rw [upd_ne ncp]; exact hc
      have k1 : Kp p H (upd H p (.dK (pk c (b + 1) l))) := Kp.upd _ _ _
      have pen1 : Pen c ns (upd H p (.dK (pk c (b + 1) l))) p (B + 1) := ⟨b + 1, l, hp1, hc1, hl, by omega, by omega⟩
      generalize upd H p (.dK (pk c (b + 1) l)) = H1 at hp1 hc1 k1 pen1 ⊢
      -- cell: some int
      refine ⟨_, rfl, _, _, rfl, rfl, mul_small (by omega), _, _, rfl, rfl, ?_⟩
      try dsimp only
      refine seqIf_mid (fun σ' H' => ∃ z : Int, σ' = [some (.ref p), some (.int m), none, some (.int b), some (.int z), none] ∧ Same H1 H') (fun N hN => ?_) (fun σ' H2 hm => ?_)
      · refine ⟨_, rfl, p, _, rfl, gC hp1, Nat.zero_le _, fun u hu0 => ?_⟩
        have s1 := Ask.Same.made1 (o := .lst []) (Same.refl H1) hu0
        have fu : upd H1 u (.lst []) u = some (.lst []) := upd_same
        generalize upd H1 u (.lst []) = H2 at s1 fu ⊢
        refine ⟨.list (ns.map PyData.int), .list [], .lst (SqL.of (s1 _ _ hc1)) (data_ints ns), .lst (SqL.of fu) .nil, shaped_ints ns, by decide, _, rfl, ?_⟩
        rw [eqv_none]
        cases ns with
        | nil => exact iteF (hN _ _ ⟨_, rfl, s1⟩)
        | cons n0 ns0 =>
          refine iteT ?_
          have h1 : (0 : Int) < ((n0 :: ns0).length : Nat) := by rw [List.length_cons]; omega
          have e0 : 0 ≤ b % ((n0 :: ns0).length : Int) := Int.emod_nonneg _ (by omega)
          have e1 : b % ((n0 :: ns0).length : Int) < ((n0 :: ns0).length : Int) := Int.emod_lt_of_pos _ h1
          have e2 : (b % ((n0 :: ns0).length : Int)).toNat < (n0 :: ns0).length := by omega
          refine ⟨_, rfl, p, _, rfl, gC (s1 _ _ hp1), _, rfl, ?_⟩
          refine .inl ⟨_, rfl, _, rfl, p, _, rfl, gC (s1 _ _ hp1), c, _, rfl, .inl (SqL.of (s1 _ _ hc1)), _, _, rfl, rfl, (by rw [List.length_map]; exact h1), c, (n0 :: ns0).map V.int, _, V.int (n0 :: ns0)[(b % ((n0 :: ns0).length : Int)).toNat], rfl, rfl, SqL.of (s1 _ _ hc1), ?_, hN _ _ ⟨_, rfl, s1⟩⟩
          rw [List.length_map]
          refine at_of (j := (b % ((n0 :: ns0).length : Int)).toNat) (by omega) ?_
          rw [List.getElem?_map, List.getElem?_eq_getElem e2]
          rfl
      obtain ⟨z, rfl, s2⟩ := hm
      replace hp1 := s2 _ _ hp1
      replace hc1 := s2 _ _ hc1
      replace k1 := k1.trans (Kp.of s2)
      replace pen1 : Pen c ns H2 p (B + 1) := ⟨b + 1, l, hp1, hc1, hl, by omega, by omega⟩
      clear s2
      refine seqIfS_cut ?_ (fun N q => ?_)
      · have m0 := Int.emod_nonneg z (show (4294967231 : Int) ≠ 0 by decide)
        have m1 := Int.emod_lt_of_pos z (show (0 : Int) < 4294967231 by decide)
        refine ⟨_, rfl, .inl ⟨_, rfl, _, _, rfl, rfl, (by show (0 : Int) < _; decide), _, _, rfl, rfl, mul_small (by omega), ?_⟩⟩
        refine ⟨_, rfl, _, _, rfl, rfl, mul_small (by omega), _, rfl, _, _, rfl, rfl, mul_small (by omega), _, _, rfl, rfl, ?_⟩
        generalize z % 4294967231 * 40503 + 12011 * b * b = w0
        refine ⟨_, rfl, _, rfl, _, _, rfl, rfl, mul_small (by omega), _, _, rfl, rfl, _, _, rfl, rfl, .inl ⟨_, rfl, _, _, rfl, rfl, (by show (0 : Int) < _; decide), ?_⟩⟩
        generalize hx : (w0 + 977 * b + 7) % 4294967197 = x
        have x0 : 0 ≤ x := by rw [← hx]; exact Int.emod_nonneg _ (by decide)
        have x1 : x < 4294967197 := by rw [← hx]; exact Int.emod_lt_of_pos _ (by decide)
        clear hx
        refine ⟨_, rfl, _, rfl, _, _, rfl, rfl, mul_small (by omega), _, rfl, _, _, rfl, rfl, mul_small (by omega), _, _, rfl, rfl, _, rfl, _, _, rfl, rfl, mul_small (by omega), _, _, rfl, rfl, _, _, rfl, rfl, .inl ⟨_, rfl, _, _, rfl, rfl, (by show (0 : Int) < _; decide), ?_⟩⟩
        generalize hy : (x * x + 25214903 * x + 19 * b + 3) % 4294967189 = y
        have y0 : 0 ≤ y := by rw [← hy]; exact Int.emod_nonneg _ (by decide)
        have y1 : y < 4294967189 := by rw [← hy]; exact Int.emod_lt_of_pos _ (by decide)
        clear hy
        refine ⟨_, rfl, _, rfl, _, _, rfl, rfl, _, _, rfl, rfl, mul_small (by omega), .inl ⟨_, rfl, _, _, rfl, rfl, (by show (0 : Int) < _; decide), _, _, rfl, rfl, div_ok (by decide) (by decide), .inl ⟨_, rfl, _, rfl, _, _, rfl, rfl, hm0, ?_⟩⟩⟩
        exact k _ _ ⟨k1, pen1, B, hpen⟩ (Int.emod_nonneg _ (by omega)) (Int.emod_lt_of_pos _ hm0)
      · refine ⟨_, rfl, _, rfl, p, _, rfl, gC hp1, c, _, rfl, .inl (SqL.of hc1), _, _, rfl, rfl, _, rfl, ?_⟩
        refine ite2 (fun h1 => ?_) (fun h1 => ?_)
        · refine ⟨_, rfl, _, rfl, _, _, rfl, rfl, (by refine ⟨by decide, by decide, by decide⟩), _, _, rfl, rfl, _, rfl, ?_⟩
          refine ite2 (fun h2 => ?_) (fun h2 => q)
          refine ⟨_, rfl, _, rfl, _, _, rfl, rfl, (by refine ⟨by decide, by decide, by decide⟩), _, _, rfl, rfl, _, rfl, _, _, rfl, rfl, div_ok hm0 hm1, _, rfl, p, _, rfl, pL _ hp1, ?_⟩
          refine ⟨_, rfl, _, rfl, _, _, rfl, rfl, (by refine ⟨by decide, by decide, by decide⟩), _, _, rfl, rfl, .inl ⟨_, rfl, _, rfl, _, _, rfl, rfl, hm0, ?_⟩⟩
          refine k _ _ ⟨k1.trans (Kp.upd _ _ _), ⟨b + 1, _, upd_same, by rw [upd_ne ncp]; exact hc1, hl, by omega, by omega⟩, B, hpen⟩ (Int.emod_nonneg _ (by omega)) (Int.emod_lt_of_pos _ hm0)
        · exact iteF q
end
end Ask

namespace Ask
open PySem L2
section
variable {P : Program} {w : World} {K : PySem.W.Frag} {mg : Str → Option Value} {base : Heap}
/-! ### the pen -/
def spPen (K : PySem.W.Frag) : Sp := fun vs H Q _ => ∃ (a : Addr) (ns : List Int), vs = [.ref a] ∧ SqL K H a (ns.map V.int) ∧ ns.length ≤ 63 ∧
  ∀ (H' : Hp) (p c : Addr), Same H H' → H p = none → Pen c ns H' p 0 → Q (.ref p) H'
abbrev s__law_pen : Stmt := top 65
theorem sc__law_pen : FnScope ["_law_script"] ["_law_script"] (defScope s__law_pen) := ⟨rfl, rfl, rfl, by decide +kernel, rfl, by decide +kernel, by decide +kernel⟩
theorem pk_made (c : Addr) (b l : Int) : mergeK [] [(Sum.inr ("cells" : Str), .ref c), (Sum.inr ("at" : Str), .int b), (Sum.inr ("rest" : Str), .int l)] = pk c b l := by
  have e1 : putK ([] : List (Key × V)) (Sum.inr ("cells" : Str)) (.ref c) = [(Sum.inr ("cells" : Str), .ref c)] := putK_new _ rfl
  have e2 : putK [((Sum.inr ("cells" : Str) : Key), V.ref c)] (Sum.inr ("at" : Str)) (.int b) = [(Sum.inr ("cells" : Str), .ref c), (Sum.inr ("at" : Str), .int b)] :=
    putK_new _ ((valV_neg (fun z => kBC z.symm)).trans rfl)
  have e3 : putK [((Sum.inr ("cells" : Str) : Key), V.ref c), (Sum.inr ("at" : Str), .int b)] (Sum.inr ("rest" : Str)) (.int l) = pk c b l :=
    putK_new _ ((valV_neg (fun z => kLC z.symm)).trans ((valV_neg (fun z => kLB z.symm)).trans rfl))
  unfold mergeK
  simp only [List.foldl_cons, List.foldl_nil]
  rw [e1, e2, e3]
theorem at_by {α : Type} {xs : List α} {z : Int} {j : Nat} {v : α} (e : z = (j : Int)) (h : xs[j]? = some v) : atI xs z = some v := by
  subst e
  exact atI_nat h
theorem cutV_whole (xs : List V) (n : Nat) (h : xs.length ≤ n) : cutV xs none (some (n : Int)) = xs := by
  unfold cutV
  rw [HT.sIx_none, HT.sIx_nat, List.drop_zero, Nat.sub_zero, Nat.min_eq_right h, List.take_length]
theorem ok_pen {f : Addr} {fd : FuncData} (F : Fun K "_law_pen" "_law_pen" s__law_pen f fd) (T : Blt mg) : FnOk P w K mg base CX0 1 f fd ["_law_script"] (spPen K) := by
  refine F.ok sc__law_pen (fun vs H Q E h => ?_) (fun cdv A outer s H vs Q E hr h => ?_)
  · obtain ⟨a, ns, rfl, _⟩ := h
    rfl
  · obtain ⟨a, ns, rfl, hS, hl, k⟩ := h
    refine ⟨_, (pss_one (ps_ret (pe_disp (pps_cons pe_str (pe_callTy call_list_of (by rfl) T.n_list (by decide +kernel) (pa_cons (pe_slice sl_list (pv 0) po_none (po_some pe_int)) pa_nil)) (pps_cons pe_str pe_int (pps_cons pe_str pe_int pps_nil))) (by rfl) (by rfl) (fun z => by cases z) (by decide)))), ?_⟩
    intro p hp
    have s0 : Same H (upd H p (.dK [])) := fun b o e => by rw [upd_ne (ne_of_none e hp)]; exact e
    refine ⟨_, rfl, _, rfl, a, _, rfl, s0.seq hS, fun q hq => ?_⟩
    rw [show cutV (ns.map V.int) none (some 63) = ns.map V.int from cutV_whole _ 63 (by rw [List.length_map]; exact hl)]
    refine ⟨q, _, rfl, .inl (SqL.of upd_same), fun c hc => ?_⟩
    have npq : p ≠ q := ne_of_none upd_same hq
    have hq0 : H q = none := by
      rw [upd_ne npq.symm] at hq
      exact hq
    have ncq : c ≠ q := fun e => by
      rw [e, upd_same] at hc
      cases hc
    have hc1 : upd H p (.dK []) c = none := by
      rw [upd_ne ncq] at hc
      exact hc
    have npc : p ≠ c := ne_of_none upd_same hc1
    have hc0 : H c = none := by
      rw [upd_ne npc.symm] at hc1
      exact hc1
    refine ⟨by rw [upd_ne npc, upd_ne npq, upd_same], [(Sum.inr ("cells" : Str), .ref c), (Sum.inr ("at" : Str), .int 0), (Sum.inr ("rest" : Str), .int 0)], rfl, (by show 3 ≤ 15; decide), ?_⟩
    rw [pk_made]
    refine k _ p c (fun b o e => ?_) hp ⟨0, 0, upd_same, by rw [upd_ne npc.symm, upd_same], hl, Int.le_refl _, Int.le_refl _⟩
    rw [upd_ne (ne_of_none e hp), upd_ne (ne_of_none e hc0), upd_ne (ne_of_none e hq0), upd_ne (ne_of_none e hp)]
    exact e

/-! ### the pick -/
def spPick (K : PySem.W.Frag) : Sp := fun vs H Q _ => ∃ (p c : Addr) (ns : List Int) (x : V) (B : Nat), vs = [.ref p, x] ∧ Pen c ns H p B ∧ B ≤ 1000000000 ∧
  ((∃ a xs, x = .ref a ∧ SqL K H a xs ∧ 0 < xs.length ∧ xs.length ≤ 1000 ∧ ∀ (H' : Hp) (v : V), Go p c ns H H' (B + 1) → v ∈ xs → Q v H') ∨
    (∃ z : Str, x = .str z ∧ 0 < z.length ∧ z.length ≤ 1000 ∧ ∀ (H' : Hp) (i : Nat), Go p c ns H H' (B + 1) → i ∈ z.cps.toList → Q (.str ⟨#[i]⟩) H'))
abbrev s__law_pick : Stmt := top 67
theorem sc__law_pick : FnScope ["_law_pen_here", "_law_items"] ["_law_pen_here", "_law_items"] (defScope s__law_pick) := ⟨rfl, rfl, rfl, by decide +kernel, rfl, by decide +kernel, by decide +kernel⟩
/-- a def of the text called by its name: where it stands, that it stays, how its arguments bind -/
structure At (K : PySem.W.Frag) (mg : Str → Option Value) (x : Str) (f : Addr) (fd : FuncData) (ps : List Str) : Prop where
  m : mg x = some (.ref f)
  k : PySem.W.keepIn K (.ref f) = true
  b : Binds K fd ps []
theorem ok_pick {f fD : Addr} {fd fdD : FuncData} (F : Fun K "_law_pick" "_law_pick" s__law_pick f fd) (T : Blt mg) (GD : FnOk P w K mg base CX0 1 fD fdD ["_law_pen_here", "_law_many"] spDraw) (D : At K mg "_law_draw" fD fdD ["_law_pen_here", "_law_many"]) :
    FnOk P w K mg base CX0 2 f fd ["_law_pen_here", "_law_items"] (spPick K) := by
  refine F.ok sc__law_pick (fun vs H Q E h => ?_) (fun cdv A outer s H vs Q E hr h => ?_)
  · obtain ⟨p, c, ns, x, B, rfl, _⟩ := h
    rfl
  · obtain ⟨p, c, ns, x, B, rfl, hpen, hB, h⟩ := h
    refine ⟨_, (pss_one (ps_ret (pe_ix ix_seq (pv 1) (pe_call GD hr (by rfl) D.m D.k D.b .nil pass0 (pa_cons (pv 0) (pa_cons (pe_callB call_len (by rfl) T.n_len (by decide +kernel) (pa_cons (pv 1) pa_nil)) pa_nil))) (fun _ _ => rfl)))), ?_⟩
    have sl : (1000 : Nat) ≤ sizeLine := by decide
    rcases h with ⟨a, xs, rfl, hS, h0, h1, k⟩ | ⟨z, rfl, h0, h1, k⟩
    · refine ⟨_, rfl, _, rfl, _, rfl, _, xs.length, rfl, .inl ⟨xs, hS, rfl⟩, p, c, ns, _, B, rfl, hpen, hB, by omega, by omega, fun H' r g r0 r1 => ?_⟩
      have hi : r.toNat < xs.length := by omega
      exact .inl ⟨a, xs, r, xs[r.toNat], rfl, rfl, g.seq hS, at_of (j := r.toNat) (by omega) (List.getElem?_eq_getElem hi), k H' _ g (List.getElem_mem hi)⟩
    · refine ⟨_, rfl, _, rfl, _, rfl, _, z.length, rfl, ⟨by omega, rfl⟩, p, c, ns, _, B, rfl, hpen, hB, by omega, by omega, fun H' r g r0 r1 => ?_⟩
      have hi : r.toNat < z.cps.toList.length := by
        have e : z.cps.toList.length = z.length := by simp [Str.length]
        omega
      exact .inr (.inr ⟨z, r, z.cps.toList[r.toNat], rfl, rfl, by omega, at_by (j := r.toNat) (by omega) (List.getElem?_eq_getElem hi), k H' _ g (List.getElem_mem hi)⟩)
end
end Ask

namespace Ask
open PySem L2
theorem len_sum1 : ∀ ys : List Str, (∀ y ∈ ys, y.length = 1) → (ys.map (·.length)).sum = ys.length
  | [], _ => rfl
  | y :: r, h => by
    rw [List.map_cons, List.sum_cons, List.length_cons, len_sum1 r (fun z hz => h z (List.mem_cons_of_mem _ hz)), h y (List.mem_cons_self ..)]
    omega
theorem join_len1 (ys : List Str) (h : ∀ y ∈ ys, y.length = 1) : (Txt.join (Str.ofString "") ys).length = ys.length := by
  rw [TL.join_eq]
  cases ys with
  | nil => rfl
  | cons a r =>
    rw [PyProof.Rows.len_join_cons, len_sum1 _ h]
    show _ + r.length * 0 = _
    omega
/-- all signs below 128 -/
def Asc (z : Str) : Prop := ∀ c ∈ z.cps.toList, c < 128
theorem Asc.app {a b : Str} (h : Asc a) (k : Asc b) : Asc (a ++ b) := fun c hc => by
  have e : (a ++ b).cps.toList = a.cps.toList ++ b.cps.toList := by
    rw [Str.cps_append, Array.toList_append]
  rw [e] at hc
  rcases List.mem_append.mp hc with z | z
  · exact h c z
  · exact k c z
theorem Asc.cut {a : Str} (h : Asc a) (lo hi : Option Int) : Asc (cutS a lo hi) := fun c hc => h c (List.mem_of_mem_drop (List.mem_of_mem_take hc))
theorem Asc.one {c : Nat} (h : c < 128) : Asc ⟨#[c]⟩ := fun d hd => by
  have e : d = c := by simpa using hd
  rw [e]
  exact h
theorem Asc.lit {s : String} (h : ((Str.ofString s).cps.toList.all fun c => decide (c < 128)) = true) : Asc (Str.ofString s) := fun c hc => of_decide_eq_true (List.all_eq_true.mp h c hc)
theorem Asc.joined : ∀ ys : List Str, (∀ y ∈ ys, Asc y) → Asc (Str.join (Str.ofString "") ys)
  | [], _ => fun c hc => by cases hc
  | [y], h => h y (List.mem_cons_self ..)
  | y :: z :: r, h => ((h y (List.mem_cons_self ..)).app (.lit rfl)).app (Asc.joined (z :: r) fun x hx => h x (List.mem_cons_of_mem _ hx))
theorem Asc.join (ys : List Str) (h : ∀ y ∈ ys, Asc y) : Asc (Txt.join (Str.ofString "") ys) := by
  rw [TL.join_eq]
  exact Asc.joined ys h
def small : Str := "abcdefghijklmnopqrstuvwxyz"
def signs : Str := "abcdefghijklmnopqrstuvwxyz0123456789"
theorem small_len : small.length = 26 := by decide +kernel
theorem signs_len : signs.length = 36 := by decide +kernel
theorem small_asc : Asc small := .lit (by decide +kernel)
theorem signs_asc : Asc signs := .lit (by decide +kernel)
end Ask

/-! enumerate(t), t a tuple (or a list): the layer has it for lists alone -/
namespace PySem
open Sem (wp)
theorem ask_enum_new {v : Value} {o : Obj} {Hh : Heap → Prop} (B : Begins v o Hh) :
    Meets (Builtin.«enumerate.__new__» ⟨[.type "enumerate", v], []⟩) (fun _ R s => Hh s.heap ∧
      R (.ok (.ret (.ref (s.heap.push o).objs.size)))
        { s with heap := (s.heap.push o).push { cls := .type "enumerate", data := .fields #[.none, .bool false, .ref s.heap.objs.size, rawInt 0, .none, .none] } }) :=
  .of_wp fun prog w A R s z => by
    obtain ⟨h0, g0, d0, t0, os0⟩ := s
    obtain ⟨z1, z⟩ := z
    have subE := sub_enumerate
    have begins : ∀ {A' : Around} {E' : Value → Shared → Prop} {Q' : Value → Shared → Prop}, Q' (.ref h0.objs.size) ⟨h0.push o, g0, d0, t0, os0⟩ → wpAny (model prog w) A' (pyIter v) Q' E' ⟨h0, g0, d0, t0, os0⟩ :=
      fun q => B.iter prog w _ _ ⟨h0, g0, d0, t0, os0⟩ _ z1 q
    wp_walk using begins
    refine wpAny_stack_any fun _ => wpAny_pure ?_
    split
    · rename_i cl _ _ _ _ _
      cases (cl == Value.type "enumerate") <;> (wp_walk using begins; exact ⟨_, rfl, z⟩)
    · wp_walk using begins; exact ⟨_, rfl, z⟩
end PySem
namespace Ask
open PySem L2 PySem.Spec PyProof.Rows
/-- enumerate(v): its two new cells -/
theorem enum_made {prog : Program} {w : World} {A : Around} {E : Value → Shared → Prop} {s : Shared} {v : Value} {o : Obj} {Hh : Heap → Prop} {Q : Value → Shared → Prop} (B : Begins v o Hh) (h1 : Hh s.heap)
    (h : ∀ h', IsEnum h' (s.heap.objs.size + 1) s.heap.objs.size 0 .none → h'.get? s.heap.objs.size = some o → (∀ b u, s.heap.get? b = some u → h'.get? b = some u) → Q (.ref (s.heap.objs.size + 1)) { s with heap := h' }) :
    wpAny (model prog w) A (call (.type "enumerate") [v]) Q E s := by
  refine callType_new F.called_enumerate (by decide) (F.typeCall_enumerate_1 _) (F.newCall_enumerate_1 _) (fun obj => F.args_object_init_2 obj _) F.entry_enumerate_new (ask_enum_new B) ⟨h1, ?_⟩
  have z : (s.heap.push o).objs.size = s.heap.objs.size + 1 := Heap.size_push ..
  show _ ∧ _
  rw [z]
  have e : IsEnum ((s.heap.push o).push { cls := .type "enumerate", data := .fields #[.none, .bool false, .ref s.heap.objs.size, rawInt 0, .none, .none] }) (s.heap.objs.size + 1) s.heap.objs.size 0 .none := by
    have q := Heap.get?_push_size (s.heap.push o) (o := { cls := .type "enumerate", data := .fields #[.none, .bool false, .ref s.heap.objs.size, rawInt 0, .none, .none] }) rfl
    rw [z] at q
    exact q
  exact ⟨⟨_, e, rfl⟩, h _ e (Heap.get?_push_of_some _ (Heap.get?_push_size _ B.free)) fun b u q => Heap.get?_push_of_some _ (Heap.get?_push_of_some _ q)⟩
/-- the tuple at a, each item in a new pair with its place -/
def IteT (K : PySem.W.Frag) (a : Addr) : It :=
  ⟨fun i H => ∃ xs, SqT K H a xs ∧ i < xs.length, fun i H v H' => ∃ T x, v = .ref T ∧ H T = none ∧ H' = upd H T (.tup [.int (i : Nat), x]) ∧ ∀ xs, SqT K H a xs → xs[i]? = some x, fun i H => ∃ xs, SqT K H a xs ∧ xs.length = i⟩
theorem turn_enumT {P : Program} {w : World} {K : PySem.W.Frag} {elts : List Expr} {kk : Nat} {tpos : Pos} (a e it : Addr) (hne : e ≠ it) (hat : a ≠ it) :
    Turn P w K (.Tuple elts kk tpos) (IteT K a) [e, it] e (fun i h => (∃ old, IsEnum h e it ((i : Nat) : Int) old) ∧ h.IsTupleIter it a i) where
  mem := by simp
  obj := fun i h st b hb => by
    obtain ⟨⟨old, he⟩, o, ho, _, hd⟩ := st
    rcases (by simpa using hb : b = e ∨ b = it) with z | z
    · rw [z]; exact ⟨_, he, fun v q => nomatch q⟩
    · rw [z]; exact ⟨o, ho, fun v q => by rw [hd] at q; cases q⟩
  keep := fun i h h' st k => ⟨⟨_, k e (by simp) _ st.1.choose_spec⟩, st.2.at fun o q => k it (by simp) o q⟩
  item := by
    intro X hP hw hK hc i pins s σ H E I hf st hg
    subst hP hw hK
    obtain ⟨⟨old, he⟩, hit⟩ := st
    obtain ⟨xs, hq, hi⟩ := hg
    obtain ⟨its, rv, p, hz⟩ := I.tuple hq
    have hl := rv.length
    have hel : e < s.heap.objs.size := Heap.lt_size he
    have hil : it < s.heap.objs.size := by obtain ⟨_, q, _⟩ := hit; exact Heap.lt_size q
    have aE : a ≠ e := fun z => by
      obtain ⟨o, ho, ct, _⟩ := p
      have he2 : s.heap.get? e = some _ := he
      rw [z, he2] at ho
      have z2 := Option.some.inj ho
      rw [← z2] at ct
      injection ct with ct
      exact absurd ct (by decide)
    have Dr := Draws.tuple (prog := X.prog) (w := X.w) (A := X.A.in1) (show X.A.in1.handled = none from I.ok.hd hc) it a hat its.toArray
    refine wpAny_pyNext_enum_itemD Dr he ⟨hit, p⟩ (by simp; omega) hne (by intro z; rcases (by simpa using z : e = it ∨ e = a) with q | q; exact hne q; exact aE q.symm) fun x h' tk hx ho hs' hT hsz hk => ?_
    refine ⟨_, rfl, wpAny_letOwnedTupleGo_enum (s := { s with heap := h', toks := tk + 1 }) ho fun h'' he' sb => ?_⟩
    have hT2 : h''.get? s.heap.objs.size = some { cls := .type "tuple", data := .seq #[.int i tk, x] } := (sb.2 _ (Nat.ne_of_gt hel)).trans hT
    have hit2 : h''.IsTupleIter it a (i + 1) := hs'.1.at fun o q => (sb.2 it (Ne.symm hne)).trans q
    obtain ⟨y, hy, ry⟩ : ∃ y, xs[i]? = some y ∧ RelV y x := by
      obtain ⟨u, hu, ru⟩ := rv.get (List.getElem?_eq_getElem hi)
      have hx' : its[i]? = some x := by simpa using hx
      rw [hu] at hx'
      cases hx'
      exact ⟨_, List.getElem?_eq_getElem hi, ru⟩
    have new : ObjOk X.prog X.w (upd H s.heap.objs.size (.tup [.int (i : Nat), y])) h'' s.heap.objs.size (.tup [.int (i : Nat), y]) :=
      ⟨by show 2 ≤ sizeLine; decide, [.int i tk, x], .cons ⟨_, rfl⟩ (.cons ry .nil), ⟨_, hT2, rfl, _, rfl⟩⟩
    have I1 : Inv X pins σ (upd H s.heap.objs.size (.tup [.int (i : Nat), y])) { s with heap := h'', toks := tk + 1 } :=
      I.turnedNew (ch := [e, it]) (fun b ob hb q => (sb.2 b (fun z => hb (by simp [z]))).trans (hk b ob (fun z => hb (by simp [z])) (fun z => hb (by simp [z])) q)) hf (Nat.le_refl _) new
    refine ⟨.ref s.heap.objs.size, _, I1, rfl, ⟨_, y, rfl, I.hok.fresh (Nat.le_refl _), rfl, fun ys h2 => by rw [I.tuple_inj h2 hq]; exact hy⟩, ⟨⟨x, ?_⟩, hit2⟩, fun b hb => ?_⟩
    · have e1 : ((i + 1 : Nat) : Int) = (i : Int) + 1 := by omega
      rw [e1]
      exact he'
    · have hb' : b < s.heap.objs.size := by
        rcases (by simpa using hb : b = e ∨ b = it) with z | z
        · rw [z]; exact hel
        · rw [z]; exact hil
      rw [upd_ne (Nat.ne_of_lt hb')]
      exact (hf b hb).1
  done := by
    intro X hP hw hK hc i pins s σ H E I hf st hg
    subst hP hw hK
    obtain ⟨⟨old, he⟩, hit⟩ := st
    obtain ⟨xs, hq, hx⟩ := hg
    obtain ⟨its, rv, p, hz⟩ := I.tuple hq
    obtain ⟨f0, f1, f2, f3, f4, f5⟩ := hf it (by simp)
    have hl := rv.length
    have ei : i = its.toArray.size := by simp; omega
    subst ei
    have Dr := Draws.tuple (prog := X.prog) (w := X.w) (A := X.A.in1) (show X.A.in1.handled = none from I.ok.hd hc) it a hat its.toArray
    exact wpAny_pyNext_enum_endD Dr he ⟨hit, p⟩ fun h' eb => ⟨rfl, I.turned (t' := s.toks) (fun b o hb q => eb b o hb q) f0 f1 f3 f4 f5⟩
  self := fun A i s Q E st h => let ⟨⟨_, he⟩, _⟩ := st; wpAny_pyIter_enum he h
/-- enumerate(e), e a list or a tuple -/
def iEnumA (K : PySem.W.Frag) (ta : TA) : TI := fun σ H R => ta σ H fun vs H1 => ∃ a xs, vs = [.ref a] ∧ ((SqL K H1 a xs ∧ R (Ite K a) H1) ∨ (SqT K H1 a xs ∧ R (IteT K a) H1))
theorem pi_enumA {X : Cx} {e : Expr} {ta : TA} {p pos tpos : Pos} {elts : List Expr} {kk : Nat} (hg : Gl X "enumerate") (hm : X.mg "enumerate" = none) (ha : PA X [e] ta) (hs : starEach [e] X.env = [(false, eval e X.env)] := by rfl) :
    PI X (.Tuple elts kk tpos) (.Call (.Name "enumerate" p) [e] [] pos) (iEnumA X.K ta) := by
  refine ⟨fun pins s σ H R I h => ?_⟩
  refine Call_ (ld_blt I hg hm boot_enumerate (PyProof.Rows.callWith_type1 (thn (ha.run pos pins s σ H _ I h) fun us s1 ⟨vs, H1, I1, r1, a, xs, ex, q1⟩ => ?_) hs rfl))
  subst ex
  cases r1 with
  | cons r rr =>
    cases rr
    cases r
    have low : ∀ b : Addr, b ∈ [s1.heap.objs.size + 1, s1.heap.objs.size] → s1.heap.objs.size ≤ b := fun b hb => by
      rcases (by simpa using hb : b = s1.heap.objs.size + 1 ∨ b = s1.heap.objs.size) with z | z
      · rw [z]; exact Nat.le_add_right _ _
      · rw [z]; exact Nat.le_refl _
    rcases q1 with ⟨hq, q⟩ | ⟨hq, q⟩
    · obtain ⟨its, rv, p', hz⟩ := I1.list hq
      refine enum_made (begins_list a its.toArray) p'.isList fun h' he hit hk => wpAny_pyIter_enum he ?_
      exact ⟨s1.heap.objs.size + 1, [s1.heap.objs.size + 1, s1.heap.objs.size], _, _, H1, rfl, I1.kept (t' := s1.toks) hk, turn_enum a (s1.heap.objs.size + 1) s1.heap.objs.size, ⟨⟨.none, he⟩, ⟨_, hit, rfl, rfl⟩, Nat.succ_ne_self _⟩, fun b hb => I1.fpOk (low b hb) (I1.hok.fresh (low b hb)), q⟩
    · obtain ⟨its, rv, p', hz⟩ := I1.tuple hq
      have hal : a < s1.heap.objs.size := by obtain ⟨_, z, _⟩ := p'; exact Heap.lt_size z
      refine enum_made (begins_tuple a its.toArray) p' fun h' he hit hk => wpAny_pyIter_enum he ?_
      exact ⟨s1.heap.objs.size + 1, [s1.heap.objs.size + 1, s1.heap.objs.size], _, _, H1, rfl, I1.kept (t' := s1.toks) hk, turn_enumT a (s1.heap.objs.size + 1) s1.heap.objs.size (Nat.succ_ne_self _) (Nat.ne_of_lt hal), ⟨⟨.none, he⟩, ⟨_, hit, rfl, rfl⟩⟩, fun b hb => I1.fpOk (low b hb) (I1.hok.fresh (low b hb)), q⟩
theorem walk_enumT {K : PySem.W.Frag} {a : Addr} {xs : List V} : Walk (IteT K a) xs.length (fun H => SqT K H a xs) (YPair (fun i => some (.int (i : Nat))) (fun i => xs[i]?)) := by
  refine ⟨fun i H hi q => ⟨xs, q, hi⟩, fun H q => ⟨xs, q, rfl⟩, fun i H v H' _ q y => ?_⟩
  obtain ⟨T, x, h1, h2, h3, h4⟩ := y
  exact ⟨T, .int (i : Nat), x, h1, h2, h3, rfl, h4 xs q⟩
end Ask

/-! several clauses «except X as n» behind one try -/
namespace Ask
open PySem L2 PySem.Spec PyProof.Rows
/-- an error a that the frame of X has caught, with all that stood -/
structure Down (X : Cx) (pins : List (Addr × Obj)) (σ : L2.St) (H : Hp) (sI : Shared) (B : Heap) (a : Addr) (cls : Value) (d : Option Addr) (s : Shared) : Prop where
  fl : HandSPX.FlyingZ B (X.env :: X.outer) a (Zc cls d) s.heap
  inv : Inv X pins σ H sI
  nb : ∀ b o, sI.heap.get? b = some o → b ∉ frs X.stack → B.get? b = some o
  up : sI.heap.UpToSlots s.heap
  os : s.os = sI.os
  ag : AllBare s.gens
  na : H a = none
section
variable {X : Cx} {pins : List (Addr × Obj)} {σ : L2.St} {H : Hp} {sI s : Shared} {B : Heap} {a : Addr} {cls : Value} {d : Option Addr}
theorem Down.now (w : Down X pins σ H sI B a cls d s) : Inv X pins σ H s := w.inv.landed w.nb w.fl.1 w.up w.os w.ag
theorem Down.apart (w : Down X pins σ H sI B a cls d s) (hf : X.env.frame = some X.env.locals) : ∃ oe vs, s.heap.get? a = some oe ∧ Zc cls d oe ∧ oe.data = .fields vs ∧ a ≠ X.env.locals ∧ a ∉ X.fs := by
  obtain ⟨oe, vs, e, z, dd⟩ := w.fl.there
  have out : a ∉ frs (X.env :: X.outer) := fun hm => by
    obtain ⟨_, o2, e2, no⟩ := w.fl.2.2.1.mem hm
    rw [e] at e2
    cases e2
    exact no _ dd
  refine ⟨oe, vs, e, z, dd, fun q => out (List.mem_filterMap.mpr ⟨X.env, List.mem_cons_self, by rw [hf, q]⟩), fun hm => ?_⟩
  obtain ⟨v, hv, q⟩ := List.mem_filterMap.mp hm
  exact out (List.mem_filterMap.mpr ⟨v, List.mem_cons_of_mem _ hv, q⟩)
end
/-- what the clauses hds make of it, if W is wished for -/
def Hands (X : Cx) (D : Ends) (hds : List ExceptHandler) (W : WX) : Prop := ∀ (pins : List (Addr × Obj)) (σ : L2.St) (H : Hp) (sI s : Shared) (B : Heap) (a : Addr) (cls : Value) (d : Option Addr),
  Down X pins σ H sI B a cls d s → W cls d σ H → wpAny (model X.prog X.w) X.A (handleBy (.ref a) X.env hds) (SP X pins D) X.xe s
section
variable {X : Cx} {D : Ends} {hds : List ExceptHandler} {W : WX}
theorem hands_nil (hs : X.stack = X.env :: X.outer) (hf : X.env.frame = some X.env.locals) (tk : Takes X W) : Hands X D [] W := by
  intro pins σ H sI s B a cls d w q
  refine wpAny_handleBy_nil ?_
  obtain ⟨_, _, _, _, _, T, _, _, e, _, dd, e1, _⟩ := id w.fl
  unfold PySem.passOn
  refine wpAny_bind (wpAny_field e dd e1 ?_)
  rw [if_neg (show ¬ ((Value.ref T == Value.none) = true) from by simp)]
  have on : wpAny (model X.prog X.w) X.A (setFlight (.ref a) X.env.frame) (fun _ s4 => wpAny (model X.prog X.w) X.A (throw (.ref a) : Sem Flow) (SP X pins D) X.xe s4) X.xe s := by
    rw [hf]
    exact HandSPX.setFlight_upZ w.fl fun h4 held up4 => wpAny_throw (tk _ _ ⟨a, B, sI, pins, σ, H, cls, d, rfl, w.inv, w.nb, w.up.trans up4, .inr (.inr (by rw [hs]; exact held)), w.na, w.os, w.ag, q⟩)
  first
    | exact wpAny_bind (wpAny_pure (wpAny_bind on))
    | exact wpAny_bind on
theorem hands_as {x n : Str} {c : Value} {i : Nat} {suite : List Stmt} {b₀ : Stmt} {np pos' : Pos} {ts : Addr → Value → Option Addr → TS}
    (hf : X.env.frame = some X.env.locals) (hN : X.N.Nodup) (hi : X.N[i]? = some n) (hl : X.env.kindOf n = some .local) (hc : Names X x c)
    (su : ∀ (a : Addr) (oe : Obj) (cls : Value) (d : Option Addr) (pn : List (Addr × Obj)), Zc cls d oe → (∃ vs, oe.data = .fields vs) → PSs (X.suite a ((a, oe) :: pn)) (b₀ :: suite) (ts a cls d))
    (rest : Hands X D hds W) : Hands X D (.ExceptHandler (some (.Name x np)) (some n) (b₀ :: suite) pos' :: hds) (wAs X.K c i ts W D) := by
  intro pins σ H sI s B a cls d w q
  obtain ⟨b, hb, yes, no⟩ := q
  have J := w.now
  have ok := J.ok
  obtain ⟨oe, vs, he, hz, hd, nL, nF⟩ := w.apart hf
  have S := J.suite he hd w.na nL nF
  refine wpAny_handleBy_cons (codeAny_handlers_test ?_) (by intro z; cases z)
  have ty : PySem.W.Looks (model X.prog X.w) s.heap (typeOf (.ref a)) cls := fun A Q E s' k z => wpAny_typeOf_ref (k _ _ he) (by rw [hz.1]; exact z)
  have isIt := PySem.W.exm_one (M := model X.prog X.w) J.kIn ty hb
  have named : ∀ {Q : Value → Shared → Prop} {E : Value → Shared → Prop}, Q c s → wpAny (model X.prog X.w) (X.A.mark (some (.ref a))) (eval (.Name x np) X.env) Q E s := fun {Q E} z => by
    obtain ⟨g, dbg, m | ⟨m, bt, nn⟩⟩ := hc
    · exact ld_glob (X := X.suite a ((a, oe) :: (X.pn ++ pins))) S g m z dbg
    · exact ld_blt (X := X.suite a ((a, oe) :: (X.pn ++ pins))) S g m bt z nn dbg
  refine named (isIt.here ?_)
  cases b with
  | false => exact rest pins σ H sI s B a cls d w (no rfl)
  | true =>
    refine codeAny_handlers_suite_as (HandSPX.lands_againZ w.fl fun h4 fl4 up4 => ?_)
    have w4 : Down X pins σ H sI B a cls d { s with heap := h4 } := ⟨fl4, w.inv, w.nb, w.up.trans up4, w.os, w.ag, w.na⟩
    obtain ⟨oe4, vs4, he4, hz4, hd4, nL4, nF4⟩ := w4.apart hf
    have S4 := w4.now.suite he4 hd4 w.na nL4 nF4
    refine store_ok (X := X.suite a ((a, oe4) :: (X.pn ++ pins))) (v := .ref a) S4 hN hi (.inl hl) rfl (fun s5 S5 => ?_) (.inr hl)
    refine wpAny_mono ((su a oe4 cls d (X.pn ++ pins) hz4 ⟨_, hd4⟩).run [] s5 _ H _ S5 (yes rfl a w.na)) (fun f s6 got => ?_) (fun _ _ z => False.elim z)
    have away : ∀ {σ6 : L2.St} {H6 : Hp} {Q : Shared → Prop}, Inv (X.suite a ((a, oe4) :: (X.pn ++ pins))) [] σ6 H6 s6 → (∀ s7, Inv X pins (σ6.set i none) H6 s7 → Q s7) →
        wpAny (model X.prog X.w) X.A (do bindName X.env n .none; unbindBehindTheSuite X.env n pos') (fun _ s7 => Q s7) X.xe s6 := fun {σ6 H6 Q} S6 z => gone_ok (S6.unsuite ok) hN hi hl z
    cases f with
    | ret u => obtain ⟨v, σ6, H6, S6, r, z⟩ := got; exact away S6 fun s7 J7 => ⟨_, _, _, J7, r, z⟩
    | next => obtain ⟨σ6, H6, S6, z⟩ := got; exact away S6 fun s7 J7 => ⟨_, _, J7, z⟩
    | brk => obtain ⟨σ6, H6, S6, z⟩ := got; exact away S6 fun s7 J7 => ⟨_, _, J7, z⟩
    | cont => obtain ⟨σ6, H6, S6, z⟩ := got; exact away S6 fun s7 J7 => ⟨_, _, J7, z⟩
/-- try: body / the clauses -/
theorem ps_try_hands {body : List Stmt} {h₀ : ExceptHandler} {pos : Pos} {tb : WX → TS} {Wf : Ends → WX} (hs : X.stack = X.env :: X.outer) (hf : X.env.frame = some X.env.locals)
    (hb : ∀ (W : WX) (pn : List (Addr × Obj)) (xe : Value → Shared → Prop), Takes (X.tr pn xe) W → PassesOwn (model X.prog X.w) X.A X.env xe → PSs (X.tr pn xe) body (tb W))
    (hh : ∀ D, Hands X D (h₀ :: hds) (Wf D)) : PS X (.Try body (h₀ :: hds) [] [] pos) (fun D σ H => tb (Wf D) D σ H) := by
  refine ⟨fun pins s σ H D I h => ?_⟩
  have ok := I.ok
  have fr : X.A.frames = some (X.env :: X.outer) := by rw [ok.frames, hs]
  let after : Value → Shared → Prop := fun e s1 => wpAny (model X.prog X.w) X.A (noteFrame e X.env) (fun _ s2 => wpAny (model X.prog X.w) X.A (setFlight e none) (fun _ s3 => wpAny (model X.prog X.w) X.A (handleBy e X.env (h₀ :: hds)) (SP X pins D) X.xe s3) X.xe s2) X.xe s1
  have taken : Takes (X.tr (X.pn ++ pins) after) (Wf D) := fun u s1 xx => by
    obtain ⟨a, B, sI, pins1, σ1, H1, cls, d, rfl, J, nb, up, sky, na, os, ag, q⟩ := xx
    have sky1 : Sky B (X.env :: X.outer) a (Zc cls d) X.env.locals s1.heap := by rw [← hs]; exact sky
    exact Sky.land Zc.steady fr hf sky1 fun h3 fl3 up3 => hh D pins σ1 H1 sI { s1 with heap := h3 } B a cls d ⟨fl3, J.ofTry ok, nb, up.trans up3, os, ag, na⟩ q
  refine wpAny_Try_except (wpAny_mono ((hb (Wf D) (X.pn ++ pins) after taken PassesOwn.looking).run [] s σ H D (I.toTry _) h) (fun f s1 got => ?_) fun _ _ z => z)
  cases f with
  | ret u => obtain ⟨v, σ1, H1, J, r, z⟩ := got; exact ⟨v, σ1, H1, J.ofTry ok, r, z⟩
  | next => obtain ⟨σ1, H1, J, z⟩ := got; exact wpAny_execs_nil ⟨σ1, H1, J.ofTry ok, z⟩
  | brk => obtain ⟨σ1, H1, J, z⟩ := got; exact ⟨σ1, H1, J.ofTry ok, z⟩
  | cont => obtain ⟨σ1, H1, J, z⟩ := got; exact ⟨σ1, H1, J.ofTry ok, z⟩
end
end Ask

namespace Ask
open PySem L2 PySem.Spec PyProof.Rows
/-! ### repr of a list or tuple of data; a text times a number -/
def rRepr (K : PySem.W.Frag) : List V → Hp → VK → Prop := fun xs H Q => ∃ (a : Addr) (d : PyData), xs = [.ref a] ∧ Dp K H (.ref a) d ∧ d.showable = true ∧ d.hasDict = false ∧ d.depth ≤ 30 ∧ d.shown.length ≤ sizeLine ∧ Q (.str d.shown) H
theorem call_reprD {X : Cx} (hg : X.A.guards = some []) (hu : X.A.units + 64 < cLine) : CallR X (.builtin "repr") (rRepr X.K) := by
  intro pins s σ H xs us Q I r h
  obtain ⟨a, d, rfl, hd, sh, nd, dp, sz, q⟩ := h
  obtain ⟨u, rfl, ra⟩ := vals1 r
  obtain rfl : u = Value.ref a := ra
  obtain ⟨as, rd⟩ := Dp.reads I d _ _ hd rfl
  refine repr_of_reads' rd sh (fun z => by rw [nd] at z; cases z) hg (by omega) (fun _ _ e => e) (fun h' t tk k => ?_) sz
  exact ⟨.str d.shown, H, I.kept (t' := tk) k, ⟨t, rfl⟩, q⟩
def repS (x : Str) (n : Nat) : Str := ⟨(List.replicate n x.cps).foldl (· ++ ·) #[]⟩
theorem rep_size (x : Array Nat) : ∀ (n : Nat) (acc : Array Nat), ((List.replicate n x).foldl (· ++ ·) acc).size = acc.size + n * x.size
  | 0, acc => by simp
  | n + 1, acc => by
    rw [List.replicate_succ, List.foldl_cons, rep_size x n, Array.size_append, Nat.succ_mul]
    omega
theorem repS_len (x : Str) (n : Nat) : (repS x n).length = n * x.length := by
  show ((List.replicate n x.cps).foldl (· ++ ·) #[]).size = _
  rw [rep_size]
  show 0 + n * x.length = _
  omega
theorem op_mul_str {X : Cx} : OpR X (binaryOp .Mult) (fun x y H Q => ∃ (z : Str) (n : Int), x = .str z ∧ y = .int n ∧ 2 ≤ n ∧ n ≤ 1000 ∧ 1 ≤ z.length ∧ z.length ≤ 1000 ∧ Q (.str (repS z n.toNat)) H) := by
  intro pins s σ H x y v u Q I rx ry h
  obtain ⟨z, n, rfl, rfl, n0, n1, z0, z1, q⟩ := h
  obtain ⟨t, rfl⟩ := rx
  obtain ⟨t2, rfl⟩ := ry
  have zl : (z.length == 0) = false := by
    have : z.length ≠ 0 := by omega
    simpa using this
  have nl : (n == 1) = false := by
    have : n ≠ 1 := by omega
    simpa using this
  refine P.mul_str (by rw [decide_eq_false (by omega), decide_eq_false (by omega)]; rfl) (fun _ _ z => ?_) (fun _ _ => ?_) ?_
  · have e : (2 ^ 63 - 1) / (1000 : Int) ≤ (2 ^ 63 - 1) / n := by
      refine Int.le_ediv_of_mul_le (by omega) ?_
      have h1 : (2 ^ 63 - 1) / (1000 : Int) * n ≤ (2 ^ 63 - 1) / (1000 : Int) * 1000 := Int.mul_le_mul_of_nonneg_left n1 (by decide)
      have h2 : (2 ^ 63 - 1) / (1000 : Int) * 1000 ≤ 2 ^ 63 - 1 := by decide
      omega
    have e2 : (1000 : Int) ≤ (2 ^ 63 - 1) / (1000 : Int) := by decide
    omega
  · have e : z.length * n.toNat ≤ 1000 * 1000 := Nat.mul_le_mul z1 (by omega)
    have e2 : 1000 * 1000 ≤ sizeLine := by decide
    show decide (z.length * n.toNat > sizeLine) = false
    exact decide_eq_false (by omega)
  · rw [if_neg (by omega), if_neg (by rw [nl, zl]; exact Bool.false_ne_true)]
    refine ⟨?_, ?_⟩
    · show (repS z n.toNat).length ≤ sizeLine
      rw [repS_len]
      have e : z.length * n.toNat ≤ 1000 * 1000 := Nat.mul_le_mul z1 (by omega)
      have e2 : 1000 * 1000 ≤ sizeLine := by decide
      rw [Nat.mul_comm]
      omega
    · exact ⟨.str (repS z n.toNat), H, I.tok _, ⟨_, rfl⟩, q⟩
end Ask

namespace Ask
open PySem L2 PySem.Spec PyProof.Rows
/-! ### a def's body at one surrounding, the law's call from the outside (where it is known that no repr is under way) -/
theorem fn_run {CX : CXT} {P : Program} {w : World} {K : PySem.W.Frag} {mg : Str → Option Value} {base : Heap} {k : Nat} {f : Addr} {x qual : Str} {st : Stmt} {fd : FuncData} {N ps : List Str} {A : Around} {outer : List Env} {s : Shared} {H : Hp} {args : Args} {us : List Value} {vs : List V} {Q : VK} {E : XK}
    (F : Fun K x qual st f fd) (S : FnScope N ps (defScope st)) (hr : Room (k + 1) A) (e0 : Env0 P w K mg base A outer s H) (bind : BindsTo s fd args (ps.zip us)) (r : Vals vs us) (hl : vs.length = ps.length)
    (body : ∀ cdv : Value, Room k (A.deeper (envOfC qual (defScope st) s.heap.objs.size f cdv)) → ∃ t, PSs (cxOf CX P w K mg base N qual (defScope st) f cdv A outer s H E) (defBody st) t ∧ t { nx := fun _ H' => Q .non H', rt := Q } (start N vs) H) :
    codeAny (model P w) A (.call (.ref f) args) (CR CX outer P w H s Q E) s := by
  obtain ⟨oc, od, kV, doc, pm, an, cdv, ct, osl, rfl, lk, hcd⟩ := F.ex
  have here : ∀ b o, base.get? b = some o → s.heap.get? b = some o := fun b o e => (e0.bs b o e).1
  have inK : K.In s.heap := e0.mod.kin.keeps here
  refine codeAny_call_function hr.depth (inK _ _ lk) rfl S.co S.gen rfl (PySem.W.codeRec_of inK hcd) (bind _ _ _ _ ?_)
  refine wpAny_newFunctionEnv_cells S.kind (fun ⟨n, v⟩ hy => ?_) fun env he s1 x1 => ?_
  · rcases S.par n (List.of_mem_zip hy).1 with q | q
    · exact .inl q
    · exact .inr ⟨q, PySem.W.cellsFrom_some _ _ _ (.inl q)⟩
  subst he
  refine ⟨(e0.mod.nolimit.keeps here).keeps x1.toInCall.keep, codeAny_func ?_⟩
  obtain ⟨t, ht, hq⟩ := body cdv (hr.deeper _)
  refine wpAny_mono (ht.run [] s1 (start N vs) H _ (inv_start S hr.hd e0 hl r x1) hq) (fun fl s' got => ?_) fun _ _ z => z
  cases fl with
  | ret u => obtain ⟨v, _, H', J, rv, z⟩ := got; exact ⟨v, H', J.os, J.bare, J.base, J.hok, rv, z⟩
  | next => obtain ⟨_, H', J, z⟩ := got; exact ⟨V.non, H', J.os, J.bare, J.base, J.hok, rfl, z⟩
  | brk => obtain ⟨_, _, _, z⟩ := got; exact False.elim z
  | cont => obtain ⟨_, _, _, z⟩ := got; exact False.elim z
/-- the script's own cell, locked; nothing else is tracked -/
def lone (a : Addr) (vs : List Value) (ns : List Int) : Hp := fun b => if b = a then some (.frz { cls := .type "list", data := .seq vs.toArray } (.lst (ns.map V.int))) else none
theorem law_at {P : Program} {w : World} {K : PySem.W.Frag} {mg mb : Str → Option Value} {fa a : Addr} {s₁ : Shared} {vs : List Value} {ns : List Int}
    (inK : K.In s₁.heap) (gl : s₁.heap.Ns mainGlobals mg) (bl : s₁.heap.Ns builtinsNs mb) (bt : ∀ x : Str, x ≠ "__name__" → mb x = bootBuiltins x) (lim : s₁.heap.NoLimit) (gs : s₁.gens = #[])
    (ha : s₁.heap.get? a = some { cls := .type "list", data := .seq vs.toArray }) (hi : IntsAre vs ns) (hl : ns.length ≤ sizeLine)
    (run : ∀ (base : Heap) (H : Hp), K.In base → base.Ns mainGlobals mg → Env0 P w K mg base callerA [] s₁ H → SqL K H a (ns.map V.int) →
      codeAny (model P w) callerA (.call (.ref fa) ⟨[.ref a], []⟩) (CR CX0 [] P w H s₁ (fun v _ => v = .bl true) E0) s₁) :
    codeAny (model P w) callerA (.call (.ref fa) ⟨[.ref a], []⟩) (fun r s' => r = .ok (.ret (.bool true)) ∧ OldK s₁.heap s'.heap ∧ s'.os = s₁.os ∧ AllBare s'.gens) s₁ := by
  have nums : Vals (ns.map V.int) vs := vals_ints hi
  have from_ : ∀ H : Hp, (∀ b, H b = none ∨ ∃ o xs, H b = some (.frz o (.lst xs))) → (∀ b u, H b = some u → b = a ∧ K.lookup a = none) → SqL K H a (ns.map V.int) → HOk P w H s₁.heap →
      codeAny (model P w) callerA (.call (.ref fa) ⟨[.ref a], []⟩) (fun r s' => r = .ok (.ret (.bool true)) ∧ OldK s₁.heap s'.heap ∧ s'.os = s₁.os ∧ AllBare s'.gens) s₁ := by
    intro H frz atA sq ok
    have free : ∀ {b : Addr}, b ≠ a → H b = none := fun {b} ne => by
      cases q : H b with
      | none => rfl
      | some u => exact absurd (atA b u q).1 ne
    have nsB : ∀ {b : Addr} {m : Str → Option Value}, s₁.heap.Ns b m → (hidT s₁.heap H).Ns b m := fun {b m} ⟨o, es, ep, e, dd, z⟩ => ⟨o, es, ep, hidT_get e (free fun q => by
      rw [q, ha] at e
      cases e
      have dd' : Data.seq vs.toArray _ = Data.dict es ep := dd
      cases dd'), dd, z⟩
    have kB : K.In (hidT s₁.heap H) := fun b o e => hidT_get (inK b o e) (by
      cases q : H b with
      | none => rfl
      | some u =>
        obtain ⟨rfl, no⟩ := atA b u q
        rw [no] at e
        cases e)
    obtain ⟨mc, l1, l2⟩ := lim
    have e0 : Env0 P w K mg (hidT s₁.heap H) callerA [] s₁ H :=
      ⟨rfl, ⟨kB, nsB gl, ⟨mb, nsB bl, bt⟩, ⟨mc, nsB l1, l2⟩⟩, fun b o e => of_hidT e, Nat.le_of_eq (hidT_size _ _), trivial, (fun b hb => absurd (show b ∈ ([] : List Addr) from hb) (by simp)), ok, .of_eq gs⟩
    refine codeAny_mono (run _ H kB (nsB gl) e0 sq) fun r s' z => ?_
    match r, z with
    | .error e, z => exact False.elim z
    | .ok .next, z => exact False.elim z
    | .ok .brk, z => exact False.elim z
    | .ok .cont, z => exact False.elim z
    | .ok (.ret u), z =>
      obtain ⟨v, H', os, bare, un, ok', rv, q⟩ := z
      have q : v = .bl true := q
      subst q
      obtain rfl : u = Value.bool true := rv
      refine ⟨rfl, OldK.of_keep fun b o e => ?_, os, bare⟩
      rcases frz b with n | ⟨ob, xs, y⟩
      · exact un.keep b o e n (by intro z; exact absurd (show b ∈ ([] : List Addr) from z) (by simp)) (by simp)
      · obtain ⟨e1, _⟩ := ok b _ y
        obtain ⟨e2, _⟩ := ok' b _ (un.frzs b ob _ y)
        rw [e] at e1
        cases e1
        exact e2
  cases hk : K.lookup a with
  | none =>
    have at_ : lone a vs ns a = some (.frz { cls := .type "list", data := .seq vs.toArray } (.lst (ns.map V.int))) := if_pos rfl
    have off : ∀ {b : Addr}, b ≠ a → lone a vs ns b = none := fun {b} ne => if_neg ne
    refine from_ (lone a vs ns) (fun b => ?_) (fun b u z => ?_) (.inl (.inr ⟨_, at_⟩)) (fun b u z => ?_)
    · by_cases h : b = a
      · exact .inr ⟨_, _, by rw [h]; exact at_⟩
      · exact .inl (off h)
    · by_cases h : b = a
      · exact ⟨h, hk⟩
      · rw [off h] at z
        cases z
    · by_cases h : b = a
      · subst h
        rw [at_] at z
        cases z
        exact ⟨ha, by rw [List.length_map]; exact hl, vs, _, nums, ha⟩
      · rw [off h] at z
        cases z
  | some o =>
    have e := inK a o hk
    rw [ha] at e
    cases e
    refine from_ (fun _ => none) (fun _ => .inl rfl) (fun b u z => by cases z) (.inr ⟨_, vs.toArray, _, hk, rfl, rfl, rfl, ?_, by simpa using nums⟩) (fun b u z => by cases z)
    rw [List.size_toArray, hi.length]
    exact hl
end Ask

namespace Ask
open PySem L2
theorem pe_gv {X : Cx} {x : Str} {v : V} {pos : Pos} (hg : Gl X x) (h : ∃ u, X.mg x = some u ∧ RelV v u) (hd : (x == ("__debug__" : Str)) = false := by decide) : PE X (.Name x pos) (tC v) := by
  obtain ⟨u, hm, r⟩ := h
  exact pe_glob hg hm r hd
theorem Same.upd_new {H H' : Hp} {p : Addr} {o : HO} (s : Same H H') (h : H p = none) : Same H (upd H' p o) := fun b u e => by
  rw [upd_ne (ne_of_none e h)]
  exact s b u e

/-! ### letters, by their signs -/
def smallL : List Nat := small.cps.toList
def signsL : List Nat := signs.cps.toList
def shortL (l : List Nat) : Bool := decide (1 ≤ l.length ∧ l.length ≤ 12) && (match l.head? with | some c => decide (c ∈ smallL) | none => false) && l.all (fun c => decide (c ∈ signsL))
def wordOf (l : List Nat) : List Nat := if l.head? = some 126 then l.drop 1 else l
def newW : Str := "new"
def foundW : Str := "found"
def goodW (z : Str) : Bool := shortL z.cps.toList && !(decide (newW = z) || decide (foundW = z))
def wordS (z : Str) : Str := ⟨(wordOf z.cps.toList).toArray⟩
def isLs (z : Str) : Bool := goodW (wordS z)
def isL : PyData → Bool
  | .str z => isLs z
  | _ => false
/-- the values that the lists of the law hold -/
def Itm (d : PyData) : Prop := d = .none ∨ d = .bool true ∨ d = .int 7 ∨ ∃ z : Str, z.length ≤ 500 ∧ Asc z ∧ (d = .str z ∨ d = .list [.str z] ∨ d = .tuple [.str z])
def isStrD : PyData → Bool
  | .str _ => true
  | _ => false
section
variable {K : PySem.W.Frag} {H : Hp} {v : V} {d : PyData}
theorem ty_list {a : Addr} {xs : List V} (h : SqL K H a xs) : TyX K H (.ref a) (.type "list") := by
  rcases h with (h | ⟨o, h⟩) | ⟨o, _, _, h, c, _⟩
  · exact .base (.lst h)
  · exact .base (.frz h)
  · exact .kList h c
theorem ty_tup {a : Addr} {xs : List V} (h : SqT K H a xs) : TyX K H (.ref a) (.type "tuple") := by
  rcases h with (h | ⟨o, h⟩) | ⟨o, _, _, h, c, _⟩
  · exact .base (.tup h)
  · exact .fTuple h
  · exact .kTuple h c
/-- isinstance(value, str) -/
theorem isi_str (h : Dp K H v d) (hi : Itm d) : ∃ t : Value, TyX K H v t ∧ PySem.W.kitOne K t (.type "str") = some (isStrD d) := by
  rcases hi with rfl | rfl | rfl | ⟨z, _, _, rfl | rfl | rfl⟩
  · cases h
    exact ⟨_, .base .non, kit_ty (by decide +kernel)⟩
  · cases h
    exact ⟨_, .base (.bl _), kit_ty (by decide +kernel)⟩
  · cases h
    exact ⟨_, .base (.int _), kit_ty (by decide +kernel)⟩
  · cases h
    exact ⟨_, .base (.str _), kit_ty (by show kitB "str" "str" = some true; decide +kernel)⟩
  · cases h with
    | lst hs _ => exact ⟨_, ty_list hs, kit_ty (by show kitB "list" "str" = some false; decide +kernel)⟩
  · cases h with
    | tup hs _ => exact ⟨_, ty_tup hs, kit_ty (by show kitB "tuple" "str" = some false; decide +kernel)⟩
end
theorem tl_len (z : Str) : z.cps.toList.length = z.length := by simp [Str.length]
/-- the constants of the package's text -/
structure Gv (K : PySem.W.Frag) (mg : Str → Option Value) : Prop where
  small : ∃ u, mg "SMALL_LETTERS" = some u ∧ RelV (.str small) u
  signs : ∃ u, mg "WORD_SIGNS" = some u ∧ RelV (.str signs) u
  most : ∃ u, mg "MOST_SIGNS" = some u ∧ RelV (.int 12) u
  begins : ∃ (t : Addr) (u : Value), mg "BEGINNINGS" = some u ∧ RelV (.ref t) u ∧ ∀ H, SqT K H t [.str newW, .str foundW]
  mostL : ∃ u, mg "MOST_LETTERS" = some u ∧ RelV (.int 12) u
section
variable {P : Program} {w : World} {K : PySem.W.Frag} {mg : Str → Option Value} {base : Heap}
/-! ### is_short_word -/
def spShort : Sp := fun vs H Q _ => ∃ z : Str, vs = [.str z] ∧ z.length ≤ 500 ∧ ∀ H', Same H H' → Q (.bl (shortL z.cps.toList)) H'
abbrev s_is_short_word : Stmt := top 7
theorem sc_is_short_word : FnScope ["value", "sign"] ["value"] (defScope s_is_short_word) := ⟨rfl, rfl, rfl, by decide +kernel, rfl, by decide +kernel, by decide +kernel⟩
theorem ok_short {f : Addr} {fd : FuncData} (F : Fun K "is_short_word" "is_short_word" s_is_short_word f fd) (T : Blt mg) (C : Gv K mg) : FnOk P w K mg base CX0 1 f fd ["value"] spShort := by
  refine F.ok sc_is_short_word (fun vs H Q E h => ?_) (fun cdv A outer s H vs Q E hr h => ?_)
  · obtain ⟨z, rfl, _⟩ := h
    rfl
  · obtain ⟨z, rfl, hz, k⟩ := h
    refine ⟨_, (pss_cons (ps_if (PW.pt (pw_or (pt_not (pt_val (pe_callB call_isi (by rfl) T.n_isinstance (by decide +kernel) (pa_cons (pv 0) (pa_cons (pe_bltn (v := .ty "str") (u := .type "str") rfl T.n_str (by decide +kernel) rfl) pa_nil))))) (pw_or1 (pt_not (pt_chain op_le op_le pe_int (pe_callB call_len_str (by rfl) T.n_len (by decide +kernel) (pa_cons (pv 0) pa_nil)) (pe_gv rfl C.most)))))) (pss_one (ps_ret pe_bl)) pss_nil)
      (pss_one (ps_ret (pe_and (pe_cmpR op_in_sign (pe_ix ix_str (pv 0) pe_int (fun _ _ => rfl)) (pe_gv rfl C.small) rfl) (pe_one (pe_callB (cr_all rfl) (by rfl) T.n_all (by decide +kernel) (pa_cons (pe_lc (own := [("sign", 1)]) rfl sc_is_short_word.nd (pi_str (pv 0)) (blkOk_by (N := ["value", "sign"]) (sc := defScope s_is_short_word) (by decide +kernel)) (fun _ _ _ _ _ => (pg_name (i := 1) sc_is_short_word.nd rfl (Or.inl rfl))) (fun _ _ _ _ _ => pts_nil) (fun _ _ _ _ _ => (pe_cmpR op_in_sign (pv 1) (pe_gv rfl C.signs) rfl))) pa_nil))))))), ?_⟩
    have z1 : (1000 : Nat) ≤ sizeLine := by decide
    have hl := tl_len z
    refine ⟨_, rfl, _, _, _, _, true, rfl, .ty _, .base (.str _), kit_ty (by decide +kernel), _, rfl, ?_⟩
    refine iteF ⟨_, rfl, z, rfl, by omega, _, _, rfl, rfl, _, rfl, ite2 (fun h1 => ?_) (fun h1 => ?_)⟩
    · have h1 : (1 : Int) ≤ (z.length : Nat) := of_decide_eq_true h1
      refine ⟨_, _, rfl, rfl, _, rfl, ite2 (fun h2 => ?_) (fun h2 => ?_)⟩
      · have h2 : ¬ ((z.length : Nat) : Int) ≤ 12 := fun q => by
          rw [decide_eq_true q] at h2
          cases h2
        have e : shortL z.cps.toList = false := by
          unfold shortL
          rw [decide_eq_false (by omega)]
          rfl
        have := k H (Same.refl H)
        rw [e] at this
        exact this
      · have h2 : ((z.length : Nat) : Int) ≤ 12 := Decidable.byContradiction fun q => h2 (by rw [decide_eq_false q]; rfl)
        obtain ⟨c, r, ec⟩ : ∃ c r, z.cps.toList = c :: r := by
          cases e : z.cps.toList with
          | nil =>
            rw [e] at hl
            have : (0 : Nat) = z.length := hl
            omega
          | cons c r => exact ⟨c, r, rfl⟩
        refine ⟨_, rfl, z, 0, c, rfl, rfl, by omega, by rw [ec]; exact at_by (j := 0) rfl rfl, c, small, rfl, rfl, _, rfl, ite2 (fun h3 => ?_) (fun h3 => ?_)⟩
        · refine ⟨_, rfl, z, rfl, fun L hL => ?_⟩
          refine lc_it walk_str (fun i H' => Same H H' ∧ H' L = some (.lst (((z.cps.toList.take i).map fun c => decide (c ∈ signsL)).map V.bl))) ⟨Ask.Same.upd_new (Same.refl H) hL, upd_same⟩ (fun _ _ _ _ => trivial) (fun i x H1 H2 hi h1 y => ?_) (fun H1 h1 => ?_)
          · obtain ⟨rfl, c', hc', rfl⟩ := y
            obtain ⟨sm, hLL⟩ := h1
            refine ⟨rfl, _, rfl, c', signs, rfl, rfl, _, hLL, ?_, Ask.Same.upd_new sm hL, ?_⟩
            · rw [List.length_map, List.length_map, List.length_take]
              omega
            · rw [upd_same]
              have hc2 : z.cps.toList[i]? = some c' := by rw [Array.getElem?_toList]; exact hc'
              rw [List.take_add_one, hc2]
              simp only [Option.toList_some, List.map_append, List.map_cons, List.map_nil]
              rfl
          · obtain ⟨sm, hLL⟩ := h1
            refine ⟨L, _, rfl, SqL.of hLL, ?_⟩
            have e0 : z.cps.toList.take z.cps.size = z.cps.toList := List.take_of_length_le (by simp)
            rw [e0]
            have e : shortL z.cps.toList = (z.cps.toList.map fun c => decide (c ∈ signsL)).all id := by
              unfold shortL
              rw [decide_eq_true (by omega), ec]
              simp only [List.head?_cons, Bool.true_and]
              rw [show decide (c ∈ smallL) = true from h3, Bool.true_and, List.all_map]
              rfl
            have := k H1 sm
            rw [e] at this
            exact this
        · have e : shortL z.cps.toList = false := by
            unfold shortL
            rw [ec]
            simp only [List.head?_cons]
            rw [show decide (c ∈ smallL) = false from (Bool.not_eq_true _).mp h3, Bool.and_false, Bool.false_and]
          have := k H (Same.refl H)
          rw [e] at this
          exact this
    · have h1 : ¬ (1 : Int) ≤ (z.length : Nat) := fun q => h1 (decide_eq_true q)
      have e : shortL z.cps.toList = false := by
        unfold shortL
        rw [decide_eq_false (by omega)]
        rfl
      refine ⟨_, rfl, ite2 (fun _ => ?_) (fun q => absurd rfl q)⟩
      have := k H (Same.refl H)
      rw [e] at this
      exact this
end
end Ask

namespace Ask
open PySem L2
theorem str_ext {a b : Str} (h : a.cps.toList = b.cps.toList) : a = b := by
  obtain ⟨a⟩ := a
  obtain ⟨b⟩ := b
  have h : a.toList = b.toList := h
  rw [Array.toList_inj.mp h]
theorem starts_tilde (z : Str) : Txt.startswith z (Str.ofString "~") = decide (z.cps.toList.head? = some 126) := by
  obtain ⟨⟨l⟩⟩ := z
  unfold Txt.startswith Builtin.Str.subAt
  have e1 : (Str.ofString "~").cps = #[126] := by decide +kernel
  have e2 : (Str.ofString "~").length = 1 := by decide +kernel
  rw [e1, e2]
  cases l with
  | nil => rfl
  | cons c r =>
    have e3 : (⟨(c :: r)⟩ : Array Nat).extract 0 (0 + 1) = #[c] := by simp
    show (decide (0 + 1 ≤ (c :: r).length) && ((⟨(c :: r)⟩ : Array Nat).extract 0 (0 + 1) == #[126])) = decide (some c = some 126)
    rw [e3, decide_eq_true (by simp), Bool.true_and]
    by_cases h : c = 126
    · subst h
      rfl
    · rw [decide_eq_false (by intro q; exact h (Option.some.inj q))]
      simpa using h
theorem cut_rest (z : Str) : cutS z (some 1) none = ⟨(z.cps.toList.drop 1).toArray⟩ := by
  unfold cutS
  rw [show (some (1 : Int)) = some ((1 : Nat) : Int) from rfl, HT.sIx_nat, HT.sIx_none]
  have hl := tl_len z
  by_cases h : z.length = 0
  · have e : z.cps.toList = [] := List.length_eq_zero_iff.mp (by omega)
    rw [e]
    simp
  · have e : min 1 z.length = 1 := by omega
    rw [e, List.take_of_length_le (by rw [List.length_drop]; omega)]
theorem cut_head (z : Str) : cutS z none (some 1) = ⟨(z.cps.toList.take 1).toArray⟩ := by
  unfold cutS
  rw [show (some (1 : Int)) = some ((1 : Nat) : Int) from rfl, HT.sIx_nat, HT.sIx_none]
  have hl := tl_len z
  by_cases h : z.length = 0
  · have e : z.cps.toList = [] := List.length_eq_zero_iff.mp (by omega)
    rw [e]
    simp
  · have e : min 1 z.length = 1 := by omega
    rw [e, List.drop_zero]
theorem head_tilde (z : Str) : decide (V.str (cutS z none (some 1)) = V.str (Str.ofString "~")) = decide (z.cps.toList.head? = some 126) := by
  rw [cut_head]
  have e1 : (Str.ofString "~").cps.toList = [126] := by decide +kernel
  refine decide_eq_decide.mpr ⟨fun h => ?_, fun h => ?_⟩
  · have h2 : (⟨(z.cps.toList.take 1).toArray⟩ : Str) = Str.ofString "~" := V.str.inj h
    have h3 : z.cps.toList.take 1 = [126] := by
      have := congrArg (fun s : Str => s.cps.toList) h2
      rw [e1] at this
      simpa using this
    cases e : z.cps.toList with
    | nil =>
      rw [e] at h3
      cases h3
    | cons c r =>
      rw [e] at h3
      simp at h3
      rw [h3]
      rfl
  · congr 1
    refine str_ext ?_
    rw [e1]
    cases e : z.cps.toList with
    | nil =>
      rw [e] at h
      cases h
    | cons c r =>
      rw [e] at h
      cases h
      simp
theorem word_tilde {z : Str} (h : decide (z.cps.toList.head? = some 126) = true) : cutS z (some 1) none = wordS z := by
  rw [cut_rest]
  unfold wordS wordOf
  rw [if_pos (of_decide_eq_true h)]
theorem word_plain {z : Str} (h : ¬ decide (z.cps.toList.head? = some 126) = true) : z = wordS z := by
  unfold wordS wordOf
  rw [if_neg fun q => h (decide_eq_true q)]
theorem word_len (z : Str) : (wordS z).length ≤ z.length := by
  unfold wordS wordOf
  have hl := tl_len z
  split
  · show (z.cps.toList.drop 1).toArray.size ≤ _
    rw [List.size_toArray, List.length_drop]
    omega
  · show z.cps.toList.toArray.size ≤ _
    rw [List.size_toArray]
    omega
theorem eq_V (a b : Str) : eqV (.str a) (.str b) = decide (a = b) := by
  show (a == b) = _
  by_cases h : a = b
  · subst h; simp
  · rw [decide_eq_false h]
    simpa using h
section
variable {P : Program} {w : World} {K : PySem.W.Frag} {mg : Str → Option Value} {base : Heap}
def spIsL (K : PySem.W.Frag) : Sp := fun vs H Q _ => ∃ (v : V) (d : PyData), vs = [v] ∧ Dp K H v d ∧ Itm d ∧ ∀ H', Same H H' → Q (.bl (isL d)) H'
theorem itm_str {d : PyData} (hi : Itm d) (h : isStrD d = true) : ∃ z : Str, d = .str z ∧ z.length ≤ 500 ∧ Asc z := by
  rcases hi with rfl | rfl | rfl | ⟨z, h1, h2, rfl | rfl | rfl⟩
  · cases h
  · cases h
  · cases h
  · exact ⟨z, rfl, h1, h2⟩
  · cases h
  · cases h
theorem not_str {d : PyData} (h : ¬ isStrD d = true) : isL d = false := by
  cases d <;> first | rfl | exact absurd rfl h
/-! ### is_letter, the package's -/
abbrev s_is_letter : Stmt := top 26
theorem sc_is_letter : FnScope ["value", "word"] ["value"] (defScope s_is_letter) := ⟨rfl, rfl, rfl, by decide +kernel, rfl, by decide +kernel, by decide +kernel⟩
theorem ok_is_letter {f fS : Addr} {fd fdS : FuncData} (F : Fun K "is_letter" "is_letter" s_is_letter f fd) (T : Blt mg) (C : Gv K mg) (GS : FnOk P w K mg base CX0 1 fS fdS ["value"] spShort) (S : At K mg "is_short_word" fS fdS ["value"]) :
    FnOk P w K mg base CX0 2 f fd ["value"] (spIsL K) := by
  refine F.ok sc_is_letter (fun vs H Q E h => ?_) (fun cdv A outer s H vs Q E hr h => ?_)
  · obtain ⟨v, d, rfl, _⟩ := h
    rfl
  · obtain ⟨v, d, rfl, hd, hi, k⟩ := h
    obtain ⟨tB, uB, mB, rB, qB⟩ := C.begins
    refine ⟨_, (pss_cons (ps_if (pt_not (pt_val (pe_callB call_isi (by rfl) T.n_isinstance (by decide +kernel) (pa_cons (pv 0) (pa_cons (pe_bltn (v := .ty "str") (u := .type "str") rfl T.n_str (by decide +kernel) rfl) pa_nil))))) (pss_one (ps_ret pe_bl)) pss_nil)
      (pss_cons (ps_set (i := 1) sc_is_letter.nd rfl (Or.inl rfl) (pe_ifExp (pt_val (pe_m1 PySem.F.slot_str_startswith PySem.F.type_str_startswith mt_startswith (pv 0) pe_str)) (pe_slice sl_str (pv 0) (po_some pe_int) po_none) (pv 0)))
      (pss_one (ps_ret (pe_and (pe_call GS hr (by rfl) S.m S.k S.b .nil pass0 (pa_cons (pv 1) pa_nil)) (pe_one (pe_cmpR op_notIn_seq (pv 1) (pe_glob rfl mB rB) rfl))))))), ?_⟩
    obtain ⟨ty, hty, hkt⟩ := isi_str hd hi
    refine ⟨_, rfl, v, _, ty, _, isStrD d, rfl, .ty _, hty, hkt, _, rfl, ite2 (fun h1 => ?_) (fun h1 => ?_)⟩
    · have h1 : ¬ isStrD d = true := by intro q; rw [q] at h1; cases h1
      have := k H (Same.refl H)
      rw [not_str h1] at this
      exact this
    · have h1 : isStrD d = true := by
        cases q : isStrD d with
        | true => rfl
        | false => rw [q] at h1; exact absurd rfl h1
      obtain ⟨z, rfl, hz, az⟩ := itm_str hi h1
      cases hd
      have z1 : (1000 : Nat) ≤ sizeLine := by decide
      try dsimp only [tNext]
      refine seqIf_cut (fun v H' => v = .str (wordS z) ∧ H' = H) (fun Q' q' => ?_) (fun v H' hv => ?_)
      · refine ⟨_, rfl, ⟨_, rfl⟩, z, _, rfl, rfl, _, rfl, ?_⟩
        rw [starts_tilde]
        refine ite2 (fun h => ?_) (fun h => ?_)
        · exact ⟨_, rfl, _, rfl, z, rfl, by omega, q' _ _ ⟨by rw [word_tilde h], rfl⟩⟩
        · exact ⟨_, rfl, q' _ _ ⟨by rw [← word_plain h], rfl⟩⟩
      · obtain ⟨rfl, rfl⟩ := hv
        have hw := word_len z
        refine ⟨_, rfl, wordS z, rfl, by omega, fun H1 s1 => ⟨_, rfl, ite2 (fun h => ?_) (fun h => ?_)⟩⟩
        · refine ⟨_, rfl, tB, _, rfl, .inr (qB H1), rfl, rfl, ?_⟩
          have e : isL (.str z) = !inV (.str (wordS z)) [.str newW, .str foundW] := by
            show goodW (wordS z) = _
            unfold goodW
            rw [h, Bool.true_and]
            unfold inV
            simp only [List.any_cons, List.any_nil, Bool.or_false, eq_V]
          have := k H1 s1
          rw [e] at this
          exact this
        · have e : isL (.str z) = false := by
            show goodW (wordS z) = _
            unfold goodW
            rw [(Bool.not_eq_true _).mp h, Bool.false_and]
          have := k H1 s1
          rw [e] at this
          exact this
end
end Ask

namespace Ask
open PySem L2
/-! ### what the library asks of data -/
theorem asc_ok {z : Str} (h : Asc z) : PyData.strOk z = true := by
  unfold PyData.strOk
  rw [← Array.all_toList, List.all_eq_true]
  intro c hc
  have := h c hc
  exact decide_eq_true (by omega)
structure Fit (d : PyData) : Prop where
  lay : d.canLay0 = true
  dep : d.depth ≤ 1
  sho : d.showable = true
  nod : d.hasDict = false
  len : d.shown.length ≤ 6000
theorem fit_str {z : Str} (h1 : z.length ≤ 500) (h2 : Asc z) : Fit (.str z) ∧ (PyData.shown (.str z)).length ≤ 5100 := by
  have l := StrLaws.reprText_len z (fun c hc => by have := h2 c hc; omega)
  have l2 : (PyData.shown (.str z)).length ≤ 5100 := by
    show (reprText z).length ≤ 5100
    omega
  exact ⟨⟨asc_ok h2, Nat.zero_le _, rfl, rfl, by omega⟩, l2⟩
theorem itm_fit {d : PyData} (h : Itm d) : Fit d := by
  rcases h with rfl | rfl | rfl | ⟨z, h1, h2, rfl | rfl | rfl⟩
  · exact ⟨rfl, by decide, rfl, rfl, by decide⟩
  · exact ⟨rfl, by decide, rfl, rfl, by decide⟩
  · exact ⟨rfl, by decide, by decide, rfl, by decide⟩
  · exact (fit_str h1 h2).1
  · obtain ⟨f, l⟩ := fit_str h1 h2
    refine ⟨?_, by show max 0 0 + 1 ≤ 1; decide, rfl, rfl, ?_⟩
    · show (PyData.canLay0 (.str z) && true) = true
      rw [f.lay] <;> rfl
    · have := listText_len_le [PyData.shown (.str z)]
      show (listText [PyData.shown (.str z)]).length ≤ 6000
      simp only [List.map_cons, List.map_nil, List.sum_cons, List.sum_nil, List.length_cons, List.length_nil] at this
      omega
  · obtain ⟨f, l⟩ := fit_str h1 h2
    refine ⟨?_, by show max 0 0 + 1 ≤ 1; decide, rfl, rfl, ?_⟩
    · show (PyData.canLay0 (.str z) && true) = true
      rw [f.lay] <;> rfl
    · have := tupleText_len_le [PyData.shown (.str z)]
      show (tupleText [PyData.shown (.str z)]).length ≤ 6000
      simp only [List.map_cons, List.map_nil, List.sum_cons, List.sum_nil, List.length_cons, List.length_nil] at this
      omega
structure FitAll (ds : List PyData) : Prop where
  lay : PyData.canLayAll0 ds = true
  dep : PyData.depthAll ds ≤ 1
  sho : PyData.showableAll ds = true
  nod : PyData.hasDictAll ds = false
  len : ((PyData.shownAll ds).map (·.length)).sum ≤ 6000 * ds.length
  cnt : (PyData.shownAll ds).length = ds.length
theorem fit_all : ∀ {ds : List PyData}, (∀ d ∈ ds, Fit d) → FitAll ds
  | [], _ => ⟨rfl, Nat.zero_le _, rfl, rfl, Nat.le_refl _, rfl⟩
  | d :: r, h => by
    have f := h d (List.mem_cons_self ..)
    have g := fit_all (ds := r) fun x hx => h x (List.mem_cons_of_mem _ hx)
    refine ⟨?_, ?_, ?_, ?_, ?_, ?_⟩
    · show (PyData.canLay0 d && PyData.canLayAll0 r) = true
      rw [f.lay, g.lay] <;> rfl
    · show max (PyData.depth d) (PyData.depthAll r) ≤ 1
      exact Nat.max_le.mpr ⟨f.dep, g.dep⟩
    · show (PyData.showable d && PyData.showableAll r) = true
      rw [f.sho, g.sho] <;> rfl
    · show (PyData.hasDict d || PyData.hasDictAll r) = false
      rw [f.nod, g.nod] <;> rfl
    · show ((PyData.shown d :: PyData.shownAll r).map (·.length)).sum ≤ 6000 * (r.length + 1)
      rw [List.map_cons, List.sum_cons]
      have := f.len
      have := g.len
      omega
    · show (PyData.shown d :: PyData.shownAll r).length = r.length + 1
      rw [List.length_cons, g.cnt]
theorem shaped_of {d : PyData} (h : d.canLay0 = true) (k : d.depth ≤ 64) : SeqAt.shaped d = true := by
  unfold SeqAt.shaped
  rw [h, decide_eq_true k] <;> rfl
theorem FitAll.shapedL {ds : List PyData} (f : FitAll ds) : SeqAt.shaped (.list ds) = true :=
  shaped_of f.lay (by show PyData.depthAll ds + 1 ≤ 64; have := f.dep; omega)
theorem FitAll.shapedT {ds : List PyData} (f : FitAll ds) : SeqAt.shaped (.tuple ds) = true :=
  shaped_of f.lay (by show PyData.depthAll ds + 1 ≤ 64; have := f.dep; omega)
theorem Fit.shaped {d : PyData} (f : Fit d) : SeqAt.shaped d = true := shaped_of f.lay (by have := f.dep; omega)
theorem dp_strs {K : PySem.W.Frag} {H : Hp} : ∀ ys : List Str, DpAll K H (ys.map V.str) (ys.map PyData.str)
  | [] => .nil
  | y :: r => .cons (.str y) (dp_strs r)
theorem fit_strs {ys : List Str} (h : ∀ y ∈ ys, y.length ≤ 500 ∧ Asc y) : FitAll (ys.map PyData.str) := fit_all fun d hd => by
  obtain ⟨y, hy, rfl⟩ := List.mem_map.mp hd
  exact (fit_str (h y hy).1 (h y hy).2).1
theorem eqv_nil : ∀ ds : List PyData, PyData.eqv (.list ds) (.list []) = ds.isEmpty
  | [] => by simp [PyData.eqv, PyData.eqvAll]
  | _ :: _ => by simp [PyData.eqv, PyData.eqvAll]
theorem asc_word {z : Str} (h : Asc z) : Asc (wordS z) := fun c hc => by
  have hc : c ∈ wordOf z.cps.toList := by simpa [wordS] using hc
  unfold wordOf at hc
  split at hc
  · exact h c (List.mem_of_mem_drop hc)
  · exact h c hc
end Ask

namespace Ask
open PySem L2
/-! ### the letters that the laws make are letters, and different ones -/
def fixS (z : Str) : Str := if z = newW ∨ z = foundW then z ++ ("0" : Str) else z
def tildeS : Str := "~"
structure Wds (wd : Nat → Str) (M : Nat) : Prop where
  good : ∀ k, k < M → goodW (wd k) = true
  inj : ∀ j k, j < M → k < M → wd j = wd k → j = k
theorem app_list (a b : Str) : (a ++ b).cps.toList = a.cps.toList ++ b.cps.toList := by rw [Str.cps_append, Array.toList_append]
theorem good_short {z : Str} (h : goodW z = true) : shortL z.cps.toList = true := by
  unfold goodW at h
  exact (Bool.and_eq_true_iff.mp h).1
theorem short_len {l : List Nat} (h : shortL l = true) : 1 ≤ l.length ∧ l.length ≤ 12 := by
  unfold shortL at h
  exact of_decide_eq_true (Bool.and_eq_true_iff.mp (Bool.and_eq_true_iff.mp h).1).1
theorem short_signs {l : List Nat} (h : shortL l = true) : ∀ c ∈ l, c ∈ signsL := by
  unfold shortL at h
  exact fun c hc => of_decide_eq_true (List.all_eq_true.mp (Bool.and_eq_true_iff.mp h).2 c hc)
theorem short_head {l : List Nat} (h : shortL l = true) : ∃ c r, l = c :: r ∧ c ∈ smallL := by
  unfold shortL at h
  have h2 := (Bool.and_eq_true_iff.mp (Bool.and_eq_true_iff.mp h).1).2
  cases l with
  | nil => cases h2
  | cons c r => exact ⟨c, r, rfl, of_decide_eq_true h2⟩
theorem short_mk {c : Nat} {r : List Nat} (h1 : (c :: r).length ≤ 12) (h2 : c ∈ smallL) (h3 : ∀ d ∈ c :: r, d ∈ signsL) : shortL (c :: r) = true := by
  unfold shortL
  rw [decide_eq_true ⟨by simp, h1⟩]
  simp only [List.head?_cons, decide_eq_true h2, Bool.true_and]
  exact List.all_eq_true.mpr fun d hd => decide_eq_true (h3 d hd)
theorem signs_asc' : ∀ c ∈ signsL, c < 128 := signs_asc
theorem small_no : ¬ 126 ∈ smallL := by decide +kernel
theorem small_signs : ∀ c ∈ smallL, c ∈ signsL := by
  have h : smallL.all (fun c => decide (c ∈ signsL)) = true := by decide +kernel
  exact fun c hc => of_decide_eq_true (List.all_eq_true.mp h c hc)
theorem good_asc {z : Str} (h : goodW z = true) : Asc z := fun c hc => signs_asc' c (short_signs (good_short h) c hc)
theorem good_len {z : Str} (h : goodW z = true) : z.length ≤ 12 := by
  have := short_len (good_short h)
  rw [tl_len] at this
  exact this.2
theorem good_no {z : Str} (h : goodW z = true) : z.cps.toList.head? ≠ some 126 := by
  obtain ⟨c, r, e, hc⟩ := short_head (good_short h)
  rw [e]
  intro q
  cases q
  exact small_no hc
theorem word_same {z : Str} (h : z.cps.toList.head? ≠ some 126) : wordS z = z := by
  refine str_ext ?_
  show (wordOf z.cps.toList).toArray.toList = _
  unfold wordOf
  rw [if_neg h]
theorem good_is {z : Str} (h : goodW z = true) : isLs z = true := by
  unfold isLs
  rw [word_same (good_no h)]
  exact h
theorem tilde_is {z : Str} (h : goodW z = true) : isLs (tildeS ++ z) = true := by
  unfold isLs
  have e : wordS (tildeS ++ z) = z := by
    refine str_ext ?_
    show (wordOf (tildeS ++ z).cps.toList).toArray.toList = _
    have e2 : (tildeS ++ z).cps.toList = 126 :: z.cps.toList := by
      rw [app_list]
      have : tildeS.cps.toList = [126] := by decide +kernel
      rw [this]
      rfl
    rw [e2]
    rfl
  rw [e]
  exact h
theorem fix_good {z : Str} (h : shortL z.cps.toList = true) : goodW (fixS z) = true := by
  unfold fixS
  split
  · rename_i q
    rcases q with rfl | rfl <;> decide +kernel
  · rename_i q
    unfold goodW
    rw [h, decide_eq_false (fun e => q (.inl e.symm)), decide_eq_false (fun e => q (.inr e.symm))]
    rfl
theorem fix_at {z : Str} {a : Nat} (h : a < z.cps.toList.length) : (fixS z).cps.toList[a]? = z.cps.toList[a]? := by
  unfold fixS
  split
  · rw [app_list, List.getElem?_append_left h]
  · rfl
theorem wds_mk {wd : Nat → Str} {M : Nat} {S : List Nat} {a : Nat} {sg : Nat → Nat} {T : Nat → List Nat} (ha : a ≤ S.length) (hl : S.length ≤ 11) (hs : ∀ c ∈ S, c ∈ signsL) (hh : ∀ c, S.head? = some c → c ∈ smallL)
    (h1 : ∀ k, k < M → sg k ∈ signsL) (h0 : a = 0 → ∀ k, k < M → sg k ∈ smallL) (inj : ∀ j k, j < M → k < M → sg j = sg k → j = k) (hT : ∀ k, (∀ c ∈ T k, c ∈ signsL) ∧ (T k).length ≤ S.length - a)
    (e : ∀ k, k < M → ∃ z, wd k = fixS z ∧ z.cps.toList = S.take a ++ sg k :: T k) : Wds wd M := by
  refine ⟨fun k hk => ?_, fun j k hj hk q => ?_⟩
  · obtain ⟨z, e1, e2⟩ := e k hk
    rw [e1]
    refine fix_good ?_
    rw [e2]
    have len : (S.take a ++ sg k :: T k).length ≤ 12 := by
      rw [List.length_append, List.length_cons, List.length_take]
      have := (hT k).2
      omega
    have mem : ∀ c ∈ S.take a ++ sg k :: T k, c ∈ signsL := fun c hc => by
      rcases List.mem_append.mp hc with q | q
      · exact hs c (List.mem_of_mem_take q)
      · rcases List.mem_cons.mp q with rfl | q
        · exact h1 k hk
        · exact (hT k).1 c q
    cases a with
    | zero =>
      rw [List.take_zero, List.nil_append] at len mem ⊢
      exact short_mk len (h0 rfl k hk) mem
    | succ a =>
      cases S with
      | nil => simp at ha
      | cons c r =>
        rw [List.take_succ_cons, List.cons_append] at len mem ⊢
        exact short_mk len (hh c rfl) mem
  · obtain ⟨y, e1, e2⟩ := e j hj
    obtain ⟨z, e3, e4⟩ := e k hk
    have l1 : (S.take a).length = a := by rw [List.length_take]; omega
    have p1 : y.cps.toList[a]? = some (sg j) := by
      rw [e2, List.getElem?_append_right (by omega), l1, Nat.sub_self]
      rfl
    have p2 : z.cps.toList[a]? = some (sg k) := by
      rw [e4, List.getElem?_append_right (by omega), l1, Nat.sub_self]
      rfl
    have a1 : a < y.cps.toList.length := by rw [e2, List.length_append, List.length_cons]; omega
    have a2 : a < z.cps.toList.length := by rw [e4, List.length_append, List.length_cons]; omega
    have q2 : (fixS y).cps.toList[a]? = (fixS z).cps.toList[a]? := by rw [← e1, ← e3, q]
    rw [fix_at a1, fix_at a2, p1, p2] at q2
    exact inj j k hj hk (Option.some.inj q2)
/-- the signs of a row of different places -/
theorem step_inj {n f s j k : Nat} (hn : n = 26 ∨ n = 36) (hs : s ∈ [1, 5, 7, 11, 17, 19, 23, 25]) (hj : j < 26) (hk : k < 26) (h : (f + s * j) % n = (f + s * k) % n) : j = k := by
  simp only [List.mem_cons, List.not_mem_nil, or_false] at hs
  rcases hn with rfl | rfl <;> rcases hs with rfl | rfl | rfl | rfl | rfl | rfl | rfl | rfl <;> omega
theorem nodup_at {l : List Nat} (h : l.Nodup) {i j : Nat} {c : Nat} (h1 : l[i]? = some c) (h2 : l[j]? = some c) : i = j := by
  exact (List.getElem?_inj (List.getElem?_eq_some_iff.mp h1).1 h).mp (h1.trans h2.symm)
theorem small_nodup : smallL.Nodup := by decide +kernel
theorem signs_nodup : signsL.Nodup := by decide +kernel
/-! ### what stands behind i turns -/
structure Iv (wd : Nat → Str) (ys : List Str) (i : Nat) : Prop where
  len : ys.length = i
  from_ : ∀ y ∈ ys, ∃ j, j < i ∧ (y = wd j ∨ y = tildeS ++ wd j)
  nd : ys.Nodup
  last : ∀ l, ys.getLast? = some l → l.cps.toList.head? ≠ some 126 → ¬ (tildeS ++ l) ∈ ys
section
variable {wd : Nat → Str} {M i : Nat} {ys : List Str}
theorem tilde_inj {a b : Str} (h : tildeS ++ a = tildeS ++ b) : a = b := by
  have h2 := congrArg (fun z : Str => z.cps.toList) h
  simp only [app_list] at h2
  exact str_ext (List.append_cancel_left h2)
theorem tilde_head (a : Str) : (tildeS ++ a).cps.toList.head? = some 126 := by
  rw [app_list]
  have : tildeS.cps.toList = [126] := by decide +kernel
  rw [this]
  rfl
theorem Iv.nil : Iv wd [] 0 := ⟨rfl, fun _ h => by simp at h, List.nodup_nil, fun _ h => by simp at h⟩
theorem Iv.fresh (v : Iv wd ys i) (w : Wds wd M) (hi : i < M) : ¬ wd i ∈ ys ∧ ¬ (tildeS ++ wd i) ∈ ys := by
  refine ⟨fun h => ?_, fun h => ?_⟩
  · obtain ⟨j, hj, e | e⟩ := v.from_ _ h
    · have := w.inj i j hi (by omega) e
      omega
    · exact good_no (w.good i hi) (by rw [e]; exact tilde_head _)
  · obtain ⟨j, hj, e | e⟩ := v.from_ _ h
    · exact good_no (w.good j (by omega)) (by rw [← e]; exact tilde_head _)
    · have := w.inj i j hi (by omega) (tilde_inj e)
      omega
theorem nodup_app {ys : List Str} {y : Str} (h : ys.Nodup) (n : ¬ y ∈ ys) : (ys ++ [y]).Nodup := by
  rw [List.nodup_append]
  refine ⟨h, by simp, fun a ha b hb q => ?_⟩
  rw [List.mem_singleton.mp hb] at q
  rw [q] at ha
  exact n ha
theorem Iv.plain (v : Iv wd ys i) (w : Wds wd M) (hi : i < M) : Iv wd (ys ++ [wd i]) (i + 1) := by
  obtain ⟨f1, f2⟩ := v.fresh w hi
  refine ⟨by rw [List.length_append, v.len]; rfl, fun y hy => ?_, nodup_app v.nd f1, fun l hl hn => ?_⟩
  · rcases List.mem_append.mp hy with q | q
    · obtain ⟨j, hj, e⟩ := v.from_ y q
      exact ⟨j, by omega, e⟩
    · exact ⟨i, by omega, .inl (List.mem_singleton.mp q)⟩
  · rw [List.getLast?_concat] at hl
    cases hl
    intro q
    rcases List.mem_append.mp q with q | q
    · exact f2 q
    · exact good_no (w.good i hi) (by rw [← List.mem_singleton.mp q]; exact tilde_head _)
theorem Iv.tilde (v : Iv wd ys i) (w : Wds wd M) (hi : i < M) : Iv wd (ys ++ [tildeS ++ wd i]) (i + 1) := by
  obtain ⟨f1, f2⟩ := v.fresh w hi
  refine ⟨by rw [List.length_append, v.len]; rfl, fun y hy => ?_, nodup_app v.nd f2, fun l hl hn => ?_⟩
  · rcases List.mem_append.mp hy with q | q
    · obtain ⟨j, hj, e⟩ := v.from_ y q
      exact ⟨j, by omega, e⟩
    · exact ⟨i, by omega, .inr (List.mem_singleton.mp q)⟩
  · rw [List.getLast?_concat] at hl
    cases hl
    exact absurd (tilde_head _) hn
theorem Iv.again (v : Iv wd ys i) {l : Str} (hl : ys.getLast? = some l) (hn : l.cps.toList.head? ≠ some 126) : Iv wd (ys ++ [tildeS ++ l]) (i + 1) := by
  have ml : l ∈ ys := List.mem_of_getLast? hl
  refine ⟨by rw [List.length_append, v.len]; rfl, fun y hy => ?_, nodup_app v.nd (v.last l hl hn), fun k hk hn' => ?_⟩
  · rcases List.mem_append.mp hy with q | q
    · obtain ⟨j, hj, e⟩ := v.from_ y q
      exact ⟨j, by omega, e⟩
    · obtain ⟨j, hj, e | e⟩ := v.from_ l ml
      · exact ⟨j, by omega, .inr (by rw [List.mem_singleton.mp q, e])⟩
      · exact absurd (by rw [e]; exact tilde_head _) hn
  · rw [List.getLast?_concat] at hk
    cases hk
    exact absurd (tilde_head _) hn'
/-- at the end: letters, different ones -/
theorem Iv.ends (v : Iv wd ys i) (w : Wds wd M) (hi : i ≤ M) : ys.length = i ∧ ys.Nodup ∧ ∀ y ∈ ys, isLs y = true ∧ y.length ≤ 13 ∧ Asc y := by
  refine ⟨v.len, v.nd, fun y hy => ?_⟩
  obtain ⟨j, hj, e⟩ := v.from_ y hy
  have g := w.good j (by omega)
  rcases e with rfl | rfl
  · exact ⟨good_is g, by have := good_len g; omega, good_asc g⟩
  · refine ⟨tilde_is g, ?_, Asc.app (.lit (by decide +kernel)) (good_asc g)⟩
    rw [Str.length_append]
    have := good_len g
    show 1 + _ ≤ 13
    omega
end
end Ask

namespace Ask
open PySem L2
theorem join_ones : ∀ cs : List Nat, (Str.join (Str.ofString "") (cs.map fun c => (⟨#[c]⟩ : Str))).cps.toList = cs
  | [] => rfl
  | [c] => rfl
  | c :: d :: r => by
    show (((⟨#[c]⟩ : Str) ++ Str.ofString "") ++ Str.join (Str.ofString "") ((d :: r).map fun c => (⟨#[c]⟩ : Str))).cps.toList = _
    rw [app_list, app_list, join_ones (d :: r)]
    rfl
theorem joinT_ones (cs : List Nat) : (Txt.join (Str.ofString "") (cs.map fun c => (⟨#[c]⟩ : Str))).cps.toList = cs := by
  rw [TL.join_eq]
  exact join_ones cs
theorem cut_pre (z : Str) (n : Nat) : (cutS z none (some (n : Int))).cps.toList = z.cps.toList.take n := by
  unfold cutS
  rw [HT.sIx_none, HT.sIx_nat, List.drop_zero, Nat.sub_zero]
  have hl := tl_len z
  by_cases h : n ≤ z.length
  · rw [Nat.min_eq_left h]
  · rw [Nat.min_eq_right (by omega), List.take_of_length_le (by omega), List.take_of_length_le (by omega)]
theorem cut_suf (z : Str) (n : Nat) : (cutS z (some (n : Int)) none).cps.toList = z.cps.toList.drop n := by
  unfold cutS
  rw [HT.sIx_none, HT.sIx_nat]
  have hl := tl_len z
  by_cases h : n ≤ z.length
  · rw [Nat.min_eq_left h, List.take_of_length_le (by rw [List.length_drop]; omega)]
  · rw [Nat.min_eq_right (by omega), List.drop_of_length_le (by omega), List.drop_of_length_le (by omega)]
    simp
theorem cut_mem {z : Str} {lo hi : Option Int} {c : Nat} (h : c ∈ (cutS z lo hi).cps.toList) : c ∈ z.cps.toList := List.mem_of_mem_drop (List.mem_of_mem_take h)
/-- the sign of turn k -/
def sgN (zc : Str) (fr s k : Nat) : Nat := (zc.cps.toList[(fr + s * k) % zc.length]?).getD 0
theorem sgN_at (zc : Str) (fr s k : Nat) (h : 0 < zc.length) : zc.cps.toList[(fr + s * k) % zc.length]? = some (sgN zc fr s k) := by
  have hl := tl_len zc
  have lt : (fr + s * k) % zc.length < zc.cps.toList.length := by
    rw [hl]
    exact Nat.mod_lt _ h
  unfold sgN
  rw [List.getElem?_eq_getElem lt]
  rfl
theorem sgN_mem (zc : Str) (fr s k : Nat) (h : 0 < zc.length) : sgN zc fr s k ∈ zc.cps.toList := List.mem_of_getElem? (sgN_at zc fr s k h)
/-- the word of turn k -/
def wdN (stem zc : Str) (at_ fr s : Nat) (k : Nat) : Str :=
  fixS ((cutS stem none (some (at_ : Int)) ++ (⟨#[sgN zc fr s k]⟩ : Str)) ++ cutS (cutS stem (some (at_ : Int)) none) none (some (((cutS stem (some (at_ : Int)) none).length : Int) - (0 + (k : Int)) * (if decide (0 + (k : Int) < 2) = true then 1 else 0))))
theorem wdN_ok {stem zc : Str} {at_ fr s : Nat} (ha : at_ ≤ stem.length) (hl : stem.length ≤ 11) (hs : ∀ c ∈ stem.cps.toList, c ∈ signsL) (hh : ∀ c, stem.cps.toList.head? = some c → c ∈ smallL)
    (hz : zc = if 0 < at_ then signs else small) (hst : s ∈ [1, 5, 7, 11, 17, 19, 23, 25]) : Wds (wdN stem zc at_ fr s) 26 := by
  have hL := tl_len stem
  have hn : zc.length = 26 ∨ zc.length = 36 := by
    rw [hz]
    split
    · exact .inr signs_len
    · exact .inl small_len
  have pos : 0 < zc.length := by omega
  have nd : zc.cps.toList.Nodup := by
    rw [hz]
    split
    · exact signs_nodup
    · exact small_nodup
  refine wds_mk (S := stem.cps.toList) (a := at_) (sg := sgN zc fr s) (T := fun k => (cutS (cutS stem (some (at_ : Int)) none) none (some (((cutS stem (some (at_ : Int)) none).length : Int) - (0 + (k : Int)) * (if decide (0 + (k : Int) < 2) = true then 1 else 0)))).cps.toList)
    (by omega) (by omega) hs hh (fun k hk => ?_) (fun e k hk => ?_) (fun j k hj hk q => ?_) (fun k => ⟨fun c hc => hs c (cut_mem (cut_mem hc)), ?_⟩) (fun k hk => ⟨_, rfl, ?_⟩)
  · have := sgN_mem zc fr s k pos
    generalize sgN zc fr s k = x at this ⊢
    rw [hz] at this
    split at this
    · exact this
    · exact small_signs _ this
  · have := sgN_mem zc fr s k pos
    generalize sgN zc fr s k = x at this ⊢
    rw [hz, e] at this
    exact this
  · have e1 := sgN_at zc fr s j pos
    have e2 := sgN_at zc fr s k pos
    rw [q] at e1
    exact step_inj hn hst hj hk (nodup_at nd e1 e2)
  · rw [tl_len]
    refine Nat.le_trans (cutS_length _ _ _) ?_
    have := tl_len (cutS stem (some (at_ : Int)) none)
    rw [cut_suf, List.length_drop] at this
    omega
  · rw [app_list, app_list, cut_pre]
    show (_ ++ [sgN zc fr s k]) ++ _ = _
    rw [List.append_assoc]
    rfl
/-- what the block of the n signs leaves -/
def SgL (L : List Nat) (p c : Addr) (ns : List Int) (H0 : Hp) (D : Addr) (B i : Nat) (H : Hp) : Prop := ∃ cs : List Nat, Go p c ns H0 H (B + i) ∧ H D = some (.lst ((cs.map fun c => (⟨#[c]⟩ : Str)).map V.str)) ∧ cs.length = i ∧ ∀ c ∈ cs, c ∈ L
theorem SgL.next {L : List Nat} {p c D : Addr} {ns : List Int} {H0 H H' : Hp} {B i j : Nat} (h : SgL L p c ns H0 D B i H) (h0 : H0 D = none) (g : Go p c ns H H' (B + i + 1)) (hi : i ≤ 1000) (hj : j ∈ L) :
    ∃ acc, H' D = some (.lst acc) ∧ acc.length < sizeLine ∧ SgL L p c ns H0 D B (i + 1) (upd H' D (.lst (acc ++ [.str ⟨#[j]⟩]))) := by
  obtain ⟨cs, g0, hD, hl, h1⟩ := h
  refine ⟨_, g.lst hD, ?_, cs ++ [j], ((g0.step g).mut h0).mono (by omega), ?_, ?_, ?_⟩
  · rw [List.length_map, List.length_map]
    exact small1000 (by omega)
  · rw [upd_same, List.map_append, List.map_append]
    rfl
  · rw [List.length_append, hl]
    rfl
  · intro y hy
    rcases List.mem_append.mp hy with z | z
    · exact h1 y z
    · rw [List.mem_singleton.mp z]
      exact hj
theorem in_mem {x : Str} {ys : List Str} (h : x ∈ ys) : inV (.str x) (ys.map V.str) = true := by
  unfold inV
  rw [List.any_eq_true]
  refine ⟨.str x, List.mem_map.mpr ⟨x, h, rfl⟩, ?_⟩
  exact decide_eq_true rfl
end Ask

namespace Ask
open PySem L2
/-- an item of the law's lists, its list or tuple at a place of N -/
def ItV (N : Addr → Prop) (H : Hp) (v : V) (d : PyData) : Prop :=
  (v = .non ∧ d = .none) ∨ (v = .bl true ∧ d = .bool true) ∨ (v = .int 7 ∧ d = .int 7) ∨ ∃ z : Str, (z.length ≤ 500 ∧ Asc z) ∧
    ((v = .str z ∧ d = .str z) ∨ ∃ a, v = .ref a ∧ N a ∧ ((H a = some (.lst [.str z]) ∧ d = .list [.str z]) ∨ (H a = some (.tup [.str z]) ∧ d = .tuple [.str z])))
section
variable {K : PySem.W.Frag} {N N' : Addr → Prop} {H H' H0 : Hp} {v : V} {d : PyData} {p c q : Addr} {ns : List Int} {B : Nat} {o : HO}
theorem ItV.itm (h : ItV N H v d) : Itm d := by
  rcases h with ⟨_, e⟩ | ⟨_, e⟩ | ⟨_, e⟩ | ⟨z, ⟨h1, h2⟩, ⟨_, e⟩ | ⟨a, _, _, ⟨_, e⟩ | ⟨_, e⟩⟩⟩
  · exact .inl e
  · exact .inr (.inl e)
  · exact .inr (.inr (.inl e))
  · exact .inr (.inr (.inr ⟨z, h1, h2, .inl e⟩))
  · exact .inr (.inr (.inr ⟨z, h1, h2, .inr (.inl e)⟩))
  · exact .inr (.inr (.inr ⟨z, h1, h2, .inr (.inr e)⟩))
theorem ItV.dp (h : ItV N H v d) : Dp K H v d := by
  rcases h with ⟨e, e'⟩ | ⟨e, e'⟩ | ⟨e, e'⟩ | ⟨z, _, ⟨e, e'⟩ | ⟨a, e, _, ⟨ea, e'⟩ | ⟨ea, e'⟩⟩⟩ <;> rw [e, e']
  · exact .non
  · exact .bl _
  · exact .int _
  · exact .str _
  · exact .lst (SqL.of ea) (.cons (.str _) .nil)
  · exact .tup (SqT.of ea) (.cons (.str _) .nil)
theorem ItV.mp (h : ItV N H v d) (k : ∀ a o, N a → H a = some o → (∀ kvs, o ≠ .dK kvs) → N' a ∧ H' a = some o) : ItV N' H' v d := by
  rcases h with h | h | h | ⟨z, hz, h | ⟨a, e, n, ⟨ea, e'⟩ | ⟨ea, e'⟩⟩⟩
  · exact .inl h
  · exact .inr (.inl h)
  · exact .inr (.inr (.inl h))
  · exact .inr (.inr (.inr ⟨z, hz, .inl h⟩))
  · obtain ⟨n', ea'⟩ := k a _ n ea (by intro _ z; cases z)
    exact .inr (.inr (.inr ⟨z, hz, .inr ⟨a, e, n', .inl ⟨ea', e'⟩⟩⟩))
  · obtain ⟨n', ea'⟩ := k a _ n ea (by intro _ z; cases z)
    exact .inr (.inr (.inr ⟨z, hz, .inr ⟨a, e, n', .inr ⟨ea', e'⟩⟩⟩))
theorem ItV.go (h : ItV N H v d) (g : Go p c ns H H' B) : ItV N H' v d := h.mp fun a o n e k => ⟨n, g.at e k⟩
theorem ItV.same (h : ItV N H v d) (s : Same H H') : ItV N H' v d := h.mp fun a o n e _ => ⟨n, s a o e⟩
theorem ItV.mut (h : ItV N H v d) (n : ∀ a, N a → a ≠ q) : ItV N (upd H q o) v d := h.mp fun a u m e _ => ⟨m, by rw [upd_ne (n a m)]; exact e⟩
theorem ItV.wk (h : ItV N H v d) (n : ∀ a, N a → N' a) : ItV N' H v d := h.mp fun a u m e _ => ⟨n a m, e⟩
def ItS (N : Addr → Prop) (H : Hp) (xs : List V) : Prop := ∀ v ∈ xs, ∃ d, ItV N H v d
theorem ItS.nil : ItS N H [] := fun _ h => by cases h
theorem ItS.cons {xs : List V} (h : ∃ d, ItV N H v d) (r : ItS N H xs) : ItS N H (v :: xs) := fun x hx => by
  rcases List.mem_cons.mp hx with rfl | hx
  · exact h
  · exact r x hx
theorem ItS.app {xs ys : List V} (h : ItS N H xs) (r : ItS N H ys) : ItS N H (xs ++ ys) := fun x hx => by
  rcases List.mem_append.mp hx with hx | hx
  · exact h x hx
  · exact r x hx
theorem itStr {z : Str} (h : z.length ≤ 500 ∧ Asc z) : ∃ d, ItV N H (.str z) d := ⟨_, .inr (.inr (.inr ⟨z, h, .inl ⟨rfl, rfl⟩⟩))⟩
end
theorem asc_upper {z : Str} (h : Asc z) : Asc (Txt.upper z) ∧ (Txt.upper z).length = z.length := by
  rw [PyProof.Rows.upper_ascii h]
  refine ⟨fun c hc => ?_, by simp [Str.length]⟩
  have hc : c ∈ (z.cps.map PyProof.Rows.up1).toList := hc
  rw [Array.toList_map] at hc
  obtain ⟨b, hb, rfl⟩ := List.mem_map.mp hc
  have := h b hb
  unfold PyProof.Rows.up1
  split <;> omega
theorem asc_rep {z : Str} (h : Asc z) (n : Nat) : Asc (repS z n) := by
  have : ∀ (n : Nat) (acc : Array Nat), (∀ c ∈ acc.toList, c < 128) → ∀ c ∈ ((List.replicate n z.cps).foldl (· ++ ·) acc).toList, c < 128 := by
    intro n
    induction n with
    | zero => intro acc ha; simpa using ha
    | succ n ih =>
      intro acc ha
      rw [List.replicate_succ, List.foldl_cons]
      refine ih _ fun c hc => ?_
      rw [Array.toList_append] at hc
      rcases List.mem_append.mp hc with q | q
      · exact ha c q
      · exact h c q
  exact this n #[] (fun c hc => by cases hc)
end Ask

namespace Ask
open PySem L2
/-! ### the answers, by the mirror -/
def badAt (ds : List PyData) (k : Nat) : Bool := match ds[k]? with
  | some d => !isL d || (ds.take k).any fun z => PyData.eqv z d
  | none => false
def bads (ds : List PyData) : List Nat := (List.range ds.length).filter (badAt ds)
def res (ds : List PyData) : PyData :=
  if 12 < ds.length then .tuple [.str "many", .str "letters", .int (ds.length : Nat), .int 12]
  else match bads ds with
    | k :: _ => .tuple [.str "letters", .int (k : Nat)]
    | [] => if ds.length = 0 then .tuple [.str "letters", .int 0] else .none
theorem res_many {ds : List PyData} (h : 12 < ds.length) : res ds = .tuple [.str "many", .str "letters", .int (ds.length : Nat), .int 12] := if_pos h
theorem res_none {ds : List PyData} (h : ds.length = 0) : res ds = .tuple [.str "letters", .int 0] := by
  have e : ds = [] := List.eq_nil_of_length_eq_zero h
  subst e
  rfl
theorem bads_at {ds : List PyData} {k : Nat} (h1 : k < ds.length) (h2 : badAt ds k = true) (h3 : ∀ j < k, badAt ds j = false) : ∃ r, bads ds = k :: r := by
  unfold bads
  have e : ds.length = k + (1 + (ds.length - k - 1)) := by omega
  rw [e, List.range_add, List.filter_append]
  have e1 : (List.range k).filter (badAt ds) = [] := List.filter_eq_nil_iff.mpr fun x hx => by
    rw [h3 x (List.mem_range.mp hx)]
    exact Bool.false_ne_true
  rw [e1, List.nil_append, Nat.add_comm 1, List.range_succ_eq_map, List.map_cons, List.filter_cons, if_pos (by simpa using h2)]
  exact ⟨_, rfl⟩
theorem res_at {ds : List PyData} {k : Nat} (h0 : ¬ 12 < ds.length) (h1 : k < ds.length) (h2 : badAt ds k = true) (h3 : ∀ j < k, badAt ds j = false) : res ds = .tuple [.str "letters", .int (k : Nat)] := by
  obtain ⟨r, e⟩ := bads_at h1 h2 h3
  unfold res
  rw [if_neg h0, e]
theorem res_good {ds : List PyData} (h0 : ¬ 12 < ds.length) (h1 : 0 < ds.length) (h3 : ∀ j < ds.length, badAt ds j = false) : res ds = .none := by
  have e : bads ds = [] := List.filter_eq_nil_iff.mpr fun x hx => by
    rw [h3 x (List.mem_range.mp hx)]
    exact Bool.false_ne_true
  unfold res
  rw [if_neg h0, e]
  exact if_neg (by omega)
/-- an answer of the law's -/
def Rs (H : Hp) (v : V) (d : PyData) : Prop := (v = .non ∧ d = .none) ∨ ∃ a xs ds, v = .ref a ∧ d = .tuple ds ∧ H a = some (.tup xs) ∧ ∀ (K : PySem.W.Frag) (H' : Hp), DpAll K H' xs ds
/-- the items of a list -/
def ItL (N : Addr → Prop) (H : Hp) : List V → List PyData → Prop
  | [], [] => True
  | v :: xs, d :: ds => ItV N H v d ∧ ItL N H xs ds
  | _, _ => False
section
variable {K : PySem.W.Frag} {N N' : Addr → Prop} {H H' H0 : Hp} {v : V} {d : PyData} {p c q : Addr} {ns : List Int} {B : Nat} {o : HO}
theorem Rs.dp (h : Rs H v d) : Dp K H v d := by
  rcases h with ⟨rfl, rfl⟩ | ⟨a, xs, ds, rfl, rfl, e, k⟩
  · exact .non
  · exact .tup (SqT.of e) (k K H)
theorem Rs.same (h : Rs H v d) (s : Same H H') : Rs H' v d := by
  rcases h with h | ⟨a, xs, ds, h1, h2, e, k⟩
  · exact .inl h
  · exact .inr ⟨a, xs, ds, h1, h2, s _ _ e, k⟩
theorem ItL.len : ∀ {xs : List V} {ds : List PyData}, ItL N H xs ds → xs.length = ds.length
  | [], [], _ => rfl
  | _ :: _, _ :: _, h => by rw [List.length_cons, List.length_cons, ItL.len h.2]
  | [], _ :: _, h => h.elim
  | _ :: _, [], h => h.elim
theorem ItL.mp : ∀ {xs : List V} {ds : List PyData}, ItL N H xs ds → (∀ v d, ItV N H v d → ItV N' H' v d) → ItL N' H' xs ds
  | [], [], _, _ => trivial
  | _ :: _, _ :: _, h, k => ⟨k _ _ h.1, ItL.mp h.2 k⟩
  | [], _ :: _, h, _ => h.elim
  | _ :: _, [], h, _ => h.elim
theorem ItL.dp : ∀ {xs : List V} {ds : List PyData}, ItL N H xs ds → DpAll K H xs ds
  | [], [], _ => .nil
  | _ :: _, _ :: _, h => .cons h.1.dp (ItL.dp h.2)
  | [], _ :: _, h => h.elim
  | _ :: _, [], h => h.elim
theorem ItL.itm : ∀ {xs : List V} {ds : List PyData}, ItL N H xs ds → ∀ d ∈ ds, Itm d
  | [], [], _, _, h => by cases h
  | _ :: _, _ :: _, h, d, hd => by
    rcases List.mem_cons.mp hd with rfl | hd
    · exact h.1.itm
    · exact ItL.itm h.2 d hd
  | [], _ :: _, h, _, _ => h.elim
  | _ :: _, [], h, _, _ => h.elim
theorem ItL.fit {xs : List V} {ds : List PyData} (h : ItL N H xs ds) : FitAll ds := fit_all fun d hd => itm_fit (h.itm d hd)
theorem ItL.get : ∀ {xs : List V} {ds : List PyData} (k : Nat), ItL N H xs ds → k < xs.length → ∃ v d, xs[k]? = some v ∧ ds[k]? = some d ∧ ItV N H v d
  | [], _, _, _, h => absurd h (Nat.not_lt_zero _)
  | _ :: _, [], _, h, _ => h.elim
  | v :: _, d :: _, 0, h, _ => ⟨v, d, rfl, rfl, h.1⟩
  | _ :: _, _ :: _, k + 1, h, hk => by
    obtain ⟨v, d, h1, h2, h3⟩ := ItL.get k h.2 (Nat.lt_of_succ_lt_succ hk)
    exact ⟨v, d, by simpa using h1, by simpa using h2, h3⟩
theorem ItL.take : ∀ {xs : List V} {ds : List PyData} (k : Nat), ItL N H xs ds → ItL N H (xs.take k) (ds.take k)
  | [], [], _, _ => by rw [List.take_nil, List.take_nil]; trivial
  | _ :: _, _ :: _, 0, _ => trivial
  | _ :: _, _ :: _, k + 1, h => ⟨h.1, ItL.take k h.2⟩
  | [], _ :: _, _, h => h.elim
  | _ :: _, [], _, h => h.elim
theorem ItL.set : ∀ {xs : List V} {ds : List PyData} (k : Nat), ItL N H xs ds → ItV N H v d → ItL N H (xs.set k v) (ds.set k d)
  | [], [], _, _, _ => trivial
  | _ :: _, _ :: _, 0, h, hv => ⟨hv, h.2⟩
  | _ :: _, _ :: _, k + 1, h, hv => ⟨h.1, ItL.set k h.2 hv⟩
  | [], _ :: _, _, h, _ => h.elim
  | _ :: _, [], _, h, _ => h.elim
theorem ItL.app1 : ∀ {xs : List V} {ds : List PyData}, ItL N H xs ds → ItV N H v d → ItL N H (xs ++ [v]) (ds ++ [d])
  | [], [], _, hv => ⟨hv, trivial⟩
  | _ :: _, _ :: _, h, hv => ⟨h.1, ItL.app1 h.2 hv⟩
  | [], _ :: _, h, _ => h.elim
  | _ :: _, [], h, _ => h.elim
theorem itl_strs : ∀ {ys : List Str}, (∀ y ∈ ys, y.length ≤ 500 ∧ Asc y) → ItL N H (ys.map V.str) (ys.map PyData.str)
  | [], _ => trivial
  | y :: r, h => ⟨.inr (.inr (.inr ⟨y, h y (List.mem_cons_self ..), .inl ⟨rfl, rfl⟩⟩)), itl_strs fun z hz => h z (List.mem_cons_of_mem _ hz)⟩
end
theorem ints_lay : ∀ ks : List Nat, (∀ k ∈ ks, k ≤ 1000) → PyData.canLayAll0 (ks.map fun k : Nat => PyData.int k) = true ∧ PyData.depthAll (ks.map fun k : Nat => PyData.int k) = 0
  | [], _ => ⟨rfl, rfl⟩
  | k :: r, h => by
    obtain ⟨h1, h2⟩ := ints_lay r fun z hz => h z (List.mem_cons_of_mem _ hz)
    have hk := h k (List.mem_cons_self ..)
    refine ⟨?_, ?_⟩
    · show (PyData.canLay0 (.int (k : Nat)) && PyData.canLayAll0 (r.map fun k : Nat => PyData.int k)) = true
      rw [h1, Bool.and_true]
      rfl
    · show max 0 (PyData.depthAll (r.map fun k : Nat => PyData.int k)) = 0
      rw [h2]
      rfl
theorem ints_shaped {ks : List Nat} (h : ∀ k ∈ ks, k ≤ 1000) : SeqAt.shaped (.list (ks.map fun k : Nat => PyData.int k)) = true := by
  obtain ⟨h1, h2⟩ := ints_lay ks h
  exact shaped_of h1 (by show PyData.depthAll _ + 1 ≤ 64; omega)
theorem dp_ints {K : PySem.W.Frag} {H : Hp} : ∀ ks : List Nat, DpAll K H (ks.map fun k : Nat => V.int k) (ks.map fun k : Nat => PyData.int k)
  | [] => .nil
  | k :: r => .cons (.int _) (dp_ints r)
theorem cutV_take (xs : List V) (k : Nat) (h : k ≤ xs.length) : cutV xs none (some (k : Int)) = xs.take k := by
  unfold cutV
  rw [HT.sIx_none, HT.sIx_nat, List.drop_zero, Nat.sub_zero, Nat.min_eq_left h]
end Ask

/-! C(e, ..), what its __init__ raises wished for at the caller's slots -/
namespace Ask
open PySem L2 PySem.Spec PyProof.Rows
def tMakeS (C : Addr) (sp : Sp) (E : L2.St → XK) (t : TA) : TE := fun σ H Q => t σ H fun vs H1 => ∀ x dx, H1 x = none → H1 dx = none → dx ≠ x →
  sp (.ref x :: vs) (upd (upd H1 dx (.own x)) x (.ins C dx [])) (fun v H2 => v = .non ∧ Q (.ref x) H2) (E σ)
theorem pe_makeS {X : Cx} {CX : CXT} {k : Nat} {f C : Addr} {fd : FuncData} {ps : List Str} {sp : Sp} {E : L2.St → XK} {x : Str} {p pos : Pos} {e : Expr} {es : List Expr} {t : TA}
    (M : Mk X.K C f) (F : FnOk X.prog X.w X.K X.mg X.base CX k f fd ps sp) (hr : Room (k + 1) X.A) (hg : Gl X x) (hm : X.mg x = some (.ref C)) (hb : Binds X.K fd ps []) (hx : ∀ σ, PassesAt CX X σ (E σ)) (ha : PA X (e :: es) t)
    (hdb : (x == ("__debug__" : Str)) = false := by decide) (he : starEach (e :: es) X.env = (false, eval e X.env) :: starEach es X.env := by rfl) (hpl : (backTo pos (starEach es X.env)).any (·.1) = false := by rfl) :
    PE X (.Call (.Name x p) (e :: es) [] pos) (tMakeS C sp E t) := by
  refine ⟨fun pins s σ H Q I h => wpAny_Call_Name_kw (ld_glob I hg hm ?_ hdb)⟩
  refine PySem.W.callWith_K (h₀ := X.base) I.ok.mod.kin M.kp (thn (ha.run pos pins s σ H _ I h) fun us s1 ⟨vs, H1, I1, r, q⟩ => ⟨I1.kIn, ?_⟩) he hpl
  have w := q (s1.heap.objs.size + 1) s1.heap.objs.size (I1.hok.fresh (Nat.le_succ _)) (I1.hok.fresh (Nat.le_refl _)) (Nat.ne_of_lt (Nat.lt_succ_self _))
  have I2 := Inv.made (C := C) I1
  have r2 : Vals (V.ref (s1.heap.objs.size + 1) :: vs) (Value.ref (s1.heap.objs.size + 1) :: us) := .cons rfl r
  have len : (Value.ref (s1.heap.objs.size + 1) :: us).length = ps.length := by
    rw [← r2.length]
    exact F.len _ _ _ _ w
  have len2 : (Value.ref (s1.heap.objs.size + 1) :: us ++ []).length = ps.length := by
    rw [List.append_nil]
    exact len
  have bound := hb _ (Value.ref (s1.heap.objs.size + 1) :: us) I2.kIn len2
  rw [List.append_nil] at bound
  refine wpAny_call (make_map (f := f) I1.kIn M.makes M.init (beq_iff_eq.mp M.fn) (codeAny_mono (F.run _ X.stack _ _ ⟨Value.ref (s1.heap.objs.size + 1) :: us, []⟩ _ _ _ (E σ) (hr.make C us []) (I2.env0.make C us []) bound r2 w) fun r s' got => ?_))
  match r, got with
  | .error e, got => exact hx σ pins _ _ e s' I2 got
  | .ok .next, got => exact False.elim got
  | .ok .brk, got => exact False.elim got
  | .ok .cont, got => exact False.elim got
  | .ok (.ret u), got =>
    obtain ⟨v, H', I3, rv, ev, z⟩ := I2.after got
    subst ev
    exact ⟨rv, ⟨V.ref (s1.heap.objs.size + 1), H', I3, rfl, z⟩⟩
end Ask

namespace Ask
open PySem L2
section
variable {P : Program} {w : World} {K : PySem.W.Frag} {mg : Str → Option Value} {base : Heap}
/-! ### copied, of a number or a text -/
def spCopy : Sp := fun vs H Q _ => ∃ x : V, vs = [x] ∧ ((∃ i, x = .int i) ∨ ∃ z, x = .str z) ∧ Q x H
abbrev s_copied : Stmt := top 8
theorem sc_copied : FnScope ["value"] ["value"] (defScope s_copied) := ⟨rfl, rfl, rfl, by decide +kernel, rfl, by decide +kernel, by decide +kernel⟩
theorem ok_copied {f : Addr} {fd : FuncData} (F : Fun K "copied" "copied" s_copied f fd) (T : Blt mg) (nD : mg "dict" = none) : FnOk P w K mg base CX0 1 f fd ["value"] spCopy := by
  refine F.ok sc_copied (fun vs H Q E h => ?_) (fun cdv A outer s H vs Q E hr h => ?_)
  · obtain ⟨x, rfl, _⟩ := h
    rfl
  · obtain ⟨x, rfl, hx, k⟩ := h
    refine ⟨_, (pss_cons (ps_if (pt_val (pe_callB call_isi (by rfl) T.n_isinstance (by decide +kernel) (pa_cons (pv 0) (pa_cons (pe_bltn (v := .ty "list") (u := .type "list") rfl T.n_list (by decide +kernel) rfl) pa_nil)))) pss_never pss_nil)
      (pss_cons (ps_if (pt_val (pe_callB call_isi (by rfl) T.n_isinstance (by decide +kernel) (pa_cons (pv 0) (pa_cons (pe_bltn (v := .ty "tuple") (u := .type "tuple") rfl T.n_tuple (by decide +kernel) rfl) pa_nil)))) pss_never pss_nil)
      (pss_cons (ps_if (pt_val (pe_callB call_isi (by rfl) T.n_isinstance (by decide +kernel) (pa_cons (pv 0) (pa_cons (pe_bltn (v := .ty "dict") (u := .type "dict") rfl nD (by decide +kernel) rfl) pa_nil)))) pss_never pss_nil)
      (pss_one (ps_ret (pv 0)))))), ?_⟩
    rcases hx with ⟨i, rfl⟩ | ⟨z, rfl⟩
    · refine ⟨_, rfl, _, _, _, _, false, rfl, .ty _, .base (.int _), kit_ty (by decide +kernel), _, rfl, iteF ?_⟩
      refine ⟨_, rfl, _, _, _, _, false, rfl, .ty _, .base (.int _), kit_ty (by decide +kernel), _, rfl, iteF ?_⟩
      refine ⟨_, rfl, _, _, _, _, false, rfl, .ty _, .base (.int _), kit_ty (by decide +kernel), _, rfl, iteF ?_⟩
      exact ⟨_, rfl, k⟩
    · refine ⟨_, rfl, _, _, _, _, false, rfl, .ty _, .base (.str _), kit_ty (by decide +kernel), _, rfl, iteF ?_⟩
      refine ⟨_, rfl, _, _, _, _, false, rfl, .ty _, .base (.str _), kit_ty (by decide +kernel), _, rfl, iteF ?_⟩
      refine ⟨_, rfl, _, _, _, _, false, rfl, .ty _, .base (.str _), kit_ty (by decide +kernel), _, rfl, iteF ?_⟩
      exact ⟨_, rfl, k⟩
/-! ### the errors -/
def spErr (C : Addr) (ok : List V → Prop) (fs : List V → List (Str × V)) : Sp := fun vs H Q _ => ∃ (a : Addr) (ws : List V), vs = .ref a :: ws ∧ ok ws ∧ H a = some (exo a C none) ∧
  ∀ (H' : Hp) (dx : Addr), H dx = none → dx ≠ a → H' a = some (exo a C (some dx)) → H' dx = some (exd dx (fs ws)) → (∀ b o, b ≠ a → H b = some o → H' b = some o) → Q .non H'
def okBad : List V → Prop := fun ws => ∃ i : Int, ws = [.int i]
def fsBad : List V → List (Str × V) := fun ws => match ws with
  | [v] => [("index", v)]
  | _ => []
def okMany : List V → Prop := fun ws => ∃ (wd : Str) (n m : Int), ws = [.str wd, .int n, .int m]
def fsMany : List V → List (Str × V) := fun ws => match ws with
  | [v, n, m] => [("most", m), ("many", n), ("what", v)]
  | _ => []
abbrev s_BadLetters_init : Stmt := inClass (top 11) 0
theorem sc_BadLetters_init : FnScope ["self", "index"] ["self", "index"] (defScope s_BadLetters_init) := ⟨rfl, rfl, rfl, by decide +kernel, rfl, by decide +kernel, by decide +kernel⟩
abbrev s_TooMany_init : Stmt := inClass (top 21) 0
theorem sc_TooMany_init : FnScope ["self", "what", "many", "most"] ["self", "what", "many", "most"] (defScope s_TooMany_init) := ⟨rfl, rfl, rfl, by decide +kernel, rfl, by decide +kernel, by decide +kernel⟩
theorem ok_badInit {f fC C : Addr} {fd fdC : FuncData} (F : Fun K "__init__" "BadLetters.__init__" s_BadLetters_init f fd) (T : OexC K C) (h1 : PySem.W.findIn K (.ref C) "index" = some none)
    (GC : FnOk P w K mg base CX0 1 fC fdC ["value"] spCopy) (CP : At K mg "copied" fC fdC ["value"]) : FnOk P w K mg base CX0 2 f fd ["self", "index"] (spErr C okBad fsBad) := by
  refine F.ok sc_BadLetters_init (fun vs H Q E h => ?_) (fun cdv A outer s H vs Q E hr h => ?_)
  · obtain ⟨a, ws, rfl, ⟨i, rfl⟩, _⟩ := h
    rfl
  · obtain ⟨a, ws, rfl, ⟨i, rfl⟩, ha, k⟩ := h
    refine ⟨_, pss_one (ps_ost (pv 0) (pe_call GC hr (by rfl) CP.m CP.k CP.b .nil pass0 (pa_cons (pv 1) pa_nil))), ?_⟩
    refine ⟨_, rfl, _, rfl, .inl ⟨i, rfl⟩, _, rfl, a, C, rfl, T, h1, .inl ⟨ha, fun dx hdx hne => ?_⟩⟩
    refine k _ dx hdx hne upd_same (by rw [upd_ne hne]; exact upd_same) fun b o hb e => ?_
    rw [upd_ne hb, upd_ne (ne_of_none e hdx)]
    exact e
theorem ok_manyInit {f fC C : Addr} {fd fdC : FuncData} (F : Fun K "__init__" "TooMany.__init__" s_TooMany_init f fd) (T : OexC K C) (h1 : PySem.W.findIn K (.ref C) "what" = some none) (h2 : PySem.W.findIn K (.ref C) "many" = some none) (h3 : PySem.W.findIn K (.ref C) "most" = some none)
    (GC : FnOk P w K mg base CX0 1 fC fdC ["value"] spCopy) (CP : At K mg "copied" fC fdC ["value"]) : FnOk P w K mg base CX0 2 f fd ["self", "what", "many", "most"] (spErr C okMany fsMany) := by
  refine F.ok sc_TooMany_init (fun vs H Q E h => ?_) (fun cdv A outer s H vs Q E hr h => ?_)
  · obtain ⟨a, ws, rfl, ⟨wd, i, mo, rfl⟩, _⟩ := h
    rfl
  · obtain ⟨a, ws, rfl, ⟨wd, i, mo, rfl⟩, ha, k⟩ := h
    refine ⟨_, pss_cons (ps_ost (pv 0) (pe_call GC hr (by rfl) CP.m CP.k CP.b .nil pass0 (pa_cons (pv 1) pa_nil))) (pss_cons (ps_ost (pv 0) (pe_call GC hr (by rfl) CP.m CP.k CP.b .nil pass0 (pa_cons (pv 2) pa_nil))) (pss_one (ps_ost (pv 0) (pe_call GC hr (by rfl) CP.m CP.k CP.b .nil pass0 (pa_cons (pv 3) pa_nil))))), ?_⟩
    refine ⟨_, rfl, _, rfl, .inr ⟨_, rfl⟩, _, rfl, a, C, rfl, T, h1, .inl ⟨ha, fun dx hdx hne => ?_⟩⟩
    have e1 : upd (upd H dx (exd dx [("what", .str wd)])) a (exo a C (some dx)) a = some (exo a C (some dx)) := upd_same
    have e2 : upd (upd H dx (exd dx [("what", .str wd)])) a (exo a C (some dx)) dx = some (exd dx [("what", .str wd)]) := by rw [upd_ne hne]; exact upd_same
    have k1 : ∀ b o, b ≠ a → H b = some o → upd (upd H dx (exd dx [("what", .str wd)])) a (exo a C (some dx)) b = some o := fun b o hb e => by
      rw [upd_ne hb, upd_ne (ne_of_none e hdx)]
      exact e
    generalize upd (upd H dx (exd dx [("what", .str wd)])) a (exo a C (some dx)) = H1 at e1 e2 k1 ⊢
    refine ⟨_, rfl, _, rfl, .inl ⟨_, rfl⟩, _, rfl, a, C, rfl, T, h2, .inr ⟨dx, _, e1, e2, by show 1 ≤ 900; decide, ?_⟩⟩
    refine ⟨_, rfl, _, rfl, .inl ⟨_, rfl⟩, _, rfl, a, C, rfl, T, h3, .inr ⟨dx, _, (by rw [upd_ne hne.symm]; exact e1), upd_same, by show 2 ≤ 900; decide, ?_⟩⟩
    refine k _ dx hdx hne (by rw [upd_ne hne.symm, upd_ne hne.symm]; exact e1) upd_same fun b o hb e => ?_
    have nb := ne_of_none e hdx
    rw [upd_ne nb, upd_ne nb]
    exact k1 b o hb e
end
end Ask

/-! tuple(list), frozen: its object has no dict, so that its methods can be called -/
namespace Ask
open PySem L2 PySem.Spec PyProof.Rows
section
variable {X : Cx}
theorem call_tuple_frz : CallR X (.type "tuple") (fun xs H Q => ∃ p ys, xs = [.ref p] ∧ SqL X.K H p ys ∧ ∀ (l : Addr) (o : Obj), H l = none → o.dict = none → Q (.ref l) (upd H l (.frz o (.tup ys)))) := by
  intro pins s σ H xs us Q I r h
  obtain ⟨p, ys, rfl, hq, q⟩ := h
  obtain ⟨u, rfl, rx⟩ := vals1 r
  cases rx
  obtain ⟨its, r', pl, hz⟩ := I.list hq
  have hlen := r'.length
  refine call_tuple_list pl.isList (fun h' kp => ?_) (by simp only [List.size_toArray] <;> omega)
  have I1 : Inv X pins σ H { s with heap := h' } := I.kept (t' := s.toks) kp
  have I2 : Inv X pins σ (upd H h'.objs.size (.frz { cls := .type "tuple", data := .seq its.toArray } (.tup ys))) { s with heap := h'.push { cls := .type "tuple", data := .seq its.toArray } } :=
    I1.laid (t' := s.toks) (fun b o e => Heap.get?_push_of_some _ e) (Nat.le_refl _) (show ObjOk X.prog X.w _ _ _ (.frz _ (.tup ys)) from ⟨Heap.get?_push_size _ rfl, hz, its, r', IsTup.new _ _⟩)
  exact ⟨.ref h'.objs.size, _, I2, rfl, q _ _ (I1.hok.fresh (Nat.le_refl _)) rfl⟩
def tBMT (r : V → List V → Hp → VK → Prop) (to : TE) (t : TA) : TE := fun σ H Q => to σ H fun x H1 => (∃ (p : Addr) (o : Obj) (xs : List V), x = .ref p ∧ H1 p = some (.frz o (.tup xs)) ∧ o.dict = none) ∧ t σ H1 fun xs H2 => r x xs H2 Q
variable {o e : Expr} {es : List Expr} {to : TE} {t : TA} {name : Str} {apos cpos : Pos} {id : String} {r : V → List V → Hp → VK → Prop}
theorem pe_bmT (slot : Slot "tuple" name id) (hty : typeOf (.builtin id) = pure (.type "method_descriptor")) (hm : MtR X id r) (ho : PE X o to) (ha : PA X (e :: es) t)
    (hbase : attributeBase o name X.env (eval o X.env) = eval o X.env := by rfl)
    (hfew : ((backTo cpos (starEach (e :: es) X.env)).all (fun x => !x.1) && (backToKw cpos (keywordEach [] X.env)).all (fun x => x.1.isSome)
      && decide ((e :: es).length + ([] : List Keyword).length + (if ([] : List Keyword).isEmpty then 0 else 1) < 30)) = true := by rfl)
    (hline : (apos.endLine == cpos.line) = true := by rfl) (hs : starEach (e :: es) X.env = (false, eval e X.env) :: starEach es X.env := by rfl) (hplain : (backTo cpos (starEach es X.env)).any (·.1) = false := by rfl) :
    PE X (.Call (.Attribute o name apos) (e :: es) [] cpos) (tBMT r to t) := by
  refine ⟨fun pins s σ H Q I h => ?_⟩
  refine wpAny_Call_method_late hbase hfew hline rfl (thn (ho.run pins s σ H _ I h) fun v s1 ⟨x, H1, I1, r1, ⟨p, ob, xs, ex, hp, hd⟩, q1⟩ => ?_)
  subst ex
  obtain rfl : v = Value.ref p := r1
  obtain ⟨its, rv, pl, _⟩ := I1.tuple (.inl (.inr ⟨ob, hp⟩))
  have ho := (show ObjOk X.prog X.w H1 s1.heap p (.frz ob (.tup xs)) from I1.hok p _ hp).1
  refine ⟨"tuple", id, PySem.F.plainAttrs_tuple, slot, hty, ?_, fun a ea => ?_, ?_⟩
  · obtain ⟨o1, h1, h2, _⟩ := pl
    exact ⟨o1, h1, h2⟩
  · cases ea
    exact ⟨ob, ho, hd⟩
  · have hA := ha.run cpos pins s1 σ H1 _ I1 q1
    rw [hs] at hA ⊢
    refine Calls.callWith_builtin (by show (false || (backTo cpos (starEach es X.env)).any (·.1)) = false; rw [hplain] <;> rfl) (Calls.evalArgs_plain ?_)
    exact thn hA fun us s2 ⟨vs, H2, I2, r2, q2⟩ => hm pins s2 σ H2 (.ref p) vs _ us Q I2 rfl r2 q2
end
end Ask

namespace Ask
open PySem L2
/-- an own error class of the text, its __init__ at f -/
structure ErrAt (K : PySem.W.Frag) (mg : Str → Option Value) (x : Str) (C f : Addr) (fd : FuncData) (ps : List Str) : Prop where
  m : mg x = some (.ref C)
  o : OexC K C
  i : PySem.W.findIn K (.ref C) "__init__" = some (some (.ref f))
  t : PySem.W.typeIn K (.ref f) = some (.type "function")
  b : Binds K fd ps []
  xf : XfC K C
theorem err_made {C : Addr} {ok : List V → Prop} {fs : List V → List (Str × V)} {H0 H1 : Hp} {ws : List V} {Qx : XK} (s : Same H0 H1) (hok : ok ws) (hl : ws.length ≤ 1000)
    (k : ∀ (H' : Hp) (d : Addr), Same H0 H' → H' d = some (.xd (fs ws)) → Qx (.ref C) (some d) H') :
    ws.length ≤ 1000 ∧ ∀ a, H1 a = none → spErr C ok fs (.ref a :: (ws ++ [])) (upd H1 a (exo a C none))
      (fun v H2 => v = .non ∧ ∃ (d : Addr) (fs' : List (Str × V)), H2 a = some (exo a C (some d)) ∧ H2 d = some (exd d fs') ∧ H1 d = none ∧ Qx (.ref C) (some d) (upd (del H2 a) d (.xd fs'))) (fun _ _ _ => False) := by
  refine ⟨hl, fun a ha => ⟨a, ws, by rw [List.append_nil], hok, upd_same, fun H' dx hdx hne e1 e2 kk => ?_⟩⟩
  have h1 : H1 dx = none := by
    rw [upd_ne hne] at hdx
    exact hdx
  refine ⟨rfl, dx, _, e1, e2, h1, k _ dx (fun b o e => ?_) upd_same⟩
  have e' := s b o e
  have nb : b ≠ a := ne_of_none e' ha
  rw [upd_ne (ne_of_none e' h1), del_ne nb]
  exact kk b o nb (by rw [upd_ne nb]; exact e')
theorem for_enum {K : PySem.W.Frag} {ta : TA} {g : TG} {tb u : TS} {D : Ends} {σ : L2.St} {H : Hp} {J : It} {n : Nat} {G : Hp → Prop} {Y : Nat → Hp → V → Hp → Prop} (f : ∀ R : It → Hp → Prop, R J H → iEnumA K ta σ H R)
    (wk : Walk J n G Y) (Pv : Nat → L2.St → Hp → Prop) (h0 : Pv 0 σ H) (hG : ∀ i σ H, i ≤ n → Pv i σ H → G H)
    (hs : ∀ i x σ H H', i < n → Pv i σ H → Y i H x H' → g x σ H' fun σ2 H2 => tb { D with nx := Pv (i + 1), ct := Pv (i + 1), bk := u D } σ2 H2) (hd : ∀ σ H, Pv n σ H → u D σ H) :
    tSeq (tFor (iEnumA K ta) g tb) u D σ H := by
  delta tSeq tFor
  exact f _ (for_it (D := { D with nx := u D }) wk Pv h0 hG hs hd)
theorem seqT_same {K : PySem.W.Frag} {H H' : Hp} {a : Addr} {xs : List V} (e : Same H H') (h : SqT K H a xs) : SqT K H' a xs := by
  rcases h with (h | ⟨o, h⟩) | h
  · exact .inl (.inl (e _ _ h))
  · exact .inl (.inr ⟨o, e _ _ h⟩)
  · exact .inr h
section
variable {P : Program} {w : World} {K : PySem.W.Frag} {mg : Str → Option Value} {base : Heap}
/-! ### Letters(words) -/
def spLet (K : PySem.W.Frag) (CL CB CM : Addr) : Sp := fun vs H Q E => ∃ (p dx a : Addr) (xs : List V) (ds : List PyData) (N : Addr → Prop), vs = [.ref p, .ref a] ∧ H p = some (.ins CL dx []) ∧ (SqL K H a xs ∨ SqT K H a xs) ∧ ItL N H xs ds ∧ xs.length ≤ 100 ∧
  (∀ (H' : Hp) (d : Addr) (i : Int), res ds = .tuple [.str "letters", .int i] → Same H H' → H' d = some (.xd (fsBad [.int i])) → E (.ref CB) (some d) H') ∧
  (∀ (H' : Hp) (d : Addr), 12 < ds.length → Same H H' → H' d = some (.xd (fsMany [.str "letters", .int (ds.length : Nat), .int 12])) → E (.ref CM) (some d) H') ∧
  (∀ (H' : Hp) (t : Addr) (o : Obj), res ds = .none → o.dict = none → H' p = some (.ins CL dx [("words", .ref t)]) → H' t = some (.frz o (.tup xs)) → (∀ b o, b ≠ p → H b = some o → H' b = some o) → Q .non H')
abbrev s_Letters_init : Stmt := inClass (top 27) 0
theorem sc_Letters_init : FnScope ["self", "words", "many", "kept", "index", "word"] ["self", "words"] (defScope s_Letters_init) := ⟨rfl, rfl, rfl, by decide +kernel, rfl, by decide +kernel, by decide +kernel⟩
theorem ok_letInit {f fI fB fM CL CB CM : Addr} {fd fdI fdB fdM : FuncData} (F : Fun K "__init__" "Letters.__init__" s_Letters_init f fd) (T : Blt mg) (C : Gv K mg) (hC : Cls K CL) (hA : NoAttr K CL "words")
    (GI : FnOk P w K mg base CX0 2 fI fdI ["value"] (spIsL K)) (I : At K mg "is_letter" fI fdI ["value"])
    (FB : FnOk P w K mg base CX0 2 fB fdB ["self", "index"] (spErr CB okBad fsBad)) (EB : ErrAt K mg "BadLetters" CB fB fdB ["self", "index"])
    (FM : FnOk P w K mg base CX0 2 fM fdM ["self", "what", "many", "most"] (spErr CM okMany fsMany)) (EM : ErrAt K mg "TooMany" CM fM fdM ["self", "what", "many", "most"]) :
    FnOk P w K mg base (L2.CX P w) 4 f fd ["self", "words"] (spLet K CL CB CM) := by
  refine F.okX sc_Letters_init (fun vs H Q E h => ?_) (fun cdv A outer s H vs Q E hr h => ?_)
  · obtain ⟨p, dx, a, xs, ds, N, rfl, _⟩ := h
    rfl
  · obtain ⟨p, dx, a, xs, ds, N, rfl, hp, hS, hI, hn, kB, kM, kQ⟩ := h
    have hu65 : A.units + 3 + 65 < cLine := by have := hr.un; have e : (A.deeper (PyProof.Rows.envOfC (Str.ofString "Letters.__init__") (defScope s_Letters_init) s.heap.objs.size f cdv)).units = A.units + 3 := rfl; omega
    have hr2 := hr.mono (j := 2) (by decide)
    refine ⟨_, (pss_cons (ps_set (i := 2) sc_Letters_init.nd rfl (Or.inl rfl) (pe_callB call_len_seq (by rfl) T.n_len (by decide +kernel) (pa_cons (pv 1) pa_nil)))
      (pss_cons (ps_if (pt_cmpR op_gt (pv 2) (pe_gv rfl C.mostL) (nomark _)) (pss_one (ps_raise rfl (takes_of rfl rfl rfl rfl) (pmk_oex EM.o EM.i EM.t FM hr EM.b .nil pass0 (by rfl) EM.m (pa_cons pe_str (pa_cons (pv 2) (pa_cons (pe_gv rfl C.mostL) pa_nil)))))) pss_nil)
      (pss_cons (ps_if (pt_cmpR op_eq (pv 2) pe_int (nomark _)) (pss_one (ps_raise rfl (takes_of rfl rfl rfl rfl) (pmk_oex EB.o EB.i EB.t FB hr EB.b .nil pass0 (by rfl) EB.m (pa_cons pe_int pa_nil)))) pss_nil)
      (pss_cons (ps_set (i := 3) sc_Letters_init.nd rfl (Or.inl rfl) (pe_lst pa_nil))
      (pss_cons (ps_for (passes_of rfl) rfl (pi_enumA (by rfl) T.n_enumerate (pa_cons (pv 1) pa_nil)) (pg_tup rfl (pgs_cons (pg_name (i := 4) sc_Letters_init.nd rfl (Or.inl rfl)) (pgs_cons (pg_name (i := 5) sc_Letters_init.nd rfl (Or.inl rfl)) pgs_nil))) (pss_cons (ps_if (PW.pt (pw_or (pt_not (pt_val (pe_call GI hr2 (by rfl) I.m I.k I.b .nil pass0 (pa_cons (pv 5) pa_nil)))) (pw_or1 (pt_cmpR (op_inD hu65) (pv 5) (pv 3) rfl)))) (pss_one (ps_raise rfl (takes_of rfl rfl rfl rfl) (pmk_oex EB.o EB.i EB.t FB hr EB.b .nil pass0 (by rfl) EB.m (pa_cons (pv 4) pa_nil)))) pss_nil)
      (pss_one (ps_expr (pe_bm PySem.F.plainAttrs_list PySem.F.slot_list_append PySem.F.type_list_append mt_append (pv 3) (pa_cons (pv 5) pa_nil))))))
      (pss_one (ps_fld (pv 0) (pe_callTy call_tuple_frz (by rfl) T.n_tuple (by decide +kernel) (pa_cons (pv 3) pa_nil)) rfl))))))), ?_⟩
    have hlen := hI.len
    have z1 : (1000 : Nat) ≤ sizeLine := by decide
    have fit := hI.fit
    refine ⟨_, rfl, a, xs, rfl, hS, _, rfl, _, _, rfl, rfl, _, rfl, ite2 (fun h1 => ?_) (fun h1 => ?_)⟩
    · have h1 : (12 : Int) < (xs.length : Nat) := of_decide_eq_true h1
      refine ⟨_, rfl, err_made (Same.refl H) ⟨_, _, _, rfl⟩ (by show 3 ≤ 1000; decide) (fun H' d s' e => kM H' d (by omega) s' ?_)⟩
      rw [← hlen]
      exact e
    have h1 : ¬ 12 < ds.length := fun q => h1 (decide_eq_true (by omega))
    refine ⟨_, rfl, rfl, _, rfl, ite2 (fun h2 => ?_) (fun h2 => ?_)⟩
    · have h2 : V.int ((xs.length : Nat) : Int) = V.int 0 := of_decide_eq_true h2
      injection h2 with h2
      exact err_made (Same.refl H) ⟨_, rfl⟩ (by show 1 ≤ 1000; decide) (fun H' d s' e => kB H' d 0 (res_none (by omega)) s' e)
    have h2 : 0 < ds.length := by
      have : ¬ ((xs.length : Nat) : Int) = 0 := fun q => h2 (decide_eq_true (congrArg V.int q))
      omega
    refine ⟨Nat.zero_le _, fun L hL => ?_⟩
    have s1 := Ask.Same.made1 (o := .lst []) (Same.refl H) hL
    have hL1 : upd H L (.lst []) L = some (.lst (xs.take 0)) := upd_same
    generalize upd H L (.lst []) = H1 at s1 hL1 ⊢
    obtain ⟨J, G, wk, hG, fits⟩ : ∃ (J : It) (G : Hp → Prop), Walk J xs.length G (YPair (fun i => some (.int (i : Nat))) (fun i => xs[i]?)) ∧ (∀ H', Same H H' → G H') ∧
        ∀ (R : It → Hp → Prop), R J H1 → iEnumA K (tCons (tVar 1) tNil) [some (.ref p), some (.ref a), some (.int (xs.length : Nat)), some (.ref L), none, none] H1 R := by
      rcases hS with hS | hS
      · exact ⟨Ite K a, _, walk_enum, fun H' s' => s'.seq hS, fun R r => ⟨_, rfl, a, xs, rfl, .inl ⟨s1.seq hS, r⟩⟩⟩
      · exact ⟨IteT K a, _, walk_enumT, fun H' s' => seqT_same s' hS, fun R r => ⟨_, rfl, a, xs, rfl, .inr ⟨seqT_same s1 hS, r⟩⟩⟩
    refine for_enum fits wk (fun i σ' H' => ∃ o4 o5 : Option V, σ' = [some (.ref p), some (.ref a), some (.int (xs.length : Nat)), some (.ref L), o4, o5] ∧ Same H H' ∧ H' L = some (.lst (xs.take i)) ∧ ∀ j < i, badAt ds j = false)
      ⟨none, none, rfl, s1, hL1, fun j hj => absurd hj (Nat.not_lt_zero _)⟩ (fun i σ' H' _ ⟨_, _, _, s', _⟩ => hG H' s') ?_ ?_
    · rintro i x σ' H2 H3 hi ⟨o4, o5, rfl, s2, hL2, hno⟩ ⟨t, x0, y0, rfl, ht, rfl, ex, ey⟩
      cases ex
      obtain ⟨v, d, hv, hd, hvd⟩ := hI.get i hi
      replace ey : xs[i]? = some y0 := ey
      obtain rfl : v = y0 := Option.some.inj (hv.symm.trans ey)
      clear ey
      have s3 := Ask.Same.made1 (o := .tup [.int (i : Nat), v]) s2 ht
      have hL3 : upd H2 t (.tup [.int (i : Nat), v]) L = some (.lst (xs.take i)) := by rw [upd_ne (ne_of_none hL2 ht)]; exact hL2
      have ht3 : upd H2 t (.tup [.int (i : Nat), v]) t = some (.tup [.int (i : Nat), v]) := upd_same
      generalize upd H2 t (.tup [.int (i : Nat), v]) = H4 at s3 hL3 ht3 ⊢
      have e0 : badAt ds i = (!isL d || (ds.take i).any fun z => PyData.eqv z d) := by
        unfold badAt
        rw [hd]
      have bad : ∀ H5, Same H H5 → badAt ds i = true → tMkO CB (spErr CB okBad fsBad) [] (tCons (tVar 4) tNil) [some (.ref p), some (.ref a), some (.int (xs.length : Nat)), some (.ref L), some (.int (i : Nat)), some v] H5 fun cls d H' => E cls d H' := fun H5 s5 q =>
        ⟨_, rfl, err_made s5 ⟨_, rfl⟩ (by show 1 ≤ 1000; decide) (fun H' d s' e => kB H' d i (res_at h1 (by omega) q hno) s' e)⟩
      refine ⟨t, _, rfl, SqT.of ht3, rfl, _, _, rfl, _, _, rfl, rfl, ?_⟩
      have hvd4 := hvd.same s3
      refine ⟨_, rfl, v, d, rfl, hvd4.dp, hvd4.itm, fun H5 s5 => ⟨_, rfl, ?_⟩⟩
      have s35 := s3.trans s5
      have hL5 := s5 _ _ hL3
      refine ite2 (fun q => ?_) (fun q => ?_)
      · exact iteT (bad H5 s35 (by rw [e0]; have q : (!isL d) = true := q; rw [q]; rfl))
      · have q : (!isL d) = false := (Bool.not_eq_true _).mp q
        have hT := (hI.mp fun v d h => h.same s35).take i
        refine ⟨_, rfl, _, rfl, d, ds.take i, (hvd.same s35).dp, .lst (SqL.of hL5) hT.dp, (itm_fit hvd.itm).shaped, hT.fit.shapedL, _, rfl, ?_⟩
        have e1 : badAt ds i = (ds.take i).any fun z => PyData.eqv z d := by rw [e0, q, Bool.false_or]
        refine ite2 (fun q => bad H5 s35 (by rw [e1]; exact q)) (fun q => ?_)
        have q : badAt ds i = false := by rw [e1]; exact (Bool.not_eq_true _).mp q
        refine ⟨_, rfl, .inl ⟨rfl, _, SqL.of hL5⟩, _, rfl, L, _, _, rfl, rfl, hL5, ?_, ?_⟩
        · rw [List.length_take]
          omega
        · refine ⟨_, _, rfl, Ask.Same.upd_new s35 hL, ?_, fun j hj => ?_⟩
          · rw [upd_same, List.take_add_one, hv]
            rfl
          · rcases Nat.lt_succ_iff_lt_or_eq.mp hj with hj | rfl
            · exact hno j hj
            · exact q
    · rintro σ' H2 ⟨o4, o5, rfl, s2, hL2, hno⟩
      rw [List.take_length] at hL2
      refine ⟨_, rfl, L, xs, rfl, SqL.of hL2, fun t ob ht hob => ?_⟩
      have npt : p ≠ t := ne_of_none (s2 _ _ hp) ht
      refine ⟨_, rfl, p, CL, dx, [], rfl, (by rw [upd_ne npt]; exact s2 _ _ hp), hC, hA, (by show 0 < 1000; decide), ?_⟩
      refine kQ _ t ob (res_good h1 h2 (by rw [← hlen]; exact hno)) hob upd_same (by rw [upd_ne npt.symm]; exact upd_same) fun b o hb e => ?_
      have e' := s2 _ _ e
      rw [upd_ne hb, upd_ne (ne_of_none e' ht)]
      exact e'
end
end Ask

/-! a loop over a list or a tuple, a pair that is a list or a tuple -/
namespace Ask
open PySem L2 PySem.Spec PyProof.Rows
theorem pg_or {X : Cx} {tg : Expr} {g1 g2 : TG} (h1 : PG X tg g1) (h2 : PG X tg g2) : PG X tg (fun v σ H Q => g1 v σ H Q ∨ g2 v σ H Q) :=
  ⟨fun pins s σ H v u Q I r h => h.elim (h1.run pins s σ H v u Q I r) (h2.run pins s σ H v u Q I r)⟩
theorem pi_or {X : Cx} {tg e : Expr} {w1 w2 : TI} (h1 : PI X tg e w1) (h2 : PI X tg e w2) : PI X tg e (fun σ H R => w1 σ H R ∨ w2 σ H R) :=
  ⟨fun pins s σ H R I h => h.elim (h1.run pins s σ H R I) (h2.run pins s σ H R I)⟩
end Ask

namespace Ask
open PySem L2
/-! ### runs, joined: the mirror -/
abbrev Run := Str × Int
def jstep (st : List Run × Option Run) (r : Run) : List Run × Option Run := match st.2 with
  | some l => if l.1 = r.1 then (st.1, some (l.1, l.2 + r.2)) else (st.1 ++ [l], some r)
  | none => (st.1, some r)
def jrun (rs : List Run) : List Run × Option Run := rs.foldl jstep ([], none)
def joinR (rs : List Run) : List Run := (jrun rs).1 ++ (jrun rs).2.toList
theorem jstep_eq {st1 : List Run} {l r : Run} (e : l.1 = r.1) : jstep (st1, some l) r = (st1, some (l.1, l.2 + r.2)) := if_pos e
theorem jstep_ne {st1 : List Run} {l r : Run} (e : ¬ l.1 = r.1) : jstep (st1, some l) r = (st1 ++ [l], some r) := if_neg e
theorem jrun_more {rs : List Run} {i : Nat} {r : Run} (h : rs[i]? = some r) : jrun (rs.take (i + 1)) = jstep (jrun (rs.take i)) r := by
  unfold jrun
  rw [List.take_add_one, h, List.foldl_append]
  rfl
theorem jrun_len (rs : List Run) : (jrun rs).1.length ≤ rs.length := by
  have : ∀ (rs : List Run) (st : List Run × Option Run), (rs.foldl jstep st).1.length ≤ st.1.length + rs.length := by
    intro rs
    induction rs with
    | nil => intro st; simp
    | cons r rs ih =>
      intro st
      rw [List.foldl_cons]
      refine Nat.le_trans (ih _) ?_
      have : (jstep st r).1.length ≤ st.1.length + 1 := by
        unfold jstep
        split
        · split
          · exact Nat.le_succ _
          · rw [List.length_append]; exact Nat.le_refl _
        · exact Nat.le_succ _
      rw [List.length_cons]
      omega
  have := this rs ([], none)
  simpa [jrun] using this
/-- a run as a value: a list or a tuple of a text and a number -/
def RunV (K : PySem.W.Frag) (H : Hp) (v : V) (r : Run) : Prop := ∃ b, v = .ref b ∧ (SqL K H b [.str r.1, .int r.2] ∨ SqT K H b [.str r.1, .int r.2])
def RunsV (K : PySem.W.Frag) (H : Hp) (xs : List V) (rs : List Run) : Prop := xs.length = rs.length ∧ ∀ (i : Nat) (v : V) (r : Run), xs[i]? = some v → rs[i]? = some r → RunV K H v r
/-- made pairs -/
def PairsV (H : Hp) (xs : List V) (rs : List Run) : Prop := xs.length = rs.length ∧ ∀ (i : Nat) (v : V) (r : Run), xs[i]? = some v → rs[i]? = some r → ∃ b, v = .ref b ∧ H b = some (.tup [.str r.1, .int r.2])
theorem RunV.same {K : PySem.W.Frag} {H H' : Hp} {v : V} {r : Run} (h : RunV K H v r) (s : Same H H') : RunV K H' v r := by
  obtain ⟨b, e, h | h⟩ := h
  · exact ⟨b, e, .inl (s.seq h)⟩
  · exact ⟨b, e, .inr (seqT_same s h)⟩
theorem PairsV.same {H H' : Hp} {xs : List V} {rs : List Run} (h : PairsV H xs rs) (s : Same H H') : PairsV H' xs rs :=
  ⟨h.1, fun i v r h1 h2 => let ⟨b, e, h3⟩ := h.2 i v r h1 h2; ⟨b, e, s _ _ h3⟩⟩
theorem PairsV.nil {H : Hp} : PairsV H [] [] := ⟨rfl, fun i v r h _ => by simp at h⟩
theorem PairsV.app {H : Hp} {xs : List V} {rs : List Run} {b : Addr} {r : Run} (h : PairsV H xs rs) (hb : H b = some (.tup [.str r.1, .int r.2])) : PairsV H (xs ++ [.ref b]) (rs ++ [r]) := by
  refine ⟨by rw [List.length_append, List.length_append, h.1]; rfl, fun i v r' h1 h2 => ?_⟩
  by_cases hi : i < xs.length
  · rw [List.getElem?_append_left hi] at h1
    rw [List.getElem?_append_left (by rw [← h.1]; exact hi)] at h2
    exact h.2 i v r' h1 h2
  · rw [List.getElem?_append_right (by omega)] at h1
    rw [List.getElem?_append_right (by rw [← h.1]; omega), ← h.1] at h2
    have e : i - xs.length = 0 := by
      have := (List.getElem?_eq_some_iff.mp h1).1
      have : i - xs.length < 1 := this
      omega
    rw [e] at h1 h2
    cases h1
    cases h2
    exact ⟨b, rfl, hb⟩
/-- PairsV stands where only what is no pair of it is written -/
theorem PairsV.mut {H : Hp} {xs ys : List V} {rs : List Run} {L : Addr} {o : HO} (h : PairsV H xs rs) (hL : H L = some (.lst ys)) : PairsV (upd H L o) xs rs :=
  ⟨h.1, fun i v r h1 h2 => let ⟨b, e, h3⟩ := h.2 i v r h1 h2; ⟨b, e, by rw [upd_ne (ne_of h3 hL (by intro z; cases z))]; exact h3⟩⟩
theorem for_any {wi : TI} {g : TG} {tb u : TS} {D : Ends} {σ : L2.St} {H : Hp} {J : It} {n : Nat} {G : Hp → Prop} {Y : Nat → Hp → V → Hp → Prop} (f : ∀ R : It → Hp → Prop, R J H → wi σ H R)
    (wk : Walk J n G Y) (Pv : Nat → L2.St → Hp → Prop) (h0 : Pv 0 σ H) (hG : ∀ i σ H, i ≤ n → Pv i σ H → G H)
    (hs : ∀ i x σ H H', i < n → Pv i σ H → Y i H x H' → g x σ H' fun σ2 H2 => tb { D with nx := Pv (i + 1), ct := Pv (i + 1), bk := u D } σ2 H2) (hd : ∀ σ H, Pv n σ H → u D σ H) :
    tSeq (tFor wi g tb) u D σ H := by
  delta tSeq tFor
  exact f _ (for_it (D := { D with nx := u D }) wk Pv h0 hG hs hd)
def lastV : Option Run → V
  | some r => .str r.1
  | none => .non
def totV : Option Run → V
  | some r => .int r.2
  | none => .int 0
section
variable {P : Program} {w : World} {K : PySem.W.Frag} {mg : Str → Option Value} {base : Heap}
def spJoined (K : PySem.W.Frag) : Sp := fun vs H Q _ => ∃ (a : Addr) (xs : List V) (rs : List Run), vs = [.ref a] ∧ (SqL K H a xs ∨ SqT K H a xs) ∧ RunsV K H xs rs ∧ rs.length ≤ 10000 ∧
  ∀ (H' : Hp) (t : Addr) (ks : List V), Same H H' → H' t = some (.tup ks) → PairsV H' ks (joinR rs) → Q (.ref t) H'
end
end Ask

namespace Ask
open PySem L2
theorem RunsV.same {K : PySem.W.Frag} {H H' : Hp} {xs : List V} {rs : List Run} (h : RunsV K H xs rs) (s : Same H H') : RunsV K H' xs rs := ⟨h.1, fun i v r h1 h2 => (h.2 i v r h1 h2).same s⟩
theorem PairsV.runs {K : PySem.W.Frag} {H : Hp} {xs : List V} {rs : List Run} (h : PairsV H xs rs) : RunsV K H xs rs := ⟨h.1, fun i v r h1 h2 => let ⟨b, e, h3⟩ := h.2 i v r h1 h2; ⟨b, e, .inr (SqT.of h3)⟩⟩
/-- how many letters runs tell -/
def sizeR (rs : List Run) : Int := (rs.map (·.2)).sum
theorem ret_cb {r : List V → Hp → VK → Prop} {t : TE} {D : Ends} {σ : L2.St} {H : Hp} (h : t σ H fun x H1 => r [x] H1 D.rt) : tRet (tCB r (tCons t tNil)) D σ H := h
theorem lc_any {wi : TI} {g : TG} {tt : TT} {te : TE} {vs : List Nat} {σ : L2.St} {H : Hp} {Q : VK} {J : It} {n : Nat} {G : Hp → Prop} {Y : Nat → Hp → V → Hp → Prop} (f : ∀ R : It → Hp → Prop, R J H → wi σ H R) (wk : Walk J n G Y)
    (h : ∀ D, H D = none → ∃ Pv : Nat → Hp → Prop, Pv 0 (upd H D (.lst [])) ∧ (∀ i H, i ≤ n → Pv i H → G H) ∧
      (∀ i x H H', i < n → Pv i H → Y i H x H' → g x (wipe σ vs) H' fun σ2 H2 => wipe σ2 vs = wipe σ vs ∧ tt σ2 H2 fun b H3 =>
        if b = true then te σ2 H3 fun y H4 => ∃ acc, H4 D = some (.lst acc) ∧ acc.length < sizeLine ∧ Pv (i + 1) (upd H4 D (.lst (acc ++ [y]))) else Pv (i + 1) H3) ∧ (∀ H, Pv n H → Q (.ref D) H)) :
    tLc wi g tt te vs σ H Q := by
  delta tLc
  exact f _ fun D hD => let ⟨Pv, h0, hG, hs, hd⟩ := h D hD; lc_it wk Pv h0 hG hs hd
section
variable {P : Program} {w : World} {K : PySem.W.Frag} {mg : Str → Option Value} {base : Heap}
def spSize (K : PySem.W.Frag) : Sp := fun vs H Q _ => ∃ (a : Addr) (xs : List V) (rs : List Run), vs = [.ref a] ∧ (SqL K H a xs ∨ SqT K H a xs) ∧ RunsV K H xs rs ∧ rs.length ≤ 10000 ∧ ∀ H', Same H H' → Q (.int (sizeR rs)) H'
end
end Ask

namespace Ask
open PySem L2
section
variable {P : Program} {w : World} {K : PySem.W.Frag} {mg : Str → Option Value} {base : Heap}
/-! ### is_whole, of any value whose kind is known -/
def spWhole (K : PySem.W.Frag) : Sp := fun vs H Q _ => ∃ (v : V) (t : Value) (b c : Bool), vs = [v] ∧ TyX K H v t ∧ PySem.W.kitOne K t (.type "int") = some b ∧ PySem.W.kitOne K t (.type "bool") = some c ∧ Q (.bl (b && !c)) H
/-! ### is_list_of -/
def spListOf (K : PySem.W.Frag) : Sp := fun vs H Q _ => ∃ (v : V) (t : Value) (m : Int), vs = [v, .int m] ∧ TyX K H v t ∧
  ((PySem.W.kitAny K t [.type "list", .type "tuple"] = some false ∧ ∀ H', Same H H' → Q (.bl false) H') ∨
    (PySem.W.kitAny K t [.type "list", .type "tuple"] = some true ∧ ∃ (a : Addr) (xs : List V), v = .ref a ∧ (SqL K H a xs ∨ SqT K H a xs) ∧ ∀ H', Same H H' → Q (.bl (decide ((xs.length : Int) = m))) H'))
theorem tyx_same {H H' : Hp} {v : V} {t : Value} (h : TyX K H v t) (s : Same H H') : TyX K H' v t := by
  cases h with
  | base b =>
    cases b with
    | non => exact .base .non
    | bl y => exact .base (.bl y)
    | int i => exact .base (.int i)
    | str y => exact .base (.str y)
    | flt y => exact .base (.flt y)
    | lst e => exact .base (.lst (s _ _ e))
    | frz e => exact .base (.frz (s _ _ e))
    | tup e => exact .base (.tup (s _ _ e))
    | dK e => exact .base (.dK (s _ _ e))
    | dT e => exact .base (.dT (s _ _ e))
    | ins e cl ha hn ht hm => exact .base (.ins (s _ _ e) cl ha hn ht hm)
  | byt b => exact .byt b
  | set e => exact .set (s _ _ e)
  | kList e c => exact .kList e c
  | kTuple e c => exact .kTuple e c
  | kDict e c => exact .kDict e c
  | fTuple e => exact .fTuple (s _ _ e)
  | fDict e => exact .fDict (s _ _ e)
end
end Ask

/-! an instance's own __contains__, __len__, __eq__, each by what its def promises -/
namespace Ask
open PySem L2 PySem.Spec PyProof.Rows
section
variable {X : Cx} {CX : CXT} {k : Nat} {C f : Addr} {fd : FuncData} {ps : List Str} {sp : Sp} {E : XK}
theorem run_at {A : Around} {pins : List (Addr × Obj)} {σ : L2.St} {H : Hp} {s : Shared} {Q : VK} {us : List Value} {vs : List V} (F : FnOk X.prog X.w X.K X.mg X.base CX k f fd ps sp) (hr : Room k A) (hfr : A.frames = X.A.frames) (hb : Binds X.K fd ps []) (hx : Passes CX X E)
    (I : Inv X pins σ H s) (r : Vals vs us) (h : sp vs H Q E) : wpAny (model X.prog X.w) A (call (.ref f) us) (EP X pins σ Q) X.xe s := by
  have hl : us.length = ps.length := by rw [← r.length]; exact F.len _ _ _ _ h
  have b := hb s us I.kIn (by rw [List.append_nil]; exact hl)
  rw [List.append_nil] at b
  have e0 : Env0 X.prog X.w X.K X.mg X.base A X.stack s H := by
    have e := I.env0
    exact ⟨by rw [hfr]; exact e.frames, e.mod, e.bs, e.bsz, e.funs, e.frf, e.hok, e.bare⟩
  refine wpAny_call (codeAny_mono (F.run A X.stack s H ⟨us, []⟩ us vs Q E hr e0 b r h) fun r s' hq => ?_)
  cases r with
  | error e => exact hx pins σ H s e s' I hq
  | ok fl =>
    cases fl with
    | ret u => exact I.after hq
    | next => exact False.elim hq
    | brk => exact False.elim hq
    | cont => exact False.elim hq
/-- x in y, y an instance of C -/
def rInI (C : Addr) (sp : Sp) (E : XK) (neg : Bool) : R2 := fun x y H Q => ∃ (a dx : Addr) (fs : List (Str × V)), y = .ref a ∧ H a = some (.ins C dx fs) ∧ sp [.ref a, x] H (fun v H' => ∃ b : Bool, v = .bl b ∧ Q (.bl (if neg then !b else b)) H') E
theorem op_inI (F : FnOk X.prog X.w X.K X.mg X.base CX k f fd ps sp) (hr : Room k X.A) (hb : Binds X.K fd ps []) (hx : Passes CX X E) (hs : PySem.W.findIn X.K (.ref C) "__contains__" = some (some (.ref f))) (hf : PySem.W.isFn X.K (.ref f) = true) :
    OpR X (compareOp .In) (rInI C sp E false) := by
  intro pins s σ H x y v u Q I rx ry h
  obtain ⟨a, dx, fs, rfl, ha, q⟩ := h
  cases ry
  obtain ⟨mA, J, _⟩ := ins_get I.hok ha
  obtain ⟨od, J, _⟩ := J.look
  obtain ⟨m, hF⟩ := I.fr
  refine PySem.W.in_K hF I.ok.mod.kin J hs hf (thn (run_at (vs := [.ref a, x]) F hr rfl hb hx I (.cons rfl (.cons rx .nil)) q) fun r s' ⟨z, H', I', rz, b, ez, q'⟩ => ?_)
  subst ez
  cases rz
  exact wpAny_truthy_bool ⟨.bl b, H', I', rfl, q'⟩
theorem op_notInI (F : FnOk X.prog X.w X.K X.mg X.base CX k f fd ps sp) (hr : Room k X.A) (hb : Binds X.K fd ps []) (hx : Passes CX X E) (hs : PySem.W.findIn X.K (.ref C) "__contains__" = some (some (.ref f))) (hf : PySem.W.isFn X.K (.ref f) = true) :
    OpR X (compareOp .NotIn) (rInI C sp E true) := by
  intro pins s σ H x y v u Q I rx ry h
  obtain ⟨a, dx, fs, rfl, ha, q⟩ := h
  cases ry
  obtain ⟨mA, J, _⟩ := ins_get I.hok ha
  obtain ⟨od, J, _⟩ := J.look
  obtain ⟨m, hF⟩ := I.fr
  refine PySem.W.notIn_K hF I.ok.mod.kin J hs hf (thn (run_at (vs := [.ref a, x]) F hr rfl hb hx I (.cons rfl (.cons rx .nil)) q) fun r s' ⟨z, H', I', rz, b, ez, q'⟩ => ?_)
  subst ez
  cases rz
  exact wpAny_truthy_bool ⟨.bl (!b), H', I', rfl, q'⟩
/-- len(x), x an instance of C -/
theorem call_lenI (F : FnOk X.prog X.w X.K X.mg X.base CX k f fd ps sp) (hr : Room (k + 1) X.A) (hb : Binds X.K fd ps []) (hx : Passes CX X E) (hs : PySem.W.findIn X.K (.ref C) "__len__" = some (some (.ref f))) (hf : PySem.W.isFn X.K (.ref f) = true) :
    CallR X (.builtin "len") (fun xs H Q => ∃ (a dx : Addr) (fs : List (Str × V)), xs = [.ref a] ∧ H a = some (.ins C dx fs) ∧ sp [.ref a] H (fun v H' => ∃ n : Nat, v = .int n ∧ n ≤ 16777216 ∧ Q (.int n) H') E) := by
  intro pins s σ H xs us Q I r h
  obtain ⟨a, dx, fs, rfl, ha, q⟩ := h
  obtain ⟨u, rfl, ra⟩ := vals1 r
  obtain rfl : u = Value.ref a := ra
  obtain ⟨mA, J, _⟩ := ins_get I.hok ha
  obtain ⟨od, J, _⟩ := J.look
  obtain ⟨m, hF⟩ := I.fr
  refine PySem.W.len_K hF I.ok.mod.kin J hs hf (thn (run_at (vs := [.ref a]) F hr.in1 rfl hb hx I (.cons rfl .nil) q) fun r s' ⟨z, H', I', rz, n, ez, hn, q'⟩ => ?_)
  subst ez
  obtain ⟨t, rfl⟩ := rz
  exact ⟨⟨by omega, by omega⟩, ⟨.int n, H', I'.tok _, ⟨_, rfl⟩, q'⟩⟩
/-- x == y, both instances of C -/
theorem op_eqI (F : FnOk X.prog X.w X.K X.mg X.base CX k f fd ps sp) (hr : Room k X.A) (hb : Binds X.K fd ps []) (hx : Passes CX X E) (hs : PySem.W.findIn X.K (.ref C) "__eq__" = some (some (.ref f))) (hf : PySem.W.isFn X.K (.ref f) = true) :
    OpR X (compareOp .Eq) (fun x y H Q => ∃ (a b dx dy : Addr) (fs gs : List (Str × V)), x = .ref a ∧ y = .ref b ∧ H a = some (.ins C dx fs) ∧ H b = some (.ins C dy gs) ∧ sp [.ref a, .ref b] H (fun v H' => ∃ c : Bool, v = .bl c ∧ Q (.bl c) H') E) := by
  intro pins s σ H x y v u Q I rx ry h
  obtain ⟨a, b, dx, dy, fs, gs, rfl, rfl, ha, hb', q⟩ := h
  cases rx
  cases ry
  obtain ⟨mA, J, _⟩ := ins_get I.hok ha
  obtain ⟨mB, J', _⟩ := ins_get I.hok hb'
  obtain ⟨od, J, _⟩ := J.look
  obtain ⟨od', J', _⟩ := J'.look
  obtain ⟨m, hF⟩ := I.fr
  show wpAny (model X.prog X.w) X.A (richCompare .Eq (.ref a) (.ref b)) (EP X pins σ Q) X.xe s
  refine PySem.W.cmp_K (op := .Eq) (tb := .ref C) hr.units0 hF I.ok.mod.kin J J'.type (by simp [PySem.W.notFirst]) hs hf (thn (run_at (vs := [.ref a, .ref b]) F hr rfl hb hx I (.cons rfl (.cons rfl .nil)) q) fun r s' ⟨z, H', I', rz, c, ez, q'⟩ => ?_)
  subst ez
  cases rz
  exact ⟨.bl c, H', I', rfl, q'⟩
/-- a class over object with its own __eq__ at f and no __ne__ -/
def OwnNe (K : PySem.W.Frag) (C f : Addr) : Prop :=
  ∃ (nm q : Str) (N : Addr) (bs : List Value) (hdct : Bool) (sn : List Str) (sub : List Value) (ab : Bool) (col : Option Bool) (dd : Option Addr) (k0 k1 k2 k3 k5 : Option Value) (newId : String) (oN : Obj) (es : Array DictEntry) (ep : Nat) (of : Obj),
    K.lookup C = some (excClassObj nm q C N bs [.type "object"] hdct sn sub ab col dd k0 k1 k2 k3 k5 newId) ∧ K.lookup N = some oN ∧ oN.data = .dict es ep ∧ StrKeys es ∧ nsFind es "__eq__" = some (.ref f) ∧ nsFind es "__ne__" = none ∧
    K.lookup f = some of ∧ of.cls = .type "function"
/-- x != y, both instances of C -/
theorem op_neI (F : FnOk X.prog X.w X.K X.mg X.base CX k f fd ps sp) (hr : Room (k + 1) X.A) (hb : Binds X.K fd ps []) (hx : Passes CX X E) (cl : OwnNe X.K C f) :
    OpR X (compareOp .NotEq) (fun x y H Q => ∃ (a b dx dy : Addr) (fs gs : List (Str × V)), x = .ref a ∧ y = .ref b ∧ H a = some (.ins C dx fs) ∧ H b = some (.ins C dy gs) ∧ sp [.ref a, .ref b] H (fun v H' => ∃ c : Bool, v = .bl c ∧ Q (.bl (!c)) H') E) := by
  intro pins s σ H x y v u Q I rx ry h
  obtain ⟨a, b, dx, dy, fs, gs, rfl, rfl, ha, hb', q⟩ := h
  cases rx
  cases ry
  obtain ⟨mA, J, _⟩ := ins_get I.hok ha
  obtain ⟨mB, J', _⟩ := ins_get I.hok hb'
  obtain ⟨od, J, _⟩ := J.look
  obtain ⟨od', J', _⟩ := J'.look
  obtain ⟨nm, qn, N, bs, hdct, sn, sub, ab, col, dd, k0, k1, k2, k3, k5, newId, oN, es, ep, of, lC, lN, dN, sk, fe, fn, lf, cf⟩ := cl
  have kin := I.kIn
  obtain ⟨hp, g, d, t, os⟩ := s
  have own : hp.OwnEqNoNe a C f "object" [.type "object"] :=
    ⟨_, of, nm, qn, N, bs, hdct, sn, sub, ab, col, dd, k0, k1, k2, k3, k5, newId, nsFind es, _, J.1, J.cls, kin _ _ lC, ⟨oN, es, ep, kin _ _ lN, dN, sk, fun _ => rfl⟩, fe, kin _ _ lf, cf, PySem.F.cmp_object.mro, PySem.F.cmp_object.eq.lookup, fn⟩
  refine compareOp_ne_ownEq PySem.F.cmp_object own J'.1 J'.cls (by have := hr.un; omega) (thn (run_at (vs := [.ref a, .ref b]) F hr.in1 rfl hb hx I (.cons rfl (.cons rfl .nil)) q) fun r s' ⟨z, H', I', rz, c, ez, q'⟩ => ?_)
  subst ez
  cases rz
  exact ⟨c, rfl, ⟨.bl (!c), H', I', rfl, q'⟩⟩
end
end Ask

/-! a text against a dict; a dict in a tuple or list of texts -/
namespace Ask
open PySem L2 PySem.Spec PyProof.Rows PySem.SeqAt
theorem sub_sd : isSubtype (.type "str") (.type "dict") = pure false := by rw [isSubtype_type]; kernel_rfl
theorem sub_ds : isSubtype (.type "dict") (.type "str") = pure false := by rw [isSubtype_type]; kernel_rfl
theorem dict_declines (l : Addr) (o : Obj) (b : Str) (u : Tok) (hc : o.cls = .type "dict") :
    Meets (Builtin.«dict.__eq__» ⟨[.ref l, .str b u], []⟩) (fun _ R s => s.heap.get? l = some o ∧ R (.ok (.ret .notImplemented)) s) :=
  .of_wp fun prog w A R s h => by
    obtain ⟨hp, g, d, tk, os⟩ := s
    obtain ⟨cls, dd, data, sl⟩ := o
    obtain rfl : cls = .type "dict" := hc
    obtain ⟨hl, h⟩ := h
    have f1 := sub_sd
    wp_walk using wpAny_loadPart' hl
    exact ⟨_, rfl, h⟩
theorem str_declines (l : Addr) (o : Obj) (b : Str) (u : Tok) (hc : o.cls = .type "dict") {es : Array DictEntry} {ep : Nat} (hd : o.data = .dict es ep) :
    Meets (Builtin.«str.__eq__» ⟨[.str b u, .ref l], []⟩) (fun _ R s => s.heap.get? l = some o ∧ R (.ok (.ret .notImplemented)) s) :=
  .of_wp fun prog w A R s h => by
    obtain ⟨hp, g, d, tk, os⟩ := s
    obtain ⟨cls, dd, data, sl⟩ := o
    obtain rfl : cls = .type "dict" := hc
    obtain rfl : data = .dict es ep := hd
    obtain ⟨hl, h⟩ := h
    wp_walk using wpAny_loadPart' hl, wpAny_load hl
    exact ⟨_, rfl, h⟩
section
variable {A : Around} {s : Shared}
theorem rcAt_sd {l : Addr} {o : Obj} (b : Str) (u : Tok) (ho : s.heap.get? l = some o) (hc : o.cls = .type "dict") {es : Array DictEntry} {ep : Nat} (hd : o.data = .dict es ep) (hu : A.units < cLine) : RcAt A s (.str b u) (.ref l) false := fun prog w E Q h =>
  rc_eq_decline_or (k := false) (typeIs_str s b u) ⟨o, ho, hc⟩ (by decide) sub_ds PySem.F.slot_str_eq PySem.F.slot_dict_eq_refl
    (fun _ hq => call_meets PySem.F.slot_str_eq (typeIs_str s b u) PySem.F.entry_str_eq (PySem.F.args_str_eq_2 _ _) (str_declines l o b u hc hd) ⟨ho, hq⟩)
    (fun _ hq => call_meets PySem.F.slot_dict_eq_refl ⟨o, ho, hc⟩ PySem.F.entry_dict_eq (PySem.F.args_dict_eq_2 _ _) (dict_declines l o b u hc) ⟨ho, hq⟩)
    (fun _ hq => wpAny_of_eq (rfl : isSame (.str b u) (.ref l) = pure false) hq) (.inr hu) h
theorem eqAt_sd {l : Addr} {o : Obj} (b : Str) (u : Tok) (ho : s.heap.get? l = some o) (hc : o.cls = .type "dict") {es : Array DictEntry} {ep : Nat} (hd : o.data = .dict es ep) (hu : A.units < cLine) : EqAt A s (.str b u) (.ref l) false := fun prog w E Q h => by
  unfold eqBool
  refine wpAny_holding ?_
  refine wpAny_ite_split (fun hab => absurd (eq_of_beq hab) nofun) (fun _ => ?_)
  exact wpAny_bind (rcAt_sd b u ho hc hd hu prog w E _ (wpAny_truthy_bool h))
end
section
variable {X : Cx}
/-- a dict in a tuple of texts -/
def rInSD (K : PySem.W.Frag) (neg : Bool) : R2 := fun x y H Q => ∃ (d p : Addr) (kvs : List (Key × V)) (ys : List Str), x = .ref d ∧ y = .ref p ∧ H d = some (.dK kvs) ∧ SqT K H p (ys.map V.str) ∧ Q (.bl neg) H
theorem strs_eqAt {A : Around} {s : Shared} {l : Addr} {o : Obj} (ho : s.heap.get? l = some o) (hc : o.cls = .type "dict") {es : Array DictEntry} {ep : Nat} (hd : o.data = .dict es ep) (hu : A.units < cLine) : ∀ (ys : List Str) (us : List Value), Vals (ys.map V.str) us → ∀ w ∈ us, EqAt A s w (.ref l) false
  | [], us, r => by
    cases r
    exact fun w hw => by cases hw
  | y :: ys, us, r => by
    cases r with
    | cons r t =>
      intro w hw
      rcases List.mem_cons.mp hw with rfl | hw
      · obtain ⟨tk, rfl⟩ := r
        exact eqAt_sd y tk ho hc hd hu
      · exact strs_eqAt ho hc hd hu ys _ t w hw
theorem op_inSD (hu : X.A.units + 1 < cLine) : OpR X (compareOp .In) (rInSD X.K false) := by
  intro pins s σ H x y v u Q I rx ry h
  obtain ⟨d, p, kvs, ys, rfl, rfl, hd, hq, q⟩ := h
  cases rx
  cases ry
  obtain ⟨_, _, vs, _, o, es, ep, ho, hx, hdd, _⟩ := I.hok d _ hd
  obtain ⟨its, r, pl, hz⟩ := I.tuple hq
  refine in_tupleAt (fun _ => false) pl (fun w hw => strs_eqAt (A := X.A.in1) ho hx.1 hdd hu ys _ r w (by simpa using hw)) ⟨.bl false, H, I, ?_, q⟩
  show Value.bool _ = Value.bool false
  simp
theorem op_notInSD (hu : X.A.units + 1 < cLine) : OpR X (compareOp .NotIn) (rInSD X.K true) := by
  intro pins s σ H x y v u Q I rx ry h
  obtain ⟨d, p, kvs, ys, rfl, rfl, hd, hq, q⟩ := h
  cases rx
  cases ry
  obtain ⟨_, _, vs, _, o, es, ep, ho, hx, hdd, _⟩ := I.hok d _ hd
  obtain ⟨its, r, pl, hz⟩ := I.tuple hq
  refine notIn_tupleAt (fun _ => false) pl (fun w hw => strs_eqAt (A := X.A.in1) ho hx.1 hdd hu ys _ r w (by simpa using hw)) ⟨.bl true, H, I, ?_, q⟩
  show Value.bool _ = Value.bool true
  simp
end
end Ask

/-! isinstance(e, c) in a suite, e an own error with fields -/
namespace Ask
open PySem L2 PySem.Spec PyProof.Rows
/-- what the class says of __class__ -/
structure XkC (K : PySem.W.Frag) (C : Addr) : Prop where
  ic : PySem.W.isClsIn K C = true
  ha : PySem.W.findIn K (.ref C) "__class__" = some (some (.builtin "object.__class__"))
  hn : PySem.W.specialIn K (.builtin "object.__class__") "__get__" = some (some (.builtin "getset_descriptor.__get__"))
  ht : PySem.W.takesIn K (.builtin "object.__class__") = some true
  hm : PySem.W.mroIn K C (.type "object") = some true
def rIsX (K : PySem.W.Frag) (C a : Addr) (cls : Value) (d : Option Addr) : List V → Hp → VK → Prop := fun xs H Q => ∃ (c : V) (cv : Value) (b : Bool) (dd : Addr) (fs : List (Str × V)), xs = [.ref a, c] ∧ cls = .ref C ∧ d = some dd ∧ H dd = some (.xd fs) ∧ ClsV c cv ∧ PySem.W.kitOne K (.ref C) cv = some b ∧ Q (.bl b) H
theorem call_isX {X : Cx} {a C : Addr} {oe : Obj} {cls : Value} {d : Option Addr} {pn : List (Addr × Obj)} (T : XfC X.K C) (Y : XkC X.K C) (hz : Zc cls d oe) (hf : ∃ vs, oe.data = .fields vs) :
    CallR (X.suite a ((a, oe) :: pn)) (.builtin "isinstance") (rIsX X.K C a cls d) := by
  intro pins s σ H xs us Q I r h
  obtain ⟨c, cv, b, dd, fs, rfl, rfl, rfl, ed, hcv, e, q⟩ := h
  obtain ⟨u1, u2, rfl, r1, r2⟩ := vals2 r
  obtain rfl : u1 = Value.ref a := r1
  have ec := hcv.eq r2
  subst ec
  obtain ⟨ha, _⟩ := I.pin (a, oe) (List.mem_append_left _ List.mem_cons_self)
  obtain ⟨vs, hd⟩ := hf
  obtain ⟨mA, hns, hr⟩ := (show ObjOk X.prog X.w H s.heap dd (.xd fs) from I.hok dd _ ed)
  obtain ⟨od, ho, hl⟩ := lookIn_ns hns
  have J : PySem.W.InstAt s.heap a oe C (some od) := ⟨ha, hz.1, by unfold PySem.W.notCls; rw [hd] <;> rfl, by rw [hz.2]; exact ho⟩
  exact PySem.W.kia_one (PySem.W.kitx_exc Y.ic T.ga T.gg T.exC Y.ha Y.hn Y.ht Y.hm) I.kIn J e (fun z => nomatch z) fun tk => ⟨.bl b, H, I.kept (t' := tk) fun _ _ z => z, rfl, q⟩
end Ask

namespace Ask
open PySem L2
open PySem.SeqAt (in_tupleAt EqAt)
/-- whether x is in the texts: by value, or a list, tuple or dict that is none -/
def InW (H : Hp) (x : V) (ys : List Str) (b : Bool) : Prop := (flatV x = true ∧ b = inV x (ys.map V.str)) ∨
  (b = false ∧ ∃ d, x = .ref d ∧ ((∃ kvs, H d = some (.dK kvs)) ∨ (∃ xs, H d = some (.lst xs)) ∨ (∃ xs, H d = some (.tup xs))))
theorem strs_eqAtR {A : Around} {s : Shared} {l : Addr} (h : ∀ (y : Str) (t : Tok), EqAt A s (.str y t) (.ref l) false) : ∀ (ys : List Str) (us : List Value), Vals (ys.map V.str) us → ∀ w ∈ us, EqAt A s w (.ref l) false
  | [], us, r => by
    cases r
    exact fun w hw => by cases hw
  | y :: ys, us, r => by
    cases r with
    | cons r t =>
      intro w hw
      rcases List.mem_cons.mp hw with rfl | hw
      · obtain ⟨tk, rfl⟩ := r
        exact h y tk
      · exact strs_eqAtR h ys _ t w hw
section
variable {X : Cx}
theorem op_inW (hu : X.A.units + 1 < cLine) : OpR X (compareOp .In) (fun x y H Q => ∃ (p : Addr) (ys : List Str) (b : Bool), y = .ref p ∧ SqT X.K H p (ys.map V.str) ∧ InW H x ys b ∧ Q (.bl b) H) := by
  intro pins s σ H x y v u Q I rx ry h
  obtain ⟨p, ys, b, rfl, hq, hw, q⟩ := h
  rcases hw with ⟨fx, rfl⟩ | ⟨rfl, d, rfl, hd⟩
  · refine op_in_seq pins s σ H x (.ref p) v u Q I rx ry ⟨p, _, rfl, .inr hq, fx, ?_, q⟩
    rw [List.all_eq_true]
    intro y hy
    obtain ⟨z, _, rfl⟩ := List.mem_map.mp hy
    rfl
  · cases rx
    cases ry
    obtain ⟨its, r, pl, hz⟩ := I.tuple hq
    have at_ : ∀ (y : Str) (t : Tok), EqAt X.A.in1 s (.str y t) (.ref d) false := fun y t => by
      rcases hd with ⟨kvs, hd⟩ | ⟨xs, hd⟩ | ⟨xs, hd⟩
      · obtain ⟨_, _, vs, _, o, es, ep, ho, hx, hdd, _⟩ := I.hok d _ hd
        exact eqAt_sd y t ho hx.1 hdd hu
      · obtain ⟨its2, r2, pl2, _⟩ := I.list (.inl (.inl hd))
        exact PySem.SeqAt.EqAt.str_list y t pl2.isList hu
      · obtain ⟨its2, r2, pl2, _⟩ := I.tuple (.inl (.inl hd))
        exact PySem.SeqAt.EqAt.str_tuple y t pl2 hu
    refine in_tupleAt (fun _ => false) pl (fun w hw => strs_eqAtR at_ ys _ r w (by simpa using hw)) ⟨.bl false, H, I, ?_, q⟩
    show Value.bool _ = Value.bool false
    simp
end
/-- letters ys at p, their tuple at t -/
def Mde (CL : Addr) (H : Hp) (p t : Addr) (ys : List Str) : Prop := ∃ (dx : Addr) (o : Obj), H p = some (.ins CL dx [("words", .ref t)]) ∧ H t = some (.frz o (.tup (ys.map V.str))) ∧ o.dict = none
def spHas (CL : Addr) : Sp := fun vs H Q _ => ∃ (p t : Addr) (ys : List Str) (x : V) (b : Bool), vs = [.ref p, x] ∧ Mde CL H p t ys ∧ InW H x ys b ∧ Q (.bl b) H
def spLen (CL : Addr) : Sp := fun vs H Q _ => ∃ (p t : Addr) (ys : List Str), vs = [.ref p] ∧ Mde CL H p t ys ∧ ys.length ≤ 1000 ∧ Q (.int (ys.length : Nat)) H
def spEq2 (CL : Addr) : Sp := fun vs H Q _ => ∃ (p t p' t' : Addr) (ys zs : List Str), vs = [.ref p, .ref p'] ∧ Mde CL H p t ys ∧ Mde CL H p' t' zs ∧ (∀ y ∈ ys, y.length ≤ 500 ∧ Asc y) ∧ (∀ y ∈ zs, y.length ≤ 500 ∧ Asc y) ∧
  Q (.bl (PyData.eqv (.tuple (ys.map PyData.str)) (.tuple (zs.map PyData.str)))) H
def spRank (CL CE : Addr) : Sp := fun vs H Q E => ∃ (p t : Addr) (ys : List Str) (x : V), vs = [.ref p, x] ∧ Mde CL H p t ys ∧ ys.Nodup ∧
  ((∃ (i : Nat) (z : Str), x = .str z ∧ ys[i]? = some z ∧ ∀ H', Same H H' → Q (.int (i : Nat)) H') ∨ (InW H x ys false ∧ ∀ (H' : Hp) (d : Addr), Same H H' → H' d = some (.xd (fsBad [.int 0])) → E (.ref CE) (some d) H'))
abbrev s_Has : Stmt := inClass (top 27) 2
theorem sc_Has : FnScope ["self", "x"] ["self", "x"] (defScope s_Has) := ⟨rfl, rfl, rfl, by decide +kernel, rfl, by decide +kernel, by decide +kernel⟩
abbrev s_Len : Stmt := inClass (top 27) 3
theorem sc_Len : FnScope ["self"] ["self"] (defScope s_Len) := ⟨rfl, rfl, rfl, by decide +kernel, rfl, by decide +kernel, by decide +kernel⟩
abbrev s_Eq : Stmt := inClass (top 27) 4
theorem sc_Eq : FnScope ["self", "other"] ["self", "other"] (defScope s_Eq) := ⟨rfl, rfl, rfl, by decide +kernel, rfl, by decide +kernel, by decide +kernel⟩
abbrev s_Rank : Stmt := inClass (top 27) 1
theorem sc_Rank : FnScope ["self", "x", "place", "word"] ["self", "x"] (defScope s_Rank) := ⟨rfl, rfl, rfl, by decide +kernel, rfl, by decide +kernel, by decide +kernel⟩
theorem passE {X : Cx} : Passes (L2.CX X.prog X.w) X E0 := fun _ _ _ _ _ _ _ h => by
  obtain ⟨_, _, _, _, _, _, _, _, _, _, _, _, e⟩ := h
  exact e.elim
section
variable {P : Program} {w : World} {K : PySem.W.Frag} {mg : Str → Option Value} {base : Heap}
theorem ok_has {f CL : Addr} {fd : FuncData} (F : Fun K "__contains__" "Letters.__contains__" s_Has f fd) (hC : Cls K CL) (hA : NoAttr K CL "words") : FnOk P w K mg base CX0 1 f fd ["self", "x"] (spHas CL) := by
  refine F.ok sc_Has (fun vs H Q E h => ?_) (fun cdv A outer s H vs Q E hr h => ?_)
  · obtain ⟨p, t, ys, x, b, rfl, _⟩ := h
    rfl
  · obtain ⟨p, t, ys, x, b, rfl, ⟨dx, ob, hp, ht, hob⟩, hw, k⟩ := h
    exact ⟨_, pss_one (ps_ret (pe_cmpR (op_inW (hu_of hr)) (pv 1) (pe_fld (pv 0) rfl) rfl)), _, rfl, _, rfl, p, CL, dx, _, _, rfl, hp, hC, hA, rfl, t, ys, b, rfl, (.inl (.inr ⟨ob, ht⟩)), hw, k⟩
theorem ok_len {f CL : Addr} {fd : FuncData} (F : Fun K "__len__" "Letters.__len__" s_Len f fd) (T : Blt mg) (hC : Cls K CL) (hA : NoAttr K CL "words") : FnOk P w K mg base CX0 1 f fd ["self"] (spLen CL) := by
  refine F.ok sc_Len (fun vs H Q E h => ?_) (fun cdv A outer s H vs Q E hr h => ?_)
  · obtain ⟨p, t, ys, rfl, _⟩ := h
    rfl
  · obtain ⟨p, t, ys, rfl, ⟨dx, ob, hp, ht, hob⟩, hl, k⟩ := h
    refine ⟨_, pss_one (ps_ret (pe_callB call_len_seq (by rfl) T.n_len (by decide +kernel) (pa_cons (pe_fld (pv 0) rfl) pa_nil))), _, rfl, p, CL, dx, _, _, rfl, hp, hC, hA, rfl, t, _, rfl, .inr ((.inl (.inr ⟨ob, ht⟩))), ?_⟩
    rw [List.length_map]
    exact k
theorem ok_eq {f CL : Addr} {fd : FuncData} (F : Fun K "__eq__" "Letters.__eq__" s_Eq f fd) (T : Blt mg) (hC : Cls K CL) (hA : NoAttr K CL "words") (Y : XkC K CL) (mL : mg "Letters" = some (.ref CL)) : FnOk P w K mg base CX0 1 f fd ["self", "other"] (spEq2 CL) := by
  refine F.ok sc_Eq (fun vs H Q E h => ?_) (fun cdv A outer s H vs Q E hr h => ?_)
  · obtain ⟨p, t, p', t', ys, zs, rfl, _⟩ := h
    rfl
  · obtain ⟨p, t, p', t', ys, zs, rfl, ⟨dx, ob, hp, ht, hob⟩, ⟨dx', ob', hp', ht', hob'⟩, hy, hz, k⟩ := h
    refine ⟨_, (pss_one (ps_ret (pe_and (pe_callB call_isi (by rfl) T.n_isinstance (by decide +kernel) (pa_cons (pv 1) (pa_cons (pe_gv (v := .ref CL) rfl ⟨_, mL, rfl⟩) pa_nil))) (pe_one (pe_cmpR (op_eqD hr.units) (pe_fld (pv 0) rfl) (pe_fld (pv 1) rfl) (nomark _)))))), ?_⟩
    have kk : PySem.W.kitOne K (.ref CL) (.ref CL) = some true := by
      unfold PySem.W.kitOne
      rw [if_pos (by simp)]
    refine ⟨_, rfl, _, _, _, _, true, rfl, .own CL, .base (.ins hp' hC Y.ha Y.hn Y.ht Y.hm), kk, _, rfl, ite2 (fun _ => ?_) (fun q => absurd rfl q)⟩
    exact ⟨_, rfl, p, CL, dx, _, _, rfl, hp, hC, hA, rfl, _, rfl, p', CL, dx', _, _, rfl, hp', hC, hA, rfl, _, _, .tup ((.inl (.inr ⟨ob, ht⟩))) (dp_strs _), .tup ((.inl (.inr ⟨ob', ht'⟩))) (dp_strs _), (fit_strs hy).shapedT, (fit_strs hz).shapedT, k⟩
end
end Ask

namespace Ask
open PySem L2
theorem kitAny_l {K : PySem.W.Frag} : PySem.W.kitAny K (.type "list") [.type "list", .type "tuple"] = some true := kitAny_cons (b := true) (kit_ty (by show kitB "list" "list" = some true; decide +kernel)) (fun z => by cases z) (fun _ => rfl)
theorem kitAny_t {K : PySem.W.Frag} : PySem.W.kitAny K (.type "tuple") [.type "list", .type "tuple"] = some true := kitAny_cons (kit_ty (by show kitB "tuple" "list" = some false; decide +kernel)) (fun _ => kitAny_cons (kit_ty (by show kitB "tuple" "tuple" = some true; decide +kernel)) (fun z => by cases z) (fun _ => rfl)) (fun z => by cases z)
theorem Mde.same {CL m t : Addr} {H H' : Hp} {ys : List Str} (h : Mde CL H m t ys) (s : Same H H') : Mde CL H' m t ys := by
  obtain ⟨dx, ob, h1, h2, h3⟩ := h
  exact ⟨dx, ob, s _ _ h1, s _ _ h2, h3⟩
theorem for_any1 {wi : TI} {g : TG} {tb : TS} {D : Ends} {σ : L2.St} {H : Hp} {J : It} {n : Nat} {G : Hp → Prop} {Y : Nat → Hp → V → Hp → Prop} (f : ∀ R : It → Hp → Prop, R J H → wi σ H R)
    (wk : Walk J n G Y) (Pv : Nat → L2.St → Hp → Prop) (h0 : Pv 0 σ H) (hG : ∀ i σ H, i ≤ n → Pv i σ H → G H)
    (hs : ∀ i x σ H H', i < n → Pv i σ H → Y i H x H' → g x σ H' fun σ2 H2 => tb { D with nx := Pv (i + 1), ct := Pv (i + 1), bk := D.nx } σ2 H2) (hd : ∀ σ H, Pv n σ H → D.nx σ H) :
    tFor wi g tb D σ H := by
  delta tFor
  exact f _ (for_it (D := D) wk Pv h0 hG hs hd)
section
variable {P : Program} {w : World} {K : PySem.W.Frag} {mg : Str → Option Value} {base : Heap}
/-! ### require_runs, where nothing is wrong -/
def spReqOk (K : PySem.W.Frag) (CL : Addr) : Sp := fun vs H Q _ => ∃ (m t : Addr) (ys : List Str) (a : Addr) (xs : List V) (rs : List Run), vs = [.ref m, .ref a] ∧ Mde CL H m t ys ∧ (SqL K H a xs ∨ SqT K H a xs) ∧ RunsV K H xs rs ∧ rs.length ≤ 10000 ∧
  (∀ r ∈ rs, r.1 ∈ ys ∧ 1 ≤ r.2 ∧ r.2 ≤ 1000000000000000000000000000000) ∧ ∀ H', Same H H' → Q .non H'
/-! ### require_count, where nothing is wrong -/
def spReqCnt : Sp := fun vs H Q _ => ∃ (x : V) (n : Int), vs = [x, .int n] ∧ 1 ≤ n ∧ n ≤ 1000000000000000000000000000000 ∧ Q .non H
end
end Ask

namespace Ask
open PySem L2
theorem eqv_str1 (a b : Str) : PyData.eqv (.str a) (.str b) = decide (a = b) := by
  simp only [PyData.eqv]
  by_cases h : a = b
  · subst h; simp
  · rw [decide_eq_false h]; simpa using h
theorem eqvAll_strs : ∀ ys zs : List Str, PyData.eqvAll (ys.map PyData.str) (zs.map PyData.str) = decide (ys = zs)
  | [], [] => by simp [PyData.eqvAll]
  | [], _ :: _ => by simp [PyData.eqvAll]
  | _ :: _, [] => by simp [PyData.eqvAll]
  | y :: ys, z :: zs => by
    rw [List.map_cons, List.map_cons, PyData.eqvAll, eqv_str1, eqvAll_strs ys zs]
    by_cases h : y = z
    · subst h
      by_cases h2 : ys = zs
      · subst h2; simp
      · simp [h2]
    · simp [h]
theorem eqv_strs (ys zs : List Str) : PyData.eqv (.tuple (ys.map PyData.str)) (.tuple (zs.map PyData.str)) = decide (ys = zs) := by
  rw [PyData.eqv]
  exact eqvAll_strs ys zs
/-- letters that Letters takes -/
structure Lts (ys : List Str) : Prop where
  nd : ys.Nodup
  ok : ∀ y ∈ ys, isLs y = true ∧ y.length ≤ 13 ∧ Asc y
  l0 : 1 ≤ ys.length
  l1 : ys.length ≤ 12
theorem Lts.fit {ys : List Str} (h : Lts ys) : ∀ y ∈ ys, y.length ≤ 500 ∧ Asc y := fun y hy => ⟨by have := (h.ok y hy).2.1; omega, (h.ok y hy).2.2⟩
theorem Lts.res {ys : List Str} (h : Lts ys) : res (ys.map PyData.str) = .none := by
  have l0 := h.l0
  have l1 := h.l1
  refine res_good (by rw [List.length_map]; omega) (by rw [List.length_map]; omega) fun j hj => ?_
  rw [List.length_map] at hj
  unfold badAt
  rw [List.getElem?_map, List.getElem?_eq_getElem hj]
  show (!isLs ys[j] || ((ys.map PyData.str).take j).any fun z => PyData.eqv z (.str ys[j])) = false
  rw [(h.ok _ (List.getElem_mem hj)).1, Bool.not_true, Bool.false_or, List.any_eq_false]
  intro x hx
  rw [← List.map_take] at hx
  obtain ⟨y, hy, rfl⟩ := List.mem_map.mp hx
  rw [eqv_str1]
  intro e
  have e : y = ys[j] := of_decide_eq_true e
  obtain ⟨i, hi⟩ := List.mem_iff_getElem?.mp hy
  have hij : i < j := by
    have := (List.getElem?_eq_some_iff.mp hi).1
    rw [List.length_take] at this
    omega
  rw [List.getElem?_take_of_lt hij] at hi
  have : i = j := (List.getElem?_inj (List.getElem?_eq_some_iff.mp hi).1 h.nd).mp (hi.trans (by rw [e, List.getElem?_eq_getElem hj]))
  omega
theorem cutV_init (xs : List V) : cutV xs none (some (-1)) = xs.take (xs.length - 1) := by
  have e : HT.sIx xs.length xs.length (some (-1)) = xs.length - 1 := by
    show (if (-1 : Int) < 0 then ((-1 : Int) + (xs.length : Int)).toNat else min (-1 : Int).toNat xs.length) = _
    rw [if_pos (by decide)]
    omega
  unfold cutV
  rw [HT.sIx_none, List.drop_zero, Nat.sub_zero, e]
/-- a text none or one time -/
theorem op_mul_str01 {X : Cx} : OpR X (binaryOp .Mult) (fun x y H Q => ∃ (z : Str) (n : Int), x = .str z ∧ y = .int n ∧ (n = 0 ∨ n = 1) ∧ z.length ≤ 1000 ∧ ∀ z' : Str, z'.length ≤ z.length → Q (.str z') H) := by
  intro pins s σ H x y v u Q I rx ry h
  obtain ⟨z, n, rfl, rfl, hn, z1, q⟩ := h
  obtain ⟨t, rfl⟩ := rx
  obtain ⟨t2, rfl⟩ := ry
  rcases hn with rfl | rfl
  · exact P.mul_str_none (by decide) (by decide) ⟨.str Str.empty, H, I.tok _, ⟨_, rfl⟩, q _ (Nat.zero_le _)⟩
  · refine P.mul_str (by decide) (fun _ e => by simp at e) (fun _ e => by simp at e) ?_
    rw [if_neg (by decide), if_pos (by simp)]
    exact ⟨.str z, H, I, ⟨_, rfl⟩, q _ (Nat.le_refl _)⟩
theorem cutV_tail (xs : List V) : cutV xs (some 1) none = xs.drop 1 := by
  unfold cutV
  rw [HT.sIx_none, show (some (1 : Int)) = some ((1 : Nat) : Int) from rfl, HT.sIx_nat]
  by_cases h : 1 ≤ xs.length
  · rw [Nat.min_eq_left h, List.take_of_length_le (by rw [List.length_drop]; omega)]
  · have : xs = [] := List.eq_nil_of_length_eq_zero (by omega)
    subst this
    rfl
section
variable {p c CL q m t m' t' l : Addr} {ns : List Int} {H0 H H' : Hp} {ys zs : List Str} {B B' : Nat} {o : HO} {xs : List V}
theorem Mde.go (h : Mde CL H m t ys) (g : Go p c ns H H' B) : Mde CL H' m t ys := by
  obtain ⟨dx, ob, h1, h2, h3⟩ := h
  exact ⟨dx, ob, g.at h1 (by intro _ z; cases z), g.at h2 (by intro _ z; cases z), h3⟩
theorem Mde.mut (h : Mde CL H m t ys) (hl : H l = some (.lst xs)) : Mde CL (upd H l o) m t ys := by
  obtain ⟨dx, ob, h1, h2, h3⟩ := h
  exact ⟨dx, ob, by rw [upd_ne (ne_of h1 hl (by intro z; cases z))]; exact h1, by rw [upd_ne (ne_of h2 hl (by intro z; cases z))]; exact h2, h3⟩
theorem Mde.seq {K : PySem.W.Frag} (h : Mde CL H m t ys) : SqT K H t (ys.map V.str) := by
  obtain ⟨dx, ob, h1, h2, h3⟩ := h
  exact .inl (.inr ⟨ob, h2⟩)
end
end Ask

namespace Ask
open PySem L2
/-! ### spliced: the mirror -/
def spliceR (h t : List Run) : List Run := match h.getLast?, t with
  | some l, r :: t' => if l.1 = r.1 then h.dropLast ++ [(l.1, l.2 + r.2)] ++ t' else h ++ t
  | _, _ => h ++ t
theorem splice_nil (t : List Run) : spliceR [] t = t := rfl
theorem PairsV.get {H : Hp} {xs : List V} {rs : List Run} (h : PairsV H xs rs) {i : Nat} {r : Run} (e : rs[i]? = some r) : ∃ b, xs[i]? = some (.ref b) ∧ H b = some (.tup [.str r.1, .int r.2]) := by
  have hi : i < xs.length := by rw [h.1]; exact (List.getElem?_eq_some_iff.mp e).1
  obtain ⟨b, e2, e3⟩ := h.2 i _ r (List.getElem?_eq_getElem hi) e
  exact ⟨b, by rw [List.getElem?_eq_getElem hi, e2], e3⟩
theorem PairsV.cat {H : Hp} {xs ys : List V} {rs ss : List Run} (h : PairsV H xs rs) (k : PairsV H ys ss) : PairsV H (xs ++ ys) (rs ++ ss) := by
  refine ⟨by rw [List.length_append, List.length_append, h.1, k.1], fun i v r h1 h2 => ?_⟩
  by_cases hi : i < xs.length
  · rw [List.getElem?_append_left hi] at h1
    rw [List.getElem?_append_left (by rw [← h.1]; exact hi)] at h2
    exact h.2 i v r h1 h2
  · rw [List.getElem?_append_right (by omega)] at h1
    rw [List.getElem?_append_right (by rw [← h.1]; omega), ← h.1] at h2
    exact k.2 _ v r h1 h2
theorem PairsV.take {H : Hp} {xs : List V} {rs : List Run} (h : PairsV H xs rs) (n : Nat) : PairsV H (xs.take n) (rs.take n) := by
  refine ⟨by rw [List.length_take, List.length_take, h.1], fun i v r h1 h2 => ?_⟩
  have hi : i < n := by
    have := (List.getElem?_eq_some_iff.mp h1).1
    rw [List.length_take] at this
    omega
  rw [List.getElem?_take_of_lt hi] at h1 h2
  exact h.2 i v r h1 h2
theorem PairsV.drop {H : Hp} {xs : List V} {rs : List Run} (h : PairsV H xs rs) (n : Nat) : PairsV H (xs.drop n) (rs.drop n) := by
  refine ⟨by rw [List.length_drop, List.length_drop, h.1], fun i v r h1 h2 => ?_⟩
  rw [List.getElem?_drop] at h1 h2
  exact h.2 _ v r h1 h2
theorem PairsV.one {H : Hp} {b : Addr} {r : Run} (h : H b = some (.tup [.str r.1, .int r.2])) : PairsV H [.ref b] [r] := by
  refine ⟨rfl, fun i v r' h1 h2 => ?_⟩
  cases i with
  | zero =>
    cases h1
    cases h2
    exact ⟨b, rfl, h⟩
  | succ i => simp at h1
theorem sIx_init {n : Nat} : HT.sIx n n (some (-1)) = n - 1 := by
  show (if (-1 : Int) < 0 then ((-1 : Int) + (n : Int)).toNat else min (-1 : Int).toNat n) = _
  rw [if_pos (by decide)]
  omega
theorem sIx_one {n : Nat} (h : 1 ≤ n) : HT.sIx n 0 (some 1) = 1 := by
  show (if (1 : Int) < 0 then ((1 : Int) + (n : Int)).toNat else min (1 : Int).toNat n) = _
  rw [if_neg (by decide)]
  show min 1 n = 1
  omega
theorem atI_back {α : Type} {xs : List α} {v : α} (h : xs[xs.length - 1]? = some v) : atI xs (-1) = some v := by
  have ln := (List.getElem?_eq_some_iff.mp h).1
  have e : xs = xs.take (xs.length - 1) ++ [v] := by
    have h2 := List.take_append_getElem (l := xs) (i := xs.length - 1) ln
    rw [(List.getElem?_eq_some_iff.mp h).2] at h2
    rw [h2, List.take_of_length_le (by omega)]
  have k := atI_last (xs.take (xs.length - 1)) v
  rw [← e] at k
  exact k
section
variable {P : Program} {w : World} {K : PySem.W.Frag} {mg : Str → Option Value} {base : Heap}
def spSpliced (K : PySem.W.Frag) : Sp := fun vs H Q _ => ∃ (a b : Addr) (hs ts : List V) (h t : List Run), vs = [.ref a, .ref b] ∧ SqT K H a hs ∧ SqT K H b ts ∧ PairsV H hs h ∧ PairsV H ts t ∧ h.length ≤ 10000 ∧ t.length ≤ 10000 ∧
  ∀ (H' : Hp) (c : Addr) (ks : List V), Same H H' → SqT K H' c ks → PairsV H' ks (spliceR h t) → Q (.ref c) H'
end
end Ask

namespace Ask
open PySem L2
theorem seqA_same {K : PySem.W.Frag} {H H' : Hp} {a : Addr} {xs : List V} (h : SqL K H a xs ∨ SqT K H a xs) (s : Same H H') : SqL K H' a xs ∨ SqT K H' a xs := by
  rcases h with h | h
  · exact .inl (s.seq h)
  · exact .inr (seqT_same s h)
theorem joinR_len (rs : List Run) : (joinR rs).length ≤ rs.length + 1 := by
  unfold joinR
  rw [List.length_append]
  have := jrun_len rs
  have : (jrun rs).2.toList.length ≤ 1 := by cases (jrun rs).2 <;> simp
  omega
/-- what comes last: a letter or the beginning -/
def lastR (b : Str) (rs : List Run) : Str := ((rs.getLast?.map (·.1)).getD b)
/-- the attributes of a history -/
def hf (m c : Addr) (b : Str) (rs : List Run) : List (Str × V) := [("letters", .ref m), ("beginning", .str b), ("runs", .ref c), ("size", .int (sizeR rs)), ("last", .str (lastR b rs))]
/-- a history of the runs rs at p -/
def HistAt (K : PySem.W.Frag) (CL CH : Addr) (H : Hp) (p : Addr) (ys : List Str) (b : Str) (rs : List Run) : Prop := ∃ (dx m t c : Addr) (ks : List V), H p = some (.ins CH dx (hf m c b rs)) ∧ Mde CL H m t ys ∧ SqT K H c ks ∧ PairsV H ks rs
theorem HistAt.same {K : PySem.W.Frag} {CL CH p : Addr} {H H' : Hp} {ys : List Str} {b : Str} {rs : List Run} (h : HistAt K CL CH H p ys b rs) (s : Same H H') : HistAt K CL CH H' p ys b rs := by
  obtain ⟨dx, m, t, c, ks, h1, h2, h3, h4⟩ := h
  exact ⟨dx, m, t, c, ks, s _ _ h1, h2.same s, seqT_same s h3, h4.same s⟩
section
variable {P : Program} {w : World} {K : PySem.W.Frag} {mg : Str → Option Value} {base : Heap}
/-! ### is_beginning, of a text -/
def spIsBeg (K : PySem.W.Frag) : Sp := fun vs H Q _ => ∃ b : Str, vs = [.str b] ∧ (b = "new" ∨ b = "found") ∧ Q (.bl true) H
/-! ### extended, where nothing is wrong -/
def spExtOk (K : PySem.W.Frag) (CL : Addr) : Sp := fun vs H Q _ => ∃ (m t e : Addr) (ys : List Str) (a : Addr) (hs xs : List V) (h rs : List Run), vs = [.ref m, .ref e, .ref a] ∧ Mde CL H m t ys ∧ SqT K H e hs ∧ PairsV H hs h ∧ h.length ≤ 1000 ∧ (SqL K H a xs ∨ SqT K H a xs) ∧ RunsV K H xs rs ∧ rs.length ≤ 1000 ∧
  (∀ r ∈ rs, r.1 ∈ ys ∧ 1 ≤ r.2 ∧ r.2 ≤ 1000000000000000000000000000000) ∧ (spliceR h (joinR rs)).length ≤ 400 ∧ ∀ (H' : Hp) (c : Addr) (ks : List V), Same H H' → SqT K H' c ks → PairsV H' ks (spliceR h (joinR rs)) → Q (.ref c) H'
end
end Ask

namespace Ask
open PySem L2
theorem kit_other {K : PySem.W.Frag} {T : String} {C : Addr} (h1 : PySem.W.isClsIn K C = true) (h2 : PySem.W.typeIn K (.ref C) = some (.type "type")) (h3 : PySem.W.subIn K (.type T) (.ref C) = some false) : PySem.W.kitOne K (.type T) (.ref C) = some false := by
  unfold PySem.W.kitOne
  rw [if_neg (by simp)]
  have e2 : ((PySem.W.clsIn K C).isSome && PySem.W.typeIn K (.ref C) == some (.type "type")) = true := by
    have h2' : (PySem.W.clsIn K C).isSome = true := h1
    rw [h2', h2] <;> rfl
  show (if ((PySem.W.clsIn K C).isSome && PySem.W.typeIn K (.ref C) == some (.type "type")) = true then PySem.W.subIn K (.type T) (.ref C) else none) = some false
  rw [if_pos e2]
  exact h3
theorem sub_list {K : PySem.W.Frag} {C : Addr} : PySem.W.subIn K (.type "list") (.ref C) = some false := by
  show (fastBuiltinMro "list").map (·.contains (.ref C)) = some false
  have e : fastBuiltinMro "list" = some [.type "list", .type "object"] := by decide +kernel
  rw [e]
  rfl
theorem sub_tuple {K : PySem.W.Frag} {C : Addr} : PySem.W.subIn K (.type "tuple") (.ref C) = some false := by
  show (fastBuiltinMro "tuple").map (·.contains (.ref C)) = some false
  have e : fastBuiltinMro "tuple" = some [.type "tuple", .type "object"] := by decide +kernel
  rw [e]
  rfl
/-- a class that is another one than list and tuple -/
structure OnC (K : PySem.W.Frag) (mg : Str → Option Value) (x : Str) (C : Addr) : Prop where
  m : mg x = some (.ref C)
  i : PySem.W.isClsIn K C = true
  t : PySem.W.typeIn K (.ref C) = some (.type "type")
theorem ty_seqA {K : PySem.W.Frag} {mg : Str → Option Value} {x : Str} {C a : Addr} {H : Hp} {xs : List V} (h : SqL K H a xs ∨ SqT K H a xs) (o : OnC K mg x C) : ∃ ty, TyX K H (.ref a) ty ∧ PySem.W.kitOne K ty (.ref C) = some false := by
  rcases h with h | h
  · exact ⟨_, ty_list h, kit_other o.i o.t sub_list⟩
  · exact ⟨_, ty_tup h, kit_other o.i o.t sub_tuple⟩
/-- the attributes that a history is given -/
structure HsC (K : PySem.W.Frag) (C : Addr) : Prop where
  c : Cls K C
  a1 : NoAttr K C "letters"
  a2 : NoAttr K C "beginning"
  a3 : NoAttr K C "runs"
  a4 : NoAttr K C "size"
  a5 : NoAttr K C "last"
section
variable {K : PySem.W.Frag} {H H' : Hp} {p a m t CL C dx : Addr} {ys : List Str} {fs : List (Str × V)} {xs : List V} {rs : List Run}
theorem Mde.but (h : Mde CL H m t ys) (k : ∀ b o, b ≠ p → H b = some o → H' b = some o) (hp : H p = some (.ins C dx fs)) (n : fs ≠ ([("words", V.ref t)] : List (Str × V)) := by intro z; cases z) : Mde CL H' m t ys := by
  obtain ⟨dx', ob, h1, h2, h3⟩ := h
  refine ⟨dx', ob, k _ _ ?_ h1, k _ _ ?_ h2, h3⟩
  · refine ne_of h1 hp ?_
    intro z
    injection z with z1 z2 z3
    exact n z3.symm
  · exact ne_of h2 hp (by intro z; cases z)
theorem seqL_but (h : SqL K H a xs) (k : ∀ b o, b ≠ p → H b = some o → H' b = some o) (hp : H p = some (.ins C dx fs)) : SqL K H' a xs := by
  rcases h with (h | ⟨o, h⟩) | h
  · exact .inl (.inl (k _ _ (ne_of h hp (by intro z; cases z)) h))
  · exact .inl (.inr ⟨o, k _ _ (ne_of h hp (by intro z; cases z)) h⟩)
  · exact .inr h
theorem seqT_but (h : SqT K H a xs) (k : ∀ b o, b ≠ p → H b = some o → H' b = some o) (hp : H p = some (.ins C dx fs)) : SqT K H' a xs := by
  rcases h with (h | ⟨o, h⟩) | h
  · exact .inl (.inl (k _ _ (ne_of h hp (by intro z; cases z)) h))
  · exact .inl (.inr ⟨o, k _ _ (ne_of h hp (by intro z; cases z)) h⟩)
  · exact .inr h
theorem seqA_but (h : SqL K H a xs ∨ SqT K H a xs) (k : ∀ b o, b ≠ p → H b = some o → H' b = some o) (hp : H p = some (.ins C dx fs)) : SqL K H' a xs ∨ SqT K H' a xs := by
  rcases h with h | h
  · exact .inl (seqL_but h k hp)
  · exact .inr (seqT_but h k hp)
theorem RunsV.but (h : RunsV K H xs rs) (k : ∀ b o, b ≠ p → H b = some o → H' b = some o) (hp : H p = some (.ins C dx fs)) : RunsV K H' xs rs := by
  refine ⟨h.1, fun i v r h1 h2 => ?_⟩
  obtain ⟨b, e, h3⟩ := h.2 i v r h1 h2
  exact ⟨b, e, seqA_but h3 k hp⟩
theorem PairsV.but (h : PairsV H xs rs) (k : ∀ b o, b ≠ p → H b = some o → H' b = some o) (hp : H p = some (.ins C dx fs)) : PairsV H' xs rs :=
  ⟨h.1, fun i v r h1 h2 => let ⟨b, e, h3⟩ := h.2 i v r h1 h2; ⟨b, e, k _ _ (ne_of h3 hp (by intro z; cases z)) h3⟩⟩
end
section
variable {P : Program} {w : World} {K : PySem.W.Frag} {mg : Str → Option Value} {base : Heap}
/-! ### require_beginning, where nothing is wrong -/
def spReqBeg : Sp := fun vs H Q _ => ∃ (b : Str), vs = [.str b] ∧ (b = "new" ∨ b = "found") ∧ Q .non H
def spHist (K : PySem.W.Frag) (CL CH : Addr) : Sp := fun vs H Q _ => ∃ (p dx m t a : Addr) (b : Str) (ys : List Str) (xs : List V) (rs : List Run), vs = [.ref p, .ref m, .str b, .ref a] ∧ H p = some (.ins CH dx []) ∧ Mde CL H m t ys ∧ (b = "new" ∨ b = "found") ∧
  (SqL K H a xs ∨ SqT K H a xs) ∧ RunsV K H xs rs ∧ rs.length ≤ 1000 ∧ (∀ r ∈ rs, r.1 ∈ ys ∧ 1 ≤ r.2 ∧ r.2 ≤ 1000000000000000000000000000000) ∧ (joinR rs).length ≤ 400 ∧
  ∀ (H' : Hp) (c : Addr) (ks : List V), H' p = some (.ins CH dx (hf m c b (joinR rs))) → Mde CL H' m t ys → SqT K H' c ks → PairsV H' ks (joinR rs) → (∀ b o, b ≠ p → H b = some o → H' b = some o) → Q .non H'
end
end Ask

/-! a text == a flat value, a list, a tuple or a dict -/
namespace Ask
open PySem L2 PySem.Spec PyProof.Rows PySem.SeqAt
def Any1 (H : Hp) (x : V) : Prop := flatV x = true ∨ ∃ d, x = .ref d ∧ ((∃ kvs, H d = some (.dK kvs)) ∨ (∃ xs, H d = some (.lst xs)) ∨ (∃ xs, H d = some (.tup xs)))
theorem Any1.same {H H' : Hp} {x : V} (h : Any1 H x) (s : Same H H') : Any1 H' x := by
  rcases h with h | ⟨d, e, h⟩
  · exact .inl h
  · refine .inr ⟨d, e, ?_⟩
    rcases h with ⟨k, h⟩ | ⟨k, h⟩ | ⟨k, h⟩
    · exact .inl ⟨k, s _ _ h⟩
    · exact .inr (.inl ⟨k, s _ _ h⟩)
    · exact .inr (.inr ⟨k, s _ _ h⟩)
section
variable {X : Cx}
theorem op_eqW (hu : X.A.units < cLine) : OpR X (compareOp .Eq) (fun x y H Q => ∃ z : Str, x = .str z ∧ Any1 H y ∧ Q (.bl (decide (V.str z = y))) H) := by
  intro pins s σ H x y v u Q I rx ry h
  obtain ⟨z, rfl, hy, q⟩ := h
  rcases hy with fy | ⟨d, rfl, hd⟩
  · cases y with
    | non => exact op_eq pins s σ H _ _ v u Q I rx ry ⟨rfl, q⟩
    | bl j => exact op_eq pins s σ H _ _ v u Q I rx ry ⟨rfl, q⟩
    | int j => exact op_eq pins s σ H _ _ v u Q I rx ry ⟨rfl, q⟩
    | str j => exact op_eq pins s σ H _ _ v u Q I rx ry ⟨rfl, q⟩
    | _ => cases fy
  · obtain ⟨t, rfl⟩ := id rx
    cases ry
    have fin : EP X pins σ Q (.bool false) s := fin_bl I q (decide_eq_false (fun z => by cases z))
    show wpAny (model X.prog X.w) X.A (richCompare .Eq (.str z t) (.ref d)) (EP X pins σ Q) X.xe s
    rcases hd with ⟨kvs, hd⟩ | ⟨xs, hd⟩ | ⟨xs, hd⟩
    · obtain ⟨_, _, vs, _, o, es, ep, ho, hx, hdd, _⟩ := I.hok d _ hd
      exact rcAt_sd z t ho hx.1 hdd hu _ _ _ _ fin
    · obtain ⟨its2, r2, pl2, _⟩ := I.list (.inl (.inl hd))
      exact RcAt.str_list z t pl2.isList hu _ _ _ _ fin
    · obtain ⟨its2, r2, pl2, _⟩ := I.tuple (.inl (.inl hd))
      exact RcAt.str_tuple z t pl2 hu _ _ _ _ fin
end
end Ask

/-! C(), C an own error without __init__ -/
namespace Ask
open PySem PySem.Spec PyProof.Rows L2
theorem pmk_own0 {X : Cx} {C : Addr} {bmB : List Value} {B newId initId : String} {x : Str} {p pos : Pos} (F : ExcBaseFacts B newId initId bmB) (q : PySem.W.excIn X.K C bmB newId = true) (gC : X.mg x = some (.ref C)) (kC : PySem.W.keepIn X.K (.ref C) = true) (r : Raises X (.ref C)) (hg : Gl X x)
    (hdb : (x == ("__debug__" : Str)) = false := by decide) : PMk X (.Call (.Name x p) [] [] pos) (fun _ H Q => Q (.ref C) none H) := by
  intro pins s σ H Q I h
  refine wpAny_Call_Name_kw (ld_glob I hg gC ?_ hdb)
  refine PySem.W.callWith_K0 (first := []) I.kIn kC ?_
  show wpAny _ _ (call (.ref C) []) _ _ _
  obtain ⟨bm, N, nm, qn, bs, hdct, sn, sub, ab, col, dd, k0, k1, k2, k3, k5, mN, hC, hN, hni, T⟩ := exc_obj I.kIn q
  refine wpAny_call_exc_subT F T hC hN hni (fun h' e hm => ?_) (Nat.zero_le _)
  exact mk_of I hm r h (I.hok.gone hm.new)
/-- an own error class without __init__ -/
structure Err0 (K : PySem.W.Frag) (mg : Str → Option Value) (x : Str) (C : Addr) : Prop where
  m : mg x = some (.ref C)
  e : PySem.W.excIn K C [Value.type "ValueError", Value.type "Exception", Value.type "BaseException", Value.type "object"] "ValueError.__new__" = true
  k : PySem.W.keepIn K (.ref C) = true
  b : PySem.W.subIn K (.ref C) (.type "BaseException") = some true
  t : PySem.W.typeIn K (.ref C) = some (.type "type")
end Ask

/-! a clause «except X» without a name, among several -/
namespace Ask
open PySem L2 PySem.Spec PyProof.Rows
def wNo (K : PySem.W.Frag) (c : Value) (ts : TS) (W : WX) (D : Ends) : WX := fun cls d σ H =>
  ∃ b, PySem.W.exmOne K cls c = some b ∧ (b = true → ts D σ H) ∧ (b = false → W cls d σ H)
theorem hands_no {X : Cx} {D : Ends} {hds : List ExceptHandler} {W : WX} {x : Str} {c : Value} {suite : List Stmt} {b₀ : Stmt} {np pos' : Pos} {ts : TS}
    (hf : X.env.frame = some X.env.locals) (hc : Names X x c)
    (su : ∀ (a : Addr) (oe : Obj) (pn : List (Addr × Obj)), PSs (X.suite a ((a, oe) :: pn)) (b₀ :: suite) ts)
    (rest : Hands X D hds W) : Hands X D (.ExceptHandler (some (.Name x np)) none (b₀ :: suite) pos' :: hds) (wNo X.K c ts W D) := by
  intro pins σ H sI s B a cls d w q
  obtain ⟨b, hb, yes, no⟩ := q
  have J := w.now
  have ok := J.ok
  obtain ⟨oe, vs, he, hz, hd, nL, nF⟩ := w.apart hf
  have S := J.suite he hd w.na nL nF
  refine wpAny_handleBy_cons (codeAny_handlers_test ?_) (by intro z; cases z)
  have ty : PySem.W.Looks (model X.prog X.w) s.heap (typeOf (.ref a)) cls := fun A Q E s' k z => wpAny_typeOf_ref (k _ _ he) (by rw [hz.1]; exact z)
  have isIt := PySem.W.exm_one (M := model X.prog X.w) J.kIn ty hb
  have named : ∀ {Q : Value → Shared → Prop} {E : Value → Shared → Prop}, Q c s → wpAny (model X.prog X.w) (X.A.mark (some (.ref a))) (eval (.Name x np) X.env) Q E s := fun {Q E} z => by
    obtain ⟨g, dbg, m | ⟨m, bt, nn⟩⟩ := hc
    · exact ld_glob (X := X.suite a ((a, oe) :: (X.pn ++ pins))) S g m z dbg
    · exact ld_blt (X := X.suite a ((a, oe) :: (X.pn ++ pins))) S g m bt z nn dbg
  refine named (isIt.here ?_)
  cases b with
  | false => exact rest pins σ H sI s B a cls d w (no rfl)
  | true =>
    refine codeAny_handlers_suite (HandSPX.lands_againZ w.fl fun h4 fl4 up4 => ?_)
    have w4 : Down X pins σ H sI B a cls d { s with heap := h4 } := ⟨fl4, w.inv, w.nb, w.up.trans up4, w.os, w.ag, w.na⟩
    obtain ⟨oe4, vs4, he4, hz4, hd4, nL4, nF4⟩ := w4.apart hf
    have S4 := w4.now.suite he4 hd4 w.na nL4 nF4
    refine wpAny_mono ((su a oe4 (X.pn ++ pins)).run [] _ σ H _ S4 (yes rfl)) (fun f s6 got => ?_) (fun _ _ z => False.elim z)
    cases f with
    | ret u => obtain ⟨v, σ6, H6, S6, r, z⟩ := got; exact ⟨v, σ6, H6, S6.unsuite ok, r, z⟩
    | next => obtain ⟨σ6, H6, S6, z⟩ := got; exact ⟨σ6, H6, S6.unsuite ok, z⟩
    | brk => obtain ⟨σ6, H6, S6, z⟩ := got; exact ⟨σ6, H6, S6.unsuite ok, z⟩
    | cont => obtain ⟨σ6, H6, S6, z⟩ := got; exact ⟨σ6, H6, S6.unsuite ok, z⟩
end Ask

/-! o.f as a target among several -/
namespace Ask
open PySem PySem.Spec PyProof.Rows L2
def gFld (K : PySem.W.Frag) (to : TE) (f : Str) : TG := fun y σ H Q => to σ H fun x H2 => ∃ a C dx fs, x = .ref a ∧ H2 a = some (.ins C dx fs) ∧ Cls K C ∧ NoAttr K C f ∧ fs.length < 1000 ∧ Q σ (upd H2 a (.ins C dx (putF f y fs)))
theorem pg_fld {X : Cx} {o : Expr} {f : Str} {pos : Pos} {to : TE} (ho : PE X o to) : PG X (.Attribute o f pos) (gFld X.K to f) := by
  refine ⟨fun pins s σ H v u Q I r h => ?_⟩
  rw [assign_Attribute]
  refine wpAny_bind (wpAny_holding (thn (ho.run pins s σ H _ I h) fun ov s1 ⟨x, H1, I1, r1, a, C, dx, fs, ex, ea, c, n, l, q⟩ => ?_))
  subst ex
  obtain rfl : ov = Value.ref a := r1
  refine wpAny_bind (wpAny_standAt (wpAny_bind (wpAny_holding ?_)))
  exact setattr_ok I1 ea c n l r fun s3 I3 => wpAny_release ⟨σ, _, I3, q⟩
end Ask

namespace Ask
open PySem L2
theorem inW_any {H : Hp} {x : V} {ys : List Str} {b : Bool} (h : InW H x ys b) : Any1 H x := by
  rcases h with ⟨h, _⟩ | ⟨_, h⟩
  · exact .inl h
  · exact .inr h
theorem inW_ne {H : Hp} {x : V} {ys : List Str} {y : Str} (h : InW H x ys false) (hy : y ∈ ys) : V.str y ≠ x := by
  rcases h with ⟨_, h⟩ | ⟨_, d, rfl, _⟩
  · rintro rfl
    have e := in_mem hy
    rw [e] at h
    cases h
  · intro z
    cases z
section
variable {P : Program} {w : World} {K : PySem.W.Frag} {mg : Str → Option Value} {base : Heap}
abbrev s_BadLetter_init : Stmt := inClass (top 12) 0
theorem sc_BadLetter_init : FnScope ["self", "index"] ["self", "index"] (defScope s_BadLetter_init) := ⟨rfl, rfl, rfl, by decide +kernel, rfl, by decide +kernel, by decide +kernel⟩
theorem ok_initBadLetter {f fC C : Addr} {fd fdC : FuncData} (F : Fun K "__init__" "BadLetter.__init__" s_BadLetter_init f fd) (T : OexC K C) (h1 : PySem.W.findIn K (.ref C) "index" = some none)
    (GC : FnOk P w K mg base CX0 1 fC fdC ["value"] spCopy) (CP : At K mg "copied" fC fdC ["value"]) : FnOk P w K mg base CX0 2 f fd ["self", "index"] (spErr C okBad fsBad) := by
  refine F.ok sc_BadLetter_init (fun vs H Q E h => ?_) (fun cdv A outer s H vs Q E hr h => ?_)
  · obtain ⟨a, ws, rfl, ⟨i, rfl⟩, _⟩ := h
    rfl
  · obtain ⟨a, ws, rfl, ⟨i, rfl⟩, ha, k⟩ := h
    refine ⟨_, pss_one (ps_ost (pv 0) (pe_call GC hr (by rfl) CP.m CP.k CP.b .nil pass0 (pa_cons (pv 1) pa_nil))), ?_⟩
    refine ⟨_, rfl, _, rfl, .inl ⟨i, rfl⟩, _, rfl, a, C, rfl, T, h1, .inl ⟨ha, fun dx hdx hne => ?_⟩⟩
    refine k _ dx hdx hne upd_same (by rw [upd_ne hne]; exact upd_same) fun b o hb e => ?_
    rw [upd_ne hb, upd_ne (ne_of_none e hdx)]
    exact e
theorem ok_rank {f fE CL CE : Addr} {fd fdE : FuncData} (F : Fun K "rank" "Letters.rank" s_Rank f fd) (T : Blt mg) (hC : Cls K CL) (hA : NoAttr K CL "words")
    (FE : FnOk P w K mg base CX0 2 fE fdE ["self", "index"] (spErr CE okBad fsBad)) (EE : ErrAt K mg "BadLetter" CE fE fdE ["self", "index"]) :
    FnOk P w K mg base (L2.CX P w) 4 f fd ["self", "x"] (spRank CL CE) := by
  refine F.okX sc_Rank (fun vs H Q E h => ?_) (fun cdv A outer s H vs Q E hr h => ?_)
  · obtain ⟨p, t, ys, x, rfl, _⟩ := h
    rfl
  · obtain ⟨p, t, ys, x, rfl, ⟨dx, ob, hp, ht, hob⟩, nd, h⟩ := h
    refine ⟨_, (pss_cons (ps_for (passes_of rfl) rfl (pi_enumA (by rfl) T.n_enumerate (pa_cons (pe_fld (pv 0) rfl) pa_nil)) (pg_tup rfl (pgs_cons (pg_name (i := 2) sc_Rank.nd rfl (Or.inl rfl)) (pgs_cons (pg_name (i := 3) sc_Rank.nd rfl (Or.inl rfl)) pgs_nil)))
        (pss_one (ps_if (pt_cmpR (op_eqW hr.units0) (pv 3) (pv 1) (nomark _)) (pss_one (ps_ret (pv 2))) pss_nil)))
      (pss_one (ps_raise rfl (takes_of rfl rfl rfl rfl) (pmk_oex EE.o EE.i EE.t FE hr EE.b .nil pass0 (by rfl) EE.m (pa_cons pe_int pa_nil))))), ?_⟩
    have hq : SqT K H t (ys.map V.str) := .inl (.inr ⟨ob, ht⟩)
    have hx : Any1 H x := by
      rcases h with ⟨i0, z, rfl, hi, k⟩ | ⟨hw, k⟩
      · exact .inl rfl
      · exact inW_any hw
    have hn : (ys.map V.str).length = ys.length := List.length_map ..
    refine for_enum (fun R r => ⟨_, rfl, p, CL, dx, _, _, rfl, hp, hC, hA, rfl, t, _, rfl, .inr ⟨hq, r⟩⟩) walk_enumT
      (fun i σ' H' => (∀ (j : Nat) (y : Str), j < i → ys[j]? = some y → V.str y ≠ x) ∧ ∃ o2 o3 : Option V, σ' = [some (.ref p), some x, o2, o3] ∧ Same H H')
      ⟨fun j y hj => absurd hj (Nat.not_lt_zero j), none, none, rfl, Same.refl H⟩ (fun i σ' H' _ ⟨_, _, _, _, s'⟩ => seqT_same s' hq) ?_ ?_
    · rintro i e σ' H2 H3 hi ⟨hne, o2, o3, rfl, s2⟩ ⟨t2, x0, y0, rfl, ht2, rfl, ex, ey⟩
      cases ex
      rw [hn] at hi
      obtain ⟨y, hy⟩ : ∃ y, ys[i]? = some y := ⟨_, List.getElem?_eq_getElem hi⟩
      replace ey : (ys.map V.str)[i]? = some y0 := ey
      rw [List.getElem?_map, hy] at ey
      injection ey with ey
      subst ey
      have s3 := Ask.Same.made1 (o := .tup [.int (i : Nat), .str y]) s2 ht2
      have ht3 : upd H2 t2 (.tup [.int (i : Nat), .str y]) t2 = some (.tup [.int (i : Nat), .str y]) := upd_same
      generalize upd H2 t2 (.tup [.int (i : Nat), .str y]) = H4 at s3 ht3 ⊢
      refine ⟨t2, _, rfl, SqT.of ht3, rfl, _, _, rfl, _, _, rfl, rfl, ?_⟩
      refine ⟨_, rfl, _, rfl, y, rfl, hx.same s3, _, rfl, ite2 (fun hd => ?_) (fun hd => ?_)⟩
      · have hd : V.str y = x := of_decide_eq_true hd
        subst hd
        rcases h with ⟨i0, z, hz, hi0, k⟩ | ⟨hw, k⟩
        · injection hz with hz
          subst hz
          obtain rfl : i = i0 := (List.getElem?_inj hi nd).mp (hy.trans hi0.symm)
          exact ⟨_, rfl, k _ s3⟩
        · exact absurd rfl (inW_ne hw (List.mem_of_getElem? hy))
      · have hd : V.str y ≠ x := fun q => hd (decide_eq_true q)
        refine ⟨fun j z hj hz => ?_, _, _, rfl, s3⟩
        rcases Nat.lt_succ_iff_lt_or_eq.mp hj with hj | rfl
        · exact hne j z hj hz
        · rw [hy] at hz
          injection hz with hz
          subst hz
          exact hd
    · rintro σ' H' ⟨hne, o2, o3, rfl, s'⟩
      rw [hn] at hne
      rcases h with ⟨i0, z, rfl, hi0, k⟩ | ⟨hw, k⟩
      · exact absurd rfl (hne i0 z (List.getElem?_eq_some_iff.mp hi0).1 hi0)
      · exact err_made s' ⟨_, rfl⟩ (by show 1 ≤ 1000; decide) (fun H' d s' e => k H' d s' e)
end
end Ask

namespace Ask
open PySem L2
open PySem.SeqAt (notIn_tupleAt EqAt)
section
variable {X : Cx}
theorem op_notInW (hu : X.A.units + 1 < cLine) : OpR X (compareOp .NotIn) (fun x y H Q => ∃ (p : Addr) (ys : List Str) (b : Bool), y = .ref p ∧ SqT X.K H p (ys.map V.str) ∧ InW H x ys b ∧ Q (.bl (!b)) H) := by
  intro pins s σ H x y v u Q I rx ry h
  obtain ⟨p, ys, b, rfl, hq, hw, q⟩ := h
  rcases hw with ⟨fx, rfl⟩ | ⟨rfl, d, rfl, hd⟩
  · refine op_notIn_seq pins s σ H x (.ref p) v u Q I rx ry ⟨p, _, rfl, .inr hq, fx, ?_, q⟩
    rw [List.all_eq_true]
    intro y hy
    obtain ⟨z, _, rfl⟩ := List.mem_map.mp hy
    rfl
  · cases rx
    cases ry
    obtain ⟨its, r, pl, hz⟩ := I.tuple hq
    have at_ : ∀ (y : Str) (t : Tok), EqAt X.A.in1 s (.str y t) (.ref d) false := fun y t => by
      rcases hd with ⟨kvs, hd⟩ | ⟨xs, hd⟩ | ⟨xs, hd⟩
      · obtain ⟨_, _, vs, _, o, es, ep, ho, hx, hdd, _⟩ := I.hok d _ hd
        exact eqAt_sd y t ho hx.1 hdd hu
      · obtain ⟨its2, r2, pl2, _⟩ := I.list (.inl (.inl hd))
        exact PySem.SeqAt.EqAt.str_list y t pl2.isList hu
      · obtain ⟨its2, r2, pl2, _⟩ := I.tuple (.inl (.inl hd))
        exact PySem.SeqAt.EqAt.str_tuple y t pl2 hu
    refine notIn_tupleAt (fun _ => false) pl (fun w hw => strs_eqAtR at_ ys _ r w (by simpa using hw)) ⟨.bl true, H, I, ?_, q⟩
    show Value.bool _ = Value.bool true
    simp
end
theorem inV_str (z : Str) (ys : List Str) : inV (.str z) (ys.map V.str) = decide (z ∈ ys) := by
  by_cases h : z ∈ ys
  · rw [in_mem h, decide_eq_true h]
  · rw [decide_eq_false h]
    unfold inV
    rw [List.any_eq_false]
    intro y hy
    obtain ⟨x, hx, rfl⟩ := List.mem_map.mp hy
    intro e
    have e : decide (x = z) = true := e
    exact h (of_decide_eq_true e ▸ hx)
theorem inV_other {x : V} (h : ∀ z, eqV (.str z) x = false) (ys : List Str) : inV x (ys.map V.str) = false := by
  unfold inV
  rw [List.any_eq_false]
  intro y hy
  obtain ⟨z, hz, rfl⟩ := List.mem_map.mp hy
  rw [h z]
  exact Bool.false_ne_true
/-- a value of the law's: flat, or a list, a tuple, a dict -/
def Val (p : Addr) (H : Hp) (v : V) : Prop := flatV v = true ∨ ∃ d, v = .ref d ∧ d ≠ p ∧ ((∃ kvs, H d = some (.dK kvs)) ∨ (∃ xs, H d = some (.lst xs)) ∨ (∃ xs, H d = some (.tup xs)))
def inB (ys : List Str) : V → Bool
  | .str z => decide (z ∈ ys)
  | _ => false
def isN : V → Bool
  | .non => true
  | _ => false
section
variable {p : Addr} {H H' : Hp} {v : V} {ys : List Str} {K : PySem.W.Frag}
theorem Val.kp (h : Val p H v) (k : Kp p H H') : Val p H' v := by
  rcases h with h | ⟨d, e, n, h⟩
  · exact .inl h
  · refine .inr ⟨d, e, n, ?_⟩
    rcases h with ⟨z, h⟩ | ⟨z, h⟩ | ⟨z, h⟩
    · exact .inl ⟨z, k _ _ n h⟩
    · exact .inr (.inl ⟨z, k _ _ n h⟩)
    · exact .inr (.inr ⟨z, k _ _ n h⟩)
theorem Val.same (h : Val p H v) (s : Same H H') : Val p H' v := h.kp (Kp.of s)
theorem Val.inw (h : Val p H v) (ys : List Str) : InW H v ys (inB ys v) := by
  rcases h with h | ⟨d, rfl, n, h⟩
  · cases v with
    | str z => exact .inl ⟨rfl, (inV_str z ys).symm⟩
    | non => exact .inl ⟨rfl, (inV_other (fun _ => rfl) ys).symm⟩
    | bl b => exact .inl ⟨rfl, (inV_other (fun _ => rfl) ys).symm⟩
    | int i => exact .inl ⟨rfl, (inV_other (fun _ => rfl) ys).symm⟩
    | _ => cases h
  · exact .inr ⟨rfl, d, rfl, h⟩
/-- what isinstance(v, str) tells -/
theorem Val.isi (h : Val p H v) : ∃ ty b, TyX K H v ty ∧ PySem.W.kitOne K ty (.type "str") = some b ∧ (b = true → ∃ z, v = .str z) ∧ (b = false → ∀ ys, inB ys v = false) := by
  rcases h with h | ⟨d, rfl, n, ⟨z, h⟩ | ⟨z, h⟩ | ⟨z, h⟩⟩
  · cases v with
    | str z => exact ⟨.type "str", true, .base (.str z), kit_ty (by decide +kernel), fun _ => ⟨z, rfl⟩, fun h => by cases h⟩
    | non => exact ⟨.type "NoneType", false, .base .non, kit_ty (by decide +kernel), fun h => (by cases h), fun _ _ => rfl⟩
    | bl b => exact ⟨.type "bool", false, .base (.bl b), kit_ty (by decide +kernel), fun h => (by cases h), fun _ _ => rfl⟩
    | int i => exact ⟨.type "int", false, .base (.int i), kit_ty (by decide +kernel), fun h => (by cases h), fun _ _ => rfl⟩
    | _ => cases h
  · exact ⟨.type "dict", false, .base (.dK h), kit_ty (by decide +kernel), fun h => (by cases h), fun _ _ => rfl⟩
  · exact ⟨.type "list", false, ty_list (SqL.of h), kit_ty (by decide +kernel), fun h => (by cases h), fun _ _ => rfl⟩
  · exact ⟨.type "tuple", false, ty_tup (SqT.of h), kit_ty (by decide +kernel), fun h => (by cases h), fun _ _ => rfl⟩
theorem inB_some (h : inB ys v = true) : ∃ z, v = .str z ∧ z ∈ ys := by
  cases v with
  | str z => exact ⟨z, rfl, of_decide_eq_true h⟩
  | _ => cases h
end
def KL : List Str := ["idle", "kept", "still", "over", "undone", "alike"]
def LK : List Str := ["idle", "still"]
/-- the constants of sentences -/
structure GvK (K : PySem.W.Frag) (mg : Str → Option Value) : Prop where
  kinds : ∃ (t : Addr) (u : Value), mg "KINDS" = some u ∧ RelV (.ref t) u ∧ ∀ H, SqT K H t (KL.map V.str)
  lone : ∃ (t : Addr) (u : Value), mg "LONE_KINDS" = some u ∧ RelV (.ref t) u ∧ ∀ H, SqT K H t (LK.map V.str)
section
variable {P : Program} {w : World} {K : PySem.W.Frag} {mg : Str → Option Value} {base : Heap}
/-! ### is_due -/
def spIsDue (CL : Addr) : Sp := fun vs H Q _ => ∃ (m t : Addr) (ys : List Str) (v : V) (h b : Bool), vs = [.ref m, v, .bl h] ∧ Mde CL H m t ys ∧ InW H v ys b ∧ Q (.bl (if h = true then b else decide (v = .non))) H
abbrev s_is_due : Stmt := top 51
theorem sc_is_due : FnScope ["letters", "value", "has_letter"] ["letters", "value", "has_letter"] (defScope s_is_due) := ⟨rfl, rfl, rfl, by decide +kernel, rfl, by decide +kernel, by decide +kernel⟩
theorem ok_isDue {f fH CL : Addr} {fd fdH : FuncData} (F : Fun K "is_due" "is_due" s_is_due f fd)
    (GH : FnOk P w K mg base CX0 1 fH fdH ["self", "x"] (spHas CL)) (bH : Binds K fdH ["self", "x"] []) (hH : PySem.W.findIn K (.ref CL) "__contains__" = some (some (.ref fH))) (iH : PySem.W.isFn K (.ref fH) = true) :
    FnOk P w K mg base CX0 2 f fd ["letters", "value", "has_letter"] (spIsDue CL) := by
  refine F.ok sc_is_due (fun vs H Q E h => ?_) (fun cdv A outer s H vs Q E hr h => ?_)
  · obtain ⟨m, t, ys, v, h, b, rfl, _⟩ := h
    rfl
  · obtain ⟨m, t, ys, v, h, b, rfl, hM, hw, k⟩ := h
    obtain ⟨dx, ob, m1, _⟩ := id hM
    refine ⟨_, (pss_one (ps_ret (pe_ifExp (pt_val (pv 2)) (pe_cmpR (op_inI (C := CL) (E := E0) GH hr bH pass0 hH iH) (pv 1) (pv 0) rfl) (pe_cmpR op_isN (pv 1) pe_non (nomark _))))), ?_⟩
    refine ⟨_, rfl, _, rfl, ?_⟩
    cases h with
    | true => exact iteT ⟨_, rfl, _, rfl, m, dx, _, rfl, m1, m, t, ys, v, b, rfl, hM, hw, b, rfl, k⟩
    | false => exact iteF ⟨_, rfl, rfl, k⟩
/-! ### sides -/
def yOf : V → Str
  | .str y => y
  | _ => ""
def sdL (k x : Str) (s : V) : List Run := if k ∈ LK then [(x, 1)] else if k = "alike" then [(x, 1)] else [(x, 1), (yOf s, 1)]
def sdR (k x : Str) (s : V) : List Run := if k ∈ LK then [] else if k = "alike" then [(yOf s, 1)] else if k = "kept" then [(x, 1)] else if k = "over" then [(yOf s, 1)] else []

def spSides (K : PySem.W.Frag) : Sp := fun vs H Q _ => ∃ (ys : List Str) (k x : Str) (s : V), vs = [.str k, .str x, s, .int 1] ∧ k ∈ KL ∧ x ∈ ys ∧ (k ∉ LK → ∃ y, s = .str y ∧ y ∈ ys) ∧
  ∀ (H' : Hp) (q l r : Addr) (ls rs : List V) (a b : List Run), Same H H' → H' q = some (.tup [.ref l, .ref r]) → SqT K H' l ls → PairsV H' ls a → SqT K H' r rs → PairsV H' rs b → a.length ≤ 2 → b.length ≤ 2 → (∀ z ∈ a, z.1 ∈ ys ∧ z.2 = 1) → (∀ z ∈ b, z.1 ∈ ys ∧ z.2 = 1) → a = sdL k x s → b = sdR k x s → Q (.ref q) H'
end
end Ask

namespace Ask
open PySem L2
def ixOf : List Str → Str → Nat
  | [], _ => 0
  | y :: ys, x => if y = x then 0 else ixOf ys x + 1
theorem ixOf_at : ∀ {ys : List Str} {x : Str}, x ∈ ys → ys[ixOf ys x]? = some x ∧ ∀ m < ixOf ys x, ys[m]? ≠ some x
  | [], _, h => by cases h
  | y :: ys, x, h => by
    unfold ixOf
    by_cases e : y = x
    · rw [if_pos e]
      exact ⟨congrArg some e, fun m hm => absurd hm (Nat.not_lt_zero _)⟩
    · rw [if_neg e]
      have h' : x ∈ ys := by
        rcases List.mem_cons.mp h with h | h
        · exact absurd h.symm e
        · exact h
      obtain ⟨h1, h2⟩ := ixOf_at h'
      refine ⟨h1, fun m hm => ?_⟩
      cases m with
      | zero => exact fun z => e (Option.some.inj z)
      | succ m => exact h2 m (Nat.lt_of_succ_lt_succ hm)
/-- whether x stands ahead of s -/
def ahead (ys : List Str) (x : Str) : V → Bool
  | .str y => decide (ixOf ys x < ixOf ys y)
  | _ => false
/-- the one form -/
def nfT (ys : List Str) (k x : Str) (s : V) : List V := if k = "over" ∧ V.str x = s then [.str "kept", .str x, s] else if k = "alike" ∧ ahead ys x s = true then [.str k, s, .str x] else [.str k, .str x, s]
section
variable {P : Program} {w : World} {K : PySem.W.Frag} {mg : Str → Option Value} {base : Heap}
/-! ### one_form -/
def spForm (CL : Addr) : Sp := fun vs H Q _ => ∃ (m t : Addr) (ys : List Str) (k x : Str) (s : V), vs = [.ref m, .str k, .str x, s] ∧ Mde CL H m t ys ∧ ys.Nodup ∧ x ∈ ys ∧ (k ∉ LK → ∃ y, s = .str y ∧ y ∈ ys) ∧ (k ∈ LK → s = .non) ∧
  ∀ (H' : Hp) (q : Addr), Same H H' → H' q = some (.tup (nfT ys k x s)) → Q (.ref q) H'
abbrev s_one_form : Stmt := top 53
theorem sc_one_form : FnScope ["letters", "kind", "first", "second"] ["letters", "kind", "first", "second"] (defScope s_one_form) := ⟨rfl, rfl, rfl, by decide +kernel, rfl, by decide +kernel, by decide +kernel⟩
theorem ok_form {f fR CL CE : Addr} {fd fdR : FuncData} (F : Fun K "one_form" "one_form" s_one_form f fd) (hC : Cls K CL) (mR : Meth K CL "rank" fR) (bR : Binds K fdR ["self", "x"] []) (GR : FnOk P w K mg base (L2.CX P w) 4 fR fdR ["self", "x"] (spRank CL CE)) :
    FnOk P w K mg base CX0 5 f fd ["letters", "kind", "first", "second"] (spForm CL) := by
  refine F.ok sc_one_form (fun vs H Q E h => ?_) (fun cdv A outer s H vs Q E hr h => ?_)
  · obtain ⟨m, t, ys, k, x, s, rfl, _⟩ := h
    rfl
  · obtain ⟨m, t, ys, k, x, s', rfl, hM, nd, hx, hs1, hs2, kq⟩ := h
    refine ⟨_, (pss_cons (ps_if (PW.pt (pw_and (pt_cmpR op_eq (pv 1) pe_str (nomark _)) (pw_and1 (pt_cmpR op_eq (pv 2) (pv 3) (nomark _))))) (pss_one (ps_ret (pe_tup (pa_cons pe_str (pa_cons (pv 2) (pa_cons (pv 3) pa_nil)))))) pss_nil)
      (pss_cons (ps_if (PW.pt (pw_and (pt_cmpR op_eq (pv 1) pe_str (nomark _)) (pw_and1 (pt_cmpR op_lt (pe_meth (pv 0) hC mR GR hr bR .nil passE (pa_cons (pv 2) pa_nil)) (pe_meth (pv 0) hC mR GR hr bR .nil passE (pa_cons (pv 3) pa_nil)) (nomark _))))) (pss_one (ps_ret (pe_tup (pa_cons (pv 1) (pa_cons (pv 3) (pa_cons (pv 2) pa_nil)))))) pss_nil)
      (pss_one (ps_ret (pe_tup (pa_cons (pv 1) (pa_cons (pv 2) (pa_cons (pv 3) pa_nil)))))))), ?_⟩
    obtain ⟨dx, ob, m1, _⟩ := id hM
    have sc : scal (.str x) s' = true := by
      by_cases l : k ∈ LK
      · rw [hs2 l]; rfl
      · obtain ⟨y, rfl, _⟩ := hs1 l; rfl
    have three : (3 : Nat) ≤ sizeLine := by decide
    -- behind the first look
    have rest : ¬ (k = "over" ∧ V.str x = s') → ∀ (tt : TS), True → True := fun _ _ _ => trivial
    refine ⟨_, rfl, rfl, _, rfl, ite2 (fun q1 => ?_) (fun q1 => ?_)⟩
    · have q1 : k = "over" := V.str.inj (of_decide_eq_true q1)
      refine ⟨_, rfl, _, rfl, sc, _, rfl, ite2 (fun q2 => ?_) (fun q2 => ?_)⟩
      · have q2 := of_decide_eq_true q2
        exact ⟨_, rfl, _, rfl, three, fun q hq => kq _ q (Ask.Same.made1 (Same.refl H) hq) (by unfold nfT; rw [if_pos ⟨q1, q2⟩]; exact upd_same)⟩
      · have q2 : ¬ V.str x = s' := fun z => q2 (decide_eq_true z)
        have n2 : ¬ k = "alike" := by rw [q1]; decide
        refine ⟨_, rfl, rfl, _, rfl, ?_⟩
        rw [decide_eq_false (fun z => n2 (V.str.inj z))]
        refine iteF ⟨_, rfl, _, rfl, _, rfl, three, fun q hq => kq _ q (Ask.Same.made1 (Same.refl H) hq) (by unfold nfT; rw [if_neg (fun z => q2 z.2), if_neg (fun z => n2 z.1)]; exact upd_same)⟩
    · have q1 : ¬ k = "over" := fun z => q1 (decide_eq_true (congrArg V.str z))
      refine ⟨_, rfl, rfl, _, rfl, ite2 (fun q2 => ?_) (fun q2 => ?_)⟩
      · have q2 : k = "alike" := V.str.inj (of_decide_eq_true q2)
        obtain ⟨y, rfl, hy⟩ := hs1 (by rw [q2]; decide)
        refine ⟨_, rfl, m, dx, _, rfl, m1, rfl, _, rfl, m, t, ys, _, rfl, hM, nd, .inl ⟨ixOf ys x, x, rfl, (ixOf_at hx).1, fun H2 s2 => ?_⟩⟩
        refine ⟨_, rfl, m, dx, _, rfl, s2 _ _ m1, rfl, _, rfl, m, t, ys, _, rfl, hM.same s2, nd, .inl ⟨ixOf ys y, y, rfl, (ixOf_at hy).1, fun H3 s3 => ?_⟩⟩
        refine ⟨_, _, rfl, rfl, _, rfl, ite2 (fun q3 => ?_) (fun q3 => ?_)⟩
        · have q3 : (ixOf ys x : Int) < (ixOf ys y : Int) := of_decide_eq_true q3
          exact ⟨_, rfl, _, rfl, _, rfl, three, fun q hq => kq _ q (Ask.Same.made1 (s2.trans s3) hq) (by unfold nfT; rw [if_neg (fun z => q1 z.1), if_pos ⟨q2, decide_eq_true (by omega)⟩]; exact upd_same)⟩
        · have q3 : ¬ (ixOf ys x : Int) < (ixOf ys y : Int) := fun z => q3 (decide_eq_true z)
          exact ⟨_, rfl, _, rfl, _, rfl, three, fun q hq => kq _ q (Ask.Same.made1 (s2.trans s3) hq) (by unfold nfT; rw [if_neg (fun z => q1 z.1), if_neg (fun z => by have := of_decide_eq_true z.2; omega)]; exact upd_same)⟩
      · have q2 : ¬ k = "alike" := fun z => q2 (decide_eq_true (congrArg V.str z))
        exact ⟨_, rfl, _, rfl, _, rfl, three, fun q hq => kq _ q (Ask.Same.made1 (Same.refl H) hq) (by unfold nfT; rw [if_neg (fun z => q1 z.1), if_neg (fun z => q2 z.1)]; exact upd_same)⟩
end
end Ask

namespace Ask
open PySem L2
/-- what stands but at p -/
def But (p : Addr) (H H' : Hp) : Prop := ∀ b o, b ≠ p → H b = some o → H' b = some o
theorem But.same {p : Addr} {H H1 H2 : Hp} (k : But p H H1) (s : Same H1 H2) : But p H H2 := fun b o n e => s _ _ (k b o n e)
theorem But.upd {p : Addr} {H H1 : Hp} {o : HO} (k : But p H H1) : But p H (upd H1 p o) := fun b u n e => by rw [upd_ne n]; exact k b u n e
/-- what comes of a sentence: 0 the kind, 1 and 2 the letters, 3 nothing said, 4 a sentence -/
def outS (ys : List Str) (kd f s : V) : Nat := if inB KL kd = false then 0 else if inB ys f = false then 1 else if (if inB LK kd = true then isN s else inB ys s) = false then 2 else if kd = .str "alike" ∧ f = s then 3 else 4
/-- where a sentence's sides begin -/
def bgR (k : Str) : Str := if k = "still" then "new" else "found"
/-- the attributes that a sentence is given -/
structure SnC (K : PySem.W.Frag) (C : Addr) : Prop where
  c : Cls K C
  a1 : NoAttr K C "letters"
  a2 : NoAttr K C "kind"
  a3 : NoAttr K C "first"
  a4 : NoAttr K C "second"
section
variable {P : Program} {w : World} {K : PySem.W.Frag} {mg : Str → Option Value} {base : Heap}
def spSen (K : PySem.W.Frag) (CL CS CK CT CN : Addr) : Sp := fun vs H Q E => ∃ (p dx m t pp : Addr) (kd f s : V) (ys : List Str), vs = [.ref p, .ref m, kd, f, s] ∧ H p = some (.ins CS dx []) ∧ Mde CL H m t ys ∧ ys.Nodup ∧ Val pp H kd ∧ Val pp H f ∧ Val pp H s ∧
  (outS ys kd f s = 0 → E (.ref CK) none H) ∧
  (∀ i : Nat, outS ys kd f s = i + 1 → i ≤ 1 → ∀ (H' : Hp) (d : Addr), Same H H' → H' d = some (.xd (fsBad [.int (i : Nat)])) → E (.ref CT) (some d) H') ∧
  (outS ys kd f s = 3 → E (.ref CN) none H) ∧
  (outS ys kd f s = 4 → ∀ (k x : Str), kd = .str k → f = .str x → k ∈ KL → x ∈ ys → (k ∉ LK → ∃ y, s = .str y ∧ y ∈ ys) → (k ∈ LK → s = .non) → ∀ (H' : Hp) (k' x' : Str) (s' : V), H' p = some (.ins CS dx [("letters", .ref m), ("kind", .str k'), ("first", .str x'), ("second", s')]) → But p H H' → nfT ys k x s = [.str k', .str x', s'] → Q .non H')
abbrev s_Sen_init : Stmt := inClass (top 55) 0
theorem sc_Sen_init : FnScope ["self", "letters", "kind", "first", "second"] ["self", "letters", "kind", "first", "second"] (defScope s_Sen_init) := ⟨rfl, rfl, rfl, by decide +kernel, rfl, by decide +kernel, by decide +kernel⟩
theorem nfT_three (ys : List Str) (k x : Str) (s : V) : ∃ a b c, nfT ys k x s = [a, b, c] := by
  unfold nfT
  split
  · exact ⟨_, _, _, rfl⟩
  · split
    · exact ⟨_, _, _, rfl⟩
    · exact ⟨_, _, _, rfl⟩
/-- what the one form is, where the parts are right -/
theorem nfT_ok {ys : List Str} {k x : Str} {s : V} (hk : k ∈ KL) (hx : x ∈ ys) (h1 : k ∉ LK → ∃ y, s = .str y ∧ y ∈ ys) (h2 : k ∈ LK → s = .non) :
    ∃ (k' x' : Str) (s' : V), nfT ys k x s = [.str k', .str x', s'] ∧ k' ∈ KL ∧ x' ∈ ys ∧ (k' ∉ LK → ∃ y, s' = .str y ∧ y ∈ ys) ∧ (k' ∈ LK → s' = .non) := by
  unfold nfT
  split
  · rename_i h
    refine ⟨"kept", x, s, rfl, by decide, hx, fun _ => ⟨x, h.2.symm, hx⟩, fun z => absurd z (by decide)⟩
  · split
    · rename_i _ h
      obtain ⟨y, rfl, hy⟩ := h1 (by rw [h.1]; decide)
      exact ⟨k, y, .str x, rfl, hk, hy, fun _ => ⟨x, rfl, hx⟩, fun z => by rw [h.1] at z; exact absurd z (by decide)⟩
    · exact ⟨k, x, s, rfl, hk, hx, h1, h2⟩
theorem ok_senInit {dvs : List V} {f fD fO fT fH CL CS CK CT CN : Addr} {fd fdD fdO fdT fdH : FuncData} (F : FunD K "__init__" "Sentence.__init__" (defArgs s_Sen_init) (defBody s_Sen_init) (defScope s_Sen_init) dvs [] f fd) (hC : SnC K CS) (Gk : GvK K mg)
    (GH : FnOk P w K mg base CX0 1 fH fdH ["self", "x"] (spHas CL)) (bH : Binds K fdH ["self", "x"] []) (hH : PySem.W.findIn K (.ref CL) "__contains__" = some (some (.ref fH))) (iH : PySem.W.isFn K (.ref fH) = true)
    (GD : FnOk P w K mg base CX0 2 fD fdD ["letters", "value", "has_letter"] (spIsDue CL)) (AD : At K mg "is_due" fD fdD ["letters", "value", "has_letter"])
    (GO : FnOk P w K mg base CX0 5 fO fdO ["letters", "kind", "first", "second"] (spForm CL)) (AO : At K mg "one_form" fO fdO ["letters", "kind", "first", "second"])
    (EK : Err0 K mg "BadKind" CK) (EN : Err0 K mg "SaysNothing" CN)
    (GT : FnOk P w K mg base CX0 2 fT fdT ["self", "index"] (spErr CT okBad fsBad)) (ET : ErrAt K mg "BadLetter" CT fT fdT ["self", "index"])  :
    FnOk P w K mg base (L2.CX P w) 7 f fd ["self", "letters", "kind", "first", "second"] (spSen K CL CS CK CT CN) := by
  refine F.ok sc_Sen_init (fun vs H Q E h => ?_) (fun cdv A outer s H vs Q E hr h => ?_)
  · obtain ⟨p, dx, m, t, pp, kd, f, s, ys, rfl, _⟩ := h
    rfl
  · obtain ⟨p, dx, m, t, pp, kd, f, s', ys, rfl, hp, hM, nd, vk, vf, vs, k0, k12, k3, k4⟩ := h
    obtain ⟨tK, uK, mK, rK, sK⟩ := Gk.kinds
    obtain ⟨tL, uL, mL, rL, sL⟩ := Gk.lone
    have hr1 := hr.mono (j := 1) (by decide)
    have hr2 := hr.mono (j := 2) (by decide)
    have hr3 := hr.mono (j := 3) (by decide)
    refine ⟨_, (pss_cons (ps_if (pt_cmpR (op_notInW (hu_of hr)) (pv 2) (pe_gv (v := .ref tK) rfl ⟨uK, mK, rK⟩) rfl) (pss_one (ps_raise rfl (takes_of rfl rfl rfl rfl) (pmk_own0 PySem.F.excBase_ValueError EK.e EK.m EK.k (raises_own EK.b EK.t) (by rfl)))) pss_nil)
      (pss_cons (ps_if (pt_cmpR (op_notInI (C := CL) (E := E0) GH hr1 bH pass0 hH iH) (pv 3) (pv 1) rfl) (pss_one (ps_raise rfl (takes_of rfl rfl rfl rfl) (pmk_oex ET.o ET.i ET.t GT hr3 ET.b .nil pass0 (by rfl) ET.m (pa_cons pe_int pa_nil)))) pss_nil)
      (pss_cons (ps_if (pt_not (pt_val (pe_call GD hr2 (by rfl) AD.m AD.k AD.b .nil pass0 (pa_cons (pv 1) (pa_cons (pv 4) (pa_cons (pe_cmpR op_notIn_seq (pv 2) (pe_gv (v := .ref tL) rfl ⟨uL, mL, rL⟩) rfl) pa_nil)))))) (pss_one (ps_raise rfl (takes_of rfl rfl rfl rfl) (pmk_oex ET.o ET.i ET.t GT hr3 ET.b .nil pass0 (by rfl) ET.m (pa_cons pe_int pa_nil)))) pss_nil)
      (pss_cons (ps_if (PW.pt (pw_and (pt_cmpR op_eq (pv 2) pe_str (nomark _)) (pw_and1 (pt_cmpR op_eq (pv 3) (pv 4) (nomark _))))) (pss_one (ps_raise rfl (takes_of rfl rfl rfl rfl) (pmk_own0 PySem.F.excBase_ValueError EN.e EN.m EN.k (raises_own EN.b EN.t) (by rfl)))) pss_nil)
      (pss_cons (ps_fld (pv 0) (pv 1) rfl)
      (pss_one (ps_asg (pe_call GO (hr.mono (by decide)) (by rfl) AO.m AO.k AO.b .nil pass0 (pa_cons (pv 1) (pa_cons (pv 2) (pa_cons (pv 3) (pa_cons (pv 4) pa_nil))))) (pg_tup rfl (pgs_cons (pg_fld (pv 0)) (pgs_cons (pg_fld (pv 0)) (pgs_cons (pg_fld (pv 0)) pgs_nil))))))))))), ?_⟩
    refine ⟨_, rfl, tK, KL, _, rfl, sK H, vk.inw KL, _, rfl, ?_⟩
    cases bk : inB KL kd with
    | false => exact iteT (k0 (by unfold outS; rw [if_pos bk]))
    | true =>
    refine iteF ?_
    obtain ⟨k, rfl, hk⟩ := inB_some bk
    obtain ⟨dm, ob, m1, _⟩ := id hM
    refine ⟨_, rfl, _, rfl, m, dm, _, rfl, m1, m, t, ys, _, _, rfl, hM, vf.inw ys, _, rfl, _, rfl, ?_⟩
    cases bf : inB ys f with
    | false => exact iteT (err_made (Same.refl H) ⟨_, rfl⟩ (by show 1 ≤ 1000; decide) (fun H' d s' e => k12 0 (by unfold outS; rw [if_neg (by rw [bk]; decide), if_pos bf]) (by decide) H' d s' e))
    | true =>
    refine iteF ?_
    obtain ⟨x, rfl, hx⟩ := inB_some bf
    refine ⟨_, rfl, _, rfl, _, rfl, tL, _, rfl, .inr (sL H), rfl, rfl, m, t, ys, s', _, _, rfl, hM, vs.inw ys, _, rfl, ?_⟩
    have isn : isN s' = decide (s' = V.non) := by
      cases s' <;> first | rfl | exact (decide_eq_false (fun z => by cases z)).symm
    have ec : (if (if true = true then !inV (V.str k) (List.map V.str LK) else inV (V.str k) (List.map V.str LK)) = true then inB ys s' else decide (s' = V.non)) = (if inB LK (.str k) = true then isN s' else inB ys s') := by
      rw [inV_str, isn, if_pos rfl]
      show (if (!decide (k ∈ LK)) = true then _ else _) = (if decide (k ∈ LK) = true then _ else _)
      by_cases l : k ∈ LK
      · rw [decide_eq_true l]; rfl
      · rw [decide_eq_false l]; rfl
    rw [ec]
    cases b2 : (if inB LK (.str k) = true then isN s' else inB ys s') with
    | false => exact iteT (err_made (Same.refl H) ⟨_, rfl⟩ (by show 1 ≤ 1000; decide) (fun H' d s' e => k12 1 (by unfold outS; rw [if_neg (by rw [bk]; decide), if_neg (by rw [bf]; decide), if_pos b2]) (by decide) H' d s' e))
    | true =>
    refine iteF ?_
    have hs1 : k ∉ LK → ∃ y, s' = .str y ∧ y ∈ ys := fun l => by
      have e : inB LK (.str k) = false := decide_eq_false l
      rw [e, if_neg Bool.false_ne_true] at b2
      exact inB_some b2
    have hs2 : k ∈ LK → s' = .non := fun l => by
      have e : inB LK (.str k) = true := decide_eq_true l
      rw [e, if_pos rfl, isn] at b2
      exact of_decide_eq_true b2
    have sc : scal (.str x) s' = true := by
      by_cases l : k ∈ LK
      · rw [hs2 l]; rfl
      · obtain ⟨y, rfl, _⟩ := hs1 l; rfl
    have o34 : outS ys (.str k) (.str x) s' = if V.str k = .str "alike" ∧ V.str x = s' then 3 else 4 := by
      unfold outS
      rw [if_neg (by rw [bk]; decide), if_neg (by rw [bf]; decide), if_neg (by rw [b2]; decide)]
    refine ⟨_, rfl, rfl, _, rfl, ?_⟩
    by_cases qa : V.str k = .str "alike"
    · rw [decide_eq_true qa]
      refine iteT ⟨_, rfl, _, rfl, sc, _, rfl, ?_⟩
      by_cases qb : V.str x = s'
      · rw [decide_eq_true qb]
        exact iteT (k3 (by rw [o34, if_pos ⟨qa, qb⟩]))
      · rw [decide_eq_false qb]
        have o4 : outS ys (.str k) (.str x) s' = 4 := by rw [o34, if_neg (fun z => qb z.2)]
        refine iteF ?_
        refine ⟨_, rfl, _, rfl, p, CS, dx, [], rfl, hp, hC.c, hC.a1, (by show 0 < 1000; decide), ?_⟩
        have p1 : upd H p (.ins CS dx (putF "letters" (.ref m) [])) p = some (.ins CS dx [("letters", .ref m)]) := upd_same
        have b1 : But p H (upd H p (.ins CS dx (putF "letters" (.ref m) []))) := But.upd fun _ _ _ e => e
        generalize upd H p (.ins CS dx (putF "letters" (.ref m) [])) = H1 at p1 b1 ⊢
        have hM1 : Mde CL H1 m t ys := hM.but b1 hp
        refine ⟨_, rfl, _, rfl, _, rfl, _, rfl, m, t, ys, k, x, s', rfl, hM1, nd, hx, hs1, hs2, fun H2 q s2 hq => ?_⟩
        obtain ⟨k', x', s2', enf, hk', hx', hs1', hs2'⟩ := nfT_ok hk hx hs1 hs2
        rw [enf] at hq
        have p2 := s2 _ _ p1
        refine ⟨q, _, rfl, SqT.of hq, rfl, _, _, rfl, _, rfl, p, CS, dx, _, rfl, p2, hC.c, hC.a2, (by show 1 < 1000; decide), _, _, rfl, _, rfl, p, CS, dx, _, rfl, upd_same, hC.c, hC.a3, (by show 2 < 1000; decide), _, _, rfl, _, rfl, p, CS, dx, _, rfl, upd_same, hC.c, hC.a4, (by show 3 < 1000; decide), rfl, ?_⟩
        exact k4 o4 k x rfl rfl hk hx hs1 hs2 _ k' x' s2' upd_same (((b1.same s2).upd.upd).upd) enf
    · rw [decide_eq_false qa]
      have o4 : outS ys (.str k) (.str x) s' = 4 := by rw [o34, if_neg (fun z => qa z.1)]
      refine iteF ?_
      refine ⟨_, rfl, _, rfl, p, CS, dx, [], rfl, hp, hC.c, hC.a1, (by show 0 < 1000; decide), ?_⟩
      have p1 : upd H p (.ins CS dx (putF "letters" (.ref m) [])) p = some (.ins CS dx [("letters", .ref m)]) := upd_same
      have b1 : But p H (upd H p (.ins CS dx (putF "letters" (.ref m) []))) := But.upd fun _ _ _ e => e
      generalize upd H p (.ins CS dx (putF "letters" (.ref m) [])) = H1 at p1 b1 ⊢
      have hM1 : Mde CL H1 m t ys := hM.but b1 hp
      refine ⟨_, rfl, _, rfl, _, rfl, _, rfl, m, t, ys, k, x, s', rfl, hM1, nd, hx, hs1, hs2, fun H2 q s2 hq => ?_⟩
      obtain ⟨k', x', s2', enf, hk', hx', hs1', hs2'⟩ := nfT_ok hk hx hs1 hs2
      rw [enf] at hq
      have p2 := s2 _ _ p1
      refine ⟨q, _, rfl, SqT.of hq, rfl, _, _, rfl, _, rfl, p, CS, dx, _, rfl, p2, hC.c, hC.a2, (by show 1 < 1000; decide), _, _, rfl, _, rfl, p, CS, dx, _, rfl, upd_same, hC.c, hC.a3, (by show 2 < 1000; decide), _, _, rfl, _, rfl, p, CS, dx, _, rfl, upd_same, hC.c, hC.a4, (by show 3 < 1000; decide), rfl, ?_⟩
      exact k4 o4 k x rfl rfl hk hx hs1 hs2 _ k' x' s2' upd_same (((b1.same s2).upd.upd).upd) enf
end
end Ask

/-! a comprehension with two for, by two walks -/
namespace Ask
open PySem L2 PySem.Spec PyProof.Rows
section
variable {J J1 : It} {n n1 : Nat} {G G1 : Hp → Prop} {Y Y1 : Nat → Hp → V → Hp → Prop} {wi wi1 : TI} {g g1 : TG} {tt tt1 : TT} {te : TE} {vs vs1 : List Nat} {σ : L2.St} {H : Hp} {Q : VK}
/-- the inner turns, behind which M holds -/
def In2 (J1 : It) (g1 : TG) (tt1 : TT) (te : TE) (vs1 : List Nat) (D : Addr) (σ2 : L2.St) (M : Hp → Prop) (H4 : Hp) : Prop := ∃ W1 : Nat → Nat → Hp → Prop, (∃ m, W1 0 m H4) ∧ ∀ j k H, W1 j k H → (J1.stop j H ∧ M H) ∨ (J1.go j H ∧ ∃ Nx1 : Hp → Prop, (∀ H', Nx1 H' → ∃ k', k' < k ∧ W1 (j + 1) k' H') ∧
  ∀ x H', J1.yld j H x H' → g1 x (wipe σ2 vs1) H' fun σ3 H5 => wipe σ3 vs1 = wipe σ2 vs1 ∧ tt1 σ3 H5 fun b H6 => if b = true then te σ3 H6 fun y H7 => ∃ acc, H7 D = some (.lst acc) ∧ acc.length < sizeLine ∧ Nx1 (upd H7 D (.lst (acc ++ [y]))) else Nx1 H6)
theorem in2_it (w1 : Walk J1 n1 G1 Y1) {D : Addr} {σ2 : L2.St} {M : Hp → Prop} {H4 : Hp} (Pw : Nat → Hp → Prop) (h0 : Pw 0 H4) (hG : ∀ j H, j ≤ n1 → Pw j H → G1 H)
    (hs : ∀ j x H H', j < n1 → Pw j H → Y1 j H x H' → g1 x (wipe σ2 vs1) H' fun σ3 H5 => wipe σ3 vs1 = wipe σ2 vs1 ∧ tt1 σ3 H5 fun b H6 => if b = true then te σ3 H6 fun y H7 => ∃ acc, H7 D = some (.lst acc) ∧ acc.length < sizeLine ∧ Pw (j + 1) (upd H7 D (.lst (acc ++ [y]))) else Pw (j + 1) H6)
    (hd : ∀ H, Pw n1 H → M H) : In2 J1 g1 tt1 te vs1 D σ2 M H4 := by
  refine ⟨fun j k H => k = n1 - j ∧ j ≤ n1 ∧ Pw j H, ⟨n1, by simp, Nat.zero_le _, h0⟩, ?_⟩
  rintro j k H ⟨rfl, hj, p⟩
  have q := hG j H hj p
  rcases Nat.lt_or_ge j n1 with lt | ge
  · exact .inr ⟨w1.goes j H lt q, Pw (j + 1), fun H' p' => ⟨n1 - (j + 1), by omega, rfl, lt, p'⟩, fun x H' y => hs j x H H' lt p (w1.yields j H x H' lt q y)⟩
  · obtain rfl : j = n1 := by omega
    exact .inl ⟨w1.stops H q, hd H p⟩
theorem lc2_it (f : ∀ R : It → Hp → Prop, R J H → wi σ H R) (wk : Walk J n G Y)
    (h : ∀ D, H D = none → ∃ Pv : Nat → Hp → Prop, Pv 0 (upd H D (.lst [])) ∧ (∀ i H, i ≤ n → Pv i H → G H) ∧
      (∀ i x H H', i < n → Pv i H → Y i H x H' → g x (wipe σ vs) H' fun σ2 H2 => wipe σ2 vs = wipe σ vs ∧ tt σ2 H2 fun b H3 => if b = true then wi1 σ2 H3 fun J1 H4 => In2 J1 g1 tt1 te vs1 D σ2 (Pv (i + 1)) H4 else Pv (i + 1) H3) ∧ (∀ H, Pv n H → Q (.ref D) H)) :
    tLc2 wi g tt wi1 g1 tt1 te vs vs1 σ H Q := by
  delta tLc2
  refine f _ fun D hD => ?_
  obtain ⟨Pv, h0, hG, hs, hd⟩ := h D hD
  refine ⟨fun i m H => m = n - i ∧ i ≤ n ∧ Pv i H, ⟨n, by simp, Nat.zero_le _, h0⟩, ?_⟩
  rintro i m H ⟨rfl, hi, p⟩
  have q := hG i H hi p
  rcases Nat.lt_or_ge i n with lt | ge
  · exact .inr ⟨wk.goes i H lt q, Pv (i + 1), fun H' p' => ⟨n - (i + 1), by omega, rfl, lt, p'⟩, fun x H' y => hs i x H H' lt p (wk.yields i H x H' lt q y)⟩
  · obtain rfl : i = n := by omega
    exact .inl ⟨wk.stops H q, hd H p⟩
end
end Ask

namespace Ask
open PySem L2
/-- the letters of runs, one by one -/
def plainR (rs : List Run) : List Str := rs.flatMap fun r => List.replicate r.2.toNat r.1
theorem plainR_app (rs ss : List Run) : plainR (rs ++ ss) = plainR rs ++ plainR ss := List.flatMap_append ..
theorem plainR_more {rs : List Run} {i : Nat} {r : Run} (h : rs[i]? = some r) : plainR (rs.take (i + 1)) = plainR (rs.take i) ++ List.replicate r.2.toNat r.1 := by
  rw [List.take_add_one, h, plainR_app]
  unfold plainR
  simp
theorem sizeR_cons (r : Run) (rs : List Run) : sizeR (r :: rs) = r.2 + sizeR rs := by
  unfold sizeR
  rw [List.map_cons, List.sum_cons]
theorem sizeR_app (rs ss : List Run) : sizeR (rs ++ ss) = sizeR rs + sizeR ss := by
  induction rs with
  | nil => simp [sizeR]
  | cons r rs ih => rw [List.cons_append, sizeR_cons, sizeR_cons, ih, Int.add_assoc]
theorem sizeR_nonneg {rs : List Run} (h : ∀ r ∈ rs, 0 ≤ r.2) : 0 ≤ sizeR rs := by
  induction rs with
  | nil => exact Int.le_refl 0
  | cons r rs ih =>
    rw [sizeR_cons]
    have := h r (List.mem_cons_self ..)
    have := ih fun x hx => h x (List.mem_cons_of_mem _ hx)
    omega
theorem plainR_len {rs : List Run} (h : ∀ r ∈ rs, 0 ≤ r.2) : ((plainR rs).length : Int) = sizeR rs := by
  induction rs with
  | nil => rfl
  | cons r rs ih =>
    have h1 := h r (List.mem_cons_self ..)
    have h2 := ih fun x hx => h x (List.mem_cons_of_mem _ hx)
    rw [sizeR_cons]
    unfold plainR at h2 ⊢
    rw [List.flatMap_cons, List.length_append, List.length_replicate]
    omega
theorem count_le {rs : List Run} (h : ∀ r ∈ rs, 0 ≤ r.2) {r : Run} (hr : r ∈ rs) : r.2 ≤ sizeR rs := by
  induction rs with
  | nil => cases hr
  | cons a rs ih =>
    rw [sizeR_cons]
    have h1 := h a (List.mem_cons_self ..)
    have h2 := sizeR_nonneg fun x hx => h x (List.mem_cons_of_mem _ hx)
    rcases List.mem_cons.mp hr with rfl | hr
    · omega
    · have := ih (fun x hx => h x (List.mem_cons_of_mem _ hx)) hr
      omega
theorem sizeR_take {rs : List Run} (h : ∀ r ∈ rs, 0 ≤ r.2) (i : Nat) : sizeR (rs.take i) ≤ sizeR rs := by
  have e : sizeR rs = sizeR (rs.take i) + sizeR (rs.drop i) := by rw [← sizeR_app, List.take_append_drop]
  have := sizeR_nonneg (rs := rs.drop i) fun x hx => h x (List.mem_of_mem_drop hx)
  omega
section
variable {P : Program} {w : World} {K : PySem.W.Frag} {mg : Str → Option Value} {base : Heap}
def spWord (K : PySem.W.Frag) (CL CH : Addr) : Sp := fun vs H Q _ => ∃ (p : Addr) (ys : List Str) (b : Str) (rs : List Run), vs = [.ref p] ∧ HistAt K CL CH H p ys b rs ∧ (∀ r ∈ rs, 0 ≤ r.2) ∧ sizeR rs ≤ 2000 ∧ ∀ (H' : Hp) (l : Addr), Same H H' → H' l = some (.tup ((plainR rs).map V.str)) → Q (.ref l) H'
end
end Ask

namespace Ask
open PySem L2
/-! ### runs as data -/
def runD (r : Run) : PyData := .tuple [.str r.1, .int r.2]
def runsD (rs : List Run) : PyData := .tuple (rs.map runD)
theorem dp_runs {K : PySem.W.Frag} {H : Hp} : ∀ {xs : List V} {rs : List Run}, PairsV H xs rs → DpAll K H xs (rs.map runD)
  | [], [], _ => .nil
  | [], _ :: _, h => by have := h.1; simp at this
  | _ :: _, [], h => by have := h.1; simp at this
  | x :: xs, r :: rs, h => by
    obtain ⟨b, rfl, hb⟩ := h.2 0 x r rfl rfl
    refine .cons (.tup (SqT.of hb) (.cons (.str _) (.cons (.int _) .nil))) (dp_runs ⟨Nat.succ.inj h.1, fun i v r' h1 h2 => h.2 (i + 1) v r' h1 h2⟩)
theorem eqv_int1 (a b : Int) : PyData.eqv (.int a) (.int b) = decide (a = b) := by
  simp only [PyData.eqv]
  by_cases h : a = b
  · subst h; simp
  · rw [decide_eq_false h]; simpa using h
theorem eqv_run (r s : Run) : PyData.eqv (runD r) (runD s) = decide (r = s) := by
  unfold runD
  rw [PyData.eqv, PyData.eqvAll, PyData.eqvAll, PyData.eqvAll, eqv_str1, eqv_int1, Bool.and_true]
  by_cases h : r = s
  · subst h; simp
  · rw [decide_eq_false h]
    by_cases h1 : r.1 = s.1
    · have h2 : ¬ r.2 = s.2 := fun z => h (Prod.ext h1 z)
      rw [decide_eq_false h2, Bool.and_false]
    · rw [decide_eq_false h1, Bool.false_and]
theorem eqvAll_runs : ∀ rs ss : List Run, PyData.eqvAll (rs.map runD) (ss.map runD) = decide (rs = ss)
  | [], [] => by simp [PyData.eqvAll]
  | [], _ :: _ => by simp [PyData.eqvAll]
  | _ :: _, [] => by simp [PyData.eqvAll]
  | r :: rs, s :: ss => by
    rw [List.map_cons, List.map_cons, PyData.eqvAll, eqv_run, eqvAll_runs rs ss]
    by_cases h : r = s
    · subst h
      by_cases h2 : rs = ss
      · subst h2; simp
      · simp [h2]
    · simp [h]
theorem eqv_runs (rs ss : List Run) : PyData.eqv (runsD rs) (runsD ss) = decide (rs = ss) := by
  unfold runsD
  rw [PyData.eqv]
  exact eqvAll_runs rs ss
theorem lay_runs : ∀ {rs : List Run}, (∀ r ∈ rs, Asc r.1) → PyData.canLayAll0 (rs.map runD) = true ∧ PyData.depthAll (rs.map runD) ≤ 1 ∧ PyData.hasDictAll (rs.map runD) = false
  | [], _ => ⟨rfl, Nat.zero_le _, rfl⟩
  | r :: rs, h => by
    obtain ⟨h1, h2, h3⟩ := lay_runs (rs := rs) fun x hx => h x (List.mem_cons_of_mem _ hx)
    have a := asc_ok (h r (List.mem_cons_self ..))
    refine ⟨?_, ?_, ?_⟩
    · show (((PyData.canLay0 (.str r.1)) && (PyData.canLay0 (.int r.2) && true)) && PyData.canLayAll0 (rs.map runD)) = true
      rw [h1]
      show (((PyData.strOk r.1) && (true && true)) && true) = true
      rw [a] <;> rfl
    · show max (PyData.depth (runD r)) (PyData.depthAll (rs.map runD)) ≤ 1
      refine Nat.max_le.mpr ⟨?_, h2⟩
      show max 0 (max 0 0) + 1 ≤ 1
      decide
    · show ((false || (false || false)) || PyData.hasDictAll (rs.map runD)) = false
      rw [h3] <;> rfl
theorem shaped_runs {rs : List Run} (h : ∀ r ∈ rs, Asc r.1) : SeqAt.shaped (runsD rs) = true := by
  obtain ⟨h1, h2, _⟩ := lay_runs h
  exact shaped_of h1 (by show PyData.depthAll (rs.map runD) + 1 ≤ 64; omega)
/-- letters whose signs are plain ones -/
def Plain (ys : List Str) : Prop := ∀ y ∈ ys, y.length ≤ 500 ∧ Asc y
def OfL (ys : List Str) (rs : List Run) : Prop := ∀ r ∈ rs, r.1 ∈ ys
theorem OfL.asc {ys : List Str} {rs : List Run} (h : OfL ys rs) (p : Plain ys) : ∀ r ∈ rs, Asc r.1 := fun r hr => (p _ (h r hr)).2
section
variable {P : Program} {w : World} {K : PySem.W.Frag} {mg : Str → Option Value} {base : Heap}
/-! ### History.__eq__ -/
def spHEq (K : PySem.W.Frag) (CL CH : Addr) : Sp := fun vs H Q _ => ∃ (p q : Addr) (ys zs : List Str) (b c : Str) (rs ss : List Run), vs = [.ref p, .ref q] ∧ HistAt K CL CH H p ys b rs ∧ HistAt K CL CH H q zs c ss ∧ Plain ys ∧ Plain zs ∧ OfL ys rs ∧ OfL zs ss ∧
  Q (.bl (decide (ys = zs) && (decide (b = c) && decide (rs = ss)))) H
end
end Ask

namespace Ask
open PySem L2
/-- a letter or nothing, as the kind wants it -/
def SOk (ys : List Str) (k : Str) (s : V) : Prop := (k ∉ LK → ∃ y, s = .str y ∧ y ∈ ys) ∧ (k ∈ LK → s = .non)
/-- a triple that is a sentence -/
def DrOk (ys : List Str) (k x : Str) (s : V) : Prop := k ∈ KL ∧ x ∈ ys ∧ SOk ys k s ∧ ¬ (k = "alike" ∧ V.str x = s)
theorem DrOk.lone {ys : List Str} {k x : Str} (h : k ∈ LK) (hk : k ∈ KL) (hx : x ∈ ys) : DrOk ys k x .non := ⟨hk, hx, ⟨fun z => absurd h z, fun _ => rfl⟩, fun z => by cases z.2⟩
theorem DrOk.two {ys : List Str} {k x y : Str} (h : k ∉ LK) (hk : k ∈ KL) (hx : x ∈ ys) (hy : y ∈ ys) (n : ¬ (k = "alike" ∧ x = y)) : DrOk ys k x (.str y) := ⟨hk, hx, ⟨fun _ => ⟨y, rfl, hy⟩, fun z => absurd z h⟩, fun z => n ⟨z.1, V.str.inj z.2⟩⟩
theorem SOk.cases {ys : List Str} {k : Str} {s : V} (h : SOk ys k s) : s = .non ∨ ∃ y, s = .str y ∧ y ∈ ys := by
  by_cases l : k ∈ LK
  · exact .inl (h.2 l)
  · exact .inr (h.1 l)
/-- a sentence in its one form at p -/
def SenAt (K : PySem.W.Frag) (CL CS : Addr) (H : Hp) (p : Addr) (ys : List Str) (k x : Str) (s : V) : Prop := ∃ (dx m t : Addr), H p = some (.ins CS dx [("letters", .ref m), ("kind", .str k), ("first", .str x), ("second", s)]) ∧ Mde CL H m t ys
theorem SenAt.same {K : PySem.W.Frag} {CL CS p : Addr} {H H' : Hp} {ys : List Str} {k x : Str} {s : V} (h : SenAt K CL CS H p ys k x s) (e : Same H H') : SenAt K CL CS H' p ys k x s := by
  obtain ⟨dx, m, t, h1, h2⟩ := h
  exact ⟨dx, m, t, e _ _ h1, h2.same e⟩
section
variable {P : Program} {w : World} {K : PySem.W.Frag} {mg : Str → Option Value} {base : Heap}
/-! ### equality of sentences -/
def spSEq (K : PySem.W.Frag) (CL CS : Addr) : Sp := fun vs H Q _ => ∃ (p : Addr) (v : V) (ys : List Str) (k x : Str) (s : V), vs = [.ref p, v] ∧ SenAt K CL CS H p ys k x s ∧ SOk ys k s ∧ Plain ys ∧
  ((∃ (q : Addr) (zs : List Str) (k2 x2 : Str) (s2 : V), v = .ref q ∧ SenAt K CL CS H q zs k2 x2 s2 ∧ SOk zs k2 s2 ∧ Plain zs ∧ Q (.bl (decide (ys = zs ∧ k = k2 ∧ x = x2 ∧ s = s2))) H) ∨
    (∃ ty, TyX K H v ty ∧ PySem.W.kitOne K ty (.ref CS) = some false ∧ Q (.bl false) H))
abbrev s_SEq : Stmt := inClass (top 55) 3
theorem sc_SEq : FnScope ["self", "other"] ["self", "other"] (defScope s_SEq) := ⟨rfl, rfl, rfl, by decide +kernel, rfl, by decide +kernel, by decide +kernel⟩
theorem ok_seq {f fQ CL CS : Addr} {fd fdQ : FuncData} (F : Fun K "__eq__" "Sentence.__eq__" s_SEq f fd) (T : Blt mg) (hC : SnC K CS) (Y : XkC K CS) (mS : mg "Sentence" = some (.ref CS))
    (GQ : FnOk P w K mg base CX0 1 fQ fdQ ["self", "other"] (spEq2 CL)) (bQ : Binds K fdQ ["self", "other"] []) (hQ : PySem.W.findIn K (.ref CL) "__eq__" = some (some (.ref fQ))) (iQ : PySem.W.isFn K (.ref fQ) = true) :
    FnOk P w K mg base CX0 2 f fd ["self", "other"] (spSEq K CL CS) := by
  refine F.ok sc_SEq (fun vs H Q E h => ?_) (fun cdv A outer s H vs Q E hr h => ?_)
  · obtain ⟨p, v, ys, k, x, s, rfl, _⟩ := h
    rfl
  · obtain ⟨p, v, ys, k, x, s', rfl, ⟨dx, m, t, hp, hM⟩, so, py, h⟩ := h
    refine ⟨_, (pss_one (ps_ret (pe_and (pe_callB call_isi (by rfl) T.n_isinstance (by decide +kernel) (pa_cons (pv 1) (pa_cons (pe_gv (v := .ref CS) rfl ⟨_, mS, rfl⟩) pa_nil))) (pe_and (pe_cmpR (op_eqI (C := CL) (E := E0) GQ hr bQ pass0 hQ iQ) (pe_fld (pv 0) rfl) (pe_fld (pv 1) rfl) (nomark _)) (pe_and (pe_cmpR op_eq (pe_fld (pv 0) rfl) (pe_fld (pv 1) rfl) (nomark _)) (pe_and (pe_cmpR op_eq (pe_fld (pv 0) rfl) (pe_fld (pv 1) rfl) (nomark _)) (pe_one (pe_cmpR op_eq (pe_fld (pv 0) rfl) (pe_fld (pv 1) rfl) (nomark _))))))))), ?_⟩
    rcases h with ⟨q, zs, k2, x2, s2, rfl, ⟨dx', m', t', hq, hM'⟩, so2, pz, kq⟩ | ⟨ty, hty, hkt, kq⟩
    · have kk : PySem.W.kitOne K (.ref CS) (.ref CS) = some true := by
        unfold PySem.W.kitOne
        rw [if_pos (by simp)]
      refine ⟨_, rfl, _, _, _, _, true, rfl, .own CS, .base (.ins hq hC.c Y.ha Y.hn Y.ht Y.hm), kk, _, rfl, ite2 (fun _ => ?_) (fun q => absurd rfl q)⟩
      obtain ⟨d1, o1, e1, e2, e3⟩ := id hM
      obtain ⟨d2, o2, g1, g2, g3⟩ := id hM'
      refine ⟨_, rfl, p, CS, dx, _, _, rfl, hp, hC.c, hC.a1, rfl, _, rfl, q, CS, dx', _, _, rfl, hq, hC.c, hC.a1, rfl, m, m', d1, d2, _, _, rfl, rfl, e1, g1, m, t, m', t', ys, zs, rfl, hM, hM', py, pz, _, rfl, _, rfl, ?_⟩
      rw [eqv_strs]
      by_cases e1 : ys = zs
      case neg =>
        rw [decide_eq_false (fun z => e1 z.1)] at kq
        rw [decide_eq_false e1]
        exact iteF kq
      rw [decide_eq_true e1]
      refine iteT ⟨_, rfl, p, CS, dx, _, _, rfl, hp, hC.c, hC.a2, rfl, _, rfl, q, CS, dx', _, _, rfl, hq, hC.c, hC.a2, rfl, rfl, _, rfl, ?_⟩
      by_cases e2 : k = k2
      case neg =>
        rw [decide_eq_false (fun z => e2 z.2.1)] at kq
        rw [decide_eq_false (fun z => e2 (V.str.inj z))]
        exact iteF kq
      rw [decide_eq_true (congrArg V.str e2)]
      refine iteT ⟨_, rfl, p, CS, dx, _, _, rfl, hp, hC.c, hC.a3, rfl, _, rfl, q, CS, dx', _, _, rfl, hq, hC.c, hC.a3, rfl, rfl, _, rfl, ?_⟩
      by_cases e3 : x = x2
      case neg =>
        rw [decide_eq_false (fun z => e3 z.2.2.1)] at kq
        rw [decide_eq_false (fun z => e3 (V.str.inj z))]
        exact iteF kq
      rw [decide_eq_true (congrArg V.str e3)]
      have sc : scal s' s2 = true := by
        rcases so.cases with rfl | ⟨y, rfl, _⟩ <;> rcases so2.cases with rfl | ⟨z, rfl, _⟩ <;> rfl
      refine iteT ⟨_, rfl, p, CS, dx, _, _, rfl, hp, hC.c, hC.a4, rfl, _, rfl, q, CS, dx', _, _, rfl, hq, hC.c, hC.a4, rfl, sc, ?_⟩
      have e : decide (s' = s2) = decide (ys = zs ∧ k = k2 ∧ x = x2 ∧ s' = s2) := by
        by_cases q : s' = s2
        · rw [decide_eq_true q, decide_eq_true ⟨e1, e2, e3, q⟩]
        · rw [decide_eq_false q, decide_eq_false (fun z => q z.2.2.2)]
      rw [e]
      exact kq
    · exact ⟨_, rfl, _, _, _, _, false, rfl, .own CS, hty, hkt, _, rfl, iteF kq⟩
end
end Ask

namespace Ask
open PySem L2
theorem let_made {CL CB CM : Addr} {K : PySem.W.Frag} {H : Hp} {a : Addr} {ys : List Str} {Q : VK} {E : XK} (lts : Lts ys) (ha : SqL K H a (ys.map V.str) ∨ SqT K H a (ys.map V.str)) {x dx : Addr} (hx : H x = none) (hdx : H dx = none) (hne : dx ≠ x) (k : ∀ (H' : Hp) (t : Addr), Same H H' → Mde CL H' x t ys → Q .non H') :
    spLet K CL CB CM [.ref x, .ref a] (upd (upd H dx (.own x)) x (.ins CL dx [])) Q E := by
  have sm : Same H (upd (upd H dx (.own x)) x (.ins CL dx [])) := Ask.Same.made1 (Ask.Same.made1 (Same.refl H) hdx) (by rw [upd_ne hne.symm]; exact hx)
  refine ⟨x, dx, a, _, _, (fun _ => True), rfl, upd_same, seqA_same ha sm, itl_strs lts.fit, (by rw [List.length_map]; have := lts.l1; omega), fun _ _ _ e => ?_, fun _ _ e => ?_, fun H5 t o5 _ ho e1 e2 kk => ?_⟩
  · rw [lts.res] at e
    cases e
  · rw [List.length_map] at e
    have := lts.l1
    omega
  · exact k H5 t (Same.made hx hdx fun b o e hb => kk b o hb e) ⟨dx, o5, e1, e2, ho⟩
theorem DrOk.out {ys : List Str} {k x : Str} {s : V} (h : DrOk ys k x s) : outS ys (.str k) (.str x) s = 4 := by
  obtain ⟨hk, hx, so, n⟩ := h
  have b2 : (if inB LK (.str k) = true then isN s else inB ys s) = true := by
    by_cases l : k ∈ LK
    · rw [if_pos (show inB LK (.str k) = true from decide_eq_true l), so.2 l]
      rfl
    · rw [if_neg (show ¬ inB LK (.str k) = true from fun z => l (of_decide_eq_true z))]
      obtain ⟨y, rfl, hy⟩ := so.1 l
      exact decide_eq_true hy
  unfold outS
  rw [if_neg (by rw [show inB KL (.str k) = true from decide_eq_true hk]; decide), if_neg (by rw [show inB ys (.str x) = true from decide_eq_true hx]; decide), if_neg (by rw [b2]; decide), if_neg (fun z => n ⟨V.str.inj z.1, z.2⟩)]
theorem DrOk.flat {ys : List Str} {k x : Str} {s : V} (h : DrOk ys k x s) : flatV s = true := by
  rcases h.2.2.1.cases with rfl | ⟨y, rfl, _⟩ <;> rfl
theorem DrOk.mono {ys zs : List Str} {k x : Str} {s : V} (h : DrOk ys k x s) (m : ∀ y ∈ ys, y ∈ zs) : DrOk zs k x s :=
  ⟨h.1, m _ h.2.1, ⟨fun l => let ⟨y, e, hy⟩ := h.2.2.1.1 l; ⟨y, e, m _ hy⟩, h.2.2.1.2⟩, h.2.2.2⟩
/-- the one form is one, too -/
theorem DrOk.nf {ys : List Str} {k x : Str} {s : V} (h : DrOk ys k x s) : ∃ (k' x' : Str) (s' : V), nfT ys k x s = [.str k', .str x', s'] ∧ k' ∈ KL ∧ x' ∈ ys ∧ SOk ys k' s' := by
  obtain ⟨k', x', s', e, a, b, c, d⟩ := nfT_ok h.1 h.2.1 h.2.2.1.1 h.2.2.1.2
  exact ⟨k', x', s', e, a, b, c, d⟩
section
variable {P : Program} {w : World} {K : PySem.W.Frag} {mg : Str → Option Value} {base : Heap}
/-- Sentence(m, k, x, s) is made -/
theorem sen_made {CL CS CK CT CN : Addr} {H : Hp} {m t pp : Addr} {ys : List Str} {k x : Str} {s : V} {Q : VK} {E : XK} (hM : Mde CL H m t ys) (nd : ys.Nodup) (dr : DrOk ys k x s) {p dx : Addr} (hp : H p = none) (hdx : H dx = none) (hne : dx ≠ p)
    (kq : ∀ (H' : Hp) (k' x' : Str) (s' : V), Same H H' → nfT ys k x s = [.str k', .str x', s'] → SenAt K CL CS H' p ys k' x' s' → Q .non H') :
    spSen K CL CS CK CT CN [.ref p, .ref m, .str k, .str x, s] (upd (upd H dx (.own p)) p (.ins CS dx [])) Q E := by
  have sm : Same H (upd (upd H dx (.own p)) p (.ins CS dx [])) := Ask.Same.made1 (Ask.Same.made1 (Same.refl H) hdx) (by rw [upd_ne hne.symm]; exact hp)
  have o := dr.out
  refine ⟨p, dx, m, t, m, .str k, .str x, s, ys, rfl, upd_same, hM.same sm, nd, .inl rfl, .inl rfl, .inl dr.flat, fun z => absurd (o.symm.trans z) (by decide), fun j z hj H' d sd e => absurd (o.symm.trans z) (by omega), fun z => absurd (o.symm.trans z) (by decide), fun _ k0 x0 ek ex hk hx h1 h2 H' k' x' s' hp' kk enf => ?_⟩
  cases ek
  cases ex
  have s1 : Same H H' := Same.made hp hdx fun b o e hb => kk b o hb e
  exact kq H' k' x' s' s1 enf ⟨dx, m, t, hp', hM.same s1⟩
end
end Ask

namespace Ask
open PySem L2
/-- a text that may be an answer -/
def ansS (z : Str) : Bool := shortL z.cps.toList
def ansB : V → Bool
  | .str z => ansS z
  | _ => false
/-- a value that the law hands in: no text is long -/
def Vl (p : Addr) (H : Hp) (v : V) : Prop := Val p H v ∧ ∀ z, v = .str z → z.length ≤ 500 ∧ Asc z
theorem Vl.kp {p : Addr} {H H' : Hp} {v : V} (h : Vl p H v) (k : Kp p H H') : Vl p H' v := ⟨h.1.kp k, h.2⟩
theorem Vl.same {p : Addr} {H H' : Hp} {v : V} (h : Vl p H v) (k : Same H H') : Vl p H' v := ⟨h.1.same k, h.2⟩
section
variable {P : Program} {w : World} {K : PySem.W.Frag} {mg : Str → Option Value} {base : Heap}
def spShortV : Sp := fun vs H Q _ => ∃ (p : Addr) (v : V), vs = [v] ∧ Vl p H v ∧ ∀ H', Same H H' → Q (.bl (ansB v)) H'
theorem ok_shortV {f : Addr} {fd : FuncData} (F : Fun K "is_short_word" "is_short_word" s_is_short_word f fd) (T : Blt mg) (C : Gv K mg) : FnOk P w K mg base CX0 1 f fd ["value"] spShortV := by
  refine F.ok sc_is_short_word (fun vs H Q E h => ?_) (fun cdv A outer s H vs Q E hr h => ?_)
  · obtain ⟨p, v, rfl, _⟩ := h
    rfl
  · obtain ⟨p, v, rfl, ⟨hv, hz⟩, k⟩ := h
    refine ⟨_, (pss_cons (ps_if (PW.pt (pw_or (pt_not (pt_val (pe_callB call_isi (by rfl) T.n_isinstance (by decide +kernel) (pa_cons (pv 0) (pa_cons (pe_bltn (v := .ty "str") (u := .type "str") rfl T.n_str (by decide +kernel) rfl) pa_nil))))) (pw_or1 (pt_not (pt_chain op_le op_le pe_int (pe_callB call_len_str (by rfl) T.n_len (by decide +kernel) (pa_cons (pv 0) pa_nil)) (pe_gv rfl C.most)))))) (pss_one (ps_ret pe_bl)) pss_nil)
      (pss_one (ps_ret (pe_and (pe_cmpR op_in_sign (pe_ix ix_str (pv 0) pe_int (fun _ _ => rfl)) (pe_gv rfl C.small) rfl) (pe_one (pe_callB (cr_all rfl) (by rfl) T.n_all (by decide +kernel) (pa_cons (pe_lc (own := [("sign", 1)]) rfl sc_is_short_word.nd (pi_str (pv 0)) (blkOk_by (N := ["value", "sign"]) (sc := defScope s_is_short_word) (by decide +kernel)) (fun _ _ _ _ _ => (pg_name (i := 1) sc_is_short_word.nd rfl (Or.inl rfl))) (fun _ _ _ _ _ => pts_nil) (fun _ _ _ _ _ => (pe_cmpR op_in_sign (pv 1) (pe_gv rfl C.signs) rfl))) pa_nil))))))), ?_⟩
    obtain ⟨ty, b, hty, hk, b1, b2⟩ := hv.isi (K := K)
    cases b with
    | false =>
      refine ⟨_, rfl, _, _, _, _, false, rfl, .ty _, hty, hk, _, rfl, iteT ?_⟩
      have e : ansB v = false := by
        cases v with
        | str z => have := b2 rfl [z]; have q : decide (z ∈ [z]) = false := this; simp at q
        | _ => rfl
      have := k H (Same.refl H)
      rw [e] at this
      exact this
    | true =>
    obtain ⟨z, rfl⟩ := b1 rfl
    replace hz := (hz z rfl).1
    replace k : ∀ H', Same H H' → Q (.bl (shortL z.cps.toList)) H' := k
    have z1 : (1000 : Nat) ≤ sizeLine := by decide
    have hl := tl_len z
    refine ⟨_, rfl, _, _, _, _, true, rfl, .ty _, .base (.str _), kit_ty (by decide +kernel), _, rfl, ?_⟩
    refine iteF ⟨_, rfl, z, rfl, by omega, _, _, rfl, rfl, _, rfl, ite2 (fun h1 => ?_) (fun h1 => ?_)⟩
    · have h1 : (1 : Int) ≤ (z.length : Nat) := of_decide_eq_true h1
      refine ⟨_, _, rfl, rfl, _, rfl, ite2 (fun h2 => ?_) (fun h2 => ?_)⟩
      · have h2 : ¬ ((z.length : Nat) : Int) ≤ 12 := fun q => by
          rw [decide_eq_true q] at h2
          cases h2
        have e : shortL z.cps.toList = false := by
          unfold shortL
          rw [decide_eq_false (by omega)]
          rfl
        have := k H (Same.refl H)
        rw [e] at this
        exact this
      · have h2 : ((z.length : Nat) : Int) ≤ 12 := Decidable.byContradiction fun q => h2 (by rw [decide_eq_false q]; rfl)
        obtain ⟨c, r, ec⟩ : ∃ c r, z.cps.toList = c :: r := by
          cases e : z.cps.toList with
          | nil =>
            rw [e] at hl
            have : (0 : Nat) = z.length := hl
            omega
          | cons c r => exact ⟨c, r, rfl⟩
        refine ⟨_, rfl, z, 0, c, rfl, rfl, by omega, by rw [ec]; exact at_by (j := 0) rfl rfl, c, small, rfl, rfl, _, rfl, ite2 (fun h3 => ?_) (fun h3 => ?_)⟩
        · refine ⟨_, rfl, z, rfl, fun L hL => ?_⟩
          refine lc_it walk_str (fun i H' => Same H H' ∧ H' L = some (.lst (((z.cps.toList.take i).map fun c => decide (c ∈ signsL)).map V.bl))) ⟨Ask.Same.upd_new (Same.refl H) hL, upd_same⟩ (fun _ _ _ _ => trivial) (fun i x H1 H2 hi h1 y => ?_) (fun H1 h1 => ?_)
          · obtain ⟨rfl, c', hc', rfl⟩ := y
            obtain ⟨sm, hLL⟩ := h1
            refine ⟨rfl, _, rfl, c', signs, rfl, rfl, _, hLL, ?_, Ask.Same.upd_new sm hL, ?_⟩
            · rw [List.length_map, List.length_map, List.length_take]
              omega
            · rw [upd_same]
              have hc2 : z.cps.toList[i]? = some c' := by rw [Array.getElem?_toList]; exact hc'
              rw [List.take_add_one, hc2]
              simp only [Option.toList_some, List.map_append, List.map_cons, List.map_nil]
              rfl
          · obtain ⟨sm, hLL⟩ := h1
            refine ⟨L, _, rfl, SqL.of hLL, ?_⟩
            have e0 : z.cps.toList.take z.cps.size = z.cps.toList := List.take_of_length_le (by simp)
            rw [e0]
            have e : shortL z.cps.toList = (z.cps.toList.map fun c => decide (c ∈ signsL)).all id := by
              unfold shortL
              rw [decide_eq_true (by omega), ec]
              simp only [List.head?_cons, Bool.true_and]
              rw [show decide (c ∈ smallL) = true from h3, Bool.true_and, List.all_map]
              rfl
            have := k H1 sm
            rw [e] at this
            exact this
        · have e : shortL z.cps.toList = false := by
            unfold shortL
            rw [ec]
            simp only [List.head?_cons]
            rw [show decide (c ∈ smallL) = false from (Bool.not_eq_true _).mp h3, Bool.and_false, Bool.false_and]
          have := k H (Same.refl H)
          rw [e] at this
          exact this
    · have h1 : ¬ (1 : Int) ≤ (z.length : Nat) := fun q => h1 (decide_eq_true q)
      have e : shortL z.cps.toList = false := by
        unfold shortL
        rw [decide_eq_false (by omega)]
        rfl
      refine ⟨_, rfl, ite2 (fun _ => ?_) (fun q => absurd rfl q)⟩
      have := k H (Same.refl H)
      rw [e] at this
      exact this
/-! ### is_answer -/
abbrev s_is_answer : Stmt := top 49
theorem sc_is_answer : FnScope ["value"] ["value"] (defScope s_is_answer) := ⟨rfl, rfl, rfl, by decide +kernel, rfl, by decide +kernel, by decide +kernel⟩
theorem ok_isAnsV {f fS : Addr} {fd fdS : FuncData} (F : Fun K "is_answer" "is_answer" s_is_answer f fd) (GS : FnOk P w K mg base CX0 1 fS fdS ["value"] spShortV) (S : At K mg "is_short_word" fS fdS ["value"]) : FnOk P w K mg base CX0 2 f fd ["value"] spShortV := by
  refine F.ok sc_is_answer (fun vs H Q E h => ?_) (fun cdv A outer s H vs Q E hr h => ?_)
  · obtain ⟨p, v, rfl, _⟩ := h
    rfl
  · obtain ⟨p, v, rfl, hv, k⟩ := h
    refine ⟨_, (pss_one (ps_ret (pe_call GS (by exact hr) (by rfl) S.m S.k S.b .nil pass0 (pa_cons (pv 0) pa_nil)))), ?_⟩
    exact ⟨_, rfl, p, v, rfl, hv, k⟩
end
end Ask

/-! sets of texts: set(list of texts) and sorted of it -/
namespace Ask
open PySem L2 PySem.Froz
/-- at S stands a set of the texts zs, laid in a way that can be walked -/
def TxAt (P : Program) (w : World) (g : Heap) (S : Addr) (zs : List Str) : Prop := ∃ D : SD, g.get? S = some (sObj "set" D) ∧ TxOk P w D zs ∧ Ris D.2.2.place.toList ∧ (w.params.followText "set-order" = true ∨ D.2.2.led = true)
theorem tailTx_ris {m : Nat} {es : Array (Int × Value)} {t : SetTable} {b : Bool} (r : Ris t.place.toList) : Ris (tailTx m es t b).2.2.place.toList := by
  unfold tailTx
  by_cases c : (!b && t.tooFull) = true
  · rw [if_pos c]
    exact relayAll_ris _ _ _
  · rw [if_neg c]
    exact r
theorem tailTx_led {m : Nat} {es : Array (Int × Value)} {t : SetTable} {b : Bool} : (tailTx m es t b).2.2.led = t.led := by
  unfold tailTx
  by_cases c : (!b && t.tooFull) = true
  · rw [if_pos c]
    exact relayAll_led _ _ _
  · rw [if_neg c]
theorem addTx_ris {c : Int} {v : Value} {D : SD} (r : Ris D.2.2.place.toList) : Ris (addTx c v D).2.2.place.toList := by
  have one := layNew_ris D.2.2 D.1 c v r
  refine tailTx_ris ?_
  split
  · exact one
  · exact one
theorem addTx_led {c : Int} {v : Value} {D : SD} : (addTx c v D).2.2.led = D.2.2.led := by
  have one := layNew_led D.2.2 D.1 c v
  refine tailTx_led.trans ?_
  split
  · exact one
  · exact one
section
variable {P : Program} {w : World} {A : Around} {E : Value → Shared → Prop} {s : Shared}
theorem TxAt.kept {g g' : Heap} {S : Addr} {zs : List Str} (R : TxAt P w g S zs) (k : ∀ o, g.get? S = some o → g'.get? S = some o) : TxAt P w g' S zs := by
  obtain ⟨D, e, r⟩ := R
  exact ⟨D, k _ e, r⟩
theorem txAt_new {g : Heap} {S : Addr} (e : g.get? S = some { cls := .type "set", dict := none, data := .set #[] 0 (.fresh 0 0 (!w.params.followText "set-order")) }) : TxAt P w g S [] := by
  refine ⟨(#[], 0, .fresh 0 0 (!w.params.followText "set-order")), e, TxOk.nil (by rfl), List.Pairwise.nil, ?_⟩
  show _ ∨ (!w.params.followText "set-order") = true
  cases w.params.followText "set-order"
  · exact .inr rfl
  · exact .inl rfl
/-- a text that is there already -/
theorem again_x {S : Addr} {T : String} {D : SD} {zs : List Str} {z : Str} {u : Tok} {Q : Bool → Shared → Prop} (e : s.heap.get? S = some (sObj T D)) (F : TxOk P w D zs) (there : z ∈ zs) (few : zs.length < scanBound)
    (q : Q false s) : wpAny (model P w) A (setAddHashed S (.str z u) (hashStr w z)) Q E s := by
  obtain ⟨es, ep, t⟩ := D
  have data : (sObj T (es, ep, t)).data = .set es ep t := rfl
  have fit : t.fits es.size = true := F.fit
  have el : ElemsOf (strKind P w) es.toList := F.el
  have few : es.size < scanBound := by have z : es.size = zs.length := F.sz; omega
  have is : (strKind P w).is z (.str z u) = true := is_str z u
  unfold setAddHashed setAddHashedIn
  refine wpAny_holding (wpAny_bind (wpAny_setState_of e data fit ?_))
  dsimp only
  rw [byScan_of rfl few el]
  simp only [↓reduceIte]
  unfold setAddByScan
  refine wpAny_bind (wpAny_bind (wpAny_rule (wpAny_bind (wpAny_setScan_of is e data fit el ?_))))
  cases c : List.findIdx? (fun e => (strKind P w).is z e.2) es.toList with
  | some j => exact wpAny_pure (wpAny_pure q)
  | none =>
    obtain ⟨y, hy, iy⟩ := (F.mem z).mp there
    have := List.findIdx?_eq_none_iff.mp c y hy
    rw [iy] at this
    cases this
/-- a text goes into the set -/
theorem put_x {S : Addr} {zs : List Str} {z : Str} {u : Tok} {Q : Bool → Shared → Prop} (R : TxAt P w s.heap S zs) (few : zs.length + 1 < scanBound)
    (q : ∀ (g : Heap) (ys : List Str) (b : Bool), Heap.SameBut S s.heap g → TxAt P w g S ys → ((z ∈ zs ∧ ys = zs) ∨ (z ∉ zs ∧ ys = z :: zs)) → Q b { s with heap := g, toks := s.toks + 1 }) :
    wpAny (model P w) A (setAdd S (.str z u)) Q E s := by
  obtain ⟨D, e, F, r, l⟩ := id R
  unfold setAdd
  refine wpAny_holding (wpAny_bind ((strKind P w).pyHash (is_str z u) ?_))
  by_cases there : z ∈ zs
  · exact again_x (s := { s with toks := s.toks + 1 }) e F there (by omega) (q s.heap zs false (Heap.SameBut.refl S s.heap) R (.inl ⟨there, rfl⟩))
  · exact add_x (s := { s with toks := s.toks + 1 }) e F there few (q _ (z :: zs) true (Heap.SameBut.update s.heap S _) ⟨_, Heap.get?_update_self _ e rfl, add_ok u F, addTx_ris r, l.imp id fun z => addTx_led.trans z⟩ (.inr ⟨there, rfl⟩))
/-- what the first i of the texts ys put into the set -/
def Put (ys : List Str) (i : Nat) (zs : List Str) : Prop := zs.Nodup ∧ (∀ z, z ∈ zs ↔ z ∈ ys.take i) ∧ zs.length ≤ i
theorem Put.step {ys zs xs : List Str} {i : Nat} {z : Str} (h : Put ys i zs) (e : ys[i]? = some z) (c : (z ∈ zs ∧ xs = zs) ∨ (z ∉ zs ∧ xs = z :: zs)) : Put ys (i + 1) xs := by
  obtain ⟨nd, mem, len⟩ := h
  have cut : ys.take (i + 1) = ys.take i ++ [z] := by rw [List.take_add_one, e]; rfl
  rcases c with ⟨there, rfl⟩ | ⟨new, rfl⟩
  · refine ⟨nd, fun x => ?_, by omega⟩
    rw [cut, List.mem_append, List.mem_singleton, mem]
    exact ⟨.inl, fun q => q.elim id fun q => by rw [q]; exact (mem z).mp there⟩
  · refine ⟨List.nodup_cons.mpr ⟨new, nd⟩, fun x => ?_, by rw [List.length_cons]; omega⟩
    rw [cut, List.mem_append, List.mem_singleton, List.mem_cons, mem]
    exact Or.comm
end
end Ask

namespace Ask
open PySem L2 PySem.Froz PySem.Spec PyProof.Rows
section
variable {P : Program} {w : World} {A : Around} {E : Value → Shared → Prop} {s : Shared}
/-- the loop that puts one item behind the other into the set -/
theorem fill_x {it S : Addr} {own chg : List Addr} {G : Array GenState → Array GenState → Prop} {many : Nat} {Is : Nat → Value → Prop} {At : Nat → Shared → Prop} {R : Result → Shared → Prop}
    (W : WalksS P w A.in1 it own chg G many Is At) (apart : S ∉ own) (ys : List Str) (hm : many = ys.length) (few : ys.length < 1000) (txt : ∀ i v, Is i v → ∃ z u, ys[i]? = some z ∧ v = .str z u)
    (g0 : Heap) (noS : g0.get? S = none) (noC : ∀ b ∈ chg, g0.get? b = none) :
    ∀ (left i : Nat) (s : Shared), many - i = left → i ≤ many → At i s → (∀ b o, g0.get? b = some o → s.heap.get? b = some o) → (∃ zs, TxAt P w s.heap S zs ∧ Put ys i zs) →
      (∀ s' zs, Moved (S :: chg) G s s' → TxAt P w s'.heap S zs → Put ys many zs → (∀ b o, g0.get? b = some o → s'.heap.get? b = some o) → R (.ok (.ret .none)) s') →
      codeAny (model P w) A (.builtin "set.update.loop" ⟨[.ref S, .ref it], []⟩) R s := by
  have Sc : S ∉ chg := fun z => apart (W.sub _ z)
  have wide : ∀ b ∈ chg, b ∈ S :: chg := fun b z => List.mem_cons_of_mem _ z
  have on : ∀ {s s' : Shared}, Moved chg G s s' → (∀ b o, g0.get? b = some o → s.heap.get? b = some o) → ∀ b o, g0.get? b = some o → s'.heap.get? b = some o := fun mv k b o e =>
    mv.heap b o (fun z => by rw [noC b z] at e; cases e) (k b o e)
  intro left
  induction left with
  | zero =>
    intro i s hl hi at_ k ⟨zs, R1, p⟩ fin
    obtain rfl : i = many := by omega
    refine codeAny_builtin F.entry_set_update_loop ?_
    rw [Around.under_plainId F.plain_set_update_loop _]
    show wpAny _ A.in1 (pyNext (.ref it) >>= _) _ _ s
    refine wpAny_bind (W.done s _ _ at_ fun s1 mv => ?_)
    show wpAny _ A.in1 (ret Value.none) _ _ s1
    exact wpAny_pure (fin s1 zs (mv.mono wide) (R1.kept fun o e => mv.heap S o Sc e) p (on mv k))
  | succ left ih =>
    intro i s hl hi at_ k ⟨zs, R1, p⟩ fin
    have lt : i < many := by omega
    refine codeAny_builtin F.entry_set_update_loop ?_
    rw [Around.under_plainId F.plain_set_update_loop _]
    show wpAny _ A.in1 (pyNext (.ref it) >>= _) _ _ s
    refine wpAny_bind (W.item i s _ _ lt at_ fun v s1 is at1 mv => ?_)
    obtain ⟨z, u, ez, rfl⟩ := txt i v is
    have k1 := on mv k
    show wpAny _ A.in1 (holding [Value.str z u] (setAdd S (.str z u)) >>= _) _ _ s1
    refine wpAny_bind (wpAny_holding (put_x (R1.kept fun o e => mv.heap S o Sc e) (by have := p.2.2; have q : (1000 : Nat) < scanBound := by decide +kernel
                                                                                      omega) fun g xs b same R2 c => ?_))
    have k2 : ∀ b o, g0.get? b = some o → g.get? b = some o := fun b o e => (same.2 b (fun q => by rw [q, noS] at e; cases e)).trans (k1 b o e)
    refine wpAny_pure ⟨plainId_quiet F.plain_set_update_loop _, ih (i + 1) _ (by omega) lt (W.frame _ s1 _ _ at1 (Nat.le_add_right _ _) fun b hb o e => ?_) k2 ⟨xs, R2, p.step ez c⟩ fun s2 xs2 mv2 R3 p2 k3 => ?_⟩
    · exact (same.2 b (fun q => apart (q ▸ hb))).trans e
    · refine fin s2 xs2 (Moved.trans W.gtrans ((mv.mono wide).then_heap (Nat.le_add_right _ _) fun b o hb e => ?_) mv2) R3 p2 k3
      exact (same.2 b (fun q => hb (by rw [q]; exact List.mem_cons_self))).trans e
end
end Ask

namespace Ask
open PySem L2 PySem.Froz PySem.Spec PyProof.Rows
/-- the set before anything is in it -/
abbrev emptyO (w : World) : Obj := { cls := .type "set", dict := none, data := .set #[] 0 (.fresh 0 0 (!w.params.followText "set-order")) }
section
variable {P : Program} {w : World} {A : Around} {E : Value → Shared → Prop} {s : Shared}
/-- what set(ys) leaves: a new set of the texts ys at the first free place -/
def Filled (P : Program) (w : World) (g g' : Heap) (ys : List Str) : Prop := ∃ zs, TxAt P w g' g.objs.size zs ∧ Put ys ys.length zs ∧ ∀ b o, g.get? b = some o → g'.get? b = some o
theorem free_at {g : Heap} {b : Addr} (h : g.objs.size ≤ b) : g.get? b = none := by
  cases q : g.get? b with
  | none => rfl
  | some o => exact absurd (Nat.lt_of_lt_of_le (Heap.lt_size q) h) (Nat.lt_irrefl _)
theorem txt_at {its : Array Value} {ys : List Str} (h : StrsAre its.toList ys) {i : Nat} {v : Value} (e : its[i]? = some v) : ∃ z u, ys[i]? = some z ∧ v = .str z u := by
  have q : its.toList[i]? = some v := by rw [Array.getElem?_toList]; exact e
  generalize its.toList = l at h q
  clear e
  induction h generalizing i with
  | nil => cases q
  | cons z u _ ih =>
    cases i with
    | zero => cases q; exact ⟨_, _, rfl, rfl⟩
    | succ i => exact ih q
/-- set.__init__ with a list of texts -/
theorem init_x {l : Addr} {its : Array Value} {ys : List Str} (free : A.handled = none) (hl : s.heap.IsList l its) (txt : StrsAre its.toList ys) (few : ys.length < 1000) :
    codeAny (model P w) A (.call (.builtin "set.__init__") ⟨[.ref s.heap.objs.size, .ref l], []⟩) (wants (fun r s2 => r = .none ∧ ∃ g tk, s2 = { s with heap := g, toks := tk } ∧ Filled P w s.heap g ys) E) { s with heap := s.heap.push (emptyO w) } := by
  obtain ⟨o, eo, co, ne, dt⟩ := hl
  obtain ⟨cl, di, da, so⟩ := o
  dsimp only at co dt
  subst co dt
  have here : (s.heap.push (emptyO w)).get? l = some { cls := .type "list", dict := di, data := .seq its ne, slots := so } := Heap.get?_push_of_some _ eo
  have many : its.size = ys.length := by rw [← Array.length_toList]; exact txt.length
  have isL : (s.heap.push (emptyO w)).IsList l its := ⟨_, here, rfl, ne, rfl⟩
  have isS : (s.heap.push (emptyO w)).get? s.heap.objs.size = some (emptyO w) := Heap.get?_push_size _ rfl
  have before : l < s.heap.objs.size := Heap.lt_size eo
  have size1 : (s.heap.push (emptyO w)).objs.size = s.heap.objs.size + 1 := Heap.size_push ..
  refine codeAny_call_builtin F.called_set.init.plain F.entry_set_init (check_set_init_1 ⟨_, isS, rfl⟩ ?_)
  have n1 := F.sub_list_set
  have n2 := F.sub_list_frozenset
  have n3 : (Value.type "list" == Value.type "dict") = false := by decide
  unfold Builtin.«set.__init__» noKeywords Builtin.Frozenset.updateFrom
  generalize gi : pyIter = PI
  wp_walk
  subst gi
  refine wpAny_pyIter_list isL (wpAny_bind (wpAny_runValue ?_))
  have free3 : A.in1.in1.handled = none := by simp [free]
  have ne1 : l ≠ (s.heap.push (emptyO w)).objs.size := by rw [size1]; exact Nat.ne_of_lt (Nat.lt_succ_of_lt before)
  refine fill_x (S := s.heap.objs.size) ((Walks.list free3 _ l ne1 its).toS) (fun z => ?_) ys ?_ few (fun i v e => txt_at txt e) s.heap (free_at (Nat.le_refl _)) (fun b z => ?_) (its.size - 0) 0 _ rfl (Nat.zero_le _)
    ⟨⟨_, Heap.get?_push_size _ rfl, rfl, rfl⟩, isL.push _⟩ (fun b o e => Heap.get?_push_of_some _ (Heap.get?_push_of_some _ e)) ⟨[], txAt_new (Heap.get?_push_of_some _ isS), List.nodup_nil, fun z => by rw [List.take_zero], Nat.le_refl _⟩ ?_
  · rw [size1] at z
    rcases List.mem_cons.mp z with z | z
    · exact absurd z (Nat.ne_of_lt (Nat.lt_succ_self _))
    · exact absurd (List.mem_singleton.mp z) (Nat.ne_of_gt before)
  · exact many
  · rw [List.mem_singleton.mp z]
    exact free_at (by rw [size1]; exact Nat.le_succ _)
  · rintro ⟨g, gs, d, tk, os⟩ zs mv R1 p k
    have e1 : gs = s.gens := mv.gens
    have e2 : d = s.drawn := mv.drawn
    have e3 : os = s.os := mv.os
    subst e1 e2 e3
    rw [many] at p
    show wpAny _ _ _ _ _ _
    refine wpAny_pure ?_
    show wpAny _ _ (ret Value.none) _ _ _
    exact wpAny_pure ⟨rfl, g, tk, rfl, zs, R1, p, k⟩
/-- set(ys), ys a list of texts -/
theorem set_x {l : Addr} {its : Array Value} {ys : List Str} {Q : Value → Shared → Prop} (free : A.handled = none) (hl : s.heap.IsList l its) (txt : StrsAre its.toList ys) (few : ys.length < 1000)
    (q : ∀ g tk, Filled P w s.heap g ys → Q (.ref s.heap.objs.size) { s with heap := g, toks := tk }) : wpAny (model P w) A (call (.type "set") [.ref l]) Q E s := by
  obtain ⟨_, _, mro⟩ := F.called_set.mro
  have m1 := F.called_set.made
  have m2 := F.called_set.sub
  refine wpAny_call (codeAny_of_tree ?_)
  show wpAny _ _ (callAny (.type "set") _) _ _ _
  refine wpAny_pure ⟨Code.quiet_builtin _ (by decide +kernel), codeAny_builtin F.entry_type_call ?_⟩
  rw [Around.under_plain (weight_type_call_type "set" [.ref l] []) rfl]
  have m3 := F.called_set.notType
  have m4 := F.called_set.canCreate
  have m5 := F.typeCall_set_1 (.ref l)
  repeat (any_goals (first | assumption | wp_step))
  refine codeAny_mono (code_set_led1 (.ref l) (E := E) (Q₁ := fun v z => v = .ref s.heap.objs.size ∧ z = { s with heap := s.heap.push (emptyO w) }) ⟨rfl, rfl⟩) fun r z hr => ?_
  cases r with
  | error e => exact hr
  | ok c =>
    cases c with
    | ret v =>
      obtain ⟨rfl, rfl⟩ := hr
      have isT : Shared.TypeIs { s with heap := s.heap.push (emptyO w) } (.ref s.heap.objs.size) "set" := ⟨_, Heap.get?_push_size _ rfl, rfl⟩
      have i1 := F.called_set.init.lookup
      have i2 := F.called_set.init.bind (.ref s.heap.objs.size)
      repeat (any_goals (first | assumption | wp_step))
      refine codeAny_mono (init_x (P := P) (E := E) (ys := ys) (by simp [free]) hl txt few) fun r2 z2 hr2 => ?_
      cases r2 with
      | error e => exact hr2
      | ok c2 =>
        cases c2 with
        | ret v2 =>
          obtain ⟨rfl, g, tk, rfl, fl⟩ := hr2
          repeat (any_goals (first | assumption | wp_step))
          exact q g tk fl
        | _ => exact hr2.elim
    | _ => exact hr.elim
end
end Ask

namespace Ask
open PySem L2 PySem.Froz PySem.Spec PyProof.Rows
/-- all of zs, once each, are in ks, which is no longer: the same in another order -/
theorem perm_of_all {α : Type} [DecidableEq α] : ∀ {zs ks : List α}, zs.Nodup → (∀ z ∈ zs, z ∈ ks) → ks.length = zs.length → ks.Perm zs
  | [], ks, _, _, h => by rw [List.length_eq_zero_iff.mp h]
  | z :: zs, ks, nd, sub, h => by
    obtain ⟨new, nd⟩ := List.nodup_cons.mp nd
    have there := sub z List.mem_cons_self
    have p := List.perm_cons_erase there
    refine p.trans (List.Perm.cons z (perm_of_all nd (fun x hx => ?_) ?_))
    · exact (List.mem_erase_of_ne (fun e : x = z => new (by rw [← e]; exact hx))).mpr (sub x (List.mem_cons_of_mem _ hx))
    · have := p.length_eq
      rw [List.length_cons, h, List.length_cons] at this
      omega
def textOf : Value → Str
  | .str z _ => z
  | _ => Str.empty
theorem strs_of : ∀ l : List Value, (∀ v ∈ l, ∃ z u, v = .str z u) → StrsAre l (l.map textOf)
  | [], _ => .nil
  | v :: l, h => by
    obtain ⟨z, u, rfl⟩ := h v List.mem_cons_self
    exact .cons z u (strs_of l fun x hx => h x (List.mem_cons_of_mem _ hx))
theorem is_text {P : Program} {w : World} {z : Str} {v : Value} (h : (PySem.strKind P w).is z v = true) : ∃ u, v = .str z u := by
  have h : Value.isStrOf z v = true := h
  cases v <;> simp [Value.isStrOf] at h
  exact ⟨_, by rw [h]⟩
theorem TxOk.texts {P : Program} {w : World} {D : SD} {zs : List Str} (F : TxOk P w D zs) (nd : zs.Nodup) : (∀ v ∈ D.1.toList.map (·.2), ∃ z u, v = Value.str z u) ∧ ((D.1.toList.map (·.2)).map textOf).Perm zs := by
  have one : ∀ e ∈ D.1.toList, ∃ z u, e.2 = Value.str z u := fun e he => by
    obtain ⟨⟨z, iz, _⟩, _⟩ := F.el e he
    obtain ⟨u, q⟩ := is_text iz
    exact ⟨z, u, q⟩
  refine ⟨fun v hv => ?_, perm_of_all nd (fun z hz => ?_) ?_⟩
  · obtain ⟨e, he, rfl⟩ := List.mem_map.mp hv
    exact one e he
  · obtain ⟨e, he, iz⟩ := (F.mem z).mp hz
    obtain ⟨u, q⟩ := is_text iz
    exact List.mem_map.mpr ⟨e.2, List.mem_map.mpr ⟨e, he, rfl⟩, by rw [q]; rfl⟩
  · rw [List.length_map, List.length_map, Array.length_toList, F.sz]
section
variable {P : Program} {w : World} {A : Around} {E : Value → Shared → Prop} {s : Shared}
/-- sorted(S), S a set of texts -/
theorem sorted_x {S : Addr} {zs : List Str} {Q : Value → Shared → Prop} (R : TxAt P w s.heap S zs) (nd : zs.Nodup) (few : zs.length < 64) (free : A.handled = none)
    (q : ∀ (s2 : Shared) (p : Addr) (out : Array Value) (c : Nat) (ks : List Str), (∀ b o, s.heap.get? b = some o → s2.heap.get? b = some o) → s2.gens = s.gens → s2.os = s.os → s.heap.objs.size ≤ p → s2.heap.get? p = some (seqObj "list" out c) →
      StrsAre out.toList ks → ks.Perm zs → sortedS ks = true → Q (.ref p) s2) : wpAny (model P w) A (call (.builtin "sorted") [.ref S]) Q E s := by
  obtain ⟨⟨es, ep, t⟩, eo, F, ris, led⟩ := R
  obtain ⟨tx, pm⟩ := TxOk.texts F nd
  have fit : t.fits es.size = true := F.fit
  have size : es.size = zs.length := F.sz
  have wide : (64 : Nat) < scanBound := by decide +kernel
  refine Calls.call_function_entry kind_sorted plain_sorted entry_sorted (args_sorted1 _) ?_
  unfold Builtin.«sorted»
  refine wpAny_bind (m := checkCount "sorted" 1 1 _) (wpAny_pure ?_)
  refine wpAny_bind (collect_set (A := A.in1) (es := es) (ep := ep) (t := t) free ⟨_, eo, rfl, rfl⟩ fit (by omega) ris led fun s1 vs k1 g1 g2 g3 po => ?_)
  have are : StrsAre vs (vs.map textOf) := strs_of vs fun v hv => tx v (po.mem_iff.mp hv)
  have pv : (vs.map textOf).Perm zs := (po.map textOf).trans pm
  have lv : vs.length < 64 := by
    have := pv.length_eq
    rw [List.length_map] at this
    omega
  refine wpAny_bind (wpAny_newList ?_ (by rw [sizeLine_eq]; omega))
  have at1 : (s1.heap.push (seqObj "list" vs.toArray 0)).get? s1.heap.objs.size = some (seqObj "list" vs.toArray 0) := Heap.get?_push_size _ rfl
  refine wpAny_bind (wpAny_holding (wpAny_call_entry slot_list_sort ⟨_, at1, rfl⟩ entry_list_sort (list_sort_treeK strKind_oneLt at1 are.keysOf (fun v1 v2 r e => keyKind_strs (by rw [← e]; exact are)) lv fun st hp hs => ⟨_, rfl, ?_⟩) (args_list_sort _)))
  obtain ⟨ks, ar, pk, so⟩ := sorted_out_str are hp hs
  obtain ⟨c, ec⟩ := sortedHeap_at (vs := vs) (out := (arrOf st).map (·.2)) at1
  refine wpAny_pure ⟨_, rfl, q _ s1.heap.objs.size _ c ks (fun b o e => ?_) g2 g3 g1 ec ar (pk.trans pv) so⟩
  have e1 := k1 b o e
  have lt := Heap.lt_size e1
  show (sortedHeap (s1.heap.push (seqObj "list" vs.toArray 0)) s1.heap.objs.size vs ((arrOf st).map (·.2))).get? b = some o
  rw [sortedHeap_old (Nat.ne_of_lt lt) (by rw [size_push']; exact Nat.lt_succ_of_lt lt)]
  exact Heap.get?_push_of_some _ e1
end
end Ask

namespace Ask
open PySem L2 PySem.Froz PySem.Spec PyProof.Rows
/-- a set of the texts zs as a thing of the heap -/
def TxO (P : Program) (w : World) (S : Addr) (zs : List Str) : HO := .ext fun g => TxAt P w g S zs
theorem txO_ok {P : Program} {w : World} {H : Hp} {g : Heap} {S : Addr} {zs : List Str} (R : TxAt P w g S zs) : ObjOk P w H g S (TxO P w S zs) := by
  have ⟨D, e, _⟩ := R
  exact ⟨R, ⟨_, e⟩, fun g1 g2 p k => TxAt.kept p k⟩
section
variable {X : Cx}
/-- set(ys) of a list of texts -/
def rSetTx (K : PySem.W.Frag) (P : Program) (w : World) : List V → Hp → VK → Prop := fun xs H Q => ∃ (l : Addr) (ys : List Str), xs = [.ref l] ∧ SqL K H l (ys.map V.str) ∧ ys.length < 1000 ∧
  ∀ (S : Addr) (zs : List Str), H S = none → zs.Nodup → (∀ z, z ∈ zs ↔ z ∈ ys) → zs.length ≤ ys.length → Q (.ref S) (upd H S (TxO P w S zs))
theorem cr_setTx (hc : X.calm = true) : CallR X (.type "set") (rSetTx X.K X.prog X.w) := by
  intro pins s σ H xs us Q I r h
  obtain ⟨l, ys, rfl, hl, few, q⟩ := h
  rw [Vals.ref1 r]
  obtain ⟨its, rv, pl, _⟩ := I.list hl
  refine set_x (P := X.prog) (w := X.w) (ys := ys) (I.ok.hd hc) pl.isList (by simpa using rv.strs) few fun g tk ⟨zs, R, p, k⟩ => ?_
  refine ⟨.ref s.heap.objs.size, upd H s.heap.objs.size (TxO X.prog X.w s.heap.objs.size zs), I.laid (t' := tk) k (Nat.le_refl _) (txO_ok R), rfl, q _ zs (I.hok.fresh (Nat.le_refl _)) p.1 (fun z => ?_) p.2.2⟩
  have m := p.2.1 z
  rw [List.take_length] at m
  exact m
/-- sorted(S) of a set of texts -/
def rSortedTx (P : Program) (w : World) : List V → Hp → VK → Prop := fun xs H Q => ∃ (S : Addr) (zs : List Str), xs = [.ref S] ∧ H S = some (TxO P w S zs) ∧ zs.Nodup ∧ zs.length < 64 ∧
  ∀ (ks : List Str) (p : Addr), ks.Perm zs → sortedS ks = true → H p = none → Q (.ref p) (upd H p (.lst (ks.map V.str)))
theorem cr_sortedTx (hc : X.calm = true) : CallR X (.builtin "sorted") (rSortedTx X.prog X.w) := by
  intro pins s σ H xs us Q I r h
  obtain ⟨S, zs, rfl, hS, nd, few, q⟩ := h
  have R : TxAt X.prog X.w s.heap S zs := (I.hok S _ hS).1
  rw [Vals.ref1 r]
  refine sorted_x R nd few (I.ok.hd hc) fun s2 p out c ks k g o le e are pm so => ?_
  have new : H p = none := I.hok.fresh le
  have lk : (ks.map V.str).length ≤ sizeLine := by
    rw [List.length_map, pm.length_eq, sizeLine_eq]
    omega
  have ob : ObjOk X.prog X.w H s2.heap p (.lst (ks.map V.str)) := ⟨lk, out.toList, c, vals_of_strs are, e⟩
  have J : Inv X pins σ (upd H p (.lst (ks.map V.str))) { s with heap := s2.heap, gens := s2.gens, drawn := s2.drawn, toks := s2.toks } :=
    I.call (ch := []) (Un.laid k le new) (I.hok.laid k le ob) (by rw [g]; exact I.bare) (fun _ z => nomatch z)
  have same : s2 = { s with heap := s2.heap, gens := s2.gens, drawn := s2.drawn, toks := s2.toks } := by
    obtain ⟨_, _, _, _, _⟩ := s2
    obtain ⟨_, _, _, _, _⟩ := s
    cases o
    rfl
  rw [same]
  exact ⟨.ref p, _, J, rfl, q ks p pm so new⟩
end
end Ask

namespace Ask
open PySem L2
open PyProof.Rows (sortedS)
section
variable {P : Program} {w : World} {K : PySem.W.Frag} {mg : Str → Option Value} {base : Heap}
abbrev s_BadAnswers_init : Stmt := inClass (top 19) 0
theorem sc_BadAnswers_init : FnScope ["self", "index"] ["self", "index"] (defScope s_BadAnswers_init) := ⟨rfl, rfl, rfl, by decide +kernel, rfl, by decide +kernel, by decide +kernel⟩
theorem ok_initBadAnswers {f fC C : Addr} {fd fdC : FuncData} (F : Fun K "__init__" "BadAnswers.__init__" s_BadAnswers_init f fd) (T : OexC K C) (h1 : PySem.W.findIn K (.ref C) "index" = some none)
    (GC : FnOk P w K mg base CX0 1 fC fdC ["value"] spCopy) (CP : At K mg "copied" fC fdC ["value"]) : FnOk P w K mg base CX0 2 f fd ["self", "index"] (spErr C okBad fsBad) := by
  refine F.ok sc_BadAnswers_init (fun vs H Q E h => ?_) (fun cdv A outer s H vs Q E hr h => ?_)
  · obtain ⟨a, ws, rfl, ⟨i, rfl⟩, _⟩ := h
    rfl
  · obtain ⟨a, ws, rfl, ⟨i, rfl⟩, ha, k⟩ := h
    refine ⟨_, pss_one (ps_ost (pv 0) (pe_call GC hr (by rfl) CP.m CP.k CP.b .nil pass0 (pa_cons (pv 1) pa_nil))), ?_⟩
    refine ⟨_, rfl, _, rfl, .inl ⟨i, rfl⟩, _, rfl, a, C, rfl, T, h1, .inl ⟨ha, fun dx hdx hne => ?_⟩⟩
    refine k _ dx hdx hne upd_same (by rw [upd_ne hne]; exact upd_same) fun b o hb e => ?_
    rw [upd_ne hb, upd_ne (ne_of_none e hdx)]
    exact e
/-- the first answer that is none stands at i; no answers at all count as the one at 0 -/
def wrongAt (xs : List V) (i : Int) : Prop := (xs = [] ∧ i = 0) ∨ ∃ (j : Nat) (v : V), i = (j : Nat) ∧ xs[j]? = some v ∧ ansB v = false ∧ ∀ k < j, ∀ u, xs[k]? = some u → ansB u = true
/-- ks: the texts ys, once each, ascending -/
def SetOfS (ys ks : List Str) : Prop := ks.Nodup ∧ sortedS ks = true ∧ ∀ z, z ∈ ks ↔ z ∈ ys
def spAns (K : PySem.W.Frag) (CA CM : Addr) : Sp := fun vs H Q E => ∃ (p a : Addr) (xs : List V), vs = [.ref a] ∧ SqL K H a xs ∧ xs.length ≤ 60 ∧ (∀ v ∈ xs, Vl p H v) ∧
  (∀ (H' : Hp) (d : Addr) (i : Int), wrongAt xs i → Same H H' → H' d = some (.xd (fsBad [.int i])) → E (.ref CA) (some d) H') ∧
  (∀ (ys ks : List Str), xs = ys.map V.str → ys ≠ [] → (∀ y ∈ ys, ansS y = true) → SetOfS ys ks →
    (∀ (H' : Hp) (d : Addr), 6 < ks.length → Same H H' → H' d = some (.xd (fsMany [.str "answers", .int (ks.length : Nat), .int 6])) → E (.ref CM) (some d) H') ∧
    (∀ (H' : Hp) (t : Addr), ks.length ≤ 6 → Same H H' → H' t = some (.tup (ks.map V.str)) → Q (.ref t) H'))
abbrev s_answer_set : Stmt := top 50
theorem sc_answer_set : FnScope ["answers", "index", "answer", "kept"] ["answers"] (defScope s_answer_set) := ⟨rfl, rfl, rfl, by decide +kernel, rfl, by decide +kernel, by decide +kernel⟩
theorem all_strs : ∀ {xs : List V}, (∀ v ∈ xs, ansB v = true) → ∃ ys : List Str, xs = ys.map V.str ∧ ∀ y ∈ ys, ansS y = true
  | [], _ => ⟨[], rfl, fun y h => by cases h⟩
  | v :: xs, h => by
    obtain ⟨ys, rfl, hy⟩ := all_strs fun u hu => h u (List.mem_cons_of_mem _ hu)
    have hv := h v List.mem_cons_self
    cases v with
    | str z => exact ⟨z :: ys, rfl, fun y q => (List.mem_cons.mp q).elim (fun e => by rw [e]; exact hv) (hy y)⟩
    | _ => cases hv
theorem ok_ans {f fI fB fM CA CM : Addr} {fd fdI fdB fdM : FuncData} (F : Fun K "answer_set" "answer_set" s_answer_set f fd) (T : Blt mg) (nSo : mg "sorted" = none) (nSe : mg "set" = none) (mA : ∃ u, mg "MOST_ANSWERS" = some u ∧ RelV (.int 6) u)
    (GI : FnOk P w K mg base CX0 2 fI fdI ["value"] spShortV) (I : At K mg "is_answer" fI fdI ["value"])
    (FB : FnOk P w K mg base CX0 2 fB fdB ["self", "index"] (spErr CA okBad fsBad)) (EB : ErrAt K mg "BadAnswers" CA fB fdB ["self", "index"])
    (FM : FnOk P w K mg base CX0 2 fM fdM ["self", "what", "many", "most"] (spErr CM okMany fsMany)) (EM : ErrAt K mg "TooMany" CM fM fdM ["self", "what", "many", "most"]) :
    FnOk P w K mg base (L2.CX P w) 4 f fd ["answers"] (spAns K CA CM) := by
  refine F.okX sc_answer_set (fun vs H Q E h => ?_) (fun cdv A outer s H vs Q E hr h => ?_)
  · obtain ⟨p, a, xs, rfl, _⟩ := h
    rfl
  · obtain ⟨p, a, xs, rfl, hS, hn, hv, kB, kQ⟩ := h
    have hr2 := hr.mono (j := 2) (by decide)
    refine ⟨_, (pss_cons (ps_if (pt_cmpR op_eq (pe_callB call_len_seq (by rfl) T.n_len (by decide +kernel) (pa_cons (pv 0) pa_nil)) pe_int (nomark _)) (pss_one (ps_raise rfl (takes_of rfl rfl rfl rfl) (pmk_oex EB.o EB.i EB.t FB hr EB.b .nil pass0 (by rfl) EB.m (pa_cons pe_int pa_nil)))) pss_nil)
      (pss_cons (ps_for (passes_of rfl) rfl (pi_enumA (by rfl) T.n_enumerate (pa_cons (pv 0) pa_nil)) (pg_tup rfl (pgs_cons (pg_name (i := 1) sc_answer_set.nd rfl (Or.inl rfl)) (pgs_cons (pg_name (i := 2) sc_answer_set.nd rfl (Or.inl rfl)) pgs_nil))) (pss_one (ps_if (pt_not (pt_val (pe_call GI hr2 (by rfl) I.m I.k I.b .nil pass0 (pa_cons (pv 2) pa_nil)))) (pss_one (ps_raise rfl (takes_of rfl rfl rfl rfl) (pmk_oex EB.o EB.i EB.t FB hr EB.b .nil pass0 (by rfl) EB.m (pa_cons (pv 1) pa_nil)))) pss_nil)))
      (pss_cons (ps_set (i := 3) sc_answer_set.nd rfl (Or.inl rfl) (pe_callTy call_tuple_of (by rfl) T.n_tuple (by decide +kernel) (pa_cons (pe_callB (cr_sortedTx rfl) (by rfl) nSo (by decide +kernel) (pa_cons (pe_callTy (cr_setTx rfl) (by rfl) nSe (by decide +kernel) (pa_cons (pv 0) pa_nil)) pa_nil)) pa_nil)))
      (pss_cons (ps_if (pt_cmpR op_gt (pe_callB call_len_seq (by rfl) T.n_len (by decide +kernel) (pa_cons (pv 3) pa_nil)) (pe_gv rfl mA) (nomark _)) (pss_one (ps_raise rfl (takes_of rfl rfl rfl rfl) (pmk_oex EM.o EM.i EM.t FM hr EM.b .nil pass0 (by rfl) EM.m (pa_cons pe_str (pa_cons (pe_callB call_len_seq (by rfl) T.n_len (by decide +kernel) (pa_cons (pv 3) pa_nil)) (pa_cons (pe_gv rfl mA) pa_nil)))))) pss_nil)
      (pss_one (ps_ret (pv 3))))))), ?_⟩
    have z1 : (1000 : Nat) ≤ sizeLine := by decide
    refine ⟨_, rfl, a, xs, rfl, .inl hS, rfl, _, rfl, ite2 (fun h1 => ?_) (fun h1 => ?_)⟩
    · have h1 : V.int ((xs.length : Nat) : Int) = V.int 0 := of_decide_eq_true h1
      injection h1 with h1
      exact err_made (Same.refl H) ⟨_, rfl⟩ (by show 1 ≤ 1000; decide) (fun H' d s' e => kB H' d 0 (.inl ⟨List.length_eq_zero_iff.mp (by omega), rfl⟩) s' e)
    have h1 : xs ≠ [] := fun q => h1 (by rw [q]; exact decide_eq_true rfl)
    have fits : ∀ (R : It → Hp → Prop), R (Ite K a) H → iEnumA K (tCons (tVar 0) tNil) [some (.ref a), none, none, none] H R := fun R r => ⟨_, rfl, a, xs, rfl, .inl ⟨hS, r⟩⟩
    refine for_enum fits walk_enum (fun i σ' H' => ∃ o1 o2 : Option V, σ' = [some (.ref a), o1, o2, none] ∧ Same H H' ∧ ∀ k < i, ∀ u, xs[k]? = some u → ansB u = true)
      ⟨none, none, rfl, Same.refl _, fun j hj => absurd hj (Nat.not_lt_zero _)⟩ (fun i σ' H' _ ⟨_, _, _, s', _⟩ => s'.seq hS) ?_ ?_
    · rintro i x σ' H2 H3 hi ⟨o1, o2, rfl, s2, hno⟩ ⟨t, x0, v, rfl, ht, rfl, ex, ey⟩
      cases ex
      replace ey : xs[i]? = some v := ey
      have s3 := Ask.Same.made1 (o := .tup [.int (i : Nat), v]) s2 ht
      have ht3 : upd H2 t (.tup [.int (i : Nat), v]) t = some (.tup [.int (i : Nat), v]) := upd_same
      generalize upd H2 t (.tup [.int (i : Nat), v]) = H4 at s3 ht3 ⊢
      refine ⟨t, _, rfl, SqT.of ht3, rfl, _, _, rfl, _, _, rfl, rfl, ?_⟩
      refine ⟨_, rfl, p, v, rfl, (hv v (List.mem_of_getElem? ey)).same s3, fun H5 s5 => ⟨_, rfl, ?_⟩⟩
      have s35 := s3.trans s5
      refine ite2 (fun q => ?_) (fun q => ?_)
      · have q : ansB v = false := by
          cases e : ansB v with
          | false => rfl
          | true => rw [e] at q; cases q
        exact ⟨_, rfl, err_made s35 ⟨_, rfl⟩ (by show 1 ≤ 1000; decide) (fun H' d s' e => kB H' d i (.inr ⟨i, v, rfl, ey, q, hno⟩) s' e)⟩
      · have q : ansB v = true := by
          cases e : ansB v with
          | true => rfl
          | false => rw [e] at q; exact absurd rfl q
        refine ⟨_, _, rfl, s35, fun k hk u hu => ?_⟩
        rcases Nat.lt_succ_iff_lt_or_eq.mp hk with hk | rfl
        · exact hno k hk u hu
        · rw [ey] at hu
          cases hu
          exact q
    · rintro σ' H2 ⟨o1, o2, rfl, s2, hno⟩
      obtain ⟨ys, rfl, hy⟩ := all_strs (xs := xs) fun v hv => by
        obtain ⟨k, hk⟩ := List.getElem?_of_mem hv
        exact hno k (List.getElem?_eq_some_iff.mp hk).1 v hk
      have hny : ys ≠ [] := fun q => h1 (by rw [q]; rfl)
      rw [List.length_map] at hn
      refine ⟨_, rfl, a, ys, rfl, s2.seq hS, by omega, fun S zs hSn nd mem len => ?_⟩
      have s3 := Ask.Same.made1 (o := TxO P w S zs) s2 hSn
      have e3 : upd H2 S (TxO P w S zs) S = some (TxO P w S zs) := upd_same
      generalize hH3 : upd H2 S (TxO P w S zs) = H3 at s3 e3
      refine ⟨S, zs, rfl, upd_same, nd, by omega, fun ks l pm so hl => ?_⟩
      replace hl : H3 l = none := by rw [← hH3]; exact hl
      have s4 := Ask.Same.made1 (o := .lst (ks.map V.str)) s3 hl
      have e4 : upd H3 l (.lst (ks.map V.str)) l = some (.lst (ks.map V.str)) := upd_same
      rw [← hH3] at s4 e4
      refine ⟨l, _, rfl, .inl ⟨SqL.of e4, fun t ht => ?_⟩⟩
      have s5 := Ask.Same.made1 (o := .tup (ks.map V.str)) s4 ht
      have e5 : upd (upd (upd H2 S (TxO P w S zs)) l (.lst (ks.map V.str))) t (.tup (ks.map V.str)) t = some (.tup (ks.map V.str)) := upd_same
      obtain ⟨H5, hH5⟩ : ∃ H5, H5 = upd (upd (upd H2 S (TxO P w S zs)) l (.lst (ks.map V.str))) t (.tup (ks.map V.str)) := ⟨_, rfl⟩
      rw [← hH5] at s5 e5
      obtain ⟨kM, kR⟩ := kQ ys ks rfl hny hy ⟨pm.nodup_iff.mpr nd, so, fun z => pm.mem_iff.trans (mem z)⟩
      have lk : (ks.map V.str).length = ks.length := List.length_map ..
      have e5' : upd (upd (upd H2 S (TxO P w S zs)) l (.lst (ks.map V.str))) t (.tup (ks.map V.str)) t = some (.tup (ks.map V.str)) := upd_same
      refine ⟨_, rfl, t, _, rfl, .inr (SqT.of e5'), _, _, rfl, rfl, _, rfl, ite2 (fun h2 => ?_) (fun h2 => ?_)⟩
      · have h2 : (6 : Int) < ((ks.map V.str).length : Nat) := of_decide_eq_true h2
        rw [lk] at h2
        refine ⟨_, rfl, t, _, rfl, .inr (SqT.of e5'), ?_⟩
        rw [lk]
        exact err_made (H1 := upd (upd (upd H2 S (TxO P w S zs)) l (.lst (ks.map V.str))) t (.tup (ks.map V.str))) (by rw [← hH5]; exact s5) ⟨_, _, _, rfl⟩ (by show 3 ≤ 1000; decide) (fun H' d s' e => kM H' d (by omega) s' e)
      · have h2 : ¬ (6 : Int) < ((ks.map V.str).length : Nat) := fun q => h2 (decide_eq_true q)
        rw [lk] at h2
        exact ⟨_, rfl, kR (upd (upd (upd H2 S (TxO P w S zs)) l (.lst (ks.map V.str))) t (.tup (ks.map V.str))) t (by omega) (by rw [← hH5]; exact s5) e5'⟩
end
end Ask

namespace Ask
open PySem L2
open PyProof.Rows (sortedS)
def LM : List Str := ["always", "fresh", "behind"]
theorem But.of {p : Addr} {H H1 : Hp} (s : Same H H1) : But p H H1 := fun b o _ e => s b o e
/-- the attributes that a limit is given -/
structure LiC (K : PySem.W.Frag) (C : Addr) : Prop where
  c : Cls K C
  a1 : NoAttr K C "letters"
  a2 : NoAttr K C "kind"
  a3 : NoAttr K C "answers"
  a4 : NoAttr K C "letter"
/-- whether the letter is as the kind wants it -/
def dueB (ws : List Str) (kd lt : V) : Bool := if kd = .str "behind" then inB ws lt else isN lt
section
variable {P : Program} {w : World} {K : PySem.W.Frag} {mg : Str → Option Value} {base : Heap}
def spLim (K : PySem.W.Frag) (CL CI CK CA CM CT : Addr) : Sp := fun vs H Q E => ∃ (p dx m t pp a : Addr) (kd lt : V) (xs : List V) (ws : List Str), vs = [.ref p, .ref m, kd, .ref a, lt] ∧ H p = some (.ins CI dx []) ∧ Mde CL H m t ws ∧ Val pp H kd ∧ Val pp H lt ∧ SqL K H a xs ∧ xs.length ≤ 60 ∧ (∀ v ∈ xs, Vl pp H v) ∧
  (inB LM kd = false → E (.ref CK) none H) ∧
  (inB LM kd = true → (∀ (H' : Hp) (d : Addr) (i : Int), wrongAt xs i → Same H H' → H' d = some (.xd (fsBad [.int i])) → E (.ref CA) (some d) H') ∧
    ∀ (ys ks : List Str), xs = ys.map V.str → ys ≠ [] → (∀ y ∈ ys, ansS y = true) → SetOfS ys ks →
      (∀ (H' : Hp) (d : Addr), 6 < ks.length → Same H H' → H' d = some (.xd (fsMany [.str "answers", .int (ks.length : Nat), .int 6])) → E (.ref CM) (some d) H') ∧
      (ks.length ≤ 6 → (dueB ws kd lt = false → ∀ (H' : Hp) (d : Addr), Same H H' → H' d = some (.xd (fsBad [.int 0])) → E (.ref CT) (some d) H') ∧
        (dueB ws kd lt = true → ∀ (k : Str) (H' : Hp) (t2 : Addr), kd = .str k → k ∈ LM → H' p = some (.ins CI dx [("letters", .ref m), ("kind", .str k), ("answers", .ref t2), ("letter", lt)]) → H' t2 = some (.tup (ks.map V.str)) → But p H H' → Q .non H')))
abbrev s_Lim_init : Stmt := inClass (top 56) 0
theorem sc_Lim_init : FnScope ["self", "letters", "kind", "answers", "letter", "kept"] ["self", "letters", "kind", "answers", "letter"] (defScope s_Lim_init) := ⟨rfl, rfl, rfl, by decide +kernel, rfl, by decide +kernel, by decide +kernel⟩
theorem ok_limInit {dvs : List V} {f fD fA fT CL CI CK CA CM CT tK : Addr} {uK : Value} {fd fdD fdA fdT : FuncData} (F : FunD K "__init__" "Limit.__init__" (defArgs s_Lim_init) (defBody s_Lim_init) (defScope s_Lim_init) dvs [] f fd) (hC : LiC K CI)
    (mK : mg "LIMIT_KINDS" = some uK) (rK : RelV (.ref tK) uK) (sK : ∀ H, SqT K H tK (LM.map V.str))
    (GD : FnOk P w K mg base CX0 2 fD fdD ["letters", "value", "has_letter"] (spIsDue CL)) (AD : At K mg "is_due" fD fdD ["letters", "value", "has_letter"])
    (GA : FnOk P w K mg base (L2.CX P w) 4 fA fdA ["answers"] (spAns K CA CM)) (AA : At K mg "answer_set" fA fdA ["answers"])
    (EK : Err0 K mg "BadKind" CK)
    (GT : FnOk P w K mg base CX0 2 fT fdT ["self", "index"] (spErr CT okBad fsBad)) (ET : ErrAt K mg "BadLetter" CT fT fdT ["self", "index"]) :
    FnOk P w K mg base (L2.CX P w) 5 f fd ["self", "letters", "kind", "answers", "letter"] (spLim K CL CI CK CA CM CT) := by
  refine F.ok sc_Lim_init (fun vs H Q E h => ?_) (fun cdv A outer s H vs Q E hr h => ?_)
  · obtain ⟨p, dx, m, t, pp, a, kd, lt, xs, ws, rfl, _⟩ := h
    rfl
  · obtain ⟨p, dx, m, t, pp, a, kd, lt, xs, ws, rfl, hp, hM, vk, vt, hS, hn, hv, k0, k1⟩ := h
    have hr2 := hr.mono (j := 2) (by decide)
    have hr3 := hr.mono (j := 3) (by decide)
    refine ⟨_, (pss_cons (ps_if (pt_cmpR (op_notInW (hu_of hr)) (pv 2) (pe_gv (v := .ref tK) rfl ⟨uK, mK, rK⟩) rfl) (pss_one (ps_raise rfl (takes_of rfl rfl rfl rfl) (pmk_own0 PySem.F.excBase_ValueError EK.e EK.m EK.k (raises_own EK.b EK.t) (by rfl)))) pss_nil)
      (pss_cons (ps_set (i := 5) sc_Lim_init.nd rfl (Or.inl rfl) (pe_call (E := E) GA hr (by rfl) AA.m AA.k AA.b .nil (passes_call (takes_of rfl rfl rfl rfl) (fun _ _ _ _ h => h)) (pa_cons (pv 3) pa_nil)))
      (pss_cons (ps_if (pt_not (pt_val (pe_call GD hr2 (by rfl) AD.m AD.k AD.b .nil pass0 (pa_cons (pv 1) (pa_cons (pv 4) (pa_cons (pe_cmpR op_eq (pv 2) pe_str (nomark _)) pa_nil)))))) (pss_one (ps_raise rfl (takes_of rfl rfl rfl rfl) (pmk_oex ET.o ET.i ET.t GT hr3 ET.b .nil pass0 (by rfl) ET.m (pa_cons pe_int pa_nil)))) pss_nil)
      (pss_cons (ps_fld (pv 0) (pv 1) rfl)
      (pss_cons (ps_fld (pv 0) (pv 2) rfl)
      (pss_cons (ps_fld (pv 0) (pv 5) rfl)
      (pss_one (ps_fld (pv 0) (pv 4) rfl)))))))), ?_⟩
    refine ⟨_, rfl, tK, LM, _, rfl, sK H, vk.inw LM, _, rfl, ?_⟩
    cases bk : inB LM kd with
    | false => exact iteT (k0 bk)
    | true =>
    refine iteF ?_
    obtain ⟨k, rfl, hk⟩ := inB_some bk
    obtain ⟨kE, k2⟩ := k1 bk
    refine ⟨_, rfl, pp, a, xs, rfl, hS, hn, hv, kE, fun ys ks e ny ok so => ?_⟩
    obtain ⟨kM, k3⟩ := k2 ys ks e ny ok so
    refine ⟨kM, fun H1 t2 le s1 e1 => ?_⟩
    obtain ⟨kT, k4⟩ := k3 le
    refine ⟨_, rfl, _, rfl, _, rfl, rfl, m, t, ws, lt, _, _, rfl, hM.same s1, (vt.same s1).inw ws, _, rfl, ?_⟩
    have isn : isN lt = decide (lt = V.non) := by
      cases lt <;> first | rfl | exact (decide_eq_false (fun z => by cases z)).symm
    have ec : (if decide (V.str k = V.str "behind") = true then inB ws lt else decide (lt = .non)) = dueB ws (.str k) lt := by
      unfold dueB
      rw [isn]
      by_cases q : V.str k = V.str "behind"
      · rw [if_pos (decide_eq_true q), if_pos q]
      · rw [if_neg (fun z => q (of_decide_eq_true z)), if_neg q]
    rw [ec]
    cases b2 : dueB ws (.str k) lt with
    | false => exact iteT (err_made s1 ⟨_, rfl⟩ (by show 1 ≤ 1000; decide) (fun H' d s' e => kT b2 H' d s' e))
    | true =>
    refine iteF ?_
    have np : p ≠ t2 := fun q => by
      have := s1 _ _ hp
      rw [q, e1] at this
      cases this
    refine ⟨_, rfl, _, rfl, p, CI, dx, [], rfl, s1 _ _ hp, hC.c, hC.a1, by show 0 < 1000; decide, ?_⟩
    refine ⟨_, rfl, _, rfl, p, CI, dx, _, rfl, upd_same, hC.c, hC.a2, by show 1 < 1000; decide, ?_⟩
    refine ⟨_, rfl, _, rfl, p, CI, dx, _, rfl, upd_same, hC.c, hC.a3, by show 2 < 1000; decide, ?_⟩
    refine ⟨_, rfl, _, rfl, p, CI, dx, _, rfl, upd_same, hC.c, hC.a4, by show 3 < 1000; decide, ?_⟩
    refine k4 b2 k _ t2 rfl hk upd_same ?_ (But.of s1).upd.upd.upd.upd
    rw [upd_ne np.symm, upd_ne np.symm, upd_ne np.symm, upd_ne np.symm]
    exact e1
end
end Ask

namespace Ask
open PySem L2
/-- what is not None -/
def noN (xs : List V) : List V := xs.filter fun v => !decide (v = V.non)
theorem noN_more {xs : List V} {i : Nat} {v : V} (h : xs[i]? = some v) : noN (xs.take (i + 1)) = noN (xs.take i) ++ (if (!decide (v = V.non)) = true then [v] else []) := by
  unfold noN
  rw [List.take_add_one, h, List.filter_append, Option.toList_some, List.filter_cons, List.filter_nil]
theorem noN_len (xs : List V) (i : Nat) : (noN (xs.take i)).length ≤ xs.length := by
  unfold noN
  refine Nat.le_trans (List.length_filter_le _ _) ?_
  rw [List.length_take]
  omega
/-- a limit at p -/
def LimAt (K : PySem.W.Frag) (CL CI : Addr) (H : Hp) (p : Addr) (ws : List Str) (k : Str) (lt : V) (ks : List Str) : Prop := ∃ (dx m t t2 : Addr), H p = some (.ins CI dx [("letters", .ref m), ("kind", .str k), ("answers", .ref t2), ("letter", lt)]) ∧ Mde CL H m t ws ∧ H t2 = some (.tup (ks.map V.str))
theorem LimAt.same {K : PySem.W.Frag} {CL CI p : Addr} {H H' : Hp} {ws ks : List Str} {k : Str} {lt : V} (h : LimAt K CL CI H p ws k lt ks) (e : Same H H') : LimAt K CL CI H' p ws k lt ks := by
  obtain ⟨dx, m, t, t2, h1, h2, h3⟩ := h
  exact ⟨dx, m, t, t2, e _ _ h1, h2.same e, e _ _ h3⟩
def FitL (ys : List Str) : Prop := ∀ y ∈ ys, y.length ≤ 500 ∧ Asc y
def NonS (v : V) : Prop := v = .non ∨ ∃ y, v = .str y
section
variable {P : Program} {w : World} {K : PySem.W.Frag} {mg : Str → Option Value} {base : Heap}
/-! ### equality of limits -/
def spLEq (K : PySem.W.Frag) (CL CI : Addr) : Sp := fun vs H Q _ => ∃ (p q : Addr) (ws zs ks js : List Str) (k k2 : Str) (lt l2 : V), vs = [.ref p, .ref q] ∧ LimAt K CL CI H p ws k lt ks ∧ LimAt K CL CI H q zs k2 l2 js ∧ FitL ws ∧ FitL zs ∧ FitL ks ∧ FitL js ∧ NonS lt ∧ NonS l2 ∧ Q (.bl (decide (ws = zs ∧ k = k2 ∧ ks = js ∧ lt = l2))) H
abbrev s_LEq : Stmt := inClass (top 56) 1
theorem sc_LEq : FnScope ["self", "other"] ["self", "other"] (defScope s_LEq) := ⟨rfl, rfl, rfl, by decide +kernel, rfl, by decide +kernel, by decide +kernel⟩
theorem ok_leq {f fQ CL CI : Addr} {fd fdQ : FuncData} (F : Fun K "__eq__" "Limit.__eq__" s_LEq f fd) (T : Blt mg) (hC : LiC K CI) (Y : XkC K CI) (mI : mg "Limit" = some (.ref CI))
    (GQ : FnOk P w K mg base CX0 1 fQ fdQ ["self", "other"] (spEq2 CL)) (bQ : Binds K fdQ ["self", "other"] []) (hQ : PySem.W.findIn K (.ref CL) "__eq__" = some (some (.ref fQ))) (iQ : PySem.W.isFn K (.ref fQ) = true) :
    FnOk P w K mg base CX0 2 f fd ["self", "other"] (spLEq K CL CI) := by
  refine F.ok sc_LEq (fun vs H Q E h => ?_) (fun cdv A outer s H vs Q E hr h => ?_)
  · obtain ⟨p, q, ws, zs, ks, js, k, k2, lt, l2, rfl, _⟩ := h
    rfl
  · obtain ⟨p, q, ws, zs, ks, js, k, k2, lt, l2, rfl, ⟨dx, m, t, t2, hp, hM, ht⟩, ⟨dx', m', t', t2', hq, hM', ht'⟩, fw, fz, fk, fj, n1, n2, kq⟩ := h
    refine ⟨_, (pss_one (ps_ret (pe_and (pe_callB call_isi (by rfl) T.n_isinstance (by decide +kernel) (pa_cons (pv 1) (pa_cons (pe_gv (v := .ref CI) rfl ⟨_, mI, rfl⟩) pa_nil))) (pe_and (pe_cmpR (op_eqI (C := CL) (E := E0) GQ hr bQ pass0 hQ iQ) (pe_fld (pv 0) rfl) (pe_fld (pv 1) rfl) (nomark _)) (pe_and (pe_cmpR op_eq (pe_fld (pv 0) rfl) (pe_fld (pv 1) rfl) (nomark _)) (pe_and (pe_cmpR (op_eqD hr.units) (pe_fld (pv 0) rfl) (pe_fld (pv 1) rfl) (nomark _)) (pe_one (pe_cmpR op_eq (pe_fld (pv 0) rfl) (pe_fld (pv 1) rfl) (nomark _))))))))), ?_⟩
    have kk : PySem.W.kitOne K (.ref CI) (.ref CI) = some true := by
      unfold PySem.W.kitOne
      rw [if_pos (by simp)]
    refine ⟨_, rfl, _, _, _, _, true, rfl, .own CI, .base (.ins hq hC.c Y.ha Y.hn Y.ht Y.hm), kk, _, rfl, ite2 (fun _ => ?_) (fun q => absurd rfl q)⟩
    obtain ⟨d1, o1, e1, _, _⟩ := id hM
    obtain ⟨d2, o2, g1, _, _⟩ := id hM'
    refine ⟨_, rfl, p, CI, dx, _, _, rfl, hp, hC.c, hC.a1, rfl, _, rfl, q, CI, dx', _, _, rfl, hq, hC.c, hC.a1, rfl, m, m', d1, d2, _, _, rfl, rfl, e1, g1, m, t, m', t', ws, zs, rfl, hM, hM', fw, fz, _, rfl, _, rfl, ?_⟩
    rw [eqv_strs]
    by_cases a1 : ws = zs
    case neg =>
      rw [decide_eq_false (fun z => a1 z.1)] at kq
      rw [decide_eq_false a1]
      exact iteF kq
    rw [decide_eq_true a1]
    refine iteT ⟨_, rfl, p, CI, dx, _, _, rfl, hp, hC.c, hC.a2, rfl, _, rfl, q, CI, dx', _, _, rfl, hq, hC.c, hC.a2, rfl, rfl, _, rfl, ?_⟩
    by_cases a2 : k = k2
    case neg =>
      rw [decide_eq_false (fun z => a2 z.2.1)] at kq
      rw [decide_eq_false (fun z => a2 (V.str.inj z))]
      exact iteF kq
    rw [decide_eq_true (congrArg V.str a2)]
    refine iteT ⟨_, rfl, p, CI, dx, _, _, rfl, hp, hC.c, hC.a3, rfl, _, rfl, q, CI, dx', _, _, rfl, hq, hC.c, hC.a3, rfl, .tuple (ks.map PyData.str), .tuple (js.map PyData.str), .tup (SqT.of ht) (dp_strs ks), .tup (SqT.of ht') (dp_strs js), (fit_strs fk).shapedT, (fit_strs fj).shapedT, _, rfl, ?_⟩
    rw [eqv_strs]
    by_cases a3 : ks = js
    case neg =>
      rw [decide_eq_false (fun z => a3 z.2.2.1)] at kq
      rw [decide_eq_false a3]
      exact iteF kq
    rw [decide_eq_true a3]
    have sc : scal lt l2 = true := by
      rcases n1 with rfl | ⟨y, rfl⟩ <;> rcases n2 with rfl | ⟨z, rfl⟩ <;> rfl
    refine iteT ⟨_, rfl, p, CI, dx, _, _, rfl, hp, hC.c, hC.a4, rfl, _, rfl, q, CI, dx', _, _, rfl, hq, hC.c, hC.a4, rfl, sc, ?_⟩
    have e : decide (lt = l2) = decide (ws = zs ∧ k = k2 ∧ ks = js ∧ lt = l2) := by
      by_cases q : lt = l2
      · rw [decide_eq_true q, decide_eq_true ⟨a1, a2, a3, q⟩]
      · rw [decide_eq_false q, decide_eq_false (fun z => q z.2.2.2)]
    rw [e]
    exact kq
/-! ### Limit.__str__ -/
/-- the words of a limit -/
def wordsL (k : Str) (lt : V) (ks : List Str) : List Str := (match lt with | .str y => [k, y] | _ => [k]) ++ ks
theorem noN_head {k : Str} {lt : V} (h : NonS lt) : ∃ hs : List Str, noN [.str k, lt] = hs.map V.str ∧ ∀ ks, wordsL k lt ks = hs ++ ks := by
  have e : ∀ z : Str, (!decide (V.str z = V.non)) = true := fun z => by rw [decide_eq_false (fun q => by cases q)]; rfl
  unfold noN
  rw [List.filter_cons, if_pos (e k)]
  rcases h with rfl | ⟨y, rfl⟩
  · rw [List.filter_cons, if_neg (by rw [decide_eq_true rfl]; exact Bool.false_ne_true)]
    exact ⟨[k], rfl, fun _ => rfl⟩
  · rw [List.filter_cons, if_pos (e y)]
    exact ⟨[k, y], rfl, fun _ => rfl⟩
def spLStr (K : PySem.W.Frag) (CL CI : Addr) : Sp := fun vs H Q _ => ∃ (p : Addr) (ws ks : List Str) (k : Str) (lt : V), vs = [.ref p] ∧ LimAt K CL CI H p ws k lt ks ∧ NonS lt ∧ ks.length ≤ 12 ∧ (((wordsL k lt ks).map (·.length)).sum + (wordsL k lt ks).length * 1 ≤ 16777216) ∧ ∀ H', Same H H' → Q (.str (Txt.join " " (wordsL k lt ks))) H'
abbrev s_LStr : Stmt := inClass (top 56) 2
theorem sc_LStr : FnScope ["self", "head", "word"] ["self"] (defScope s_LStr) := ⟨rfl, rfl, rfl, by decide +kernel, rfl, by decide +kernel, by decide +kernel⟩
theorem ok_lstr {f CL CI : Addr} {fd : FuncData} (F : Fun K "__str__" "Limit.__str__" s_LStr f fd) (hC : LiC K CI) : FnOk P w K mg base CX0 1 f fd ["self"] (spLStr K CL CI) := by
  refine F.ok sc_LStr (fun vs H Q E h => ?_) (fun cdv A outer s H vs Q E hr h => ?_)
  · obtain ⟨p, ws, ks, k, lt, rfl, _⟩ := h
    rfl
  · obtain ⟨p, ws, ks, k, lt, rfl, ⟨dx, m, t, t2, hp, hM, ht⟩, hs, hk, hz, kq⟩ := h
    refine ⟨_, (pss_cons (ps_setLc (i := 1) (own := [("word", 2)]) rfl sc_LStr.nd rfl rfl (sw_true rfl rfl rfl (by decide +kernel)) (pi_tup (pe_tup (pa_cons (pe_fld (pv 0) rfl) (pa_cons (pe_fld (pv 0) rfl) pa_nil)))) (blkOk_by (N := ["self", "head", "word"]) (sc := defScope s_LStr) (by decide +kernel)) (fun _ _ _ _ _ => (pg_name (i := 2) sc_LStr.nd rfl (Or.inl rfl))) (fun _ _ _ _ _ => pts_one (pt_cmpR (show OpR _ _ (fun x y H Q => y = .non ∧ Q (.bl (!decide (x = .non))) H) from op_notN) (pv 2) pe_non (nomark _))) (fun _ _ _ _ _ => (pv 2)))
      (pss_one (ps_ret (pe_join pe_str (pe_lst (StX.pa_star (pv 1) (StX.pa_star (pe_fld (pv 0) rfl) pa_nil))))))), ?_⟩
    have z1 : (1000 : Nat) ≤ sizeLine := by decide
    refine ⟨_, rfl, p, CI, dx, _, _, rfl, hp, hC.c, hC.a2, rfl, _, rfl, p, CI, dx, _, _, rfl, hp, hC.c, hC.a4, rfl, by show 2 ≤ sizeLine; decide, fun u hu => ⟨u, rfl, ⟨_, SqT.of upd_same⟩, fun L hL => ?_⟩⟩
    have s1 := Ask.Same.made1 (o := .tup [.str k, lt]) (Same.refl H) hu
    have f1 : upd H u (.tup [.str k, lt]) u = some (.tup [.str k, lt]) := upd_same
    generalize upd H u (.tup [.str k, lt]) = H1 at s1 f1 hL ⊢
    refine lc_it (walk_tup (xs := [.str k, lt])) (fun i H' => Same H1 H' ∧ H' L = some (.lst (noN (([.str k, lt] : List V).take i)))) ⟨Ask.Same.upd_new (Same.refl _) hL, upd_same⟩ (fun i H' _ hh => seqT_same hh.1 (SqT.of f1)) ?_ ?_
    · rintro i v H2 H3 hi ⟨s2, hL2⟩ ⟨rfl, hv⟩
      refine ⟨rfl, _, rfl, rfl, _, rfl, ?_⟩
      have e := noN_more hv
      have n := noN_len [.str k, lt] i
      have n3 : ([.str k, lt] : List V).length = 2 := rfl
      refine ite2 (fun q => ?_) (fun q => ?_)
      · rw [if_pos q] at e
        exact ⟨_, rfl, _, hL2, by omega, Ask.Same.upd_new s2 hL, by rw [upd_same, e]⟩
      · rw [if_neg q, List.append_nil] at e
        exact ⟨s2, by rw [e]; exact hL2⟩
    · rintro H2 ⟨s2, hL2⟩
      obtain ⟨hd, eh, ew⟩ := noN_head (k := k) hs
      have s12 := s1.trans s2
      replace hL2 : H2 L = some (.lst (hd.map V.str)) := by
        rw [← eh]
        exact hL2
      have lh : hd.length ≤ 2 := by
        have := congrArg List.length eh
        rw [List.length_map] at this
        rw [← this]
        exact Nat.le_trans (List.length_filter_le _ _) (Nat.le_refl _)
      refine ⟨⟨_, rfl⟩, _, rfl, L, _, rfl, .inr (SqL.of hL2), _, rfl, p, CI, dx, _, _, rfl, s12 _ _ hp, hC.c, hC.a3, rfl, t2, _, rfl, .inl (SqT.of (s12 _ _ ht)), ?_, fun M hM2 => ?_⟩
      · rw [List.length_append, List.length_append, List.length_map, List.length_map]
        show _ + (_ + 0) ≤ sizeLine
        omega
      · have s3 := Ask.Same.made1 (o := .lst (hd.map V.str ++ (ks.map V.str ++ []))) s12 hM2
        have e3 : upd H2 M (.lst (hd.map V.str ++ (ks.map V.str ++ []))) M = some (.lst ((wordsL k lt ks).map V.str)) := by
          rw [upd_same, ew, List.map_append, List.append_nil]
        exact ⟨_, M, wordsL k lt ks, rfl, rfl, .inl (SqL.of e3), hz, kq _ s3⟩
end
end Ask

namespace Ask
open PySem L2
open PyProof.Rows (sortedS risingS)
/-! ### texts, ascending -/
def Lt (x y : Str) : Prop := x.cps.toList < y.cps.toList
instance (x y : Str) : Decidable (Lt x y) := inferInstanceAs (Decidable (x.cps.toList < y.cps.toList))
theorem Lt.irr {x : Str} : ¬ Lt x x := List.lt_irrefl _
theorem Lt.tr {x y z : Str} (a : Lt x y) (b : Lt y z) : Lt x z := List.lt_trans a b
theorem Lt.as {x y : Str} (a : Lt x y) (b : Lt y x) : False := Lt.irr (a.tr b)
theorem str_same {x y : Str} (h : x.cps.toList = y.cps.toList) : x = y := by
  cases x
  cases y
  exact congrArg Str.mk (Array.toList_inj.mp h)
theorem lt_or {x y : Str} (n : x ≠ y) (h : ¬ Lt x y) : Lt y x := by
  refine Decidable.byContradiction fun g => n (str_same ?_)
  exact List.le_antisymm (List.not_lt.mp g) (List.not_lt.mp h)
theorem not_tr {x y z : Str} (a : ¬ Lt y x) (b : ¬ Lt z y) : ¬ Lt z x := fun h => by
  by_cases e : x = y
  · rw [e] at h; exact b h
  · exact b (h.tr (lt_or (fun q => e q.symm) a))
def Up (ks : List Str) : Prop := ks.Pairwise Lt
theorem rise_all : ∀ {r : List Str} {p : Str}, risingS p r = true → (∀ y ∈ r, ¬ Lt y p) ∧ sortedS r = true
  | [], p, _ => ⟨fun y h => (by cases h), rfl⟩
  | x :: r, p, h => by
    have h : (!PySem.Spec.ltCps x.cps.toList p.cps.toList && risingS x r) = true := h
    rw [Bool.and_eq_true] at h
    have n : ¬ Lt x p := fun q => by
      have := h.1
      rw [PyProof.Rows.ltCps_eq, decide_eq_true (show x.cps.toList < p.cps.toList from q)] at this
      cases this
    refine ⟨fun y hy => ?_, h.2⟩
    rcases List.mem_cons.mp hy with rfl | hy
    · exact n
    · exact not_tr n ((rise_all h.2).1 y hy)
theorem up_of : ∀ {ks : List Str}, sortedS ks = true → ks.Nodup → Up ks
  | [], _, _ => List.Pairwise.nil
  | k :: ks, h, nd => by
    obtain ⟨new, nd⟩ := List.nodup_cons.mp nd
    obtain ⟨a, b⟩ := rise_all (p := k) (r := ks) h
    exact List.Pairwise.cons (fun y hy => lt_or (fun e => new (e ▸ hy)) (a y hy)) (up_of b nd)
theorem Up.nd {ks : List Str} (h : Up ks) : ks.Nodup := List.Pairwise.imp (fun {x y} (l : Lt x y) (e : x = y) => Lt.irr (x := y) (by rw [e] at l; exact l)) h
theorem Up.so {ks : List Str} (h : Up ks) : sortedS ks = true := PyProof.Rows.sortedS_of_pairwise ks (List.Pairwise.imp (fun {x y} (l : Lt x y) => by
  rw [PyProof.Rows.ltCps_eq]
  exact decide_eq_false fun q => l.as q) h)
theorem up_eq : ∀ {ks js : List Str}, Up ks → Up js → (∀ z, z ∈ ks ↔ z ∈ js) → ks = js
  | [], [], _, _, _ => rfl
  | [], j :: js, _, _, h => by have := (h j).mpr List.mem_cons_self; cases this
  | k :: ks, [], _, _, h => by have := (h k).mp List.mem_cons_self; cases this
  | k :: ks, j :: js, u, v, h => by
    obtain ⟨u1, u2⟩ := List.pairwise_cons.mp u
    obtain ⟨v1, v2⟩ := List.pairwise_cons.mp v
    have e : k = j := by
      rcases List.mem_cons.mp ((h k).mp List.mem_cons_self) with e | m
      · exact e
      · rcases List.mem_cons.mp ((h j).mpr List.mem_cons_self) with e | n
        · exact e.symm
        · exact ((v1 k m).as (u1 j n)).elim
    subst e
    refine congrArg (k :: ·) (up_eq u2 v2 fun z => ⟨fun m => ?_, fun m => ?_⟩)
    · rcases List.mem_cons.mp ((h z).mp (List.mem_cons_of_mem _ m)) with e | q
      · exact (Lt.irr (e ▸ u1 z m)).elim
      · exact q
    · rcases List.mem_cons.mp ((h z).mpr (List.mem_cons_of_mem _ m)) with e | q
      · exact (Lt.irr (e ▸ v1 z m)).elim
      · exact q
theorem setOf_one {ys ks js : List Str} (a : SetOfS ys ks) (b : SetOfS ys js) : ks = js := up_eq (up_of a.2.1 a.1) (up_of b.2.1 b.1) fun z => (a.2.2 z).trans (b.2.2 z).symm
def less (ks : List Str) (z : Str) : List Str := ks.filter fun x => decide (Lt x z)
theorem put_up {z : Str} : ∀ {ks : List Str}, Up ks → z ∉ ks → Up (less ks z ++ [z] ++ ks.drop (less ks z).length) ∧ ∀ x, x ∈ less ks z ++ [z] ++ ks.drop (less ks z).length ↔ x ∈ ks ∨ x = z
  | [], _, _ => ⟨List.pairwise_singleton _ _, fun x => by simp [less]⟩
  | k :: ks, u, n => by
    obtain ⟨u1, u2⟩ := List.pairwise_cons.mp u
    have n2 : z ∉ ks := fun h => n (List.mem_cons_of_mem _ h)
    have nk : k ≠ z := fun e => n (e ▸ List.mem_cons_self)
    by_cases c : Lt k z
    · have e : less (k :: ks) z = k :: less ks z := by
        unfold less
        rw [List.filter_cons, if_pos (decide_eq_true c)]
      obtain ⟨w1, w2⟩ := put_up u2 n2
      rw [e]
      refine ⟨List.Pairwise.cons (fun y hy => ?_) w1, fun x => ?_⟩
      · rcases (w2 y).mp hy with h | rfl
        · exact u1 y h
        · exact c
      · show x ∈ k :: (less ks z ++ [z] ++ ks.drop (less ks z).length) ↔ _
        rw [List.mem_cons, w2 x, List.mem_cons, or_assoc]
    · have g := lt_or nk c
      have e : less (k :: ks) z = [] := by
        unfold less
        rw [List.filter_eq_nil_iff]
        intro y hy q
        have q := of_decide_eq_true q
        rcases List.mem_cons.mp hy with rfl | hy
        · exact q.as g
        · exact q.as (g.tr (u1 y hy))
      rw [e]
      refine ⟨List.Pairwise.cons (fun y hy => ?_) u, fun x => ?_⟩
      · have hy : y ∈ k :: ks := hy
        rcases List.mem_cons.mp hy with rfl | hy
        · exact g
        · exact g.tr (u1 y hy)
      · show x ∈ z :: (k :: ks) ↔ _
        rw [List.mem_cons]
        exact Or.comm

theorem cutV_from (xs : List V) (k : Nat) (h : k ≤ xs.length) : cutV xs (some (k : Int)) none = xs.drop k := by
  unfold cutV
  rw [HT.sIx_none, HT.sIx_nat, Nat.min_eq_left h]
  exact List.take_of_length_le (by rw [List.length_drop]; omega)
theorem less_more {ks : List Str} {j : Nat} {k y : Str} (h : ks[j]? = some k) : less (ks.take (j + 1)) y = less (ks.take j) y ++ (if decide (Lt k y) = true then [k] else []) := by
  unfold less
  rw [List.take_add_one, h, List.filter_append, Option.toList_some, List.filter_cons, List.filter_nil]
theorem less_len (ks : List Str) (y : Str) : (less ks y).length ≤ ks.length := List.length_filter_le _ _
theorem take_mem {ys : List Str} {i : Nat} {y x : Str} (h : ys[i]? = some y) : x ∈ ys.take (i + 1) ↔ x ∈ ys.take i ∨ x = y := by
  rw [List.take_add_one, h, List.mem_append, Option.toList_some, List.mem_singleton]
theorem setOf_put {ys ks : List Str} {i : Nat} {y : Str} (h : SetOfS (ys.take i) ks) (e : ys[i]? = some y) (n : y ∉ ks) : SetOfS (ys.take (i + 1)) (less ks y ++ [y] ++ ks.drop (less ks y).length) := by
  obtain ⟨u, m⟩ := put_up (up_of h.2.1 h.1) n
  exact ⟨u.nd, u.so, fun x => (m x).trans (by rw [take_mem e, h.2.2 x])⟩
theorem setOf_keep {ys ks : List Str} {i : Nat} {y : Str} (h : SetOfS (ys.take i) ks) (e : ys[i]? = some y) (n : y ∈ ks) : SetOfS (ys.take (i + 1)) ks := by
  refine ⟨h.1, h.2.1, fun x => ?_⟩
  rw [take_mem e, h.2.2 x]
  exact ⟨.inl, fun q => q.elim id fun q => by rw [q]; exact (h.2.2 y).mp n⟩
theorem setOf_nil : SetOfS [] [] := ⟨List.nodup_nil, rfl, fun z => Iff.rfl⟩
theorem strs_inj : ∀ {ys zs : List Str}, ys.map V.str = zs.map V.str → ys = zs
  | [], [], _ => rfl
  | [], _ :: _, h => by cases h
  | _ :: _, [], h => by cases h
  | y :: ys, z :: zs, h => by
    injection h with h1 h2
    injection h1 with h1
    rw [h1, strs_inj h2]
theorem wrong_no {ys : List Str} {i : Int} (h : wrongAt (ys.map V.str) i) (n : ys ≠ []) (ok : ∀ y ∈ ys, ansS y = true) : False := by
  rcases h with ⟨e, _⟩ | ⟨j, v, _, e, b, _⟩
  · exact n (List.map_eq_nil_iff.mp e)
  · rw [List.getElem?_map] at e
    cases hz : ys[j]? with
    | none => rw [hz] at e; cases e
    | some z =>
      rw [hz] at e
      cases e
      have := ok z (List.mem_of_getElem? hz)
      have b : ansS z = false := b
      rw [this] at b
      cases b
theorem ans_fit {z : Str} (h : ansS z = true) : z.length ≤ 12 ∧ Asc z := by
  have l := (short_len h).2
  rw [tl_len] at l
  exact ⟨l, fun c hc => signs_asc' c (short_signs h c hc)⟩
theorem ans_fits {ys : List Str} (h : ∀ y ∈ ys, ansS y = true) : FitL ys := fun y hy => ⟨by have := (ans_fit (h y hy)).1; omega, (ans_fit (h y hy)).2⟩
theorem due_non {ws : List Str} {k : Str} {lt : V} (h : dueB ws (.str k) lt = true) : NonS lt ∧ ∀ z, lt = .str z → z ∈ ws := by
  unfold dueB at h
  split at h
  · obtain ⟨z, rfl, hz⟩ := inB_some h
    exact ⟨.inr ⟨z, rfl⟩, fun y e => by cases e; exact hz⟩
  · cases lt <;> first | exact ⟨.inl rfl, fun z e => by cases e⟩ | cases h
theorem NonS.val {p : Addr} {H : Hp} {v : V} (h : NonS v) : Val p H v := by
  rcases h with rfl | ⟨z, rfl⟩ <;> exact .inl rfl
theorem lm_asc : ∀ k ∈ LM, Asc k ∧ k.length ≤ 13 := by
  intro k hk
  simp only [LM, List.mem_cons, List.not_mem_nil, or_false] at hk
  rcases hk with rfl | rfl | rfl <;> exact ⟨.lit (by decide +kernel), by decide⟩
theorem setOf_more {ys zs ks : List Str} (h : SetOfS ys ks) (m : ∀ z, z ∈ zs ↔ z ∈ ys) : SetOfS zs ks := ⟨h.1, h.2.1, fun z => (h.2.2 z).trans (m z).symm⟩
/-- Limit(m, k, a, lt) is made -/
theorem lim_made {CL CI CK CA CM CT : Addr} {K : PySem.W.Frag} {H : Hp} {m t a : Addr} {ws ys ks : List Str} {k : Str} {lt : V} {Q : VK} {E : XK} (hM : Mde CL H m t ws) (hk : k ∈ LM) (due : dueB ws (.str k) lt = true) (hS : SqL K H a (ys.map V.str)) (hn : ys.length ≤ 60) (ny : ys ≠ []) (ok : ∀ y ∈ ys, ansS y = true) (so : SetOfS ys ks) (le : ks.length ≤ 6)
    {p dx : Addr} (hp : H p = none) (hdx : H dx = none) (hne : dx ≠ p) (kq : ∀ H', Same H H' → LimAt K CL CI H' p ws k lt ks → Q .non H') :
    spLim K CL CI CK CA CM CT [.ref p, .ref m, .str k, .ref a, lt] (upd (upd H dx (.own p)) p (.ins CI dx [])) Q E := by
  have sm : Same H (upd (upd H dx (.own p)) p (.ins CI dx [])) := Ask.Same.made1 (Ask.Same.made1 (Same.refl H) hdx) (by rw [upd_ne hne.symm]; exact hp)
  have bk : inB LM (.str k) = true := decide_eq_true hk
  refine ⟨p, dx, m, t, m, a, .str k, lt, ys.map V.str, ws, rfl, upd_same, hM.same sm, .inl rfl, (due_non due).1.val, sm.seq hS, by rw [List.length_map]; exact hn, fun v hv => ?_, fun q => ?_, fun _ => ⟨fun H' d i wr s' e => (wrong_no wr ny ok).elim, fun ys2 ks2 ex ny2 ok2 so2 => ?_⟩⟩
  · obtain ⟨z, hz, rfl⟩ := List.mem_map.mp hv
    exact ⟨.inl rfl, fun y e => by cases e; exact ans_fits ok z hz⟩
  · rw [bk] at q
    cases q
  · have e := strs_inj ex
    subst e
    have e := setOf_one so so2
    subst e
    refine ⟨fun H' d l6 => by omega, fun _ => ⟨fun q => (by rw [due] at q; cases q), fun _ k2 H' t2 ek hk2 e1 e2 kk => ?_⟩⟩
    cases ek
    have s' : Same H H' := Same.made hp hdx fun b o e hb => kk b o hb e
    exact kq H' s' ⟨dx, m, t, t2, e1, hM.same s', e2⟩
theorem setOf_ex (ys : List Str) : ∃ ks, SetOfS ys ks := by
  have h : ∀ i, i ≤ ys.length → ∃ ks, SetOfS (ys.take i) ks := fun i => by
    induction i with
    | zero => intro _; exact ⟨[], by rw [List.take_zero]; exact setOf_nil⟩
    | succ i ih =>
      intro hi
      obtain ⟨ks, hk⟩ := ih (by omega)
      have e : ys[i]? = some ys[i] := List.getElem?_eq_getElem (by omega)
      by_cases m : ys[i] ∈ ks
      · exact ⟨ks, setOf_keep hk e m⟩
      · exact ⟨_, setOf_put hk e m⟩
  obtain ⟨ks, hk⟩ := h ys.length (Nat.le_refl _)
  rw [List.take_length] at hk
  exact ⟨ks, hk⟩
end Ask

namespace Ask
open PySem L2
/-- the words of a sentence -/
def wordsS (k x : Str) : V → List Str
  | .str y => [k, x, y]
  | _ => [k, x]
theorem noN_words {k x : Str} {s : V} (h : s = .non ∨ ∃ y, s = .str y) : noN [.str k, .str x, s] = (wordsS k x s).map V.str := by
  have e : ∀ z : Str, (!decide (V.str z = V.non)) = true := fun z => by rw [decide_eq_false (fun q => by cases q)]; rfl
  unfold noN
  rw [List.filter_cons, if_pos (e k), List.filter_cons, if_pos (e x)]
  rcases h with rfl | ⟨y, rfl⟩
  · rw [List.filter_cons, if_neg (by rw [decide_eq_true rfl]; exact Bool.false_ne_true)]
    rfl
  · rw [List.filter_cons, if_pos (e y)]
    rfl
theorem words_size {k x : Str} {s : V} (h : ∀ z ∈ wordsS k x s, z.length ≤ 500) (d : Nat) (hd : d ≤ 10) : ((wordsS k x s).map (·.length)).sum + (wordsS k x s).length * d ≤ 16777216 := by
  cases s <;> first
    | (have a := h k (List.mem_cons_self ..); have b := h x (List.mem_cons_of_mem _ (List.mem_cons_self ..)); show (k.length + (x.length + 0)) + 2 * d ≤ 16777216; omega)
    | (rename_i y; have a := h k (List.mem_cons_self ..); have b := h x (List.mem_cons_of_mem _ (List.mem_cons_self ..)); have c := h y (List.mem_cons_of_mem _ (List.mem_cons_of_mem _ (List.mem_cons_self ..))); show (k.length + (x.length + (y.length + 0))) + 3 * d ≤ 16777216; omega)
section
variable {P : Program} {w : World} {K : PySem.W.Frag} {mg : Str → Option Value} {base : Heap}
/-! ### Sentence.__str__ -/
def spStr (CS : Addr) : Sp := fun vs H Q _ => ∃ (p dx : Addr) (fs : List (Str × V)) (k x : Str) (s : V), vs = [.ref p] ∧ H p = some (.ins CS dx fs) ∧ fs.lookup ("kind" : Str) = some (.str k) ∧ fs.lookup ("first" : Str) = some (.str x) ∧ fs.lookup ("second" : Str) = some s ∧ (s = .non ∨ ∃ y, s = .str y) ∧
  (∀ z ∈ wordsS k x s, z.length ≤ 500) ∧ ∀ H', Same H H' → Q (.str (Txt.join " " (wordsS k x s))) H'
abbrev s_Str : Stmt := inClass (top 55) 4
theorem sc_Str : FnScope ["self", "word"] ["self"] (defScope s_Str) := ⟨rfl, rfl, rfl, by decide +kernel, rfl, by decide +kernel, by decide +kernel⟩
theorem ok_str {f CS : Addr} {fd : FuncData} (F : Fun K "__str__" "Sentence.__str__" s_Str f fd) (hC : SnC K CS) : FnOk P w K mg base CX0 1 f fd ["self"] (spStr CS) := by
  refine F.ok sc_Str (fun vs H Q E h => ?_) (fun cdv A outer s H vs Q E hr h => ?_)
  · obtain ⟨p, dx, fs, k, x, s, rfl, _⟩ := h
    rfl
  · obtain ⟨p, dx, fs, k, x, s', rfl, hp, l1, l2, l3, hs, hz, kq⟩ := h
    refine ⟨_, (pss_one (ps_ret (pe_join pe_str (pe_lc (own := [("word", 1)]) rfl sc_Str.nd (pi_tup (pe_tup (pa_cons (pe_fld (pv 0) rfl) (pa_cons (pe_fld (pv 0) rfl) (pa_cons (pe_fld (pv 0) rfl) pa_nil))))) (blkOk_by (N := ["self", "word"]) (sc := defScope s_Str) (by decide +kernel)) (fun _ _ _ _ _ => (pg_name (i := 1) sc_Str.nd rfl (Or.inl rfl))) (fun _ _ _ _ _ => pts_one (pt_cmpR (show OpR _ _ (fun x y H Q => y = .non ∧ Q (.bl (!decide (x = .non))) H) from op_notN) (pv 1) pe_non (nomark _))) (fun _ _ _ _ _ => (pv 1)))))), ?_⟩
    refine ⟨⟨_, rfl⟩, _, rfl, p, CS, dx, fs, _, rfl, hp, hC.c, hC.a2, l1, _, rfl, p, CS, dx, fs, _, rfl, hp, hC.c, hC.a3, l2, _, rfl, p, CS, dx, fs, _, rfl, hp, hC.c, hC.a4, l3, by show 3 ≤ sizeLine; decide, fun t ht => ⟨t, rfl, ⟨_, SqT.of upd_same⟩, fun L hL => ?_⟩⟩
    have s1 := Ask.Same.made1 (o := .tup [.str k, .str x, s']) (Same.refl H) ht
    have f1 : upd H t (.tup [.str k, .str x, s']) t = some (.tup [.str k, .str x, s']) := upd_same
    generalize upd H t (.tup [.str k, .str x, s']) = H1 at s1 f1 hL ⊢
    refine lc_it (walk_tup (xs := [.str k, .str x, s'])) (fun i H' => Same H1 H' ∧ H' L = some (.lst (noN (([.str k, .str x, s'] : List V).take i)))) ⟨Ask.Same.upd_new (Same.refl _) hL, upd_same⟩ (fun i H' _ hh => seqT_same hh.1 (SqT.of f1)) ?_ ?_
    · rintro i v H2 H3 hi ⟨s2, hL2⟩ ⟨rfl, hv⟩
      refine ⟨rfl, _, rfl, rfl, _, rfl, ?_⟩
      have e := noN_more hv
      have n := noN_len [.str k, .str x, s'] i
      have z1 : (1000 : Nat) ≤ sizeLine := by decide
      have n3 : ([.str k, .str x, s'] : List V).length = 3 := rfl
      refine ite2 (fun q => ?_) (fun q => ?_)
      · rw [if_pos q] at e
        exact ⟨_, rfl, _, hL2, by omega, Ask.Same.upd_new s2 hL, by rw [upd_same, e]⟩
      · rw [if_neg q, List.append_nil] at e
        exact ⟨s2, by rw [e]; exact hL2⟩
    · rintro H2 ⟨s2, hL2⟩
      have e : noN (([.str k, .str x, s'] : List V).take 3) = (wordsS k x s').map V.str := noN_words hs
      refine ⟨_, L, wordsS k x s', rfl, rfl, .inl (SqL.of (by rw [← e]; exact hL2)), words_size hz 1 (by decide), kq H2 (s1.trans s2)⟩
end
end Ask

namespace Ask
open PySem L2
/-! ### lines -/
def NoSp (z : Str) : Prop := 32 ∉ z.cps.toList
theorem sp_list : (" " : Str).cps.toList = [32] := by decide +kernel
theorem join_list : ∀ (r : List Str) (p : Str), (Str.join " " (p :: r)).cps.toList = p.cps.toList ++ r.flatMap fun q => 32 :: q.cps.toList
  | [], p => by
    show p.cps.toList = _
    simp
  | q :: r, p => by
    show (p ++ " " ++ Str.join " " (q :: r)).cps.toList = _
    rw [app_list, app_list, sp_list, join_list r q, List.flatMap_cons]
    simp
theorem cut_sp : ∀ {a b x y : List Nat}, 32 ∉ a → 32 ∉ b → (x = [] ∨ ∃ t, x = 32 :: t) → (y = [] ∨ ∃ t, y = 32 :: t) → a ++ x = b ++ y → a = b ∧ x = y
  | [], [], x, y, _, _, _, _, h => ⟨rfl, h⟩
  | [], d :: b, x, y, _, hb, hx, _, h => by
    exfalso
    rcases hx with rfl | ⟨t, rfl⟩
    · cases h
    · rw [List.nil_append, List.cons_append] at h
      exact hb ((List.cons.inj h).1 ▸ List.mem_cons_self)
  | c :: a, [], x, y, ha, _, _, hy, h => by
    exfalso
    rcases hy with rfl | ⟨t, rfl⟩
    · cases h
    · rw [List.nil_append, List.cons_append] at h
      exact ha ((List.cons.inj h).1 ▸ List.mem_cons_self)
  | c :: a, d :: b, x, y, ha, hb, hx, hy, h => by
    rw [List.cons_append, List.cons_append] at h
    obtain ⟨e1, h2⟩ := List.cons.inj h
    obtain ⟨e2, e⟩ := cut_sp (fun m => ha (List.mem_cons_of_mem _ m)) (fun m => hb (List.mem_cons_of_mem _ m)) hx hy h2
    exact ⟨by rw [e1, e2], e⟩
theorem fl_sp (r : List Str) : (r.flatMap fun q => 32 :: q.cps.toList) = [] ∨ ∃ t, (r.flatMap fun q => 32 :: q.cps.toList) = 32 :: t := by
  cases r with
  | nil => exact .inl rfl
  | cons q r => exact .inr ⟨_, List.flatMap_cons.trans rfl⟩
theorem fl_inj : ∀ {r s : List Str}, (∀ z ∈ r, NoSp z) → (∀ z ∈ s, NoSp z) → (r.flatMap fun q => 32 :: q.cps.toList) = (s.flatMap fun q => 32 :: q.cps.toList) → r = s
  | [], [], _, _, _ => rfl
  | [], q :: s, _, _, h => by rw [List.flatMap_cons] at h; cases h
  | q :: r, [], _, _, h => by rw [List.flatMap_cons] at h; cases h
  | p :: r, q :: s, hr, hs, h => by
    rw [List.flatMap_cons, List.flatMap_cons, List.cons_append, List.cons_append] at h
    obtain ⟨e, h⟩ := cut_sp (hr p List.mem_cons_self) (hs q List.mem_cons_self) (fl_sp r) (fl_sp s) (List.cons.inj h).2
    rw [str_same e, fl_inj (fun z m => hr z (List.mem_cons_of_mem _ m)) (fun z m => hs z (List.mem_cons_of_mem _ m)) h]
theorem join_inj {ps qs : List Str} (np : ps ≠ []) (nq : qs ≠ []) (hp : ∀ z ∈ ps, NoSp z) (hq : ∀ z ∈ qs, NoSp z) (h : Str.join " " ps = Str.join " " qs) : ps = qs := by
  cases ps with
  | nil => exact absurd rfl np
  | cons p r =>
    cases qs with
    | nil => exact absurd rfl nq
    | cons q s =>
      have h' := congrArg (fun z : Str => z.cps.toList) h
      simp only [join_list] at h'
      obtain ⟨e, h'⟩ := cut_sp (hp p List.mem_cons_self) (hq q List.mem_cons_self) (fl_sp r) (fl_sp s) h'
      rw [str_same e, fl_inj (fun z m => hp z (List.mem_cons_of_mem _ m)) (fun z m => hq z (List.mem_cons_of_mem _ m)) h']
theorem sp_is : (" " : Str) = ⟨#[32]⟩ := by decide +kernel
theorem split_join {ps : List Str} (np : ps ≠ []) (hp : ∀ z ∈ ps, NoSp z) : Txt.split (Txt.join " " ps) " " = ps := by
  rw [show Txt.join " " ps = Str.join " " ps from StrLaws.glued_eq_join _ _]
  have h := StrLaws.join_split (Str.join " " ps) " "
  have f := StrLaws.split_free (Str.join " " ps) 32
  rw [← sp_is] at f
  refine join_inj (fun z => ?_) np f hp h
  have := PyProof.Rows.split_pos (Str.join " " ps) " "
  rw [z] at this
  exact absurd this (by decide)
theorem join_none : Txt.join " " [] = Txt.join " " [Str.empty] := rfl
theorem join_len {ps : List Str} {m : Nat} (h : ∀ z ∈ ps, z.length ≤ m) : (ps.map (·.length)).sum + ps.length * 1 ≤ ps.length * (m + 1) := by
  induction ps with
  | nil => simp
  | cons p r ih =>
    have a := h p List.mem_cons_self
    have b := ih fun z hz => h z (List.mem_cons_of_mem _ hz)
    simp only [List.map_cons, List.sum_cons, List.length_cons, Nat.succ_mul] at b ⊢
    omega
theorem join_le {ps : List Str} {m : Nat} (h : ∀ z ∈ ps, z.length ≤ m) : (Txt.join " " ps).length ≤ ps.length * (m + 1) := by
  rw [show Txt.join " " ps = Str.join " " ps from StrLaws.glued_eq_join _ _]
  have l1 : (" " : Str).length = 1 := by decide +kernel
  have := StrLaws.join_length_le " " ps
  rw [l1] at this
  exact Nat.le_trans this (join_len h)
/-- a line's words: no space in them, m signs at most, n words at most -/
structure Ln (ps : List Str) (m n : Nat) : Prop where
  ne : ps ≠ []
  ok : ∀ z ∈ ps, NoSp z ∧ z.length ≤ m ∧ Asc z
  len : ps.length ≤ n
/-! ### what is wrong in a line -/
def ansW : List Str → List Str → Nat → Option Nat
  | _, [], _ => none
  | seen, w :: r, i => if ansS w = true ∧ (w ∈ seen ∨ seen.length < 6) then ansW (if w ∈ seen then seen else seen ++ [w]) r (i + 1) else some i
def ansAll (l : List Str) (i : Nat) : Option Nat := if l = [] then some i else ansW [] l i
def secW (ws : List Str) (k x : Str) : List Str → Option Nat
  | [] => some 2
  | y :: t => if y ∈ ws ∧ ¬ (k = "alike" ∧ y = x) then (if t = [] then none else some 3) else some 2
def firW (ws : List Str) (k : Str) : List Str → Option Nat
  | [] => some 1
  | x :: q => if x ∈ ws then (if k ∈ LK then (if q = [] then none else some 2) else secW ws k x q) else some 1
def behW (ws : List Str) : List Str → Option Nat
  | [] => some 1
  | x :: q => if x ∈ ws then ansAll q 2 else some 1
def itemW (ws : List Str) : List Str → Option Nat
  | [] => some 0
  | k :: r => if k ∈ LM then (if k = "behind" then behW ws r else ansAll r 1) else if k ∈ KL then firW ws k r else some 0
theorem kl_lm : ∀ k ∈ KL, k ∉ LM := by
  unfold KL LM
  decide +kernel
theorem ansW_none : ∀ {l seen : List Str} {i : Nat}, ansW seen l i = none → ∀ z ∈ l, ansS z = true
  | [], _, _, _, z, hz => absurd hz List.not_mem_nil
  | w :: r, seen, i, h, z, hz => by
    rw [ansW] at h
    split at h
    · rename_i q
      rcases List.mem_cons.mp hz with rfl | hz
      · exact q.1
      · exact ansW_none h z hz
    · cases h
/-- the distinct ones so far -/
def dst (ys : List Str) : List Str := ys.foldl (fun seen w => if w ∈ seen then seen else seen ++ [w]) []
theorem dst_snoc (ys : List Str) (w : Str) : dst (ys ++ [w]) = if w ∈ dst ys then dst ys else dst ys ++ [w] := by
  unfold dst
  rw [List.foldl_append]
  rfl
theorem foldl_snoc {α β : Type} (f : β → α → β) (b : β) (l : List α) (a : α) : (l ++ [a]).foldl f b = f (l.foldl f b) a := by rw [List.foldl_append]; rfl
theorem dst_ok (ys : List Str) : (dst ys).Nodup ∧ ∀ z, z ∈ dst ys ↔ z ∈ ys := by
  have key : ∀ (l r : List Str), l.reverse = r → (dst r).Nodup ∧ ∀ z, z ∈ dst r ↔ z ∈ r := by
    intro l
    induction l with
    | nil => rintro r rfl; exact ⟨List.nodup_nil, fun z => Iff.rfl⟩
    | cons w l ih =>
      rintro r rfl
      obtain ⟨a, b⟩ := ih _ rfl
      rw [List.reverse_cons, dst_snoc]
      split
      · rename_i q
        refine ⟨a, fun z => (b z).trans ?_⟩
        rw [List.mem_append, List.mem_singleton]
        exact ⟨.inl, fun e => e.elim id fun e => e ▸ (b w).mp q⟩
      · rename_i q
        refine ⟨nodup_app a q, fun z => ?_⟩
        rw [List.mem_append, List.mem_append, b z]
  exact key ys.reverse ys (List.reverse_reverse _)
theorem dst_len {ys ks : List Str} (h : SetOfS ys ks) : ks.length = (dst ys).length := by
  obtain ⟨a, b⟩ := dst_ok ys
  exact Nat.le_antisymm (sub_le ks _ h.1 fun z hz => (b z).mpr ((h.2.2 z).mp hz)) (sub_le _ ks a fun z hz => (h.2.2 z).mpr ((b z).mp hz))
where
  sub_le : ∀ (l m : List Str), l.Nodup → (∀ x ∈ l, x ∈ m) → l.length ≤ m.length
    | [], m, _, _ => Nat.zero_le _
    | x :: l, m, nd, h => by
      obtain ⟨n1, n2⟩ := List.nodup_cons.mp nd
      have hx := h x List.mem_cons_self
      have := sub_le l (m.erase x) n2 fun y hy => (List.mem_erase_of_ne fun e => n1 (by rw [← e]; exact hy)).mpr (h y (List.mem_cons_of_mem _ hy))
      rw [List.length_erase_of_mem hx] at this
      have := List.length_pos_of_mem hx
      rw [List.length_cons]
      omega
/-- whether the word may come behind the answers ys -/
def okNext (ys : List Str) (w : Str) : Bool := ansS w && (decide (w ∈ ys) || decide ((dst ys).length < 6))
/-- the first wrong one of the line's words from i on, ys taken before -/
theorem ansW_next {ys r : List Str} {w : Str} {i : Nat} : ansW (dst ys) (w :: r) i = if okNext ys w = true then ansW (dst (ys ++ [w])) r (i + 1) else some i := by
  rw [ansW, dst_snoc]
  have m := (dst_ok ys).2 w
  unfold okNext
  by_cases a : ansS w = true
  · by_cases b : w ∈ ys
    · rw [if_pos ⟨a, .inl (m.mpr b)⟩, a, decide_eq_true b]
      rfl
    · by_cases c : (dst ys).length < 6
      · rw [if_pos ⟨a, .inr c⟩, a, decide_eq_true c, decide_eq_false b]
        rfl
      · rw [if_neg (fun z => z.2.elim (fun q => b (m.mp q)) c), a, decide_eq_false c, decide_eq_false b]
        rfl
  · rw [if_neg (fun z => a z.1)]
    have : ansS w = false := by simpa using a
    rw [this]
    rfl
theorem ansW_few : ∀ {l ys : List Str} {i : Nat}, ansW (dst ys) l i = none → (dst ys).length ≤ 6 → (dst (ys ++ l)).length ≤ 6
  | [], ys, i, _, h => by rw [List.append_nil]; exact h
  | w :: r, ys, i, e, h => by
    rw [ansW_next] at e
    split at e
    · rename_i q
      have := ansW_few (ys := ys ++ [w]) e (by
        rw [dst_snoc]
        unfold okNext at q
        split
        · exact h
        · rename_i n
          rw [List.length_append]
          show (dst ys).length + 1 ≤ 6
          have nm : w ∉ ys := fun z => n (((dst_ok ys).2 w).mpr z)
          rw [decide_eq_false nm, Bool.false_or, Bool.and_eq_true] at q
          have := of_decide_eq_true q.2
          omega)
      rw [List.append_assoc] at this
      exact this
    · cases e
end Ask

namespace Ask
open PySem L2
section
variable {P : Program} {w : World} {K : PySem.W.Frag} {mg : Str → Option Value} {base : Heap}
def okText : List V → Prop := fun ws => ∃ n m : Int, ws = [.int n, .int m]
def fsText : List V → List (Str × V) := fun ws => match ws with
  | [n, m] => [("place", m), ("line", n)]
  | _ => []
abbrev s_BadText___init__ : Stmt := inClass (top 22) 0
theorem sc_BadText___init__ : FnScope ["self", "line", "place"] ["self", "line", "place"] (defScope s_BadText___init__) := ⟨rfl, rfl, rfl, by decide +kernel, rfl, by decide +kernel, by decide +kernel⟩
theorem ok_initBadText {f fC C : Addr} {fd fdC : FuncData} (F : Fun K "__init__" "BadText.__init__" s_BadText___init__ f fd) (T : OexC K C) (h1 : PySem.W.findIn K (.ref C) "line" = some none) (h2 : PySem.W.findIn K (.ref C) "place" = some none)
    (GC : FnOk P w K mg base CX0 1 fC fdC ["value"] spCopy) (CP : At K mg "copied" fC fdC ["value"]) : FnOk P w K mg base CX0 2 f fd ["self", "line", "place"] (spErr C okText fsText) := by
  refine F.ok sc_BadText___init__ (fun vs H Q E h => ?_) (fun cdv A outer s H vs Q E hr h => ?_)
  · obtain ⟨a, ws, rfl, ⟨i, mo, rfl⟩, _⟩ := h
    rfl
  · obtain ⟨a, ws, rfl, ⟨i, mo, rfl⟩, ha, k⟩ := h
    refine ⟨_, pss_cons (ps_ost (pv 0) (pe_call GC hr (by rfl) CP.m CP.k CP.b .nil pass0 (pa_cons (pv 1) pa_nil))) (pss_one (ps_ost (pv 0) (pe_call GC hr (by rfl) CP.m CP.k CP.b .nil pass0 (pa_cons (pv 2) pa_nil)))), ?_⟩
    refine ⟨_, rfl, _, rfl, .inl ⟨_, rfl⟩, _, rfl, a, C, rfl, T, h1, .inl ⟨ha, fun dx hdx hne => ?_⟩⟩
    have e1 : upd (upd H dx (exd dx [("line", .int i)])) a (exo a C (some dx)) a = some (exo a C (some dx)) := upd_same
    have e2 : upd (upd H dx (exd dx [("line", .int i)])) a (exo a C (some dx)) dx = some (exd dx [("line", .int i)]) := by rw [upd_ne hne]; exact upd_same
    have k1 : ∀ b o, b ≠ a → H b = some o → upd (upd H dx (exd dx [("line", .int i)])) a (exo a C (some dx)) b = some o := fun b o hb e => by
      rw [upd_ne hb, upd_ne (ne_of_none e hdx)]
      exact e
    generalize upd (upd H dx (exd dx [("line", .int i)])) a (exo a C (some dx)) = H1 at e1 e2 k1 ⊢
    refine ⟨_, rfl, _, rfl, .inl ⟨_, rfl⟩, _, rfl, a, C, rfl, T, h2, .inr ⟨dx, _, e1, e2, by show 1 ≤ 900; decide, ?_⟩⟩
    refine k _ dx hdx hne (by rw [upd_ne hne.symm]; exact e1) upd_same fun b o hb e => ?_
    have nb := ne_of_none e hdx
    rw [upd_ne nb]
    exact k1 b o hb e
end
end Ask

/-! lambdas as values: made, handed on, called by whoever has them -/
namespace Ask
open PySem L2 PySem.Spec PyProof.Rows LamX NdefX
/-- a lambda's words, the cells it captured, its defaults (none, or a tuple's address and its items), its code object -/
structure LF where
  qual : Str
  params : Arguments
  body : Expr
  scope : Scope
  cl : List (Str × Addr)
  dV : Option (Addr × List V)
  c : Addr
def LF.dv (F : LF) : Value := match F.dV with
  | none => .none
  | some p => .ref p.1
abbrev LF.fd (F : LF) (doc pm ctv : Value) : FuncData := PySem.W.kdv_fn "<lambda>" F.qual F.params (.expr F.body) F.scope F.cl F.dv doc pm (.ref F.c) ctv
abbrev LF.nf (F : LF) : NF := ⟨"<lambda>", F.qual, F.params, [], F.scope, F.cl, F.c⟩
def LamO (f : Addr) (F : LF) : HO := .ext fun h => ∃ (od : Option Addr) (sl : Array (Option Value)) (doc pm ctv : Value), h.get? f = some (⟨.type "function", od, .func (F.fd doc pm ctv), sl⟩ : Obj)
theorem lamO_at {P : Program} {w : World} {H : Hp} {h : Heap} {f : Addr} {F : LF} (hok : HOk P w H h) (e : H f = some (LamO f F)) : ∃ (od : Option Addr) (sl : Array (Option Value)) (doc pm ctv : Value), h.get? f = some (⟨.type "function", od, .func (F.fd doc pm ctv), sl⟩ : Obj) := by
  obtain ⟨z, _, _⟩ := hok f _ e
  exact z
/-- the lambda F stands at f, with its code object and its defaults -/
structure LamIn (H : Hp) (f : Addr) (F : LF) : Prop where
  fn : H f = some (LamO f F)
  co : H F.c = some (CodeO F.c F.qual)
  df : ∀ p, F.dV = some p → H p.1 = some (.tup p.2)
theorem LamIn.keep {H H' : Hp} {f : Addr} {F : LF} (l : LamIn H f F) (k : ∀ b o, H b = some o → (∀ ps, o ≠ .tbl ps) → H' b = some o) : LamIn H' f F :=
  ⟨k _ _ l.fn (fun ps z => by unfold LamO at z; cases z), k _ _ l.co (fun ps z => by unfold CodeO at z; cases z), fun p e => k _ _ (l.df p e) fun ps z => by cases z⟩
theorem LamIn.same {H H' : Hp} {f : Addr} {F : LF} (l : LamIn H f F) (s : Same H H') : LamIn H' f F := l.keep fun b o e _ => s b o e
section
variable {X : Cx} {pins : List (Addr × Obj)} {σ : L2.St} {H : Hp} {s : Shared}
theorem inv_lam {F : LF} {o : Obj} {t' : Nat} {doc pm ctv : Value} (I : Inv X pins σ H s) (ho : o = { cls := .type "function", data := .func (F.fd doc pm ctv) }) :
    Inv X pins σ (upd H s.heap.objs.size (LamO s.heap.objs.size F)) { s with heap := s.heap.push o, toks := t' } := by
  subst ho
  refine I.laid (a := s.heap.objs.size) (fun b u e => Heap.get?_push_of_some _ e) (Nat.le_refl _) ?_
  have e : (s.heap.push ({ cls := .type "function", data := .func (F.fd doc pm ctv) } : Obj)).get? s.heap.objs.size = some ({ cls := .type "function", data := .func (F.fd doc pm ctv) } : Obj) := Heap.get?_push_size _ rfl
  exact ⟨⟨_, _, doc, pm, ctv, e⟩, ⟨_, e⟩, fun h1 h2 ⟨od, sl, d, p, t, z⟩ st => ⟨od, sl, d, p, t, st _ z⟩⟩
/-- one more code object in a table: the tables stand, nothing else is touched -/
theorem tabs_more {T : List NTab} {nm : Nat → Nat → Str} {P c' : Addr} {ps : Array Value} {pos : Pos} {q : Str} (hT : TabsN T H) (hm : (P, nm) ∈ T) (hu : ∀ p ∈ T, p.1 = P → p.2 = nm) (hP : H P = some (.tbl ps)) (hc : H c' = none) (hq : nm pos.line pos.col = q) :
    ExtN H (upd (upd H P (.tbl (ps ++ #[rawInt pos.line, rawInt pos.col, .ref c']))) c' (CodeO c' q)) ∧ TabsN T (upd (upd H P (.tbl (ps ++ #[rawInt pos.line, rawInt pos.col, .ref c']))) c' (CodeO c' q)) ∧
      ∀ b, upd (upd H P (.tbl (ps ++ #[rawInt pos.line, rawInt pos.col, .ref c']))) c' (CodeO c' q) b = none → H b = none := by
  have other : ∀ b, b ≠ P → b ≠ c' → upd (upd H P (.tbl (ps ++ #[rawInt pos.line, rawInt pos.col, .ref c']))) c' (CodeO c' q) b = H b := fun b n1 n2 => by rw [upd_ne n2, upd_ne n1]
  have ext : ExtN H (upd (upd H P (.tbl (ps ++ #[rawInt pos.line, rawInt pos.col, .ref c']))) c' (CodeO c' q)) := by
    intro b o e notT
    rw [other b ?_ (ne_of_none e hc)]
    · exact e
    · rintro rfl
      rw [hP] at e
      exact notT ps (Option.some.inj e).symm
  refine ⟨ext, ?_, fun b z => upd_none (upd_none z)⟩
  rintro ⟨P1, nm1⟩ hp
  obtain ⟨us, u1, u2, u3⟩ := hT _ hp
  by_cases same : P1 = P
  · subst same
    obtain rfl : nm1 = nm := hu _ hp rfl
    rw [hP] at u1
    cases u1
    have app : (ps ++ #[rawInt pos.line, rawInt pos.col, Value.ref c']).toList = ps.toList ++ [rawInt pos.line, rawInt pos.col, .ref c'] := by simp
    refine ⟨ps ++ #[rawInt pos.line, rawInt pos.col, .ref c'], (upd_ne (ne_of_none hP hc)).trans upd_same, ?_, fun p1 v1 among => ?_⟩
    · rw [app]
      exact PySem.TriplesOk_snoc _ _ _ _ u2
    · rw [app] at among
      rcases among_app2 _ u2 among with old | ⟨rfl, e1, e2⟩
      · obtain ⟨d, d1, d2⟩ := u3 p1 v1 old
        exact ⟨d, d1, ext _ _ d2 codeO_ne⟩
      · rw [← e1, ← e2]
        exact ⟨c', rfl, by rw [show (P1, nm1).2 pos.line pos.col = q from hq]; exact upd_same⟩
  · refine ⟨us, (other P1 same (ne_of_none u1 hc)).trans u1, u2, fun p1 v1 among => ?_⟩
    obtain ⟨d, d1, d2⟩ := u3 p1 v1 among
    exact ⟨d, d1, ext _ _ d2 codeO_ne⟩
/-- the function's object is laid behind that -/
theorem lam_push {T : List NTab} {F : LF} {H1 : Hp} {tk : Nat} {h' : Heap} {doc pm ctv : Value} {Q : Value → Shared → Prop} (I1 : Inv X pins σ H1 { s with heap := h', toks := tk }) (hF : H h'.objs.size = none) (ext : ExtN H H1) (low : ∀ b, H1 b = Option.none → H b = Option.none) (hT : TabsN T H1)
    (hco : H1 F.c = some (CodeO F.c F.qual)) (hdt : ∀ p, F.dV = some p → H p.1 = some (.tup p.2))
    (h : ∀ (f : Addr) (H2 : Hp) (s' : Shared), Inv X pins σ H2 s' → ExtN H H2 → (∀ b, H2 b = Option.none → H b = Option.none) → TabsN T H2 → H f = none → LamIn H2 f F → Q (.ref f) s') :
    Q (.ref h'.objs.size) { s with heap := h'.push { cls := .type "function", data := .func (F.fd doc pm ctv) }, toks := tk } := by
  have free : H1 h'.objs.size = none := I1.hok.fresh (Nat.le_refl _)
  have stay : ∀ {b o}, H1 b = some o → upd H1 h'.objs.size (LamO h'.objs.size F) b = some o := fun e => (upd_ne (ne_of_none e free)).trans e
  exact h _ _ _ (inv_lam (F := F) (t' := tk) I1 rfl) (fun b o e n => stay (ext b o e n)) (fun b z => low b (upd_none z)) (hT.ext fun b o e => stay e) hF ⟨upd_same, stay hco, fun p e => stay (ext _ _ (hdt p e) fun ps z => nomatch z)⟩
/-- the lambda's object is made, its defaults known -/
theorem lam_tail {T : List NTab} {nm : Nat → Nat → Str} {c P : Addr} {params : Arguments} {body : Expr} {scope : Scope} {pos : Pos} {dV : Option (Addr × List V)} {dv : Value} {E : Value → Shared → Prop} {Q : Value → Shared → Prop} (I : Inv X pins σ H s) (TB : TabB X.base X.mg c P) (hcode : X.env.code = .ref c)
    (hm : (P, nm) ∈ T) (hn : nm pos.line pos.col = X.env.qual ++ "<lambda>") (hu : ∀ p ∈ T, p.1 = P → p.2 = nm) (hT : TabsN T H) (hfree : ∀ y ∈ scope.names, y.2 = .free → ∃ c, X.env.cells.lookup y.1 = some c)
    (hdv : ∀ c', (LF.dv ⟨X.env.qual ++ "<lambda>", params, body, scope, cloFrom X.env.cells scope.names [], dV, c'⟩) = dv) (hdt : ∀ p, dV = some p → H p.1 = some (.tup p.2))
    (h : ∀ (f c' : Addr) (H1 : Hp) (s' : Shared), Inv X pins σ H1 s' → ExtN H H1 → (∀ b, H1 b = Option.none → H b = Option.none) → TabsN T H1 → H f = none → LamIn H1 f ⟨X.env.qual ++ "<lambda>", params, body, scope, cloFrom X.env.cells scope.names [], dV, c'⟩ → Q (.ref f) s') :
    wpAny (model X.prog X.w) X.A (makeTail "<lambda>" (X.env.qual ++ "<lambda>") params (.expr body) scope X.env dv .none none pos pos.line) Q E s := by
  obtain ⟨us, hP, u2, u3⟩ := hT _ hm
  cases among : codeAmong pos us.toList with
  | none =>
    refine PySem.W.kdv_makeTail (mg := X.mg) (closure_ok hfree) I.ok.glob (I.mod.glob.keeps I.bk) hcode (TB.code.keeps I.bk) (I.hok _ _ hP) u2 among TB.gP (TB.bm.keeps I.bk) fun c' ctv doc h' tk ext lo hi hrec tab => ?_
    obtain ⟨_, oc, vs, t, ⟨⟩, r1, r2, r3⟩ := hrec
    obtain ⟨e1, e2, e3⟩ := tabs_more (pos := pos) hT hm hu hP (I.hok.fresh lo) hn
    have I1 := inv_table (t' := tk) I hP ext tab lo ⟨oc, vs, t, r1, r2, r3⟩
    rw [← hdv c']
    exact lam_push (F := ⟨_, params, body, scope, _, dV, c'⟩) I1 (I.hok.fresh (Nat.le_trans lo (Nat.le_of_lt hi))) e1 e3 e2 upd_same hdt fun f H2 s' J a1 a2 a3 a4 a5 => h f c' H2 s' J a1 a2 a3 a4 a5
  | some cv =>
    obtain ⟨c', rfl, co⟩ := u3 pos cv among
    replace co : H c' = some (CodeO c' (nm pos.line pos.col)) := co
    rw [hn] at co
    refine PySem.W.kdv_makeTailHit (mg := X.mg) (closure_ok hfree) I.ok.glob (I.mod.glob.keeps I.bk) hcode (TB.code.keeps I.bk) (I.hok _ _ hP) u2 among (TB.bm.keeps I.bk) fun ctv doc h' tk keep hi => ?_
    rw [← hdv c']
    exact lam_push (F := ⟨_, params, body, scope, _, dV, c'⟩) (I.kept (t' := tk) keep) (I.hok.fresh hi) (fun _ _ e _ => e) (fun _ z => z) hT co hdt fun f H2 s' J a1 a2 a3 a4 a5 => h f c' H2 s' J a1 a2 a3 a4 a5
end
/-- lambda ..: ..; mk tells its words by its code object -/
def tLamN (T : List NTab) (mk : Addr → LF) : TE := fun _ H Q => TabsN T H ∧ ∀ (f c' : Addr) (H1 : Hp), ExtN H H1 → (∀ b, H1 b = Option.none → H b = Option.none) → TabsN T H1 → H f = none → LamIn H1 f (mk c') → Q (.ref f) H1
/-- with one default, a whole number -/
def tLamD (T : List NTab) (d : Int) (mk : Option (Addr × List V) → Addr → LF) : TE := fun _ H Q => TabsN T H ∧ ∀ (t f c' : Addr) (H1 : Hp), H t = none → ExtN H H1 → (∀ b, H1 b = Option.none → H b = Option.none) → TabsN T H1 → H f = none → LamIn H1 f (mk (some (t, [.int d])) c') → Q (.ref f) H1
section
variable {X : Cx}
theorem pe_lamN {T : List NTab} {nm : Nat → Nat → Str} {c P : Addr} {params : Arguments} {body : Expr} {scope : Scope} {pos : Pos} (TB : TabB X.base X.mg c P) (hcode : X.env.code = .ref c) (hm : (P, nm) ∈ T) (hn : nm pos.line pos.col = X.env.qual ++ "<lambda>") (hu : ∀ p ∈ T, p.1 = P → p.2 = nm)
    (hfree : ∀ y ∈ scope.names, y.2 = .free → X.env.scope.names.lookup y.1 = some .cell ∨ X.env.scope.names.lookup y.1 = some .free) (hdef : defaultsOf params X.env = ([], [])) :
    PE X (.Lambda params body scope pos) (tLamN T fun c' => ⟨X.env.qual ++ "<lambda>", params, body, scope, cloFrom X.env.cells scope.names [], none, c'⟩) := by
  refine ⟨fun pins s σ H Q I h => ?_⟩
  obtain ⟨hT, h⟩ := h
  have hfr : ∀ y ∈ scope.names, y.2 = .free → ∃ c, X.env.cells.lookup y.1 = some c := fun y hy e => (hfree y hy e).elim (fun z => I.ok.has _ (.inl z)) fun z => I.ok.has _ (.inr z)
  refine PySem.W.kla_eval hdef ?_
  rw [makeFunction_eq]
  simp only [List.zip_nil_right, List.filterMap_nil, List.isEmpty_nil, if_true, pure_bind]
  exact lam_tail (dV := none) I TB hcode hm hn hu hT hfr (fun _ => rfl) (fun p e => by cases e) fun f c' H1 s' I1 eN nn T1 f0 f1 => ⟨.ref f, H1, I1, rfl, h f c' H1 eN nn T1 f0 f1⟩
theorem pe_lamD {T : List NTab} {nm : Nat → Nat → Str} {c P : Addr} {params : Arguments} {body : Expr} {scope : Scope} {pos dp : Pos} {d : Int} {dj : Nat} (TB : TabB X.base X.mg c P) (hcode : X.env.code = .ref c) (hm : (P, nm) ∈ T) (hn : nm pos.line pos.col = X.env.qual ++ "<lambda>") (hu : ∀ p ∈ T, p.1 = P → p.2 = nm)
    (hfree : ∀ y ∈ scope.names, y.2 = .free → X.env.scope.names.lookup y.1 = some .cell ∨ X.env.scope.names.lookup y.1 = some .free) (hd0 : params.defaults = [.Constant (.int d) dj dp]) (hk0 : params.kw_defaults = []) :
    PE X (.Lambda params body scope pos) (tLamD T d fun dV c' => ⟨X.env.qual ++ "<lambda>", params, body, scope, cloFrom X.env.cells scope.names [], dV, c'⟩) := by
  refine ⟨fun pins s σ H Q I h => ?_⟩
  obtain ⟨hT, h⟩ := h
  have hfr : ∀ y ∈ scope.names, y.2 = .free → ∃ c, X.env.cells.lookup y.1 = some c := fun y hy e => (hfree y hy e).elim (fun z => I.ok.has _ (.inl z)) fun z => I.ok.has _ (.inr z)
  refine PySem.W.kdv_lam (by rw [hd0]; rfl) hk0 ?_
  rw [hd0]
  refine PySem.W.kdv_all1 (thn ((pe_int (X := X)).run pins s σ H (fun v H1 => v = .int d ∧ H1 = H) I ⟨rfl, rfl⟩) fun u s1 ⟨v, H1, I1, r, ev, eH⟩ => ?_)
  rw [eH] at I1
  rw [ev] at r
  refine PySem.W.kdv_all0 ?_
  rw [makeFunction_eq]
  simp only [List.zip_nil_right, List.filterMap_nil, List.isEmpty_nil, if_true, pure_bind, List.isEmpty_cons, Bool.false_eq_true, if_false]
  refine wpAny_bind (wpAny_newTextTuple ?_)
  have hf : H s1.heap.objs.size = none := I1.hok.fresh (Nat.le_refl _)
  have I2 : Inv X pins σ (upd H s1.heap.objs.size (.tup [V.int d])) { s1 with heap := s1.heap.push { cls := .type "tuple", data := .seq [u].toArray } } :=
    I1.laid (t' := s1.toks) (fun b u e => Heap.get?_push_of_some _ e) (Nat.le_refl _) ⟨(by show 1 ≤ sizeLine; decide), [u], .cons r .nil, ⟨_, Heap.get?_push_size _ rfl, rfl, _, rfl⟩⟩
  refine lam_tail (dV := some (s1.heap.objs.size, [V.int d])) I2 TB hcode hm hn hu (hT.ext fun b o e => (upd_ne (ne_of_none e hf)).trans e) hfr (fun _ => rfl) (fun p e => by cases e; exact upd_same) fun f c' H1 s' I1 eN nn T1 f0 f1 => ⟨.ref f, H1, I1, rfl, h s1.heap.objs.size f c' H1 hf ?_ ?_ T1 (upd_none f0) f1⟩
  · exact fun b o e n => eN b o ((upd_ne (ne_of_none e hf)).trans e) n
  · exact fun b e => upd_none (nn b e)
end
end Ask

/-! what a lambda promises; a def that is handed one; calls -/
namespace Ask
open PySem L2 PySem.Spec PyProof.Rows LamX NdefX
/-- the lambda F at f, called: sp ws, ws what its captured cells hold at the call -/
structure LOk (P : Program) (w : World) (K : PySem.W.Frag) (mg : Str → Option Value) (base : Heap) (CX : CXT) (k : Nat) (f : Addr) (F : LF) (fr : List Str) (sp : List (Option V) → Sp) : Prop where
  run : ∀ (A : Around) (outer : List Env) (s : Shared) (H : Hp) (us : List Value) (vs : List V) (ws : List (Option V)) (Q : VK) (E : XK), Room k A → Env0 P w K mg base A outer s H → LamIn H f F →
    CellsAt F.cl fr ws s.heap H → Vals vs us → sp ws vs H Q E → codeAny (model P w) A (.call (.ref f) ⟨us, []⟩) (CR CX outer P w H s Q E) s
/-- how a lambda's parameters are bound: ds its defaults, all of them wanted -/
def LBinds (F : LF) (ps : List Str) (n : Nat) : Prop := ∀ (P : Program) (w : World) (H : Hp) (s : Shared) (doc pm ctv : Value) (us : List Value) (vs ds : List V), us.length = n → Vals vs us → (F.dV = none ∧ ds = [] ∨ ∃ t, F.dV = some (t, ds)) → HOk P w H s.heap → (∀ p, F.dV = some p → H p.1 = some (.tup p.2)) →
  ∃ us', Vals (vs ++ ds) us' ∧ BindsTo s (F.fd doc pm ctv) ⟨us, []⟩ (ps.zip us')
section
variable {CX : CXT} {P : Program} {w : World} {K : PySem.W.Frag} {mg : Str → Option Value} {base : Heap} {N ps fr : List Str} {F : LF} {f : Addr} {k j n : Nat} {sp sp' : List (Option V) → Sp} {ds : List V}
theorem LBinds.plain (h : F.dV = none) (hb : ∀ (doc pm ctv : Value) (us : List Value), us.length = n → bindArgs (PySem.W.kdv_fn "<lambda>" F.qual F.params (.expr F.body) F.scope F.cl .none doc pm (.ref F.c) ctv) ⟨us, []⟩ = pure (ps.zip us)) : LBinds F ps n := by
  intro P w H s doc pm ctv us vs ds hl r hd hok ht
  have e : F.dv = .none := by unfold LF.dv; rw [h]
  rcases hd with ⟨_, rfl⟩ | ⟨t, z⟩
  · exact ⟨us, by rw [List.append_nil]; exact r, .of_eq (by rw [LF.fd, e]; exact hb doc pm ctv us hl)⟩
  · rw [h] at z; cases z
/-- one default, nothing handed over -/
theorem LBinds.dflt {t : Addr} {d : Int} {x : Str} (h : F.dV = some (t, [V.int d])) (k : Option (Array Value) → Sem (List (Str × Value))) (h1 : ∀ (doc pm ctv : Value), bindArgs (PySem.W.kdv_fn "<lambda>" F.qual F.params (.expr F.body) F.scope F.cl (.ref t) doc pm (.ref F.c) ctv) ⟨[], []⟩ = seqItems? (.ref t) >>= k)
    (h2 : ∀ u, k (some #[u]) = pure [(x, u)]) : LBinds F [x] 0 := by
  intro P w H s doc pm ctv us vs ds hl r hd hok ht
  have e : F.dv = .ref t := by unfold LF.dv; rw [h]
  obtain rfl : us = [] := List.eq_nil_of_length_eq_zero hl
  cases r
  rcases hd with ⟨z, _⟩ | ⟨t', z⟩
  · rw [h] at z; cases z
  · rw [h] at z
    cases z
    obtain ⟨_, its, rv, ob, ho, hc, n, hdat⟩ := (show ObjOk P w H s.heap t (.tup [V.int d]) from hok t _ (ht _ h))
    obtain ⟨u, r2, e2⟩ : ∃ u, its = [u] ∧ L2.RelV (.int d) u := by
      cases rv with
      | cons a b => cases b with
        | nil => exact ⟨_, rfl, a⟩
    subst r2
    refine ⟨[u], .cons e2 .nil, BindsTo.of_defaults (T := t) (o := ob) (items := #[u]) (n := n) (by show F.dv = _; exact e) ho hdat (k := k) ?_ (h2 u)⟩
    rw [LF.fd, e]
    exact h1 doc pm ctv
theorem LOk.mono (o : LOk P w K mg base CX j f F fr sp) (h : j ≤ k) : LOk P w K mg base CX k f F fr sp := ⟨fun A outer s H us vs ws Q E hr => o.run A outer s H us vs ws Q E (hr.mono h)⟩
theorem inv_startL {h₁ : Heap} {tk : Nat} {us : List Value} {vs : List V} {A : Around} {outer : List Env} {s : Shared} {H : Hp} {E : XK} {ws : List (Option V)} (S : NScope N ps fr F.scope) (hd : A.handled = none) (e0 : Env0 P w K mg base A outer s H) (hl : vs.length = ps.length) (r : Vals vs us) (C : CellsAt F.cl fr ws s.heap H) (hns : h₁.Ns s.heap.objs.size fun y => (ps.zip us).reverse.lookup y)
    (kp : ∀ b o, s.heap.get? b = some o → h₁.get? b = some o) : Inv (ncx CX P w K mg base N F.nf f A outer s H E) [] (startF N vs ws) H { s with heap := h₁, toks := tk } := inv_startN (F := F.nf) S hd e0 hl r C hns kp
/-- a lambda by its body -/
theorem lok_of (S : NScope N ps fr F.scope) (hb : LBinds F ps n) (hds : F.dV = none ∧ ds = [] ∨ ∃ t, F.dV = some (t, ds)) (hps : ps.length = n + ds.length) (len : ∀ ws vs H Q E, sp ws vs H Q E → vs.length = n)
    (hbody : ∀ (A : Around) (outer : List Env) (s : Shared) (H : Hp) (vs : List V) (ws : List (Option V)) (Q : VK) (E : XK), Room k (A.deeper (envF F.nf f s.heap.objs.size)) → LamIn H f F → ws.length = fr.length → sp ws vs H Q E →
      ∃ t, PE (ncx CX P w K mg base N F.nf f A outer s H E) F.body t ∧ t (startF N (vs ++ ds) ws) H Q) :
    LOk P w K mg base CX (k + 1) f F fr sp := by
  refine ⟨fun A outer s H us vs ws Q E hr e0 hf C r hsp => ?_⟩
  have hl := len _ _ _ _ _ hsp
  have lim : s.heap.NoLimit := e0.mod.nolimit.keeps fun b o e => (e0.bs b o e).1
  obtain ⟨od, sl, doc, pm, ctv, ho⟩ := lamO_at e0.hok hf.fn
  obtain ⟨us', r', bind⟩ := hb P w H s doc pm ctv us vs ds (by rw [← r.length]; exact hl) r hds e0.hok hf.df
  refine PySem.W.kla_callFunE hr.depth ho rfl S.co S.gen rfl (codeO_at e0.hok hf.co) (bind _ _ _ _ ?_)
  refine wpAny_newFunctionEnv S.nocell (fun ⟨n, _⟩ hy => S.par n (List.of_mem_zip hy).1) (fun h₁ hns hsb => ⟨lim.fresh _ hsb, ?_⟩) S.kind
  show codeAny _ _ (.expr F.body (envF F.nf f s.heap.objs.size)) _ _
  have kp : ∀ b o, s.heap.get? b = some o → h₁.get? b = some o := fun b o e => hsb.extBut b o (Nat.ne_of_lt (Heap.lt_size e)) (Heap.get?_push_of_some _ e)
  obtain ⟨t, ht, hq⟩ := hbody A outer s H vs ws Q E (hr.deeper _) hf C.len hsp
  have I : Inv (ncx CX P w K mg base N F.nf f A outer s H E) [] (startF N (vs ++ ds) ws) H { s with heap := h₁, toks := s.toks + (ps.zip us').length } := inv_startL S hr.hd e0 (by rw [List.length_append]; omega) r' C hns kp
  refine PySem.W.kla_codeExpr (wpAny_mono (ht.run [] _ (startF N (vs ++ ds) ws) H Q I hq) (fun v s' hs => ?_) fun e s' hs => hs)
  obtain ⟨v', H', J, rv, q⟩ := hs
  exact ⟨v', H', J.os, J.bare, J.base, J.hok, rv, q⟩
/-! ### held by another frame -/
/-- from the state s0, H0 on (frames fs may get slots), the lambda F at f promises sp -/
structure LamAt (P : Program) (w : World) (K : PySem.W.Frag) (mg : Str → Option Value) (base : Heap) (CX : CXT) (k : Nat) (fs : List Addr) (s0 : Shared) (H0 : Hp) (f : Addr) (F : LF) (sp : Sp) : Prop where
  run : ∀ (A : Around) (outer : List Env) (s : Shared) (H : Hp) (us : List Value) (vs : List V) (Q : VK) (E : XK), Room k A → Env0 P w K mg base A outer s H → Un fs [] H0 H s0.heap s.heap → LamIn H f F → Vals vs us → sp vs H Q E →
    codeAny (model P w) A (.call (.ref f) ⟨us, []⟩) (CR CX outer P w H s Q E) s
theorem lamAt_of {X : Cx} {pins : List (Addr × Obj)} {σ : L2.St} {H : Hp} {s : Shared} {js : List Nat} {fs : List Addr} (o : LOk X.prog X.w X.K X.mg X.base CX k f F fr sp) (cp : Caps X F.cl fr js) (I : Inv X pins σ H s) :
    LamAt X.prog X.w X.K X.mg X.base CX k fs s H f F (sp (js.map (slotAt σ))) := by
  refine ⟨fun A outer s' H' us vs Q E hr e0 un lin r hsp => o.run A outer s' H' us vs _ Q E hr e0 lin ?_ r hsp⟩
  have C := cells_of I cp
  have kp : ∀ y c, F.cl.lookup y = some c → ∀ v, s.heap.IsCell c v → s'.heap.IsCell c v := fun y c e v ⟨o, ho, hd⟩ => by
    obtain ⟨sl, q⟩ := un.any ho (C.all y c e).1 (by simp)
    exact ⟨_, q, hd⟩
  refine ⟨C.len, fun y c e => ?_, C.inj, fun i y e => ?_⟩
  · obtain ⟨n, v, z⟩ := C.all y c e
    refine ⟨?_, v, kp y c e v z⟩
    obtain ⟨o, ho, _⟩ := z
    exact un.free c o ho n (by simp)
  · obtain ⟨c, hc, hv⟩ := C.has i y e
    refine ⟨c, hc, fun v ev => ?_⟩
    obtain ⟨u, r, z⟩ := hv v ev
    exact ⟨u, r, kp y c hc _ z⟩
end
/-- which lambdas are known, with their promises -/
abbrev LPr := Addr → LF → Sp → Prop
/-- a def that may be handed lambdas: its promise may speak of what they promise -/
structure FnOkH (P : Program) (w : World) (K : PySem.W.Frag) (mg : Str → Option Value) (base : Heap) (CXL CX : CXT) (j k : Nat) (f : Addr) (fd : FuncData) (ps : List Str) (sp : LPr → Sp) : Prop where
  len : ∀ L vs H Q E, sp L vs H Q E → vs.length = ps.length
  run : ∀ (A : Around) (outer : List Env) (s : Shared) (H : Hp) (args : Args) (us : List Value) (vs : List V) (Q : VK) (E : XK), Room k A → Env0 P w K mg base A outer s H → BindsTo s fd args (ps.zip us) → Vals vs us → sp (LamAt P w K mg base CXL j (frs outer) s H) vs H Q E →
    codeAny (model P w) A (.call (.ref f) args) (CR CX outer P w H s Q E) s
/-- it is so whatever is known of the lambdas beside -/
def MonoH (sp : LPr → Sp) : Prop := ∀ L L' : LPr, (∀ f F s, L f F s → L' f F s) → ∀ vs H Q E, sp L vs H Q E → sp L' vs H Q E
section
variable {CXL CX : CXT} {P : Program} {w : World} {K : PySem.W.Frag} {mg : Str → Option Value} {base : Heap} {N ps : List Str} {f : Addr} {j k : Nat} {sp : LPr → Sp} {x qual : Str} {st : Stmt} {fd : FuncData}
theorem FnOkH.mono {k' : Nat} (F : FnOkH P w K mg base CXL CX j k f fd ps sp) (h : k ≤ k') : FnOkH P w K mg base CXL CX j k' f fd ps sp := ⟨F.len, fun A outer s H args us vs Q E hr => F.run A outer s H args us vs Q E (hr.mono h)⟩
theorem okH (F : Fun K x qual st f fd) (S : FnScope N ps (defScope st)) (len : ∀ L vs H Q E, sp L vs H Q E → vs.length = ps.length)
    (hbody : ∀ (cdv : Value) (A : Around) (outer : List Env) (s : Shared) (H : Hp) (vs : List V) (Q : VK) (E : XK), Room k (A.deeper (envOfC qual (defScope st) s.heap.objs.size f cdv)) → sp (LamAt P w K mg base CXL j (frs outer) s H) vs H Q E →
      ∃ t, PSs (cxOf CX P w K mg base N qual (defScope st) f cdv A outer s H E) (defBody st) t ∧ t { nx := fun _ H' => Q .non H', rt := Q } (start N vs) H) :
    FnOkH P w K mg base CXL CX j (k + 1) f fd ps sp :=
  ⟨len, fun A outer s H args us vs Q E hr e0 hb r hsp => fn_run F S hr e0 hb r (len _ _ _ _ _ hsp) fun cdv hr' => hbody cdv A outer s H vs Q E hr' hsp⟩
end
/-- a name of one's own that holds a lambda, called -/
def tCallP (i : Nat) (f : Addr) (F : LF) (sp : Sp) (E : XK) (t : TA) : TE := fun σ H Q => σ[i]? = some (some (.ref f)) ∧ LamIn H f F ∧ t σ H fun vs H1 => LamIn H1 f F ∧ sp vs H1 Q E
/-- a def called that may be handed lambdas -/
def tCallH (L : L2.St → LPr) (sp : LPr → Sp) (E : XK) (t : TA) : TE := fun σ H Q => t σ H fun vs H1 => sp (L σ) vs H1 Q E
section
variable {X : Cx} {CXL CX : CXT} {j k i : Nat} {f : Addr} {F : LF} {fd : FuncData} {ps : List Str} {sp : Sp} {spH : LPr → Sp} {L : L2.St → LPr} {E : XK} {x : Str} {p pos : Pos} {e : Expr} {es : List Expr} {t : TA}
theorem lamFn {pins : List (Addr × Obj)} {σ : L2.St} {H : Hp} {s : Shared} (I : Inv X pins σ H s) (l : LamIn H f F) : PySem.W.FnAt f s.heap := by
  obtain ⟨od, sl, doc, pm, ctv, ho⟩ := lamO_at I.hok l.fn
  exact ⟨_, od, _, sl, ho⟩
theorem run_p {pins : List (Addr × Obj)} {σ : L2.St} {H : Hp} {s : Shared} {Q : VK} {us : List Value} {vs : List V} (la : LamAt X.prog X.w X.K X.mg X.base CX k X.fs X.s_0 X.H_0 f F sp) (hex : X.ex = []) (hr : Room k X.A) (hx : Passes CX X E) (I : Inv X pins σ H s) (l : LamIn H f F) (r : Vals vs us) (q : sp vs H Q E) :
    wpAny (model X.prog X.w) X.A (call (.ref f) us) (EP X pins σ Q) X.xe s := by
  have un := I.base
  rw [hex] at un
  refine wpAny_call (codeAny_mono (la.run X.A X.stack s H us vs Q E hr I.env0 un l r q) fun r s' hq => ?_)
  cases r with
  | error e => exact hx pins σ H s e s' I hq
  | ok fl =>
    cases fl with
    | ret u => exact I.after hq
    | next => exact False.elim hq
    | brk => exact False.elim hq
    | cont => exact False.elim hq
theorem pe_callP (la : LamAt X.prog X.w X.K X.mg X.base CX k X.fs X.s_0 X.H_0 f F sp) (hex : X.ex = []) (hr : Room k X.A) (hx : Passes CX X E) (hN : X.N[i]? = some x) (hv : Vis X.env.scope x) (ha : PA X (e :: es) t)
    (hd : (x == ("__debug__" : Str)) = false := by decide) (hcd : (x == ("__classdict__" : Str)) = false := by decide)
    (he : starEach (e :: es) X.env = (false, eval e X.env) :: starEach es X.env := by rfl) (hpl : (backTo pos (starEach es X.env)).any (·.1) = false := by rfl) :
    PE X (.Call (.Name x p) (e :: es) [] pos) (tCallP i f F sp E t) := by
  refine ⟨fun pins s σ H Q I h => ?_⟩
  obtain ⟨hs, hf, ht⟩ := h
  refine wpAny_Call_Name_kw (thn ((pe_var (pos := p) hN hv hd hcd).run pins s σ H (fun v H1 => v = .ref f ∧ H1 = H) I ⟨.ref f, hs, rfl, rfl⟩) fun u s1 ⟨v, H1, I1, r1, q1⟩ => ?_)
  obtain ⟨ev, eH⟩ := q1
  subst ev
  rw [eH] at I1
  obtain rfl : u = Value.ref f := r1
  refine PySem.W.callWith_F (first := []) (lamFn I1 hf) (thn (ha.run pos pins s1 σ H _ I1 ht) fun us s2 ⟨vs, H2, I2, r, l2, q⟩ => ⟨lamFn I2 l2, ?_⟩) he hpl
  exact run_p la hex hr hx I2 l2 r q
theorem pe_callP0 (la : LamAt X.prog X.w X.K X.mg X.base CX k X.fs X.s_0 X.H_0 f F sp) (hex : X.ex = []) (hr : Room k X.A) (hx : Passes CX X E) (hN : X.N[i]? = some x) (hv : Vis X.env.scope x)
    (hd : (x == ("__debug__" : Str)) = false := by decide) (hcd : (x == ("__classdict__" : Str)) = false := by decide) :
    PE X (.Call (.Name x p) [] [] pos) (tCallP i f F sp E tNil) := by
  refine ⟨fun pins s σ H Q I h => ?_⟩
  obtain ⟨hs, hf, l2, q⟩ := h
  refine wpAny_Call_Name_kw (thn ((pe_var (pos := p) hN hv hd hcd).run pins s σ H (fun v H1 => v = .ref f ∧ H1 = H) I ⟨.ref f, hs, rfl, rfl⟩) fun u s1 ⟨v, H1, I1, r1, q1⟩ => ?_)
  obtain ⟨ev, eH⟩ := q1
  subst ev
  rw [eH] at I1
  obtain rfl : u = Value.ref f := r1
  refine PySem.W.callWith_F0 (first := []) (lamFn I1 hf) ?_
  exact run_p la hex hr hx I1 l2 .nil q
/-- the maker's lambdas -/
def Knows (X : Cx) (CXL : CXT) (j : Nat) (L : L2.St → LPr) : Prop := ∀ (pins : List (Addr × Obj)) (σ : L2.St) (H : Hp) (s : Shared), Inv X pins σ H s → ∀ f F sp, L σ f F sp → LamAt X.prog X.w X.K X.mg X.base CXL j (frs X.stack) s H f F sp
theorem pe_callH (G : FnOkH X.prog X.w X.K X.mg X.base CXL CX j k f fd ps spH) (mo : MonoH spH) (kn : Knows X CXL j L) (hr : Room k X.A) (hg : Gl X x) (hm : X.mg x = some (.ref f)) (hk : PySem.W.keepIn X.K (.ref f) = true) (hb : Binds X.K fd ps []) (hx : Passes CX X E)
    (ha : PA X (e :: es) t) (hdb : (x == ("__debug__" : Str)) = false := by decide) (he : starEach (e :: es) X.env = (false, eval e X.env) :: starEach es X.env := by rfl) (hpl : (backTo pos (starEach es X.env)).any (·.1) = false := by rfl) :
    PE X (.Call (.Name x p) (e :: es) [] pos) (tCallH L spH E t) := by
  refine ⟨fun pins s σ H Q I h => ?_⟩
  refine wpAny_Call_Name_kw (ld_glob I hg hm ?_ hdb)
  refine PySem.W.callWith_K (h₀ := X.base) I.ok.mod.kin hk (thn (ha.run pos pins s σ H _ I h) fun us s1 ⟨vs, H1, I1, r, q⟩ => ⟨I1.kIn, ?_⟩) he hpl
  have q' := mo _ _ (kn pins σ H1 s1 I1) vs H1 Q E q
  have hl : (us ++ []).length = ps.length := by rw [List.append_nil, ← r.length]; exact G.len _ _ _ _ _ q
  show wpAny _ _ (call (.ref f) us) _ _ _
  refine wpAny_call (codeAny_mono (G.run X.A X.stack s1 H1 ⟨us, []⟩ us vs Q E hr I1.env0 (by have z := hb s1 us I1.kIn hl; rw [List.append_nil] at z; exact z) r q') fun r s' hq => ?_)
  cases r with
  | error e => exact hx pins σ H1 s1 e s' I1 hq
  | ok fl =>
    cases fl with
    | ret u => exact I1.after hq
    | next => exact False.elim hq
    | brk => exact False.elim hq
    | cont => exact False.elim hq
end
end Ask

/-! a method that is handed a lambda; a name of one's own that holds a def of the program; two relations of one operator or call -/
namespace Ask
open PySem L2 PySem.Spec PyProof.Rows LamX NdefX
/-- o.m(..) where m may be handed lambdas -/
def tMethH (C : Addr) (m : Str) (L : L2.St → LPr) (sp : LPr → Sp) (E : XK) (ta : TE) (t : TA) : TE := fun σ H Q => ta σ H fun x H1 => ∃ a dx fs, x = .ref a ∧ H1 a = some (.ins C dx fs) ∧ fs.lookup m = none ∧ t σ H1 fun vs H2 => sp (L σ) (x :: vs) H2 Q E
/-- a name of one's own that holds the def at f, called -/
def tCallV (i : Nat) (f : Addr) (sp : Sp) (E : XK) (t : TA) : TE := fun σ H Q => σ[i]? = some (some (.ref f)) ∧ t σ H fun vs H1 => sp vs H1 Q E
section
variable {X : Cx} {CXL CX : CXT} {j k i : Nat} {f C : Addr} {fd : FuncData} {ps : List Str} {sp : Sp} {spH : LPr → Sp} {L : L2.St → LPr} {E : XK} {x m : Str} {p pos apos : Pos} {e o : Expr} {es : List Expr} {ta : TE} {t : TA}
theorem pe_methH {pl : Sem Bool} (he : PE X o ta) (c : Cls X.K C) (hm : Meth X.K C m f) (G : FnOkH X.prog X.w X.K X.mg X.base CXL CX j k f fd ps spH) (mo : MonoH spH) (kn : Knows X CXL j L) (hr : Room k X.A) (hb : Binds X.K fd ps []) (hx : Passes CX X E) (ha : PA X (e :: es) t)
    (hst : starEach (e :: es) X.env = (false, eval e X.env) :: starEach es X.env := by rfl) (hpl : (backTo pos (starEach es X.env)).any (·.1) = false := by rfl)
    (ht : eval (.Call (.Attribute o m apos) (e :: es) [] pos) X.env = (do
      let ov ← eval o X.env
      standAt apos.atName
      let (f, first) ← holding [ov] (getMethod ov m pl)
      callWith pos f first (backTo pos (starEach (e :: es) X.env)) (backToKw pos (keywordEach [] X.env))) := by rfl) :
    PE X (.Call (.Attribute o m apos) (e :: es) [] pos) (tMethH C m L spH E ta t) := by
  refine ⟨fun pins s σ H Q I h => ?_⟩
  refine PySem.W.methodCall_KW (pl := pl) (thn (he.run pins s σ H _ I h) fun u s1 ⟨x, H1, I1, rx, a, dx, fs, ex, ea, l, q⟩ => ?_) ht
  subst ex
  obtain rfl : u = Value.ref a := rx
  refine getmeth_ok I1 ea c hm l ?_
  refine PySem.W.callWith_K (first := [.ref a]) (h₀ := X.base) I.ok.mod.kin hm.kp (thn (ha.run pos pins s1 σ H1 _ I1 q) fun us s2 ⟨vs, H2, I2, r, q2⟩ => ⟨I2.kIn, ?_⟩) hst hpl
  have q' := mo _ _ (kn pins σ H2 s2 I2) (.ref a :: vs) H2 Q E q2
  have hl : ((Value.ref a :: us) ++ []).length = ps.length := by rw [List.append_nil, ← G.len _ _ _ _ _ q2]; exact congrArg (· + 1) r.length.symm
  show wpAny _ _ (call (.ref f) (Value.ref a :: us)) _ _ _
  refine wpAny_call (codeAny_mono (G.run X.A X.stack s2 H2 ⟨.ref a :: us, []⟩ (.ref a :: us) (.ref a :: vs) Q E hr I2.env0 (by have z := hb s2 (.ref a :: us) I2.kIn hl; rw [List.append_nil] at z; exact z) (.cons rfl r) q') fun r s' hq => ?_)
  cases r with
  | error e => exact hx pins σ H2 s2 e s' I2 hq
  | ok fl =>
    cases fl with
    | ret u => exact I2.after hq
    | next => exact False.elim hq
    | brk => exact False.elim hq
    | cont => exact False.elim hq
theorem pe_callV (G : FnOk X.prog X.w X.K X.mg X.base CX k f fd ps sp) (hr : Room k X.A) (hk : PySem.W.keepIn X.K (.ref f) = true) (hb : Binds X.K fd ps []) (hx : Passes CX X E) (hN : X.N[i]? = some x) (hv : Vis X.env.scope x) (ha : PA X (e :: es) t)
    (hd : (x == ("__debug__" : Str)) = false := by decide) (hcd : (x == ("__classdict__" : Str)) = false := by decide)
    (he : starEach (e :: es) X.env = (false, eval e X.env) :: starEach es X.env := by rfl) (hpl : (backTo pos (starEach es X.env)).any (·.1) = false := by rfl) :
    PE X (.Call (.Name x p) (e :: es) [] pos) (tCallV i f sp E t) := by
  refine ⟨fun pins s σ H Q I h => ?_⟩
  obtain ⟨hs, ht⟩ := h
  refine wpAny_Call_Name_kw (thn ((pe_var (pos := p) hN hv hd hcd).run pins s σ H (fun v H1 => v = .ref f ∧ H1 = H) I ⟨.ref f, hs, rfl, rfl⟩) fun u s1 ⟨v, H1, I1, r1, q1⟩ => ?_)
  obtain ⟨ev, eH⟩ := q1
  subst ev
  rw [eH] at I1
  obtain rfl : u = Value.ref f := r1
  refine PySem.W.callWith_K (h₀ := X.base) I1.ok.mod.kin hk (thn (ha.run pos pins s1 σ H _ I1 ht) fun us s2 ⟨vs, H2, I2, r, q⟩ => ⟨I2.kIn, ?_⟩) he hpl
  have q2 : sp (vs ++ []) H2 Q E := by rw [List.append_nil]; exact q
  exact run_fn (dvs := []) (ds := []) (vs := vs) G hr hb .nil hx I2 r q2
/-- an operator read in two ways -/
theorem op_or {op : Value → Value → Sem Value} {r1 r2 : V → V → Hp → VK → Prop} (h1 : OpR X op r1) (h2 : OpR X op r2) : OpR X op (fun x y H Q => r1 x y H Q ∨ r2 x y H Q) := by
  intro pins s σ H x y v u Q I rx ry h
  exact h.elim (fun q => h1 pins s σ H x y v u Q I rx ry q) fun q => h2 pins s σ H x y v u Q I rx ry q
theorem call_or {f : Value} {r1 r2 : List V → Hp → VK → Prop} (h1 : CallR X f r1) (h2 : CallR X f r2) : CallR X f (fun xs H Q => r1 xs H Q ∨ r2 xs H Q) := by
  intro pins s σ H xs us Q I rs h
  exact h.elim (fun q => h1 pins s σ H xs us Q I rs q) fun q => h2 pins s σ H xs us Q I rs q
end
end Ask

/-! len of a set of texts -/
namespace Ask
open PySem L2 PySem.Spec PyProof.Rows
theorem call_lenTx {X : Cx} : CallR X (.builtin "len") (fun xs H Q => ∃ (S : Addr) (zs : List Str), xs = [.ref S] ∧ H S = some (TxO X.prog X.w S zs) ∧ zs.length ≤ 100000 ∧ Q (.int (zs.length : Nat)) H) := by
  intro pins s σ H xs us Q I r h
  obtain ⟨S, zs, rfl, hS, few, q⟩ := h
  have R : TxAt X.prog X.w s.heap S zs := (I.hok S _ hS).1
  rw [Vals.ref1 r]
  obtain ⟨D, e, ok, _⟩ := R
  refine PySem.call_len_set (es := D.1) (ep := D.2.1) (t := D.2.2) e ⟨rfl, rfl, rfl⟩ rfl (by exact ok.fit) (by rw [ok.sz]; omega) ⟨.int (zs.length : Nat), H, I.tok _, ⟨_, by rw [ok.sz]⟩, q⟩
end Ask

namespace Ask
open PySem L2 LamX NdefX
structure RdC (K : PySem.W.Frag) (C : Addr) : Prop where
  c : Cls K C
  a1 : NoAttr K C "parts"
  a2 : NoAttr K C "number"
  a3 : NoAttr K C "taken"
def rdF (L : Addr) (k : Nat) : List (Str × V) := [("parts", .ref L), ("number", .int 1), ("taken", .int (k : Nat))]
/-- a reader of the words ps, k of them taken -/
def RdA (CR : Addr) (H : Hp) (p l0 : Addr) (ps : List Str) (k : Nat) : Prop := ∃ dx, H p = some (.ins CR dx (rdF l0 k)) ∧ H l0 = some (.lst (ps.map V.str))
theorem RdA.same {CR p l0 : Addr} {H H' : Hp} {ps : List Str} {k : Nat} (h : RdA CR H p l0 ps k) (s : Same H H') : RdA CR H' p l0 ps k := by
  obtain ⟨dx, h1, h2⟩ := h
  exact ⟨dx, s _ _ h1, s _ _ h2⟩
theorem RdA.ext {CR p l0 : Addr} {H H' : Hp} {ps : List Str} {k : Nat} (h : RdA CR H p l0 ps k) (s : ExtN H H') : RdA CR H' p l0 ps k := by
  obtain ⟨dx, h1, h2⟩ := h
  exact ⟨dx, s _ _ h1 (fun _ z => nomatch z), s _ _ h2 (fun _ z => nomatch z)⟩
theorem RdA.next {CR p dx L : Addr} {H : Hp} {ps : List Str} {k : Nat} (h1 : H p = some (.ins CR dx (rdF L k))) (h2 : H L = some (.lst (ps.map V.str))) : RdA CR (upd H p (.ins CR dx (rdF L (k + 1)))) p L ps (k + 1) :=
  ⟨dx, upd_same, by rw [upd_ne (ne_of h2 h1 (fun z => nomatch z))]; exact h2⟩
theorem str_at {ps : List Str} {k : Nat} {z : Str} (h : ps[k]? = some z) : (ps.map V.str)[k]? = some (.str z) := by rw [List.getElem?_map, h]; rfl
def ahV (ps : List Str) (k : Nat) : V := match ps[k]? with
  | some z => .str z
  | none => .non
theorem pe_no {X : Cx} {e : Expr} : PE X e (fun _ _ _ => False) := ⟨fun pins s σ H Q I h => h.elim⟩
section
variable {P : Program} {w : World} {K : PySem.W.Frag} {mg : Str → Option Value} {base : Heap}
def spRdInit (CR : Addr) : Sp := fun vs H Q _ => ∃ (p dx : Addr) (line : Str) (ps : List Str), vs = [.ref p, .str line, .int 1] ∧ H p = some (.ins CR dx []) ∧ line.length ≤ 100000 ∧ Txt.split line " " = ps ∧ ∀ H' l0, But p H H' → H l0 = none → RdA CR H' p l0 ps 0 → Q .non H'
abbrev s_LineReader___init__ : Stmt := inClass (top 58) 0
theorem sc_LineReader___init__ : FnScope ["self", "line", "number"] ["self", "line", "number"] (defScope s_LineReader___init__) := ⟨rfl, rfl, rfl, by decide +kernel, rfl, by decide +kernel, by decide +kernel⟩
theorem ok_rdInit {f CR : Addr} {fd : FuncData} (F : Fun K "__init__" "LineReader.__init__" s_LineReader___init__ f fd) (hC : RdC K CR) : FnOk P w K mg base CX0 1 f fd ["self", "line", "number"] (spRdInit CR) := by
  refine F.ok sc_LineReader___init__ (fun vs H Q E h => ?_) (fun cdv A outer s H vs Q E hr h => ?_)
  · obtain ⟨p, dx, line, ps, rfl, _⟩ := h
    rfl
  · obtain ⟨p, dx, line, ps, rfl, hp, hl, e, kq⟩ := h
    have z1 : (200000 : Nat) ≤ sizeLine := by decide
    refine ⟨_, (pss_cons (ps_fld (pv 0) (pe_split (pv 1) pe_str) rfl)
      (pss_cons (ps_fld (pv 0) (pv 2) rfl)
      (pss_one (ps_fld (pv 0) pe_int rfl)))), ?_⟩
    refine ⟨_, rfl, ⟨line, rfl⟩, line, " ", rfl, rfl, by decide +kernel, by omega, fun L hL => ?_⟩
    have Lp : L ≠ p := fun z => by rw [z, hp] at hL; cases hL
    have s1 := Ask.Same.made1 (o := .lst ((Txt.split line " ").map V.str)) (Same.refl H) hL
    have e1 : upd H L (.lst ((Txt.split line " ").map V.str)) L = some (.lst ((Txt.split line " ").map V.str)) := upd_same
    generalize upd H L (.lst ((Txt.split line " ").map V.str)) = H1 at s1 e1 ⊢
    refine ⟨_, rfl, p, CR, dx, _, rfl, s1 _ _ hp, hC.c, hC.a1, by decide, ?_⟩
    refine ⟨_, rfl, _, rfl, p, CR, dx, _, rfl, upd_same, hC.c, hC.a2, by show 1 < 1000; decide, ?_⟩
    refine ⟨_, rfl, p, CR, dx, _, rfl, upd_same, hC.c, hC.a3, by show 2 < 1000; decide, ?_⟩
    refine kq _ L (fun b o n q => ?_) hL ⟨dx, upd_same, ?_⟩
    · rw [upd_ne n, upd_ne n, upd_ne n]; exact s1 _ _ q
    · rw [upd_ne Lp, upd_ne Lp, upd_ne Lp, e1, e]
def spAhead (CR : Addr) : Sp := fun vs H Q _ => ∃ (p l0 : Addr) (ps : List Str) (k : Nat), vs = [.ref p] ∧ RdA CR H p l0 ps k ∧ Q (ahV ps k) H
abbrev s_LineReader_ahead : Stmt := inClass (top 58) 1
theorem sc_LineReader_ahead : FnScope ["self"] ["self"] (defScope s_LineReader_ahead) := ⟨rfl, rfl, rfl, by decide +kernel, rfl, by decide +kernel, by decide +kernel⟩
theorem ok_ahead {f CR : Addr} {fd : FuncData} (F : Fun K "ahead" "LineReader.ahead" s_LineReader_ahead f fd) (T : Blt mg) (hC : RdC K CR) : FnOk P w K mg base CX0 1 f fd ["self"] (spAhead CR) := by
  refine F.ok sc_LineReader_ahead (fun vs H Q E h => ?_) (fun cdv A outer s H vs Q E hr h => ?_)
  · obtain ⟨p, l0, ps, k, rfl, _⟩ := h
    rfl
  · obtain ⟨p, L, ps, k, rfl, ⟨dx, hp, hL⟩, kq⟩ := h
    refine ⟨_, (pss_one (ps_ret (pe_ifExp (pt_cmpR op_lt (pe_fld (pv 0) rfl) (pe_callB call_len_seq (by rfl) T.n_len (by decide +kernel) (pa_cons (pe_fld (pv 0) rfl) pa_nil)) (nomark _)) (pe_ix ix_seq (pe_fld (pv 0) rfl) (pe_fld (pv 0) rfl) (fun _ _ => rfl)) pe_non))), ?_⟩
    refine ⟨_, rfl, p, CR, dx, _, _, rfl, hp, hC.c, hC.a3, rfl, _, rfl, p, CR, dx, _, _, rfl, hp, hC.c, hC.a1, rfl, L, _, rfl, .inl (SqL.of hL), _, _, rfl, rfl, _, rfl, ?_⟩
    rw [List.length_map]
    by_cases c : k < ps.length
    · rw [decide_eq_true (show (k : Int) < (ps.length : Nat) by omega)]
      have e : ps[k]? = some ps[k] := List.getElem?_eq_getElem c
      unfold ahV at kq
      rw [e] at kq
      exact iteT ⟨_, rfl, p, CR, dx, _, _, rfl, hp, hC.c, hC.a1, rfl, _, rfl, p, CR, dx, _, _, rfl, hp, hC.c, hC.a3, rfl, .inl ⟨L, _, _, _, rfl, rfl, SqL.of hL, at_by (j := k) rfl (str_at e), kq⟩⟩
    · rw [decide_eq_false (show ¬ (k : Int) < (ps.length : Nat) by omega)]
      have e : ps[k]? = none := List.getElem?_eq_none (by omega)
      unfold ahV at kq
      rw [e] at kq
      exact iteF kq
def spRefuse (CR CT : Addr) : Sp := fun vs H _ E => ∃ (p l0 : Addr) (ps : List Str) (k : Nat), vs = [.ref p] ∧ RdA CR H p l0 ps k ∧ ∀ (H' : Hp) (d : Addr), Same H H' → H' d = some (.xd (fsText [.int 1, .int ((k : Int) + 1)])) → E (.ref CT) (some d) H'
abbrev s_LineReader_refuse : Stmt := inClass (top 58) 2
theorem sc_LineReader_refuse : FnScope ["self"] ["self"] (defScope s_LineReader_refuse) := ⟨rfl, rfl, rfl, by decide +kernel, rfl, by decide +kernel, by decide +kernel⟩
theorem ok_refuse {f fT CR CT : Addr} {fd fdT : FuncData} (F : Fun K "refuse" "LineReader.refuse" s_LineReader_refuse f fd) (hC : RdC K CR)
    (F_BadText : FnOk P w K mg base CX0 2 fT fdT ["self", "line", "place"] (spErr CT okText fsText)) (E_BadText : ErrAt K mg "BadText" CT fT fdT ["self", "line", "place"]) :
    FnOk P w K mg base (L2.CX P w) 4 f fd ["self"] (spRefuse CR CT) := by
  refine F.okX sc_LineReader_refuse (fun vs H Q E h => ?_) (fun cdv A outer s H vs Q E hr h => ?_)
  · obtain ⟨p, l0, ps, k, rfl, _⟩ := h
    rfl
  · obtain ⟨p, L, ps, k, rfl, ⟨dx, hp, hL⟩, ke⟩ := h
    have h_BadText := hr.mono (j := 3) (by decide)
    refine ⟨_, (pss_one (ps_raise rfl (takes_of rfl rfl rfl rfl) (pmk_oex E_BadText.o E_BadText.i E_BadText.t F_BadText (by exact h_BadText) E_BadText.b .nil pass0 (by rfl) E_BadText.m (pa_cons (pe_fld (pv 0) rfl) (pa_cons (pe_op op_add (pe_fld (pv 0) rfl) pe_int) pa_nil))))), ?_⟩
    refine ⟨_, rfl, p, CR, dx, _, _, rfl, hp, hC.c, hC.a2, rfl, _, rfl, p, CR, dx, _, _, rfl, hp, hC.c, hC.a3, rfl, _, _, rfl, rfl, ?_⟩
    exact err_made (H1 := H) (Same.refl H) ⟨_, _, rfl⟩ (by show 2 ≤ 1000; decide) ke
def oV : Option (Str × Bool) → V
  | some x => .str x.1
  | none => .non
theorem ahV_of {ps : List Str} {k : Nat} {o : Option (Str × Bool)} (h : ps[k]? = o.map (·.1)) : ahV ps k = oV o := by
  unfold ahV
  rw [h]
  cases o <;> rfl
/-- what the test at g says of the word z -/
def PrdAt (fA : Addr) (L : LPr) (H : Hp) (g : Addr) (z : Str) (b : Bool) : Prop := (g = fA ∧ ansS z = b) ∨ ∃ (F : LF) (sp : Sp), L g F sp ∧ LamIn H g F ∧ ∀ (H1 : Hp) (Q : VK) (E : XK), Same H H1 → (∀ H2, Same H1 H2 → Q (.bl b) H2) → sp [.str z] H1 Q E
def spTake (CR CT fA : Addr) : LPr → Sp := fun L vs H Q E => ∃ (p g l0 : Addr) (ps : List Str) (k : Nat) (o : Option (Str × Bool)), vs = [.ref p, .ref g] ∧ RdA CR H p l0 ps k ∧ ps[k]? = o.map (·.1) ∧ (∀ x, o = some x → (x.1.length ≤ 500 ∧ Asc x.1) ∧ PrdAt fA L H g x.1 x.2) ∧
  ((∀ z, o ≠ some (z, true)) → ∀ (H' : Hp) (d : Addr), Same H H' → H' d = some (.xd (fsText [.int 1, .int ((k : Int) + 1)])) → E (.ref CT) (some d) H') ∧
  (∀ z, o = some (z, true) → ∀ H', But p H H' → RdA CR H' p l0 ps (k + 1) → Q (.str z) H')
theorem take_mono {CR CT fA : Addr} : MonoH (spTake CR CT fA) := fun L L' hL vs H Q E ⟨p, g, l0, ps, k, o, a, b, c, d, e⟩ =>
  ⟨p, g, l0, ps, k, o, a, b, c, fun x hx => ⟨(d x hx).1, (d x hx).2.imp id fun ⟨F, sp, l, r⟩ => ⟨F, sp, hL _ _ _ l, r⟩⟩, e⟩
abbrev s_LineReader_take : Stmt := inClass (top 58) 3
theorem sc_LineReader_take : FnScope ["self", "is_right", "word"] ["self", "is_right"] (defScope s_LineReader_take) := ⟨rfl, rfl, rfl, by decide +kernel, rfl, by decide +kernel, by decide +kernel⟩
theorem ok_take {f fH fR fA CR CT : Addr} {fd fdH fdR fdA : FuncData} (F : Fun K "take" "LineReader.take" s_LineReader_take f fd) (hC : RdC K CR)
    (GH : FnOk P w K mg base CX0 1 fH fdH ["self"] (spAhead CR)) (bH : Binds K fdH ["self"] []) (mH : Meth K CR "ahead" fH)
    (GR : FnOk P w K mg base (L2.CX P w) 4 fR fdR ["self"] (spRefuse CR CT)) (bR : Binds K fdR ["self"] []) (mR : Meth K CR "refuse" fR)
    (GA : FnOk P w K mg base CX0 2 fA fdA ["value"] spShortV) (AA : At K mg "is_answer" fA fdA ["value"]) :
    FnOkH P w K mg base CX0 (L2.CX P w) 3 5 f fd ["self", "is_right"] (spTake CR CT fA) := by
  refine okH F sc_LineReader_take (fun L vs H Q E h => ?_) (fun cdv A outer s H vs Q E hr h => ?_)
  · obtain ⟨p, g, l0, ps, k, o, rfl, _⟩ := h
    rfl
  · obtain ⟨p, g, L0, ps, k, o, rfl, ⟨dx, hp, hL⟩, ho, hx, ke, kq⟩ := h
    have h_ahead := hr.mono (j := 1) (by decide)
    have h_refuse := hr.mono (j := 4) (by decide)
    have h_ans := hr.mono (j := 2) (by decide)
    have h_lam := hr.mono (j := 3) (by decide)
    have hah := ahV_of ho
    have hR : RdA CR H p L0 ps k := ⟨dx, hp, hL⟩
    have rf : ∀ D : VK, (∀ z, o ≠ some (z, true)) → ∀ H1, Same H H1 → spRefuse CR CT [.ref p] H1 D E := fun D no H1 s1 => ⟨p, L0, ps, k, rfl, hR.same s1, fun H' d s' e => ke no H' d (s1.trans s') e⟩
    have go : ∀ z, o = some (z, true) → ∀ H1, Same H H1 → Q (.str z) (upd H1 p (.ins CR dx (rdF L0 (k + 1)))) := fun z hz H1 s1 => by
      refine kq z hz _ (fun b o n e => by rw [upd_ne n]; exact s1 _ _ e) (RdA.next (s1 _ _ hp) (s1 _ _ hL))
    cases o with
    | none =>
      refine ⟨_, (pss_cons (ps_set (i := 2) sc_LineReader_take.nd rfl (Or.inl rfl) (pe_meth0 (pv 0) hC.c mH GH h_ahead bH .nil pass0))
      (pss_cons (ps_if (PW.pt (pw_or (pt_cmpR op_isN (pv 2) pe_non (nomark _)) (pw_or1 (pt_not (pt_val pe_no))))) (pss_one (ps_expr (pe_meth0 (E := E) (pv 0) hC.c mR GR h_refuse bR .nil (passes_call (takes_of rfl rfl rfl rfl) (fun _ _ _ _ h => h))))) pss_nil)
      (pss_cons (ps_fldaug (pv 0) pe_int in_add)
      (pss_one (ps_ret (pv 2)))))), ?_⟩
      refine ⟨_, rfl, p, dx, _, rfl, hp, rfl, p, L0, ps, k, rfl, hR, ?_⟩
      rw [hah]
      try dsimp only
      refine seqIf_mid (fun _ _ => False) (fun K' hK => ?_) (fun _ _ z => z.elim)
      refine ⟨_, rfl, rfl, _, rfl, iteT ?_⟩
      exact ⟨_, rfl, p, dx, _, rfl, hp, rfl, rf (fun _ _ => True) (fun z e => nomatch e) H (Same.refl H)⟩
    | some x =>
      obtain ⟨z, b⟩ := x
      obtain ⟨zf, hpr⟩ := hx _ rfl
      rcases hpr with ⟨rfl, e⟩ | ⟨F', sp, la, lin, hsp⟩
      · refine ⟨_, (pss_cons (ps_set (i := 2) sc_LineReader_take.nd rfl (Or.inl rfl) (pe_meth0 (pv 0) hC.c mH GH h_ahead bH .nil pass0))
      (pss_cons (ps_if (PW.pt (pw_or (pt_cmpR op_isN (pv 2) pe_non (nomark _)) (pw_or1 (pt_not (pt_val (pe_callV (i := 1) (E := E0) GA h_ans AA.k AA.b pass0 rfl (Or.inl rfl) (pa_cons (pv 2) pa_nil))))))) (pss_one (ps_expr (pe_meth0 (E := E) (pv 0) hC.c mR GR h_refuse bR .nil (passes_call (takes_of rfl rfl rfl rfl) (fun _ _ _ _ h => h))))) pss_nil)
      (pss_cons (ps_fldaug (pv 0) pe_int in_add)
      (pss_one (ps_ret (pv 2)))))), ?_⟩
        refine ⟨_, rfl, p, dx, _, rfl, hp, rfl, p, L0, ps, k, rfl, hR, ?_⟩
        rw [hah]
        try dsimp only
        refine seqIf_mid (fun σ' H' => σ' = [some (.ref p), some (.ref g), some (.str z)] ∧ Same H H' ∧ b = true) (fun K' hK => ?_) ?_
        · refine ⟨_, rfl, rfl, _, rfl, iteF ?_⟩
          have back : ∀ H1, Same H H1 → ∀ c : Bool, c = b → (if (!c) = true then tDrop (tMeth CR "refuse" (spRefuse CR CT) [] E (tVar 0) tNil) { nx := K', rt := Q } [some (.ref p), some (.ref g), some (.str z)] H1 else K' [some (.ref p), some (.ref g), some (.str z)] H1) := fun H1 s1 c hc => by
            subst hc
            cases c with
            | false => exact iteT ⟨_, rfl, p, dx, _, rfl, s1 _ _ hp, rfl, rf (fun _ _ => True) (fun z e => nomatch e) H1 s1⟩
            | true => exact iteF (hK _ _ ⟨rfl, s1, rfl⟩)
          refine ⟨rfl, _, rfl, p, _, rfl, ⟨.inl rfl, fun y ey => by cases ey; exact zf⟩, fun H1 s1 => ⟨_, rfl, ?_⟩⟩
          exact back H1 s1 _ e
        rintro σ' H1 ⟨rfl, s1, rfl⟩
        try dsimp only
        refine ⟨_, rfl, p, CR, dx, _, _, rfl, s1 _ _ hp, hC.c, hC.a3, rfl, _, _, rfl, rfl, dx, _, s1 _ _ hp, by show 3 < 1000; decide, _, rfl, ?_⟩
        exact go z rfl H1 s1
      · refine ⟨_, (pss_cons (ps_set (i := 2) sc_LineReader_take.nd rfl (Or.inl rfl) (pe_meth0 (pv 0) hC.c mH GH h_ahead bH .nil pass0))
      (pss_cons (ps_if (PW.pt (pw_or (pt_cmpR op_isN (pv 2) pe_non (nomark _)) (pw_or1 (pt_not (pt_val (pe_callP (i := 1) (CX := CX0) (E := E0) la rfl h_lam pass0 rfl (Or.inl rfl) (pa_cons (pv 2) pa_nil))))))) (pss_one (ps_expr (pe_meth0 (E := E) (pv 0) hC.c mR GR h_refuse bR .nil (passes_call (takes_of rfl rfl rfl rfl) (fun _ _ _ _ h => h))))) pss_nil)
      (pss_cons (ps_fldaug (pv 0) pe_int in_add)
      (pss_one (ps_ret (pv 2)))))), ?_⟩
        refine ⟨_, rfl, p, dx, _, rfl, hp, rfl, p, L0, ps, k, rfl, hR, ?_⟩
        rw [hah]
        try dsimp only
        refine seqIf_mid (fun σ' H' => σ' = [some (.ref p), some (.ref g), some (.str z)] ∧ Same H H' ∧ b = true) (fun K' hK => ?_) ?_
        · refine ⟨_, rfl, rfl, _, rfl, iteF ?_⟩
          have back : ∀ H1, Same H H1 → ∀ c : Bool, c = b → (if (!c) = true then tDrop (tMeth CR "refuse" (spRefuse CR CT) [] E (tVar 0) tNil) { nx := K', rt := Q } [some (.ref p), some (.ref g), some (.str z)] H1 else K' [some (.ref p), some (.ref g), some (.str z)] H1) := fun H1 s1 c hc => by
            subst hc
            cases c with
            | false => exact iteT ⟨_, rfl, p, dx, _, rfl, s1 _ _ hp, rfl, rf (fun _ _ => True) (fun z e => nomatch e) H1 s1⟩
            | true => exact iteF (hK _ _ ⟨rfl, s1, rfl⟩)
          refine ⟨rfl, lin, _, rfl, lin, hsp H _ _ (Same.refl H) fun H1 s1 => ⟨_, rfl, ?_⟩⟩
          exact back H1 s1 _ rfl
        rintro σ' H1 ⟨rfl, s1, rfl⟩
        try dsimp only
        refine ⟨_, rfl, p, CR, dx, _, _, rfl, s1 _ _ hp, hC.c, hC.a3, rfl, _, _, rfl, rfl, dx, _, s1 _ _ hp, by show 3 < 1000; decide, _, rfl, ?_⟩
        exact go z rfl H1 s1
end
end Ask

namespace Ask
open PySem L2 LamX NdefX
/-- all stands but pens and tables of code objects -/
def Sv (H H' : Hp) : Prop := ∀ b o, H b = some o → (∀ ps, o ≠ .tbl ps) → (∀ kvs, o ≠ .dK kvs) → (∀ kvs, o ≠ .dT kvs) → H' b = some o
theorem Sv.of {H H' : Hp} (s : Same H H') : Sv H H' := fun b o e _ _ _ => s b o e
theorem Sv.ext {H H' : Hp} (s : ExtN H H') : Sv H H' := fun b o e n _ _ => s b o e n
theorem Sv.refl (H : Hp) : Sv H H := fun _ _ e _ _ _ => e
theorem Sv.trans {H H1 H2 : Hp} (a : Sv H H1) (b : Sv H1 H2) : Sv H H2 := fun c o e n k j => b c o (a c o e n k j) n k j
theorem Sv.kp {H H' : Hp} {p : Addr} {kvs : List (Key × V)} (k : Kp p H H') (hp : H p = some (.dK kvs)) : Sv H H' := fun b o e _ n _ => k b o (fun z => n kvs (by rw [z, hp] at e; exact (Option.some.inj e).symm)) e
theorem Sv.go {H H' : Hp} {p c : Addr} {ns : List Int} {B : Nat} (g : Go p c ns H H' B) : Sv H H' := by
  obtain ⟨A, b, l, h, _⟩ := g.base
  exact Sv.kp g.kp h
theorem Sv.tup {H H' : Hp} (s : Sv H H') {b : Addr} {xs : List V} (e : H b = some (.tup xs)) : H' b = some (.tup xs) := s b _ e (fun _ z => nomatch z) (fun _ z => nomatch z) (fun _ z => nomatch z)
theorem Sv.lst {H H' : Hp} (s : Sv H H') {b : Addr} {xs : List V} (e : H b = some (.lst xs)) : H' b = some (.lst xs) := s b _ e (fun _ z => nomatch z) (fun _ z => nomatch z) (fun _ z => nomatch z)
theorem Sv.ins {H H' : Hp} (s : Sv H H') {b C dx : Addr} {fs : List (Str × V)} (e : H b = some (.ins C dx fs)) : H' b = some (.ins C dx fs) := s b _ e (fun _ z => nomatch z) (fun _ z => nomatch z) (fun _ z => nomatch z)
theorem Sv.frz {H H' : Hp} (s : Sv H H') {b : Addr} {o : Obj} {u : HO} (e : H b = some (.frz o u)) : H' b = some (.frz o u) := s b _ e (fun _ z => nomatch z) (fun _ z => nomatch z) (fun _ z => nomatch z)
section
variable {K : PySem.W.Frag} {H H' : Hp} {a : Addr} {xs : List V} (s : Sv H H')
include s
theorem sqT_sv (h : SqT K H a xs) : SqT K H' a xs := by
  rcases h with (h | ⟨o, h⟩) | h
  · exact .inl (.inl (s.tup h))
  · exact .inl (.inr ⟨o, s.frz h⟩)
  · exact .inr h
theorem sqL_sv (h : SqL K H a xs) : SqL K H' a xs := by
  rcases h with (h | ⟨o, h⟩) | h
  · exact .inl (.inl (s.lst h))
  · exact .inl (.inr ⟨o, s.frz h⟩)
  · exact .inr h
theorem seqA_sv (h : SqL K H a xs ∨ SqT K H a xs) : SqL K H' a xs ∨ SqT K H' a xs := h.elim (fun z => .inl (sqL_sv s z)) fun z => .inr (sqT_sv s z)
theorem mde_sv {CL t : Addr} {ys : List Str} (h : Mde CL H a t ys) : Mde CL H' a t ys := by
  obtain ⟨dx, o, h1, h2, h3⟩ := h
  exact ⟨dx, o, s.ins h1, s.frz h2, h3⟩
end
theorem LamIn.sv {H H' : Hp} {f : Addr} {F : LF} (l : LamIn H f F) (s : Sv H H') : LamIn H' f F :=
  ⟨s _ _ l.fn (fun ps z => by unfold LamO at z; cases z) (fun ps z => by unfold LamO at z; cases z) (fun ps z => by unfold LamO at z; cases z), s _ _ l.co (fun ps z => by unfold CodeO at z; cases z) (fun ps z => by unfold CodeO at z; cases z) (fun ps z => by unfold CodeO at z; cases z), fun p e => s.tup (l.df p e)⟩
/-- a def by its body, its code object known -/
theorem fun_okC {CX : CXT} {P : Program} {w : World} {K : PySem.W.Frag} {mg : Str → Option Value} {base : Heap} {x qual : Str} {st : Stmt} {f : Addr} {fd : FuncData} {N ps : List Str} {k : Nat} {sp : Sp} (F : Fun K x qual st f fd) (S : FnScope N ps (defScope st)) (len : ∀ vs H Q E, sp vs H Q E → vs.length = ps.length)
    (hbody : ∀ (A : Around) (outer : List Env) (s : Shared) (H : Hp) (vs : List V) (Q : VK) (E : XK), Room k (A.deeper (PyProof.Rows.envOfC qual (defScope st) s.heap.objs.size f fd.code)) → sp vs H Q E →
      ∃ t, PSs (cxOf CX P w K mg base N qual (defScope st) f fd.code A outer s H E) (defBody st) t ∧ t { nx := fun _ H' => Q .non H', rt := Q } (start N vs) H) : FnOk P w K mg base CX (k + 1) f fd ps sp := by
  obtain ⟨oc, od, kV, doc, pm, an, cdv, ct, osl, rfl, lk, hcd⟩ := F.ex
  exact fn_of lk hcd S len fun A outer s H vs Q E hr hsp => hbody A outer s H vs Q E hr hsp
end Ask

namespace Ask
open PySem L2 LamX NdefX
def argN : Nat → Expr → Expr
  | i, .Call _ as _ _ => as.getD i (.Constant .none 0 ⟨0, 0, 0, 0⟩)
  | _, e => e
def stE1 : Stmt → Expr
  | .Assign _ e _ => e
  | .Expr e _ => e
  | .Return (some e) _ => e
  | _ => .Constant .none 0 ⟨0, 0, 0, 0⟩
def lamP : Expr → Arguments
  | .Lambda p _ _ _ => p
  | _ => ⟨[], [], none, [], [], none, []⟩
def lamB : Expr → Expr
  | .Lambda _ b _ _ => b
  | e => e
def lamS (d : Scope) : Expr → Scope
  | .Lambda _ _ s _ => s
  | _ => d
/-- all stands but what is at p and the tables of code objects -/
structure ExP (p : Addr) (T : List NTab) (H H' : Hp) : Prop where
  st : ∀ b o, b ≠ p → H b = some o → (∀ ps, o ≠ .tbl ps) → H' b = some o
  tb : TabsN T H'
theorem But.tabs {p C dx : Addr} {fs : List (Str × V)} {H H' : Hp} {T : List NTab} (hT : TabsN T H) (hp : H p = some (.ins C dx fs)) (k : But p H H') : TabsN T H' := by
  rintro ⟨P1, nm1⟩ h1
  obtain ⟨us, u1, u2, u3⟩ := hT _ h1
  refine ⟨us, k _ _ (ne_of u1 hp (fun z => nomatch z)) u1, u2, fun p1 v1 among => ?_⟩
  obtain ⟨d, d1, d2⟩ := u3 p1 v1 among
  exact ⟨d, d1, k _ _ (ne_of d2 hp (fun z => by unfold CodeO at z; cases z)) d2⟩
theorem ExP.trans {p : Addr} {T : List NTab} {H H1 H2 : Hp} (a : ExP p T H H1) (b : ExP p T H1 H2) : ExP p T H H2 := ⟨fun c o n e t => b.st c o n (a.st c o n e t) t, b.tb⟩
theorem ExP.of {p C dx : Addr} {fs : List (Str × V)} {T : List NTab} {H H1 H2 : Hp} (e : ExtN H H1) (hT : TabsN T H1) (hp : H1 p = some (.ins C dx fs)) (k : But p H1 H2) : ExP p T H H2 := ⟨fun c o n q t => k c o n (e c o q t), k.tabs hT hp⟩
/-- what words are looked for in -/
def WordsAt (K : PySem.W.Frag) (CL : Addr) (H : Hp) (v : V) (ws : List Str) : Prop := (∃ t, v = .ref t ∧ SqT K H t (ws.map V.str)) ∨ ∃ m t, v = .ref m ∧ Mde CL H m t ws
section
variable {P : Program} {w : World} {K : PySem.W.Frag} {mg : Str → Option Value} {base : Heap}
abbrev s_LineReader_take_one_of : Stmt := inClass (top 58) 4
theorem sc_LineReader_take_one_of : FnScope ["self", "words"] ["self", "words"] (defScope s_LineReader_take_one_of) := ⟨rfl, rfl, rfl, by decide +kernel, rfl, by decide +kernel, by decide +kernel⟩
abbrev lam_on : Expr := argN 0 (stE1 ((defBody s_LineReader_take_one_of).getD 0 (.Pass ⟨0, 0, 0, 0⟩)))
abbrev LF_on (q : Str) (cl : List (Str × Addr)) (c : Addr) : LF := ⟨q, lamP lam_on, lamB lam_on, lamS (defScope s_LineReader_take_one_of) lam_on, cl, none, c⟩
theorem ns_on (q : Str) (cl : List (Str × Addr)) (c : Addr) : NScope ["word", "words"] ["word"] ["words"] (LF_on q cl c).scope := nscope_by (by show nscB _ _ _ (lamS (defScope s_LineReader_take_one_of) lam_on) = true; decide +kernel)
theorem nb_on : ndefB (defScope s_LineReader_take_one_of) (lamS (defScope s_LineReader_take_one_of) lam_on) ["words"] = true := by decide +kernel
def spLamOn (K : PySem.W.Frag) (CL : Addr) : List (Option V) → Sp := fun cs vs H Q _ => ∃ (v : V) (ws : List Str) (z : Str), cs = [some v] ∧ vs = [.str z] ∧ WordsAt K CL H v ws ∧ Q (.bl (decide (z ∈ ws))) H
theorem all_flatS (ws : List Str) : (ws.map V.str).all flatV = true := by
  rw [List.all_map]
  exact List.all_eq_true.mpr fun _ _ => rfl
theorem lok_on {f c : Addr} {q : Str} {cl : List (Str × Addr)} {fH CL : Addr} {fdH : FuncData}
    (GH : FnOk P w K mg base CX0 1 fH fdH ["self", "x"] (spHas CL)) (bH : Binds K fdH ["self", "x"] []) (hH : PySem.W.findIn K (.ref CL) "__contains__" = some (some (.ref fH))) (iH : PySem.W.isFn K (.ref fH) = true) :
    LOk P w K mg base CX0 3 f (LF_on q cl c) ["words"] (spLamOn K CL) := by
  refine lok_of (ns_on q cl c) (LBinds.plain rfl fun doc pm ctv us hl => match us, hl with | [_], _ => rfl) (ds := []) (.inl ⟨rfl, rfl⟩) rfl (fun ws vs H Q E h => ?_) (fun A outer s H vs ws Q E hr hf hw h => ?_)
  · obtain ⟨v, ws, z, _, rfl, _⟩ := h
    rfl
  · obtain ⟨v, ws, z, rfl, rfl, hv, k⟩ := h
    have h1 := hr.mono (j := 1) (by decide)
    refine ⟨_, (pe_cmpR (op_or op_in_seq (op_inI (C := CL) (E := E0) GH h1 bH pass0 hH iH)) (pv 0) (pv 1) rfl), ?_⟩
    refine ⟨_, rfl, _, rfl, ?_⟩
    rcases hv with ⟨t, rfl, hS⟩ | ⟨m, t, rfl, hM⟩
    · refine .inl ⟨t, _, rfl, .inr hS, rfl, all_flatS ws, ?_⟩
      show Q (.bl (inV (.str z) (ws.map V.str))) H
      rw [inV_str]
      exact k
    · obtain ⟨dx, ob, m1, _⟩ := id hM
      exact .inr ⟨m, dx, _, rfl, m1, m, t, ws, _, _, rfl, hM, Val.inw (p := m) (.inl rfl) ws, _, rfl, k⟩
theorem WordsAt.sv {CL : Addr} {H H' : Hp} {v : V} {ws : List Str} (h : WordsAt K CL H v ws) (s : Sv H H') : WordsAt K CL H' v ws := by
  rcases h with ⟨t, rfl, h⟩ | ⟨m, t, rfl, h⟩
  · exact .inl ⟨t, rfl, sqT_sv s h⟩
  · exact .inr ⟨m, t, rfl, mde_sv s h⟩
def spTakeOne (T : List NTab) (K : PySem.W.Frag) (CR CL CT : Addr) : Sp := fun vs H Q E => ∃ (p l0 : Addr) (v : V) (ps ws : List Str) (k : Nat), vs = [.ref p, v] ∧ TabsN T H ∧ RdA CR H p l0 ps k ∧ WordsAt K CL H v ws ∧ (∀ z, ps[k]? = some z → z.length ≤ 500 ∧ Asc z) ∧
  ((∀ z, ps[k]? = some z → z ∉ ws) → ∀ (H' : Hp) (d : Addr), ExtN H H' → TabsN T H' → H' d = some (.xd (fsText [.int 1, .int ((k : Int) + 1)])) → E (.ref CT) (some d) H') ∧
  (∀ z, ps[k]? = some z → z ∈ ws → ∀ H', ExP p T H H' → RdA CR H' p l0 ps (k + 1) → Q (.str z) H')
theorem ok_takeOne {T : List NTab} {nm : Nat → Nat → Str} {f fT fH fA c PT CR CL CT : Addr} {fd fdT fdH : FuncData} (F : Fun K "take_one_of" "LineReader.take_one_of" s_LineReader_take_one_of f fd) (hC : RdC K CR)
    (TB : TabB base mg c PT) (hcode : fd.code = .ref c) (hmT : (PT, nm) ∈ T) (hn : ∀ i j, nm i j = "LineReader.take_one_of.<locals>.<lambda>") (hu : ∀ p ∈ T, p.1 = PT → p.2 = nm)
    (GH : FnOk P w K mg base CX0 1 fH fdH ["self", "x"] (spHas CL)) (bH : Binds K fdH ["self", "x"] []) (hH : PySem.W.findIn K (.ref CL) "__contains__" = some (some (.ref fH))) (iH : PySem.W.isFn K (.ref fH) = true)
    (GT : FnOkH P w K mg base CX0 (L2.CX P w) 3 5 fT fdT ["self", "is_right"] (spTake CR CT fA)) (bT : Binds K fdT ["self", "is_right"] []) (mT : Meth K CR "take" fT) :
    FnOk P w K mg base (L2.CX P w) 6 f fd ["self", "words"] (spTakeOne T K CR CL CT) := by
  refine fun_okC F sc_LineReader_take_one_of (fun vs H Q E h => ?_) (fun A outer s H vs Q E hr h => ?_)
  · obtain ⟨p, l0, v, ps, ws, k, rfl, _⟩ := h
    rfl
  · obtain ⟨p, l0, v, ps, ws, k, rfl, hT, hR, hv, hz, ke, kq⟩ := h
    refine ⟨_, (pss_one (ps_ret (pe_methH (E := E) (L := fun σ f F sp => ∃ c', F = LF_on ((PyProof.Rows.envOfC "LineReader.take_one_of" (defScope s_LineReader_take_one_of) s.heap.objs.size f fd.code).qual ++ "<lambda>") (cloFrom (PyProof.Rows.envOfC "LineReader.take_one_of" (defScope s_LineReader_take_one_of) s.heap.objs.size f fd.code).cells (lamS (defScope s_LineReader_take_one_of) lam_on).names []) c' ∧ sp = spLamOn K CL ([1].map (slotAt σ))) (pv 0) hC.c mT GT take_mono ?_ (by exact hr) bT (passes_call (takes_of rfl rfl rfl rfl) (fun _ _ _ _ h => h)) (pa_cons (pe_lamN (T := T) (nm := nm) TB hcode hmT ?_ hu ?_ rfl) pa_nil)))), ?_⟩
    · rintro pins σ H s I f F sp ⟨c', rfl, rfl⟩
      exact lamAt_of (lok_on GH bH hH iH) (Caps.made I.ok (ndef_free nb_on) (ndef_fr nb_on) rfl) I
    · exact (hn _ _).trans (by rfl)
    · exact ndef_free nb_on
    obtain ⟨dx, hp, hL⟩ := id hR
    refine ⟨_, rfl, p, dx, _, rfl, hp, rfl, hT, fun g c' H1 ext low T1 g0 lin => ?_⟩
    have hv1 := hv.sv (Sv.ext ext)
    refine ⟨p, g, l0, ps, k, (ps[k]?).map fun z => (z, decide (z ∈ ws)), rfl, hR.ext ext, ?_, fun x hx => ?_, fun no H2 d s2 e2 => ?_, fun z e H2 k2 r2 => ?_⟩
    · cases ps[k]? <;> rfl
    · cases e : ps[k]? with
      | none => rw [e] at hx; cases hx
      | some z =>
        rw [e] at hx
        cases hx
        exact ⟨hz z e, .inr ⟨_, _, ⟨c', rfl, rfl⟩, lin, fun H3 Q' E' s3 kk => ⟨v, ws, z, rfl, rfl, hv1.sv (Sv.of s3), kk H3 (Same.refl H3)⟩⟩⟩
    · refine ke (fun z e m => no z ?_) H2 d (fun b o e t => s2 _ _ (ext b o e t)) (T1.ext s2) e2
      rw [e, Option.map_some, decide_eq_true m]
    · cases e' : ps[k]? with
      | none => rw [e'] at e; cases e
      | some y =>
        rw [e'] at e
        have e3 := Option.some.inj e
        have e4 : y = z := congrArg Prod.fst e3
        subst e4
        exact kq y e' (of_decide_eq_true (congrArg Prod.snd e3)) H2 (ExP.of ext T1 (ext _ _ hp fun _ z => nomatch z) k2) r2
end
end Ask

namespace Ask
open PySem L2 LamX NdefX
def whB : Stmt → List Stmt
  | .While _ b _ _ => b
  | _ => []
section
variable {P : Program} {w : World} {K : PySem.W.Frag} {mg : Str → Option Value} {base : Heap}
def spOneMore (K : PySem.W.Frag) : Sp := fun vs H Q _ => ∃ (z : Str) (a : Addr) (ys : List Str), vs = [.str z, .ref a] ∧ SqL K H a (ys.map V.str) ∧ ys.length < 1000 ∧ ∀ H', Same H H' → Q (.bl (decide (z ∈ ys) || decide ((dst ys).length < 6))) H'
abbrev s_is_one_more : Stmt := top 62
theorem sc_is_one_more : FnScope ["answer", "answers"] ["answer", "answers"] (defScope s_is_one_more) := ⟨rfl, rfl, rfl, by decide +kernel, rfl, by decide +kernel, by decide +kernel⟩
theorem ok_oneMore {f : Addr} {fd : FuncData} (F : Fun K "is_one_more" "is_one_more" s_is_one_more f fd) (T : Blt mg) (nSe : mg "set" = none) (mA : ∃ u, mg "MOST_ANSWERS" = some u ∧ RelV (.int 6) u) : FnOk P w K mg base CX0 1 f fd ["answer", "answers"] (spOneMore K) := by
  refine F.ok sc_is_one_more (fun vs H Q E h => ?_) (fun cdv A outer s H vs Q E hr h => ?_)
  · obtain ⟨z, a, ys, rfl, _⟩ := h
    rfl
  · obtain ⟨z, a, ys, rfl, hS, hn, kq⟩ := h
    refine ⟨_, (pss_one (ps_ret (pe_or (pe_cmpR op_in_seq (pv 0) (pv 1) rfl) (pe_one (pe_cmpR op_lt (pe_callB call_lenTx (by rfl) T.n_len (by decide +kernel) (pa_cons (pe_callTy (cr_setTx rfl) (by rfl) nSe (by decide +kernel) (pa_cons (pv 1) pa_nil)) pa_nil)) (pe_gv rfl mA) (nomark _)))))), ?_⟩
    refine ⟨_, rfl, _, rfl, a, _, rfl, .inl hS, rfl, all_flatS ys, ?_⟩
    rw [show (if false = true then !inV (V.str z) (ys.map V.str) else inV (V.str z) (ys.map V.str)) = decide (z ∈ ys) from inV_str z ys]
    refine ⟨_, rfl, ?_⟩
    by_cases m : z ∈ ys
    · rw [decide_eq_true m] at kq ⊢
      exact iteT (kq H (Same.refl H))
    · rw [decide_eq_false m] at kq ⊢
      refine iteF ⟨_, rfl, a, ys, rfl, hS, hn, fun S zs hS2 nd hz lz => ⟨S, zs, rfl, upd_same, by omega, _, _, rfl, rfl, ?_⟩⟩
      have e : (dst ys).length = zs.length := by
        obtain ⟨a, b⟩ := dst_ok ys
        exact ((List.perm_ext_iff_of_nodup a nd).mpr fun x => (b x).trans (hz x).symm).length_eq
      have := kq _ (Ask.Same.made1 (o := TxO P w S zs) (Same.refl H) hS2)
      rw [Bool.false_or, e] at this
      show Q (.bl (decide ((zs.length : Int) < 6))) _
      rw [show decide ((zs.length : Int) < 6) = decide (zs.length < 6) from decide_eq_decide.mpr (by omega)]
      exact this
abbrev s_take_answers : Stmt := top 61
theorem sc_take_answers : FnScope ["words", "end", "found"] ["words", "end"] (defScope s_take_answers) := ⟨rfl, rfl, rfl, by decide +kernel, rfl, by decide +kernel, by decide +kernel⟩
abbrev lam_an : Expr := argN 0 (argN 0 (stE1 ((whB ((defBody s_take_answers).getD 1 (.Pass ⟨0, 0, 0, 0⟩))).getD 0 (.Pass ⟨0, 0, 0, 0⟩))))
abbrev LF_an (q : Str) (cl : List (Str × Addr)) (c : Addr) : LF := ⟨q, lamP lam_an, lamB lam_an, lamS (defScope s_take_answers) lam_an, cl, none, c⟩
theorem ns_an (q : Str) (cl : List (Str × Addr)) (c : Addr) : NScope ["word", "found"] ["word"] ["found"] (LF_an q cl c).scope := nscope_by (by show nscB _ _ _ (lamS (defScope s_take_answers) lam_an) = true; decide +kernel)
theorem nb_an : ndefB (defScope s_take_answers) (lamS (defScope s_take_answers) lam_an) ["found"] = true := by decide +kernel
def spLamAn (K : PySem.W.Frag) : List (Option V) → Sp := fun cs vs H Q _ => ∃ (a : Addr) (ys : List Str) (z : Str), cs = [some (.ref a)] ∧ vs = [.str z] ∧ SqL K H a (ys.map V.str) ∧ ys.length < 1000 ∧ (z.length ≤ 500 ∧ Asc z) ∧ ∀ H', Same H H' → Q (.bl (okNext ys z)) H'
theorem lok_an {f c : Addr} {q : Str} {cl : List (Str × Addr)} {fI fO : Addr} {fdI fdO : FuncData}
    (GI : FnOk P w K mg base CX0 2 fI fdI ["value"] spShortV) (AI : At K mg "is_answer" fI fdI ["value"])
    (GO : FnOk P w K mg base CX0 1 fO fdO ["answer", "answers"] (spOneMore K)) (AO : At K mg "is_one_more" fO fdO ["answer", "answers"]) :
    LOk P w K mg base CX0 3 f (LF_an q cl c) ["found"] (spLamAn K) := by
  refine lok_of (ns_an q cl c) (LBinds.plain rfl fun doc pm ctv us hl => match us, hl with | [_], _ => rfl) (ds := []) (.inl ⟨rfl, rfl⟩) rfl (fun ws vs H Q E h => ?_) (fun A outer s H vs ws Q E hr hf hw h => ?_)
  · obtain ⟨a, ys, z, _, rfl, _⟩ := h
    rfl
  · obtain ⟨a, ys, z, rfl, rfl, hS, hn, hz, k⟩ := h
    have h1 := hr.mono (j := 1) (by decide)
    refine ⟨_, (pe_and (pe_call GI hr (by rfl) AI.m AI.k AI.b .nil pass0 (pa_cons (pv 0) pa_nil)) (pe_one (pe_call GO h1 (by rfl) AO.m AO.k AO.b .nil pass0 (pa_cons (pv 0) (pa_cons (pv 1) pa_nil))))), ?_⟩
    refine ⟨_, rfl, a, _, rfl, ⟨.inl rfl, fun y ey => by cases ey; exact hz⟩, fun H1 s1 => ⟨_, rfl, ?_⟩⟩
    unfold okNext at k
    rw [show ansB (.str z) = ansS z from rfl]
    cases e : ansS z with
    | false =>
      rw [e] at k
      refine ite2 (fun q => nomatch q) (fun _ => k H1 s1)
    | true =>
      rw [e] at k
      refine ite2 (fun _ => ?_) (fun q => absurd rfl q)
      exact ⟨_, rfl, _, rfl, z, a, ys, rfl, sqL_sv (Sv.of s1) hS, hn, fun H2 s2 => k H2 (s1.trans s2)⟩
theorem ansAll_end {ps : List Str} {k : Nat} (h : ps[k]? = none) : ansAll (ps.drop k) k = some k := by
  rw [List.drop_eq_nil_of_le (List.getElem?_eq_none_iff.mp h)]
  rfl
theorem drop_at {ps : List Str} {k : Nat} {z : Str} (h : ps[k]? = some z) : ps.drop k = z :: ps.drop (k + 1) := by
  obtain ⟨l, e⟩ := List.getElem?_eq_some_iff.mp h
  rw [List.drop_eq_getElem_cons l, e]
theorem ansAll_at {ps : List Str} {k : Nat} {z : Str} (h : ps[k]? = some z) : ansAll (ps.drop k) k = if ansS z = true then ansW (dst [z]) (ps.drop (k + 1)) (k + 1) else some k := by
  rw [drop_at h]
  unfold ansAll
  rw [if_neg (fun q => nomatch q)]
  have := ansW_next (ys := []) (r := ps.drop (k + 1)) (w := z) (i := k)
  rw [show dst [] = [] from rfl] at this
  rw [this]
  unfold okNext
  cases ansS z <;> rfl
theorem take_more {ps : List Str} {k j : Nat} {z : Str} (h : ps[k + j]? = some z) : (ps.drop k).take j ++ [z] = (ps.drop k).take (j + 1) := by
  rw [List.take_add_one, List.getElem?_drop, h]
  rfl
/-- words of a line, as the reading wants them -/
def LnFit (ps : List Str) : Prop := ps.length ≤ 60 ∧ ∀ z ∈ ps, z.length ≤ 500 ∧ Asc z
def spTakeAns (T : List NTab) (CR CT : Addr) : Sp := fun vs H Q E => ∃ (p l0 : Addr) (ps : List Str) (k : Nat), vs = [.ref p, .non] ∧ TabsN T H ∧ RdA CR H p l0 ps k ∧ LnFit ps ∧
  (∀ i, ansAll (ps.drop k) k = some i → ∀ (H' : Hp) (d : Addr), ExP p T H H' → H' d = some (.xd (fsText [.int 1, .int ((i : Int) + 1)])) → E (.ref CT) (some d) H') ∧
  (ansAll (ps.drop k) k = none → ∀ (H' : Hp) (a : Addr), ExP p T H H' → RdA CR H' p l0 ps ps.length → H' a = some (.lst ((ps.drop k).map V.str)) → Q (.ref a) H')
theorem ok_takeAns {T : List NTab} {nm : Nat → Nat → Str} {f fT fH fI fO c PT CR CT : Addr} {fd fdT fdH fdI fdO : FuncData} (F : Fun K "take_answers" "take_answers" s_take_answers f fd) (hC : RdC K CR)
    (TB : TabB base mg c PT) (hcode : fd.code = .ref c) (hmT : (PT, nm) ∈ T) (hn : ∀ i j, nm i j = "take_answers.<locals>.<lambda>") (hu : ∀ p ∈ T, p.1 = PT → p.2 = nm)
    (GI : FnOk P w K mg base CX0 2 fI fdI ["value"] spShortV) (AI : At K mg "is_answer" fI fdI ["value"])
    (GO : FnOk P w K mg base CX0 1 fO fdO ["answer", "answers"] (spOneMore K)) (AO : At K mg "is_one_more" fO fdO ["answer", "answers"])
    (GH : FnOk P w K mg base CX0 1 fH fdH ["self"] (spAhead CR)) (bH : Binds K fdH ["self"] []) (mH : Meth K CR "ahead" fH)
    (GT : FnOkH P w K mg base CX0 (L2.CX P w) 3 5 fT fdT ["self", "is_right"] (spTake CR CT fI)) (bT : Binds K fdT ["self", "is_right"] []) (mT : Meth K CR "take" fT) :
    FnOk P w K mg base (L2.CX P w) 6 f fd ["words", "end"] (spTakeAns T CR CT) := by
  refine fun_okC F sc_take_answers (fun vs H Q E h => ?_) (fun A outer s H vs Q E hr h => ?_)
  · obtain ⟨p, l0, ps, k, rfl, _⟩ := h
    rfl
  · obtain ⟨p, l0, ps, k, rfl, hT, hR, hf, ke, kq⟩ := h
    have h_ahead := hr.mono (j := 1) (by decide)
    refine ⟨_, (pss_cons (ps_set (i := 2) sc_take_answers.nd rfl (Or.inr rfl) (pe_lst (pa_cons (pe_methH (E := E) (L := fun _ _ _ _ => False) (pv 0) hC.c mT GT take_mono (fun _ _ _ _ _ _ _ _ z => z.elim) (by exact hr) bT (passes_call (takes_of rfl rfl rfl rfl) (fun _ _ _ _ h => h)) (pa_cons (pe_gv (v := .ref fI) rfl ⟨_, AI.m, rfl⟩) pa_nil)) pa_nil)))
      (pss_cons (ps_while (passes_of rfl) (pt_cmpR op_notIn_seq (pe_meth0 (pv 0) hC.c mH GH h_ahead bH .nil pass0) (pe_tup (pa_cons pe_non (pa_cons (pv 1) pa_nil))) rfl) (pss_one (ps_expr (pe_bm PySem.F.plainAttrs_list PySem.F.slot_list_append PySem.F.type_list_append mt_append (pv 2) (pa_cons (pe_methH (E := E) (L := fun σ f F sp => ∃ c', F = LF_an ((PyProof.Rows.envOfC "take_answers" (defScope s_take_answers) s.heap.objs.size f fd.code).qual ++ "<lambda>") (cloFrom (PyProof.Rows.envOfC "take_answers" (defScope s_take_answers) s.heap.objs.size f fd.code).cells (lamS (defScope s_take_answers) lam_an).names []) c' ∧ sp = spLamAn K ([2].map (slotAt σ))) (pv 0) hC.c mT GT take_mono ?_ (by exact hr) bT (passes_call (takes_of rfl rfl rfl rfl) (fun _ _ _ _ h => h)) (pa_cons (pe_lamN (T := T) (nm := nm) TB hcode hmT ?_ hu ?_ rfl) pa_nil)) pa_nil)))))
      (pss_one (ps_ret (pv 2))))), ?_⟩
    · rintro pins σ H s I f F sp ⟨c', rfl, rfl⟩
      exact lamAt_of (lok_an GI AI GO AO) (Caps.made I.ok (ndef_free nb_an) (ndef_fr nb_an) rfl) I
    · exact (hn _ _).trans (by rfl)
    · exact ndef_free nb_an
    obtain ⟨dx, hp, hL⟩ := id hR
    have z1 : (100000 : Nat) ≤ sizeLine := by decide
    refine ⟨_, rfl, p, dx, _, rfl, hp, rfl, p, fI, l0, ps, k, (ps[k]?).map fun z => (z, ansS z), rfl, hR, (by cases ps[k]? <;> rfl), fun x hx => ?_, fun no H2 d s2 e2 => ?_, fun z e H2 k2 r2 => ?_⟩
    · cases e : ps[k]? with
      | none => rw [e] at hx; cases hx
      | some z =>
        rw [e] at hx
        cases hx
        exact ⟨hf.2 z (List.mem_of_getElem? e), .inl ⟨rfl, rfl⟩⟩
    · refine ke k ?_ H2 d ⟨fun b o _ e _ => s2 b o e, hT.ext s2⟩ e2
      cases e : ps[k]? with
      | none => exact ansAll_end e
      | some z =>
        rw [ansAll_at e, if_neg (fun q => no z (by rw [e, Option.map_some, q]))]
    cases e' : ps[k]? with
    | none => rw [e'] at e; cases e
    | some y =>
      rw [e'] at e
      have e3 := Option.some.inj e
      obtain rfl : y = z := congrArg Prod.fst e3
      have ay : ansS y = true := congrArg Prod.snd e3
      have h0 := ansAll_at e'
      rw [if_pos ay] at h0
      clear e e3
      have x2 : ExP p T H H2 := ⟨fun b o n e _ => k2 b o n e, k2.tabs hT hp⟩
      refine ⟨by show 1 ≤ sizeLine; omega, fun a ha => ?_⟩
      have s3 := Ask.Same.made1 (o := .lst [.str y]) (Same.refl H2) ha
      have e3 : upd H2 a (.lst [.str y]) a = some (.lst [.str y]) := upd_same
      have ap : a ≠ p := fun z => by obtain ⟨_, q, _⟩ := r2; rw [z, q] at ha; cases ha
      have aH : H a = none := by
        cases q : H a with
        | none => rfl
        | some o => rw [k2 a o ap q] at ha; cases ha
      generalize upd H2 a (.lst [.str y]) = H3 at s3 e3 ⊢
      have x3 : ExP p T H H3 := ⟨fun b o n e t => s3 _ _ (x2.st b o n e t), x2.tb.ext s3⟩
      have r3 := r2.same s3
      try dsimp only
      refine ⟨fun m σ' H' => ∃ j : Nat, m = 1000 - j ∧ 1 ≤ j ∧ k + j ≤ ps.length ∧ σ' = [some (.ref p), some .non, some (.ref a)] ∧ ExP p T H H' ∧ RdA CR H' p l0 ps (k + j) ∧ H' a = some (.lst (((ps.drop k).take j).map V.str)) ∧ ansAll (ps.drop k) k = ansW (dst ((ps.drop k).take j)) (ps.drop (k + j)) (k + j), ⟨_, 1, rfl, by omega, ?_, rfl, x3, r3, ?_, ?_⟩, ?_⟩
      · exact (List.getElem?_eq_some_iff.mp e').1
      · rw [drop_at e']
        exact e3
      · rw [h0, drop_at e']
        rfl
      rintro m σ' H4 ⟨j, rfl, j1, jl, rfl, x4, r4, e4, h4⟩
      obtain ⟨dx4, p4, _⟩ := id r4
      refine ⟨_, rfl, p, dx4, _, rfl, p4, rfl, p, l0, ps, k + j, rfl, r4, ?_⟩
      refine ⟨_, rfl, by show 2 ≤ sizeLine; omega, fun t ht => ?_⟩
      have s5 := Ask.Same.made1 (o := .tup [.non, .non]) (Same.refl H4) ht
      have e5 : upd H4 t (.tup [.non, .non]) t = some (.tup [.non, .non]) := upd_same
      generalize upd H4 t (.tup [.non, .non]) = H5 at s5 e5 ⊢
      have x5 : ExP p T H H5 := ⟨fun b o n e t => s5 _ _ (x4.st b o n e t), x4.tb.ext s5⟩
      have r5 := r4.same s5
      have a5 := s5 _ _ e4
      cases e6 : ps[k + j]? with
      | none =>
        have hah : ahV ps (k + j) = .non := by unfold ahV; rw [e6]
        rw [hah]
        refine ⟨t, _, rfl, .inr (SqT.of e5), rfl, rfl, _, rfl, iteF ?_⟩
        have jl' : k + j = ps.length := Nat.le_antisymm jl (List.getElem?_eq_none_iff.mp e6)
        refine ⟨_, rfl, kq ?_ H5 a x5 (jl' ▸ r5) ?_⟩
        · rw [h4, jl', List.drop_length]
          rfl
        · rw [a5, List.take_of_length_le (by rw [List.length_drop]; omega)]
      | some z =>
        have hah : ahV ps (k + j) = .str z := by unfold ahV; rw [e6]
        rw [hah]
        refine ⟨t, _, rfl, .inr (SqT.of e5), rfl, rfl, _, rfl, iteT ⟨_, fun σ' H' h => h, ?_⟩⟩
        have jlt : k + j < ps.length := (List.getElem?_eq_some_iff.mp e6).1
        obtain ⟨dx5, p5, _⟩ := id r5
        have h7 := h4
        rw [drop_at e6, ansW_next, take_more e6] at h7
        have lj : ((ps.drop k).take j).length = j := by rw [List.length_take, List.length_drop]; omega
        have l9 := hf.1
        refine ⟨_, rfl, .inl ⟨rfl, _, SqL.of a5⟩, _, rfl, p, dx5, _, rfl, p5, rfl, x5.tb, fun g c' H6 ext low T6 g0 lin => ?_⟩
        have a6 := ext _ _ a5 (fun _ z => nomatch z)
        have p6 := ext _ _ p5 (fun _ z => nomatch z)
        refine ⟨p, g, l0, ps, k + j, some (z, okNext ((ps.drop k).take j) z), rfl, r5.ext ext, e6, fun x hx => ?_, fun no H7 d s7 e7 => ?_, fun z' e H7 k7 r7 => ?_⟩
        · cases hx
          exact ⟨hf.2 z (List.mem_of_getElem? e6), .inr ⟨_, _, ⟨c', rfl, rfl⟩, lin, fun H7 Q' E' s7 kk => ⟨a, _, z, rfl, rfl, SqL.of (s7 _ _ a6), by rw [lj]; omega, hf.2 z (List.mem_of_getElem? e6), kk⟩⟩⟩
        · refine ke (k + j) ?_ H7 d ⟨fun b o n e t => s7 _ _ (ext _ _ (x5.st b o n e t) t), T6.ext s7⟩ e7
          rw [h7, if_neg (fun q => no z (by rw [q]))]
        · have ok : okNext ((ps.drop k).take j) z = true := congrArg Prod.snd (Option.some.inj e)
          obtain rfl : z = z' := congrArg Prod.fst (Option.some.inj e)
          rw [if_pos ok] at h7
          have a7 := k7 _ _ ap a6
          obtain ⟨dx7, p7, q7⟩ := id r7
          refine ⟨a, _, _, rfl, rfl, a7, by rw [List.length_map, lj]; omega, _, ?_, j + 1, rfl, by omega, by omega, rfl, ?_, ?_, ?_, ?_⟩
          · omega
          · refine ⟨fun b o n e t => ?_, ?_⟩
            · rw [upd_ne (ne_of_none e aH)]
              exact k7 _ _ n (ext _ _ (x5.st b o n e t) t)
            · have T7 := But.tabs T6 p6 k7
              rintro ⟨P1, nm1⟩ h1
              obtain ⟨us, u1, u2, u3⟩ := T7 _ h1
              refine ⟨us, by rw [upd_ne (ne_of u1 a7 (fun z => nomatch z))]; exact u1, u2, fun p1 v1 among => ?_⟩
              obtain ⟨d, d1, d2⟩ := u3 p1 v1 among
              exact ⟨d, d1, by rw [upd_ne (ne_of d2 a7 (fun z => by unfold CodeO at z; cases z))]; exact d2⟩
          · refine ⟨dx7, by rw [upd_ne ap.symm]; exact p7, ?_⟩
            rw [upd_ne (fun z => by have := hL; rw [z, aH] at this; cases this)]
            exact q7
          · rw [upd_same, ← take_more e6, List.map_append]
            rfl
          · exact h7
end
end Ask

namespace Ask
open PySem L2
/-! ### what take_item does with a line -/
def secT (ws : List Str) (k x : Str) : List Str → Option Nat
  | [] => some 2
  | y :: _ => if y ∈ ws ∧ ¬ (k = "alike" ∧ y = x) then none else some 2
def firT (ws : List Str) (k : Str) : List Str → Option Nat
  | [] => some 1
  | x :: q => if x ∈ ws then (if k ∈ LK then none else secT ws k x q) else some 1
def itemT (ws : List Str) : List Str → Option Nat
  | [] => some 0
  | k :: r => if k ∈ LM then (if k = "behind" then behW ws r else ansAll r 1) else if k ∈ KL then firT ws k r else some 0
/-- how many words are taken then -/
def cntT (ps : List Str) : Nat := match ps with
  | [] => 0
  | k :: r => if k ∈ LM then ps.length else if k ∈ LK then 2 else 3
theorem item_two (ws ps : List Str) : itemW ws ps = match itemT ws ps with
    | some i => some i
    | none => if cntT ps = ps.length then none else some (cntT ps) := by
  cases ps with
  | nil => rfl
  | cons k r =>
    unfold itemW itemT
    dsimp only
    by_cases a : k ∈ LM
    · rw [if_pos a, if_pos a]
      have c : cntT (k :: r) = (k :: r).length := by unfold cntT; dsimp only; rw [if_pos a]
      rw [c, if_pos rfl]
      cases (if k = "behind" then behW ws r else ansAll r 1) <;> rfl
    · rw [if_neg a, if_neg a]
      by_cases b : k ∈ KL
      · rw [if_pos b, if_pos b]
        have c : cntT (k :: r) = if k ∈ LK then 2 else 3 := by unfold cntT; dsimp only; rw [if_neg a]
        rw [c]
        unfold firW firT
        cases r with
        | nil => rfl
        | cons x q =>
          dsimp only
          by_cases d : x ∈ ws
          · rw [if_pos d, if_pos d]
            by_cases e : k ∈ LK
            · rw [if_pos e, if_pos e, if_pos e]
              dsimp only
              cases q with
              | nil => rfl
              | cons y t =>
                rw [if_neg (fun z => nomatch z), if_neg (fun z => by simp only [List.length_cons] at z; omega)]
            · rw [if_neg e, if_neg e, if_neg e]
              unfold secW secT
              cases q with
              | nil => rfl
              | cons y t =>
                dsimp only
                by_cases g : y ∈ ws ∧ ¬ (k = "alike" ∧ y = x)
                · rw [if_pos g, if_pos g]
                  dsimp only
                  cases t with
                  | nil => rfl
                  | cons u v => rw [if_neg (fun z => nomatch z), if_neg (fun z => by simp only [List.length_cons] at z; omega)]
                · rw [if_neg g, if_neg g]
          · rw [if_neg d, if_neg d]
      · rw [if_neg b, if_neg b]
/-! ### items -/
inductive Itn where
  | sen (k x : Str) (s : V)
  | lim (k : Str) (lt : V) (ks : List Str)
def ItmAt (K : PySem.W.Frag) (CL CS CI : Addr) (H : Hp) (q : Addr) (ws : List Str) : Itn → Prop
  | .sen k x s => SenAt K CL CS H q ws k x s
  | .lim k lt ks => LimAt K CL CI H q ws k lt ks
def scdV (k : Str) (q : List Str) : V := if k ∈ LK then .non else match q with
  | y :: _ => .str y
  | [] => .non
def ltL (k : Str) (r : List Str) : V := if k = "behind" then (match r with
  | x :: _ => .str x
  | [] => .non) else .non
def ansL (k : Str) (r : List Str) : List Str := if k = "behind" then r.drop 1 else r
/-- the item that the words say -/
def ItmOf (ws ps : List Str) (it : Itn) : Prop := ∃ k r, ps = k :: r ∧ ((k ∈ KL ∧ ∃ x q k' x' s', r = x :: q ∧ nfT ws k x (scdV k q) = [.str k', .str x', s'] ∧ it = .sen k' x' s') ∨ (k ∈ LM ∧ ∃ ks, it = .lim k (ltL k r) ks ∧ SetOfS (ansL k r) ks))
theorem three_inj {a b c d : Str} {s t : V} (h : ([.str a, .str b, s] : List V) = [.str c, .str d, t]) : a = c ∧ b = d ∧ s = t := by
  injection h with h1 h2
  injection h2 with h2 h3
  injection h3 with h3 _
  exact ⟨V.str.inj h1, V.str.inj h2, h3⟩
theorem itmOf_one {ws ps : List Str} {a b : Itn} (h : ItmOf ws ps a) (g : ItmOf ws ps b) : a = b := by
  obtain ⟨k, r, rfl, h⟩ := h
  obtain ⟨k2, r2, e, g⟩ := g
  cases e
  rcases h with ⟨hk, x, q, k', x', s', rfl, e1, rfl⟩ | ⟨hk, ks, rfl, so⟩
  · rcases g with ⟨_, y, t, l', y', u', e2, e3, rfl⟩ | ⟨gk, _⟩
    · cases e2
      obtain ⟨rfl, rfl, rfl⟩ := three_inj (e1.symm.trans e3)
      rfl
    · exact absurd gk (kl_lm k hk)
  · rcases g with ⟨gk, _⟩ | ⟨_, js, rfl, so2⟩
    · exact absurd hk (kl_lm k gk)
    · rw [setOf_one so so2]
/-- a sentence's one form is its own -/
theorem nfT_again {ys : List Str} {k x k' x' : Str} {s s' : V} (h : nfT ys k x s = [.str k', .str x', s']) : nfT ys k' x' s' = [.str k', .str x', s'] := by
  unfold nfT at h
  by_cases a : k = "over" ∧ V.str x = s
  · rw [if_pos a] at h
    obtain ⟨rfl, rfl, rfl⟩ := three_inj h
    unfold nfT
    rw [if_neg (fun z => absurd z.1 (by decide)), if_neg (fun z => absurd z.1 (by decide))]
  · rw [if_neg a] at h
    by_cases b : k = "alike" ∧ ahead ys x s = true
    · rw [if_pos b] at h
      obtain ⟨rfl, hb⟩ := b
      cases s with
      | str y =>
        obtain ⟨rfl, rfl, rfl⟩ := three_inj h
        unfold nfT
        rw [if_neg (fun z => absurd z.1 (by decide)), if_neg (fun z => ?_)]
        have h1 := of_decide_eq_true hb
        have h2 := of_decide_eq_true z.2
        omega
      | _ => cases h
    · rw [if_neg b] at h
      obtain ⟨rfl, rfl, rfl⟩ := three_inj h
      unfold nfT
      rw [if_neg a, if_neg b]
/-- the words of an item -/
def wordsI : Itn → List Str
  | .sen k x s => wordsS k x s
  | .lim k lt ks => wordsL k lt ks
/-- what an item's parts are -/
inductive ItmOk (ws : List Str) : Itn → Prop where
  | sen {k x : Str} {s : V} (hk : k ∈ KL) (hx : x ∈ ws) (hs : SOk ws k s) (na : ¬ (k = "alike" ∧ V.str x = s)) (nf : nfT ws k x s = [.str k, .str x, s]) : ItmOk ws (.sen k x s)
  | lim {k : Str} {lt : V} {ks : List Str} (hk : k ∈ LM) (due : dueB ws (.str k) lt = true) (ne : ks ≠ []) (ok : ∀ z ∈ ks, ansS z = true) (le : ks.length ≤ 6) (so : SetOfS ks ks) : ItmOk ws (.lim k lt ks)
theorem dst_le {ys ks : List Str} (h : ∀ z ∈ ys, z ∈ ks) : (dst ys).length ≤ ks.length := by
  obtain ⟨a, b⟩ := dst_ok ys
  exact dst_len.sub_le _ _ a fun z hz => h z ((b z).mp hz)
/-- answers of at most six different ones are right -/
theorem ansW_ok : ∀ {l ys : List Str} {ks : List Str} {i : Nat}, (∀ z ∈ l, ansS z = true ∧ z ∈ ks) → (∀ z ∈ ys, z ∈ ks) → ks.length ≤ 6 → ansW (dst ys) l i = none
  | [], _, _, _, _, _, _ => rfl
  | w :: r, ys, ks, i, h, hy, l6 => by
    rw [ansW_next]
    have ok : okNext ys w = true := by
      unfold okNext
      rw [(h w List.mem_cons_self).1, Bool.true_and]
      by_cases m : w ∈ ys
      · rw [decide_eq_true m]
        rfl
      · have : (dst (ys ++ [w])).length ≤ ks.length := dst_le fun z hz => (List.mem_append.mp hz).elim (hy z) fun e => by rw [List.mem_singleton.mp e]; exact (h w List.mem_cons_self).2
        rw [dst_snoc, if_neg (fun z => m (((dst_ok ys).2 w).mp z)), List.length_append] at this
        have : (dst ys).length + 1 ≤ ks.length := this
        rw [decide_eq_true (show (dst ys).length < 6 by omega), Bool.or_true]
    rw [if_pos ok]
    exact ansW_ok (fun z hz => h z (List.mem_cons_of_mem _ hz)) (fun z hz => (List.mem_append.mp hz).elim (hy z) fun e => by rw [List.mem_singleton.mp e]; exact (h w List.mem_cons_self).2) l6
theorem ansAll_ok {l ks : List Str} {i : Nat} (h : ∀ z ∈ l, ansS z = true ∧ z ∈ ks) (ne : l ≠ []) (l6 : ks.length ≤ 6) : ansAll l i = none := by
  unfold ansAll
  rw [if_neg ne]
  exact ansW_ok (ys := []) h (fun z hz => absurd hz List.not_mem_nil) l6
theorem lk_kl : ∀ k ∈ LK, k ∈ KL ∧ k ≠ "alike" := by
  unfold LK KL
  decide +kernel
theorem due_behind {ws : List Str} {lt : V} (h : dueB ws (.str "behind") lt = true) : ∃ y, lt = .str y ∧ y ∈ ws := by
  unfold dueB at h
  rw [if_pos rfl] at h
  exact inB_some h
theorem due_else {ws : List Str} {k : Str} {lt : V} (n : k ≠ "behind") (h : dueB ws (.str k) lt = true) : lt = .non := by
  unfold dueB at h
  rw [if_neg (fun z => n (V.str.inj z))] at h
  cases lt <;> first | rfl | cases h
/-- the words that a limit may be told by: the kind, the letter, its answers in any order and more than once -/
theorem lim_line {ws : List Str} {k : Str} {lt : V} {ks js : List Str} (hk : k ∈ LM) (due : dueB ws (.str k) lt = true) (ne : js ≠ []) (ok : ∀ z ∈ ks, ansS z = true) (le : ks.length ≤ 6) (so : SetOfS js ks) : itemW ws (wordsL k lt js) = none ∧ ItmOf ws (wordsL k lt js) (.lim k lt ks) := by
  have hj : ∀ z ∈ js, ansS z = true ∧ z ∈ ks := fun z hz => ⟨ok z ((so.2.2 z).mpr hz), (so.2.2 z).mpr hz⟩
  by_cases b : k = "behind"
  · subst b
    obtain ⟨y, rfl, hy⟩ := due_behind due
    show itemW ws ("behind" :: y :: js) = none ∧ ItmOf ws ("behind" :: y :: js) _
    refine ⟨?_, "behind", y :: js, rfl, .inr ⟨hk, ks, rfl, so⟩⟩
    unfold itemW
    dsimp only
    rw [if_pos hk, if_pos rfl]
    unfold behW
    dsimp only
    rw [if_pos hy]
    exact ansAll_ok hj ne le
  · obtain rfl := due_else b due
    show itemW ws (k :: js) = none ∧ ItmOf ws (k :: js) _
    refine ⟨?_, k, js, rfl, .inr ⟨hk, ks, ?_, ?_⟩⟩
    · unfold itemW
      dsimp only
      rw [if_pos hk, if_neg b]
      exact ansAll_ok hj ne le
    · unfold ltL
      rw [if_neg b]
    · unfold ansL
      rw [if_neg b]
      exact so
theorem item_line {ws : List Str} {it : Itn} (h : ItmOk ws it) : itemW ws (wordsI it) = none ∧ ItmOf ws (wordsI it) it := by
  cases h with
  | lim hk due ne ok le so => exact lim_line hk due ne ok le so
  | @sen k x s hk hx hs na nf =>
    by_cases l : k ∈ LK
    · obtain rfl := hs.2 l
      show itemW ws [k, x] = none ∧ ItmOf ws [k, x] _
      refine ⟨?_, k, [x], rfl, .inl ⟨hk, x, [], k, x, .non, rfl, ?_, rfl⟩⟩
      · unfold itemW
        dsimp only
        rw [if_neg (kl_lm k hk), if_pos hk]
        unfold firW
        dsimp only
        rw [if_pos hx, if_pos l, if_pos rfl]
      · rw [show scdV k [] = .non from by unfold scdV; rw [if_pos l]]
        exact nf
    · obtain ⟨y, rfl, hy⟩ := hs.1 l
      show itemW ws [k, x, y] = none ∧ ItmOf ws [k, x, y] _
      refine ⟨?_, k, [x, y], rfl, .inl ⟨hk, x, [y], k, x, .str y, rfl, ?_, rfl⟩⟩
      · unfold itemW
        dsimp only
        rw [if_neg (kl_lm k hk), if_pos hk]
        unfold firW
        dsimp only
        rw [if_pos hx, if_neg l]
        unfold secW
        dsimp only
        rw [if_pos ⟨hy, fun z => na ⟨z.1, by rw [z.2]⟩⟩, if_pos rfl]
      · rw [show scdV k [y] = .str y from by unfold scdV; rw [if_neg l]]
        exact nf
theorem dr_na {ys : List Str} {k x k' x' : Str} {s s' : V} (na : ¬ (k = "alike" ∧ V.str x = s)) (h : nfT ys k x s = [.str k', .str x', s']) : ¬ (k' = "alike" ∧ V.str x' = s') := by
  unfold nfT at h
  by_cases a : k = "over" ∧ V.str x = s
  · rw [if_pos a] at h
    obtain ⟨rfl, _, _⟩ := three_inj h
    exact fun z => absurd z.1 (by decide)
  · rw [if_neg a] at h
    by_cases b : k = "alike" ∧ ahead ys x s = true
    · rw [if_pos b] at h
      cases s with
      | str y =>
        obtain ⟨rfl, rfl, rfl⟩ := three_inj h
        exact fun z => na ⟨z.1, by rw [V.str.inj z.2]⟩
      | _ => cases h
    · rw [if_neg b] at h
      obtain ⟨rfl, rfl, rfl⟩ := three_inj h
      exact na
theorem ansAll_none {l : List Str} {i : Nat} (h : ansAll l i = none) : l ≠ [] ∧ (∀ z ∈ l, ansS z = true) ∧ (dst l).length ≤ 6 := by
  unfold ansAll at h
  by_cases e : l = []
  · rw [if_pos e] at h; cases h
  · rw [if_neg e] at h
    exact ⟨e, ansW_none h, ansW_few (ys := []) h (Nat.zero_le _)⟩
theorem sets_ok {l ks : List Str} {i : Nat} (h : ansAll l i = none) (so : SetOfS l ks) : ks ≠ [] ∧ (∀ z ∈ ks, ansS z = true) ∧ ks.length ≤ 6 ∧ SetOfS ks ks := by
  obtain ⟨a, b, c⟩ := ansAll_none h
  refine ⟨fun e => ?_, fun z hz => b z ((so.2.2 z).mp hz), by rw [dst_len so]; exact c, so.1, so.2.1, fun z => Iff.rfl⟩
  cases l with
  | nil => exact a rfl
  | cons w r => have := (so.2.2 w).mpr List.mem_cons_self; rw [e] at this; cases this
theorem dr_line {ws r : List Str} {k : Str} (hk : k ∈ KL) (h : firT ws k r = none) : ∃ x q, r = x :: q ∧ DrOk ws k x (scdV k q) ∧ (k ∉ LK → ∃ y t, q = y :: t) := by
  unfold firT at h
  cases r with
  | nil => cases h
  | cons x q =>
    dsimp only at h
    by_cases d : x ∈ ws
    · rw [if_pos d] at h
      refine ⟨x, q, rfl, ?_⟩
      by_cases e : k ∈ LK
      · rw [show scdV k q = .non from by unfold scdV; rw [if_pos e]]
        exact ⟨.lone e hk d, fun z => absurd e z⟩
      · rw [if_neg e] at h
        unfold secT at h
        cases q with
        | nil => cases h
        | cons y t =>
          dsimp only at h
          by_cases g : y ∈ ws ∧ ¬ (k = "alike" ∧ y = x)
          · rw [show scdV k (y :: t) = .str y from by unfold scdV; rw [if_neg e]]
            exact ⟨.two e hk d g.1 fun z => g.2 ⟨z.1, z.2.symm⟩, fun _ => ⟨y, t, rfl⟩⟩
          · rw [if_neg g] at h; cases h
    · rw [if_neg d] at h; cases h
theorem itmOf_ok {ws ps : List Str} {it : Itn} (h : itemT ws ps = none) (o : ItmOf ws ps it) : ItmOk ws it := by
  obtain ⟨k, r, rfl, o⟩ := o
  unfold itemT at h
  dsimp only at h
  rcases o with ⟨hk, x, q, k', x', s', rfl, nf, rfl⟩ | ⟨hk, ks, rfl, so⟩
  · rw [if_neg (kl_lm k hk), if_pos hk] at h
    obtain ⟨x2, q2, e, dr, _⟩ := dr_line hk h
    cases e
    obtain ⟨k2, x2, s2, e, a, b, c⟩ := dr.nf
    obtain ⟨rfl, rfl, rfl⟩ := three_inj (nf.symm.trans e)
    exact .sen a b c (dr_na dr.2.2.2 nf) (nfT_again nf)
  · rw [if_pos hk] at h
    by_cases b : k = "behind"
    · rw [if_pos b] at h
      unfold behW at h
      cases r with
      | nil => cases h
      | cons x q =>
        dsimp only at h
        by_cases d : x ∈ ws
        · rw [if_pos d] at h
          rw [show ansL k (x :: q) = q from by unfold ansL; rw [if_pos b]; rfl] at so
          obtain ⟨a1, a2, a3, a4⟩ := sets_ok h so
          refine .lim hk ?_ a1 a2 a3 a4
          unfold dueB ltL
          rw [if_pos b, if_pos (by rw [b])]
          exact decide_eq_true d
        · rw [if_neg d] at h; cases h
    · rw [if_neg b] at h
      rw [show ansL k r = r from by unfold ansL; rw [if_neg b]] at so
      obtain ⟨a1, a2, a3, a4⟩ := sets_ok h so
      refine .lim hk ?_ a1 a2 a3 a4
      unfold dueB ltL
      rw [if_neg b, if_neg (fun z => b (V.str.inj z))]
      rfl
end Ask

namespace Ask
open PySem L2 LamX NdefX
theorem ExP.ext {p : Addr} {T : List NTab} {H H1 H2 : Hp} (a : ExP p T H H1) (e : ExtN H1 H2) (hT : TabsN T H2) : ExP p T H H2 := ⟨fun c o n q t => e _ _ (a.st c o n q t) t, hT⟩
theorem ExP.same {p : Addr} {T : List NTab} {H H1 H2 : Hp} (a : ExP p T H H1) (e : Same H1 H2) : ExP p T H H2 := ⟨fun c o n q t => e _ _ (a.st c o n q t), a.tb.ext e⟩
section
variable {P : Program} {w : World} {K : PySem.W.Frag} {mg : Str → Option Value} {base : Heap}
def spFinish (CR CT : Addr) : Sp := fun vs H Q E => ∃ (p l0 : Addr) (ps : List Str) (k : Nat), vs = [.ref p] ∧ RdA CR H p l0 ps k ∧ (ps[k]? = none → Q .non H) ∧
  (ps[k]? ≠ none → ∀ (H' : Hp) (d : Addr), Same H H' → H' d = some (.xd (fsText [.int 1, .int ((k : Int) + 1)])) → E (.ref CT) (some d) H')
abbrev s_LineReader_finish : Stmt := inClass (top 58) 5
theorem sc_LineReader_finish : FnScope ["self"] ["self"] (defScope s_LineReader_finish) := ⟨rfl, rfl, rfl, by decide +kernel, rfl, by decide +kernel, by decide +kernel⟩
theorem ok_finish {f fH fR CR CT : Addr} {fd fdH fdR : FuncData} (F : Fun K "finish" "LineReader.finish" s_LineReader_finish f fd) (hC : RdC K CR)
    (GH : FnOk P w K mg base CX0 1 fH fdH ["self"] (spAhead CR)) (bH : Binds K fdH ["self"] []) (mH : Meth K CR "ahead" fH)
    (GR : FnOk P w K mg base (L2.CX P w) 4 fR fdR ["self"] (spRefuse CR CT)) (bR : Binds K fdR ["self"] []) (mR : Meth K CR "refuse" fR) :
    FnOk P w K mg base (L2.CX P w) 5 f fd ["self"] (spFinish CR CT) := by
  refine F.okX sc_LineReader_finish (fun vs H Q E h => ?_) (fun cdv A outer s H vs Q E hr h => ?_)
  · obtain ⟨p, l0, ps, k, rfl, _⟩ := h
    rfl
  · obtain ⟨p, l0, ps, k, rfl, hR, kq, ke⟩ := h
    have h_ahead := hr.mono (j := 1) (by decide)
    have h_refuse := hr.mono (j := 4) (by decide)
    refine ⟨_, (pss_one (ps_if (pt_cmpR op_notN (pe_meth0 (pv 0) hC.c mH GH h_ahead bH .nil pass0) pe_non (nomark _)) (pss_one (ps_expr (pe_meth0 (E := E) (pv 0) hC.c mR GR h_refuse bR .nil (passes_call (takes_of rfl rfl rfl rfl) (fun _ _ _ _ h => h))))) pss_nil)), ?_⟩
    obtain ⟨dx, hp, _⟩ := id hR
    refine ⟨_, rfl, p, dx, _, rfl, hp, rfl, p, l0, ps, k, rfl, hR, rfl, _, rfl, ?_⟩
    unfold ahV
    cases e : ps[k]? with
    | none => exact iteF (kq e)
    | some z => exact iteT ⟨_, rfl, p, dx, _, rfl, hp, rfl, p, l0, ps, k, rfl, hR, ke (by rw [e]; exact fun z => nomatch z)⟩
abbrev s_take_item : Stmt := top 60
theorem sc_take_item : FnScope ["words", "letters", "kind", "letter", "first", "second"] ["words", "letters"] (defScope s_take_item) := ⟨rfl, rfl, rfl, by decide +kernel, rfl, by decide +kernel, by decide +kernel⟩
abbrev lam_it : Expr := argN 0 (stE1 ((defBody s_take_item).getD 4 (.Pass ⟨0, 0, 0, 0⟩)))
abbrev LF_it (q : Str) (cl : List (Str × Addr)) (c : Addr) : LF := ⟨q, lamP lam_it, lamB lam_it, lamS (defScope s_take_item) lam_it, cl, none, c⟩
theorem ns_it (q : Str) (cl : List (Str × Addr)) (c : Addr) : NScope ["word", "letters", "kind", "first"] ["word"] ["letters", "kind", "first"] (LF_it q cl c).scope := nscope_by (by show nscB _ _ _ (lamS (defScope s_take_item) lam_it) = true; decide +kernel)
theorem nb_it : ndefB (defScope s_take_item) (lamS (defScope s_take_item) lam_it) ["letters", "kind", "first"] = true := by decide +kernel
def spLamIt (CL : Addr) : List (Option V) → Sp := fun cs vs H Q _ => ∃ (m t : Addr) (ws : List Str) (k x z : Str), cs = [some (.ref m), some (.str k), some (.str x)] ∧ vs = [.str z] ∧ Mde CL H m t ws ∧ Q (.bl (decide (z ∈ ws) && !(decide (k = "alike") && decide (z = x)))) H
theorem lok_it {f c : Addr} {q : Str} {cl : List (Str × Addr)} {fH CL : Addr} {fdH : FuncData}
    (GH : FnOk P w K mg base CX0 1 fH fdH ["self", "x"] (spHas CL)) (bH : Binds K fdH ["self", "x"] []) (hH : PySem.W.findIn K (.ref CL) "__contains__" = some (some (.ref fH))) (iH : PySem.W.isFn K (.ref fH) = true) :
    LOk P w K mg base CX0 3 f (LF_it q cl c) ["letters", "kind", "first"] (spLamIt CL) := by
  refine lok_of (ns_it q cl c) (LBinds.plain rfl fun doc pm ctv us hl => match us, hl with | [_], _ => rfl) (ds := []) (.inl ⟨rfl, rfl⟩) rfl (fun ws vs H Q E h => ?_) (fun A outer s H vs ws Q E hr hf hw h => ?_)
  · obtain ⟨m, t, ws, k, x, z, _, rfl, _⟩ := h
    rfl
  · obtain ⟨m, t, ws, k, x, z, rfl, rfl, hM, kq⟩ := h
    have h1 := hr.mono (j := 1) (by decide)
    refine ⟨_, (pe_and (pe_cmpR (op_inI (C := CL) (E := E0) GH h1 bH pass0 hH iH) (pv 0) (pv 1) rfl) (pe_one (pe_or (pe_cmpR op_ne (pv 2) pe_str (nomark _)) (pe_one (pe_cmpR op_ne (pv 0) (pv 3) (nomark _)))))), ?_⟩
    obtain ⟨dx, ob, m1, _⟩ := id hM
    refine ⟨_, rfl, _, rfl, m, dx, _, rfl, m1, m, t, ws, _, _, rfl, hM, Val.inw (p := m) (.inl rfl) ws, _, rfl, ?_⟩
    rw [show (if false = true then !inB ws (.str z) else inB ws (.str z)) = decide (z ∈ ws) from rfl]
    refine ⟨_, rfl, ?_⟩
    by_cases a : z ∈ ws
    · rw [decide_eq_true a] at kq ⊢
      refine iteT ⟨_, rfl, rfl, _, rfl, ?_⟩
      by_cases b : k = "alike"
      · subst b
        refine iteF ?_
        refine ⟨_, rfl, _, rfl, rfl, ?_⟩
        have e : decide (V.str z = V.str x) = decide (z = x) := decide_eq_decide.mpr ⟨fun q => V.str.inj q, fun q => by rw [q]⟩
        show Q (.bl (!decide (V.str z = V.str x))) H
        rw [e]
        exact kq
      · rw [show decide (V.str k = V.str "alike") = false from decide_eq_false fun q => b (V.str.inj q)]
        rw [decide_eq_false b] at kq
        exact iteT kq
    · rw [decide_eq_false a] at kq ⊢
      exact iteF kq
def spTakeItem (T : List NTab) (K : PySem.W.Frag) (CR CL CS CI CT : Addr) : Sp := fun vs H Q E => ∃ (p l0 m t : Addr) (ps ws : List Str), vs = [.ref p, .ref m] ∧ TabsN T H ∧ RdA CR H p l0 ps 0 ∧ LnFit ps ∧ Mde CL H m t ws ∧ ws.Nodup ∧
  (∀ i, itemT ws ps = some i → ∀ (H' : Hp) (d : Addr), ExP p T H H' → H' d = some (.xd (fsText [.int 1, .int ((i : Int) + 1)])) → E (.ref CT) (some d) H') ∧
  (itemT ws ps = none → ∀ (H' : Hp) (q : Addr) (it : Itn), ExP p T H H' → RdA CR H' p l0 ps (cntT ps) → ItmOf ws ps it → ItmAt K CL CS CI H' q ws it → Q (.ref q) H')
theorem ok_takeItem {T : List NTab} {nm : Nat → Nat → Str} {f fT fOn fA fH fI fS fI2 c PT CR CL CS CI CT CB CK CA CM CN tJ : Addr} {uJ uN : Value} {fd fdT fdOn fdA fdH fdI fdS : FuncData} (F : Fun K "take_item" "take_item" s_take_item f fd) (hC : RdC K CR) (Gk : GvK K mg)
    (mJ : mg "LIMIT_KINDS" = some uJ) (rJ : RelV (.ref tJ) uJ) (sJ : ∀ H, SqT K H tJ (LM.map V.str))
    (TB : TabB base mg c PT) (hcode : fd.code = .ref c) (hmT : (PT, nm) ∈ T) (hn : ∀ i j, nm i j = "take_item.<locals>.<lambda>") (hu : ∀ p ∈ T, p.1 = PT → p.2 = nm)
    (GH : FnOk P w K mg base CX0 1 fH fdH ["self", "x"] (spHas CL)) (bH : Binds K fdH ["self", "x"] []) (hH : PySem.W.findIn K (.ref CL) "__contains__" = some (some (.ref fH))) (iH : PySem.W.isFn K (.ref fH) = true)
    (GOn : FnOk P w K mg base (L2.CX P w) 6 fOn fdOn ["self", "words"] (spTakeOne T K CR CL CT)) (bOn : Binds K fdOn ["self", "words"] []) (mOn : Meth K CR "take_one_of" fOn)
    (GT : FnOkH P w K mg base CX0 (L2.CX P w) 3 5 fT fdT ["self", "is_right"] (spTake CR CT fI2)) (bT : Binds K fdT ["self", "is_right"] []) (mT : Meth K CR "take" fT)
    (G_take_answers : FnOk P w K mg base (L2.CX P w) 6 fA fdA ["words", "end"] (spTakeAns T CR CT)) (A_take_answers : At K mg "take_answers" fA fdA ["words", "end"])
    (MI : Mk K CI fI) (mI : mg "Limit" = some (.ref CI)) (bI : Binds K fdI ["self", "letters", "kind", "answers", "letter"] []) (GI : FnOk P w K mg base (L2.CX P w) 5 fI fdI ["self", "letters", "kind", "answers", "letter"] (spLim K CL CI CK CA CM CB))
    (MS : Mk K CS fS) (mS : mg "Sentence" = some (.ref CS)) (bS : Binds K fdS ["self", "letters", "kind", "first", "second"] []) (ruS : RelV .non uN) (bS0 : Binds K fdS ["self", "letters", "kind", "first", "second"] [uN]) (GS : FnOk P w K mg base (L2.CX P w) 7 fS fdS ["self", "letters", "kind", "first", "second"] (spSen K CL CS CK CB CN)) :
    FnOk P w K mg base (L2.CX P w) 9 f fd ["words", "letters"] (spTakeItem T K CR CL CS CI CT) := by
  obtain ⟨tK, uK, mK, rK, sK⟩ := Gk.kinds
  obtain ⟨tO, uO, mO, rO, sO⟩ := Gk.lone
  refine fun_okC F sc_take_item (fun vs H Q E h => ?_) (fun A outer s H vs Q E hr h => ?_)
  · obtain ⟨p, l0, m, t, ps, ws, rfl, _⟩ := h
    rfl
  · obtain ⟨p, l0, m, t, ps, ws, rfl, hT, hR, hf, hM, nd, ke, kq⟩ := h
    have h_on := hr.mono (j := 6) (by decide)
    have h_take_answers := hr.mono (j := 6) (by decide)
    have h_take := hr.mono (j := 5) (by decide)
    have h_lim := hr.mono (j := 6) (by decide)
    have h_sen := hr.mono (j := 8) (by decide)
    have z1 : (100000 : Nat) ≤ sizeLine := by decide
    refine ⟨_, (pss_cons (ps_set (i := 2) sc_take_item.nd rfl (Or.inr rfl) (pe_meth (E := E) (pv 0) hC.c mOn GOn h_on bOn .nil (passes_call (takes_of rfl rfl rfl rfl) (fun _ _ _ _ h => h)) (pa_cons (pe_op op_catA (pe_gv (v := .ref tK) rfl ⟨uK, mK, rK⟩) (pe_gv (v := .ref tJ) rfl ⟨uJ, mJ, rJ⟩)) pa_nil)))
      (pss_cons (ps_if (pt_cmpR op_in_seq (pv 2) (pe_gv (v := .ref tJ) rfl ⟨uJ, mJ, rJ⟩) rfl) (pss_cons (ps_set (i := 3) sc_take_item.nd rfl (Or.inl rfl) (pe_ifExp (pt_cmpR op_eq (pv 2) pe_str (nomark _)) (pe_meth (E := E) (pv 0) hC.c mOn GOn h_on bOn .nil (passes_call (takes_of rfl rfl rfl rfl) (fun _ _ _ _ h => h)) (pa_cons (pv 1) pa_nil)) pe_non))
      (pss_one (ps_ret (pe_make MI GI h_lim (by rfl) mI bI .nil passE (pa_cons (pv 1) (pa_cons (pv 2) (pa_cons (pe_call G_take_answers (by exact h_take_answers) (by rfl) A_take_answers.m A_take_answers.k A_take_answers.b .nil (passes_call (E := E) (takes_of rfl rfl rfl rfl) (fun _ _ _ _ h => h)) (pa_cons (pv 0) (pa_cons pe_non pa_nil))) (pa_cons (pv 3) pa_nil)))))))) pss_nil)
      (pss_cons (ps_set (i := 4) sc_take_item.nd rfl (Or.inr rfl) (pe_meth (E := E) (pv 0) hC.c mOn GOn h_on bOn .nil (passes_call (takes_of rfl rfl rfl rfl) (fun _ _ _ _ h => h)) (pa_cons (pv 1) pa_nil)))
      (pss_cons (ps_if (pt_cmpR op_in_seq (pv 2) (pe_gv (v := .ref tO) rfl ⟨uO, mO, rO⟩) rfl) (pss_one (ps_ret (pe_make MS GS h_sen (by rfl) mS bS0 (.cons ruS .nil) passE (pa_cons (pv 1) (pa_cons (pv 2) (pa_cons (pv 4) pa_nil)))))) pss_nil)
      (pss_cons (ps_set (i := 5) sc_take_item.nd rfl (Or.inl rfl) (pe_methH (E := E) (L := fun σ f F sp => ∃ c', F = LF_it ((PyProof.Rows.envOfC "take_item" (defScope s_take_item) s.heap.objs.size f fd.code).qual ++ "<lambda>") (cloFrom (PyProof.Rows.envOfC "take_item" (defScope s_take_item) s.heap.objs.size f fd.code).cells (lamS (defScope s_take_item) lam_it).names []) c' ∧ sp = spLamIt CL ([1, 2, 4].map (slotAt σ))) (pv 0) hC.c mT GT take_mono ?_ (by exact h_take) bT (passes_call (takes_of rfl rfl rfl rfl) (fun _ _ _ _ h => h)) (pa_cons (pe_lamN (T := T) (nm := nm) TB hcode hmT ?_ hu ?_ rfl) pa_nil)))
      (pss_one (ps_ret (pe_make MS GS h_sen (by rfl) mS bS .nil passE (pa_cons (pv 1) (pa_cons (pv 2) (pa_cons (pv 4) (pa_cons (pv 5) pa_nil)))))))))))), ?_⟩
    · rintro pins σ H s I f F sp ⟨c', rfl, rfl⟩
      exact lamAt_of (lok_it GH bH hH iH) (Caps.made I.ok (ndef_free nb_it) (ndef_fr nb_it) rfl) I
    · exact (hn _ _).trans (by rfl)
    · exact ndef_free nb_it
    obtain ⟨dx, hp, hL⟩ := id hR
    refine ⟨_, rfl, p, dx, _, rfl, hp, rfl, tK, tJ, KL.map V.str, LM.map V.str, rfl, rfl, sK H, sJ H, by show 6 + 3 ≤ sizeLine; omega, (fun e => by unfold KL at e; cases e), (fun _ e => by unfold LM at e; cases e), fun _ _ tt htt => ?_⟩
    have s1 := Ask.Same.made1 (o := .tup (KL.map V.str ++ LM.map V.str)) (Same.refl H) htt
    have e1 : upd H tt (.tup (KL.map V.str ++ LM.map V.str)) tt = some (.tup ((KL ++ LM).map V.str)) := by rw [upd_same, List.map_append]
    generalize upd H tt (.tup (KL.map V.str ++ LM.map V.str)) = H1 at s1 e1 ⊢
    have T1 := hT.ext s1
    refine ⟨p, l0, .ref tt, ps, KL ++ LM, 0, rfl, T1, hR.same s1, .inl ⟨tt, rfl, SqT.of e1⟩, fun z hz => hf.2 z (List.mem_of_getElem? hz), fun no H2 d x2 T2 e2 => ?_, fun k hk0 hkm H2 x2 r2 => ?_⟩
    · refine ke 0 ?_ H2 d ⟨fun b o _ e t => x2 _ _ (s1 _ _ e) t, T2⟩ e2
      cases ps with
      | nil => rfl
      | cons k r =>
        have := no k rfl
        rw [List.mem_append] at this
        unfold itemT
        dsimp only
        rw [if_neg (fun z => this (.inr z)), if_neg (fun z => this (.inl z))]
    obtain ⟨r, rfl⟩ : ∃ r, ps = k :: r := by
      cases ps with
      | nil => cases hk0
      | cons k' r => cases hk0; exact ⟨r, rfl⟩
    have y2 : ExP p T H H2 := ⟨fun b o n e t => x2.st b o n (s1 _ _ e) t, x2.tb⟩
    have T2 := x2.tb
    obtain ⟨dx2, hp2, hL2⟩ := id r2
    have hpH := hp
    have pm : m ≠ p := by
      obtain ⟨d, o, h1, _⟩ := hM
      exact ne_of h1 hp (fun z => by unfold rdF at z; injection z with _ _ z; injection z with z _; cases z)
    have md : ∀ H', ExP p T H H' → Mde CL H' m t ws := fun H' y => by
      obtain ⟨d, o, h1, h2, h3⟩ := hM
      exact ⟨d, o, y.st _ _ pm h1 (fun _ z => nomatch z), y.st _ _ (ne_of h2 hp (fun z => nomatch z)) h2 (fun _ z => nomatch z), h3⟩
    try dsimp only
    by_cases hl : k ∈ LM
    · have kll : itemT ws (k :: r) = if k = "behind" then behW ws r else ansAll r 1 := by unfold itemT; dsimp only; rw [if_pos hl]
      refine seqIf_mid (fun _ _ => False) (fun K' hK => ?_) (fun _ _ z => z.elim)
      refine ⟨_, rfl, tJ, _, rfl, .inr (sJ _), rfl, all_flatS LM, _, rfl, ?_⟩
      rw [show (if false = true then !inV (.str k) (LM.map V.str) else inV (.str k) (LM.map V.str)) = decide (k ∈ LM) from inV_str k LM, decide_eq_true hl]
      refine iteT ?_
      have fin : ∀ (lt : V) (n : Nat) (H3 : Hp), ExP p T H H3 → RdA CR H3 p l0 (k :: r) n → ansL k r = (k :: r).drop n → ltL k r = lt → dueB ws (.str k) lt = true → (∀ i, ansAll (ansL k r) n = some i → itemT ws (k :: r) = some i) → (ansAll (ansL k r) n = none → itemT ws (k :: r) = none) →
          tRet (tMake CI (spLim K CL CI CK CA CM CB) [] E0 (tCons (tVar 1) (tCons (tVar 2) (tCons (tCall (spTakeAns T CR CT) [] E (tCons (tVar 0) (tCons (tC .non) tNil))) (tCons (tVar 3) tNil))))) { nx := K', rt := Q } [some (.ref p), some (.ref m), some (.str k), some lt, none, none] H3 := fun lt n H3 y3 r3 e3 elt due ie iN => by
        refine ⟨_, rfl, _, rfl, _, rfl, p, l0, k :: r, n, rfl, y3.tb, r3, hf, fun i hi H' d y4 e4 => ?_, fun hN H4 a y4 r4 e4 => ?_⟩
        · rw [← e3] at hi
          exact ke i (ie i hi) H' d (y3.trans y4) e4
        rw [← e3] at hN e4
        have y34 := y3.trans y4
        refine ⟨_, rfl, fun x dxx hx hdx hne => ?_⟩
        obtain ⟨ks, so⟩ := setOf_ex (ansL k r)
        obtain ⟨a1, a2, a3, a4⟩ := sets_ok hN so
        obtain ⟨b1, b2, _⟩ := ansAll_none hN
        refine lim_made (md H4 y34) hl due (SqL.of e4) ?_ b1 b2 so a3 hx hdx hne fun H5 s5 hlim => ⟨rfl, ?_⟩
        · have := hf.1
          rw [e3, List.length_drop]
          omega
        · have ec : cntT (k :: r) = (k :: r).length := by unfold cntT; dsimp only; rw [if_pos hl]
          exact kq (iN hN) H5 x (.lim k lt ks) (y34.same s5) (by rw [ec]; exact r4.same s5) ⟨k, r, rfl, .inr ⟨hl, ks, by rw [elt], so⟩⟩ hlim
      refine ⟨_, rfl, rfl, _, rfl, ?_⟩
      by_cases b : k = "behind"
      · subst b
        refine iteT ⟨_, rfl, p, dx2, _, rfl, hp2, rfl, _, rfl, p, l0, .ref m, _, ws, 1, rfl, T2, r2, .inr ⟨m, t, rfl, md H2 y2⟩, fun z hz => hf.2 z (List.mem_of_getElem? hz), fun no H3 d x3 T3 e3 => ?_, fun y hy0 hym H3 x3 r3 => ?_⟩
        · refine ke 1 ?_ H3 d (y2.ext x3 T3) e3
          rw [kll, if_pos rfl]
          unfold behW
          cases r with
          | nil => rfl
          | cons y q => dsimp only; rw [if_neg (no y rfl)]
        · obtain ⟨q, rfl⟩ : ∃ q, r = y :: q := by
            cases r with
            | nil => cases hy0
            | cons y' q => cases hy0; exact ⟨q, rfl⟩
          try dsimp only
          have eW : itemT ws ("behind" :: y :: q) = ansAll q 2 := by
            rw [kll, if_pos rfl]
            unfold behW
            dsimp only
            rw [if_pos hym]
          refine fin (.str y) 2 H3 (y2.trans x3) r3 rfl rfl ?_ (fun i hi => eW.trans hi) (fun hN => eW.trans hN)
          unfold dueB
          rw [if_pos rfl]
          exact decide_eq_true hym
      · rw [show decide (V.str k = V.str "behind") = false from decide_eq_false fun q => b (V.str.inj q)]
        refine iteF ?_
        have eA : ansL k r = r := by unfold ansL; rw [if_neg b]
        have eW : itemT ws (k :: r) = ansAll r 1 := by rw [kll, if_neg b]
        refine fin .non 1 H2 y2 r2 eA (by unfold ltL; rw [if_neg b]) ?_ (fun i hi => by rw [eW, ← hi, eA]) (fun hN => by rw [eW, ← hN, eA])
        unfold dueB
        rw [if_neg (fun z => b (V.str.inj z))]
        rfl
    · have hk : k ∈ KL := (List.mem_append.mp hkm).elim id fun z => absurd z hl
      have kll : itemT ws (k :: r) = firT ws k r := by unfold itemT; dsimp only; rw [if_neg hl, if_pos hk]
      refine seqIf_mid (fun σ' H' => σ' = [some (.ref p), some (.ref m), some (.str k), none, none, none] ∧ H2 = H') (fun K' hK => ?_) ?_
      · refine ⟨_, rfl, tJ, _, rfl, .inr (sJ _), rfl, all_flatS LM, _, rfl, ?_⟩
        rw [show (if false = true then !inV (.str k) (LM.map V.str) else inV (.str k) (LM.map V.str)) = decide (k ∈ LM) from inV_str k LM, decide_eq_false hl]
        exact iteF (hK _ _ ⟨rfl, rfl⟩)
      rintro σ' H' ⟨rfl, rfl⟩
      try dsimp only
      refine ⟨_, rfl, p, dx2, _, rfl, hp2, rfl, _, rfl, p, l0, .ref m, _, ws, 1, rfl, T2, r2, .inr ⟨m, t, rfl, md H2 y2⟩, fun z hz => hf.2 z (List.mem_of_getElem? hz), fun no H3 d x3 T3 e3 => ?_, fun x hx0 hxm H3 x3 r3 => ?_⟩
      · refine ke 1 ?_ H3 d (y2.ext x3 T3) e3
        rw [kll]
        unfold firT
        cases r with
        | nil => rfl
        | cons y q => dsimp only; rw [if_neg (no y rfl)]
      obtain ⟨q, rfl⟩ : ∃ q, r = x :: q := by
        cases r with
        | nil => cases hx0
        | cons y' q => cases hx0; exact ⟨q, rfl⟩
      have y3 := y2.trans x3
      have T3 := y3.tb
      obtain ⟨dx3, hp3, hL3⟩ := id r3
      have klx : itemT ws (k :: x :: q) = if k ∈ LK then none else secT ws k x q := by
        rw [kll]
        unfold firT
        dsimp only
        rw [if_pos hxm]
      have fin : ∀ (s : V) (n : Nat) (H4 : Hp) (a da : Addr) , ExP p T H H4 → RdA CR H4 p l0 (k :: x :: q) n → cntT (k :: x :: q) = n → scdV k q = s → itemT ws (k :: x :: q) = none → DrOk ws k x s → H4 a = none → H4 da = none → da ≠ a →
          spSen K CL CS CK CB CN [.ref a, .ref m, .str k, .str x, s] (upd (upd H4 da (.own a)) a (.ins CS da [])) (fun v H' => v = .non ∧ Q (.ref a) H') E0 := fun s n H4 a da y4 r4 en es eT dr ha hda hne => by
        refine sen_made (pp := p) (md H4 y4) nd dr ha hda hne fun H5 k' x' s' s5 nf hs => ⟨rfl, ?_⟩
        exact kq eT H5 a (.sen k' x' s') (y4.same s5) (by rw [en]; exact r4.same s5) ⟨k, x :: q, rfl, .inl ⟨hk, x, q, k', x', s', rfl, by rw [es]; exact nf, rfl⟩⟩ hs
      try dsimp only
      refine seqIf_mid (fun σ' H' => σ' = [some (.ref p), some (.ref m), some (.str k), none, some (.str x), none] ∧ H3 = H' ∧ k ∉ LK) (fun K' hK => ?_) ?_
      · refine ⟨_, rfl, tO, _, rfl, .inr (sO _), rfl, all_flatS LK, _, rfl, ?_⟩
        rw [show (if false = true then !inV (.str k) (LK.map V.str) else inV (.str k) (LK.map V.str)) = decide (k ∈ LK) from inV_str k LK]
        by_cases b : k ∈ LK
        · rw [decide_eq_true b]
          refine iteT ⟨_, rfl, _, rfl, _, rfl, fun a da ha hda hne => ?_⟩
          have es : scdV k q = .non := by unfold scdV; rw [if_pos b]
          refine fin .non 2 H3 a da y3 r3 ?_ es (klx.trans (if_pos b)) (.lone b hk hxm) ha hda hne
          unfold cntT
          dsimp only
          rw [if_neg hl, if_pos b]
        · rw [decide_eq_false b]
          exact iteF (hK _ _ ⟨rfl, rfl, b⟩)
      rintro σ' H' ⟨rfl, rfl, b⟩
      rw [if_neg b] at klx
      try dsimp only
      refine ⟨_, rfl, p, dx3, _, rfl, hp3, rfl, T3, fun g c' H4 ext low T4 g0 lin => ?_⟩
      have y4 := y3.ext ext T4
      have md4 := md H4 y4
      have hp4 := ext _ _ hp3 (fun _ z => nomatch z)
      refine ⟨p, g, l0, _, 2, ((k :: x :: q)[2]?).map fun z => (z, decide (z ∈ ws) && !(decide (k = "alike") && decide (z = x))), rfl, r3.ext ext, ?_, fun u hu => ?_, fun no H5 d s5 e5 => ?_, fun y e H5 k5 r5 => ?_⟩
      · cases (k :: x :: q)[2]? <;> rfl
      · cases e : (k :: x :: q)[2]? with
        | none => rw [e] at hu; cases hu
        | some z =>
          rw [e] at hu
          cases hu
          exact ⟨hf.2 z (List.mem_of_getElem? e), .inr ⟨_, _, ⟨c', rfl, rfl⟩, lin, fun H5 Q' E' s5 kk => ⟨m, t, ws, k, x, z, rfl, rfl, md4.same s5, kk H5 (Same.refl H5)⟩⟩⟩
      · refine ke 2 ?_ H5 d (y4.same s5) e5
        rw [klx]
        unfold secT
        cases q with
        | nil => rfl
        | cons y v =>
          dsimp only
          rw [if_neg (fun g => no y ?_)]
          show some (y, _) = some (y, true)
          rw [decide_eq_true g.1, Bool.true_and, Bool.not_and]
          by_cases a : k = "alike"
          · rw [decide_eq_false (fun z => g.2 ⟨a, z⟩), Bool.not_false, Bool.or_true]
          · rw [decide_eq_false a, Bool.not_false, Bool.true_or]
      · obtain ⟨v, rfl⟩ : ∃ v, q = y :: v := by
          cases q with
          | nil => cases e
          | cons y' v => cases congrArg Prod.fst (Option.some.inj e); exact ⟨v, rfl⟩
        have ok : (decide (y ∈ ws) && !(decide (k = "alike") && decide (y = x))) = true := congrArg Prod.snd (Option.some.inj e)
        rw [Bool.and_eq_true, Bool.not_eq_true', Bool.and_eq_false_iff] at ok
        have hy := of_decide_eq_true ok.1
        have hna : ¬ (k = "alike" ∧ y = x) := fun z => ok.2.elim (fun q => of_decide_eq_false q z.1) fun q => of_decide_eq_false q z.2
        try dsimp only
        have y5 := y4.trans ⟨fun b o n e _ => k5 b o n e, k5.tabs T4 hp4⟩
        have es : scdV k (y :: v) = .str y := by unfold scdV; rw [if_neg b]
        refine ⟨_, rfl, _, rfl, _, rfl, _, rfl, fun a da ha hda hne => ?_⟩
        refine fin (.str y) 3 H5 a da y5 r5 ?_ es ?_ (.two b hk hxm hy fun z => hna ⟨z.1, z.2.symm⟩) ha hda hne
        · unfold cntT
          dsimp only
          rw [if_neg hl, if_neg b]
        · rw [klx]
          unfold secT
          dsimp only
          rw [if_pos ⟨hy, hna⟩]
end
end Ask

namespace Ask
open PySem L2 LamX NdefX
theorem cnt_le {ws ps : List Str} (h : itemT ws ps = none) : cntT ps ≤ ps.length := by
  cases ps with
  | nil => cases h
  | cons k r =>
    unfold itemT at h
    unfold cntT
    dsimp only at h ⊢
    by_cases a : k ∈ LM
    · rw [if_pos a]; exact Nat.le_refl _
    · rw [if_neg a] at h ⊢
      by_cases b : k ∈ KL
      · rw [if_pos b] at h
        obtain ⟨x, q, rfl, _, hq⟩ := dr_line b h
        by_cases c : k ∈ LK
        · rw [if_pos c]; simp only [List.length_cons]; omega
        · rw [if_neg c]
          obtain ⟨y, t, rfl⟩ := hq c
          simp only [List.length_cons]
          omega
      · rw [if_neg b] at h; cases h
section
variable {P : Program} {w : World} {K : PySem.W.Frag} {mg : Str → Option Value} {base : Heap}
def spRead (T : List NTab) (K : PySem.W.Frag) (CL CS CI CT : Addr) : Sp := fun vs H Q E => ∃ (m t : Addr) (line : Str) (ps ws : List Str), vs = [.ref m, .str line] ∧ TabsN T H ∧ Mde CL H m t ws ∧ ws.Nodup ∧ line.length ≤ 100000 ∧ Txt.split line " " = ps ∧ LnFit ps ∧
  (∀ i, itemW ws ps = some i → ∀ (H' : Hp) (d : Addr), ExtN H H' → TabsN T H' → H' d = some (.xd (fsText [.int 1, .int ((i : Int) + 1)])) → E (.ref CT) (some d) H') ∧
  (itemW ws ps = none → ∀ (H' : Hp) (q : Addr) (it : Itn), ExtN H H' → TabsN T H' → ItmOf ws ps it → ItmOk ws it → ItmAt K CL CS CI H' q ws it → Q (.ref q) H')
abbrev s_read_item : Stmt := top 63
theorem sc_read_item : FnScope ["letters", "line", "words", "item"] ["letters", "line"] (defScope s_read_item) := ⟨rfl, rfl, rfl, by decide +kernel, rfl, by decide +kernel, by decide +kernel⟩
theorem ok_read {T : List NTab} {f fR fI fF CR CL CS CI CT : Addr} {fd fdR fdI fdF : FuncData} (F : Fun K "read_item" "read_item" s_read_item f fd) (hC : RdC K CR)
    (MR : Mk K CR fR) (mR : mg "LineReader" = some (.ref CR)) (bR : Binds K fdR ["self", "line", "number"] []) (GR : FnOk P w K mg base CX0 1 fR fdR ["self", "line", "number"] (spRdInit CR))
    (G_take_item : FnOk P w K mg base (L2.CX P w) 9 fI fdI ["words", "letters"] (spTakeItem T K CR CL CS CI CT)) (A_take_item : At K mg "take_item" fI fdI ["words", "letters"])
    (GF : FnOk P w K mg base (L2.CX P w) 5 fF fdF ["self"] (spFinish CR CT)) (bF : Binds K fdF ["self"] []) (mF : Meth K CR "finish" fF) :
    FnOk P w K mg base (L2.CX P w) 10 f fd ["letters", "line"] (spRead T K CL CS CI CT) := by
  refine F.okX sc_read_item (fun vs H Q E h => ?_) (fun cdv A outer s H vs Q E hr h => ?_)
  · obtain ⟨m, t, line, ps, ws, rfl, _⟩ := h
    rfl
  · obtain ⟨m, t, line, ps, ws, rfl, hT, hM, nd, ll, sp, hf, ke, kq⟩ := h
    have h_rd := hr.mono (j := 2) (by decide)
    have h_take_item := hr.mono (j := 9) (by decide)
    have h_fin := hr.mono (j := 5) (by decide)
    refine ⟨_, (pss_cons (ps_set (i := 2) sc_read_item.nd rfl (Or.inl rfl) (pe_make MR GR h_rd (by rfl) mR bR .nil pass0 (pa_cons (pv 1) (pa_cons pe_int pa_nil))))
      (pss_cons (ps_set (i := 3) sc_read_item.nd rfl (Or.inl rfl) (pe_call G_take_item (by exact h_take_item) (by rfl) A_take_item.m A_take_item.k A_take_item.b .nil (passes_call (E := E) (takes_of rfl rfl rfl rfl) (fun _ _ _ _ h => h)) (pa_cons (pv 2) (pa_cons (pv 0) pa_nil))))
      (pss_cons (ps_expr (pe_meth0 (E := E) (pv 2) hC.c mF GF h_fin bF .nil (passes_call (takes_of rfl rfl rfl rfl) (fun _ _ _ _ h => h))))
      (pss_one (ps_ret (pv 3)))))), ?_⟩
    refine ⟨_, rfl, fun p dx hp hdx hne => ?_⟩
    have s1 : Same H (upd (upd H dx (.own p)) p (.ins CR dx [])) := Ask.Same.made1 (Ask.Same.made1 (Same.refl H) hdx) (by rw [upd_ne hne.symm]; exact hp)
    refine ⟨p, dx, line, ps, rfl, upd_same, ll, sp, fun H1 l0 k1 nl r1 => ⟨rfl, ?_⟩⟩
    have s2 : Same H H1 := fun b o e => k1 b o (ne_of_none e hp) (s1 _ _ e)
    have T1 := hT.ext s2
    have out : ∀ H', ExP p T H1 H' → ExtN H H' := fun H' y b o e t => y.st b o (ne_of_none e hp) (s2 _ _ e) t
    clear s1 k1 nl
    try dsimp only
    have two := item_two ws ps
    refine ⟨_, rfl, _, rfl, p, l0, m, t, ps, ws, rfl, T1, r1, hf, hM.same s2, nd, fun i hi H2 d y2 e2 => ?_, fun hN H2 q it y2 r2 ho hi => ?_⟩
    · rw [hi] at two
      exact ke i two H2 d (out _ y2) y2.tb e2
    rw [hN] at two
    dsimp only at two
    try dsimp only
    have hok := itmOf_ok hN ho
    obtain ⟨dx2, hp2, _⟩ := id r2
    refine ⟨_, rfl, p, dx2, _, rfl, hp2, rfl, p, l0, ps, cntT ps, rfl, r2, fun e => ?_, fun e H3 d s3 e3 => ?_⟩
    · have ec : cntT ps = ps.length := Nat.le_antisymm (cnt_le hN) (List.getElem?_eq_none_iff.mp e)
      rw [if_pos ec] at two
      exact ⟨_, rfl, kq two H2 q it (out _ y2) y2.tb ho hok hi⟩
    · have ec : cntT ps ≠ ps.length := fun z => e (by rw [z]; exact List.getElem?_eq_none (Nat.le_refl _))
      rw [if_neg ec] at two
      exact ke _ two H3 d (out _ (y2.same s3)) (y2.tb.ext s3) e3
end
end Ask

namespace Ask
open PySem L2
theorem ty_pop : typeOf (.builtin "list.pop") = pure (.type "method_descriptor") := by show builtinType _ = _; rw [builtinType_eq_fast]; kernel_rfl
theorem ty_insert : typeOf (.builtin "list.insert") = pure (.type "method_descriptor") := by show builtinType _ = _; rw [builtinType_eq_fast]; kernel_rfl
theorem perm_take {α : Type} {ls : List α} {k : Nat} {y : α} (h : ls[k]? = some y) : (y :: ls.eraseIdx k).Perm ls := by
  induction ls generalizing k with
  | nil => cases h
  | cons z zs ih =>
    cases k with
    | zero =>
      cases h
      exact List.Perm.refl _
    | succ k =>
      have h : zs[k]? = some y := h
      exact (List.Perm.swap z y _).trans ((ih h).cons z)
theorem erase_map {α β : Type} (g : α → β) : ∀ (ls : List α) (k : Nat), (ls.map g).eraseIdx k = (ls.eraseIdx k).map g
  | [], _ => rfl
  | l :: ls, 0 => rfl
  | l :: ls, k + 1 => by
    show g l :: (ls.map g).eraseIdx k = g l :: (ls.eraseIdx k).map g
    rw [erase_map g ls k]
section
variable {P : Program} {w : World} {K : PySem.W.Frag} {mg : Str → Option Value} {base : Heap}
/-! ### the shuffle -/
def spShuf (K : PySem.W.Frag) : Sp := fun vs H Q _ => ∃ (p c a : Addr) (ns : List Int) (B : Nat) (ys : List Str), vs = [.ref p, .ref a] ∧ Pen c ns H p B ∧ B ≤ 500000000 ∧ SqL K H a (ys.map V.str) ∧ ys.length ≤ 100 ∧ (∀ y ∈ ys, y.length ≤ 500 ∧ Asc y) ∧
  ∀ (H' : Hp) (q : Addr) (zs : List Str), Go p c ns H H' (B + 100) → H q = none → H' q = some (.lst (zs.map V.str)) → zs.Perm ys → Q (.ref q) H'
abbrev s__law_shuffled : Stmt := top 68
theorem sc__law_shuffled : FnScope ["_law_pen_here", "_law_items", "_law_left", "_law_gained"] ["_law_pen_here", "_law_items"] (defScope s__law_shuffled) := ⟨rfl, rfl, rfl, by decide +kernel, rfl, by decide +kernel, by decide +kernel⟩
theorem ok_shuf {f fD : Addr} {fd fdD : FuncData} (F : Fun K "_law_shuffled" "_law_shuffled" s__law_shuffled f fd) (T : Blt mg)
    (GD : FnOk P w K mg base CX0 1 fD fdD ["_law_pen_here", "_law_many"] spDraw) (D : At K mg "_law_draw" fD fdD ["_law_pen_here", "_law_many"]) :
    FnOk P w K mg base CX0 2 f fd ["_law_pen_here", "_law_items"] (spShuf K) := by
  refine F.ok sc__law_shuffled (fun vs H Q E h => ?_) (fun cdv A outer s H vs Q E hr h => ?_)
  · obtain ⟨p, c, a, ns, B, ys, rfl, _⟩ := h
    rfl
  · obtain ⟨p, c, a, ns, B, ys, rfl, hpen, hB, hS, hl, hy, kq⟩ := h
    refine ⟨_, (pss_cons (ps_par (i := 2) (j := 3) rfl sc__law_shuffled.nd rfl rfl (by decide) rfl rfl (pa_cons (pe_callTy call_list_of (by rfl) T.n_list (by decide +kernel) (pa_cons (pv 1) pa_nil)) (pa_cons (pe_lst pa_nil) pa_nil)) (by rfl))
      (pss_cons (ps_while PassesOwn.never (pt_cmpR (op_neD hr.units) (pv 2) (pe_lst pa_nil) (nomark _))
        (pss_one (ps_expr (pe_bm PySem.F.plainAttrs_list PySem.F.slot_list_append PySem.F.type_list_append mt_append (pv 3) (pa_cons (pe_bm PySem.F.plainAttrs_list PySem.F.slot_list_pop ty_pop mt_popAt (pv 2) (pa_cons (pe_call GD (by exact hr) (by rfl) D.m D.k D.b .nil pass0 (pa_cons (pv 0) (pa_cons (pe_callB call_len_seq (by rfl) T.n_len (by decide +kernel) (pa_cons (pv 2) pa_nil)) pa_nil))) pa_nil)) pa_nil)))))
      (pss_one (ps_ret (pv 3))))), ?_⟩
    have z1 : (1000 : Nat) ≤ sizeLine := by decide
    refine ⟨_, rfl, a, _, rfl, .inl hS, fun L hL => ?_⟩
    have g1 := (Go.refl hpen).new (o := .lst (ys.map V.str)) hL
    have hL0 := hL
    have eL : upd H L (.lst (ys.map V.str)) L = some (.lst (ys.map V.str)) := upd_same
    generalize upd H L (.lst (ys.map V.str)) = H1 at g1 eL ⊢
    refine ⟨Nat.zero_le _, fun G hG => ⟨_, _, rfl, ?_⟩⟩
    have hG0 := g1.free hG
    have neL : L ≠ G := ne_of_none eL hG
    replace g1 := g1.new (o := .lst []) hG
    replace eL : upd H1 G (.lst []) L = some (.lst (ys.map V.str)) := by rw [upd_ne neL]; exact eL
    have eG : upd H1 G (.lst []) G = some (.lst []) := upd_same
    generalize upd H1 G (.lst []) = H2 at g1 eL eG ⊢
    refine ⟨fun m σ' H' => ∃ ls gs : List Str, m = ls.length ∧ σ' = [some (.ref p), some (.ref a), some (.ref L), some (.ref G)] ∧ Go p c ns H H' (B + gs.length) ∧ H' L = some (.lst (ls.map V.str)) ∧ H' G = some (.lst (gs.map V.str)) ∧ (gs ++ ls).Perm ys,
      ⟨_, ys, [], rfl, rfl, g1, eL, eG, List.Perm.refl _⟩, ?_⟩
    rintro m σ' H3 ⟨ls, gs, rfl, rfl, g3, e3, f3, pm⟩
    have len := pm.length_eq
    rw [List.length_append] at len
    refine ⟨_, rfl, Nat.zero_le _, fun u hu => ?_⟩
    have st := Ask.Same.made1 (o := .lst []) (Same.refl H3) hu
    replace g3 := g3.new (o := .lst []) hu
    replace e3 := st _ _ e3
    replace f3 := st _ _ f3
    have fu : upd H3 u (.lst []) u = some (.lst []) := upd_same
    generalize upd H3 u (.lst []) = H4 at g3 e3 f3 fu ⊢
    clear st hu
    have fit : ∀ y ∈ ls, y.length ≤ 500 ∧ Asc y := fun y h => hy y (pm.mem_iff.mp (List.mem_append_right _ h))
    refine ⟨.list (ls.map PyData.str), .list [], .lst (SqL.of e3) (dp_strs ls), .lst (SqL.of fu) .nil, (fit_strs fit).shapedL, by decide, _, rfl, ?_⟩
    rw [eqv_nil]
    cases ls with
    | nil =>
      show (if (!true) = true then _ else _)
      rw [if_neg (by decide)]
      rw [List.append_nil] at pm
      exact ⟨_, rfl, kq H4 G gs (g3.mono (by omega)) hG0 f3 pm⟩
    | cons l0 ls0 =>
      show (if (!false) = true then _ else _)
      rw [if_pos (by decide)]
      refine ⟨_, fun σ' H' h => h, ?_⟩
      refine ⟨_, rfl, .inl ⟨rfl, _, SqL.of f3⟩, _, rfl, .inl ⟨rfl, _, SqL.of e3⟩, _, rfl, _, rfl, L, _, rfl, .inl (SqL.of e3), p, c, ns, _, _, rfl, g3.pen, by omega, by rw [List.length_map, List.length_cons]; omega, by rw [List.length_map]; omega, fun H5 r g5 r0 r1 => ?_⟩
      rw [List.length_map] at r1
      have e5 := g5.lst e3
      have f5 := g5.lst f3
      replace g5 := g3.step g5
      obtain ⟨k, rfl⟩ : ∃ k : Nat, r = (k : Int) := ⟨r.toNat, by omega⟩
      have hk : k < (l0 :: ls0).length := by omega
      have lc : (l0 :: ls0).length = ls0.length + 1 := rfl
      obtain ⟨y, hy'⟩ : ∃ y, (l0 :: ls0)[k]? = some y := ⟨_, List.getElem?_eq_getElem hk⟩
      refine ⟨L, _, (k : Int), k, .str y, rfl, rfl, e5, by omega, by omega, ?_, by rw [List.getElem?_map, hy']; rfl, ?_⟩
      · unfold seqIndex?
        rw [List.length_map]
        simp only [if_neg (show ¬ ((k : Int) < 0) by omega)]
        rw [if_pos (by simp; omega)]
        rfl
      refine ⟨G, _, _, rfl, rfl, by rw [upd_ne neL.symm]; exact f5, by rw [List.length_map]; omega, ?_⟩
      have pm2 := perm_take hy'
      have lz : ((l0 :: ls0).eraseIdx k).length = ls0.length := by rw [List.length_eraseIdx, if_pos hk]; rfl
      refine ⟨_, ?_, (l0 :: ls0).eraseIdx k, gs ++ [y], rfl, rfl, ((g5.mut hL0).mut hG0).mono (by rw [List.length_append]; show B + gs.length + 1 ≤ B + (gs.length + 1); omega), ?_, ?_, ?_⟩
      · rw [lz]
        exact Nat.lt_succ_self _
      · rw [upd_ne neL, upd_same, erase_map]
      · rw [upd_same, List.map_append]
        rfl
      · rw [List.append_assoc]
        exact ((List.Perm.append_left gs pm2)).trans pm
end
end Ask

/-! text * int(test) -/
namespace Ask
open PySem L2 PySem.Spec PyProof.Rows
theorem op_mulB {X : Cx} : OpR X (binaryOp .Mult) (fun x y H Q => ∃ (z : Str) (b : Bool), x = .str z ∧ y = .int (if b = true then 1 else 0) ∧ z.length ≤ 1000 ∧ Q (.str (if b = true then z else Str.empty)) H) := by
  intro pins s σ H x y v u Q I rx ry h
  obtain ⟨z, b, rfl, rfl, z1, q⟩ := h
  obtain ⟨t, rfl⟩ := rx
  obtain ⟨t2, rfl⟩ := ry
  cases b with
  | false => exact P.mul_str_none (by decide) (by decide) ⟨.str Str.empty, H, I.tok _, ⟨_, rfl⟩, q⟩
  | true =>
    refine P.mul_str (by decide) (fun _ e => by simp at e) (fun _ e => by simp at e) ?_
    rw [if_neg (by decide), if_pos (by simp)]
    exact ⟨.str z, H, I, ⟨_, rfl⟩, q⟩
theorem app_empty (z : Str) : z ++ Str.empty = z := by
  have h : (z ++ Str.empty).cps = z.cps := by
    rw [Str.cps_append]
    show z.cps ++ #[] = z.cps
    rw [Array.append_empty]
  cases z
  cases hz : (_ : Str) ++ Str.empty
  rw [hz] at h
  cases h
  rfl
theorem empty_app (z : Str) : Str.empty ++ z = z := by
  have h : (Str.empty ++ z).cps = z.cps := by
    rw [Str.cps_append]
    show #[] ++ z.cps = z.cps
    rw [Array.empty_append]
  cases z
  cases hz : Str.empty ++ (_ : Str)
  rw [hz] at h
  cases h
  rfl
end Ask

namespace Ask
open PySem L2
/-- the word of turn i, ahead of its last look -/
def preW (hd stem : Str) (at_ fr st i : Nat) : Str := if at_ = 0 then (⟨#[sgN small fr st i]⟩ : Str) ++ stem else ((hd ++ cutS stem none (some ((at_ - 1 : Nat) : Int))) ++ (⟨#[sgN signs fr st i]⟩ : Str)) ++ cutS stem (some ((at_ - 1 : Nat) : Int)) none
def wrdW (hd stem : Str) (at_ fr st i : Nat) : Str := fixS (preW hd stem at_ fr st i)
theorem one_list (c : Nat) : (⟨#[c]⟩ : Str).cps.toList = [c] := rfl
theorem preW_len {hd stem : Str} {at_ fr st i : Nat} (h1 : hd.length = 1) (h2 : stem.length ≤ 9) : (preW hd stem at_ fr st i).length ≤ 23 := by
  unfold preW
  split
  · rw [Str.length_append]
    show 1 + stem.length ≤ 23
    omega
  · have a := cutS_length stem none (some ((at_ - 1 : Nat) : Int))
    have b := cutS_length stem (some ((at_ - 1 : Nat) : Int)) none
    rw [Str.length_append, Str.length_append, Str.length_append]
    show hd.length + _ + 1 + _ ≤ 23
    omega
theorem wrdW_ok {hd stem : Str} {at_ fr st c : Nat} (hc : hd = ⟨#[c]⟩) (hs : c ∈ smallL) (hl : stem.length ≤ 9) (hg : ∀ d ∈ stem.cps.toList, d ∈ signsL) (ha : at_ ≤ stem.length + 1) (hst : st ∈ [1, 5, 7, 11, 17, 19, 23, 25]) : Wds (wrdW hd stem at_ fr st) 26 := by
  have len := tl_len stem
  have a97 : (97 : Nat) ∈ smallL := by decide +kernel
  by_cases h0 : at_ = 0
  · refine wds_mk (S := 97 :: stem.cps.toList) (a := 0) (sg := sgN small fr st) (T := fun _ => stem.cps.toList) (Nat.zero_le _) (by rw [List.length_cons]; omega) (fun d hd => ?_) (fun d hd => ?_) (fun k hk => ?_) (fun _ k hk => ?_) (fun j k hj hk q => ?_) (fun k => ⟨hg, by rw [List.length_cons]; omega⟩) (fun k hk => ⟨preW hd stem at_ fr st k, rfl, ?_⟩)
    · rcases List.mem_cons.mp hd with rfl | hd
      · exact small_signs _ a97
      · exact hg d hd
    · cases hd
      exact a97
    · exact small_signs _ (sgN_mem small fr st k (by rw [small_len]; decide))
    · exact sgN_mem small fr st k (by rw [small_len]; decide)
    · have e1 := sgN_at small fr st j (by rw [small_len]; decide)
      have e2 := sgN_at small fr st k (by rw [small_len]; decide)
      rw [q] at e1
      exact step_inj (.inl small_len) hst hj hk (nodup_at small_nodup e1 e2)
    · unfold preW
      rw [if_pos h0, app_list, one_list]
      rfl
  · refine wds_mk (S := c :: stem.cps.toList) (a := at_) (sg := sgN signs fr st) (T := fun _ => stem.cps.toList.drop (at_ - 1)) (by rw [List.length_cons]; omega) (by rw [List.length_cons]; omega) (fun d hd => ?_) (fun d hd => ?_) (fun k hk => ?_) (fun q => absurd q h0) (fun j k hj hk q => ?_) (fun k => ⟨fun d hd => hg d (List.mem_of_mem_drop hd), by rw [List.length_drop, List.length_cons]; omega⟩) (fun k hk => ⟨preW hd stem at_ fr st k, rfl, ?_⟩)
    · rcases List.mem_cons.mp hd with rfl | hd
      · exact small_signs _ hs
      · exact hg d hd
    · cases hd
      exact hs
    · exact sgN_mem signs fr st k (by rw [signs_len]; decide)
    · have e1 := sgN_at signs fr st j (by rw [signs_len]; decide)
      have e2 := sgN_at signs fr st k (by rw [signs_len]; decide)
      rw [q] at e1
      exact step_inj (.inr signs_len) hst hj hk (nodup_at signs_nodup e1 e2)
    · unfold preW
      rw [if_neg h0, app_list, app_list, app_list, one_list, cut_pre, cut_suf, hc, one_list]
      obtain ⟨n, rfl⟩ : ∃ n, at_ = n + 1 := ⟨at_ - 1, by omega⟩
      rw [Nat.add_sub_cancel, List.take_succ_cons]
      show ([c] ++ stem.cps.toList.take n ++ [sgN signs fr st k]) ++ stem.cps.toList.drop n = (c :: stem.cps.toList.take n) ++ sgN signs fr st k :: stem.cps.toList.drop n
      simp
theorem fix_cat (z : Str) : z ++ (if decide (z = newW ∨ z = foundW) = true then ("0" : Str) else Str.empty) = fixS z := by
  unfold fixS
  by_cases h : z = newW ∨ z = foundW
  · rw [if_pos (decide_eq_true h), if_pos h]
  · rw [if_neg (fun q => h (of_decide_eq_true q)), if_neg h, app_empty]
theorem in_two (z : Str) : inV (.str z) [.str "new", .str "found"] = decide (z = newW ∨ z = foundW) := by
  unfold inV
  simp only [List.any_cons, List.any_nil, Bool.or_false, eq_V]
  by_cases c1 : z = newW
  · rw [decide_eq_true (show (Str.ofString "new") = z from c1.symm), decide_eq_true (show z = newW ∨ z = foundW from .inl c1)]
    rfl
  · by_cases c2 : z = foundW
    · rw [decide_eq_true (show (Str.ofString "found") = z from c2.symm), decide_eq_true (show z = newW ∨ z = foundW from .inr c2), Bool.or_true]
    · rw [decide_eq_false (show ¬ (Str.ofString "new") = z from fun q => c1 q.symm), decide_eq_false (show ¬ (Str.ofString "found") = z from fun q => c2 q.symm), decide_eq_false (show ¬ (z = newW ∨ z = foundW) from fun q => q.elim c1 c2)]
      rfl
end Ask

namespace Ask
open PySem L2
def nWo : List Str := ["_law_pen_here", "_law_many", "_law_small", "_law_signs", "_law_first", "_law_step", "_law_head", "_law_stem", "_law_at", "_law_gained", "_law_k", "_law_word", "_law_sign"]
section
variable {P : Program} {w : World} {K : PySem.W.Frag} {mg : Str → Option Value} {base : Heap}
def spWords : Sp := fun vs H Q _ => ∃ (p c : Addr) (ns : List Int) (m : Int) (B : Nat), vs = [.ref p, .int m] ∧ Pen c ns H p B ∧ B ≤ 400000000 ∧ 0 ≤ m ∧ m ≤ 26 ∧
  ∀ (H' : Hp) (q : Addr) (ys : List Str), Go p c ns H H' (B + 150) → H q = none → H' q = some (.lst (ys.map V.str)) → (ys.length : Int) = m → ys.Nodup → (∀ y ∈ ys, goodW y = true) → Q (.ref q) H'
abbrev s__law_words : Stmt := top 70
theorem sc__law_words : FnScope nWo ["_law_pen_here", "_law_many"] (defScope s__law_words) := ⟨rfl, rfl, rfl, by decide +kernel, rfl, by decide +kernel, by decide +kernel⟩
theorem ok_words {f fD fP fS : Addr} {fd fdD fdP fdS : FuncData} (F : Fun K "_law_words" "_law_words" s__law_words f fd) (T : Blt mg)
    (GD : FnOk P w K mg base CX0 1 fD fdD ["_law_pen_here", "_law_many"] spDraw) (D : At K mg "_law_draw" fD fdD ["_law_pen_here", "_law_many"])
    (GP : FnOk P w K mg base CX0 2 fP fdP ["_law_pen_here", "_law_items"] (spPick K)) (C : At K mg "_law_pick" fP fdP ["_law_pen_here", "_law_items"])
    (GS : FnOk P w K mg base CX0 2 fS fdS ["_law_pen_here", "_law_items"] (spShuf K)) (AS : At K mg "_law_shuffled" fS fdS ["_law_pen_here", "_law_items"]) :
    FnOk P w K mg base CX0 3 f fd ["_law_pen_here", "_law_many"] spWords := by
  refine F.ok sc__law_words (fun vs H Q E h => ?_) (fun cdv A outer s H vs Q E hr h => ?_)
  · obtain ⟨p, c, ns, m, B, rfl, _⟩ := h
    rfl
  · obtain ⟨p, c, ns, m, B, rfl, hpen, hB, hm0, hm1, k⟩ := h
    have h1 : Room 1 _ := hr.mono (by decide)
    have h2 : Room 2 _ := hr.mono (by decide)
    refine ⟨_, (pss_cons (ps_asg (pe_tup (pa_cons pe_str (pa_cons pe_str pa_nil))) (pg_tup rfl (pgs_cons (pg_name (i := 2) sc__law_words.nd rfl (Or.inl rfl)) (pgs_cons (pg_name (i := 3) sc__law_words.nd rfl (Or.inr rfl)) pgs_nil))))
      (pss_cons (ps_par (i := 4) (j := 5) rfl sc__law_words.nd rfl rfl (by decide) rfl rfl (pa_cons (pe_call GD (by exact h1) (by rfl) D.m D.k D.b .nil pass0 (pa_cons (pv 0) (pa_cons pe_int pa_nil))) (pa_cons (pe_call GP (by exact h2) (by rfl) C.m C.k C.b .nil pass0 (pa_cons (pv 0) (pa_cons (pe_lst (pa_cons pe_int (pa_cons pe_int (pa_cons pe_int (pa_cons pe_int pa_nil))))) pa_nil))) pa_nil)) (by rfl))
      (pss_cons (ps_set (i := 6) sc__law_words.nd rfl (Or.inl rfl) (pe_call GP (by exact h2) (by rfl) C.m C.k C.b .nil pass0 (pa_cons (pv 0) (pa_cons (pv 2) pa_nil))))
      (pss_cons (ps_set (i := 7) sc__law_words.nd rfl (Or.inl rfl) (pe_join pe_str (pe_lc (own := [("_law_k", 10)]) rfl sc__law_words.nd (pi_range1 rfl T.n_range (pa_cons (pe_call GD (by exact h1) (by rfl) D.m D.k D.b .nil pass0 (pa_cons (pv 0) (pa_cons pe_int pa_nil))) pa_nil)) (blkOk_by (N := nWo) (sc := defScope s__law_words) (by decide +kernel)) (fun _ _ _ _ _ => (pg_name (i := 10) sc__law_words.nd rfl (Or.inl rfl))) (fun _ _ _ _ _ => pts_nil) (fun _ _ _ _ _ => (pe_call GP (by exact h2) (by rfl) C.m C.k C.b .nil pass0 (pa_cons (pv 0) (pa_cons (pv 3) pa_nil)))))))
      (pss_cons (ps_set (i := 8) sc__law_words.nd rfl (Or.inl rfl) (pe_call GD (by exact h1) (by rfl) D.m D.k D.b .nil pass0 (pa_cons (pv 0) (pa_cons (pe_op op_add (pe_callB call_len_str (by rfl) T.n_len (by decide +kernel) (pa_cons (pv 7) pa_nil)) pe_int) pa_nil))))
      (pss_cons (ps_set (i := 9) sc__law_words.nd rfl (Or.inl rfl) (pe_lst pa_nil))
      (pss_cons (ps_for PassesOwn.never rfl (pi_range1 rfl T.n_range (pa_cons (pv 1) pa_nil)) (pg_name (i := 10) sc__law_words.nd rfl (Or.inl rfl)) (pss_cons (ps_set (i := 11) sc__law_words.nd rfl (Or.inl rfl) (pe_op op_add_str (pe_ix ix_str (pv 2) (pe_op op_mod (pe_callTy call_int1 (by rfl) T.n_int (by decide +kernel) (pa_cons (pe_op op_add (pv 4) (pe_op op_mul (pv 5) (pv 10))) pa_nil)) pe_int) (fun _ _ => rfl)) (pv 7)))
      (pss_cons (ps_if (pt_cmpR op_gt (pv 8) pe_int (nomark _)) (pss_cons (ps_set (i := 12) sc__law_words.nd rfl (Or.inl rfl) (pe_ix ix_str (pv 3) (pe_op op_mod (pe_callTy call_int1 (by rfl) T.n_int (by decide +kernel) (pa_cons (pe_op op_add (pv 4) (pe_op op_mul (pv 5) (pv 10))) pa_nil)) pe_int) (fun _ _ => rfl)))
      (pss_one (ps_set (i := 11) sc__law_words.nd rfl (Or.inl rfl) (pe_op op_add_str (pe_op op_add_str (pe_op op_add_str (pv 6) (pe_slice sl_str (pv 7) po_none (po_some (pe_op op_sub (pv 8) pe_int)))) (pv 12)) (pe_slice sl_str (pv 7) (po_some (pe_op op_sub (pv 8) pe_int)) po_none))))) pss_nil)
      (pss_one (ps_expr (pe_bm PySem.F.plainAttrs_list PySem.F.slot_list_append PySem.F.type_list_append mt_append (pv 9) (pa_cons (pe_op op_add_str (pv 11) (pe_op op_mulB pe_str (pe_callTy call_int1 (by rfl) T.n_int (by decide +kernel) (pa_cons (pe_cmpR op_in_seq (pv 11) (pe_lst (pa_cons pe_str (pa_cons pe_str pa_nil))) rfl) pa_nil)))) pa_nil)))))))
      (pss_one (ps_ret (pe_call GS (by exact h2) (by rfl) AS.m AS.k AS.b .nil pass0 (pa_cons (pv 0) (pa_cons (pv 9) pa_nil)))))))))))), ?_⟩
    have z1 : (1000 : Nat) ≤ sizeLine := by decide
    have g0 := Go.refl hpen
    -- small, signs
    refine ⟨by show 2 ≤ sizeLine; decide, fun t1 ht1 => ⟨t1, _, rfl, SqT.of upd_same, rfl, _, _, rfl, _, _, rfl, rfl, ?_⟩⟩
    have g1 := g0.new (o := .tup [.str small, .str signs]) ht1
    change Go p c ns H (upd H t1 (.tup [.str "abcdefghijklmnopqrstuvwxyz", .str "abcdefghijklmnopqrstuvwxyz0123456789"])) B at g1
    generalize upd H t1 _ = H1 at g1 ⊢
    -- first, step
    refine ⟨_, rfl, p, c, ns, 36, B, rfl, g1.pen, by omega, by decide, by decide, fun H2 fr g2 f0 f1 => ?_⟩
    replace g2 := g1.step g2
    refine ⟨_, rfl, by show 4 ≤ sizeLine; decide, fun o ho => ⟨p, c, ns, _, _, rfl, (g2.new ho).pen, by omega, .inl ⟨o, _, rfl, SqL.of upd_same, by show 0 < 4; decide, by show 4 ≤ 1000; decide, fun H3 v g3 hv => ⟨_, _, rfl, ?_⟩⟩⟩⟩
    replace g3 := (g2.new ho).step g3
    obtain ⟨st, rfl, hst⟩ : ∃ s : Nat, v = .int (s : Int) ∧ s ∈ [1, 5, 7, 11, 17, 19, 23, 25] := by
      simp only [List.mem_cons, List.not_mem_nil, or_false] at hv
      rcases hv with rfl | rfl | rfl | rfl
      · exact ⟨1, rfl, by decide⟩
      · exact ⟨5, rfl, by decide⟩
      · exact ⟨7, rfl, by decide⟩
      · exact ⟨11, rfl, by decide⟩
    have st1 : st ≤ 25 := by
      simp only [List.mem_cons, List.not_mem_nil, or_false] at hst
      omega
    obtain ⟨frN, rfl⟩ : ∃ n : Nat, fr = (n : Int) := ⟨fr.toNat, by omega⟩
    clear hv g2 g1 ho
    -- head
    refine ⟨_, rfl, _, rfl, p, c, ns, _, _, rfl, g3.pen, by omega, .inr ⟨small, rfl, by rw [small_len]; decide, by rw [small_len]; decide, fun H4 hc g4 hhc => ?_⟩⟩
    replace g4 := (g3.step g4).mono (B := B + 5) (by omega)
    obtain ⟨hd, ehd⟩ : ∃ hd : Str, hd = ⟨#[hc]⟩ := ⟨_, rfl⟩
    have hd1 : hd.length = 1 := by rw [ehd]; rfl
    rw [← ehd]
    clear g3
    -- stem
    refine ⟨⟨_, rfl⟩, _, rfl, p, c, ns, 10, _, rfl, g4.pen, by omega, by decide, by decide, fun H5 r g5 r0 r1 => ⟨_, rfl, by omega, by omega, fun L hL => ?_⟩⟩
    replace g5 := (g4.step g5).mono (B := B + 6) (by omega)
    have hL0 := g5.free hL
    refine lc_range (lo := 0) (n := r.toNat) (SgL signsL p c ns H L (B + 6)) ⟨[], g5.new hL, upd_same, rfl, by simp⟩ (fun i H6 hi hs => ?_) (fun H6 hs => ?_)
    · obtain ⟨cs, g6, _⟩ := id hs
      refine ⟨rfl, ?_⟩
      exact ⟨_, rfl, _, rfl, p, c, ns, _, B + 6 + i, rfl, g6.pen, by omega, .inr ⟨signs, rfl, by rw [signs_len]; decide, by rw [signs_len]; decide, fun H7 j g7 hj => hs.next hL0 g7 (by omega) hj⟩⟩
    obtain ⟨cs, g6, hL6, hl6, h16⟩ := hs
    have one1 : ∀ (cs : List Nat) (y : Str), y ∈ (cs.map fun c => (⟨#[c]⟩ : Str)) → y.length = 1 := fun cs y hy => by
      obtain ⟨c', _, rfl⟩ := List.mem_map.mp hy
      rfl
    refine ⟨_, L, cs.map fun c => (⟨#[c]⟩ : Str), rfl, rfl, .inl (SqL.of hL6), (by rw [len_sum1 _ (one1 cs), List.length_map]; show cs.length + cs.length * 0 ≤ _; omega), ?_⟩
    have hst2 := joinT_ones cs
    generalize Txt.join (Str.ofString "") (cs.map fun c => (⟨#[c]⟩ : Str)) = stem at hst2 ⊢
    have hstem : stem.length ≤ 9 := by rw [← tl_len, hst2, hl6]; omega
    have hsg : ∀ d ∈ stem.cps.toList, d ∈ signsL := by rw [hst2]; exact h16
    replace g6 : Go p c ns H H6 (B + 20) := g6.mono (by omega)
    clear g5 g4 hL6 hl6 h16 hst2
    -- at
    refine ⟨_, rfl, _, rfl, stem, rfl, by omega, _, _, rfl, rfl, p, c, ns, _, _, rfl, g6.pen, by omega, by omega, by omega, fun H7 at_ g7 a0 a1 => ?_⟩
    replace g7 := g6.step g7
    obtain ⟨atN, rfl⟩ : ∃ n : Nat, at_ = (n : Int) := ⟨at_.toNat, by omega⟩
    have W : Wds (wrdW hd stem atN frN st) 26 := wrdW_ok ehd hhc hstem hsg (by omega) hst
    -- gained
    refine ⟨Nat.zero_le _, fun q hq => ?_⟩
    have hq0 := g7.free hq
    have g8 : Go p c ns H (upd H7 q (.lst [])) (B + 21) := (g7.new hq).mono (by omega)
    have hq1 : upd H7 q (.lst []) q = some (.lst (((List.range 0).map (wrdW hd stem atN frN st)).map V.str)) := upd_same
    generalize upd H7 q (.lst []) = H8 at g8 hq1 ⊢
    clear g7 g6 hq
    refine ⟨_, rfl, m, rfl, by omega, by omega, for_range (lo := 0) (n := m.toNat) (fun i σ' H' => ∃ (o1 o2 o3 : Option V),
      σ' = [some (.ref p), some (.int m), some (.str small), some (.str signs), some (.int (frN : Int)), some (.int (st : Int)), some (.str hd), some (.str stem), some (.int (atN : Int)), some (.ref q), o1, o2, o3] ∧
      Go p c ns H H' (B + 21) ∧ H' q = some (.lst (((List.range i).map (wrdW hd stem atN frN st)).map V.str)))
      ⟨none, none, none, rfl, g8, hq1⟩ ?_ ?_⟩
    · rintro i σ' H9 hi ⟨o1, o2, o3, rfl, g, hL⟩
      have hi' : i < 26 := by omega
      have idx : ∀ n : Nat, ((frN : Int) + (st : Int) * (0 + (i : Int))) % ((n : Nat) : Int) = (((frN + st * i) % n : Nat) : Int) := fun n => by
        rw [Int.zero_add, Int.natCast_emod, Int.natCast_add, Int.natCast_mul]
      have eS : small.length = 26 := small_len
      have eG : signs.length = 36 := signs_len
      -- word, the first way
      refine ⟨_, rfl, _, rfl, _, rfl, _, rfl, _, _, rfl, rfl, mul_small (by omega), _, _, rfl, rfl, .inl ⟨_, rfl, _, _, rfl, rfl, (by show (0 : Int) < _; decide), small, _, sgN small frN st i, rfl, rfl, by omega, at_by (by rw [eS]; exact idx 26) (sgN_at small frN st i (by omega)), _, rfl, _, _, rfl, rfl, (by show 1 + stem.length ≤ sizeLine; omega), ?_⟩⟩
      try dsimp only
      refine seqIf_mid (fun σ' H' => ∃ o3 : Option V, σ' = [some (.ref p), some (.int m), some (.str small), some (.str signs), some (.int (frN : Int)), some (.int (st : Int)), some (.str hd), some (.str stem), some (.int (atN : Int)), some (.ref q), some (.int (0 + (i : Int))), some (.str (preW hd stem atN frN st i)), o3] ∧ H' = H9) (fun N hN => ?_) (fun σ' H' hm => ?_)
      · refine ⟨_, rfl, _, _, rfl, rfl, _, rfl, ite2 (fun h => ?_) (fun h => ?_)⟩
        · have h : (0 : Int) < (atN : Int) := of_decide_eq_true h
          have hne : ¬ atN = 0 := by omega
          have ea : (atN : Int) - 1 = ((atN - 1 : Nat) : Int) := by omega
          have cl1 := cutS_length stem none (some ((atN - 1 : Nat) : Int))
          have cl2 := cutS_length stem (some ((atN - 1 : Nat) : Int)) none
          refine ⟨_, rfl, _, rfl, _, rfl, _, rfl, _, _, rfl, rfl, mul_small (by omega), _, _, rfl, rfl, .inl ⟨_, rfl, _, _, rfl, rfl, (by show (0 : Int) < _; decide), signs, _, sgN signs frN st i, rfl, rfl, by omega, at_by (by rw [eG]; exact idx 36) (sgN_at signs frN st i (by omega)), ?_⟩⟩
          refine ⟨_, rfl, _, rfl, _, rfl, _, _, rfl, rfl, _, rfl, stem, rfl, by omega, ?_⟩
          rw [ea]
          refine ⟨_, _, rfl, rfl, (by rw [hd1]; omega), _, rfl, _, _, rfl, rfl, (by rw [Str.length_append, hd1]; show 1 + _ + 1 ≤ sizeLine; omega), _, rfl, _, rfl, _, _, rfl, rfl, _, rfl, stem, rfl, by omega, ?_⟩
          rw [ea]
          refine ⟨_, _, rfl, rfl, (by rw [Str.length_append, Str.length_append, hd1]; show 1 + _ + 1 + _ ≤ sizeLine; omega), hN _ _ ⟨some (.str ⟨#[sgN signs frN st i]⟩), ?_, rfl⟩⟩
          unfold preW
          rw [if_neg hne]
          rfl
        · have h : ¬ (0 : Int) < (atN : Int) := fun q => h (decide_eq_true q)
          have h0 : atN = 0 := by omega
          refine hN _ _ ⟨o3, ?_, rfl⟩
          unfold preW
          rw [if_pos h0]
          rfl
      obtain ⟨o4, rfl, rfl⟩ := hm
      have pl := preW_len (fr := frN) (st := st) (i := i) (at_ := atN) hd1 hstem
      have ef : wrdW hd stem atN frN st i = fixS (preW hd stem atN frN st i) := rfl
      generalize preW hd stem atN frN st i = pw at pl ef ⊢
      refine ⟨_, rfl, .inl ⟨rfl, _, SqL.of hL⟩, _, rfl, _, rfl, by show 2 ≤ sizeLine; decide, fun t ht => ?_⟩
      have gt := g.new (o := .lst [.str "new", .str "found"]) ht
      have hLt : upd H' t (.lst [.str "new", .str "found"]) q = some (.lst (((List.range i).map (wrdW hd stem atN frN st)).map V.str)) := by rw [upd_ne (ne_of_none hL ht)]; exact hL
      have ft : upd H' t (.lst [.str "new", .str "found"]) t = some (.lst [.str "new", .str "found"]) := upd_same
      generalize upd H' t (.lst [.str "new", .str "found"]) = Ha at gt hLt ft ⊢
      refine ⟨t, _, rfl, .inl (SqL.of ft), rfl, rfl, .inr ⟨_, rfl, ?_⟩⟩
      rw [in_two]
      refine ⟨_, _, rfl, rfl, by decide, _, _, rfl, rfl, ?_, q, _, _, rfl, rfl, hLt, by rw [List.length_map, List.length_map, List.length_range]; omega, ?_⟩
      · show pw.length + (if decide (pw = newW ∨ pw = foundW) = true then ("0" : Str) else Str.empty).length ≤ sizeLine
        split
        · show pw.length + 1 ≤ sizeLine
          omega
        · show pw.length + 0 ≤ sizeLine
          omega
      refine ⟨_, _, _, rfl, gt.mut hq0, ?_⟩
      simp only [Bool.false_eq_true, ↓reduceIte]
      rw [upd_same, fix_cat, ← ef, List.range_succ, List.map_append, List.map_append]
      rfl
    · rintro σ' H9 ⟨o1, o2, o3, rfl, g, hL⟩
      have good : ∀ y ∈ (List.range m.toNat).map (wrdW hd stem atN frN st), goodW y = true := fun y hy => by
        obtain ⟨j, hj, rfl⟩ := List.mem_map.mp hy
        rw [List.mem_range] at hj
        exact W.good j (by omega)
      have nd : ((List.range m.toNat).map (wrdW hd stem atN frN st)).Nodup := by
        refine List.pairwise_map.mpr (List.Pairwise.imp_of_mem ?_ (List.nodup_range (n := m.toNat)))
        intro a b ha hb ne q
        rw [List.mem_range] at ha hb
        exact ne (W.inj a b (by omega) (by omega) q)
      have len : ((List.range m.toNat).map (wrdW hd stem atN frN st)).length = m.toNat := by rw [List.length_map, List.length_range]
      generalize (List.range m.toNat).map (wrdW hd stem atN frN st) = ws at hL good nd len
      refine ⟨_, rfl, _, rfl, p, c, q, ns, _, ws, rfl, g.pen, by omega, SqL.of hL, by omega, fun y hy => ⟨by have := good_len (good y hy); omega, good_asc (good y hy)⟩, fun Hb q2 zs gb hq2 hz pm => ?_⟩
      exact k Hb q2 zs ((g.step gb).mono (by omega)) (g.free hq2) hz (by rw [pm.length_eq, len]; omega) (pm.nodup_iff.mpr nd) fun y hy => good y (pm.mem_iff.mp hy)
end
end Ask

namespace Ask
open PySem L2
theorem word_mark {z : Str} : wordS (tildeS ++ z) = z := by
  refine str_ext ?_
  show (wordOf (tildeS ++ z).cps.toList).toArray.toList = _
  have e2 : (tildeS ++ z).cps.toList = 126 :: z.cps.toList := by
    rw [app_list]
    have : tildeS.cps.toList = [126] := by decide +kernel
    rw [this]
    rfl
  rw [e2]
  rfl
/-- marked letters gs of the words ys -/
structure Mks (gs ys : List Str) : Prop where
  wd : gs.map wordS = ys
  ok : ∀ g ∈ gs, isLs g = true ∧ g.length ≤ 13 ∧ Asc g
theorem mark_ok {y : Str} (h : goodW y = true) (b : Bool) : wordS ((if b = true then ("~" : Str) else Str.empty) ++ y) = y ∧ isLs ((if b = true then ("~" : Str) else Str.empty) ++ y) = true ∧ ((if b = true then ("~" : Str) else Str.empty) ++ y).length ≤ 13 ∧ Asc ((if b = true then ("~" : Str) else Str.empty) ++ y) := by
  have gl := good_len h
  cases b with
  | false =>
    rw [if_neg (by decide), empty_app]
    exact ⟨word_same (good_no h), good_is h, by omega, good_asc h⟩
  | true =>
    rw [if_pos rfl]
    refine ⟨word_mark, tilde_is h, ?_, Asc.app (.lit (by decide)) (good_asc h)⟩
    rw [Str.length_append]
    show 1 + y.length ≤ 13
    omega
theorem Mks.nd {gs ys : List Str} (h : Mks gs ys) (nd : ys.Nodup) : gs.Nodup := by
  have := h.wd ▸ nd
  exact List.Pairwise.of_map wordS (fun a b ne e => ne (congrArg wordS e)) this
theorem Mks.more {gs ys : List Str} {g y : Str} (h : Mks gs ys) (e : wordS g = y) (k : isLs g = true ∧ g.length ≤ 13 ∧ Asc g) : Mks (gs ++ [g]) (ys ++ [y]) := by
  refine ⟨by rw [List.map_append, h.wd, ← e]; rfl, fun x hx => ?_⟩
  rcases List.mem_append.mp hx with hx | hx
  · exact h.ok x hx
  · rw [List.mem_singleton] at hx
    subst hx
    exact k
/-- the first one marked, put in anywhere -/
theorem Mks.insert {gs ys : List Str} {g : Str} (h : Mks gs ys) (nd : ys.Nodup) (good : ∀ y ∈ ys, goodW y = true) (hg : g ∈ gs) (hn : g.cps.toList.head? ≠ some 126) : (tildeS ++ g) ∉ gs ∧ isLs (tildeS ++ g) = true ∧ (tildeS ++ g).length ≤ 13 ∧ Asc (tildeS ++ g) := by
  have w := word_same hn
  have gy : goodW g = true := by
    refine good g ?_
    rw [← h.wd]
    exact List.mem_map.mpr ⟨g, hg, w⟩
  refine ⟨fun hz => ?_, tilde_is gy, ?_, Asc.app (.lit (by decide)) (good_asc gy)⟩
  · have nm : (gs.map wordS).Nodup := by rw [h.wd]; exact nd
    obtain ⟨i, hi⟩ := List.mem_iff_getElem?.mp hz
    obtain ⟨j, hj⟩ := List.mem_iff_getElem?.mp hg
    have e1 : (gs.map wordS)[i]? = some g := by rw [List.getElem?_map, hi]; exact congrArg some word_mark
    have e2 : (gs.map wordS)[j]? = some g := by rw [List.getElem?_map, hj]; exact congrArg some w
    have ij : i = j := (List.getElem?_inj (List.getElem?_eq_some_iff.mp e1).1 nm).mp (e1.trans e2.symm)
    subst ij
    rw [hi] at hj
    have q : tildeS ++ g = g := Option.some.inj hj
    have l := congrArg Str.length q
    rw [Str.length_append] at l
    have : tildeS.length = 1 := by decide +kernel
    omega
  · have gl := good_len gy
    rw [Str.length_append]
    show 1 + g.length ≤ 13
    omega
def nMr : List Str := ["_law_pen_here", "_law_words_here", "_law_gained", "_law_word"]
section
variable {P : Program} {w : World} {K : PySem.W.Frag} {mg : Str → Option Value} {base : Heap}
def spMarked (K : PySem.W.Frag) : Sp := fun vs H Q _ => ∃ (p c a : Addr) (ns : List Int) (B : Nat) (ys : List Str), vs = [.ref p, .ref a] ∧ Pen c ns H p B ∧ B ≤ 450000000 ∧ SqL K H a (ys.map V.str) ∧ 1 ≤ ys.length ∧ ys.length ≤ 10 ∧ ys.Nodup ∧ (∀ y ∈ ys, goodW y = true) ∧
  ∀ (H' : Hp) (q : Addr) (zs : List Str), Go p c ns H H' (B + 50) → H q = none → H' q = some (.lst (zs.map V.str)) → Lts zs → zs.length ≤ ys.length + 1 → Q (.ref q) H'
abbrev s__law_marked : Stmt := top 71
theorem sc__law_marked : FnScope nMr ["_law_pen_here", "_law_words_here"] (defScope s__law_marked) := ⟨rfl, rfl, rfl, by decide +kernel, rfl, by decide +kernel, by decide +kernel⟩
theorem ok_marked {f fD : Addr} {fd fdD : FuncData} (F : Fun K "_law_marked" "_law_marked" s__law_marked f fd) (T : Blt mg)
    (GD : FnOk P w K mg base CX0 1 fD fdD ["_law_pen_here", "_law_many"] spDraw) (D : At K mg "_law_draw" fD fdD ["_law_pen_here", "_law_many"]) :
    FnOk P w K mg base CX0 2 f fd ["_law_pen_here", "_law_words_here"] (spMarked K) := by
  refine F.ok sc__law_marked (fun vs H Q E h => ?_) (fun cdv A outer s H vs Q E hr h => ?_)
  · obtain ⟨p, c, a, ns, B, ys, rfl, _⟩ := h
    rfl
  · obtain ⟨p, c, a, ns, B, ys, rfl, hpen, hB, hS, l1, l2, nd, good, k⟩ := h
    refine ⟨_, (pss_cons (ps_setLc (i := 2) (own := [("_law_word", 3)]) rfl sc__law_marked.nd rfl rfl (sw_true rfl rfl rfl (by decide +kernel)) (pi_list (pv 1)) (blkOk_by (N := nMr) (sc := defScope s__law_marked) (by decide +kernel)) (fun _ _ _ _ _ => (pg_name (i := 3) sc__law_marked.nd rfl (Or.inl rfl))) (fun _ _ _ _ _ => pts_nil) (fun _ _ _ _ _ => (pe_op op_add_str (pe_op op_mulB pe_str (pe_callTy call_int1 (by rfl) T.n_int (by decide +kernel) (pa_cons (pe_cmpR op_eq (pe_call GD (by exact hr) (by rfl) D.m D.k D.b .nil pass0 (pa_cons (pv 0) (pa_cons pe_int pa_nil))) pe_int (nomark _)) pa_nil))) (pv 3))))
      (pss_cons (ps_if (PW.pt (pw_and (pt_cmpR op_eq (pe_call GD (by exact hr) (by rfl) D.m D.k D.b .nil pass0 (pa_cons (pv 0) (pa_cons pe_int pa_nil))) pe_int (nomark _)) (pw_and (pt_cmpR op_lt (pe_callB call_len_seq (by rfl) T.n_len (by decide +kernel) (pa_cons (pv 2) pa_nil)) pe_int (nomark _)) (pw_and1 (pt_cmpR op_ne (pe_ix ix_str (pe_ix ix_list (pv 2) pe_int (fun _ _ => rfl)) pe_int (fun _ _ => rfl)) pe_str (nomark _)))))) (pss_one (ps_expr (pe_bm PySem.F.plainAttrs_list PySem.F.slot_list_insert ty_insert mt_insert (pv 2) (pa_cons (pe_call GD (by exact hr) (by rfl) D.m D.k D.b .nil pass0 (pa_cons (pv 0) (pa_cons (pe_op op_add (pe_callB call_len_seq (by rfl) T.n_len (by decide +kernel) (pa_cons (pv 2) pa_nil)) pe_int) pa_nil))) (pa_cons (pe_op op_add_str pe_str (pe_ix ix_list (pv 2) pe_int (fun _ _ => rfl))) pa_nil))))) pss_nil)
      (pss_one (ps_ret (pv 2))))), ?_⟩
    have z1 : (1000 : Nat) ≤ sizeLine := by decide
    refine ⟨_, rfl, a, rfl, ⟨_, hS⟩, fun L hL => ?_⟩
    refine lc_it (walk_list (xs := ys.map V.str)) (fun i H' => ∃ gs, Go p c ns H H' (B + i) ∧ H' L = some (.lst (gs.map V.str)) ∧ Mks gs (ys.take i)) ⟨[], (Go.refl hpen).new hL, upd_same, rfl, fun g hg => by cases hg⟩ (fun i H' _ hh => by obtain ⟨gs, g, _⟩ := hh; exact g.seq hS) ?_ ?_
    · rintro i v H2 H3 hi ⟨gs, g2, eL, mk⟩ ⟨rfl, hv⟩
      rw [List.getElem?_map] at hv
      rw [List.length_map] at hi
      cases hz : ys[i]? with
      | none => rw [hz] at hv; cases hv
      | some y =>
        rw [hz] at hv
        cases hv
        have gy := good y (List.mem_of_getElem? hz)
        have gl := good_len gy
        have lg : gs.length = i := by
          have := congrArg List.length mk.wd
          rw [List.length_map, List.length_take] at this
          omega
        refine ⟨rfl, _, rfl, p, c, ns, 4, _, rfl, g2.pen, by omega, by decide, by decide, fun H4 r g4 r0 r1 => ?_⟩
        refine ⟨rfl, .inr ⟨_, rfl, _, _, rfl, rfl, by decide, _, rfl, _, _, rfl, rfl, ?_, ?_⟩⟩
        · have := (mark_ok gy (decide (V.int r = V.int 0))).2.2.1
          rw [Str.length_append] at this
          omega
        obtain ⟨m1, m2⟩ := mark_ok gy (decide (V.int r = V.int 0))
        have eL4 := g4.lst eL
        refine ⟨_, eL4, by rw [List.length_map, lg]; omega, gs ++ [(if decide (V.int r = V.int 0) = true then ("~" : Str) else Str.empty) ++ y], ((g2.step g4).mut hL).mono (by omega), ?_, ?_⟩
        · rw [upd_same, List.map_append]
          rfl
        · have e : ys.take (i + 1) = ys.take i ++ [y] := by rw [List.take_add_one, hz]; rfl
          rw [e]
          exact mk.more m1 m2
    · rintro H2 ⟨gs, g2, eL, mk⟩
      rw [List.length_map, List.take_length] at mk
      rw [List.length_map] at g2
      have lg : gs.length = ys.length := by
        have := congrArg List.length mk.wd
        rw [List.length_map] at this
        exact this
      have lts : Lts gs := ⟨mk.nd nd, mk.ok, by omega, by omega⟩
      try dsimp only
      refine seqIf_mid (fun σ' H' => ∃ zs, σ' = [some (.ref p), some (.ref a), some (.ref L), none] ∧ Go p c ns H H' (B + 20) ∧ H' L = some (.lst (zs.map V.str)) ∧ Lts zs ∧ zs.length ≤ ys.length + 1) (fun N hN => ?_) (fun σ' H' hm => ?_)
      · refine ⟨_, rfl, p, c, ns, 3, _, rfl, g2.pen, by omega, by decide, by decide, fun H3 r g3 r0 r1 => ?_⟩
        have eL3 := g3.lst eL
        replace g3 := (g2.step g3).mono (B := B + 12) (by omega)
        have same : N [some (.ref p), some (.ref a), some (.ref L), none] H3 := hN _ _ ⟨gs, rfl, g3.mono (by omega), eL3, lts, by omega⟩
        refine ⟨rfl, _, rfl, ite2 (fun _ => ?_) (fun _ => same)⟩
        refine ⟨_, rfl, L, _, rfl, .inl (SqL.of eL3), _, _, rfl, rfl, _, rfl, ite2 (fun _ => ?_) (fun _ => same)⟩
        obtain ⟨g0, hg0⟩ : ∃ g0, gs[0]? = some g0 := ⟨_, List.getElem?_eq_getElem (by omega)⟩
        have m0 := List.mem_of_getElem? hg0
        have at0 : atI (gs.map V.str) 0 = some (.str g0) := at_by (j := 0) rfl (by rw [List.getElem?_map, hg0]; rfl)
        obtain ⟨k1, k2, k3⟩ := mk.ok g0 m0
        obtain ⟨c0, hc0⟩ : ∃ c0, g0.cps.toList[0]? = some c0 := by
          have y1 : goodW (wordS g0) = true := k1
          have y2 := (short_len (good_short y1)).1
          have y3 : (wordS g0).cps.toList = wordOf g0.cps.toList := rfl
          cases q : g0.cps.toList with
          | nil =>
            rw [y3, q] at y2
            exact absurd y2 (by decide)
          | cons a b => exact ⟨a, rfl⟩
        refine ⟨_, rfl, L, _, _, _, rfl, rfl, SqL.of eL3, at0, g0, _, c0, rfl, rfl, by omega, at_by (j := 0) rfl hc0, rfl, _, rfl, ite2 (fun hne => ?_) (fun _ => same)⟩
        have hne : ¬ (V.str ⟨#[c0]⟩ = V.str ("~" : Str)) := fun q => by
          rw [decide_eq_true q] at hne
          cases hne
        have nh : g0.cps.toList.head? ≠ some 126 := fun q => by
          cases ql : g0.cps.toList with
          | nil => rw [ql] at hc0; cases hc0
          | cons a b =>
            rw [ql] at hc0 q
            cases hc0
            cases q
            exact hne (congrArg V.str (by decide +kernel))
        obtain ⟨i1, i2⟩ := mk.insert nd good m0 nh
        refine ⟨_, rfl, .inl ⟨rfl, _, SqL.of eL3⟩, _, rfl, _, rfl, L, _, rfl, .inl (SqL.of eL3), _, _, rfl, rfl, p, c, ns, _, _, rfl, g3.pen, by omega, by omega, by rw [List.length_map]; omega, fun H4 r4 g4 q0 q1 => ?_⟩
        rw [List.length_map] at q1
        have eL4 := g4.lst eL3
        refine ⟨_, rfl, L, _, _, _, rfl, rfl, SqL.of eL4, at0, _, _, rfl, rfl, by show 1 + g0.length ≤ sizeLine; omega, ?_⟩
        refine ⟨L, _, _, _, rfl, rfl, eL4, by rw [List.length_map]; omega, q0, by omega, hN _ _ ⟨gs.take r4.toNat ++ [tildeS ++ g0] ++ gs.drop r4.toNat, rfl, ((g3.step g4).mut hL).mono (by omega), ?_, ?_, ?_⟩⟩
        · rw [upd_same, List.map_append, List.map_append, List.map_take, List.map_drop]
          rfl
        · have pm : (gs.take r4.toNat ++ [tildeS ++ g0] ++ gs.drop r4.toNat).Perm ((tildeS ++ g0) :: gs) := by
            have e : gs = gs.take r4.toNat ++ gs.drop r4.toNat := (List.take_append_drop _ _).symm
            rw [List.append_assoc]
            refine (List.perm_middle (a := tildeS ++ g0) (l₁ := gs.take r4.toNat) (l₂ := gs.drop r4.toNat)).trans ?_
            rw [← e]
          refine ⟨pm.nodup_iff.mpr (List.nodup_cons.mpr ⟨i1, mk.nd nd⟩), fun y hy => ?_, ?_, ?_⟩
          · rcases List.mem_cons.mp (pm.mem_iff.mp hy) with rfl | hy
            · exact i2
            · exact mk.ok y hy
          · rw [pm.length_eq, List.length_cons]
            omega
          · rw [pm.length_eq, List.length_cons]
            omega
        · rw [List.length_append, List.length_append, List.length_take, List.length_drop]
          show _ + 1 + _ ≤ _
          omega
      · obtain ⟨zs, rfl, g3, e3, lz, lz2⟩ := hm
        exact ⟨_, rfl, k H' L zs (g3.mono (by omega)) hL e3 lz lz2⟩
end
end Ask

namespace Ask
open PySem L2 LamX NdefX
theorem cut_any (xs : List V) (n : Nat) : cutV xs none (some (n : Int)) = xs.take n := by
  by_cases h : n ≤ xs.length
  · exact cutV_take xs n h
  · rw [cutV_whole xs n (by omega), List.take_of_length_le (by omega)]
theorem take_map {α β : Type} (f : α → β) (xs : List α) (n : Nat) : (xs.map f).take n = (xs.take n).map f := (List.map_take ..).symm


section
variable {P : Program} {w : World} {K : PySem.W.Frag} {mg : Str → Option Value} {base : Heap}
def FitP (ys : List Str) : Prop := ∀ y ∈ ys, y.length ≤ 500 ∧ Asc y
def spSome (K : PySem.W.Frag) : Sp := fun vs H Q _ => ∃ (p c a : Addr) (ns : List Int) (B : Nat) (ys : List Str), vs = [.ref p, .ref a] ∧ Pen c ns H p B ∧ B ≤ 400000000 ∧ SqL K H a (ys.map V.str) ∧ 1 ≤ ys.length ∧ ys.length ≤ 100 ∧ FitP ys ∧
  ∀ (H' : Hp) (q : Addr) (zs : List Str), Go p c ns H H' (B + 101) → H' q = some (.lst (zs.map V.str)) → H q = none → zs ≠ [] → (∀ z ∈ zs, z ∈ ys) → zs.length ≤ ys.length → Q (.ref q) H'
abbrev s__law_some : Stmt := top 69
theorem sc__law_some : FnScope ["_law_pen_here", "_law_items"] ["_law_pen_here", "_law_items"] (defScope s__law_some) := ⟨rfl, rfl, rfl, by decide +kernel, rfl, by decide +kernel, by decide +kernel⟩
theorem ok_some {f fD fS : Addr} {fd fdD fdS : FuncData} (F : Fun K "_law_some" "_law_some" s__law_some f fd) (T : Blt mg)
    (G__law_draw : FnOk P w K mg base CX0 1 fD fdD ["_law_pen_here", "_law_many"] spDraw) (A__law_draw : At K mg "_law_draw" fD fdD ["_law_pen_here", "_law_many"])
    (G__law_shuffled : FnOk P w K mg base CX0 2 fS fdS ["_law_pen_here", "_law_items"] (spShuf K)) (A__law_shuffled : At K mg "_law_shuffled" fS fdS ["_law_pen_here", "_law_items"]) :
    FnOk P w K mg base CX0 3 f fd ["_law_pen_here", "_law_items"] (spSome K) := by
  refine F.ok sc__law_some (fun vs H Q E h => ?_) (fun cdv A outer s H vs Q E hr h => ?_)
  · obtain ⟨p, c, a, ns, B, ys, rfl, _⟩ := h
    rfl
  · obtain ⟨p, c, a, ns, B, ys, rfl, hpen, hB, hS, l1, l2, hf, kq⟩ := h
    have h__law_draw := hr.mono (j := 1) (by decide)
    have h__law_shuffled := hr.mono (j := 2) (by decide)
    refine ⟨_, (pss_one (ps_ret (pe_slice sl_list (pe_call G__law_shuffled (by exact h__law_shuffled) (by rfl) A__law_shuffled.m A__law_shuffled.k A__law_shuffled.b .nil pass0 (pa_cons (pv 0) (pa_cons (pv 1) pa_nil))) po_none (po_some (pe_op op_add pe_int (pe_call G__law_draw (by exact h__law_draw) (by rfl) A__law_draw.m A__law_draw.k A__law_draw.b .nil pass0 (pa_cons (pv 0) (pa_cons (pe_callB call_len_seq (by rfl) T.n_len (by decide +kernel) (pa_cons (pv 1) pa_nil)) pa_nil)))))))), ?_⟩
    refine ⟨_, rfl, _, rfl, p, c, a, ns, B, ys, rfl, hpen, by omega, hS, l2, hf, fun H1 q zs g1 nq eq pm => ?_⟩
    have hS1 := g1.seq hS
    refine ⟨_, rfl, _, rfl, a, _, rfl, .inl hS1, p, c, ns, _, B + 100, rfl, g1.pen, by omega, by rw [List.length_map]; omega, by rw [List.length_map]; omega, fun H2 r g2 r0 r1 => ?_⟩
    obtain ⟨r, rfl⟩ : ∃ y : Nat, r = (y : Int) := ⟨r.toNat, by omega⟩
    rw [List.length_map] at r1
    refine ⟨_, _, rfl, rfl, _, rfl, q, _, rfl, SqL.of (g2.lst eq), fun u hu => ?_⟩
    have s3 := Ask.Same.made1 (o := .lst (cutV (zs.map V.str) none (some (1 + (r : Int))))) (Same.refl H2) hu
    refine kq _ u (zs.take (1 + r)) ((g1.step g2).same s3) ?_ ((g1.step g2).free hu) ?_ (fun z hz => pm.mem_iff.mp (List.mem_of_mem_take hz)) ?_
    · rw [upd_same, show (1 + (r : Int)) = ((1 + r : Nat) : Int) from by omega, cut_any, take_map]
    · intro e
      have := congrArg List.length e
      rw [List.length_take, pm.length_eq] at this
      simp only [List.length_nil] at this
      omega
    · rw [List.length_take, pm.length_eq]
      omega
def spAnsw (K : PySem.W.Frag) : Sp := fun vs H Q _ => ∃ (p c a : Addr) (ns : List Int) (B : Nat) (ys : List Str), vs = [.ref p, .ref a] ∧ Pen c ns H p B ∧ B ≤ 300000000 ∧ SqL K H a (ys.map V.str) ∧ 1 ≤ ys.length ∧ ys.length ≤ 50 ∧ FitP ys ∧
  ∀ (H' : Hp) (q : Addr) (zs ks : List Str), Go p c ns H H' (B + 300) → H' q = some (.lst (zs.map V.str)) → zs ≠ [] → (∀ z ∈ zs, z ∈ ys) → zs.length ≤ 12 → SetOfS zs ks → ks.length ≤ 6 → Q (.ref q) H'
abbrev s__law_answers : Stmt := top 74
theorem sc__law_answers : FnScope ["_law_pen_here", "_law_pool", "_law_gained"] ["_law_pen_here", "_law_pool"] (defScope s__law_answers) := ⟨rfl, rfl, rfl, by decide +kernel, rfl, by decide +kernel, by decide +kernel⟩
theorem ok_answ {f fD fS fM : Addr} {fd fdD fdS fdM : FuncData} (F : Fun K "_law_answers" "_law_answers" s__law_answers f fd) (T : Blt mg)
    (G__law_draw : FnOk P w K mg base CX0 1 fD fdD ["_law_pen_here", "_law_many"] spDraw) (A__law_draw : At K mg "_law_draw" fD fdD ["_law_pen_here", "_law_many"])
    (G__law_shuffled : FnOk P w K mg base CX0 2 fS fdS ["_law_pen_here", "_law_items"] (spShuf K)) (A__law_shuffled : At K mg "_law_shuffled" fS fdS ["_law_pen_here", "_law_items"])
    (G__law_some : FnOk P w K mg base CX0 3 fM fdM ["_law_pen_here", "_law_items"] (spSome K)) (A__law_some : At K mg "_law_some" fM fdM ["_law_pen_here", "_law_items"]) :
    FnOk P w K mg base CX0 4 f fd ["_law_pen_here", "_law_pool"] (spAnsw K) := by
  refine F.ok sc__law_answers (fun vs H Q E h => ?_) (fun cdv A outer s H vs Q E hr h => ?_)
  · obtain ⟨p, c, a, ns, B, ys, rfl, _⟩ := h
    rfl
  · obtain ⟨p, c, a, ns, B, ys, rfl, hpen, hB, hS, l1, l2, hf, kq⟩ := h
    have h__law_draw := hr.mono (j := 1) (by decide)
    have h__law_shuffled := hr.mono (j := 2) (by decide)
    have h__law_some := hr.mono (j := 3) (by decide)
    have z1 : (100000 : Nat) ≤ sizeLine := by decide
    refine ⟨_, (pss_cons (ps_set (i := 2) sc__law_answers.nd rfl (Or.inl rfl) (pe_slice sl_list (pe_call G__law_some (by exact h__law_some) (by rfl) A__law_some.m A__law_some.k A__law_some.b .nil pass0 (pa_cons (pv 0) (pa_cons (pv 1) pa_nil))) po_none (po_some pe_int)))
      (pss_one (ps_ret (pe_call G__law_shuffled (by exact h__law_shuffled) (by rfl) A__law_shuffled.m A__law_shuffled.k A__law_shuffled.b .nil pass0 (pa_cons (pv 0) (pa_cons (pe_op op_cat (pv 2) (pe_slice sl_list (pv 2) po_none (po_some (pe_call G__law_draw (by exact h__law_draw) (by rfl) A__law_draw.m A__law_draw.k A__law_draw.b .nil pass0 (pa_cons (pv 0) (pa_cons pe_int pa_nil)))))) pa_nil)))))), ?_⟩
    refine ⟨_, rfl, _, rfl, p, c, a, ns, B, ys, rfl, hpen, by omega, hS, l1, by omega, hf, fun H1 q zs g1 eq nq ne sb lz => ?_⟩
    refine ⟨_, rfl, q, _, rfl, SqL.of eq, fun u hu => ?_⟩
    rw [show (6 : Int) = ((6 : Nat) : Int) from rfl, cut_any, take_map]
    have s2 := Ask.Same.made1 (o := .lst ((zs.take 6).map V.str)) (Same.refl H1) hu
    have e2 : upd H1 u (.lst ((zs.take 6).map V.str)) u = some (.lst ((zs.take 6).map V.str)) := upd_same
    generalize upd H1 u (.lst ((zs.take 6).map V.str)) = H2 at s2 e2 ⊢
    have g2 := g1.same s2
    have gs6 : (zs.take 6).length ≤ 6 := by rw [List.length_take]; omega
    have gsn : zs.take 6 ≠ [] := by
      cases zs with
      | nil => exact absurd rfl ne
      | cons x r => exact fun z => nomatch z
    have gsy : ∀ z ∈ zs.take 6, z ∈ ys := fun z hz => sb z (List.mem_of_mem_take hz)
    generalize zs.take 6 = gs at e2 gs6 gsn gsy ⊢
    try dsimp only
    refine ⟨_, rfl, _, rfl, _, rfl, _, rfl, p, c, ns, 3, _, rfl, g2.pen, by omega, by decide, by decide, fun H3 r g3 r0 r1 => ?_⟩
    obtain ⟨r, rfl⟩ : ∃ y : Nat, r = (y : Int) := ⟨r.toNat, by omega⟩
    have e3 := g3.lst e2
    refine ⟨_, rfl, u, _, rfl, SqL.of e3, fun v hv => ?_⟩
    rw [cut_any, take_map]
    have s4 := Ask.Same.made1 (o := .lst ((gs.take r).map V.str)) (Same.refl H3) hv
    have e4 : upd H3 v (.lst ((gs.take r).map V.str)) v = some (.lst ((gs.take r).map V.str)) := upd_same
    generalize upd H3 v (.lst ((gs.take r).map V.str)) = H4 at s4 e4 ⊢
    have gr : (gs.take r).length ≤ 6 := by rw [List.length_take]; omega
    refine ⟨_, _, _, _, rfl, rfl, s4 _ _ e3, e4, by rw [List.length_map, List.length_map]; omega, fun x hx => ?_⟩
    have s5 := Ask.Same.made1 (o := .lst (gs.map V.str ++ (gs.take r).map V.str)) (Same.refl H4) hx
    have e5 : upd H4 x (.lst (gs.map V.str ++ (gs.take r).map V.str)) x = some (.lst ((gs ++ gs.take r).map V.str)) := by rw [upd_same, List.map_append]
    generalize upd H4 x (.lst (gs.map V.str ++ (gs.take r).map V.str)) = H5 at s5 e5 ⊢
    have g5 := (g2.step g3).same (s4.trans s5)
    have l5 : (gs ++ gs.take r).length ≤ 12 := by rw [List.length_append]; omega
    have m5 : ∀ z ∈ gs ++ gs.take r, z ∈ gs := fun z hz => (List.mem_append.mp hz).elim id List.mem_of_mem_take
    refine ⟨p, c, x, ns, _, _, rfl, g5.pen, by omega, SqL.of e5, by omega, fun y hy => hf y (gsy y (m5 y hy)), fun H6 t ts g6 nt et pm => ?_⟩
    obtain ⟨ks, so⟩ := setOf_ex ts
    have mt : ∀ z ∈ ts, z ∈ gs := fun z hz => m5 z (pm.mem_iff.mp hz)
    refine kq H6 t ts ks ((g5.step g6).mono (by omega)) et ?_ (fun z hz => gsy z (mt z hz)) (by rw [pm.length_eq]; exact l5) so ?_
    · intro e
      have := pm.length_eq
      rw [e, List.length_append] at this
      cases gs with
      | nil => exact gsn rfl
      | cons y q => simp only [List.length_nil, List.length_cons] at this; omega
    · rw [dst_len so]
      exact Nat.le_trans (dst_le mt) gs6
end
end Ask

namespace Ask
open PySem L2 LamX NdefX



def onV : Option Nat → V
  | some j => .int (j : Nat)
  | none => .non
theorem turn_ne {i d n : Nat} (hi : i < n) (hd : d < n - 1) : (i + 1 + d) % n < n ∧ (i + 1 + d) % n ≠ i := by
  refine ⟨Nat.mod_lt _ (by omega), ?_⟩
  by_cases c : i + 1 + d < n
  · rw [Nat.mod_eq_of_lt c]; omega
  · rw [Nat.mod_eq_sub_mod (by omega), Nat.mod_eq_of_lt (by omega)]; omega
section
variable {P : Program} {w : World} {K : PySem.W.Frag} {mg : Str → Option Value} {base : Heap}
structure SaidOk (n : Nat) (k : Str) (i : Nat) (o : Option Nat) : Prop where
  hk : k ∈ KL
  hi : i < n
  hl : k ∈ LK → o = none
  hs : k ∉ LK → ∃ j, o = some j ∧ j < n ∧ (k = "alike" → j ≠ i)
def spSaid : Sp := fun vs H Q _ => ∃ (p c : Addr) (ns : List Int) (B n : Nat), vs = [.ref p, .int (n : Nat)] ∧ Pen c ns H p B ∧ B ≤ 400000000 ∧ 1 ≤ n ∧ n ≤ 100 ∧
  ∀ (H' : Hp) (t : Addr) (k : Str) (i : Nat) (o : Option Nat), Go p c ns H H' (B + 5) → H' t = some (.tup [.str k, .int (i : Nat), onV o]) → SaidOk n k i o → Q (.ref t) H'
theorem map_mem {v : V} {l : List Str} (h : v ∈ l.map V.str) : ∃ z, v = .str z ∧ z ∈ l := let ⟨z, a, b⟩ := List.mem_map.mp h; ⟨z, b.symm, a⟩
theorem dec_str (a b : Str) : decide (V.str a = V.str b) = decide (a = b) := decide_eq_decide.mpr ⟨fun q => V.str.inj q, fun q => by rw [q]⟩
abbrev s__law_said : Stmt := top 72
theorem sc__law_said : FnScope ["_law_pen_here", "_law_many", "_law_kind", "_law_one"] ["_law_pen_here", "_law_many"] (defScope s__law_said) := ⟨rfl, rfl, rfl, by decide +kernel, rfl, by decide +kernel, by decide +kernel⟩
theorem ok_said {f fD fP : Addr} {fd fdD fdP : FuncData} (F : Fun K "_law_said" "_law_said" s__law_said f fd) (T : Blt mg)
    (G__law_draw : FnOk P w K mg base CX0 1 fD fdD ["_law_pen_here", "_law_many"] spDraw) (A__law_draw : At K mg "_law_draw" fD fdD ["_law_pen_here", "_law_many"])
    (G__law_pick : FnOk P w K mg base CX0 2 fP fdP ["_law_pen_here", "_law_items"] (spPick K)) (A__law_pick : At K mg "_law_pick" fP fdP ["_law_pen_here", "_law_items"]) :
    FnOk P w K mg base CX0 3 f fd ["_law_pen_here", "_law_many"] spSaid := by
  refine F.ok sc__law_said (fun vs H Q E h => ?_) (fun cdv A outer s H vs Q E hr h => ?_)
  · obtain ⟨p, c, ns, B, n, rfl, _⟩ := h
    rfl
  · obtain ⟨p, c, ns, B, n, rfl, hpen, hB, l1, l2, kq⟩ := h
    have h__law_draw := hr.mono (j := 1) (by decide)
    have h__law_pick := hr.mono (j := 2) (by decide)
    have z1 : (100000 : Nat) ≤ sizeLine := by decide
    refine ⟨_, (pss_cons (ps_set (i := 2) sc__law_said.nd rfl (Or.inl rfl) (pe_call G__law_pick (by exact h__law_pick) (by rfl) A__law_pick.m A__law_pick.k A__law_pick.b .nil pass0 (pa_cons (pv 0) (pa_cons (pe_lst (pa_cons pe_str (pa_cons pe_str (pa_cons pe_str (pa_cons pe_str (pa_cons pe_str (pa_cons pe_str pa_nil))))))) pa_nil))))
      (pss_cons (ps_set (i := 3) sc__law_said.nd rfl (Or.inl rfl) (pe_call G__law_draw (by exact h__law_draw) (by rfl) A__law_draw.m A__law_draw.k A__law_draw.b .nil pass0 (pa_cons (pv 0) (pa_cons (pv 1) pa_nil))))
      (pss_cons (ps_if (PW.pt (pw_and (pt_cmpR op_eq (pv 2) pe_str (nomark _)) (pw_and1 (pt_cmpR op_eq (pv 1) pe_int (nomark _))))) (pss_one (ps_set (i := 2) sc__law_said.nd rfl (Or.inl rfl) pe_str)) pss_nil)
      (pss_cons (ps_if (pt_cmpR op_eq (pv 2) pe_str (nomark _)) (pss_one (ps_ret (pe_tup (pa_cons (pv 2) (pa_cons (pv 3) (pa_cons (pe_op op_mod (pe_callTy call_int1 (by rfl) T.n_int (by decide +kernel) (pa_cons (pe_op op_add (pe_op op_add (pv 3) pe_int) (pe_call G__law_draw (by exact h__law_draw) (by rfl) A__law_draw.m A__law_draw.k A__law_draw.b .nil pass0 (pa_cons (pv 0) (pa_cons (pe_op op_sub (pv 1) pe_int) pa_nil)))) pa_nil)) (pv 1)) pa_nil)))))) pss_nil)
      (pss_cons (ps_if (pt_cmpR op_in_seq (pv 2) (pe_lst (pa_cons pe_str (pa_cons pe_str pa_nil))) rfl) (pss_one (ps_ret (pe_tup (pa_cons (pv 2) (pa_cons (pv 3) (pa_cons pe_non pa_nil)))))) pss_nil)
      (pss_one (ps_ret (pe_tup (pa_cons (pv 2) (pa_cons (pv 3) (pa_cons (pe_call G__law_draw (by exact h__law_draw) (by rfl) A__law_draw.m A__law_draw.k A__law_draw.b .nil pass0 (pa_cons (pv 0) (pa_cons (pv 1) pa_nil))) pa_nil))))))))))), ?_⟩
    refine ⟨_, rfl, by show 6 ≤ sizeLine; omega, fun l hl => ?_⟩
    have s1 := Ask.Same.made1 (o := .lst (KL.map V.str)) (Same.refl H) hl
    have e1 : upd H l (.lst (KL.map V.str)) l = some (.lst (KL.map V.str)) := upd_same
    show tNil _ (upd H l (.lst (KL.map V.str))) _
    generalize upd H l (.lst (KL.map V.str)) = H1 at s1 e1 ⊢
    have g1 := (Go.refl hpen).same s1
    refine ⟨p, c, ns, .ref l, _, rfl, g1.pen, by omega, .inl ⟨l, _, rfl, SqL.of e1, by show 0 < 6; decide, by show 6 ≤ 1000; decide, fun H2 v g2 hv => ?_⟩⟩
    obtain ⟨k, rfl, hk⟩ := map_mem hv
    have g12 := g1.step g2
    try dsimp only
    refine ⟨_, rfl, _, rfl, p, c, ns, _, _, rfl, g12.pen, by omega, by omega, by omega, fun H3 r g3 r0 r1 => ?_⟩
    obtain ⟨i, rfl⟩ : ∃ y : Nat, r = (y : Int) := ⟨r.toNat, by omega⟩
    have g13 := g12.step g3
    try dsimp only
    refine seqIf_mid (fun σ' H' => ∃ k' : Str, σ' = [some (.ref p), some (.int (n : Nat)), some (.str k'), some (.int (i : Nat))] ∧ H3 = H' ∧ k' ∈ KL ∧ (k' = "alike" → 2 ≤ n)) (fun K' hK => ?_) ?_
    · refine ⟨_, rfl, rfl, _, rfl, ?_⟩
      rw [dec_str]
      by_cases a : k = "alike"
      · rw [decide_eq_true a]
        refine iteT ⟨_, rfl, rfl, _, rfl, ?_⟩
        by_cases b : n = 1
        · rw [show decide (V.int (n : Nat) = V.int 1) = true from decide_eq_true (by rw [b]; rfl)]
          exact iteT (hK _ _ ⟨"undone", rfl, rfl, by decide +kernel, fun z => absurd z (by decide +kernel)⟩)
        · rw [show decide (V.int (n : Nat) = V.int 1) = false from decide_eq_false fun z => b (by have := V.int.inj z; omega)]
          exact iteF (hK _ _ ⟨k, rfl, rfl, hk, fun _ => by omega⟩)
      · rw [decide_eq_false a]
        exact iteF (iteF (hK _ _ ⟨k, rfl, rfl, hk, fun z => absurd z a⟩))
    rintro σ' H' ⟨k', rfl, rfl, hk', h2⟩
    clear hk hv
    generalize k' = k at hk' h2 ⊢
    clear k'
    have in2 : i < n := by omega
    try dsimp only
    refine seqIf_mid (fun σ' H' => σ' = [some (.ref p), some (.int (n : Nat)), some (.str k), some (.int (i : Nat))] ∧ H3 = H' ∧ k ≠ "alike") (fun K' hK => ?_) ?_
    · refine ⟨_, rfl, rfl, _, rfl, ?_⟩
      rw [dec_str]
      by_cases a : k = "alike"
      · rw [decide_eq_true a]
        have n2 := h2 a
        refine iteT ⟨_, rfl, _, rfl, _, rfl, _, _, rfl, rfl, _, rfl, _, rfl, _, _, rfl, rfl, p, c, ns, ((n - 1 : Nat) : Int), _, ?_, g13.pen, by omega, by omega, by have := l2; omega, fun H4 d g4 d0 d1 => ⟨_, _, rfl, rfl, .inl ⟨_, rfl, _, rfl, _, _, rfl, rfl, by show (0 : Int) < (n : Nat); omega, ?_⟩⟩⟩
        · rw [show ((n - 1 : Nat) : Int) = (n : Int) - 1 from by omega]; rfl
        obtain ⟨d, rfl⟩ : ∃ y : Nat, d = (y : Int) := ⟨d.toNat, by omega⟩
        have ee : ((i : Int) + 1 + (d : Int)) % (n : Nat) = (((i + 1 + d) % n : Nat) : Int) := by
          have := Int.natCast_emod (i + 1 + d) n
          push_cast at this
          exact this.symm
        show (_ : Nat) ≤ _ ∧ ∀ (t : Addr), H4 t = none → Q (.ref t) (upd H4 t (.tup [.str k, .int (i : Nat), .int (((i : Int) + 1 + (d : Int)) % (n : Nat))]))
        rw [ee]
        obtain ⟨t1, t2⟩ := turn_ne (d := d) in2 (by omega)
        refine ⟨by show 3 ≤ sizeLine; omega, fun t ht => ?_⟩
        have s5 := Ask.Same.made1 (o := .tup [.str k, .int (i : Nat), .int (((i + 1 + d) % n : Nat) : Int)]) (Same.refl H4) ht
        exact kq _ t k i (some ((i + 1 + d) % n)) (((g13.step g4).same s5).mono (by omega)) upd_same ⟨hk', in2, fun z => absurd a (lk_kl k z).2, fun _ => ⟨_, rfl, t1, fun _ => t2⟩⟩
      · rw [decide_eq_false a]
        exact iteF (hK _ _ ⟨rfl, rfl, a⟩)
    rintro σ' H' ⟨rfl, rfl, na⟩
    try dsimp only
    refine seqIf_mid (fun σ' H' => σ' = [some (.ref p), some (.int (n : Nat)), some (.str k), some (.int (i : Nat))] ∧ Same H3 H' ∧ k ∉ LK) (fun K' hK => ?_) ?_
    · refine ⟨_, rfl, by show 2 ≤ sizeLine; omega, fun l2 hl2 => ?_⟩
      have s4 := Ask.Same.made1 (o := .lst (LK.map V.str)) (Same.refl H3) hl2
      have e4 : upd H3 l2 (.lst (LK.map V.str)) l2 = some (.lst (LK.map V.str)) := upd_same
      generalize hG : upd H3 l2 (.lst (LK.map V.str)) = H4 at s4 e4
      change rIn _ _ _ _ (upd H3 l2 (.lst (LK.map V.str))) _
      rw [hG]
      refine ⟨l2, _, rfl, .inl (SqL.of e4), rfl, all_flatS LK, _, rfl, ?_⟩
      rw [show (if false = true then !inV (.str k) (LK.map V.str) else inV (.str k) (LK.map V.str)) = decide (k ∈ LK) from inV_str k LK]
      by_cases b : k ∈ LK
      · rw [decide_eq_true b]
        refine iteT ⟨_, rfl, _, rfl, by show 3 ≤ sizeLine; omega, fun t ht => ?_⟩
        have s5 := Ask.Same.made1 (o := .tup [.str k, .int (i : Nat), .non]) (Same.refl H4) ht
        exact kq _ t k i none ((g13.same (s4.trans s5)).mono (by omega)) upd_same ⟨hk', in2, fun _ => rfl, fun z => absurd b z⟩
      · rw [decide_eq_false b]
        exact iteF (hK _ _ ⟨rfl, s4, b⟩)
    rintro σ' H4 ⟨rfl, s4, b⟩
    have g4 := g13.same s4
    try dsimp only
    refine ⟨_, rfl, _, rfl, _, rfl, _, rfl, p, c, ns, _, _, rfl, g4.pen, by omega, by omega, by omega, fun H5 d g5 d0 d1 => ?_⟩
    obtain ⟨d, rfl⟩ : ∃ y : Nat, d = (y : Int) := ⟨d.toNat, by omega⟩
    refine ⟨by show 3 ≤ sizeLine; omega, fun t ht => ?_⟩
    have s5 := Ask.Same.made1 (o := .tup [.str k, .int (i : Nat), .int (d : Nat)]) (Same.refl H5) ht
    exact kq _ t k i (some d) (((g4.step g5).same s5).mono (by omega)) upd_same ⟨hk', in2, fun z => absurd z b, fun _ => ⟨d, rfl, by omega, fun z => absurd z na⟩⟩
end
end Ask

namespace Ask
open PySem L2 LamX NdefX


theorem ws_at {ws : List Str} {i : Nat} (h : i < ws.length) : ∃ x, ws[i]? = some x ∧ x ∈ ws ∧ (ws.map V.str)[i]? = some (.str x) := ⟨ws[i], List.getElem?_eq_getElem h, List.getElem_mem h, by rw [List.getElem?_map, List.getElem?_eq_getElem h]; rfl⟩
section
variable {P : Program} {w : World} {K : PySem.W.Frag} {mg : Str → Option Value} {base : Heap}
def spLSen (K : PySem.W.Frag) (CL CS : Addr) : Sp := fun vs H Q _ => ∃ (m t t0 : Addr) (ws : List Str) (k : Str) (i : Nat) (o : Option Nat), vs = [.ref m, .ref t] ∧ Mde CL H m t0 ws ∧ ws.Nodup ∧ H t = some (.tup [.str k, .int (i : Nat), onV o]) ∧ SaidOk ws.length k i o ∧
  ∀ (H' : Hp) (q : Addr) (it : Itn), Same H H' → ItmOk ws it → (∃ k' x' s', it = .sen k' x' s' ∧ SenAt K CL CS H' q ws k' x' s') → Q (.ref q) H'
abbrev s__law_sentence : Stmt := top 73
theorem sc__law_sentence : FnScope ["_law_letters", "_law_said_here", "_law_words_here", "_law_second"] ["_law_letters", "_law_said_here"] (defScope s__law_sentence) := ⟨rfl, rfl, rfl, by decide +kernel, rfl, by decide +kernel, by decide +kernel⟩
theorem ok_lsen {f fS CL CS CK CT CN : Addr} {fd fdS : FuncData} (F : Fun K "_law_sentence" "_law_sentence" s__law_sentence f fd) (hL0 : Cls K CL) (nW : NoAttr K CL "words")
    (MS : Mk K CS fS) (mS : mg "Sentence" = some (.ref CS)) (bS : Binds K fdS ["self", "letters", "kind", "first", "second"] []) (GS : FnOk P w K mg base (L2.CX P w) 7 fS fdS ["self", "letters", "kind", "first", "second"] (spSen K CL CS CK CT CN)) :
    FnOk P w K mg base CX0 9 f fd ["_law_letters", "_law_said_here"] (spLSen K CL CS) := by
  refine F.ok sc__law_sentence (fun vs H Q E h => ?_) (fun cdv A outer s H vs Q E hr h => ?_)
  · obtain ⟨m, t, t0, ws, k, i, o, rfl, _⟩ := h
    rfl
  · obtain ⟨m, t, t0, ws, k, i, o, rfl, hM, nd, ht, ⟨hk, hi, hl, hs⟩, kq⟩ := h
    refine ⟨_, (pss_cons (ps_set (i := 2) sc__law_sentence.nd rfl (Or.inl rfl) (pe_fld (pv 0) rfl))
      (pss_cons (ps_set (i := 3) sc__law_sentence.nd rfl (Or.inl rfl) (pe_ifExp (pt_cmpR op_isN (pe_ix ix_tup (pv 1) pe_int (fun _ _ => rfl)) pe_non (nomark _)) pe_non (pe_ix ix_tup (pv 2) (pe_ix ix_tup (pv 1) pe_int (fun _ _ => rfl)) (fun _ _ => rfl))))
      (pss_one (ps_ret (pe_make MS GS hr (by rfl) mS bS .nil passE (pa_cons (pv 0) (pa_cons (pe_ix ix_tup (pv 1) pe_int (fun _ _ => rfl)) (pa_cons (pe_ix ix_tup (pv 2) (pe_ix ix_tup (pv 1) pe_int (fun _ _ => rfl)) (fun _ _ => rfl)) (pa_cons (pv 3) pa_nil))))))))), ?_⟩
    obtain ⟨dl, ol, hm, ht0, hol⟩ := id hM
    have hW : SqT K H t0 (ws.map V.str) := .inl (.inr ⟨ol, ht0⟩)
    have hT : SqT K H t [.str k, .int (i : Nat), onV o] := SqT.of ht
    obtain ⟨x, ex, hx, ex'⟩ := ws_at hi
    refine ⟨_, rfl, m, CL, dl, _, _, rfl, hm, hL0, nW, rfl, ?_⟩
    try dsimp only
    have fin : ∀ (s' : V), DrOk ws k x s' → ∀ p dx, H p = none → H dx = none → dx ≠ p → spSen K CL CS CK CT CN [.ref p, .ref m, .str k, .str x, s'] (upd (upd H dx (.own p)) p (.ins CS dx [])) (fun v H' => v = .non ∧ Q (.ref p) H') E0 := fun s' dr p dx hp hdx hne => by
      refine sen_made (pp := m) hM nd dr hp hdx hne fun H' k' x' s2 s1 nf hs => ⟨rfl, ?_⟩
      obtain ⟨k3, x3, s3, e, a, b, c⟩ := dr.nf
      obtain ⟨rfl, rfl, rfl⟩ := three_inj (nf.symm.trans e)
      exact kq H' p _ s1 (.sen a b c (dr_na dr.2.2.2 nf) (nfT_again nf)) ⟨_, _, _, rfl, hs⟩
    refine ⟨_, rfl, t, _, _, onV o, rfl, rfl, hT, rfl, rfl, _, rfl, ?_⟩
    cases o with
    | none =>
      refine iteT ?_
      have kl : k ∈ LK := Decidable.byContradiction fun z => by obtain ⟨j, e, _⟩ := hs z; cases e
      refine ⟨_, rfl, _, rfl, t, _, _, .str k, rfl, rfl, hT, rfl, _, rfl, _, rfl, t, _, _, .int (i : Nat), rfl, rfl, hT, rfl, t0, _, _, .str x, rfl, rfl, hW, at_by (j := i) rfl ex', _, rfl, fin .non (.lone kl hk hx)⟩
    | some j =>
      refine iteF ?_
      have kn : k ∉ LK := fun z => by have := hl z; cases this
      obtain ⟨j', e, hj, ja⟩ := hs kn
      cases e
      obtain ⟨y, ey, hy, ey'⟩ := ws_at hj
      refine ⟨_, rfl, _, rfl, t, _, _, .int (j : Nat), rfl, rfl, hT, rfl, t0, _, _, .str y, rfl, rfl, hW, at_by (j := j) rfl ey', ?_⟩
      try dsimp only
      refine ⟨_, rfl, _, rfl, t, _, _, .str k, rfl, rfl, hT, rfl, _, rfl, _, rfl, t, _, _, .int (i : Nat), rfl, rfl, hT, rfl, t0, _, _, .str x, rfl, rfl, hW, at_by (j := i) rfl ex', _, rfl, fin (.str y) (.two kn hk hx hy fun z => ja z.1 ?_)⟩
      have := z.2
      subst this
      exact (List.getElem?_inj hj nd).mp (ey.trans ex.symm)
def spPickT (K : PySem.W.Frag) : Sp := fun vs H Q _ => ∃ (p c a : Addr) (ns : List Int) (xs : List V) (B : Nat), vs = [.ref p, .ref a] ∧ Pen c ns H p B ∧ B ≤ 1000000000 ∧ SqT K H a xs ∧ 0 < xs.length ∧ xs.length ≤ 1000 ∧ ∀ (H' : Hp) (v : V), Go p c ns H H' (B + 1) → v ∈ xs → Q v H'
theorem ok_pickT {f fD : Addr} {fd fdD : FuncData} (F : Fun K "_law_pick" "_law_pick" s__law_pick f fd) (T : Blt mg) (GD : FnOk P w K mg base CX0 1 fD fdD ["_law_pen_here", "_law_many"] spDraw) (D : At K mg "_law_draw" fD fdD ["_law_pen_here", "_law_many"]) :
    FnOk P w K mg base CX0 2 f fd ["_law_pen_here", "_law_items"] (spPickT K) := by
  refine F.ok sc__law_pick (fun vs H Q E h => ?_) (fun cdv A outer s H vs Q E hr h => ?_)
  · obtain ⟨p, c, a, ns, xs, B, rfl, _⟩ := h
    rfl
  · obtain ⟨p, c, a, ns, xs, B, rfl, hpen, hB, hS, h0, h1, k⟩ := h
    refine ⟨_, (pss_one (ps_ret (pe_ix ix_tup (pv 1) (pe_call GD hr (by rfl) D.m D.k D.b .nil pass0 (pa_cons (pv 0) (pa_cons (pe_callB call_len_seq (by rfl) T.n_len (by decide +kernel) (pa_cons (pv 1) pa_nil)) pa_nil))) (fun _ _ => rfl)))), ?_⟩
    refine ⟨_, rfl, _, rfl, _, rfl, a, xs, rfl, .inr hS, p, c, ns, _, B, rfl, hpen, hB, by omega, by omega, fun H' r g r0 r1 => ?_⟩
    have hi : r.toNat < xs.length := by omega
    exact ⟨a, xs, r, xs[r.toNat], rfl, rfl, sqT_sv (Sv.go g) hS, at_of (j := r.toNat) (by omega) (List.getElem?_eq_getElem hi), k H' _ g (List.getElem_mem hi)⟩
structure PoolOk (ys : List Str) : Prop where
  l1 : 1 ≤ ys.length
  l2 : ys.length ≤ 50
  ok : ∀ y ∈ ys, ansS y = true
theorem PoolOk.fit {ys : List Str} (h : PoolOk ys) : FitP ys := ans_fits h.ok
def spLLim (K : PySem.W.Frag) (CL CI : Addr) : Sp := fun vs H Q _ => ∃ (p c m t0 a : Addr) (ns : List Int) (B : Nat) (ws ys : List Str), vs = [.ref p, .ref m, .ref a] ∧ Pen c ns H p B ∧ B ≤ 200000000 ∧ Mde CL H m t0 ws ∧ Lts ws ∧ SqL K H a (ys.map V.str) ∧ PoolOk ys ∧
  ∀ (H' : Hp) (q : Addr) (k : Str) (lt : V) (ks : List Str), Go p c ns H H' (B + 400) → ItmOk ws (.lim k lt ks) → LimAt K CL CI H' q ws k lt ks → Q (.ref q) H'
abbrev s__law_limit : Stmt := top 75
theorem sc__law_limit : FnScope ["_law_pen_here", "_law_letters", "_law_pool", "_law_kind", "_law_letter"] ["_law_pen_here", "_law_letters", "_law_pool"] (defScope s__law_limit) := ⟨rfl, rfl, rfl, by decide +kernel, rfl, by decide +kernel, by decide +kernel⟩
theorem ok_llim {f fP fA fI CL CI CK CA CM CT : Addr} {fd fdP fdA fdI : FuncData} (F : Fun K "_law_limit" "_law_limit" s__law_limit f fd) (hL0 : Cls K CL) (nW : NoAttr K CL "words")
    (G__law_pick : FnOk P w K mg base CX0 2 fP fdP ["_law_pen_here", "_law_items"] (spPick K)) (A__law_pick : At K mg "_law_pick" fP fdP ["_law_pen_here", "_law_items"])
    (GPT : FnOk P w K mg base CX0 2 fP fdP ["_law_pen_here", "_law_items"] (spPickT K))
    (G__law_answers : FnOk P w K mg base CX0 4 fA fdA ["_law_pen_here", "_law_pool"] (spAnsw K)) (A__law_answers : At K mg "_law_answers" fA fdA ["_law_pen_here", "_law_pool"])
    (MI : Mk K CI fI) (mI : mg "Limit" = some (.ref CI)) (bI : Binds K fdI ["self", "letters", "kind", "answers", "letter"] []) (GI : FnOk P w K mg base (L2.CX P w) 5 fI fdI ["self", "letters", "kind", "answers", "letter"] (spLim K CL CI CK CA CM CT)) :
    FnOk P w K mg base CX0 7 f fd ["_law_pen_here", "_law_letters", "_law_pool"] (spLLim K CL CI) := by
  refine F.ok sc__law_limit (fun vs H Q E h => ?_) (fun cdv A outer s H vs Q E hr h => ?_)
  · obtain ⟨p, c, m, t0, a, ns, B, ws, ys, rfl, _⟩ := h
    rfl
  · obtain ⟨p, c, m, t0, a, ns, B, ws, ys, rfl, hpen, hB, hM, lts, hS, po, kq⟩ := h
    have h__law_pick := hr.mono (j := 2) (by decide)
    have h__law_answers := hr.mono (j := 4) (by decide)
    have z1 : (100000 : Nat) ≤ sizeLine := by decide
    refine ⟨_, (pss_cons (ps_set (i := 3) sc__law_limit.nd rfl (Or.inl rfl) (pe_call G__law_pick (by exact h__law_pick) (by rfl) A__law_pick.m A__law_pick.k A__law_pick.b .nil pass0 (pa_cons (pv 0) (pa_cons (pe_lst (pa_cons pe_str (pa_cons pe_str (pa_cons pe_str (pa_cons pe_str pa_nil))))) pa_nil))))
      (pss_cons (ps_set (i := 4) sc__law_limit.nd rfl (Or.inl rfl) (pe_ifExp (pt_cmpR op_eq (pv 3) pe_str (nomark _)) (pe_call GPT (by exact h__law_pick) (by rfl) A__law_pick.m A__law_pick.k A__law_pick.b .nil pass0 (pa_cons (pv 0) (pa_cons (pe_fld (pv 1) rfl) pa_nil))) pe_non))
      (pss_one (ps_ret (pe_make MI GI hr (by rfl) mI bI .nil passE (pa_cons (pv 1) (pa_cons (pv 3) (pa_cons (pe_call G__law_answers (by exact h__law_answers) (by rfl) A__law_answers.m A__law_answers.k A__law_answers.b .nil pass0 (pa_cons (pv 0) (pa_cons (pv 2) pa_nil))) (pa_cons (pv 4) pa_nil))))))))), ?_⟩
    refine ⟨_, rfl, by show 4 ≤ sizeLine; omega, fun l hl => ?_⟩
    have s1 := Ask.Same.made1 (o := .lst [.str "always", .str "fresh", .str "behind", .str "behind"]) (Same.refl H) hl
    have e1 : upd H l (.lst [.str "always", .str "fresh", .str "behind", .str "behind"]) l = some (.lst [.str "always", .str "fresh", .str "behind", .str "behind"]) := upd_same
    generalize upd H l (.lst [.str "always", .str "fresh", .str "behind", .str "behind"]) = H1 at s1 e1 ⊢
    have g1 := (Go.refl hpen).same s1
    refine ⟨p, c, ns, .ref l, _, rfl, g1.pen, by omega, .inl ⟨l, _, rfl, SqL.of e1, by show 0 < 4; decide, by show 4 ≤ 1000; decide, fun H2 v g2 hv => ?_⟩⟩
    obtain ⟨k, rfl, hk⟩ : ∃ k, v = .str k ∧ k ∈ LM := by
      simp only [List.mem_cons, List.not_mem_nil, or_false] at hv
      rcases hv with rfl | rfl | rfl | rfl
      · exact ⟨_, rfl, by decide +kernel⟩
      · exact ⟨_, rfl, by decide +kernel⟩
      · exact ⟨_, rfl, by decide +kernel⟩
      · exact ⟨_, rfl, by decide +kernel⟩
    have g12 := g1.step g2
    have fin : ∀ (lt : V) (H3 : Hp) (B3 : Nat), Go p c ns H H3 B3 → B3 ≤ B + 90 → dueB ws (.str k) lt = true →
        tRet (tMake CI (spLim K CL CI CK CA CM CT) [] E0 (tCons (tVar 1) (tCons (tVar 3) (tCons (tCall (spAnsw K) [] E0 (tCons (tVar 0) (tCons (tVar 2) tNil))) (tCons (tVar 4) tNil))))) { nx := fun _ H' => Q .non H', rt := Q } [some (.ref p), some (.ref m), some (.ref a), some (.str k), some lt] H3 := fun lt H3 B3 g3 le due => by
      refine ⟨_, rfl, _, rfl, _, rfl, _, rfl, p, c, a, ns, B3, ys, rfl, g3.pen, by omega, g3.seq hS, po.l1, po.l2, po.fit, fun H4 q zs ks g4 eq ne sb l12 so k6 => ?_⟩
      have g34 := g3.step g4
      refine ⟨_, rfl, fun x dx hx hdx hne => ?_⟩
      have okz : ∀ z ∈ zs, ansS z = true := fun z hz => po.ok z (sb z hz)
      refine lim_made (hM.go g34) hk due (SqL.of eq) (by omega) ne okz so k6 hx hdx hne fun H5 s5 hlim => ⟨rfl, ?_⟩
      refine kq H5 x k lt ks ((g34.same s5).mono (by omega)) (.lim hk due ?_ (fun z hz => okz z ((so.2.2 z).mp hz)) k6 ⟨so.1, so.2.1, fun z => Iff.rfl⟩) hlim
      intro e
      cases zs with
      | nil => exact ne rfl
      | cons y r => have := (so.2.2 y).mpr List.mem_cons_self; rw [e] at this; cases this
    try dsimp only
    refine ⟨_, rfl, rfl, _, rfl, ?_⟩
    rw [dec_str]
    by_cases b : k = "behind"
    · subst b
      obtain ⟨dl, ol, hm, ht0, hol⟩ := id (hM.go g12)
      have hW : SqT K H2 t0 (ws.map V.str) := .inl (.inr ⟨ol, ht0⟩)
      have wl := lts.l0
      have wu := lts.l1
      refine iteT ⟨_, rfl, _, rfl, m, CL, dl, _, _, rfl, hm, hL0, nW, rfl, p, c, t0, ns, _, _, rfl, g12.pen, by omega, hW, by rw [List.length_map]; omega, by rw [List.length_map]; omega, fun H3 v g3 hv => ?_⟩
      obtain ⟨y, rfl, hy⟩ := map_mem hv
      refine fin (.str y) H3 _ (g12.step g3) (by omega) ?_
      unfold dueB
      rw [if_pos rfl]
      exact decide_eq_true hy
    · rw [decide_eq_false b]
      refine iteF (fin .non H2 _ g12 (by omega) ?_)
      unfold dueB
      rw [if_neg (fun z => b (V.str.inj z))]
      rfl
def spItem (K : PySem.W.Frag) (CL CS CI : Addr) : Sp := fun vs H Q _ => ∃ (p c m t0 a : Addr) (ns : List Int) (B : Nat) (ws ys : List Str), vs = [.ref p, .ref m, .ref a] ∧ Pen c ns H p B ∧ B ≤ 100000000 ∧ Mde CL H m t0 ws ∧ Lts ws ∧ SqL K H a (ys.map V.str) ∧ PoolOk ys ∧
  ∀ (H' : Hp) (q : Addr) (it : Itn), Go p c ns H H' (B + 500) → ItmOk ws it → ItmAt K CL CS CI H' q ws it → Q (.ref q) H'
abbrev s__law_item : Stmt := top 76
theorem sc__law_item : FnScope ["_law_pen_here", "_law_letters", "_law_pool"] ["_law_pen_here", "_law_letters", "_law_pool"] (defScope s__law_item) := ⟨rfl, rfl, rfl, by decide +kernel, rfl, by decide +kernel, by decide +kernel⟩
theorem ok_item {f fD fL fS fG CL CS CI : Addr} {fd fdD fdL fdS fdG : FuncData} (F : Fun K "_law_item" "_law_item" s__law_item f fd) (T : Blt mg) (hL0 : Cls K CL) (nW : NoAttr K CL "words")
    (G__law_draw : FnOk P w K mg base CX0 1 fD fdD ["_law_pen_here", "_law_many"] spDraw) (A__law_draw : At K mg "_law_draw" fD fdD ["_law_pen_here", "_law_many"])
    (G__law_limit : FnOk P w K mg base CX0 7 fL fdL ["_law_pen_here", "_law_letters", "_law_pool"] (spLLim K CL CI)) (A__law_limit : At K mg "_law_limit" fL fdL ["_law_pen_here", "_law_letters", "_law_pool"])
    (G__law_said : FnOk P w K mg base CX0 3 fG fdG ["_law_pen_here", "_law_many"] spSaid) (A__law_said : At K mg "_law_said" fG fdG ["_law_pen_here", "_law_many"])
    (G__law_sentence : FnOk P w K mg base CX0 9 fS fdS ["_law_letters", "_law_said_here"] (spLSen K CL CS)) (A__law_sentence : At K mg "_law_sentence" fS fdS ["_law_letters", "_law_said_here"]) :
    FnOk P w K mg base CX0 10 f fd ["_law_pen_here", "_law_letters", "_law_pool"] (spItem K CL CS CI) := by
  refine F.ok sc__law_item (fun vs H Q E h => ?_) (fun cdv A outer s H vs Q E hr h => ?_)
  · obtain ⟨p, c, m, t0, a, ns, B, ws, ys, rfl, _⟩ := h
    rfl
  · obtain ⟨p, c, m, t0, a, ns, B, ws, ys, rfl, hpen, hB, hM, lts, hS, po, kq⟩ := h
    have h__law_draw := hr.mono (j := 1) (by decide)
    have h__law_limit := hr.mono (j := 7) (by decide)
    have h__law_said := hr.mono (j := 3) (by decide)
    have h__law_sentence := hr.mono (j := 9) (by decide)
    refine ⟨_, (pss_cons (ps_if (pt_cmpR op_eq (pe_call G__law_draw (by exact h__law_draw) (by rfl) A__law_draw.m A__law_draw.k A__law_draw.b .nil pass0 (pa_cons (pv 0) (pa_cons pe_int pa_nil))) pe_int (nomark _)) (pss_one (ps_ret (pe_call G__law_limit (by exact h__law_limit) (by rfl) A__law_limit.m A__law_limit.k A__law_limit.b .nil pass0 (pa_cons (pv 0) (pa_cons (pv 1) (pa_cons (pv 2) pa_nil)))))) pss_nil)
      (pss_one (ps_ret (pe_call G__law_sentence (by exact h__law_sentence) (by rfl) A__law_sentence.m A__law_sentence.k A__law_sentence.b .nil pass0 (pa_cons (pv 1) (pa_cons (pe_call G__law_said (by exact h__law_said) (by rfl) A__law_said.m A__law_said.k A__law_said.b .nil pass0 (pa_cons (pv 0) (pa_cons (pe_callB call_len_seq (by rfl) T.n_len (by decide +kernel) (pa_cons (pe_fld (pv 1) rfl) pa_nil)) pa_nil))) pa_nil)))))), ?_⟩
    refine seqIf_mid (fun σ' H' => σ' = [some (.ref p), some (.ref m), some (.ref a)] ∧ Go p c ns H H' (B + 1)) (fun K' hK => ?_) ?_
    · refine ⟨_, rfl, p, c, ns, 3, B, rfl, hpen, by omega, by decide, by decide, fun H1 r g1 r0 r1 => ⟨rfl, _, rfl, ite2 (fun _ => ?_) (fun _ => hK _ _ ⟨rfl, g1⟩)⟩⟩
      refine ⟨_, rfl, _, rfl, _, rfl, p, c, m, t0, a, ns, _, ws, ys, rfl, g1.pen, by omega, hM.go g1, lts, g1.seq hS, po, fun H2 q k lt ks g2 ok hl => ?_⟩
      exact kq H2 q (.lim k lt ks) ((g1.step g2).mono (by omega)) ok hl
    rintro σ' H1 ⟨rfl, g1⟩
    obtain ⟨dl, ol, hm, ht0, hol⟩ := id (hM.go g1)
    have hW : SqT K H1 t0 (ws.map V.str) := .inl (.inr ⟨ol, ht0⟩)
    have wl := lts.l0
    have wu := lts.l1
    refine ⟨_, rfl, _, rfl, _, rfl, m, CL, dl, _, _, rfl, hm, hL0, nW, rfl, t0, _, rfl, .inr hW, p, c, ns, B + 1, (ws.map V.str).length, rfl, g1.pen, by omega, by rw [List.length_map]; omega, by rw [List.length_map]; omega, fun H2 t k i o g2 ht so => ?_⟩
    rw [List.length_map] at so
    have g12 := g1.step g2
    exact ⟨m, t, t0, ws, k, i, o, rfl, hM.go g12, lts.nd, ht, so, fun H3 q it s3 ok ⟨k', x', s', e, hs⟩ => kq H3 q it ((g12.same s3).mono (by omega)) ok (by rw [e]; exact hs)⟩
end
end Ask

namespace Ask
open PySem L2 LamX NdefX
def WOk (z : Str) (m : Nat) : Prop := NoSp z ∧ z.length ≤ m ∧ Asc z
theorem WOk.mono {z : Str} {m n : Nat} (h : WOk z m) (l : m ≤ n) : WOk z n := ⟨h.1, Nat.le_trans h.2.1 l, h.2.2⟩
theorem wok_of {z : Str} {m : Nat} (h : (!(z.cps.toList.contains 32) && decide (z.length ≤ m) && z.cps.toList.all fun c => decide (c < 128)) = true) : WOk z m := by
  rw [Bool.and_eq_true, Bool.and_eq_true] at h
  refine ⟨fun z => ?_, of_decide_eq_true h.1.2, fun c hc => of_decide_eq_true (List.all_eq_true.mp h.2 c hc)⟩
  have := h.1.1
  rw [List.contains_iff_mem.mpr z] at this
  cases this
theorem WOk.cat {a b : Str} {m n : Nat} (h : WOk a m) (g : WOk b n) : WOk (a ++ b) (m + n) := by
  refine ⟨fun z => ?_, ?_, fun c hc => ?_⟩
  · rw [app_list] at z
    exact (List.mem_append.mp z).elim h.1 g.1
  · rw [Str.length_append]
    exact Nat.add_le_add h.2.1 g.2.1
  · rw [app_list] at hc
    exact (List.mem_append.mp hc).elim (h.2.2 c) (g.2.2 c)
theorem str_len (z : Str) : z.length = z.cps.toList.length := by simp [Str.length]
theorem WOk.tail {a : Str} {m : Nat} (h : WOk a m) : WOk (cutS a (some 1) none) m := by
  have e := cut_suf a 1
  refine ⟨fun z => h.1 ?_, ?_, fun c hc => h.2.2 c (cut_mem hc)⟩
  · exact cut_mem z
  · rw [str_len]
    have : ((cutS a (some ((1 : Nat) : Int)) none)).cps.toList.length ≤ a.length := by rw [e, List.length_drop, ← str_len]; omega
    exact Nat.le_trans this h.2.1
/-- words of any number, as one says a line by them -/
theorem ln_of {zs : List Str} {m n : Nat} (h : ∀ z ∈ zs, WOk z m) (l : zs.length ≤ n) (n1 : 1 ≤ n) : ∃ qs, Ln qs m n ∧ Txt.join " " zs = Txt.join " " qs := by
  by_cases e : zs = []
  · subst e
    refine ⟨[Str.empty], ⟨(fun z => nomatch z), fun z hz => ?_, n1⟩, rfl⟩
    rw [List.mem_singleton.mp hz]
    exact ⟨(fun z => by simp [Str.empty] at z), Nat.zero_le _, fun c hc => by simp [Str.empty] at hc⟩
  · exact ⟨zs, ⟨e, h, l⟩, rfl⟩
def oddW : List Str := ["", "new", "A", "a-b", repS "x" (13 : Int).toNat, "9"]
theorem oddW_ok : ∀ z ∈ oddW, WOk z 13 := by
  intro z hz
  unfold oddW at hz
  simp only [List.mem_cons, List.not_mem_nil, or_false] at hz
  rcases hz with rfl | rfl | rfl | rfl | rfl | rfl <;> exact wok_of (by decide +kernel)
theorem ixN_at {n j : Nat} (h : j < n) : ixN n (j : Int) = some j := by
  unfold ixN
  rw [if_pos (by omega), if_pos (by omega), Int.toNat_natCast]
theorem spl_mem' {α : Type} {xs : List α} {n : Nat} {v : α} {p : α → Prop} (h : ∀ u ∈ xs, p u) (hv : p v) : ∀ u ∈ xs.take n ++ [v] ++ xs.drop n, p u := by
  intro u hu
  rcases List.mem_append.mp hu with hu | hu
  · rcases List.mem_append.mp hu with hu | hu
    · exact h u (List.mem_of_mem_take hu)
    · rw [List.mem_singleton.mp hu]; exact hv
  · exact h u (List.mem_of_mem_drop hu)
section
variable {P : Program} {w : World} {K : PySem.W.Frag} {mg : Str → Option Value} {base : Heap}
def spPieces (K : PySem.W.Frag) : Sp := fun vs H Q _ => ∃ (p c mo : Addr) (ns : List Int) (B m n : Nat) (ps ms : List Str), vs = [.ref p, .str (Txt.join " " ps), .ref mo] ∧ Pen c ns H p B ∧ B ≤ 100000000 ∧ Ln ps m n ∧ 13 ≤ m ∧ m ≤ 30 ∧ n ≤ 30 ∧ H mo = some (.lst (ms.map V.str)) ∧ ms.length ≤ 100 ∧ (∀ z ∈ ms, WOk z 13) ∧
  ∀ (H' : Hp) (qs : List Str), Go p c ns H H' (B + 10) → Ln qs (m + 1) (n + 1) → Q (.str (Txt.join " " qs)) H'

abbrev s__law_pieces : Stmt := top 77
theorem sc__law_pieces : FnScope ["_law_pen_here", "_law_line", "_law_more", "_law_words_here", "_law_at", "_law_way", "_law_bent", "_law_fresh_one", "_law_other"] ["_law_pen_here", "_law_line", "_law_more"] (defScope s__law_pieces) := ⟨rfl, rfl, rfl, by decide +kernel, rfl, by decide +kernel, by decide +kernel⟩
theorem ok_pieces {f fD fP : Addr} {fd fdD fdP : FuncData} (F : Fun K "_law_pieces" "_law_pieces" s__law_pieces f fd) (T : Blt mg)
    (G__law_draw : FnOk P w K mg base CX0 1 fD fdD ["_law_pen_here", "_law_many"] spDraw) (A__law_draw : At K mg "_law_draw" fD fdD ["_law_pen_here", "_law_many"])
    (G__law_pick : FnOk P w K mg base CX0 2 fP fdP ["_law_pen_here", "_law_items"] (spPick K)) (A__law_pick : At K mg "_law_pick" fP fdP ["_law_pen_here", "_law_items"]) :
    FnOk P w K mg base CX0 3 f fd ["_law_pen_here", "_law_line", "_law_more"] (spPieces K) := by
  refine F.ok sc__law_pieces (fun vs H Q E h => ?_) (fun cdv A outer s H vs Q E hr h => ?_)
  · obtain ⟨p, c, mo, ns, B, m, n, ps, ms, rfl, _⟩ := h
    rfl
  · obtain ⟨p, c, mo, ns, B, m, n, ps, ms, rfl, hpen, hB, ln, m1, m2, n2, hS, l1, hm, kq⟩ := h
    have h__law_draw := hr.mono (j := 1) (by decide)
    have h__law_pick := hr.mono (j := 2) (by decide)
    have z1 : (100000 : Nat) ≤ sizeLine := by decide
    refine ⟨_, (pss_cons (ps_set (i := 3) sc__law_pieces.nd rfl (Or.inl rfl) (pe_split (pv 1) pe_str))
      (pss_cons (ps_par (i := 4) (j := 5) rfl sc__law_pieces.nd rfl rfl (by decide) rfl rfl (pa_cons (pe_call G__law_draw (by exact h__law_draw) (by rfl) A__law_draw.m A__law_draw.k A__law_draw.b .nil pass0 (pa_cons (pv 0) (pa_cons (pe_callB call_len_seq (by rfl) T.n_len (by decide +kernel) (pa_cons (pv 3) pa_nil)) pa_nil))) (pa_cons (pe_call G__law_draw (by exact h__law_draw) (by rfl) A__law_draw.m A__law_draw.k A__law_draw.b .nil pass0 (pa_cons (pv 0) (pa_cons pe_int pa_nil))) pa_nil)) (by rfl))
      (pss_cons (ps_set (i := 6) sc__law_pieces.nd rfl (Or.inl rfl) (pe_lst (pa_cons (pe_op op_add_str (pe_ix ix_list (pv 3) (pv 4) (fun _ _ => rfl)) pe_str) (pa_cons (pe_op op_add_str (pe_ix ix_list (pv 3) (pv 4) (fun _ _ => rfl)) pe_str) (pa_cons (pe_op op_add_str (pe_ix ix_list (pv 3) (pv 4) (fun _ _ => rfl)) pe_str) (pa_cons (pe_op op_add_str pe_str (pe_ix ix_list (pv 3) (pv 4) (fun _ _ => rfl))) (pa_cons (pe_slice sl_str (pe_ix ix_list (pv 3) (pv 4) (fun _ _ => rfl)) (po_some pe_int) po_none) pa_nil)))))))
      (pss_cons (ps_set (i := 7) sc__law_pieces.nd rfl (Or.inl rfl) (pe_call G__law_pick (by exact h__law_pick) (by rfl) A__law_pick.m A__law_pick.k A__law_pick.b .nil pass0 (pa_cons (pv 0) (pa_cons (pe_op op_cat (pe_op op_cat (pv 2) (pv 6)) (pe_lst (pa_cons pe_str (pa_cons pe_str (pa_cons pe_str (pa_cons pe_str (pa_cons (pe_op op_mul_str pe_str pe_int) (pa_cons pe_str pa_nil)))))))) pa_nil))))
      (pss_cons (ps_if (pt_cmpR op_eq (pv 5) pe_int (nomark _)) (pss_one (ps_asg (pv 7) (pg_sub (pv 3) (pv 4) set_list (by intro _; rfl)))) pss_nil)
      (pss_cons (ps_if (PW.pt (pw_and (pt_cmpR op_eq (pv 5) pe_int (nomark _)) (pw_and1 (pt_cmpR op_gt (pe_callB call_len_seq (by rfl) T.n_len (by decide +kernel) (pa_cons (pv 3) pa_nil)) pe_int (nomark _))))) (pss_one (ps_expr (pe_bm PySem.F.plainAttrs_list PySem.F.slot_list_pop ty_pop mt_popAt (pv 3) (pa_cons (pv 4) pa_nil)))) pss_nil)
      (pss_cons (ps_if (pt_cmpR op_eq (pv 5) pe_int (nomark _)) (pss_one (ps_expr (pe_bm PySem.F.plainAttrs_list PySem.F.slot_list_insert ty_insert mt_insert (pv 3) (pa_cons (pv 4) (pa_cons (pe_ix ix_list (pv 3) (pv 4) (fun _ _ => rfl)) pa_nil))))) pss_nil)
      (pss_cons (ps_if (pt_cmpR op_eq (pv 5) pe_int (nomark _)) (pss_one (ps_expr (pe_bm PySem.F.plainAttrs_list PySem.F.slot_list_insert ty_insert mt_insert (pv 3) (pa_cons (pe_call G__law_draw (by exact h__law_draw) (by rfl) A__law_draw.m A__law_draw.k A__law_draw.b .nil pass0 (pa_cons (pv 0) (pa_cons (pe_op op_add (pe_callB call_len_seq (by rfl) T.n_len (by decide +kernel) (pa_cons (pv 3) pa_nil)) pe_int) pa_nil))) (pa_cons (pv 7) pa_nil))))) pss_nil)
      (pss_cons (ps_if (pt_cmpR op_eq (pv 5) pe_int (nomark _)) (pss_cons (ps_set (i := 8) sc__law_pieces.nd rfl (Or.inl rfl) (pe_call G__law_draw (by exact h__law_draw) (by rfl) A__law_draw.m A__law_draw.k A__law_draw.b .nil pass0 (pa_cons (pv 0) (pa_cons (pe_callB call_len_seq (by rfl) T.n_len (by decide +kernel) (pa_cons (pv 3) pa_nil)) pa_nil))))
      (pss_one (ps_asg (pe_tup (pa_cons (pe_ix ix_list (pv 3) (pv 8) (fun _ _ => rfl)) (pa_cons (pe_ix ix_list (pv 3) (pv 4) (fun _ _ => rfl)) pa_nil))) (pg_tup rfl (pgs_cons (pg_sub (pv 3) (pv 4) set_list (by intro _; rfl)) (pgs_cons (pg_sub (pv 3) (pv 8) set_list (by intro _; rfl)) pgs_nil)))))) pss_nil)
      (pss_cons (ps_if (pt_cmpR op_eq (pv 5) pe_int (nomark _)) (pss_one (ps_set (i := 3) sc__law_pieces.nd rfl (Or.inl rfl) (pe_slice sl_list (pv 3) po_none (po_some (pv 4))))) pss_nil)
      (pss_one (ps_ret (pe_join pe_str (pv 3)))))))))))))), ?_⟩
    have jl := join_le (ps := ps) (m := m) fun z hz => (ln.ok z hz).2.1
    have jl2 : ps.length * (m + 1) ≤ 30 * 31 := Nat.mul_le_mul (Nat.le_trans ln.len n2) (by omega)
    refine ⟨_, rfl, ⟨_, rfl⟩, _, " ", rfl, rfl, by decide +kernel, by omega, fun L hL => ?_⟩
    rw [split_join ln.ne fun z hz => (ln.ok z hz).1]
    have s1 := Ask.Same.made1 (o := .lst (ps.map V.str)) (Same.refl H) hL
    have e1 : upd H L (.lst (ps.map V.str)) L = some (.lst (ps.map V.str)) := upd_same
    generalize upd H L (.lst (ps.map V.str)) = H1 at s1 e1 ⊢
    have g1 := (Go.refl hpen).same s1
    have pl : 1 ≤ ps.length := by cases hh : ps with | nil => exact absurd hh ln.ne | cons a b => simp
    have pn := ln.len
    try dsimp only
    refine ⟨_, rfl, _, rfl, L, _, rfl, .inl (SqL.of e1), p, c, ns, _, _, rfl, g1.pen, by omega, by rw [List.length_map]; omega, by rw [List.length_map]; omega, fun H2 a g2 a0 a1 => ?_⟩
    obtain ⟨a, rfl⟩ : ∃ y : Nat, a = (y : Int) := ⟨a.toNat, by omega⟩
    rw [List.length_map] at a1
    have g12 := g1.step g2
    have al : a < ps.length := by omega
    obtain ⟨wd, ew⟩ : ∃ wd, ps[a]? = some wd := ⟨_, List.getElem?_eq_getElem al⟩
    have wm := List.mem_of_getElem? ew
    have wok : WOk wd m := ln.ok wd wm
    have ewV := str_at ew
    refine ⟨_, rfl, p, c, ns, 6, _, rfl, g12.pen, by omega, by decide, by decide, fun H3 wy g3 w0 w1 => ⟨_, _, rfl, ?_⟩⟩
    have g13 := g12.step g3
    have e3 : H3 L = some (.lst (ps.map V.str)) := (g2.step g3).lst e1
    have hS3 : H3 mo = some (.lst (ms.map V.str)) := g13.lst hS
    try dsimp only
    have wl := wok.2.1
    refine ⟨_, rfl, _, rfl, L, _, _, .str wd, rfl, rfl, SqL.of e3, at_by (j := a) rfl ewV, wd, "z", rfl, rfl, by show _ + 1 ≤ _; omega, ?_⟩
    refine ⟨_, rfl, _, rfl, L, _, _, .str wd, rfl, rfl, SqL.of e3, at_by (j := a) rfl ewV, wd, "\n", rfl, rfl, by show _ + 1 ≤ _; omega, ?_⟩
    refine ⟨_, rfl, _, rfl, L, _, _, .str wd, rfl, rfl, SqL.of e3, at_by (j := a) rfl ewV, wd, "\t", rfl, rfl, by show _ + 1 ≤ _; omega, ?_⟩
    refine ⟨_, rfl, _, rfl, L, _, _, .str wd, rfl, rfl, SqL.of e3, at_by (j := a) rfl ewV, "\t", wd, rfl, rfl, by show 1 + _ ≤ _; omega, ?_⟩
    refine ⟨_, rfl, _, rfl, L, _, _, .str wd, rfl, rfl, SqL.of e3, at_by (j := a) rfl ewV, ?_⟩
    refine ⟨_, rfl, wd, rfl, by omega, by show 5 ≤ sizeLine; omega, fun l hl => ?_⟩
    have bok : ∀ z ∈ [wd ++ "z", wd ++ "\n", wd ++ "\t", "\t" ++ wd, cutS wd (some 1) none], WOk z (m + 1) := fun z hz => by
      simp only [List.mem_cons, List.not_mem_nil, or_false] at hz
      rcases hz with rfl | rfl | rfl | rfl | rfl
      · exact wok.cat (wok_of (by decide +kernel))
      · exact wok.cat (wok_of (by decide +kernel))
      · exact wok.cat (wok_of (by decide +kernel))
      · exact (WOk.cat (wok_of (m := 1) (by decide +kernel)) wok).mono (by omega)
      · exact wok.tail.mono (by omega)
    have s4 := Ask.Same.made1 (o := .lst ([wd ++ "z", wd ++ "\n", wd ++ "\t", "\t" ++ wd, cutS wd (some 1) none].map V.str)) (Same.refl H3) hl
    have e4 : upd H3 l (.lst ([wd ++ "z", wd ++ "\n", wd ++ "\t", "\t" ++ wd, cutS wd (some 1) none].map V.str)) l = some (.lst ([wd ++ "z", wd ++ "\n", wd ++ "\t", "\t" ++ wd, cutS wd (some 1) none].map V.str)) := upd_same
    have bl : [wd ++ "z", wd ++ "\n", wd ++ "\t", "\t" ++ wd, cutS wd (some 1) none].length = 5 := rfl
    change gName 6 _ _ (upd H3 l (.lst ([wd ++ "z", wd ++ "\n", wd ++ "\t", "\t" ++ wd, cutS wd (some 1) none].map V.str))) _
    generalize [wd ++ "z", wd ++ "\n", wd ++ "\t", "\t" ++ wd, cutS wd (some 1) none] = bs at bok s4 e4 bl ⊢
    generalize upd H3 l (.lst (bs.map V.str)) = H4 at s4 e4 ⊢
    have g4 := g13.same s4
    have L4 := s4 _ _ e3
    have mo4 := s4 _ _ hS3
    try dsimp only
    refine ⟨_, rfl, _, rfl, _, rfl, _, _, _, _, rfl, rfl, mo4, e4, by rw [List.length_map, List.length_map]; omega, fun u hu => ?_⟩
    have s5 := Ask.Same.made1 (o := .lst (ms.map V.str ++ bs.map V.str)) (Same.refl H4) hu
    have e5 : upd H4 u (.lst (ms.map V.str ++ bs.map V.str)) u = some (.lst (ms.map V.str ++ bs.map V.str)) := upd_same
    generalize upd H4 u (.lst (ms.map V.str ++ bs.map V.str)) = H5 at s5 e5 ⊢
    refine ⟨"x", 13, rfl, rfl, by decide, by decide, by decide +kernel, by decide +kernel, by show 6 ≤ sizeLine; omega, fun v hv => ?_⟩
    have s6 := Ask.Same.made1 (o := .lst (oddW.map V.str)) (Same.refl H5) hv
    have e6 : upd H5 v (.lst (oddW.map V.str)) v = some (.lst (oddW.map V.str)) := upd_same
    change rCat _ _ (upd H5 v (.lst (oddW.map V.str))) _
    generalize upd H5 v (.lst (oddW.map V.str)) = H6 at s6 e6 ⊢
    refine ⟨_, _, _, _, rfl, rfl, s6 _ _ e5, e6, ?_, fun x hx => ?_⟩
    · rw [List.length_append, List.length_map, List.length_map, List.length_map]
      show _ + 6 ≤ _
      omega
    have s7 := Ask.Same.made1 (o := .lst (ms.map V.str ++ bs.map V.str ++ oddW.map V.str)) (Same.refl H6) hx
    have e7 : upd H6 x (.lst (ms.map V.str ++ bs.map V.str ++ oddW.map V.str)) x = some (.lst ((ms ++ bs ++ oddW).map V.str)) := by rw [upd_same, List.map_append, List.map_append]
    generalize upd H6 x (.lst (ms.map V.str ++ bs.map V.str ++ oddW.map V.str)) = H7 at s7 e7 ⊢
    have g7 := g4.same ((s5.trans s6).trans s7)
    have L7 := s7 _ _ (s6 _ _ (s5 _ _ L4))
    have all7 : ∀ z ∈ ms ++ bs ++ oddW, WOk z (m + 1) := fun z hz => (List.mem_append.mp hz).elim (fun q => (List.mem_append.mp q).elim (fun q => (hm z q).mono (by omega)) (bok z)) fun q => (oddW_ok z q).mono (by omega)
    have len7 : (ms ++ bs ++ oddW).length ≤ 200 ∧ 0 < (ms ++ bs ++ oddW).length := by
      rw [List.length_append, List.length_append, bl]
      show _ + 5 + 6 ≤ 200 ∧ 0 < _ + 5 + 6
      omega
    refine ⟨p, c, ns, .ref x, _, rfl, g7.pen, by omega, .inl ⟨x, _, rfl, SqL.of e7, by rw [List.length_map]; exact len7.2, by rw [List.length_map]; omega, fun H8 fv g8 hfv => ?_⟩⟩
    obtain ⟨fr, rfl, hfr⟩ := map_mem hfv
    have frok := all7 fr hfr
    have g78 := g7.step g8
    have L8 := g8.lst L7
    have LN : H L = none := hL
    clear hfv hfr all7 len7 e7 e5 e6 s5 s6 s7 mo4 e4 s4 bok
    try dsimp only
    have way : ∀ n : Int, decide (V.int wy = V.int n) = decide (wy = n) := fun n => decide_eq_decide.mpr ⟨fun z => V.int.inj z, fun z => by rw [z]⟩
    let Mid : Int → L2.St → Hp → Prop := fun j σ' H' => ∃ (L9 : Addr) (zs : List Str) (ov : Option V), σ' = [some (.ref p), some (.str (Txt.join " " ps)), some (.ref mo), some (.ref L9), some (.int (a : Nat)), some (.int wy), some (.ref l), some (.str fr), ov] ∧ Go p c ns H H' (B + 5) ∧ H' L9 = some (.lst (zs.map V.str)) ∧ H L9 = none ∧ (∀ z ∈ zs, WOk z (m + 1)) ∧ zs.length ≤ n + 1 ∧ (j < wy → zs = ps ∧ Pen c ns H' p (B + 4))
    have ok0 : ∀ z ∈ ps, WOk z (m + 1) := fun z hz => WOk.mono (ln.ok z hz) (by omega)
    refine seqIf_mid (Mid 0) (fun K' hK => ?_) ?_
    · refine ⟨_, rfl, rfl, _, rfl, ?_⟩
      rw [way]
      by_cases c0 : wy = 0
      · rw [decide_eq_true c0]
        refine iteT ?_
        refine ⟨_, rfl, _, rfl, _, rfl, L, _, _, a, rfl, rfl, L8, by rw [List.length_map]; exact ixN_at al, ?_⟩
        refine hK _ _ ⟨L, ps.set a fr, none, rfl, (g78.mut LN).mono (by omega), by rw [upd_same, List.map_set], LN, fun z hz => ?_, by rw [List.length_set]; omega, fun q => by omega⟩
        rcases List.mem_or_eq_of_mem_set hz with hz | rfl
        · exact ok0 z hz
        · exact frok
      · rw [decide_eq_false c0]
        exact iteF (hK _ _ ⟨L, ps, none, rfl, g78.mono (by omega), L8, LN, ok0, by omega, fun _ => ⟨rfl, g78.pen.mono (by omega)⟩⟩)
    rintro σ' H9 ⟨L9, zs, ov, rfl, g9, e9, n9, ok9, len9, eq9⟩
    clear L8 g78
    try dsimp only
    -- pop
    refine seqIf_mid (Mid 1) (fun K' hK => ?_) ?_
    · refine ⟨_, rfl, rfl, _, rfl, ?_⟩
      rw [way]
      by_cases c0 : wy = 1
      · rw [decide_eq_true c0]
        obtain ⟨rfl, pen9⟩ := eq9 (by omega)
        refine iteT ⟨_, rfl, L9, _, rfl, .inl (SqL.of e9), _, _, rfl, rfl, _, rfl, ?_⟩
        rw [List.length_map]
        refine ite2 (fun q => ?_) (fun q => hK _ _ ⟨L9, zs, ov, rfl, g9, e9, n9, ok9, len9, fun _ => ⟨rfl, pen9⟩⟩)
        refine ⟨_, rfl, .inl ⟨rfl, _, SqL.of e9⟩, _, rfl, L9, _, (a : Nat), a, .str wd, rfl, rfl, e9, by omega, by omega, ?_, ewV, ?_⟩
        · unfold seqIndex?
          rw [List.length_map]
          simp only [if_neg (show ¬ ((a : Int) < 0) by omega)]
          rw [if_pos (by simp; omega)]
          rfl
        refine hK _ _ ⟨L9, zs.eraseIdx a, ov, rfl, g9.mut n9, by rw [upd_same, erase_map], n9, fun z hz => ok9 z (List.mem_of_mem_eraseIdx hz), Nat.le_trans (List.length_eraseIdx_le ..) len9, fun q => by omega⟩
      · rw [decide_eq_false c0]
        exact iteF (iteF (hK _ _ ⟨L9, zs, ov, rfl, g9, e9, n9, ok9, len9, fun q => eq9 (by omega)⟩))
    clear g9 e9 n9 ok9 len9 eq9 L9 zs ov
    rintro σ' H9 ⟨L9, zs, ov, rfl, g9, e9, n9, ok9, len9, eq9⟩
    try dsimp only
    -- insert twice
    refine seqIf_mid (Mid 2) (fun K' hK => ?_) ?_
    · refine ⟨_, rfl, rfl, _, rfl, ?_⟩
      rw [way]
      by_cases c0 : wy = 2
      · rw [decide_eq_true c0]
        obtain ⟨rfl, pen9⟩ := eq9 (by omega)
        refine iteT ⟨_, rfl, .inl ⟨rfl, _, SqL.of e9⟩, _, rfl, _, rfl, _, rfl, L9, _, _, .str wd, rfl, rfl, SqL.of e9, at_by (j := a) rfl ewV, L9, _, (a : Nat), .str wd, rfl, rfl, e9, by rw [List.length_map]; omega, by omega, by omega, ?_⟩
        refine hK _ _ ⟨L9, zs.take a ++ [wd] ++ zs.drop a, ov, rfl, g9.mut n9, by rw [upd_same]; simp [List.map_take, List.map_drop], n9, ?_, ?_, fun q => by omega⟩
        · exact spl_mem' ok9 (wok.mono (by omega))
        · rw [List.length_append, List.length_append, List.length_take, List.length_drop]
          show min a zs.length + 1 + _ ≤ _
          omega
      · rw [decide_eq_false c0]
        exact iteF (hK _ _ ⟨L9, zs, ov, rfl, g9, e9, n9, ok9, len9, fun q => eq9 (by omega)⟩)
    clear g9 e9 n9 ok9 len9 eq9 L9 zs ov
    rintro σ' H9 ⟨L9, zs, ov, rfl, g9, e9, n9, ok9, len9, eq9⟩
    try dsimp only
    -- insert a fresh one
    refine seqIf_mid (Mid 3) (fun K' hK => ?_) ?_
    · refine ⟨_, rfl, rfl, _, rfl, ?_⟩
      rw [way]
      by_cases c0 : wy = 3
      · rw [decide_eq_true c0]
        obtain ⟨rfl, pen9⟩ := eq9 (by omega)
        refine iteT ⟨_, rfl, .inl ⟨rfl, _, SqL.of e9⟩, _, rfl, _, rfl, L9, _, rfl, .inl (SqL.of e9), _, _, rfl, rfl, p, c, ns, _, _, rfl, pen9, by omega, by rw [List.length_map]; omega, by rw [List.length_map]; omega, fun H10 r g10 r0 r1 => ?_⟩
        obtain ⟨r, rfl⟩ : ∃ y : Nat, r = (y : Int) := ⟨r.toNat, by omega⟩
        rw [List.length_map] at r1
        have e10 := g10.lst e9
        refine ⟨_, rfl, L9, _, (r : Nat), .str fr, rfl, rfl, e10, by rw [List.length_map]; omega, by omega, by omega, ?_⟩
        refine hK _ _ ⟨L9, zs.take r ++ [fr] ++ zs.drop r, ov, rfl, ((g9.step g10).mut n9).mono (by omega), by rw [upd_same]; simp [List.map_take, List.map_drop], n9, spl_mem' ok9 frok, ?_, fun q => by omega⟩
        rw [List.length_append, List.length_append, List.length_take, List.length_drop]
        show min r zs.length + 1 + _ ≤ _
        omega
      · rw [decide_eq_false c0]
        exact iteF (hK _ _ ⟨L9, zs, ov, rfl, g9, e9, n9, ok9, len9, fun q => eq9 (by omega)⟩)
    clear g9 e9 n9 ok9 len9 eq9 L9 zs ov
    rintro σ' H9 ⟨L9, zs, ov, rfl, g9, e9, n9, ok9, len9, eq9⟩
    try dsimp only
    -- exchange
    refine seqIf_mid (Mid 4) (fun K' hK => ?_) ?_
    · refine ⟨_, rfl, rfl, _, rfl, ?_⟩
      rw [way]
      by_cases c0 : wy = 4
      · rw [decide_eq_true c0]
        obtain ⟨rfl, pen9⟩ := eq9 (by omega)
        refine iteT ⟨_, rfl, _, rfl, L9, _, rfl, .inl (SqL.of e9), p, c, ns, _, _, rfl, pen9, by omega, by rw [List.length_map]; omega, by rw [List.length_map]; omega, fun H10 r g10 r0 r1 => ?_⟩
        obtain ⟨r, rfl⟩ : ∃ y : Nat, r = (y : Int) := ⟨r.toNat, by omega⟩
        rw [List.length_map] at r1
        have e10 := g10.lst e9
        have rl : r < zs.length := by omega
        obtain ⟨wr, er⟩ : ∃ wr, zs[r]? = some wr := ⟨_, List.getElem?_eq_getElem rl⟩
        have erV := str_at er
        have wrok : WOk wr (m + 1) := ok0 wr (List.mem_of_getElem? er)
        try dsimp only
        refine ⟨_, rfl, _, rfl, L9, _, _, .str wr, rfl, rfl, SqL.of e10, at_by (j := r) rfl erV, _, rfl, _, rfl, L9, _, _, .str wd, rfl, rfl, SqL.of e10, at_by (j := a) rfl ewV, by show 2 ≤ sizeLine; omega, fun t ht => ?_⟩
        have s11 := Ask.Same.made1 (o := .tup [.str wr, .str wd]) (Same.refl H10) ht
        have e11 : upd H10 t (.tup [.str wr, .str wd]) t = some (.tup [.str wr, .str wd]) := upd_same
        generalize upd H10 t (.tup [.str wr, .str wd]) = H11 at s11 e11 ⊢
        have L11 := s11 _ _ e10
        have g11 := (g9.step g10).same s11
        refine ⟨t, _, rfl, SqT.of e11, rfl, _, _, rfl, _, rfl, _, rfl, L9, _, _, a, rfl, rfl, L11, by rw [List.length_map]; exact ixN_at al, ?_⟩
        refine ⟨_, _, rfl, _, rfl, _, rfl, L9, _, _, r, rfl, rfl, upd_same, by rw [List.length_set, List.length_map]; exact ixN_at rl, rfl, ?_⟩
        refine hK _ _ ⟨L9, (zs.set a wr).set r wd, _, rfl, ((g11.mut n9).mut n9).mono (by omega), by rw [upd_same, List.map_set, List.map_set], n9, fun z hz => ?_, by rw [List.length_set, List.length_set]; omega, fun q => by omega⟩
        rcases List.mem_or_eq_of_mem_set hz with hz | rfl
        · rcases List.mem_or_eq_of_mem_set hz with hz | rfl
          · exact ok0 z hz
          · exact wrok
        · exact wok.mono (by omega)
      · rw [decide_eq_false c0]
        exact iteF (hK _ _ ⟨L9, zs, ov, rfl, g9, e9, n9, ok9, len9, fun q => eq9 (by omega)⟩)
    clear g9 e9 n9 ok9 len9 eq9 L9 zs ov
    rintro σ' H9 ⟨L9, zs, ov, rfl, g9, e9, n9, ok9, len9, eq9⟩
    try dsimp only
    -- a cut
    refine seqIf_mid (Mid 5) (fun K' hK => ?_) ?_
    · refine ⟨_, rfl, rfl, _, rfl, ?_⟩
      rw [way]
      by_cases c0 : wy = 5
      · rw [decide_eq_true c0]
        refine iteT ⟨_, rfl, _, rfl, _, rfl, L9, _, rfl, SqL.of e9, fun u hu => ?_⟩
        rw [cut_any, take_map]
        have s10 := Ask.Same.made1 (o := .lst ((zs.take a).map V.str)) (Same.refl H9) hu
        exact hK _ _ ⟨u, zs.take a, ov, rfl, g9.same s10, upd_same, g9.free hu, fun z hz => ok9 z (List.mem_of_mem_take hz), by rw [List.length_take]; omega, fun q => by omega⟩
      · rw [decide_eq_false c0]
        exact iteF (hK _ _ ⟨L9, zs, ov, rfl, g9, e9, n9, ok9, len9, fun q => eq9 (by omega)⟩)
    clear g9 e9 n9 ok9 len9 eq9 L9 zs ov
    rintro σ' H9 ⟨L9, zs, ov, rfl, g9, e9, n9, ok9, len9, eq9⟩
    try dsimp only
    obtain ⟨qs, lq, eq⟩ := ln_of ok9 len9 (by omega)
    have jz := join_len (ps := zs) (m := m + 1) fun z hz => (ok9 z hz).2.1
    have jz2 : zs.length * (m + 1 + 1) ≤ 31 * 32 := Nat.mul_le_mul (by omega) (by omega)
    refine ⟨⟨_, rfl⟩, _, rfl, " ", L9, zs, rfl, rfl, .inl (SqL.of e9), ?_, ?_⟩
    · exact Nat.le_trans jz (by omega)
    · rw [eq]
      exact kq H9 qs (g9.mono (by omega)) lq
end
end Ask

/-! a lambda in a name of one's own, called within a try -/
namespace Ask
open PySem L2 PySem.Spec PyProof.Rows LamX NdefX
def tCallPS (i : Nat) (f : Addr) (F : LF) (sp : Sp) (E : L2.St → XK) : TE := fun σ H Q => σ[i]? = some (some (.ref f)) ∧ LamIn H f F ∧ sp [] H Q (E σ)
theorem pe_callPS {X : Cx} {CX : CXT} {k i : Nat} {f : Addr} {F : LF} {sp : Sp} {E : L2.St → XK} {x : Str} {p pos : Pos} (la : LamAt X.prog X.w X.K X.mg X.base CX k X.fs X.s_0 X.H_0 f F sp) (hex : X.ex = []) (hr : Room k X.A) (hx : ∀ σ, PassesAt CX X σ (E σ)) (hN : X.N[i]? = some x) (hv : Vis X.env.scope x)
    (hd : (x == ("__debug__" : Str)) = false := by decide) (hcd : (x == ("__classdict__" : Str)) = false := by decide) :
    PE X (.Call (.Name x p) [] [] pos) (tCallPS i f F sp E) := by
  refine ⟨fun pins s σ H Q I h => ?_⟩
  obtain ⟨hs, hf, q⟩ := h
  refine wpAny_Call_Name_kw (thn ((pe_var (pos := p) hN hv hd hcd).run pins s σ H (fun v H1 => v = .ref f ∧ H1 = H) I ⟨.ref f, hs, rfl, rfl⟩) fun u s1 ⟨v, H1, I1, r1, q1⟩ => ?_)
  obtain ⟨ev, eH⟩ := q1
  subst ev
  rw [eH] at I1
  obtain rfl : u = Value.ref f := r1
  refine PySem.W.callWith_F0 (first := []) (lamFn I1 hf) ?_
  have un := I1.base
  rw [hex] at un
  refine wpAny_call (codeAny_mono (la.run X.A X.stack s1 H [] [] Q (E σ) hr I1.env0 un hf .nil q) fun r s' hq => ?_)
  cases r with
  | error e => exact hx σ _ H s1 e s' I1 hq
  | ok fl =>
    cases fl with
    | ret u => exact I1.after hq
    | next => exact False.elim hq
    | brk => exact False.elim hq
    | cont => exact False.elim hq
end Ask

namespace Ask
open PySem L2 LamX NdefX
theorem asg_c {v : V} {i : Nat} {u : TS} {D : Ends} {σ : L2.St} {H : Hp} (h : u D (σ.set i (some v)) H) : tSeq (tAsg (tC v) (gName i)) u D σ H := h
section
variable {P : Program} {w : World} {K : PySem.W.Frag} {mg : Str → Option Value} {base : Heap}
def spLAns : Sp := fun vs H Q _ => ∃ z : Str, vs = [.str z] ∧ z.length ≤ 500 ∧ ∀ H', Same H H' → Q (.bl (ansS z)) H'

abbrev s__law_is_answer : Stmt := top 79
theorem sc__law_is_answer : FnScope ["_law_word", "_law_signs", "_law_sign"] ["_law_word"] (defScope s__law_is_answer) := ⟨rfl, rfl, rfl, by decide +kernel, rfl, by decide +kernel, by decide +kernel⟩
theorem cut26 : cutS signs none (some 26) = small := by decide +kernel
theorem ok_lans {f : Addr} {fd : FuncData} (F : Fun K "_law_is_answer" "_law_is_answer" s__law_is_answer f fd) (T : Blt mg) : FnOk P w K mg base CX0 1 f fd ["_law_word"] spLAns := by
  refine F.ok sc__law_is_answer (fun vs H Q E h => ?_) (fun cdv A outer s H vs Q E hr h => ?_)
  · obtain ⟨z, rfl, _⟩ := h
    rfl
  · obtain ⟨z, rfl, hz, k⟩ := h
    refine ⟨_, (pss_cons (ps_set (i := 1) sc__law_is_answer.nd rfl (Or.inr rfl) pe_str)
      (pss_cons (ps_if (PW.pt (pw_or (pt_not (pt_chain op_le op_le pe_int (pe_callB call_len_str (by rfl) T.n_len (by decide +kernel) (pa_cons (pv 0) pa_nil)) pe_int)) (pw_or1 (pt_cmpR op_notIn_sign (pe_ix ix_str (pv 0) pe_int (fun _ _ => rfl)) (pe_slice sl_str (pv 1) po_none (po_some pe_int)) rfl)))) (pss_one (ps_ret pe_bl)) pss_nil)
      (pss_one (ps_ret (pe_callB (cr_all rfl) (by rfl) T.n_all (by decide +kernel) (pa_cons (pe_lc (own := [("_law_sign", 2)]) rfl sc__law_is_answer.nd (pi_str (pv 0)) (blkOk_by (N := ["_law_word", "_law_signs", "_law_sign"]) (sc := defScope s__law_is_answer) (by decide +kernel)) (fun _ _ _ _ _ => (pg_name (i := 2) sc__law_is_answer.nd rfl (Or.inl rfl))) (fun _ _ _ _ _ => pts_nil) (fun _ _ _ _ _ => (pe_cmpR op_in_sign (pv 2) (pv 1) rfl))) pa_nil)))))), ?_⟩
    replace k : ∀ H', Same H H' → Q (.bl (shortL z.cps.toList)) H' := k
    have z1 : (1000 : Nat) ≤ sizeLine := by decide
    have hl := tl_len z
    have no : ∀ D : VK, shortL z.cps.toList = false → (∀ v H', Q v H' → D v H') → D (.bl false) H := fun D e q => q _ _ (by have := k H (Same.refl H); rw [e] at this; exact this)
    refine asg_c ?_
    refine seqIf_mid (fun σ' H' => σ' = [some (.str z), some (.str signs), none] ∧ H = H' ∧ 1 ≤ z.length ∧ z.length ≤ 12 ∧ ∃ c r, z.cps.toList = c :: r ∧ c ∈ smallL) (fun K' hK => ?_) ?_
    · refine ⟨_, rfl, z, rfl, by omega, _, _, rfl, rfl, _, rfl, ite2 (fun h1 => ?_) (fun h1 => ?_)⟩
      · have h1 : (1 : Int) ≤ (z.length : Nat) := of_decide_eq_true h1
        refine ⟨_, _, rfl, rfl, _, rfl, ?_⟩
        refine ite2 (fun h2 => ?_) (fun h2 => ?_)
        · have h2 : ¬ ((z.length : Nat) : Int) ≤ 12 := fun q => by
            rw [decide_eq_true q] at h2
            cases h2
          refine no _ ?_ fun _ _ q => q
          unfold shortL
          rw [decide_eq_false (by omega)]
          rfl
        · have h2 : ((z.length : Nat) : Int) ≤ 12 := Decidable.byContradiction fun q => h2 (by rw [decide_eq_false q]; rfl)
          obtain ⟨c, r, ec⟩ : ∃ c r, z.cps.toList = c :: r := by
            cases e : z.cps.toList with
            | nil =>
              rw [e] at hl
              have : (0 : Nat) = z.length := hl
              omega
            | cons c r => exact ⟨c, r, rfl⟩
          refine ⟨_, rfl, z, 0, c, rfl, rfl, by omega, by rw [ec]; exact at_by (j := 0) rfl rfl, _, rfl, _, rfl, signs, rfl, ?_⟩
          rw [cut26]
          refine ⟨by decide +kernel, c, small, rfl, rfl, _, rfl, ?_⟩
          rw [show small.cps.toList = smallL from rfl]
          by_cases hc : c ∈ smallL
          · rw [decide_eq_true hc]
            exact iteF (hK _ _ ⟨rfl, rfl, by omega, by omega, c, r, ec, hc⟩)
          · rw [decide_eq_false hc]
            refine iteT (no _ ?_ fun _ _ q => q)
            unfold shortL
            rw [ec]
            simp only [List.head?_cons]
            rw [decide_eq_false hc, Bool.and_false, Bool.false_and]
      · have h1 : ¬ (1 : Int) ≤ (z.length : Nat) := fun q => h1 (decide_eq_true q)
        refine ⟨_, rfl, iteT (no _ ?_ fun _ _ q => q)⟩
        unfold shortL
        rw [decide_eq_false (by omega)]
        rfl
    rintro σ' H' ⟨rfl, rfl, l1, l2, c, r, ec, hc⟩
    try dsimp only
    refine ⟨_, rfl, z, rfl, fun L hL => ?_⟩
    refine lc_it walk_str (fun i H' => Same H H' ∧ H' L = some (.lst (((z.cps.toList.take i).map fun c => decide (c ∈ signsL)).map V.bl))) ⟨Ask.Same.upd_new (Same.refl H) hL, upd_same⟩ (fun _ _ _ _ => trivial) (fun i x H1 H2 hi h1 y => ?_) (fun H1 h1 => ?_)
    · obtain ⟨rfl, c', hc', rfl⟩ := y
      obtain ⟨sm, hLL⟩ := h1
      refine ⟨rfl, _, rfl, _, rfl, c', signs, rfl, rfl, _, hLL, ?_, Ask.Same.upd_new sm hL, ?_⟩
      · rw [List.length_map, List.length_map, List.length_take]
        omega
      · rw [upd_same]
        have hc2 : z.cps.toList[i]? = some c' := by rw [Array.getElem?_toList]; exact hc'
        rw [List.take_add_one, hc2]
        simp only [Option.toList_some, List.map_append, List.map_cons, List.map_nil]
        rfl
    · obtain ⟨sm, hLL⟩ := h1
      refine ⟨L, _, rfl, SqL.of hLL, ?_⟩
      have e0 : z.cps.toList.take z.cps.size = z.cps.toList := List.take_of_length_le (by simp)
      rw [e0]
      have e : shortL z.cps.toList = (z.cps.toList.map fun c => decide (c ∈ signsL)).all id := by
        unfold shortL
        rw [decide_eq_true (by omega), ec]
        simp only [List.head?_cons, Bool.true_and]
        rw [show decide (c ∈ smallL) = true from decide_eq_true hc, Bool.true_and, List.all_map]
        rfl
      have := k H1 sm
      rw [e] at this
      exact this
end
end Ask

namespace Ask
open PySem L2 LamX NdefX
theorem or_t {c : Bool} {A B : Prop} (h : A) (k : A → B) : if c = true then A else B := by
  split
  · exact h
  · exact k h
section
variable {P : Program} {w : World} {K : PySem.W.Frag} {mg : Str → Option Value} {base : Heap}
def spAEnd (K : PySem.W.Frag) : Sp := fun vs H Q _ => ∃ (a : Addr) (k : Nat) (ps : List Str), vs = [.ref a, .int (k : Nat), .non] ∧ SqL K H a (ps.map V.str) ∧ LnFit ps ∧ k ≤ 100 ∧ ∀ (H' : Hp) (t : Addr) (v : V), Same H H' → H' t = some (.tup [v, onV (ansAll (ps.drop k) k)]) → Q (.ref t) H'

abbrev s__law_answers_end : Stmt := top 80
theorem sc__law_answers_end : FnScope ["_law_words_here", "_law_at", "_law_stop", "_law_start", "_law_seen", "_law_word"] ["_law_words_here", "_law_at", "_law_stop"] (defScope s__law_answers_end) := ⟨rfl, rfl, rfl, by decide +kernel, rfl, by decide +kernel, by decide +kernel⟩
theorem ok_aend {f fI : Addr} {fd fdI : FuncData} (F : Fun K "_law_answers_end" "_law_answers_end" s__law_answers_end f fd) (T : Blt mg)
    (G__law_is_answer : FnOk P w K mg base CX0 1 fI fdI ["_law_word"] spLAns) (A__law_is_answer : At K mg "_law_is_answer" fI fdI ["_law_word"]) :
    FnOk P w K mg base CX0 2 f fd ["_law_words_here", "_law_at", "_law_stop"] (spAEnd K) := by
  refine F.ok sc__law_answers_end (fun vs H Q E h => ?_) (fun cdv A outer s H vs Q E hr h => ?_)
  · obtain ⟨a, k, ps, rfl, _⟩ := h
    rfl
  · obtain ⟨a, k, ps, rfl, hS, hf, k100, kq⟩ := h
    have h__law_is_answer := hr.mono (j := 1) (by decide)
    have z1 : (100000 : Nat) ≤ sizeLine := by decide
    have l60 := hf.1
    refine ⟨_, (pss_cons (ps_par (i := 3) (j := 4) rfl sc__law_answers_end.nd rfl rfl (by decide) rfl rfl (pa_cons (pv 1) (pa_cons (pe_lst pa_nil) pa_nil)) (by rfl))
      (pss_cons (ps_while PassesOwn.never (PW.pt (pw_and (pt_cmpR op_lt (pv 1) (pe_callB call_len_seq (by rfl) T.n_len (by decide +kernel) (pa_cons (pv 0) pa_nil)) (nomark _)) (pw_and1 (PW.pt (pw_or (pt_cmpR op_eq (pv 1) (pv 3) (nomark _)) (pw_or1 (pt_cmpR op_ne (pe_ix ix_list (pv 0) (pv 1) (fun _ _ => rfl)) (pv 2) (nomark _)))))))) (pss_cons (ps_set (i := 5) sc__law_answers_end.nd rfl (Or.inl rfl) (pe_ix ix_list (pv 0) (pv 1) (fun _ _ => rfl)))
      (pss_cons (ps_if (PW.pt (pw_or (pt_not (pt_val (pe_call G__law_is_answer (by exact h__law_is_answer) (by rfl) A__law_is_answer.m A__law_is_answer.k A__law_is_answer.b .nil pass0 (pa_cons (pv 5) pa_nil)))) (pw_or1 (PW.pt (pw_and (pt_cmpR op_notIn_seq (pv 5) (pv 4) rfl) (pw_and1 (pt_cmpR op_eq (pe_callB call_len_seq (by rfl) T.n_len (by decide +kernel) (pa_cons (pv 4) pa_nil)) pe_int (nomark _)))))))) (pss_one (ps_ret (pe_tup (pa_cons (pv 1) (pa_cons (pv 1) pa_nil))))) pss_nil)
      (pss_cons (ps_set (i := 4) sc__law_answers_end.nd rfl (Or.inl rfl) (pe_op op_cat (pv 4) (pe_slice sl_list (pe_lst (pa_cons (pv 5) pa_nil)) po_none (po_some (pe_callTy call_int1 (by rfl) T.n_int (by decide +kernel) (pa_cons (pe_cmpR op_notIn_seq (pv 5) (pv 4) rfl) pa_nil))))))
      (pss_one (ps_set (i := 1) sc__law_answers_end.nd rfl (Or.inl rfl) (pe_op op_add (pv 1) pe_int)))))))
      (pss_one (ps_ret (pe_ifExp (pt_cmpR op_eq (pv 1) (pv 3) (nomark _)) (pe_tup (pa_cons (pv 1) (pa_cons (pv 1) pa_nil))) (pe_tup (pa_cons (pv 1) (pa_cons pe_non pa_nil)))))))), ?_⟩
    refine ⟨_, rfl, Nat.zero_le _, fun l hl => ?_⟩
    have s1 := Ask.Same.made1 (o := .lst []) (Same.refl H) hl
    have e1 : upd H l (.lst []) l = some (.lst []) := upd_same
    generalize upd H l (.lst []) = H1 at s1 e1 ⊢
    refine ⟨_, _, rfl, ?_⟩
    try dsimp only
    refine ⟨fun m σ' H' => ∃ (j : Nat) (L : Addr) (ov : Option V), m = 1000 - j ∧ k + j ≤ max k ps.length ∧ σ' = [some (.ref a), some (.int ((k + j : Nat) : Int)), some .non, some (.int (k : Nat)), some (.ref L), ov] ∧ Same H H' ∧ H' L = some (.lst ((dst ((ps.drop k).take j)).map V.str)) ∧ ansW [] (ps.drop k) k = ansW (dst ((ps.drop k).take j)) (ps.drop (k + j)) (k + j) ∧ (dst ((ps.drop k).take j)).length ≤ 6, ⟨_, 0, l, none, rfl, by omega, rfl, s1, e1, rfl, Nat.zero_le _⟩, ?_⟩
    rintro m σ' H2 ⟨j, L, ov, rfl, hj, rfl, s2, e2, h2, d6⟩
    have S2 := sqL_sv (Sv.of s2) hS
    refine ⟨_, rfl, _, rfl, a, _, rfl, .inl S2, _, _, rfl, rfl, _, rfl, ?_⟩
    rw [List.length_map]
    by_cases c : k + j < ps.length
    · rw [decide_eq_true (show ((k + j : Nat) : Int) < (ps.length : Nat) by omega)]
      refine iteT ⟨_, rfl, _, rfl, rfl, _, rfl, ?_⟩
      obtain ⟨z, ez⟩ : ∃ z, ps[k + j]? = some z := ⟨_, List.getElem?_eq_getElem c⟩
      have ezV := str_at ez
      refine or_t ?_ (fun hb => ?_)
      · refine iteT ⟨_, fun σ' H' h => h, ?_⟩
        have h3 := h2
        rw [drop_at ez, ansW_next, take_more ez] at h3
        have lj : ((ps.drop k).take j).length = j := by rw [List.length_take, List.length_drop]; omega
        refine ⟨_, rfl, _, rfl, a, _, _, .str z, rfl, rfl, S2, at_by (j := k + j) rfl ezV, ?_⟩
        try dsimp only
        have ne : ps.drop k ≠ [] := fun q => by
          have := congrArg List.length q
          rw [List.length_drop] at this
          simp only [List.length_nil] at this
          omega
        have eA : ansAll (ps.drop k) k = ansW [] (ps.drop k) k := by unfold ansAll; rw [if_neg ne]
        have zf := hf.2 z (List.mem_of_getElem? ez)
        have out : okNext ((ps.drop k).take j) z = false → ∀ H3, Same H2 H3 → ∀ t, H3 t = none → Q (.ref t) (upd H3 t (.tup [.int ((k + j : Nat) : Int), .int ((k + j : Nat) : Int)])) := fun no H3 s3 t ht => by
          have s4 := Ask.Same.made1 (o := .tup [.int ((k + j : Nat) : Int), .int ((k + j : Nat) : Int)]) (Same.refl H3) ht
          rw [no] at h3
          refine kq _ t (.int ((k + j : Nat) : Int)) ((s2.trans s3).trans s4) ?_
          rw [upd_same, eA, h3]
          rfl
        have tm := take_more ez
        generalize (ps.drop k).take j = ys at e2 h3 d6 lj out tm
        refine seqIf_mid (fun σ' H' => σ' = [some (.ref a), some (.int ((k + j : Nat) : Int)), some .non, some (.int (k : Nat)), some (.ref L), some (.str z)] ∧ Same H2 H' ∧ okNext ys z = true) (fun K' hK => ?_) ?_
        · refine ⟨_, rfl, z, rfl, zf.1, fun H3 s3 => ⟨_, rfl, ?_⟩⟩
          have e3 := s3 _ _ e2
          unfold okNext at out hK
          cases az : ansS z with
          | false =>
            rw [az] at out
            exact iteT (iteT ⟨_, rfl, _, rfl, by show 2 ≤ sizeLine; omega, out rfl H3 s3⟩)
          | true =>
            rw [az] at out hK
            refine iteF ⟨_, rfl, _, rfl, L, _, rfl, .inl (SqL.of e3), rfl, all_flatS _, _, rfl, ?_⟩
            rw [show (if true = true then !inV (.str z) ((dst ys).map V.str) else inV (.str z) ((dst ys).map V.str)) = !decide (z ∈ dst ys) from by rw [if_pos rfl, inV_str]]
            have mm := (dst_ok ys).2 z
            by_cases mz : z ∈ dst ys
            · rw [decide_eq_true mz]
              exact iteF (iteF (hK _ _ ⟨rfl, s3, by rw [decide_eq_true (mm.mp mz)]; rfl⟩))
            · rw [decide_eq_false mz]
              have my : z ∉ ys := fun q => mz (mm.mpr q)
              rw [decide_eq_false my] at out hK
              refine iteT ⟨_, rfl, L, _, rfl, .inl (SqL.of e3), rfl, _, rfl, ?_⟩
              rw [List.length_map]
              by_cases l6 : (dst ys).length = 6
              · rw [show decide (V.int ((dst ys).length : Nat) = V.int 6) = true from decide_eq_true (by rw [l6]; rfl)]
                refine iteT ⟨_, rfl, _, rfl, by show 2 ≤ sizeLine; omega, out ?_ H3 s3⟩
                rw [decide_eq_false (by omega)]
                rfl
              · rw [show decide (V.int ((dst ys).length : Nat) = V.int 6) = false from decide_eq_false fun q => l6 (by have := V.int.inj q; omega)]
                exact iteF (hK _ _ ⟨rfl, s3, by rw [decide_eq_true (show (dst ys).length < 6 by omega)]; rfl⟩)
        rintro σ' H3 ⟨rfl, s3, ok⟩
        rw [if_pos ok] at h3
        have e3 := s3 _ _ e2
        try dsimp only
        refine ⟨_, rfl, _, rfl, by show 1 ≤ sizeLine; omega, fun u hu => ?_⟩
        have s4 := Ask.Same.made1 (o := .lst [.str z]) (Same.refl H3) hu
        have e4 : upd H3 u (.lst [.str z]) u = some (.lst [.str z]) := upd_same
        generalize upd H3 u (.lst [.str z]) = H4 at s4 e4 ⊢
        have eL4 := s4 _ _ e3
        refine ⟨_, rfl, _, rfl, L, _, rfl, .inl (SqL.of eL4), rfl, all_flatS _, .inr ⟨_, rfl, _, rfl, u, _, rfl, SqL.of e4, fun v hv => ?_⟩⟩
        have ec : cutV [V.str z] none (some (if (!decide (z ∈ dst ys)) = true then 1 else 0)) = (if z ∈ dst ys then [] else [z]).map V.str := by
          by_cases mz : z ∈ dst ys
          · rw [decide_eq_true mz, if_pos mz, if_neg (by decide)]
            rfl
          · rw [decide_eq_false mz, if_neg mz, if_pos (by decide)]
            rfl
        rw [show (if true = true then !inV (.str z) ((dst ys).map V.str) else inV (.str z) ((dst ys).map V.str)) = !decide (z ∈ dst ys) from by rw [if_pos rfl, inV_str], ec]
        have s5 := Ask.Same.made1 (o := .lst ((if z ∈ dst ys then [] else [z]).map V.str)) (Same.refl H4) hv
        have e5 : upd H4 v (.lst ((if z ∈ dst ys then [] else [z]).map V.str)) v = some (.lst ((if z ∈ dst ys then [] else [z]).map V.str)) := upd_same
        generalize upd H4 v (.lst ((if z ∈ dst ys then [] else [z]).map V.str)) = H5 at s5 e5 ⊢
        have l1 : (if z ∈ dst ys then [] else [z]).length ≤ 1 := by split <;> simp
        refine ⟨_, _, _, _, rfl, rfl, s5 _ _ eL4, e5, by rw [List.length_map, List.length_map]; omega, fun x hx => ?_⟩
        have en : (dst ys).map V.str ++ (if z ∈ dst ys then [] else [z]).map V.str = (dst (ys ++ [z])).map V.str := by
          rw [dst_snoc, ← List.map_append]
          split <;> simp
        rw [en]
        have s6 := Ask.Same.made1 (o := .lst ((dst (ys ++ [z])).map V.str)) (Same.refl H5) hx
        have e6 : upd H5 x (.lst ((dst (ys ++ [z])).map V.str)) x = some (.lst ((dst (ys ++ [z])).map V.str)) := upd_same
        generalize upd H5 x (.lst ((dst (ys ++ [z])).map V.str)) = H6 at s6 e6 ⊢
        try dsimp only
        rw [tm] at e6
        refine ⟨_, rfl, _, _, rfl, rfl, _, ?_, j + 1, x, _, rfl, by omega, rfl, ((s2.trans s3).trans (s4.trans s5)).trans s6, e6, h3, ?_⟩
        · omega
        · rw [← tm, dst_snoc]
          unfold okNext at ok
          rw [Bool.and_eq_true, Bool.or_eq_true] at ok
          by_cases mz : z ∈ dst ys
          · rw [if_pos mz]; exact d6
          · rw [if_neg mz, List.length_append]
            show (dst ys).length + 1 ≤ 6
            rcases ok.2 with q | q
            · exact absurd (((dst_ok ys).2 z).mpr (of_decide_eq_true q)) mz
            · have := of_decide_eq_true q; omega
      · exact ⟨_, rfl, _, rfl, a, _, _, .str z, rfl, rfl, S2, at_by (j := k + j) rfl ezV, _, rfl, rfl, _, rfl, hb⟩
    · rw [decide_eq_false (show ¬ ((k + j : Nat) : Int) < (ps.length : Nat) by omega)]
      refine iteF ?_
      try dsimp only
      have hjl : ps.drop (k + j) = [] := List.drop_eq_nil_of_le (by omega)
      rw [hjl] at h2
      refine ⟨_, rfl, _, rfl, rfl, _, rfl, ?_⟩
      by_cases j0 : k + j = k
      · rw [show decide (V.int ((k + j : Nat) : Int) = V.int (k : Nat)) = true from decide_eq_true (by rw [j0])]
        refine iteT ⟨_, rfl, _, rfl, by show 2 ≤ sizeLine; omega, fun t ht => ?_⟩
        have s4 := Ask.Same.made1 (o := .tup [.int ((k + j : Nat) : Int), .int ((k + j : Nat) : Int)]) (Same.refl H2) ht
        refine kq _ t (.int ((k + j : Nat) : Int)) (s2.trans s4) ?_
        rw [upd_same, j0]
        rw [show ps.drop k = [] from by rw [j0] at hjl; exact hjl]
        rfl
      · rw [show decide (V.int ((k + j : Nat) : Int) = V.int (k : Nat)) = false from decide_eq_false fun q => j0 (by have := V.int.inj q; omega)]
        refine iteF ⟨_, rfl, by show 2 ≤ sizeLine; omega, fun t ht => ?_⟩
        have s4 := Ask.Same.made1 (o := .tup [.int ((k + j : Nat) : Int), .non]) (Same.refl H2) ht
        refine kq _ t (.int ((k + j : Nat) : Int)) (s2.trans s4) ?_
        have ne : ps.drop k ≠ [] := fun q => by
          have := congrArg List.length q
          rw [List.length_drop] at this
          simp only [List.length_nil] at this
          omega
        rw [upd_same]
        unfold ansAll
        rw [if_neg ne, h2]
        rfl
end
end Ask

namespace Ask
open PySem L2 LamX NdefX
def kkS : List (Key × V) := [(Sum.inr ("idle" : Str), .int 1), (Sum.inr ("still" : Str), .int 1), (Sum.inr ("kept" : Str), .int 2), (Sum.inr ("over" : Str), .int 2), (Sum.inr ("undone" : Str), .int 2), (Sum.inr ("alike" : Str), .int 2)]
theorem kkS_made : mergeK [] kkS = kkS := by decide +kernel
theorem kkS_val (k : Str) : valV kkS (Sum.inr k) = if k ∈ KL then some (.int (if k ∈ LK then 1 else 2)) else none := by
  have ng : ∀ {z : Str} {v : V} {r : List (Key × V)}, k ≠ z → valV ((Sum.inr z, v) :: r) (Sum.inr k) = valV r (Sum.inr k) := fun n => valV_neg fun q => n (Sum.inr.inj q).symm
  unfold kkS
  by_cases a1 : k = "idle"
  · subst a1; rw [valV_pos rfl, if_pos (by decide +kernel), if_pos (by decide +kernel)]
  by_cases a2 : k = "still"
  · subst a2; rw [ng a1, valV_pos rfl, if_pos (by decide +kernel), if_pos (by decide +kernel)]
  by_cases a3 : k = "kept"
  · subst a3; rw [ng a1, ng a2, valV_pos rfl, if_pos (by decide +kernel), if_neg (by decide +kernel)]
  by_cases a4 : k = "over"
  · subst a4; rw [ng a1, ng a2, ng a3, valV_pos rfl, if_pos (by decide +kernel), if_neg (by decide +kernel)]
  by_cases a5 : k = "undone"
  · subst a5; rw [ng a1, ng a2, ng a3, ng a4, valV_pos rfl, if_pos (by decide +kernel), if_neg (by decide +kernel)]
  by_cases a6 : k = "alike"
  · subst a6; rw [ng a1, ng a2, ng a3, ng a4, ng a5, valV_pos rfl, if_pos (by decide +kernel), if_neg (by decide +kernel)]
  rw [ng a1, ng a2, ng a3, ng a4, ng a5, ng a6, valV_nil, if_neg]
  unfold KL
  simp only [List.mem_cons, List.not_mem_nil, or_false]
  rintro (h | h | h | h | h | h)
  · exact a1 h
  · exact a3 h
  · exact a2 h
  · exact a4 h
  · exact a5 h
  · exact a6 h
def manyN (k : Str) : Nat := if k ∈ LK then 1 else 2
theorem firW_bad {ws r : List Str} {k : Str} {i : Nat} (hi : i < manyN k) (ok : ∀ s, s < i → ∃ x, r[s]? = some x ∧ x ∈ ws) (bad : ∀ x, r[i]? = some x → x ∉ ws) : firW ws k r = some (i + 1) := by
  unfold firW
  cases r with
  | nil =>
    cases i with
    | zero => rfl
    | succ i => obtain ⟨x, e, _⟩ := ok 0 (by omega); cases e
  | cons x q =>
    dsimp only
    cases i with
    | zero => rw [if_neg (bad x rfl)]
    | succ i =>
      obtain ⟨x', e, hx⟩ := ok 0 (by omega)
      cases e
      unfold manyN at hi
      by_cases l : k ∈ LK
      · rw [if_pos l] at hi; omega
      · rw [if_neg l] at hi
        have i0 : i = 0 := by omega
        subst i0
        rw [if_pos hx, if_neg l]
        unfold secW
        cases q with
        | nil => rfl
        | cons y t => dsimp only; rw [if_neg (fun z => bad y rfl z.1)]
theorem firW_two {ws q : List Str} {x : Str} (hx : x ∈ ws) : firW ws "alike" (x :: x :: q) = some 2 := by
  unfold firW
  dsimp only
  rw [if_pos hx, if_neg (by decide +kernel)]
  unfold secW
  dsimp only
  rw [if_neg (fun z => z.2 ⟨rfl, rfl⟩)]
theorem firW_end {ws r : List Str} {k : Str} (ok : ∀ s, s < manyN k → ∃ x, r[s]? = some x ∧ x ∈ ws) (na : k = "alike" → r[0]? ≠ r[1]?) : firW ws k r = if r.length = manyN k then none else some (manyN k + 1) := by
  unfold firW
  cases r with
  | nil => obtain ⟨x, e, _⟩ := ok 0 (by unfold manyN; split <;> omega); cases e
  | cons x q =>
    obtain ⟨x', e, hx⟩ := ok 0 (by unfold manyN; split <;> omega)
    cases e
    dsimp only
    rw [if_pos hx]
    by_cases l : k ∈ LK
    · have m : manyN k = 1 := by unfold manyN; rw [if_pos l]
      rw [if_pos l, m]
      cases q with
      | nil => rfl
      | cons y t => rw [if_neg (fun z => nomatch z), if_neg (fun z => by simp only [List.length_cons] at z; omega)]
    · have m : manyN k = 2 := by unfold manyN; rw [if_neg l]
      rw [if_neg l, m]
      rw [m] at ok
      obtain ⟨y, e, hy⟩ := ok 1 (by omega)
      cases q with
      | nil => cases e
      | cons y' t =>
        cases e
        unfold secW
        dsimp only
        rw [if_pos ⟨hy, fun z => na z.1 (by rw [z.2]; rfl)⟩]
        cases t with
        | nil => rfl
        | cons u v => rw [if_neg (fun z => nomatch z), if_neg (fun z => by simp only [List.length_cons] at z; omega)]
section
variable {P : Program} {w : World} {K : PySem.W.Frag} {mg : Str → Option Value} {base : Heap}
def spWrong (K : PySem.W.Frag) : Sp := fun vs H Q _ => ∃ (a b : Addr) (ws ps : List Str), vs = [.ref a, .ref b, .int 0] ∧ SqL K H a (ws.map V.str) ∧ SqL K H b (ps.map V.str) ∧ LnFit ps ∧ ∀ H', Same H H' → Q (onV (itemW ws ps)) H'

abbrev s__law_item_wrong : Stmt := top 81
theorem sc__law_item_wrong : FnScope ["_law_letters", "_law_words_here", "_law_at", "_law_kinds", "_law_many", "_law_step"] ["_law_letters", "_law_words_here", "_law_at"] (defScope s__law_item_wrong) := ⟨rfl, rfl, rfl, by decide +kernel, rfl, by decide +kernel, by decide +kernel⟩
theorem ok_wrong {f fA : Addr} {fd fdA : FuncData} (F : Fun K "_law_item_wrong" "_law_item_wrong" s__law_item_wrong f fd) (T : Blt mg)
    (G__law_answers_end : FnOk P w K mg base CX0 2 fA fdA ["_law_words_here", "_law_at", "_law_stop"] (spAEnd K)) (A__law_answers_end : At K mg "_law_answers_end" fA fdA ["_law_words_here", "_law_at", "_law_stop"]) :
    FnOk P w K mg base CX0 3 f fd ["_law_letters", "_law_words_here", "_law_at"] (spWrong K) := by
  refine F.ok sc__law_item_wrong (fun vs H Q E h => ?_) (fun cdv A outer s H vs Q E hr h => ?_)
  · obtain ⟨a, b, ws, ps, rfl, _⟩ := h
    rfl
  · obtain ⟨a, b, ws, ps, rfl, hW, hP, hf, kq⟩ := h
    have h__law_answers_end := hr.mono (j := 2) (by decide)
    have hu := hu_of hr
    have z1 : (100000 : Nat) ≤ sizeLine := by decide
    have l60 := hf.1
    refine ⟨_, (pss_cons (ps_set (i := 3) sc__law_item_wrong.nd rfl (Or.inl rfl) (pe_disp (pps_cons pe_str pe_int (pps_cons pe_str pe_int (pps_cons pe_str pe_int (pps_cons pe_str pe_int (pps_cons pe_str pe_int (pps_cons pe_str pe_int pps_nil)))))) (by rfl) (by rfl) (fun z => by cases z) (by decide)))
      (pss_cons (ps_if (pt_cmpR op_ge (pv 2) (pe_callB call_len_seq (by rfl) T.n_len (by decide +kernel) (pa_cons (pv 1) pa_nil)) (nomark _)) (pss_one (ps_ret (pv 2))) pss_nil)
      (pss_cons (ps_if (pt_cmpR op_in_seq (pe_ix ix_list (pv 1) (pv 2) (fun _ _ => rfl)) (pe_lst (pa_cons pe_str (pa_cons pe_str (pa_cons pe_str pa_nil)))) rfl) (pss_cons (ps_if (pt_cmpR op_eq (pe_ix ix_list (pv 1) (pv 2) (fun _ _ => rfl)) pe_str (nomark _)) (pss_cons (ps_set (i := 2) sc__law_item_wrong.nd rfl (Or.inl rfl) (pe_op op_add (pv 2) pe_int))
      (pss_one (ps_if (PW.pt (pw_or (pt_cmpR op_ge (pv 2) (pe_callB call_len_seq (by rfl) T.n_len (by decide +kernel) (pa_cons (pv 1) pa_nil)) (nomark _)) (pw_or1 (pt_cmpR op_notIn_seq (pe_ix ix_list (pv 1) (pv 2) (fun _ _ => rfl)) (pv 0) rfl)))) (pss_one (ps_ret (pv 2))) pss_nil))) pss_nil)
      (pss_one (ps_ret (pe_ix ix_seq (pe_call G__law_answers_end (by exact h__law_answers_end) (by rfl) A__law_answers_end.m A__law_answers_end.k A__law_answers_end.b .nil pass0 (pa_cons (pv 1) (pa_cons (pe_op op_add (pv 2) pe_int) (pa_cons pe_non pa_nil)))) pe_int (fun _ _ => rfl))))) pss_nil)
      (pss_cons (ps_if (pt_cmp (pc_dnotin hu (pe_ix ix_list (pv 1) (pv 2) (fun _ _ => rfl)) (pv 3)) rfl) (pss_one (ps_ret (pv 2))) pss_nil)
      (pss_cons (ps_set (i := 4) sc__law_item_wrong.nd rfl (Or.inl rfl) (pe_dget hu (pv 3) (pe_ix ix_list (pv 1) (pv 2) (fun _ _ => rfl)) (fun _ _ => rfl)))
      (pss_cons (ps_for PassesOwn.never rfl (pi_range2 rfl T.n_range (pa_cons pe_int (pa_cons (pe_op op_add (pv 4) pe_int) pa_nil))) (pg_name (i := 5) sc__law_item_wrong.nd rfl (Or.inl rfl)) (pss_one (ps_if (PW.pt (pw_or (pt_cmpR op_ge (pe_op op_add (pv 2) (pv 5)) (pe_callB call_len_seq (by rfl) T.n_len (by decide +kernel) (pa_cons (pv 1) pa_nil)) (nomark _)) (pw_or1 (pt_cmpR op_notIn_seq (pe_ix ix_list (pv 1) (pe_op op_add (pv 2) (pv 5)) (fun _ _ => rfl)) (pv 0) rfl)))) (pss_one (ps_ret (pe_op op_add (pv 2) (pv 5)))) pss_nil)))
      (pss_cons (ps_if (PW.pt (pw_and (pt_cmpR op_eq (pe_ix ix_list (pv 1) (pv 2) (fun _ _ => rfl)) pe_str (nomark _)) (pw_and1 (pt_cmpR op_eq (pe_ix ix_list (pv 1) (pe_op op_add (pv 2) pe_int) (fun _ _ => rfl)) (pe_ix ix_list (pv 1) (pe_op op_add (pv 2) pe_int) (fun _ _ => rfl)) (nomark _))))) (pss_one (ps_ret (pe_op op_add (pv 2) pe_int))) pss_nil)
      (pss_one (ps_ret (pe_ifExp (pt_cmpR op_eq (pe_op op_add (pe_op op_add (pv 2) (pv 4)) pe_int) (pe_callB call_len_seq (by rfl) T.n_len (by decide +kernel) (pa_cons (pv 1) pa_nil)) (nomark _)) pe_non (pe_op op_add (pe_op op_add (pv 2) (pv 4)) pe_int))))))))))), ?_⟩
    intro d hd
    refine ⟨upd_same, kkS, rfl, by show 6 ≤ 15; decide, ?_⟩
    rw [kkS_made]
    have s1 : Same H (upd (upd H d (.dK [])) d (.dK kkS)) := fun b o e => by rw [upd_ne (ne_of_none e hd), upd_ne (ne_of_none e hd)]; exact e
    have e1 : upd (upd H d (.dK [])) d (.dK kkS) d = some (.dK kkS) := upd_same
    generalize upd (upd H d (.dK [])) d (.dK kkS) = H1 at s1 e1 ⊢
    have W1 := sqL_sv (Sv.of s1) hW
    have P1 := sqL_sv (Sv.of s1) hP
    try dsimp only
    cases ps with
    | nil =>
      refine seqIf_mid (fun _ _ => False) (fun K' hK => ?_) (fun _ _ z => z.elim)
      refine ⟨_, rfl, _, rfl, b, _, rfl, .inl P1, _, _, rfl, rfl, _, rfl, iteT ⟨_, rfl, ?_⟩⟩
      exact kq H1 s1
    | cons k r =>
    have kV : (((k :: r).map V.str)[0]? : Option V) = some (.str k) := rfl
    refine seqIf_mid (fun σ' H' => σ' = [some (.ref a), some (.ref b), some (.int 0), some (.ref d), none, none] ∧ H1 = H') (fun K' hK => ?_) ?_
    · refine ⟨_, rfl, _, rfl, b, _, rfl, .inl P1, _, _, rfl, rfl, _, rfl, ?_⟩
      rw [decide_eq_false (show ¬ ((((k :: r).map V.str).length : Nat) : Int) ≤ 0 by rw [List.length_map, List.length_cons]; omega)]
      exact iteF (hK _ _ ⟨rfl, rfl⟩)
    rintro σ' H' ⟨rfl, rfl⟩
    try dsimp only
    refine seqIf_mid (fun σ' H' => σ' = [some (.ref a), some (.ref b), some (.int 0), some (.ref d), none, none] ∧ Same H1 H' ∧ k ∉ LM) (fun K' hK => ?_) ?_
    · refine ⟨_, rfl, _, rfl, b, _, _, .str k, rfl, rfl, P1, at_by (j := 0) rfl kV, by show 3 ≤ sizeLine; omega, fun u hu2 => ?_⟩
      have s2 := Ask.Same.made1 (o := .lst (LM.map V.str)) (Same.refl H1) hu2
      have e2 : upd H1 u (.lst (LM.map V.str)) u = some (.lst (LM.map V.str)) := upd_same
      change rIn _ _ _ _ (upd H1 u (.lst (LM.map V.str))) _
      generalize upd H1 u (.lst (LM.map V.str)) = H2 at s2 e2 ⊢
      have W2 := sqL_sv (Sv.of s2) W1
      have P2 := sqL_sv (Sv.of s2) P1
      have s12 := s1.trans s2
      refine ⟨u, _, rfl, .inl (SqL.of e2), rfl, all_flatS LM, _, rfl, ?_⟩
      rw [show (if false = true then !inV (.str k) (LM.map V.str) else inV (.str k) (LM.map V.str)) = decide (k ∈ LM) from inV_str k LM]
      by_cases hl : k ∈ LM
      case neg =>
        rw [decide_eq_false hl]
        exact iteF (hK _ _ ⟨rfl, s2, hl⟩)
      rw [decide_eq_true hl]
      have eI : itemW ws (k :: r) = if k = "behind" then behW ws r else ansAll r 1 := by unfold itemW; dsimp only; rw [if_pos hl]
      refine iteT ?_
      refine seqIf_mid (fun σ' H' => ∃ n : Nat, σ' = [some (.ref a), some (.ref b), some (.int (n : Nat)), some (.ref d), none, none] ∧ H2 = H' ∧ n ≤ 1 ∧ itemW ws (k :: r) = ansAll ((k :: r).drop (n + 1)) (n + 1)) (fun K2 hK2 => ?_) ?_
      · refine ⟨_, rfl, _, rfl, b, _, _, .str k, rfl, rfl, P2, at_by (j := 0) rfl kV, rfl, _, rfl, ?_⟩
        rw [dec_str]
        by_cases bh : k = "behind"
        · rw [decide_eq_true bh]
          refine iteT ?_
          refine ⟨_, rfl, _, _, rfl, rfl, ?_⟩
          try dsimp only
          refine ⟨_, rfl, _, rfl, b, _, rfl, .inl P2, _, _, rfl, rfl, _, rfl, ?_⟩
          rw [List.length_map]
          have eB : itemW ws (k :: r) = behW ws r := eI.trans (if_pos bh)
          cases r with
          | nil =>
            refine iteT (iteT ⟨_, rfl, ?_⟩)
            have := kq H2 s12
            rw [eB] at this
            exact this
          | cons x q =>
            rw [decide_eq_false (show ¬ (((k :: x :: q).length : Nat) : Int) ≤ 0 + 1 by simp only [List.length_cons]; omega)]
            have xV : (((k :: x :: q).map V.str)[1]? : Option V) = some (.str x) := rfl
            refine iteF ⟨_, rfl, _, rfl, b, _, _, .str x, rfl, rfl, P2, at_by (j := 1) rfl xV, _, rfl, a, _, rfl, .inl W2, rfl, all_flatS ws, _, rfl, ?_⟩
            rw [show (if true = true then !inV (.str x) (ws.map V.str) else inV (.str x) (ws.map V.str)) = !decide (x ∈ ws) from by rw [if_pos rfl, inV_str]]
            by_cases hx : x ∈ ws
            · rw [decide_eq_true hx]
              refine iteF (hK2 _ _ ⟨1, rfl, rfl, by omega, ?_⟩)
              rw [eB]
              unfold behW
              dsimp only
              rw [if_pos hx]
              rfl
            · rw [decide_eq_false hx]
              refine iteT ⟨_, rfl, ?_⟩
              have := kq H2 s12
              rw [eB] at this
              unfold behW at this
              dsimp only at this
              rw [if_neg hx] at this
              exact this
        · rw [decide_eq_false bh]
          exact iteF (hK2 _ _ ⟨0, rfl, rfl, by omega, by rw [eI, if_neg bh]; rfl⟩)
      rintro σ' H' ⟨n, rfl, rfl, n1, e⟩
      try dsimp only
      refine ⟨_, rfl, _, rfl, _, _, rfl, rfl, b, n + 1, k :: r, rfl, P2, hf, by omega, fun H3 t v s3 et => ?_⟩
      refine .inr (.inl ⟨t, _, _, _, rfl, rfl, SqT.of et, rfl, ?_⟩)
      rw [← e]
      exact kq H3 (s12.trans s3)
    rintro σ' H2 ⟨rfl, s2, hl⟩
    have W2 := sqL_sv (Sv.of s2) W1
    have P2 := sqL_sv (Sv.of s2) P1
    have e2 := s2 _ _ e1
    have s12 := s1.trans s2
    clear P1 W1 e1 s1 s2
    try dsimp only
    refine seqIf_mid (fun σ' H' => σ' = [some (.ref a), some (.ref b), some (.int 0), some (.ref d), none, none] ∧ H2 = H' ∧ k ∈ KL) (fun K' hK => ?_) ?_
    · refine ⟨_, rfl, _, rfl, b, _, _, .str k, rfl, rfl, P2, at_by (j := 0) rfl kV, _, rfl, d, _, rfl, DGet.k (k := Sum.inr k) e2, _, rfl, ?_⟩
      rw [kkS_val]
      by_cases hk : k ∈ KL
      · rw [if_pos hk]
        exact iteF (hK _ _ ⟨rfl, rfl, hk⟩)
      · rw [if_neg hk]
        refine iteT ⟨_, rfl, ?_⟩
        have := kq H2 s12
        unfold itemW at this
        dsimp only at this
        rw [if_neg hl, if_neg hk] at this
        exact this
    rintro σ' H' ⟨rfl, rfl, hk⟩
    have eI : itemW ws (k :: r) = firW ws k r := by unfold itemW; dsimp only; rw [if_neg hl, if_pos hk]
    try dsimp only
    refine ⟨_, rfl, _, rfl, _, rfl, b, _, _, .str k, rfl, rfl, P2, at_by (j := 0) rfl kV, d, .int (if k ∈ LK then 1 else 2), rfl, ?_, ?_⟩
    · have := DGet.k (k := Sum.inr k) e2
      rw [kkS_val, if_pos hk] at this
      exact this
    try dsimp only
    rw [show (if k ∈ LK then (1 : Int) else 2) = ((manyN k : Nat) : Int) from by unfold manyN; split <;> rfl]
    have m2 : manyN k ≤ 2 := by unfold manyN; split <;> omega
    have m1 : 1 ≤ manyN k := by unfold manyN; split <;> omega
    have len : ∀ H', H2 = H' → SqL K H' b ((k :: r).map V.str) := fun _ e => e ▸ P2
    refine ⟨_, rfl, _, _, rfl, rfl, _, _, rfl, by omega, ?_⟩
    rw [show (((manyN k : Nat) : Int) + 1 - 1).toNat = manyN k from by omega]
    refine for_range (lo := 1) (n := manyN k) (fun i σ' H' => ∃ o5, σ' = [some (.ref a), some (.ref b), some (.int 0), some (.ref d), some (.int (manyN k : Nat)), o5] ∧ H2 = H' ∧ ∀ s, s < i → ∃ x, r[s]? = some x ∧ x ∈ ws) ⟨none, rfl, rfl, fun s h => by omega⟩ ?_ ?_
    · rintro i σ' H' hi ⟨o5, rfl, rfl, ok⟩
      try dsimp only
      have ret : firW ws k r = some (i + 1) → Q (.int (0 + (1 + (i : Int)))) H2 := fun e => by
        have := kq H2 s12
        rw [eI, e] at this
        rw [show (0 + (1 + (i : Int))) = ((i + 1 : Nat) : Int) from by omega]
        exact this
      refine ⟨_, rfl, _, rfl, _, _, rfl, rfl, _, rfl, b, _, rfl, .inl P2, _, _, rfl, rfl, _, rfl, ?_⟩
      rw [List.length_map, List.length_cons]
      cases ex : r[i]? with
      | none =>
        have := List.getElem?_eq_none_iff.mp ex
        rw [decide_eq_true (show (((r.length + 1 : Nat) : Int)) ≤ 0 + (1 + (i : Int)) by omega)]
        refine iteT (iteT ⟨_, rfl, _, rfl, _, _, rfl, rfl, ret (firW_bad hi ok fun x e => ?_)⟩)
        rw [ex] at e
        cases e
      | some x =>
        have il := (List.getElem?_eq_some_iff.mp ex).1
        rw [decide_eq_false (show ¬ (((r.length + 1 : Nat) : Int)) ≤ 0 + (1 + (i : Int)) by omega)]
        have xV : (((k :: r).map V.str)[1 + i]? : Option V) = some (.str x) := by
          rw [Nat.add_comm]
          exact str_at ex
        refine iteF ⟨_, rfl, _, rfl, _, rfl, _, _, rfl, rfl, b, _, _, .str x, rfl, rfl, P2, at_by (j := 1 + i) (by omega) xV, _, rfl, a, _, rfl, .inl W2, rfl, all_flatS ws, _, rfl, ?_⟩
        rw [show (if true = true then !inV (.str x) (ws.map V.str) else inV (.str x) (ws.map V.str)) = !decide (x ∈ ws) from by rw [if_pos rfl, inV_str]]
        by_cases hx : x ∈ ws
        · rw [decide_eq_true hx]
          refine iteF ⟨_, rfl, rfl, fun s hs => ?_⟩
          by_cases e : s = i
          · rw [e]; exact ⟨x, ex, hx⟩
          · exact ok s (by omega)
        · rw [decide_eq_false hx]
          refine iteT ⟨_, rfl, _, rfl, _, _, rfl, rfl, ret (firW_bad hi ok fun x' e => ?_)⟩
          rw [ex] at e
          cases e
          exact hx
    · rintro σ' H' ⟨o5, rfl, rfl, ok⟩
      try dsimp only
      have fin : (k = "alike" → r[0]? ≠ r[1]?) → tRet (tIf (tTest (tOp rEq (tOp (rI0 fun i j => .int (i + j)) (tOp (rI0 fun i j => .int (i + j)) (tVar 2) (tVar 4)) (tC (.int 1))) (tCB (fun xs H_1 Q => ∃ p ys, xs = [V.ref p] ∧ (SqL K H_1 p ys ∨ SqT K H_1 p ys) ∧ Q (V.int ↑ys.length) H_1) (tCons (tVar 1) tNil)))) (tC .non) (tOp (rI0 fun i j => .int (i + j)) (tOp (rI0 fun i j => .int (i + j)) (tVar 2) (tVar 4)) (tC (.int 1)))) { nx := fun _ H' => Q .non H', rt := Q } [some (.ref a), some (.ref b), some (.int 0), some (.ref d), some (.int (manyN k : Nat)), o5] H2 := fun na => by
        have eF := firW_end ok na
        refine ⟨_, rfl, _, rfl, _, _, rfl, rfl, _, _, rfl, rfl, _, rfl, b, _, rfl, .inl P2, rfl, _, rfl, ?_⟩
        rw [List.length_map, List.length_cons]
        have := kq H2 s12
        rw [eI, eF] at this
        by_cases e : r.length = manyN k
        · rw [if_pos e] at this
          rw [show decide (V.int (0 + (manyN k : Nat) + 1) = V.int ((r.length + 1 : Nat) : Int)) = true from decide_eq_true (by rw [e]; congr 1; omega)]
          exact iteT this
        · rw [if_neg e] at this
          rw [show decide (V.int (0 + (manyN k : Nat) + 1) = V.int ((r.length + 1 : Nat) : Int)) = false from decide_eq_false fun q => e (by have := V.int.inj q; omega)]
          refine iteF ⟨_, rfl, _, rfl, _, _, rfl, rfl, _, _, rfl, rfl, ?_⟩
          show Q (.int (0 + ((manyN k : Nat) : Int) + 1)) H2
          rw [show (0 + ((manyN k : Nat) : Int) + 1) = ((manyN k + 1 : Nat) : Int) from by omega]
          exact this
      refine seqIf_mid (fun σ' H' => σ' = [some (.ref a), some (.ref b), some (.int 0), some (.ref d), some (.int (manyN k : Nat)), o5] ∧ H2 = H' ∧ (k = "alike" → r[0]? ≠ r[1]?)) (fun K' hK => ?_) ?_
      · refine ⟨_, rfl, _, rfl, b, _, _, .str k, rfl, rfl, P2, at_by (j := 0) rfl kV, rfl, _, rfl, ?_⟩
        rw [dec_str]
        by_cases al : k = "alike"
        · rw [decide_eq_true al]
          have mn : manyN k = 2 := by unfold manyN; rw [if_neg (by rw [al]; decide +kernel)]
          obtain ⟨x, ex, hx⟩ := ok 0 (by omega)
          obtain ⟨y, ey, hy⟩ := ok 1 (by omega)
          have xV : (((k :: r).map V.str)[1]? : Option V) = some (.str x) := str_at (ps := k :: r) ex
          have yV : (((k :: r).map V.str)[2]? : Option V) = some (.str y) := str_at (ps := k :: r) ey
          refine iteT ⟨_, rfl, _, rfl, _, _, rfl, rfl, b, _, _, .str x, rfl, rfl, P2, at_by (j := 1) rfl xV, _, rfl, _, rfl, _, _, rfl, rfl, b, _, _, .str y, rfl, rfl, P2, at_by (j := 2) rfl yV, rfl, _, rfl, ?_⟩
          rw [dec_str]
          by_cases xy : x = y
          · rw [decide_eq_true xy]
            refine iteT ⟨_, rfl, _, _, rfl, rfl, ?_⟩
            have := kq H2 s12
            subst xy
            obtain ⟨q, rfl⟩ : ∃ q, r = x :: x :: q := by
              cases r with
              | nil => cases ex
              | cons x' r => cases r with
                | nil => cases ey
                | cons y' q => cases ex; cases ey; exact ⟨q, rfl⟩
            rw [eI, al, firW_two hx] at this
            exact this
          · rw [decide_eq_false xy]
            exact iteF (hK _ _ ⟨rfl, rfl, fun _ q => xy (Option.some.inj (ex.symm.trans (q.trans ey)))⟩)
        · rw [decide_eq_false al]
          exact iteF (hK _ _ ⟨rfl, rfl, fun q => absurd q al⟩)
      rintro σ' H' ⟨rfl, rfl, na⟩
      exact fin na
end
end Ask

namespace Ask
open PySem L2 LamX NdefX
theorem itemW_T {ws ps : List Str} (h : itemW ws ps = none) : itemT ws ps = none ∧ cntT ps = ps.length := by
  rw [item_two] at h
  cases e : itemT ws ps with
  | some i => rw [e] at h; cases h
  | none =>
    rw [e] at h
    dsimp only at h
    by_cases c : cntT ps = ps.length
    · exact ⟨rfl, c⟩
    · rw [if_neg c] at h; cases h
theorem lim_parts {ws r : List Str} {k : Str} (hl : k ∈ LM) (h : itemT ws (k :: r) = none) : dueB ws (.str k) (ltL k r) = true ∧ ∃ n, ansAll (ansL k r) n = none := by
  unfold itemT at h
  dsimp only at h
  rw [if_pos hl] at h
  unfold dueB ltL ansL
  by_cases b : k = "behind"
  · rw [if_pos b] at h
    unfold behW at h
    cases r with
    | nil => cases h
    | cons x q =>
      dsimp only at h
      by_cases d : x ∈ ws
      · rw [if_pos d] at h
        rw [if_pos b, if_pos (by rw [b]), if_pos b]
        exact ⟨decide_eq_true d, 2, h⟩
      · rw [if_neg d] at h; cases h
  · rw [if_neg b] at h
    rw [if_neg b, if_neg (fun z => b (V.str.inj z)), if_neg b]
    exact ⟨rfl, 1, h⟩
section
variable {P : Program} {w : World} {K : PySem.W.Frag} {mg : Str → Option Value} {base : Heap}
def spOf (K : PySem.W.Frag) (CL CS CI : Addr) : Sp := fun vs H Q _ => ∃ (m t b : Addr) (ws ps : List Str), vs = [.ref m, .ref b, .int 0] ∧ Mde CL H m t ws ∧ ws.Nodup ∧ SqL K H b (ps.map V.str) ∧ LnFit ps ∧ itemW ws ps = none ∧ ∀ (H' : Hp) (q : Addr) (it : Itn), Same H H' → ItmOf ws ps it → ItmAt K CL CS CI H' q ws it → Q (.ref q) H'

abbrev s__law_item_of : Stmt := top 82
theorem sc__law_item_of : FnScope ["_law_letters", "_law_words_here", "_law_at", "_law_kind"] ["_law_letters", "_law_words_here", "_law_at"] (defScope s__law_item_of) := ⟨rfl, rfl, rfl, by decide +kernel, rfl, by decide +kernel, by decide +kernel⟩
theorem ok_of {f fI fS CL CS CI CT CK CA CM CN : Addr} {uN2 : Value} {fd fdI fdS : FuncData} (F : Fun K "_law_item_of" "_law_item_of" s__law_item_of f fd) (T : Blt mg)
    (MI : Mk K CI fI) (mI : mg "Limit" = some (.ref CI)) (bI : Binds K fdI ["self", "letters", "kind", "answers", "letter"] []) (ruI : RelV .non uN2) (bI0 : Binds K fdI ["self", "letters", "kind", "answers", "letter"] [uN2]) (GI : FnOk P w K mg base (L2.CX P w) 5 fI fdI ["self", "letters", "kind", "answers", "letter"] (spLim K CL CI CK CA CM CT))
    (MS : Mk K CS fS) (mS : mg "Sentence" = some (.ref CS)) (bS : Binds K fdS ["self", "letters", "kind", "first", "second"] []) (GS : FnOk P w K mg base (L2.CX P w) 7 fS fdS ["self", "letters", "kind", "first", "second"] (spSen K CL CS CK CT CN)) :
    FnOk P w K mg base CX0 9 f fd ["_law_letters", "_law_words_here", "_law_at"] (spOf K CL CS CI) := by
  refine F.ok sc__law_item_of (fun vs H Q E h => ?_) (fun cdv A outer s H vs Q E hr h => ?_)
  · obtain ⟨m, t, b, ws, ps, rfl, _⟩ := h
    rfl
  · obtain ⟨m, t, b, ws, ps, rfl, hM, nd, hP, hf, hw, kq⟩ := h
    have h_lim := hr.mono (j := 6) (by decide)
    have z1 : (100000 : Nat) ≤ sizeLine := by decide
    have l60 := hf.1
    obtain ⟨hT, hc⟩ := itemW_T hw
    refine ⟨_, (pss_cons (ps_set (i := 3) sc__law_item_of.nd rfl (Or.inl rfl) (pe_ix ix_list (pv 1) (pv 2) (fun _ _ => rfl)))
      (pss_cons (ps_if (pt_cmpR op_in_seq (pv 3) (pe_lst (pa_cons pe_str (pa_cons pe_str pa_nil))) rfl) (pss_one (ps_ret (pe_make MI GI h_lim (by rfl) mI bI0 (.cons ruI .nil) passE (pa_cons (pv 0) (pa_cons (pv 3) (pa_cons (pe_slice sl_list (pv 1) (po_some (pe_op op_add (pv 2) pe_int)) po_none) pa_nil)))))) pss_nil)
      (pss_cons (ps_if (pt_cmpR op_eq (pv 3) pe_str (nomark _)) (pss_one (ps_ret (pe_make MI GI h_lim (by rfl) mI bI .nil passE (pa_cons (pv 0) (pa_cons (pv 3) (pa_cons (pe_slice sl_list (pv 1) (po_some (pe_op op_add (pv 2) pe_int)) po_none) (pa_cons (pe_ix ix_list (pv 1) (pe_op op_add (pv 2) pe_int) (fun _ _ => rfl)) pa_nil))))))) pss_nil)
      (pss_one (ps_ret (pe_make MS GS hr (by rfl) mS bS .nil passE (pa_cons (pv 0) (pa_cons (pv 3) (pa_cons (pe_ix ix_list (pv 1) (pe_op op_add (pv 2) pe_int) (fun _ _ => rfl)) (pa_cons (pe_ifExp (pt_cmpR op_eq (pe_callB call_len_seq (by rfl) T.n_len (by decide +kernel) (pa_cons (pv 1) pa_nil)) (pe_op op_add (pv 2) pe_int) (nomark _)) pe_non (pe_ix ix_list (pv 1) (pe_op op_add (pv 2) pe_int) (fun _ _ => rfl))) pa_nil)))))))))), ?_⟩
    cases ps with
    | nil => cases hT
    | cons k r =>
    have kV : (((k :: r).map V.str)[0]? : Option V) = some (.str k) := rfl
    refine ⟨_, rfl, _, rfl, b, _, _, .str k, rfl, rfl, hP, at_by (j := 0) rfl kV, ?_⟩
    try dsimp only
    have hlim : k ∈ LM → ∀ (H2 : Hp) (u : Addr), Same H H2 → H2 u = some (.lst ((ansL k r).map V.str)) → ∀ x dx, H2 x = none → H2 dx = none → dx ≠ x → spLim K CL CI CK CA CM CT [.ref x, .ref m, .str k, .ref u, ltL k r] (upd (upd H2 dx (.own x)) x (.ins CI dx [])) (fun v H' => v = .non ∧ Q (.ref x) H') E0 := fun hl H2 u s2 e2 x dx hx hdx hne => by
      obtain ⟨due, n, hN⟩ := lim_parts hl hT
      obtain ⟨ks, so⟩ := setOf_ex (ansL k r)
      obtain ⟨a1, a2, a3, a4⟩ := sets_ok hN so
      obtain ⟨b1, b2, _⟩ := ansAll_none hN
      have al : (ansL k r).length ≤ 60 := by
        unfold ansL
        simp only [List.length_cons] at l60
        split
        · rw [List.length_drop]; omega
        · omega
      exact lim_made (hM.same s2) hl due (SqL.of e2) al b1 b2 so a3 hx hdx hne fun H5 s5 hlm => ⟨rfl, kq H5 x (.lim k (ltL k r) ks) (s2.trans s5) ⟨k, r, rfl, .inr ⟨hl, ks, rfl, so⟩⟩ hlm⟩
    have cut : ∀ n : Nat, n ≤ (k :: r).length → cutV ((k :: r).map V.str) (some (n : Int)) none = ((k :: r).drop n).map V.str := fun n h => by
      rw [cutV_from _ n (by rw [List.length_map]; exact h), List.map_drop]
    refine seqIf_mid (fun σ' H' => σ' = [some (.ref m), some (.ref b), some (.int 0), some (.str k)] ∧ Same H H' ∧ (k ∈ LM → k = "behind")) (fun K' hK => ?_) ?_
    · refine ⟨_, rfl, by show 2 ≤ sizeLine; omega, fun l hl => ?_⟩
      have s1 := Ask.Same.made1 (o := .lst ((["always", "fresh"] : List Str).map V.str)) (Same.refl H) hl
      have e1 : upd H l (.lst ((["always", "fresh"] : List Str).map V.str)) l = some (.lst ((["always", "fresh"] : List Str).map V.str)) := upd_same
      change rIn _ _ _ _ (upd H l (.lst ((["always", "fresh"] : List Str).map V.str))) _
      generalize upd H l (.lst ((["always", "fresh"] : List Str).map V.str)) = H1 at s1 e1 ⊢
      have P1 := sqL_sv (Sv.of s1) hP
      refine ⟨l, _, rfl, .inl (SqL.of e1), rfl, all_flatS _, _, rfl, ?_⟩
      rw [show (if false = true then !inV (.str k) ((["always", "fresh"] : List Str).map V.str) else inV (.str k) ((["always", "fresh"] : List Str).map V.str)) = decide (k ∈ (["always", "fresh"] : List Str)) from inV_str k _]
      by_cases c : k ∈ (["always", "fresh"] : List Str)
      · rw [decide_eq_true c]
        have c' : k = "always" ∨ k = "fresh" := by simpa using c
        have hm : k ∈ LM := by rcases c' with rfl | rfl <;> decide +kernel
        have nb : k ≠ "behind" := by rcases c' with rfl | rfl <;> decide +kernel
        refine iteT ⟨_, rfl, _, rfl, _, rfl, _, rfl, _, _, rfl, rfl, _, rfl, b, _, rfl, P1, fun u hu => ?_⟩
        rw [show (0 + (1 : Int)) = ((1 : Nat) : Int) from rfl, cut 1 (by simp only [List.length_cons]; omega)]
        have s2 := Ask.Same.made1 (o := .lst (((k :: r).drop 1).map V.str)) (Same.refl H1) hu
        have e2 : upd H1 u (.lst (((k :: r).drop 1).map V.str)) u = some (.lst (((k :: r).drop 1).map V.str)) := upd_same
        generalize upd H1 u (.lst (((k :: r).drop 1).map V.str)) = H2 at s2 e2 ⊢
        intro x dx hx hdx hne
        have := hlim hm H2 u (s1.trans s2) (by rw [e2]; unfold ansL; rw [if_neg nb]; rfl) x dx hx hdx hne
        rw [show ltL k r = .non from by unfold ltL; rw [if_neg nb]] at this
        exact this
      · rw [decide_eq_false c]
        refine iteF (hK _ _ ⟨rfl, s1, fun hm => ?_⟩)
        unfold LM at hm
        simp only [List.mem_cons, List.not_mem_nil, or_false] at hm c
        rcases hm with h | h | h
        · exact absurd (.inl h) c
        · exact absurd (.inr h) c
        · exact h
    rintro σ' H1 ⟨rfl, s1, hb⟩
    have P1 := sqL_sv (Sv.of s1) hP
    try dsimp only
    refine seqIf_mid (fun σ' H' => σ' = [some (.ref m), some (.ref b), some (.int 0), some (.str k)] ∧ H1 = H' ∧ k ∉ LM) (fun K' hK => ?_) ?_
    · refine ⟨_, rfl, rfl, _, rfl, ?_⟩
      rw [dec_str]
      by_cases bh : k = "behind"
      · rw [decide_eq_true bh]
        have hm : k ∈ LM := by rw [bh]; decide +kernel
        obtain ⟨x, q, rfl⟩ : ∃ x q, r = x :: q := by
          unfold itemT at hT
          dsimp only at hT
          rw [if_pos hm, if_pos bh] at hT
          cases r with
          | nil => cases hT
          | cons x q => exact ⟨x, q, rfl⟩
        refine iteT ⟨_, rfl, _, rfl, _, rfl, _, rfl, _, _, rfl, rfl, _, rfl, b, _, rfl, P1, fun u hu => ?_⟩
        rw [show (0 + (2 : Int)) = ((2 : Nat) : Int) from rfl, cut 2 (by simp only [List.length_cons]; omega)]
        have s2 := Ask.Same.made1 (o := .lst (((k :: x :: q).drop 2).map V.str)) (Same.refl H1) hu
        have e2 : upd H1 u (.lst (((k :: x :: q).drop 2).map V.str)) u = some (.lst (((k :: x :: q).drop 2).map V.str)) := upd_same
        generalize upd H1 u (.lst (((k :: x :: q).drop 2).map V.str)) = H2 at s2 e2 ⊢
        have P2 := sqL_sv (Sv.of s2) P1
        have xV : (((k :: x :: q).map V.str)[1]? : Option V) = some (.str x) := rfl
        refine ⟨_, rfl, _, rfl, _, _, rfl, rfl, b, _, _, .str x, rfl, rfl, P2, at_by (j := 1) rfl xV, ?_⟩
        intro y dy hy hdy hne
        have := hlim hm H2 u (s1.trans s2) (by rw [e2]; unfold ansL; rw [if_pos bh]; rfl) y dy hy hdy hne
        rw [show ltL k (x :: q) = .str x from by unfold ltL; rw [if_pos bh]] at this
        exact this
      · rw [decide_eq_false bh]
        exact iteF (hK _ _ ⟨rfl, rfl, fun z => bh (hb z)⟩)
    rintro σ' H' ⟨rfl, rfl, hl⟩
    have hk : k ∈ KL := by
      unfold itemT at hT
      dsimp only at hT
      rw [if_neg hl] at hT
      by_cases z : k ∈ KL
      · exact z
      · rw [if_neg z] at hT; cases hT
    have hF : firT ws k r = none := by
      unfold itemT at hT
      dsimp only at hT
      rw [if_neg hl, if_pos hk] at hT
      exact hT
    obtain ⟨x, q, rfl, dr, hq⟩ := dr_line hk hF
    have xV : (((k :: x :: q).map V.str)[1]? : Option V) = some (.str x) := rfl
    have fin : ∀ p dx, H1 p = none → H1 dx = none → dx ≠ p → spSen K CL CS CK CT CN [.ref p, .ref m, .str k, .str x, scdV k q] (upd (upd H1 dx (.own p)) p (.ins CS dx [])) (fun v H' => v = .non ∧ Q (.ref p) H') E0 := fun p dx hp hdx hne => by
      refine sen_made (pp := m) (hM.same s1) nd dr hp hdx hne fun H5 k' x' s' s5 nf hs => ⟨rfl, ?_⟩
      exact kq H5 p (.sen k' x' s') (s1.trans s5) ⟨k, x :: q, rfl, .inl ⟨hk, x, q, k', x', s', rfl, nf, rfl⟩⟩ hs
    unfold cntT at hc
    dsimp only at hc
    rw [if_neg hl] at hc
    try dsimp only
    refine ⟨_, rfl, _, rfl, _, rfl, _, rfl, _, _, rfl, rfl, b, _, _, .str x, rfl, rfl, P1, at_by (j := 1) rfl xV, _, rfl, b, _, rfl, .inl P1, _, rfl, _, _, rfl, rfl, rfl, _, rfl, ?_⟩
    rw [List.length_map, List.length_cons, List.length_cons]
    by_cases c : k ∈ LK
    · rw [if_pos c] at hc
      simp only [List.length_cons] at hc
      rw [show decide (V.int ((q.length + 1 + 1 : Nat) : Int) = V.int (0 + 2)) = true from decide_eq_true (by congr 1; omega)]
      rw [show scdV k q = .non from by unfold scdV; rw [if_pos c]] at fin
      exact iteT fin
    · rw [if_neg c] at hc
      simp only [List.length_cons] at hc
      obtain ⟨y, t', rfl⟩ := hq c
      have yV : (((k :: x :: y :: t').map V.str)[2]? : Option V) = some (.str y) := rfl
      simp only [List.length_cons] at hc
      rw [show decide (V.int (((y :: t').length + 1 + 1 : Nat) : Int) = V.int (0 + 2)) = false from decide_eq_false fun z => by have := V.int.inj z; simp only [List.length_cons] at this; omega]
      rw [show scdV k (y :: t') = .str y from by unfold scdV; rw [if_neg c]] at fin
      exact iteF ⟨_, rfl, _, rfl, _, _, rfl, rfl, b, _, _, .str y, rfl, rfl, P1, at_by (j := 2) rfl yV, fin⟩
end
end Ask

namespace Ask
open PySem L2 LamX NdefX
theorem ExtN.of {H H' : Hp} (s : Same H H') : ExtN H H' := fun b o e _ => s b o e
theorem ExtN.refl (H : Hp) : ExtN H H := fun _ _ e _ => e
theorem ExtN.trans {H H1 H2 : Hp} (a : ExtN H H1) (b : ExtN H1 H2) : ExtN H H2 := fun c o e n => b c o (a c o e n) n
def tsText (CT : Addr) : Addr → Value → Option Addr → TS := fun a cls d => tRet (tTup (tCons (tXf a cls d CT "line" (tVar 1)) (tCons (tXf a cls d CT "place" (tVar 1)) tNil)))
structure ExT (K : PySem.W.Frag) (CT : Addr) : Prop where
  tt : PySem.W.exmOne K (.ref CT) (.ref CT) = some true
  f1 : PySem.W.findIn K (.ref CT) "line" = some none
  f2 : PySem.W.findIn K (.ref CT) "place" = some none
/-- how a deed ends -/
structure OutT (T : List NTab) (CT : Addr) (o : Option Nat) (H : Hp) (Q : VK) (E : XK) : Prop where
  g : o = none → ∀ (v : V) (H' : Hp), ExtN H H' → TabsN T H' → Q v H'
  e : ∀ i, o = some i → ∀ (H' : Hp) (d : Addr), ExtN H H' → TabsN T H' → H' d = some (.xd (fsText [.int 1, .int ((i : Int) + 1)])) → E (.ref CT) (some d) H'
def ToldT (H : Hp) (o : Option Nat) (v : V) : Prop := (o = none ∧ v = .non) ∨ ∃ (i : Nat) (t : Addr), o = some i ∧ v = .ref t ∧ H t = some (.tup [.int 1, .int ((i : Int) + 1)])
section
variable {P : Program} {w : World} {K : PySem.W.Frag} {mg : Str → Option Value} {base : Heap}
def spTF (T : List NTab) (CT : Addr) : LPr → Sp := fun L vs H Q _ => ∃ (f : Addr) (F : LF) (sp : Sp) (o : Option Nat), vs = [.ref f] ∧ L f F sp ∧ LamIn H f F ∧ (∀ Q' E', OutT T CT o H Q' E' → sp [] H Q' E') ∧ ∀ (H' : Hp) (v : V), ExtN H H' → TabsN T H' → ToldT H' o v → Q v H'
theorem tf_mono {T : List NTab} {CT : Addr} : MonoH (spTF T CT) := fun L L' hL vs H Q E ⟨f, F, sp, o, a, b, d⟩ => ⟨f, F, sp, o, a, hL _ _ _ b, d⟩
abbrev s__law_text_fault : Stmt := top 78
theorem sc__law_text_fault : FnScope ["_law_deed", "e"] ["_law_deed"] (defScope s__law_text_fault) := ⟨rfl, rfl, rfl, by decide +kernel, rfl, by decide +kernel, by decide +kernel⟩
theorem ok_tf {T : List NTab} {f CT fT : Addr} {fd fdT : FuncData} {psT : List Str} (F : Fun K "_law_text_fault" "_law_text_fault" s__law_text_fault f fd)
    (ET : ErrAt K mg "BadText" CT fT fdT psT) (X : ExT K CT) :
    FnOkH P w K mg base (L2.CX P w) CX0 11 12 f fd ["_law_deed"] (spTF T CT) := by
  refine okH F sc__law_text_fault (fun L vs H Q E h => ?_) (fun cdv A outer s H vs Q E hr h => ?_)
  · obtain ⟨g, G, sp, o, rfl, _⟩ := h
    rfl
  · obtain ⟨g, G, sp, o, rfl, la, lin, hsp, k⟩ := h
    refine ⟨_, (pss_cons (ps_try_hands (tb := fun W => tDrop (tCallPS 0 g G sp (WE W))) (Wf := fun D => wAs K (.ref CT) 1 (tsText CT) (fun _ _ _ _ => False) D) rfl rfl
        (fun W pn xe tk _ => pss_one (ps_expr (by exact (pe_callPS la rfl hr (fun σ => passAt tk σ) rfl (Or.inl rfl)))))
        (fun D => hands_as (ts := tsText CT) rfl sc__law_text_fault.nd rfl rfl ⟨rfl, by decide, Or.inl ET.m⟩
            (fun a oe cls d pn hz hf => pss_one (ps_ret (by exact (pe_tup (pa_cons (pe_xf ET.xf X.f1 hz hf (pv 1)) (pa_cons (pe_xf ET.xf X.f2 hz hf (pv 1)) pa_nil))))))
          (hands_nil rfl rfl L2.takes0)))
      (pss_one (ps_ret pe_non))), ?_⟩
    have z1 : (100000 : Nat) ≤ sizeLine := by decide
    refine ⟨rfl, lin, hsp _ _ ⟨fun e v H' x' t' => ?_, fun i e H' d x' t' hd => ?_⟩⟩
    · exact k H' .non x' t' (.inl ⟨e, rfl⟩)
    · refine ⟨true, X.tt, fun _ a0 _ => ?_, (fun q => Bool.noConfusion q)⟩
      refine ⟨_, rfl, rfl, rfl, d, _, _, rfl, hd, rfl, _, rfl, rfl, rfl, d, _, _, rfl, hd, rfl, by show 2 ≤ sizeLine; omega, fun t ht => ?_⟩
      have s1 := Ask.Same.made1 (o := .tup [.int 1, .int ((i : Int) + 1)]) (Same.refl H') ht
      exact k _ _ (x'.trans (ExtN.of s1)) (t'.ext s1) (.inr ⟨i, t, e, rfl, upd_same⟩)
end
end Ask

/-! str(o), o an instance with its own __str__ -/
namespace Ask
open PySem L2 PySem.Spec PyProof.Rows
open Builtin Builtin.Str
theorem strOf_own {prog : Program} {w : World} {K : PySem.W.Frag} {A : Around} {E : Value → Shared → Prop} {s : Shared} {x C f : Addr} {ox : Obj} {od : Option Obj} {Q : Value → Shared → Prop} (hu : A.units < cLine) (X : K.In s.heap) (I : PySem.W.InstAt s.heap x ox C od)
    (hs : PySem.W.findIn K (.ref C) "__str__" = some (some (.ref f))) (hf : PySem.W.isFn K (.ref f) = true)
    (h : wpAny (model prog w) A (call (.ref f) [.ref x]) (fun v s' => ∃ y t, v = .str y t ∧ Q v s') E s) : wpAny (model prog w) A (Builtin.Str.strOf (.ref x)) Q E s := by
  unfold Builtin.Str.strOf
  rw [show isExactStr (Value.ref x) = false from rfl]
  refine wpAny_bind (m := cRoomFor _ _) (wpAny_cRoomFor hu ?_)
  refine wpAny_bind (m := callSpecial? (.ref x) (Str.ofString "__str__")) (PySem.W.special_fn X I hs (beq_iff_eq.mp hf) (wpAny_mono h (fun r s' hr => ?_) fun _ _ z => z))
  obtain ⟨y, t, rfl, q⟩ := hr
  exact wpAny_pure q
theorem meetsIn_str_new {prog : Program} {w : World} {v : Value} {S : PySem.Spec} (hs : ∀ (A : Around) (R : Result → Shared → Prop) (s : Shared), S A R s →
      wpAny (model prog w) A.in1 (Builtin.Str.strOf v) (fun r s' => R (.ok (.ret r)) s') (fun e s' => R (.error e) s') s) : MeetsIn prog w (Builtin.«str.__new__» ⟨[.type "str", v], []⟩) S := by
  refine MeetsIn.of_wp fun A R s h => ?_
  rw [str_new_tree v]
  refine wpAny_bind (wpAny_pure ?_)
  refine wpAny_bind (wpAny_of_eq isSubtype_str_str ?_)
  exact wpAny_bind (wpAny_mono (hs A R s h) (fun r s' h' => wpAny_pure ⟨_, rfl, h'⟩) fun _ _ e => e)
section
variable {X : Cx} {CX : CXT} {k : Nat} {C f : Addr} {fd : FuncData} {ps : List Str} {sp : Sp} {E : XK}
theorem call_strI (F : FnOk X.prog X.w X.K X.mg X.base CX k f fd ps sp) (hr : Room (k + 2) X.A) (hb : Binds X.K fd ps []) (hx : Passes CX X E) (hs : PySem.W.findIn X.K (.ref C) "__str__" = some (some (.ref f))) (hf : PySem.W.isFn X.K (.ref f) = true) :
    CallR X (.type "str") (fun xs H Q => ∃ (a dx : Addr) (fs : List (Str × V)), xs = [.ref a] ∧ H a = some (.ins C dx fs) ∧ sp [.ref a] H (fun v H' => ∃ z : Str, v = .str z ∧ Q (.str z) H') E) := by
  intro pins s σ H xs us Q I r h
  obtain ⟨a, dx, fs, rfl, ha, q⟩ := h
  obtain ⟨u, rfl, ra⟩ := vals1 r
  obtain rfl : u = Value.ref a := ra
  obtain ⟨mA, J, _⟩ := ins_get I.hok ha
  obtain ⟨od, J, _⟩ := J.look
  have hu := hr.in1.in1.un
  refine PySem.callType_newIn PySem.F.called_str (by decide) (PySem.F.typeCall_str_1 _) (PySem.F.newCall_str_1 _) (fun obj => PySem.F.args_object_init_2 obj _) PySem.F.entry_str_new
    (meetsIn_str_new (prog := X.prog) (w := X.w) (v := .ref a) (S := fun A' R s' => A'.in1.units < cLine ∧ (∃ ox, X.K.In s'.heap ∧ PySem.W.InstAt s'.heap a ox C od) ∧ wpAny (model X.prog X.w) A'.in1 (call (.ref f) [.ref a]) (fun v s2 => ∃ y t, v = .str y t ∧ R (.ok (.ret v)) s2) (fun e s2 => R (.error e) s2) s')
      fun A' R s' hq => by
        obtain ⟨h1, ⟨ox, h2, h3⟩, h4⟩ := hq
        exact strOf_own h1 h2 h3 hs hf h4) ?_
  refine ⟨by omega, ⟨_, I.kIn, J⟩, thn (run_at (vs := [.ref a]) F hr.in1.in1 rfl hb hx I (.cons rfl .nil) q) fun r s' ⟨z, H', I', rz, y, ez, q'⟩ => ?_⟩
  subst ez
  obtain ⟨t, rfl⟩ := rz
  exact ⟨y, t, rfl, typeIs_str _ _ _, ⟨.str y, H', I', ⟨_, rfl⟩, q'⟩⟩
end
end Ask

namespace Ask
open PySem L2 LamX NdefX
/-! ### items as values -/
def kindI : Itn → Str
  | .sen k _ _ => k
  | .lim k _ _ => k
def restV : Itn → List V
  | .sen _ x s => [.str x, s]
  | .lim _ lt ks => lt :: ks.map V.str
def tailW : Itn → List Str
  | .sen _ x s => (wordsS "" x s).tail
  | .lim _ lt ks => (wordsL "" lt ks).tail
theorem wordsI_eq (it : Itn) : wordsI it = kindI it :: tailW it := by
  cases it with
  | sen k x s => cases s <;> rfl
  | lim k lt ks => cases lt <;> rfl
theorem noN_strs (ks : List Str) : noN (ks.map V.str) = ks.map V.str := by
  unfold noN
  exact List.filter_eq_self.mpr fun v hv => by
    obtain ⟨z, _, rfl⟩ := List.mem_map.mp hv
    rw [decide_eq_false (fun q => nomatch q)]
    rfl
theorem noN_cons_str (y : Str) (xs : List V) : noN (.str y :: xs) = .str y :: noN xs := by
  unfold noN
  rw [List.filter_cons, if_pos (by rw [decide_eq_false (fun q => nomatch q)]; rfl)]
theorem noN_cons_non (xs : List V) : noN (.non :: xs) = noN xs := by
  unfold noN
  rw [List.filter_cons, if_neg (by rw [decide_eq_true rfl]; exact Bool.false_ne_true)]
theorem ItmOk.second {ws : List Str} {k x : Str} {s : V} (h : SOk ws k s) : s = .non ∨ ∃ y, s = .str y := by
  rcases h.cases with h | ⟨y, h, _⟩
  · exact .inl h
  · exact .inr ⟨y, h⟩
theorem rest_noN {ws : List Str} {it : Itn} (h : ItmOk ws it) : noN (restV it) = (tailW it).map V.str := by
  cases h with
  | @sen k x s hk hx hs na nf =>
    show noN [.str x, s] = _
    rw [noN_cons_str]
    rcases ItmOk.second (x := x) hs with rfl | ⟨y, rfl⟩
    · rw [noN_cons_non]; rfl
    · rw [noN_cons_str]; rfl
  | @lim k lt ks hk due ne ok le so =>
    show noN (lt :: ks.map V.str) = _
    rcases (due_non due).1 with rfl | ⟨y, rfl⟩
    · rw [noN_cons_non, noN_strs]; rfl
    · rw [noN_cons_str, noN_strs]; rfl
theorem ls_wok {ws : List Str} (h : Lts ws) : ∀ y ∈ ws, NoSp y ∧ y.length ≤ 13 ∧ Asc y := fun y hy => by
  obtain ⟨a, b, c⟩ := h.ok y hy
  refine ⟨fun z => ?_, b, c⟩
  have g : shortL (wordOf y.cps.toList) = true := by
    have : shortL (wordS y).cps.toList = true := good_short a
    unfold wordS at this
    simpa using this
  have no : (32 : Nat) ∉ wordOf y.cps.toList := fun q => absurd (short_signs g 32 q) (by decide +kernel)
  generalize y.cps.toList = l at z no
  unfold wordOf at no
  cases l with
  | nil => cases z
  | cons c r =>
    by_cases e : (c :: r).head? = some 126
    · rw [if_pos e] at no
      cases List.mem_cons.mp z with
      | inl q => rw [← q] at e; cases e
      | inr q => exact no q
    · rw [if_neg e] at no
      exact no z
theorem ans_wok {z : Str} (h : ansS z = true) : NoSp z ∧ z.length ≤ 12 ∧ Asc z := by
  obtain ⟨a, b⟩ := ans_fit h
  refine ⟨fun q => ?_, a, b⟩
  exact absurd (short_signs (show shortL z.cps.toList = true from h) 32 q) (by decide +kernel)
theorem kind_wok : ∀ k ∈ KL ++ LM, WOk k 13 := by
  intro k hk
  unfold KL LM at hk
  simp only [List.cons_append, List.nil_append, List.mem_cons, List.not_mem_nil, or_false] at hk
  rcases hk with rfl | rfl | rfl | rfl | rfl | rfl | rfl | rfl | rfl <;> exact wok_of (by decide +kernel)
theorem words_sen {ws : List Str} {k x : Str} {s : V} (lts : Lts ws) (hk : k ∈ KL) (hx : x ∈ ws) (hs : SOk ws k s) : (∀ z ∈ wordsS k x s, WOk z 13) ∧ (wordsS k x s).length ≤ 3 := by
  have k13 : WOk k 13 := kind_wok k (List.mem_append_left _ hk)
  rcases hs.cases with rfl | ⟨y, rfl, hy⟩
  · refine ⟨fun z hz => ?_, by show 2 ≤ 3; decide⟩
    have hz : z ∈ [k, x] := hz
    simp only [List.mem_cons, List.not_mem_nil, or_false] at hz
    rcases hz with rfl | rfl
    · exact k13
    · exact ls_wok lts _ hx
  · refine ⟨fun z hz => ?_, by show 3 ≤ 3; decide⟩
    have hz : z ∈ [k, x, y] := hz
    simp only [List.mem_cons, List.not_mem_nil, or_false] at hz
    rcases hz with rfl | rfl | rfl
    · exact k13
    · exact ls_wok lts _ hx
    · exact ls_wok lts _ hy
theorem words_lim {ws : List Str} {k : Str} {lt : V} {js : List Str} (lts : Lts ws) (hk : k ∈ LM) (due : dueB ws (.str k) lt = true) (ok : ∀ z ∈ js, ansS z = true) : (∀ z ∈ wordsL k lt js, WOk z 13) ∧ (wordsL k lt js).length ≤ js.length + 2 := by
  have k13 : WOk k 13 := kind_wok k (List.mem_append_right _ hk)
  have a13 : ∀ z ∈ js, WOk z 13 := fun z hz => WOk.mono (ans_wok (ok z hz)) (by decide)
  rcases (due_non due).1 with rfl | ⟨y, rfl⟩
  · refine ⟨fun z hz => ?_, by show js.length + 1 ≤ _; omega⟩
    have hz : z ∈ k :: js := hz
    rcases List.mem_cons.mp hz with rfl | hz
    · exact k13
    · exact a13 z hz
  · have hy := (due_non due).2 y rfl
    refine ⟨fun z hz => ?_, by show js.length + 2 ≤ _; omega⟩
    have hz : z ∈ k :: y :: js := hz
    rcases List.mem_cons.mp hz with rfl | hz
    · exact k13
    · rcases List.mem_cons.mp hz with rfl | hz
      · exact ls_wok lts _ hy
      · exact a13 z hz
theorem words_ln {ws : List Str} {it : Itn} (lts : Lts ws) (h : ItmOk ws it) : Ln (wordsI it) 13 8 := by
  refine ⟨by rw [wordsI_eq]; exact (fun q => nomatch q), fun z hz => ?_, ?_⟩
  · cases h with
    | sen hk hx hs na nf => exact (words_sen lts hk hx hs).1 z hz
    | lim hk due ne ok le so => exact (words_lim lts hk due ok).1 z hz
  · cases h with
    | sen hk hx hs na nf => exact Nat.le_trans (words_sen lts hk hx hs).2 (by decide)
    | lim hk due ne ok le so => exact Nat.le_trans (words_lim lts hk due ok).2 (by omega)
theorem Ln.fit {ps : List Str} {m n : Nat} (h : Ln ps m n) (hm : m ≤ 500) (hn : n ≤ 60) : LnFit ps := ⟨Nat.le_trans h.len hn, fun z hz => ⟨Nat.le_trans (h.ok z hz).2.1 hm, (h.ok z hz).2.2⟩⟩
theorem Ln.split {ps : List Str} {m n : Nat} (h : Ln ps m n) : Txt.split (Txt.join " " ps) " " = ps := split_join h.ne fun z hz => (h.ok z hz).1
theorem Ln.size {ps : List Str} {m n : Nat} (h : Ln ps m n) (hm : m ≤ 100) (hn : n ≤ 60) : (Txt.join " " ps).length ≤ 100000 := by
  refine Nat.le_trans (join_le (m := m) fun z hz => (h.ok z hz).2.1) ?_
  refine Nat.le_trans (Nat.mul_le_mul (Nat.le_trans h.len hn) (Nat.succ_le_succ hm)) (by decide)
theorem Ln.fits {ps : List Str} {m n : Nat} (h : Ln ps m n) (hm : m ≤ 100) (hn : n ≤ 60) : (ps.map (·.length)).sum + ps.length * 1 ≤ 16777216 := by
  refine Nat.le_trans (join_len (m := m) fun z hz => (h.ok z hz).2.1) ?_
  refine Nat.le_trans (Nat.mul_le_mul (Nat.le_trans h.len hn) (Nat.succ_le_succ hm)) (by decide)
section
variable {P : Program} {w : World} {K : PySem.W.Frag} {mg : Str → Option Value} {base : Heap}
theorem ItmAt.sv {CL CS CI q : Addr} {H H' : Hp} {ws : List Str} {it : Itn} (h : ItmAt K CL CS CI H q ws it) (s : Sv H H') : ItmAt K CL CS CI H' q ws it := by
  cases it with
  | sen k x v =>
    obtain ⟨dx, m, t, h1, h2⟩ := h
    exact ⟨dx, m, t, s.ins h1, mde_sv s h2⟩
  | lim k lt ks =>
    obtain ⟨dx, m, t, t2, h1, h2, h3⟩ := h
    exact ⟨dx, m, t, t2, s.ins h1, mde_sv s h2, s.tup h3⟩
/-- two items compared -/
def rNeIt (K : PySem.W.Frag) (CL CS CI : Addr) : R2 := fun x y H Q => (∃ (a b dx dy : Addr) (fs gs : List (Str × V)), x = .ref a ∧ y = .ref b ∧ H a = some (.ins CS dx fs) ∧ H b = some (.ins CS dy gs) ∧ spSEq K CL CS [.ref a, .ref b] H (fun v H' => ∃ c : Bool, v = .bl c ∧ Q (.bl (!c)) H') E0) ∨
  ∃ (a b dx dy : Addr) (fs gs : List (Str × V)), x = .ref a ∧ y = .ref b ∧ H a = some (.ins CI dx fs) ∧ H b = some (.ins CI dy gs) ∧ spLEq K CL CI [.ref a, .ref b] H (fun v H' => ∃ c : Bool, v = .bl c ∧ Q (.bl (!c)) H') E0
theorem items_ne {CL CS CI q1 q2 : Addr} {H : Hp} {Q : VK} {ws : List Str} {it : Itn} (lts : Lts ws) (ok : ItmOk ws it) (h1 : ItmAt K CL CS CI H q1 ws it) (h2 : ItmAt K CL CS CI H q2 ws it) (k_ : Q (.bl false) H) : rNeIt K CL CS CI (.ref q1) (.ref q2) H Q := by
  cases ok with
  | @sen k x s hk hx hs na nf =>
    obtain ⟨d1, m1, t1, a1, b1⟩ := id h1
    obtain ⟨d2, m2, t2, a2, b2⟩ := id h2
    refine .inl ⟨q1, q2, d1, d2, _, _, rfl, rfl, a1, a2, q1, .ref q2, ws, k, x, s, rfl, h1, hs, lts.fit, .inl ⟨q2, ws, k, x, s, rfl, h2, hs, lts.fit, true, ?_, k_⟩⟩
    rw [decide_eq_true ⟨rfl, rfl, rfl, rfl⟩]
  | @lim k lt ks hk due ne ok le so =>
    obtain ⟨d1, m1, t1, u1, a1, b1, c1⟩ := id h1
    obtain ⟨d2, m2, t2, u2, a2, b2, c2⟩ := id h2
    refine .inr ⟨q1, q2, d1, d2, _, _, rfl, rfl, a1, a2, q1, q2, ws, ws, ks, ks, k, k, lt, lt, rfl, h1, h2, lts.fit, lts.fit, ans_fits ok, ans_fits ok, (due_non due).1, (due_non due).1, true, ?_, k_⟩
    rw [decide_eq_true ⟨rfl, rfl, rfl, rfl⟩]
/-- str of an item -/
def rStrIt (K : PySem.W.Frag) (CL CS CI : Addr) : List V → Hp → VK → Prop := fun xs H Q => (∃ (a dx : Addr) (fs : List (Str × V)), xs = [.ref a] ∧ H a = some (.ins CS dx fs) ∧ spStr CS [.ref a] H (fun v H' => ∃ z : Str, v = .str z ∧ Q (.str z) H') E0) ∨
  ∃ (a dx : Addr) (fs : List (Str × V)), xs = [.ref a] ∧ H a = some (.ins CI dx fs) ∧ spLStr K CL CI [.ref a] H (fun v H' => ∃ z : Str, v = .str z ∧ Q (.str z) H') E0
theorem items_str {CL CS CI q : Addr} {H : Hp} {Q : VK} {ws : List Str} {it : Itn} (lts : Lts ws) (ok : ItmOk ws it) (h : ItmAt K CL CS CI H q ws it) (k_ : ∀ H', Same H H' → Q (.str (Txt.join " " (wordsI it))) H') : rStrIt K CL CS CI [.ref q] H Q := by
  have ln := words_ln lts ok
  cases ok with
  | @sen k x s hk hx hs na nf =>
    obtain ⟨d1, m1, t1, a1, b1⟩ := id h
    exact .inl ⟨q, d1, _, rfl, a1, q, d1, _, k, x, s, rfl, a1, rfl, rfl, rfl, ItmOk.second (x := x) hs, fun z hz => Nat.le_trans (ln.ok z hz).2.1 (by decide), fun H' s1 => ⟨_, rfl, k_ H' s1⟩⟩
  | @lim k lt ks hk due ne ok le so =>
    obtain ⟨d1, m1, t1, u1, a1, b1, c1⟩ := id h
    exact .inr ⟨q, d1, _, rfl, a1, q, ws, ks, k, lt, rfl, h, (due_non due).1, by omega, ln.fits (by decide) (by decide), fun H' s1 => ⟨_, rfl, k_ H' s1⟩⟩
end
end Ask

set_option maxHeartbeats 8000000
namespace Ask
open PySem L2 LamX NdefX
def forB : Stmt → List Stmt
  | .For _ _ b _ _ => b
  | _ => []
def ifT : Stmt → Expr
  | .If t _ _ _ => t
  | _ => .Constant .none 0 ⟨0, 0, 0, 0⟩
def cmpL : Expr → Expr
  | .Compare a _ _ _ => a
  | e => e
theorem tabs_kp {T : List NTab} {H H' : Hp} {p : Addr} {kvs : List (Key × V)} (hT : TabsN T H) (k : Kp p H H') (hp : H p = some (.dK kvs)) : TabsN T H' := by
  rintro pq hpq
  obtain ⟨us, u1, u2, u3⟩ := hT pq hpq
  have off : ∀ b o, H b = some o → (∀ kvs, o ≠ .dK kvs) → H' b = some o := fun b o e n => k b o (fun z => by subst z; rw [hp] at e; exact n _ (Option.some.inj e).symm) e
  exact ⟨us, off _ _ u1 (fun _ z => nomatch z), u2, fun pos cv hc => let ⟨c0, e1, e2⟩ := u3 pos cv hc; ⟨c0, e1, off _ _ e2 (fun _ z => by unfold CodeO at z; cases z)⟩⟩
theorem tabs_go {T : List NTab} {H H' : Hp} {p c : Addr} {ns : List Int} {B : Nat} (hT : TabsN T H) (g : Go p c ns H H' B) : TabsN T H' := by
  obtain ⟨A, b, l, h, _⟩ := g.base
  exact tabs_kp hT g.kp h
theorem Pen.ext {c p : Addr} {ns : List Int} {H H' : Hp} {B : Nat} (h : Pen c ns H p B) (x : ExtN H H') : Pen c ns H' p B := by
  obtain ⟨b, l, h1, h2, h3, h4, h5⟩ := h
  exact ⟨b, l, x _ _ h1 (fun _ z => nomatch z), x _ _ h2 (fun _ z => nomatch z), h3, h4, h5⟩
/-- what stands through a turn -/
structure Lw (T : List NTab) (CL p c x t wl pl kl : Addr) (ns : List Int) (zs ps : List Str) (H : Hp) (B : Nat) : Prop where
  pen : Pen c ns H p B
  tb : TabsN T H
  mde : Mde CL H x t zs
  wl : H wl = some (.lst (zs.map V.str))
  pl : H pl = some (.lst (ps.map V.str))
  kl : H kl = some (.lst ((KL ++ LM).map V.str))
section
variable {T : List NTab} {CL p c x t wl pl kl : Addr} {ns : List Int} {zs ps : List Str} {H H' : Hp} {B B' : Nat}
theorem Lw.same (h : Lw T CL p c x t wl pl kl ns zs ps H B) (s : Same H H') : Lw T CL p c x t wl pl kl ns zs ps H' B := ⟨((Go.refl h.pen).same s).pen, h.tb.ext s, h.mde.same s, s _ _ h.wl, s _ _ h.pl, s _ _ h.kl⟩
theorem Lw.go (h : Lw T CL p c x t wl pl kl ns zs ps H B) (g : Go p c ns H H' B') : Lw T CL p c x t wl pl kl ns zs ps H' B' := ⟨g.pen, tabs_go h.tb g, h.mde.go g, g.lst h.wl, g.lst h.pl, g.lst h.kl⟩
theorem Lw.ext (h : Lw T CL p c x t wl pl kl ns zs ps H B) (e : ExtN H H') (hT : TabsN T H') : Lw T CL p c x t wl pl kl ns zs ps H' B := ⟨h.pen.ext e, hT, mde_sv (Sv.ext e) h.mde, e _ _ h.wl (fun _ z => nomatch z), e _ _ h.pl (fun _ z => nomatch z), e _ _ h.kl (fun _ z => nomatch z)⟩
theorem Lw.mono (h : Lw T CL p c x t wl pl kl ns zs ps H B) (l : B ≤ B') : Lw T CL p c x t wl pl kl ns zs ps H B' := ⟨h.pen.mono l, h.tb, h.mde, h.wl, h.pl, h.kl⟩
end
theorem seqT_mid {t u : TS} {D : Ends} {σ : L2.St} {H : Hp} (R : L2.St → Hp → Prop) (h : ∀ K' : L2.St → Hp → Prop, (∀ σ' H', R σ' H' → K' σ' H') → t { D with nx := K' } σ H) (k : ∀ σ' H', R σ' H' → u D σ' H') : tSeq t u D σ H := h _ k
theorem nm_seq {i : Nat} {v : V} {t u : TS} {D : Ends} {σ : L2.St} {H : Hp} (h : tSeq t u D (σ.set i (some v)) H) : gName i v σ H (tSeq t u D) := h
theorem nm_seq1 {i : Nat} {v : V} {c : TT} {t u : TS} {D : Ends} {σ : L2.St} {H : Hp} (h : tIfS c t u D (σ.set i (some v)) H) : gName i v σ H (tIfS c t u D) := h
def isSen : Itn → Bool
  | .sen _ _ _ => true
  | .lim _ _ _ => false
section
variable {P : Program} {w : World} {K : PySem.W.Frag} {mg : Str → Option Value} {base : Heap}
theorem itm_ty {CL CS CI q : Addr} {H : Hp} {ws : List Str} {it : Itn} (hS : SnC K CS) (hI : LiC K CI) (YS : XkC K CS) (YI : XkC K CI) (n1 : PySem.W.kitOne K (.ref CI) (.ref CS) = some false) (n2 : PySem.W.kitOne K (.ref CS) (.ref CI) = some false) (h : ItmAt K CL CS CI H q ws it) :
    ∃ ty, TyX K H (.ref q) ty ∧ PySem.W.kitOne K ty (.ref CS) = some (isSen it) ∧ PySem.W.kitOne K ty (.ref CI) = some (!isSen it) := by
  have kk : ∀ C, PySem.W.kitOne K (.ref C) (.ref C) = some true := fun C => by
    unfold PySem.W.kitOne
    rw [if_pos (by simp)]
  cases it with
  | sen k x s =>
    obtain ⟨d1, m1, t1, a1, b1⟩ := id h
    exact ⟨_, .base (.ins a1 hS.c YS.ha YS.hn YS.ht YS.hm), kk CS, n2⟩
  | lim k lt ks =>
    obtain ⟨d1, m1, t1, u1, a1, b1, c1⟩ := id h
    exact ⟨_, .base (.ins a1 hI.c YI.ha YI.hn YI.ht YI.hm), n1, kk CI⟩
theorem itm_kind {CL CS CI q : Addr} {H : Hp} {ws : List Str} {it : Itn} (hS : SnC K CS) (hI : LiC K CI) (h : ItmAt K CL CS CI H q ws it) : ∃ C dx fs, H q = some (.ins C dx fs) ∧ Cls K C ∧ NoAttr K C "kind" ∧ fs.lookup ("kind" : Str) = some (.str (kindI it)) := by
  cases it with
  | sen k x s =>
    obtain ⟨d1, m1, t1, a1, b1⟩ := id h
    exact ⟨CS, d1, _, a1, hS.c, hS.a2, rfl⟩
  | lim k lt ks =>
    obtain ⟨d1, m1, t1, u1, a1, b1, c1⟩ := id h
    exact ⟨CI, d1, _, a1, hI.c, hI.a2, rfl⟩
def spLaw (T : List NTab) (K : PySem.W.Frag) : Sp := fun vs H Q _ => ∃ (a : Addr) (ns : List Int), vs = [.ref a] ∧ TabsN T H ∧ SqL K H a (ns.map V.int) ∧ ns.length ≤ 63 ∧ ∀ H', Q (.bl true) H'

abbrev s_law : Stmt := top 83
theorem sc_law : FnScope ["_law_script", "_law_pen_here", "_law_words_here", "_law_letters", "_law_pool", "_law_kinds", "_law_turn", "_law_item_here", "_law_rest", "_law_line", "_law_head", "_law_mixed", "_law_step", "_law_parts", "_law_wrong", "_law_part"] ["_law_script"] (defScope s_law) := ⟨rfl, rfl, rfl, by decide +kernel, rfl, by decide +kernel, by decide +kernel⟩
abbrev lamL : Expr := argN 0 (cmpL (ifT ((forB ((defBody s_law).getD 4 (.Pass ⟨0, 0, 0, 0⟩))).getD 8 (.Pass ⟨0, 0, 0, 0⟩))))
abbrev LF_l (q : Str) (cl : List (Str × Addr)) (c : Addr) : LF := ⟨q, lamP lamL, lamB lamL, lamS (defScope s_law) lamL, cl, none, c⟩
theorem ns_l (q : Str) (cl : List (Str × Addr)) (c : Addr) : NScope ["_law_letters", "_law_line"] [] ["_law_letters", "_law_line"] (LF_l q cl c).scope := nscope_by (by show nscB _ _ _ (lamS (defScope s_law) lamL) = true; decide +kernel)
theorem nb_l : ndefB (defScope s_law) (lamS (defScope s_law) lamL) ["_law_letters", "_law_line"] = true := by decide +kernel
def spLamL (T : List NTab) (K : PySem.W.Frag) (CL CS CI CT : Addr) : List (Option V) → Sp := fun cs vs H Q E => ∃ (m : Addr) (z : Str), cs = [some (.ref m), some (.str z)] ∧ vs = [] ∧ spRead T K CL CS CI CT [.ref m, .str z] H Q E
theorem lok_l {T : List NTab} {f c : Addr} {q : Str} {cl : List (Str × Addr)} {fR CL CS CI CT : Addr} {fdR : FuncData}
    (GR : FnOk P w K mg base (L2.CX P w) 10 fR fdR ["letters", "line"] (spRead T K CL CS CI CT)) (AR : At K mg "read_item" fR fdR ["letters", "line"]) :
    LOk P w K mg base (L2.CX P w) 11 f (LF_l q cl c) ["_law_letters", "_law_line"] (spLamL T K CL CS CI CT) := by
  refine lok_of (ns_l q cl c) (LBinds.plain rfl fun doc pm ctv us hl => match us, hl with | [], _ => rfl) (ds := []) (.inl ⟨rfl, rfl⟩) rfl (fun ws vs H Q E h => ?_) (fun A outer s H vs ws Q E hr hf hw h => ?_)
  · obtain ⟨m, z, _, rfl, _⟩ := h
    rfl
  · obtain ⟨m, z, rfl, rfl, h⟩ := h
    refine ⟨_, pe_call (E := E) GR hr (by rfl) AR.m AR.k AR.b .nil (passes_call (takes_of rfl rfl rfl rfl) (fun _ _ _ _ h => h)) (pa_cons (pv 0) (pa_cons (pv 1) pa_nil)), ?_⟩
    exact ⟨_, rfl, _, rfl, h⟩
theorem ok_law {TT : List NTab} {nm : Nat → Nat → Str} {f f0 f1 f2 f3 f4 f5 f6 f7 f8 f9 fR ff fL fE1 fE2 fS1 fS2 co PT CL CS CI CT CB CE : Addr} {fd fd0 fd1 fd2 fd3 fd4 fd5 fd6 fd7 fd8 fd9 fdR fdf fdL fdE1 fdE2 fdS1 fdS2 : FuncData}
    (F : Fun K "law" "law" s_law f fd) (T : Blt mg) (hL0 : Cls K CL) (nW : NoAttr K CL "words") (hSn : SnC K CS) (hLi : LiC K CI) (YS : XkC K CS) (YI : XkC K CI) (n1 : PySem.W.kitOne K (.ref CI) (.ref CS) = some false) (n2 : PySem.W.kitOne K (.ref CS) (.ref CI) = some false)
    (mS : mg "Sentence" = some (.ref CS)) (mI : mg "Limit" = some (.ref CI))
    (TB : TabB base mg co PT) (hcode : fd.code = .ref co) (hmT : (PT, nm) ∈ TT) (hn : ∀ i j, nm i j = "law.<locals>.<lambda>") (hu : ∀ p ∈ TT, p.1 = PT → p.2 = nm)
    (G__law_pen : FnOk P w K mg base CX0 1 f0 fd0 ["_law_script"] (spPen K)) (A__law_pen : At K mg "_law_pen" f0 fd0 ["_law_script"])
    (G__law_draw : FnOk P w K mg base CX0 1 f1 fd1 ["_law_pen_here", "_law_many"] spDraw) (A__law_draw : At K mg "_law_draw" f1 fd1 ["_law_pen_here", "_law_many"])
    (G__law_words : FnOk P w K mg base CX0 3 f2 fd2 ["_law_pen_here", "_law_many"] spWords) (A__law_words : At K mg "_law_words" f2 fd2 ["_law_pen_here", "_law_many"])
    (G__law_marked : FnOk P w K mg base CX0 2 f3 fd3 ["_law_pen_here", "_law_words_here"] (spMarked K)) (A__law_marked : At K mg "_law_marked" f3 fd3 ["_law_pen_here", "_law_words_here"])
    (G__law_item : FnOk P w K mg base CX0 10 f4 fd4 ["_law_pen_here", "_law_letters", "_law_pool"] (spItem K CL CS CI)) (A__law_item : At K mg "_law_item" f4 fd4 ["_law_pen_here", "_law_letters", "_law_pool"])
    (G__law_shuffled : FnOk P w K mg base CX0 2 f5 fd5 ["_law_pen_here", "_law_items"] (spShuf K)) (A__law_shuffled : At K mg "_law_shuffled" f5 fd5 ["_law_pen_here", "_law_items"])
    (GPT : FnOk P w K mg base CX0 2 f6 fd6 ["_law_pen_here", "_law_items"] (spPickT K)) (A__law_pick : At K mg "_law_pick" f6 fd6 ["_law_pen_here", "_law_items"])
    (G__law_pieces : FnOk P w K mg base CX0 3 f7 fd7 ["_law_pen_here", "_law_line", "_law_more"] (spPieces K)) (A__law_pieces : At K mg "_law_pieces" f7 fd7 ["_law_pen_here", "_law_line", "_law_more"])
    (G__law_item_wrong : FnOk P w K mg base CX0 3 f8 fd8 ["_law_letters", "_law_words_here", "_law_at"] (spWrong K)) (A__law_item_wrong : At K mg "_law_item_wrong" f8 fd8 ["_law_letters", "_law_words_here", "_law_at"])
    (G__law_item_of : FnOk P w K mg base CX0 9 f9 fd9 ["_law_letters", "_law_words_here", "_law_at"] (spOf K CL CS CI)) (A__law_item_of : At K mg "_law_item_of" f9 fd9 ["_law_letters", "_law_words_here", "_law_at"])
    (G_read_item : FnOk P w K mg base (L2.CX P w) 10 fR fdR ["letters", "line"] (spRead TT K CL CS CI CT)) (A_read_item : At K mg "read_item" fR fdR ["letters", "line"])
    (G_tf : FnOkH P w K mg base (L2.CX P w) CX0 11 12 ff fdf ["_law_deed"] (spTF TT CT)) (A_tf : At K mg "_law_text_fault" ff fdf ["_law_deed"])
    (ML : Mk K CL fL) (mL : mg "Letters" = some (.ref CL)) (bL : Binds K fdL ["self", "words"] []) (GL : FnOk P w K mg base (L2.CX P w) 4 fL fdL ["self", "words"] (spLet K CL CB CE))
    (GE1 : FnOk P w K mg base CX0 2 fE1 fdE1 ["self", "other"] (spSEq K CL CS)) (bE1 : Binds K fdE1 ["self", "other"] []) (nE1 : OwnNe K CS fE1)
    (GE2 : FnOk P w K mg base CX0 2 fE2 fdE2 ["self", "other"] (spLEq K CL CI)) (bE2 : Binds K fdE2 ["self", "other"] []) (nE2 : OwnNe K CI fE2)
    (GS1 : FnOk P w K mg base CX0 1 fS1 fdS1 ["self"] (spStr CS)) (bS1 : Binds K fdS1 ["self"] []) (hS1 : PySem.W.findIn K (.ref CS) "__str__" = some (some (.ref fS1))) (iS1 : PySem.W.isFn K (.ref fS1) = true)
    (GS2 : FnOk P w K mg base CX0 1 fS2 fdS2 ["self"] (spLStr K CL CI)) (bS2 : Binds K fdS2 ["self"] []) (hS2 : PySem.W.findIn K (.ref CI) "__str__" = some (some (.ref fS2))) (iS2 : PySem.W.isFn K (.ref fS2) = true) :
    FnOk P w K mg base CX0 13 f fd ["_law_script"] (spLaw TT K) := by
  refine fun_okC F sc_law (fun vs H Q E h => ?_) (fun A outer s H vs Q E hr h => ?_)
  · obtain ⟨a, ns, rfl, _⟩ := h
    rfl
  · obtain ⟨a, ns, rfl, hT, hS, hl, kq⟩ := h
    have h__law_pen := hr.mono (j := 1) (by decide)
    have h__law_draw := hr.mono (j := 1) (by decide)
    have h__law_words := hr.mono (j := 3) (by decide)
    have h__law_marked := hr.mono (j := 2) (by decide)
    have h__law_item := hr.mono (j := 10) (by decide)
    have h__law_shuffled := hr.mono (j := 2) (by decide)
    have h__law_pick := hr.mono (j := 2) (by decide)
    have h__law_pieces := hr.mono (j := 3) (by decide)
    have h__law_item_wrong := hr.mono (j := 3) (by decide)
    have h__law_item_of := hr.mono (j := 9) (by decide)
    have h_read_item := hr.mono (j := 10) (by decide)
    have h_tf := hr.mono (j := 12) (by decide)
    have h3 := hr.mono (j := 3) (by decide)
    have h5 := hr.mono (j := 5) (by decide)
    have z1 : (100000 : Nat) ≤ sizeLine := by decide
    have cNe : OpR (cxOf CX0 P w K mg base ["_law_script", "_law_pen_here", "_law_words_here", "_law_letters", "_law_pool", "_law_kinds", "_law_turn", "_law_item_here", "_law_rest", "_law_line", "_law_head", "_law_mixed", "_law_step", "_law_parts", "_law_wrong", "_law_part"] "law" (defScope s_law) f fd.code A outer s H E).nox (compareOp .NotEq) (rNeIt K CL CS CI) := op_or (op_neI (C := CS) (E := E0) GE1 h3 bE1 pass0 nE1) (op_neI (C := CI) (E := E0) GE2 h3 bE2 pass0 nE2)
    have cStr : CallR (cxOf CX0 P w K mg base ["_law_script", "_law_pen_here", "_law_words_here", "_law_letters", "_law_pool", "_law_kinds", "_law_turn", "_law_item_here", "_law_rest", "_law_line", "_law_head", "_law_mixed", "_law_step", "_law_parts", "_law_wrong", "_law_part"] "law" (defScope s_law) f fd.code A outer s H E).nox (.type "str") (rStrIt K CL CS CI) := call_or (call_strI (C := CS) (E := E0) GS1 h3 bS1 pass0 hS1 iS1) (call_strI (C := CI) (E := E0) GS2 h3 bS2 pass0 hS2 iS2)
    refine ⟨_, PSs.nox (pss_cons (ps_set (i := 1) sc_law.nd rfl (Or.inl rfl) (pe_call G__law_pen (by exact h__law_pen) (by rfl) A__law_pen.m A__law_pen.k A__law_pen.b .nil pass0 (pa_cons (pv 0) pa_nil)))
      (pss_cons (ps_set (i := 2) sc_law.nd rfl (Or.inl rfl) (pe_call G__law_marked (by exact h__law_marked) (by rfl) A__law_marked.m A__law_marked.k A__law_marked.b .nil pass0 (pa_cons (pv 1) (pa_cons (pe_call G__law_words (by exact h__law_words) (by rfl) A__law_words.m A__law_words.k A__law_words.b .nil pass0 (pa_cons (pv 1) (pa_cons (pe_op op_add pe_int (pe_call G__law_draw (by exact h__law_draw) (by rfl) A__law_draw.m A__law_draw.k A__law_draw.b .nil pass0 (pa_cons (pv 1) (pa_cons pe_int pa_nil)))) pa_nil))) pa_nil))))
      (pss_cons (ps_asg (pe_tup (pa_cons (pe_make ML GL h5 (by rfl) mL bL .nil passE (pa_cons (pv 2) pa_nil)) (pa_cons (pe_call G__law_words (by exact h__law_words) (by rfl) A__law_words.m A__law_words.k A__law_words.b .nil pass0 (pa_cons (pv 1) (pa_cons pe_int pa_nil))) pa_nil))) (pg_tup rfl (pgs_cons (pg_name (i := 3) sc_law.nd rfl (Or.inr rfl)) (pgs_cons (pg_name (i := 4) sc_law.nd rfl (Or.inl rfl)) pgs_nil))))
      (pss_cons (ps_set (i := 5) sc_law.nd rfl (Or.inl rfl) (pe_lst (pa_cons pe_str (pa_cons pe_str (pa_cons pe_str (pa_cons pe_str (pa_cons pe_str (pa_cons pe_str (pa_cons pe_str (pa_cons pe_str (pa_cons pe_str pa_nil)))))))))))
      (pss_cons (ps_for PassesOwn.never rfl (pi_range1 rfl T.n_range (pa_cons pe_int pa_nil)) (pg_name (i := 6) sc_law.nd rfl (Or.inl rfl)) (pss_cons (ps_set (i := 7) sc_law.nd rfl (Or.inl rfl) (pe_call G__law_item (by exact h__law_item) (by rfl) A__law_item.m A__law_item.k A__law_item.b .nil pass0 (pa_cons (pv 1) (pa_cons (pv 3) (pa_cons (pv 4) pa_nil)))))
      (pss_cons (ps_set (i := 8) sc_law.nd rfl (Or.inl rfl) (pe_ifExp (pt_val (pe_callB call_isi (by rfl) T.n_isinstance (by decide +kernel) (pa_cons (pv 7) (pa_cons (pe_gv (v := .ref CS) rfl ⟨_, mS, rfl⟩) pa_nil)))) (pe_lst (pa_cons (pe_fld (pv 7) rfl) (pa_cons (pe_fld (pv 7) rfl) pa_nil))) (pe_op op_cat (pe_lst (pa_cons (pe_fld (pv 7) rfl) pa_nil)) (pe_callTy call_list_of (by rfl) T.n_list (by decide +kernel) (pa_cons (pe_fld (pv 7) rfl) pa_nil)))))
      (pss_cons (ps_set (i := 9) sc_law.nd rfl (Or.inr rfl) (pe_join pe_str (pe_op op_cat (pe_lst (pa_cons (pe_fld (pv 7) rfl) pa_nil)) (pe_lc (own := [("_law_part", 15)]) rfl sc_law.nd (pi_list (pv 8)) (blkOk_by (N := ["_law_script", "_law_pen_here", "_law_words_here", "_law_letters", "_law_pool", "_law_kinds", "_law_turn", "_law_item_here", "_law_rest", "_law_line", "_law_head", "_law_mixed", "_law_step", "_law_parts", "_law_wrong", "_law_part"]) (sc := defScope s_law) (by decide +kernel)) (fun _ _ _ _ _ => (pg_name (i := 15) sc_law.nd rfl (Or.inl rfl))) (fun _ _ _ _ _ => pts_one (pt_cmpR op_notN (pv 15) pe_non (nomark _))) (fun _ _ _ _ _ => (pv 15))))))
      (pss_cons (ps_if (PW.pt (pw_or (pt_cmpR op_ne (pe_callTy cStr (by rfl) T.n_str (by decide +kernel) (pa_cons (pv 7) pa_nil)) (pv 9) (nomark _)) (pw_or1 (pt_cmpR cNe (pe_call G_read_item (by exact h_read_item) (by rfl) A_read_item.m A_read_item.k A_read_item.b .nil passE (pa_cons (pv 3) (pa_cons (pv 9) pa_nil))) (pv 7) (nomark _))))) (pss_one (ps_ret pe_bl)) pss_nil)
      (pss_cons (ps_if (pt_val (pe_callB call_isi (by rfl) T.n_isinstance (by decide +kernel) (pa_cons (pv 7) (pa_cons (pe_gv (v := .ref CI) rfl ⟨_, mI, rfl⟩) pa_nil)))) (pss_cons (ps_set (i := 10) sc_law.nd rfl (Or.inl rfl) (pe_op op_cat (pe_lst (pa_cons (pe_fld (pv 7) rfl) pa_nil)) (pe_lc (own := [("_law_part", 15)]) rfl sc_law.nd (pi_list (pe_lst (pa_cons (pe_fld (pv 7) rfl) pa_nil))) (blkOk_by (N := ["_law_script", "_law_pen_here", "_law_words_here", "_law_letters", "_law_pool", "_law_kinds", "_law_turn", "_law_item_here", "_law_rest", "_law_line", "_law_head", "_law_mixed", "_law_step", "_law_parts", "_law_wrong", "_law_part"]) (sc := defScope s_law) (by decide +kernel)) (fun _ _ _ _ _ => (pg_name (i := 15) sc_law.nd rfl (Or.inl rfl))) (fun _ _ _ _ _ => pts_one (pt_cmpR op_notN (pv 15) pe_non (nomark _))) (fun _ _ _ _ _ => (pv 15)))))
      (pss_cons (ps_set (i := 11) sc_law.nd rfl (Or.inl rfl) (pe_call G__law_shuffled (by exact h__law_shuffled) (by rfl) A__law_shuffled.m A__law_shuffled.k A__law_shuffled.b .nil pass0 (pa_cons (pv 1) (pa_cons (pe_op op_cat (pe_callTy call_list_of (by rfl) T.n_list (by decide +kernel) (pa_cons (pe_fld (pv 7) rfl) pa_nil)) (pe_lst (pa_cons (pe_call GPT (by exact h__law_pick) (by rfl) A__law_pick.m A__law_pick.k A__law_pick.b .nil pass0 (pa_cons (pv 1) (pa_cons (pe_fld (pv 7) rfl) pa_nil))) pa_nil))) pa_nil))))
      (pss_one (ps_if (pt_cmpR cNe (pe_call G_read_item (by exact h_read_item) (by rfl) A_read_item.m A_read_item.k A_read_item.b .nil passE (pa_cons (pv 3) (pa_cons (pe_join pe_str (pe_op op_cat (pv 10) (pv 11))) pa_nil))) (pv 7) (nomark _)) (pss_one (ps_ret pe_bl)) pss_nil)))) pss_nil)
      (pss_cons (ps_for PassesOwn.never rfl (pi_range1 rfl T.n_range (pa_cons (pe_op op_add pe_int (pe_call G__law_draw (by exact h__law_draw) (by rfl) A__law_draw.m A__law_draw.k A__law_draw.b .nil pass0 (pa_cons (pv 1) (pa_cons pe_int pa_nil)))) pa_nil)) (pg_name (i := 12) sc_law.nd rfl (Or.inl rfl)) (pss_one (ps_set (i := 9) sc_law.nd rfl (Or.inr rfl) (pe_call G__law_pieces (by exact h__law_pieces) (by rfl) A__law_pieces.m A__law_pieces.k A__law_pieces.b .nil pass0 (pa_cons (pv 1) (pa_cons (pv 9) (pa_cons (pe_op op_cat (pe_op op_cat (pv 5) (pv 2)) (pv 4)) pa_nil)))))))
      (pss_cons (ps_set (i := 13) sc_law.nd rfl (Or.inl rfl) (pe_split (pv 9) pe_str))
      (pss_cons (ps_set (i := 14) sc_law.nd rfl (Or.inl rfl) (pe_call G__law_item_wrong (by exact h__law_item_wrong) (by rfl) A__law_item_wrong.m A__law_item_wrong.k A__law_item_wrong.b .nil pass0 (pa_cons (pv 2) (pa_cons (pv 13) (pa_cons pe_int pa_nil)))))
      (pss_cons (ps_if (pt_cmpR (op_neD hr.units) (pe_callH (E := E0) (L := fun σ f F sp => ∃ c', F = LF_l ((PyProof.Rows.envOfC "law" (defScope s_law) s.heap.objs.size f fd.code).qual ++ "<lambda>") (cloFrom (PyProof.Rows.envOfC "law" (defScope s_law) s.heap.objs.size f fd.code).cells (lamS (defScope s_law) lamL).names []) c' ∧ sp = spLamL TT K CL CS CI CT ([3, 9].map (slotAt σ))) G_tf tf_mono ?_ (by exact h_tf) (by rfl) A_tf.m A_tf.k A_tf.b pass0 (pa_cons (pe_lamN (T := TT) (nm := nm) TB hcode hmT ?_ hu ?_ rfl) pa_nil)) (pe_ifExp (pt_cmpR op_isN (pv 14) pe_non (nomark _)) pe_non (pe_tup (pa_cons pe_int (pa_cons (pe_op op_add (pv 14) pe_int) pa_nil)))) (nomark _)) (pss_one (ps_ret pe_bl)) pss_nil)
      (pss_one (ps_if (PW.pt (pw_and (pt_cmpR op_isN (pv 14) pe_non (nomark _)) (pw_and1 (pt_cmpR cNe (pe_call G_read_item (by exact h_read_item) (by rfl) A_read_item.m A_read_item.k A_read_item.b .nil passE (pa_cons (pv 3) (pa_cons (pv 9) pa_nil))) (pe_call G__law_item_of (by exact h__law_item_of) (by rfl) A__law_item_of.m A__law_item_of.k A__law_item_of.b .nil pass0 (pa_cons (pv 3) (pa_cons (pv 13) (pa_cons pe_int pa_nil)))) (nomark _))))) (pss_one (ps_ret pe_bl)) pss_nil))))))))))))
      (pss_one (ps_ret pe_bl))))))), ?_⟩
    · rintro pins σ H s I f F sp ⟨c', rfl, rfl⟩
      exact lamAt_of (lok_l G_read_item A_read_item) (Caps.made I.ok (ndef_free nb_l) (ndef_fr nb_l) rfl) I
    · exact (hn _ _).trans (by rfl)
    · exact ndef_free nb_l
    refine ⟨_, rfl, a, ns, rfl, hS, hl, fun H0 p cc s0 hp0 hpen => ?_⟩
    have T0 := hT.ext s0
    refine ⟨_, rfl, _, rfl, _, rfl, p, cc, ns, 4, _, rfl, hpen, by omega, by decide, by decide, fun H1 r g1 r0 r1 => ?_⟩
    refine ⟨_, _, rfl, rfl, p, cc, ns, _, _, rfl, g1.pen, by omega, by omega, by omega, fun H2 q ys g2 hq eq len nd good => ?_⟩
    have g12 := g1.step g2
    refine ⟨p, cc, q, ns, _, ys, rfl, g12.pen, by omega, SqL.of eq, by omega, by omega, nd, good, fun H3 wl zs g3 hwl ewl lts zl => ?_⟩
    have g13 := g12.step g3
    try dsimp only
    refine ⟨_, rfl, fun x dx hx hdx hne => let_made lts (.inl (SqL.of ewl)) hx hdx hne fun H4 t s4 hM => ⟨rfl, ?_⟩⟩
    have g14 := g13.same s4
    refine ⟨_, rfl, p, cc, ns, 7, _, rfl, g14.pen, by omega, by decide, by decide, fun H5 pl ps g5 hpl epl plen pnd pgood => ?_⟩
    have g15 := g14.step g5
    refine ⟨by show 2 ≤ sizeLine; omega, fun tt htt => ?_⟩
    have s6 := Ask.Same.made1 (o := .tup [.ref x, .ref pl]) (Same.refl H5) htt
    have e6 : upd H5 tt (.tup [.ref x, .ref pl]) tt = some (.tup [.ref x, .ref pl]) := upd_same
    generalize upd H5 tt (.tup [.ref x, .ref pl]) = H6 at s6 e6 ⊢
    refine ⟨tt, _, rfl, SqT.of e6, rfl, _, _, rfl, _, _, rfl, rfl, ?_⟩
    have g16 := g15.same s6
    try dsimp only
    refine ⟨by show 9 ≤ sizeLine; omega, fun kl hkl => ?_⟩
    have s7 := Ask.Same.made1 (o := .lst ((KL ++ LM).map V.str)) (Same.refl H6) hkl
    have e7 : upd H6 kl (.lst ((KL ++ LM).map V.str)) kl = some (.lst ((KL ++ LM).map V.str)) := upd_same
    change gName 5 _ _ (upd H6 kl (.lst ((KL ++ LM).map V.str))) _
    generalize upd H6 kl (.lst ((KL ++ LM).map V.str)) = H7 at s7 e7 ⊢
    have po : PoolOk ps := ⟨by omega, by omega, fun y hy => good_short (pgood y hy)⟩
    have lw : Lw TT CL p cc x t wl pl kl ns zs ps H7 10000 := by
      have g17 := g16.same s7
      exact ⟨g17.pen.mono (by omega), tabs_go T0 g17, ((hM.go g5).same s6).same s7, s7 _ _ (s6 _ _ (g5.lst (s4 _ _ ewl))), s7 _ _ (s6 _ _ epl), e7⟩
    clear s7 e7 g16 e6 s6 g15 g14 hM s4 g13 g12 g1 g2 g3 g5 T0 hkl htt hpl hwl ewl epl eq
    try dsimp only
    refine ⟨16, rfl, by decide, by decide, for_range (lo := 0) (n := 16) (fun i σ' H' => ∃ o6 o7 o8 o9 o10 o11 o12 o13 o14 o15 : Option V, σ' = [some (.ref a), some (.ref p), some (.ref wl), some (.ref x), some (.ref pl), some (.ref kl), o6, o7, o8, o9, o10, o11, o12, o13, o14, o15] ∧ Lw TT CL p cc x t wl pl kl ns zs ps H' (10000 * (i + 1)))
      ⟨none, none, none, none, none, none, none, none, none, none, rfl, lw⟩ ?_ ?_⟩
    · rintro i σ' H1 hi ⟨o6, o7, o8, o9, o10, o11, o12, o13, o14, o15, rfl, lw⟩
      try dsimp only
      refine ⟨_, rfl, _, rfl, _, rfl, p, cc, x, t, pl, ns, _, zs, ps, rfl, lw.pen, by omega, lw.mde, lts, SqL.of lw.pl, po, fun H2 q it g2 ok hit => ?_⟩
      replace lw := lw.go g2
      clear g2
      try dsimp only
      refine nm_seq ?_
      refine seqT_mid (fun σ' H' => ∃ rl : Addr, σ' = [some (.ref a), some (.ref p), some (.ref wl), some (.ref x), some (.ref pl), some (.ref kl), some (.int (0 + (i : Int))), some (.ref q), some (.ref rl), o9, o10, o11, o12, o13, o14, o15] ∧ Same H2 H' ∧ H' rl = some (.lst (restV it))) (fun K' hK => ?_) ?_
      · obtain ⟨ty, hty, k1, k2⟩ := itm_ty hSn hLi YS YI n1 n2 hit
        refine ⟨_, rfl, _, _, _, _, isSen it, rfl, .own CS, hty, k1, _, rfl, ?_⟩
        clear hty k1 k2
        cases it with
        | sen k y s =>
          obtain ⟨d1, m1, t1, a1, b1⟩ := id hit
          refine iteT ⟨_, rfl, q, CS, d1, _, _, rfl, a1, hSn.c, hSn.a3, rfl, _, rfl, q, CS, d1, _, _, rfl, a1, hSn.c, hSn.a4, rfl, by show 2 ≤ sizeLine; omega, fun l hl => ?_⟩
          exact hK _ _ ⟨l, rfl, Ask.Same.made1 (Same.refl H2) hl, upd_same⟩
        | lim k lt ks =>
          obtain ⟨d1, m1, t1, u1, a1, b1, c1⟩ := id hit
          refine iteF ⟨_, rfl, q, CI, d1, _, _, rfl, a1, hLi.c, hLi.a4, rfl, by show 1 ≤ sizeLine; omega, fun l hl => ?_⟩
          have s3 := Ask.Same.made1 (o := .lst [lt]) (Same.refl H2) hl
          have e3 : upd H2 l (.lst [lt]) l = some (.lst [lt]) := upd_same
          generalize upd H2 l (.lst [lt]) = H3 at s3 e3 ⊢
          refine ⟨_, rfl, q, CI, d1, _, _, rfl, s3 _ _ a1, hLi.c, hLi.a3, rfl, u1, _, rfl, .inr (SqT.of (s3 _ _ c1)), fun l2 hl2 => ?_⟩
          have s4 := Ask.Same.made1 (o := .lst (ks.map V.str)) (Same.refl H3) hl2
          have e4 : upd H3 l2 (.lst (ks.map V.str)) l2 = some (.lst (ks.map V.str)) := upd_same
          generalize upd H3 l2 (.lst (ks.map V.str)) = H4 at s4 e4 ⊢
          have kl6 : ks.length ≤ 6 := by cases ok; assumption
          refine ⟨_, _, _, _, rfl, rfl, s4 _ _ e3, e4, by rw [List.length_map]; show 1 + _ ≤ _; omega, fun l3 hl3 => ?_⟩
          exact hK _ _ ⟨l3, rfl, (s3.trans s4).trans (Ask.Same.made1 (Same.refl H4) hl3), upd_same⟩
      rintro σ' H3 ⟨rl, rfl, s3, erl⟩
      replace lw := lw.same s3
      replace hit := hit.sv (Sv.of s3)
      clear s3
      have hnoN := rest_noN ok
      have hln := words_ln lts ok
      try dsimp only
      obtain ⟨C1, dx1, fs1, q1, q2, q3, q4⟩ := itm_kind hSn hLi hit
      have rlen : (restV it).length ≤ 10 := by
        cases ok with
        | sen _ _ _ _ _ => show 2 ≤ 10; decide
        | lim _ _ _ _ le _ => show (_ :: _).length ≤ 10; rw [List.length_cons, List.length_map]; omega
      refine seqT_mid (fun σ' H' => σ' = [some (.ref a), some (.ref p), some (.ref wl), some (.ref x), some (.ref pl), some (.ref kl), some (.int (0 + (i : Int))), some (.ref q), some (.ref rl), some (.str (Txt.join " " (wordsI it))), o10, o11, o12, o13, o14, o15] ∧ Same H3 H') (fun K' hK => ?_) ?_
      · refine ⟨⟨_, rfl⟩, _, rfl, q, C1, dx1, _, _, rfl, q1, q2, q3, q4, by show 1 ≤ sizeLine; omega, fun l hl => ?_⟩
        have s4 := Ask.Same.made1 (o := .lst [.str (kindI it)]) (Same.refl H3) hl
        have e4 : upd H3 l (.lst [.str (kindI it)]) l = some (.lst [.str (kindI it)]) := upd_same
        generalize upd H3 l (.lst [.str (kindI it)]) = H4 at s4 e4 ⊢
        have r4 := s4 _ _ erl
        refine ⟨_, rfl, rl, rfl, ⟨_, SqL.of r4⟩, fun L hL => ?_⟩
        refine lc_it (walk_list (xs := restV it)) (fun i H' => Same H4 H' ∧ H' L = some (.lst (noN ((restV it).take i)))) ⟨Ask.Same.upd_new (Same.refl _) hL, upd_same⟩ (fun i H' _ hh => SqL.of (hh.1 _ _ r4)) ?_ ?_
        · rintro i v H5 H6 hi ⟨s5, hL5⟩ ⟨rfl, hv⟩
          have e := noN_more hv
          have n := noN_len (restV it) i
          refine ⟨rfl, _, rfl, rfl, _, rfl, ite2 (fun q => ?_) (fun q => ?_)⟩
          · rw [if_pos q] at e
            exact ⟨_, rfl, _, hL5, by omega, Ask.Same.upd_new s5 hL, by rw [upd_same, e]⟩
          · rw [if_neg q, List.append_nil] at e
            exact ⟨s5, by rw [e]; exact hL5⟩
        · rintro H5 ⟨s5, hL5⟩
          rw [List.take_length, hnoN] at hL5
          have tl : (tailW it).length ≤ 8 := by
            have := hln.len
            rw [wordsI_eq, List.length_cons] at this
            omega
          refine ⟨_, _, _, _, rfl, rfl, s5 _ _ e4, hL5, by rw [List.length_map]; show 1 + _ ≤ _; omega, fun u hu => ?_⟩
          have s6 := Ask.Same.made1 (o := .lst ([.str (kindI it)] ++ (tailW it).map V.str)) (Same.refl H5) hu
          have e6 : upd H5 u (.lst ([.str (kindI it)] ++ (tailW it).map V.str)) u = some (.lst ((wordsI it).map V.str)) := by rw [upd_same, wordsI_eq]; rfl
          generalize upd H5 u (.lst ([.str (kindI it)] ++ (tailW it).map V.str)) = H6 at s6 e6 ⊢
          exact ⟨" ", u, wordsI it, rfl, rfl, .inl (SqL.of e6), hln.fits (by decide) (by decide), hK _ _ ⟨rfl, (s4.trans s5).trans s6⟩⟩
      rintro σ' H4 ⟨rfl, s4⟩
      replace lw := lw.same s4
      replace hit := hit.sv (Sv.of s4)
      clear s4 erl q1
      try dsimp only
      obtain ⟨iW, iO⟩ := item_line ok
      refine seqIf_mid (fun σ' H' => σ' = [some (.ref a), some (.ref p), some (.ref wl), some (.ref x), some (.ref pl), some (.ref kl), some (.int (0 + (i : Int))), some (.ref q), some (.ref rl), some (.str (Txt.join " " (wordsI it))), o10, o11, o12, o13, o14, o15] ∧ ExtN H4 H' ∧ TabsN TT H') (fun K' hK => ?_) ?_
      · refine ⟨_, rfl, ?_⟩
        delta tNil
        dsimp only
        show rStrIt K CL CS CI [.ref q] H4 _
        refine items_str lts ok hit fun H5 s5 => ⟨_, rfl, rfl, _, rfl, ?_⟩
        rw [decide_eq_true rfl]
        have lw5 := lw.same s5
        refine iteF ⟨_, rfl, _, rfl, x, t, _, wordsI it, zs, rfl, lw5.tb, lw5.mde, lts.nd, hln.size (by decide) (by decide), hln.split, hln.fit (by decide) (by decide), (fun i hi => by rw [iW] at hi; cases hi), fun _ H6 q2 it2 x6 T6 ho hok hi2 => ?_⟩
        obtain rfl := itmOf_one ho iO
        refine ⟨_, rfl, items_ne lts ok hi2 ((hit.sv (Sv.of s5)).sv (Sv.ext x6)) ⟨_, rfl, ?_⟩⟩
        exact iteF (hK _ _ ⟨rfl, (ExtN.of s5).trans x6, T6⟩)
      rintro σ' H5 ⟨rfl, x5, T5⟩
      replace lw := lw.ext x5 T5
      replace hit := hit.sv (Sv.ext x5)
      clear x5 T5
      try dsimp only
      refine seqIf_mid (fun σ' H' => ∃ o10' o11' : Option V, σ' = [some (.ref a), some (.ref p), some (.ref wl), some (.ref x), some (.ref pl), some (.ref kl), some (.int (0 + (i : Int))), some (.ref q), some (.ref rl), some (.str (Txt.join " " (wordsI it))), o10', o11', o12, o13, o14, o15] ∧ Lw TT CL p cc x t wl pl kl ns zs ps H' (10000 * (i + 1) + 800) ∧ ItmAt K CL CS CI H' q zs it) (fun K' hK => ?_) ?_
      · obtain ⟨ty, hty, k1, k2⟩ := itm_ty hSn hLi YS YI n1 n2 hit
        refine ⟨_, rfl, _, _, _, _, !isSen it, rfl, .own CI, hty, k2, _, rfl, ?_⟩
        clear hty k1 k2
        cases it with
        | sen k y s => exact iteF (hK _ _ ⟨o10, o11, rfl, lw.mono (by omega), hit⟩)
        | lim k lt ks =>
          refine iteT ?_
          cases ok with
          | lim hk due ne okk le so =>
          obtain ⟨d1, m1, t1, u1, a1, b1, c1⟩ := id hit
          refine ⟨_, rfl, q, CI, d1, _, _, rfl, a1, hLi.c, hLi.a2, rfl, by show 1 ≤ sizeLine; omega, fun l hl => ?_⟩
          have s6 := Ask.Same.made1 (o := .lst [.str k]) (Same.refl H5) hl
          have e6 : upd H5 l (.lst [.str k]) l = some (.lst [.str k]) := upd_same
          generalize upd H5 l (.lst [.str k]) = H6 at s6 e6 ⊢
          refine ⟨_, rfl, q, CI, d1, _, _, rfl, s6 _ _ a1, hLi.c, hLi.a4, rfl, by show 1 ≤ sizeLine; omega, fun l2 hl2 => ?_⟩
          have s7 := Ask.Same.made1 (o := .lst [lt]) (Same.refl H6) hl2
          have e7 : upd H6 l2 (.lst [lt]) l2 = some (.lst [lt]) := upd_same
          generalize upd H6 l2 (.lst [lt]) = H7 at s7 e7 ⊢
          refine ⟨l2, rfl, ⟨_, SqL.of e7⟩, fun L hL => ?_⟩
          refine lc_it (walk_list (xs := [lt])) (fun i H' => Same H7 H' ∧ H' L = some (.lst (noN (([lt] : List V).take i)))) ⟨Ask.Same.upd_new (Same.refl _) hL, upd_same⟩ (fun i H' _ hh => SqL.of (hh.1 _ _ e7)) ?_ ?_
          · rintro i v H8 H9 hi ⟨s8, hL8⟩ ⟨rfl, hv⟩
            have e := noN_more hv
            have n := noN_len [lt] i
            have n1 : ([lt] : List V).length = 1 := rfl
            refine ⟨rfl, _, rfl, rfl, _, rfl, ite2 (fun q => ?_) (fun q => ?_)⟩
            · rw [if_pos q] at e
              exact ⟨_, rfl, _, hL8, by omega, Ask.Same.upd_new s8 hL, by rw [upd_same, e]⟩
            · rw [if_neg q, List.append_nil] at e
              exact ⟨s8, by rw [e]; exact hL8⟩
          rintro H8 ⟨s8, hL8⟩
          obtain ⟨hs, ehs, hw, hs2⟩ : ∃ hs : List Str, [V.str k] ++ noN [lt] = hs.map V.str ∧ (∀ js, wordsL k lt js = hs ++ js) ∧ hs.length ≤ 2 := by
            rcases (due_non due).1 with rfl | ⟨y, rfl⟩
            · exact ⟨[k], by rw [noN_cons_non]; rfl, fun js => rfl, by show 1 ≤ 2; decide⟩
            · exact ⟨[k, y], by rw [noN_cons_str]; rfl, fun js => rfl, by show 2 ≤ 2; decide⟩
          rw [show (([lt] : List V).take ([lt] : List V).length) = [lt] from rfl] at hL8
          refine ⟨_, _, _, _, rfl, rfl, s8 _ _ (s7 _ _ e6), hL8, by have := noN_len [lt] 1; rw [show ([lt] : List V).take 1 = [lt] from rfl] at this; show 1 + _ ≤ _; have z : ([lt] : List V).length = 1 := rfl; omega, fun hd hhd => ?_⟩
          rw [ehs]
          have s9 := Ask.Same.made1 (o := .lst (hs.map V.str)) (Same.refl H8) hhd
          have e9 : upd H8 hd (.lst (hs.map V.str)) hd = some (.lst (hs.map V.str)) := upd_same
          generalize upd H8 hd (.lst (hs.map V.str)) = H9 at s9 e9 ⊢
          have s59 := ((s6.trans s7).trans s8).trans s9
          replace lw := lw.same s59
          replace hit := hit.sv (Sv.of s59)
          have a9 := s59 _ _ a1
          have c9 := s59 _ _ c1
          clear s6 s7 s8 s9 s59 e6 e7 hL8 a1 c1 b1
          refine nm_seq ?_
          refine ⟨_, rfl, _, rfl, q, CI, d1, _, _, rfl, a9, hLi.c, hLi.a3, rfl, u1, _, rfl, .inr (SqT.of c9), fun l3 hl3 => ?_⟩
          have s10 := Ask.Same.made1 (o := .lst (ks.map V.str)) (Same.refl H9) hl3
          have e10 : upd H9 l3 (.lst (ks.map V.str)) l3 = some (.lst (ks.map V.str)) := upd_same
          generalize upd H9 l3 (.lst (ks.map V.str)) = H10 at s10 e10 ⊢
          have kpos : 0 < ks.length := by cases ks with | nil => exact absurd rfl ne | cons _ _ => simp
          have lw10 := lw.same s10
          refine ⟨_, rfl, _, rfl, q, CI, d1, _, _, rfl, s10 _ _ a9, hLi.c, hLi.a3, rfl, p, cc, u1, ns, _, _, rfl, lw10.pen, by omega, SqT.of (s10 _ _ c9), by rw [List.length_map]; exact kpos, by rw [List.length_map]; omega, fun H11 v g11 hv => ?_⟩
          obtain ⟨y, rfl, hy⟩ := map_mem hv
          have lw11 := lw10.go g11
          refine ⟨by show 1 ≤ sizeLine; omega, fun l4 hl4 => ?_⟩
          have s12 := Ask.Same.made1 (o := .lst [.str y]) (Same.refl H11) hl4
          have e12 : upd H11 l4 (.lst [.str y]) l4 = some (.lst [.str y]) := upd_same
          generalize upd H11 l4 (.lst [.str y]) = H12 at s12 e12 ⊢
          refine ⟨_, _, _, _, rfl, rfl, s12 _ _ (g11.lst e10), e12, by rw [List.length_map]; show _ + 1 ≤ _; omega, fun l5 hl5 => ?_⟩
          have s13 := Ask.Same.made1 (o := .lst (ks.map V.str ++ [.str y])) (Same.refl H12) hl5
          have e13 : upd H12 l5 (.lst (ks.map V.str ++ [.str y])) l5 = some (.lst ((ks ++ [y]).map V.str)) := by rw [upd_same, List.map_append]; rfl
          generalize upd H12 l5 (.lst (ks.map V.str ++ [.str y])) = H13 at s13 e13 ⊢
          have lw13 := lw11.same (s12.trans s13)
          have okz : ∀ z ∈ ks ++ [y], ansS z = true := fun z hz => (List.mem_append.mp hz).elim (okk z) fun e => by rw [List.mem_singleton.mp e]; exact okk y hy
          refine ⟨p, cc, l5, ns, _, ks ++ [y], rfl, lw13.pen, by omega, SqL.of e13, by rw [List.length_append]; show _ + 1 ≤ _; omega, ans_fits okz, fun H14 l6 js g14 nl6 e14 pm => ?_⟩
          have lw14 := lw13.go g14
          have v914 : Sv H9 H14 := (((Sv.of s10).trans (Sv.go g11)).trans (Sv.of (s12.trans s13))).trans (Sv.go g14)
          have hd14 := v914.lst e9
          have hit14 := hit.sv v914
          have mj : ∀ z, z ∈ js ↔ z ∈ ks := fun z => (pm.mem_iff).trans ⟨fun h => (List.mem_append.mp h).elim id fun e => by rw [List.mem_singleton.mp e]; exact hy, fun h => List.mem_append_left _ h⟩
          have soj : SetOfS js ks := setOf_more so mj
          have nj : js ≠ [] := fun e => by
            have := pm.length_eq
            rw [e, List.length_append] at this
            simp at this
          have lj : js.length ≤ 7 := by
            have := pm.length_eq
            rw [List.length_append] at this
            simp only [List.length_cons, List.length_nil] at this
            omega
          obtain ⟨jW, jO⟩ := lim_line (ws := zs) hk due nj okk le soj
          have jln : Ln (wordsL k lt js) 13 9 := by
            obtain ⟨b1, b2⟩ := words_lim lts hk due (fun z hz => okk z ((mj z).mp hz))
            refine ⟨?_, b1, by omega⟩
            rw [hw js]
            cases js with
            | nil => exact absurd rfl nj
            | cons _ _ => simp
          try dsimp only
          refine ⟨_, rfl, ⟨_, rfl⟩, _, rfl, _, rfl, _, _, _, _, rfl, rfl, hd14, e14, by rw [List.length_map, List.length_map]; omega, fun l7 hl7 => ?_⟩
          have s15 := Ask.Same.made1 (o := .lst (hs.map V.str ++ js.map V.str)) (Same.refl H14) hl7
          have e15 : upd H14 l7 (.lst (hs.map V.str ++ js.map V.str)) l7 = some (.lst ((wordsL k lt js).map V.str)) := by rw [upd_same, hw js, List.map_append]
          generalize upd H14 l7 (.lst (hs.map V.str ++ js.map V.str)) = H15 at s15 e15 ⊢
          have lw15 := lw14.same s15
          refine ⟨" ", l7, wordsL k lt js, rfl, rfl, .inl (SqL.of e15), jln.fits (by decide) (by decide), ?_⟩
          refine ⟨x, t, _, wordsL k lt js, zs, rfl, lw15.tb, lw15.mde, lts.nd, jln.size (by decide) (by decide), jln.split, jln.fit (by decide) (by decide), (fun i hi => by rw [jW] at hi; cases hi), fun _ H16 q2 it2 x16 T16 ho hok hi2 => ?_⟩
          obtain rfl := itmOf_one ho jO
          have hit16 := (hit14.sv (Sv.of s15)).sv (Sv.ext x16)
          refine ⟨_, rfl, items_ne lts hok hi2 hit16 ⟨_, rfl, ?_⟩⟩
          exact iteF (hK _ _ ⟨_, _, rfl, (lw15.ext x16 T16).mono (by omega), hit16⟩)
      rintro σ' H6 ⟨o10', o11', rfl, lw6, hit6⟩
      clear lw hit
      have lw := lw6
      have hit := hit6
      clear lw6 hit6
      try dsimp only
      have msok : ∀ z ∈ KL ++ LM ++ zs ++ ps, WOk z 13 := fun z hz => (List.mem_append.mp hz).elim (fun h => (List.mem_append.mp h).elim (kind_wok z) fun h => ls_wok lts z h) fun h => WOk.mono (ans_wok (po.ok z h)) (by decide)
      have msl : (KL ++ LM ++ zs ++ ps).length ≤ 100 := by
        have := lts.l1
        rw [List.length_append, List.length_append]
        show 9 + _ + _ ≤ 100
        omega
      refine ⟨_, rfl, p, cc, ns, 2, _, rfl, lw.pen, by omega, by decide, by decide, fun H7 r g7 r0 r1 => ?_⟩
      obtain ⟨r, rfl⟩ : ∃ y : Nat, r = (y : Int) := ⟨r.toNat, by omega⟩
      refine ⟨_, _, rfl, rfl, _, rfl, by omega, by omega, ?_⟩
      rw [show (1 + (r : Int)).toNat = 1 + r from by omega]
      refine for_range (lo := 0) (n := 1 + r) (fun j σ' H' => ∃ (o12' : Option V) (qs : List Str), σ' = [some (.ref a), some (.ref p), some (.ref wl), some (.ref x), some (.ref pl), some (.ref kl), some (.int (0 + (i : Int))), some (.ref q), some (.ref rl), some (.str (Txt.join " " qs)), o10', o11', o12', o13, o14, o15] ∧ Lw TT CL p cc x t wl pl kl ns zs ps H' (10000 * (i + 1) + 810 + 10 * j) ∧ Ln qs (13 + j) (8 + j)) ⟨o12, wordsI it, rfl, (lw.go g7).mono (by omega), hln⟩ ?_ ?_
      · rintro j σ' H8 hj ⟨o12', qs, rfl, lw8, lq⟩
        try dsimp only
        refine ⟨_, rfl, _, rfl, _, rfl, _, rfl, _, _, _, _, rfl, rfl, lw8.kl, lw8.wl, ?_, fun l hl => ?_⟩
        · have := lts.l1
          rw [List.length_map, List.length_map]
          show 9 + _ ≤ _
          omega
        have s9 := Ask.Same.made1 (o := .lst ((KL ++ LM).map V.str ++ zs.map V.str)) (Same.refl H8) hl
        have e9 : upd H8 l (.lst ((KL ++ LM).map V.str ++ zs.map V.str)) l = some (.lst ((KL ++ LM ++ zs).map V.str)) := by rw [upd_same, ← List.map_append]
        generalize upd H8 l (.lst ((KL ++ LM).map V.str ++ zs.map V.str)) = H9 at s9 e9 ⊢
        have lw9 := lw8.same s9
        refine ⟨_, rfl, _, _, _, _, rfl, rfl, e9, lw9.pl, ?_, fun l2 hl2 => ?_⟩
        · have := lts.l1
          rw [List.length_map, List.length_map, List.length_append]
          show 9 + _ + _ ≤ _
          omega
        have s10 := Ask.Same.made1 (o := .lst ((KL ++ LM ++ zs).map V.str ++ ps.map V.str)) (Same.refl H9) hl2
        have e10 : upd H9 l2 (.lst ((KL ++ LM ++ zs).map V.str ++ ps.map V.str)) l2 = some (.lst ((KL ++ LM ++ zs ++ ps).map V.str)) := by rw [upd_same, ← List.map_append]
        generalize upd H9 l2 (.lst ((KL ++ LM ++ zs).map V.str ++ ps.map V.str)) = H10 at s10 e10 ⊢
        have lw10 := lw9.same s10
        refine ⟨p, cc, l2, ns, _, 13 + j, 8 + j, qs, KL ++ LM ++ zs ++ ps, rfl, lw10.pen, by omega, lq, by omega, by omega, by omega, e10, msl, msok, fun H11 qs' g11 lq' => ?_⟩
        exact ⟨_, qs', rfl, (lw10.go g11).mono (by omega), lq'⟩
      rintro σ' H8 ⟨o12', qs, rfl, lw8, lq⟩
      try dsimp only
      clear lw g7
      have lq2 : Ln qs 15 10 := ⟨lq.ne, fun z hz => ⟨(lq.ok z hz).1, Nat.le_trans (lq.ok z hz).2.1 (by omega), (lq.ok z hz).2.2⟩, Nat.le_trans lq.len (by omega)⟩
      have lsz := lq2.size (by decide) (by decide)
      have z2 : (200000 : Nat) ≤ sizeLine := by decide
      refine ⟨_, rfl, ⟨_, rfl⟩, _, " ", rfl, rfl, by decide +kernel, by omega, fun pa hpa => ?_⟩
      rw [lq2.split]
      have s9 := Ask.Same.made1 (o := .lst (qs.map V.str)) (Same.refl H8) hpa
      have e9 : upd H8 pa (.lst (qs.map V.str)) pa = some (.lst (qs.map V.str)) := upd_same
      generalize upd H8 pa (.lst (qs.map V.str)) = H9 at s9 e9 ⊢
      replace lw8 := lw8.same s9
      try dsimp only
      have lfit := lq2.fit (by decide) (by decide)
      refine ⟨_, rfl, _, rfl, wl, pa, zs, qs, rfl, SqL.of lw8.wl, SqL.of e9, lfit, fun H10 s10 => ?_⟩
      replace lw8 := lw8.same s10
      replace e9 := s10 _ _ e9
      clear s9 s10
      try dsimp only
      refine seqIf_mid (fun σ' H' => σ' = [some (.ref a), some (.ref p), some (.ref wl), some (.ref x), some (.ref pl), some (.ref kl), some (.int (0 + (i : Int))), some (.ref q), some (.ref rl), some (.str (Txt.join " " qs)), o10', o11', o12', some (.ref pa), some (onV (itemW zs qs)), o15] ∧ ExtN H10 H' ∧ TabsN TT H') (fun K' hK => ?_) ?_
      · refine ⟨lw8.tb, fun g c' H11 ext low T11 g0 lin => ?_⟩
        have lw11 := lw8.ext ext T11
        refine ⟨g, _, _, itemW zs qs, rfl, ⟨c', rfl, rfl⟩, lin, fun Q' E' out => ⟨x, _, rfl, rfl, x, t, _, qs, zs, rfl, T11, lw11.mde, lts.nd, lsz, lq2.split, lfit, fun i hi H' d x' T' e' => out.e i hi H' d x' T' e', fun hN H' q it x' T' _ _ _ => out.g hN _ H' x' T'⟩, fun H12 v x12 T12 told => ?_⟩
        have x10 : ExtN H10 H12 := ext.trans x12
        cases eW : itemW zs qs with
        | none =>
          rw [eW] at told hK
          obtain rfl : v = .non := by
            rcases told with ⟨_, e⟩ | ⟨i, t, e, _⟩
            · exact e
            · cases e
          refine ⟨_, rfl, rfl, _, rfl, iteT ⟨.none, .none, .non, .non, by decide, by decide, _, rfl, iteF ?_⟩⟩
          exact hK _ _ ⟨rfl, x10, T12⟩
        | some k =>
          rw [eW] at told hK
          obtain ⟨u, rfl, eu⟩ : ∃ u, v = .ref u ∧ H12 u = some (.tup [.int 1, .int ((k : Int) + 1)]) := by
            rcases told with ⟨e, _⟩ | ⟨k', u, e, ev, eu⟩
            · cases e
            · cases e; exact ⟨u, ev, eu⟩
          refine ⟨_, rfl, rfl, _, rfl, iteF ⟨_, rfl, _, _, rfl, rfl, by show 2 ≤ sizeLine; omega, fun u2 hu2 => ?_⟩⟩
          have s13 := Ask.Same.made1 (o := .tup [.int 1, .int ((k : Int) + 1)]) (Same.refl H12) hu2
          have e13 : upd H12 u2 (.tup [.int 1, .int ((k : Int) + 1)]) u2 = some (.tup [.int 1, .int ((k : Int) + 1)]) := upd_same
          generalize upd H12 u2 (.tup [.int 1, .int ((k : Int) + 1)]) = H13 at s13 e13 ⊢
          have dp : ∀ w, H13 w = some (.tup [.int 1, .int ((k : Int) + 1)]) → Dp K H13 (.ref w) (.tuple [.int 1, .int ((k : Int) + 1)]) := fun w e => .tup (SqT.of e) (.cons (.int _) (.cons (.int _) .nil))
          have ee : PyData.eqv (.tuple [.int 1, .int ((k : Int) + 1)]) (.tuple [.int 1, .int ((k : Int) + 1)]) = true := by simp [PyData.eqv, PyData.eqvAll]
          have sh : SeqAt.shaped (.tuple [.int 1, .int ((k : Int) + 1)]) = true := by
            simp [SeqAt.shaped]
            exact ⟨rfl, by show (1 : Nat) ≤ 64; decide⟩
          refine ⟨_, _, dp u (s13 _ _ eu), dp u2 e13, sh, sh, _, rfl, ?_⟩
          rw [ee]
          exact iteF (hK _ _ ⟨rfl, x10.trans (ExtN.of s13), T12.ext s13⟩)
      rintro σ' H11 ⟨rfl, x11, T11⟩
      replace lw8 := lw8.ext x11 T11
      replace e9 := x11 _ _ e9 (fun _ z => nomatch z)
      clear x11 T11
      try dsimp only
      cases eW : itemW zs qs with
      | some k =>
        refine ⟨_, rfl, rfl, _, rfl, iteF (iteF ?_)⟩
        exact ⟨_, _, _, _, _, _, _, _, _, _, rfl, lw8.mono (by omega)⟩
      | none =>
        refine ⟨_, rfl, rfl, _, rfl, iteT ?_⟩
        refine ⟨_, rfl, _, rfl, x, t, _, qs, zs, rfl, lw8.tb, lw8.mde, lts.nd, lsz, lq2.split, lfit, (fun i hi => by rw [eW] at hi; cases hi), fun _ H12 q1 it1 x12 T12 ho hok hi1 => ?_⟩
        have lw12 := lw8.ext x12 T12
        have e12 := x12 _ _ e9 (fun _ z => nomatch z)
        refine ⟨_, rfl, _, rfl, x, t, pa, zs, qs, rfl, lw12.mde, lts.nd, SqL.of e12, lfit, eW, fun H13 q2 it2 s13 ho2 hi2 => ?_⟩
        obtain rfl := itmOf_one ho2 ho
        refine items_ne lts hok (hi1.sv (Sv.of s13)) hi2 ⟨_, rfl, iteF ?_⟩
        exact ⟨_, _, _, _, _, _, _, _, _, _, rfl, (lw12.same s13).mono (by omega)⟩
    · rintro σ' H' ⟨o6, o7, o8, o9, o10, o11, o12, o13, o14, o15, rfl, lw⟩
      exact kq H'
end
end Ask

namespace Ask
open PySem L2 PySem.Spec PyProof.Rows
theorem exm_of {K : PySem.W.Frag} {S T : Addr} {b : Bool} (h1 : PySem.W.subIn K (.ref T) (.type "BaseException") = some true) (h2 : PySem.W.isClsIn K T = true) (h3 : PySem.W.typeIn K (.ref T) = some (.type "type")) (h4 : PySem.W.subIn K (.ref S) (.ref T) = some b) :
    PySem.W.exmOne K (.ref S) (.ref T) = some b := by
  have e1 : (PySem.W.subIn K (.ref T) (.type "BaseException") == some true) = true := by rw [h1] <;> rfl
  have e2 : ((PySem.W.clsIn K T).isSome && PySem.W.typeIn K (.ref T) == some (.type "type")) = true := by
    have h2' : (PySem.W.clsIn K T).isSome = true := h2
    rw [h2', h3] <;> rfl
  show (if (PySem.W.subIn K (.ref T) (.type "BaseException") == some true) = true then (if ((PySem.W.clsIn K T).isSome && PySem.W.typeIn K (.ref T) == some (.type "type")) = true then PySem.W.subIn K (.ref S) (.ref T) else none) else none) = some b
  rw [if_pos e1, if_pos e2]
  exact h4
theorem strKeys_of {es : Array DictEntry} (h : (es.toList.all fun e => match e.key with | .str _ _ => true | _ => false) = true) : StrKeys es := fun e he => by
  have q := List.all_eq_true.mp h e (by simpa using he)
  cases k : e.key <;> rw [k] at q <;> first | exact ⟨_, _, rfl⟩ | cases q
theorem sen_binds {K : PySem.W.Frag} {d : V} {f : Addr} {fd : FuncData} (F : FunD K "__init__" "Sentence.__init__" (defArgs s_Sen_init) (defBody s_Sen_init) (defScope s_Sen_init) [d] [] f fd) : (∃ u, RelV d u ∧ Binds K fd ["self", "letters", "kind", "first", "second"] [u]) ∧ Binds K fd ["self", "letters", "kind", "first", "second"] [] := by
  constructor
  · obtain ⟨ds, r, b⟩ := F.binds1 (ps := ["self", "letters", "kind", "first", "second"]) 4 0 (by simp) rfl fun T kV doc pm an cdv ct us its hu hi => match us, hu, its, hi with | [_, _, _, _], _, [_], _ => ⟨_, rfl, rfl⟩
    obtain ⟨u, rfl, ru⟩ := vals1 r
    exact ⟨u, ru, b⟩
  · obtain ⟨ds, r, b⟩ := F.binds1 (ps := ["self", "letters", "kind", "first", "second"]) 5 1 (by simp) rfl fun T kV doc pm an cdv ct us its hu hi => match us, hu, its, hi with | [_, _, _, _, _], _, [_], _ => ⟨_, rfl, rfl⟩
    cases r
    exact b
theorem lim_binds {K : PySem.W.Frag} {d : V} {f : Addr} {fd : FuncData} (F : FunD K "__init__" "Limit.__init__" (defArgs s_Lim_init) (defBody s_Lim_init) (defScope s_Lim_init) [d] [] f fd) : (∃ u, RelV d u ∧ Binds K fd ["self", "letters", "kind", "answers", "letter"] [u]) ∧ Binds K fd ["self", "letters", "kind", "answers", "letter"] [] := by
  constructor
  · obtain ⟨ds, r, b⟩ := F.binds1 (ps := ["self", "letters", "kind", "answers", "letter"]) 4 0 (by simp) rfl fun T kV doc pm an cdv ct us its hu hi => match us, hu, its, hi with | [_, _, _, _], _, [_], _ => ⟨_, rfl, rfl⟩
    obtain ⟨u, rfl, ru⟩ := vals1 r
    exact ⟨u, ru, b⟩
  · obtain ⟨ds, r, b⟩ := F.binds1 (ps := ["self", "letters", "kind", "answers", "letter"]) 5 1 (by simp) rfl fun T kV doc pm an cdv ct us its hu hi => match us, hu, its, hi with | [_, _, _, _, _], _, [_], _ => ⟨_, rfl, rfl⟩
    cases r
    exact b
theorem kit_ref {K : PySem.W.Frag} {D C : Addr} (h1 : PySem.W.isClsIn K C = true) (h2 : PySem.W.typeIn K (.ref C) = some (.type "type")) (h3 : PySem.W.subIn K (.ref D) (.ref C) = some false) (ne : D ≠ C) : PySem.W.kitOne K (.ref D) (.ref C) = some false := by
  unfold PySem.W.kitOne
  rw [if_neg (by simp; exact ne)]
  have e2 : ((PySem.W.clsIn K C).isSome && PySem.W.typeIn K (.ref C) == some (.type "type")) = true := by
    have h2' : (PySem.W.clsIn K C).isSome = true := h1
    rw [h2', h2] <;> rfl
  show (if ((PySem.W.clsIn K C).isSome && PySem.W.typeIn K (.ref C) == some (.type "type")) = true then PySem.W.subIn K (.ref D) (.ref C) else none) = some false
  rw [if_pos e2]
  exact h3
open LamX NdefX in
theorem tab_hu {T : List NTab} {P : Addr} {nm : Nat → Nat → Str} (nd : (T.map (·.1)).Nodup) (h : (P, nm) ∈ T) : ∀ p ∈ T, p.1 = P → p.2 = nm := by
  intro p hp e
  obtain ⟨i, hi⟩ := List.mem_iff_getElem?.mp hp
  obtain ⟨j, hj⟩ := List.mem_iff_getElem?.mp h
  have li := (List.getElem?_eq_some_iff.mp hi).1
  have e1 : (T.map (·.1))[i]? = some P := by rw [List.getElem?_map, hi]; exact congrArg some e
  have e2 : (T.map (·.1))[j]? = some P := by rw [List.getElem?_map, hj]; rfl
  have : i = j := (List.getElem?_inj (by rw [List.length_map]; exact li) nd).mp (e1.trans e2.symm)
  subst this
  rw [hi] at hj
  cases hj
  rfl
theorem look_tabs (ts : List Addr) (F : PySem.W.Frag) (a : Addr) : (ts.map (fun b => (b, PySem.W.tabObj #[])) ++ F).lookup a = if a ∈ ts then some (PySem.W.tabObj #[]) else F.lookup a := by
  induction ts with
  | nil => rfl
  | cons t ts ih =>
    show ((t, PySem.W.tabObj #[]) :: (ts.map (fun b => (b, PySem.W.tabObj #[])) ++ F)).lookup a = _
    rw [List.lookup_cons]
    by_cases h : a = t
    · subst h
      simp
    · rw [show (a == t) = false from beq_eq_false_iff_ne.mpr h, ih]
      simp [h]
/-- the tables of code objects told beside the rest of the heap -/
theorem tabs_splitL (ts : List Addr) {K : Params → PySem.W.Frag} {as : List Addr} {e : ∀ P, as = (ts.map (fun b => (b, PySem.W.tabObj #[])) ++ K P).map (·.1)} {w : World} {h : Heap} (Y : (PySem.W.kHook (fun P => ts.map (fun b => (b, PySem.W.tabObj #[])) ++ K P) as e).says w h)
    (n : ∀ P ∈ ts, (K w.params).lookup P = none) : (K w.params).In h ∧ ∀ P ∈ ts, h.get? P = some (PySem.W.tabObj #[]) := by
  have X : PySem.W.Frag.In (ts.map (fun b => (b, PySem.W.tabObj #[])) ++ K w.params) h := PySem.W.kIn_of Y
  refine ⟨fun a o q => X a o ?_, fun P hP => X P _ ?_⟩
  · rw [look_tabs, if_neg (fun z => by rw [n a z] at q; cases q)]
    exact q
  · rw [look_tabs, if_pos hP]
theorem tabs_split4 {P1 P2 P3 P4 : Addr} {K : Params → PySem.W.Frag} {as : List Addr} {e : ∀ P, as = ((P1, PySem.W.tabObj #[]) :: (P2, PySem.W.tabObj #[]) :: (P3, PySem.W.tabObj #[]) :: (P4, PySem.W.tabObj #[]) :: K P).map (·.1)} {w : World} {h : Heap} (Y : (PySem.W.kHook (fun P => (P1, PySem.W.tabObj #[]) :: (P2, PySem.W.tabObj #[]) :: (P3, PySem.W.tabObj #[]) :: (P4, PySem.W.tabObj #[]) :: K P) as e).says w h)
    (n1 : (K w.params).lookup P1 = none) (n2 : (K w.params).lookup P2 = none) (n3 : (K w.params).lookup P3 = none) (n4 : (K w.params).lookup P4 = none) : (K w.params).In h ∧ ∀ P ∈ [P1, P2, P3, P4], h.get? P = some (PySem.W.tabObj #[]) :=
  tabs_splitL [P1, P2, P3, P4] (K := K) (e := e) Y fun P hP => by
    simp only [List.mem_cons, List.not_mem_nil, or_false] at hP
    rcases hP with rfl | rfl | rfl | rfl
    · exact n1
    · exact n2
    · exact n3
    · exact n4
open LamX NdefX in
theorem all_mk {l : PySem.W.OpenLaw} {w : World} {K : PySem.W.Frag} {h : Heap} {mg : Str → Option Value} {fa qa qb qc qd Ta Tb Tc Td : Addr} (X : K.In h) (G : h.Ns mainGlobals mg) (hfa : mg "law" = some (.ref fa)) (hT : ∀ P ∈ [Ta, Tb, Tc, Td], h.get? P = some (PySem.W.tabObj #[]))
    {f0 : Addr} {od0 an0 : Option Addr} {sl0 : Array (Option Value)} {oc0 kV0 dc0 pm0 cd0 ct0 : Value}
    {f1 : Addr} {od1 an1 : Option Addr} {sl1 : Array (Option Value)} {oc1 kV1 dc1 pm1 cd1 ct1 : Value}
    {f2 : Addr} {od2 an2 : Option Addr} {sl2 : Array (Option Value)} {oc2 kV2 dc2 pm2 cd2 ct2 : Value}
    {f3 : Addr} {od3 an3 : Option Addr} {sl3 : Array (Option Value)} {oc3 kV3 dc3 pm3 cd3 ct3 : Value}
    {f4 : Addr} {od4 an4 : Option Addr} {sl4 : Array (Option Value)} {oc4 kV4 dc4 pm4 cd4 ct4 : Value}
    {f5 : Addr} {od5 an5 : Option Addr} {sl5 : Array (Option Value)} {oc5 kV5 dc5 pm5 cd5 ct5 : Value}
    {f6 : Addr} {od6 an6 : Option Addr} {sl6 : Array (Option Value)} {oc6 kV6 dc6 pm6 cd6 ct6 : Value}
    {f7 : Addr} {od7 an7 : Option Addr} {sl7 : Array (Option Value)} {oc7 kV7 dc7 pm7 cd7 ct7 : Value}
    {f8 : Addr} {od8 an8 : Option Addr} {sl8 : Array (Option Value)} {oc8 kV8 dc8 pm8 cd8 ct8 : Value}
    {fm : Addr} {odm anm : Option Addr} {slm : Array (Option Value)} {ocm kVm dcm pmm cdm ctm : Value}
    {fo : Addr} {odo ano : Option Addr} {slo : Array (Option Value)} {oco kVo dco pmo cdo cto : Value}
    {fas : Addr} {odas anas : Option Addr} {slas : Array (Option Value)} {ocas kVas dcas pmas cdas ctas : Value}
    {fia : Addr} {odia ania : Option Addr} {slia : Array (Option Value)} {ocia kVia dcia pmia cdia ctia : Value}
    {fti : Addr} {odti anti : Option Addr} {slti : Array (Option Value)} {octi kVti dcti pmti cdti ctti : Value}
    {fta : Addr} {odta anta : Option Addr} {slta : Array (Option Value)} {octa kVta dcta pmta cdta ctta : Value}
    {fom : Addr} {odom anom : Option Addr} {slom : Array (Option Value)} {ocom kVom dcom pmom cdom ctom : Value}
    {fri : Addr} {odri anri : Option Addr} {slri : Array (Option Value)} {ocri kVri dcri pmri cdri ctri : Value}
    {fs1 : Addr} {ods1 ans1 : Option Addr} {sls1 : Array (Option Value)} {ocs1 kVs1 dcs1 pms1 cds1 cts1 : Value}
    {fs2 : Addr} {ods2 ans2 : Option Addr} {sls2 : Array (Option Value)} {ocs2 kVs2 dcs2 pms2 cds2 cts2 : Value}
    {fs3 : Addr} {ods3 ans3 : Option Addr} {sls3 : Array (Option Value)} {ocs3 kVs3 dcs3 pms3 cds3 cts3 : Value}
    {fs4 : Addr} {ods4 ans4 : Option Addr} {sls4 : Array (Option Value)} {ocs4 kVs4 dcs4 pms4 cds4 cts4 : Value}
    {fs5 : Addr} {ods5 ans5 : Option Addr} {sls5 : Array (Option Value)} {ocs5 kVs5 dcs5 pms5 cds5 cts5 : Value}
    {fs6 : Addr} {ods6 ans6 : Option Addr} {sls6 : Array (Option Value)} {ocs6 kVs6 dcs6 pms6 cds6 cts6 : Value}
    {fs7 : Addr} {ods7 ans7 : Option Addr} {sls7 : Array (Option Value)} {ocs7 kVs7 dcs7 pms7 cds7 cts7 : Value}
    {fs8 : Addr} {ods8 ans8 : Option Addr} {sls8 : Array (Option Value)} {ocs8 kVs8 dcs8 pms8 cds8 cts8 : Value}
    {fs9 : Addr} {ods9 ans9 : Option Addr} {sls9 : Array (Option Value)} {ocs9 kVs9 dcs9 pms9 cds9 cts9 : Value}
    {ft1 : Addr} {odt1 ant1 : Option Addr} {slt1 : Array (Option Value)} {oct1 kVt1 dct1 pmt1 cdt1 ctt1 : Value}
    {ft2 : Addr} {odt2 ant2 : Option Addr} {slt2 : Array (Option Value)} {oct2 kVt2 dct2 pmt2 cdt2 ctt2 : Value}
    {ft3 : Addr} {odt3 ant3 : Option Addr} {slt3 : Array (Option Value)} {oct3 kVt3 dct3 pmt3 cdt3 ctt3 : Value}
    {f9 : Addr} {od9 an9 : Option Addr} {sl9 : Array (Option Value)} {oc9 kV9 dc9 pm9 cd9 ct9 : Value}
    {CB : Addr}
    {fB : Addr} {odB anB : Option Addr} {slB : Array (Option Value)} {ocB kVB dcB pmB cdB ctB : Value}
    {nmB qB : Str} {NB : Addr} {bsB bmB : List Value} {snB : List Str} {subB : List Value} {abB : Bool} {colB : Option Bool} {ddB : Option Addr} {m0B m1B m2B m3B m5B : Option Value}
    {CM : Addr}
    {fM : Addr} {odM anM : Option Addr} {slM : Array (Option Value)} {ocM kVM dcM pmM cdM ctM : Value}
    {nmM qM : Str} {NM : Addr} {bsM bmM : List Value} {snM : List Str} {subM : List Value} {abM : Bool} {colM : Option Bool} {ddM : Option Addr} {m0M m1M m2M m3M m5M : Option Value}
    {CT : Addr}
    {fT : Addr} {odT anT : Option Addr} {slT : Array (Option Value)} {ocT kVT dcT pmT cdT ctT : Value}
    {nmT qT : Str} {NT : Addr} {bsT bmT : List Value} {snT : List Str} {subT : List Value} {abT : Bool} {colT : Option Bool} {ddT : Option Addr} {m0T m1T m2T m3T m5T : Option Value}
    {CBa : Addr}
    {fBa : Addr} {odBa anBa : Option Addr} {slBa : Array (Option Value)} {ocBa kVBa dcBa pmBa cdBa ctBa : Value}
    {nmBa qBa : Str} {NBa : Addr} {bsBa bmBa : List Value} {snBa : List Str} {subBa : List Value} {abBa : Bool} {colBa : Option Bool} {ddBa : Option Addr} {m0Ba m1Ba m2Ba m3Ba m5Ba : Option Value}
    {CTx : Addr}
    {fTx : Addr} {odTx anTx : Option Addr} {slTx : Array (Option Value)} {ocTx kVTx dcTx pmTx cdTx ctTx : Value}
    {nmTx qTx : Str} {NTx : Addr} {bsTx bmTx : List Value} {snTx : List Str} {subTx : List Value} {abTx : Bool} {colTx : Option Bool} {ddTx : Option Addr} {m0Tx m1Tx m2Tx m3Tx m5Tx : Option Value}
    {CZ : Addr}
    {CN0 : Addr}
    {CL : Addr}
    {fL : Addr} {odL anL : Option Addr} {slL : Array (Option Value)} {ocL kVL dcL pmL cdL ctL : Value}
    {fH : Addr} {odH anH : Option Addr} {slH : Array (Option Value)} {ocH kVH dcH pmH cdH ctH : Value}
    {fR : Addr} {odR anR : Option Addr} {slR : Array (Option Value)} {ocR kVR dcR pmR cdR ctR : Value}
    {fQ : Addr} {odQ anQ : Option Addr} {slQ : Array (Option Value)} {ocQ kVQ dcQ pmQ cdQ ctQ : Value}
    {CS : Addr}
    {fS : Addr} {odS anS : Option Addr} {slS : Array (Option Value)} {ocS kVS dcS pmS cdS ctS : Value}
    {TS : Addr} {oTS : Obj} {nTS : Nat}
    {fA : Addr} {odA anA : Option Addr} {slA : Array (Option Value)} {ocA kVA dcA pmA cdA ctA : Value}
    {fSr : Addr} {odSr anSr : Option Addr} {slSr : Array (Option Value)} {ocSr kVSr dcSr pmSr cdSr ctSr : Value}
    {CI : Addr}
    {fI : Addr} {odI anI : Option Addr} {slI : Array (Option Value)} {ocI kVI dcI pmI cdI ctI : Value}
    {TI : Addr} {oTI : Obj} {nTI : Nat}
    {fLE : Addr} {odLE anLE : Option Addr} {slLE : Array (Option Value)} {ocLE kVLE dcLE pmLE cdLE ctLE : Value}
    {fLS : Addr} {odLS anLS : Option Addr} {slLS : Array (Option Value)} {ocLS kVLS dcLS pmLS cdLS ctLS : Value}
    {CRD : Addr}
    {fD0 : Addr} {odD0 anD0 : Option Addr} {slD0 : Array (Option Value)} {ocD0 kVD0 dcD0 pmD0 cdD0 ctD0 : Value}
    {fD1 : Addr} {odD1 anD1 : Option Addr} {slD1 : Array (Option Value)} {ocD1 kVD1 dcD1 pmD1 cdD1 ctD1 : Value}
    {fD2 : Addr} {odD2 anD2 : Option Addr} {slD2 : Array (Option Value)} {ocD2 kVD2 dcD2 pmD2 cdD2 ctD2 : Value}
    {fD3 : Addr} {odD3 anD3 : Option Addr} {slD3 : Array (Option Value)} {ocD3 kVD3 dcD3 pmD3 cdD3 ctD3 : Value}
    {fD4 : Addr} {odD4 anD4 : Option Addr} {slD4 : Array (Option Value)} {ocD4 kVD4 dcD4 pmD4 cdD4 ctD4 : Value}
    {fD5 : Addr} {odD5 anD5 : Option Addr} {slD5 : Array (Option Value)} {ocD5 kVD5 dcD5 pmD5 cdD5 ctD5 : Value}
    {gS : Tok}
    {gW : Tok}
    {gM : Tok}
    {gL : Tok}
    {T_gB : Addr} {o_gB : Obj} {j_gB : Array Value} {n_gB : Nat}
    {T_gK : Addr} {o_gK : Obj} {j_gK : Array Value} {n_gK : Nat}
    {T_gN : Addr} {o_gN : Obj} {j_gN : Array Value} {n_gN : Nat}
    {T_gJ : Addr} {o_gJ : Obj} {j_gJ : Array Value} {n_gJ : Nat}
    {gA : Tok}
    {nmS qS : Str} {NS : Addr} {bsS bmS : List Value} {hdctS : Bool} {snS : List Str} {subS : List Value} {abS : Bool} {colS : Option Bool} {ddS : Option Addr} {m0S m1S m2S m3S m5S : Option Value} {newS : String} {oNS : Obj} {esNS : Array DictEntry} {epNS : Nat}
    {nmI qI : Str} {NI : Addr} {bsI bmI : List Value} {hdctI : Bool} {snI : List Str} {subI : List Value} {abI : Bool} {colI : Option Bool} {ddI : Option Addr} {m0I m1I m2I m3I m5I : Option Value} {newI : String} {oNI : Obj} {esNI : Array DictEntry} {epNI : Nat}
    (hn : PySem.W.specialIn K (.builtin "object.__class__") "__get__" = some (some (.builtin "getset_descriptor.__get__")))
    (ht : PySem.W.takesIn K (.builtin "object.__class__") = some true)
    (a0 : PySem.W.nsIn K mainGlobals "is_short_word" = some (some (.ref f0)))
    (l0 : K.lookup f0 = some ⟨oc0, od0, .func (PySem.W.fnOf "is_short_word" "is_short_word" (defArgs s_is_short_word) (defBody s_is_short_word) (defScope s_is_short_word) .none kV0 dc0 pm0 an0 cd0 ct0), sl0⟩)
    (c0 : PySem.W.codeIn K cd0 "is_short_word" = true)
    (k0 : PySem.W.keepIn K (.ref f0) = true)
    (a1 : PySem.W.nsIn K mainGlobals "copied" = some (some (.ref f1)))
    (l1 : K.lookup f1 = some ⟨oc1, od1, .func (PySem.W.fnOf "copied" "copied" (defArgs s_copied) (defBody s_copied) (defScope s_copied) .none kV1 dc1 pm1 an1 cd1 ct1), sl1⟩)
    (c1 : PySem.W.codeIn K cd1 "copied" = true)
    (k1 : PySem.W.keepIn K (.ref f1) = true)
    (a2 : PySem.W.nsIn K mainGlobals "is_letter" = some (some (.ref f2)))
    (l2 : K.lookup f2 = some ⟨oc2, od2, .func (PySem.W.fnOf "is_letter" "is_letter" (defArgs s_is_letter) (defBody s_is_letter) (defScope s_is_letter) .none kV2 dc2 pm2 an2 cd2 ct2), sl2⟩)
    (c2 : PySem.W.codeIn K cd2 "is_letter" = true)
    (k2 : PySem.W.keepIn K (.ref f2) = true)
    (a3 : PySem.W.nsIn K mainGlobals "_law_pen" = some (some (.ref f3)))
    (l3 : K.lookup f3 = some ⟨oc3, od3, .func (PySem.W.fnOf "_law_pen" "_law_pen" (defArgs s__law_pen) (defBody s__law_pen) (defScope s__law_pen) .none kV3 dc3 pm3 an3 cd3 ct3), sl3⟩)
    (c3 : PySem.W.codeIn K cd3 "_law_pen" = true)
    (k3 : PySem.W.keepIn K (.ref f3) = true)
    (a4 : PySem.W.nsIn K mainGlobals "_law_draw" = some (some (.ref f4)))
    (l4 : K.lookup f4 = some ⟨oc4, od4, .func (PySem.W.fnOf "_law_draw" "_law_draw" (defArgs s__law_draw) (defBody s__law_draw) (defScope s__law_draw) .none kV4 dc4 pm4 an4 cd4 ct4), sl4⟩)
    (c4 : PySem.W.codeIn K cd4 "_law_draw" = true)
    (k4 : PySem.W.keepIn K (.ref f4) = true)
    (a5 : PySem.W.nsIn K mainGlobals "_law_pick" = some (some (.ref f5)))
    (l5 : K.lookup f5 = some ⟨oc5, od5, .func (PySem.W.fnOf "_law_pick" "_law_pick" (defArgs s__law_pick) (defBody s__law_pick) (defScope s__law_pick) .none kV5 dc5 pm5 an5 cd5 ct5), sl5⟩)
    (c5 : PySem.W.codeIn K cd5 "_law_pick" = true)
    (k5 : PySem.W.keepIn K (.ref f5) = true)
    (a6 : PySem.W.nsIn K mainGlobals "_law_shuffled" = some (some (.ref f6)))
    (l6 : K.lookup f6 = some ⟨oc6, od6, .func (PySem.W.fnOf "_law_shuffled" "_law_shuffled" (defArgs s__law_shuffled) (defBody s__law_shuffled) (defScope s__law_shuffled) .none kV6 dc6 pm6 an6 cd6 ct6), sl6⟩)
    (c6 : PySem.W.codeIn K cd6 "_law_shuffled" = true)
    (k6 : PySem.W.keepIn K (.ref f6) = true)
    (a7 : PySem.W.nsIn K mainGlobals "_law_words" = some (some (.ref f7)))
    (l7 : K.lookup f7 = some ⟨oc7, od7, .func (PySem.W.fnOf "_law_words" "_law_words" (defArgs s__law_words) (defBody s__law_words) (defScope s__law_words) .none kV7 dc7 pm7 an7 cd7 ct7), sl7⟩)
    (c7 : PySem.W.codeIn K cd7 "_law_words" = true)
    (k7 : PySem.W.keepIn K (.ref f7) = true)
    (a8 : PySem.W.nsIn K mainGlobals "_law_marked" = some (some (.ref f8)))
    (l8 : K.lookup f8 = some ⟨oc8, od8, .func (PySem.W.fnOf "_law_marked" "_law_marked" (defArgs s__law_marked) (defBody s__law_marked) (defScope s__law_marked) .none kV8 dc8 pm8 an8 cd8 ct8), sl8⟩)
    (c8 : PySem.W.codeIn K cd8 "_law_marked" = true)
    (k8 : PySem.W.keepIn K (.ref f8) = true)
    (am : PySem.W.nsIn K mainGlobals "is_due" = some (some (.ref fm)))
    (lm : K.lookup fm = some ⟨ocm, odm, .func (PySem.W.fnOf "is_due" "is_due" (defArgs s_is_due) (defBody s_is_due) (defScope s_is_due) .none kVm dcm pmm anm cdm ctm), slm⟩)
    (cm : PySem.W.codeIn K cdm "is_due" = true)
    (km : PySem.W.keepIn K (.ref fm) = true)
    (ao : PySem.W.nsIn K mainGlobals "one_form" = some (some (.ref fo)))
    (lo : K.lookup fo = some ⟨oco, odo, .func (PySem.W.fnOf "one_form" "one_form" (defArgs s_one_form) (defBody s_one_form) (defScope s_one_form) .none kVo dco pmo ano cdo cto), slo⟩)
    (co : PySem.W.codeIn K cdo "one_form" = true)
    (ko : PySem.W.keepIn K (.ref fo) = true)
    (aas : PySem.W.nsIn K mainGlobals "answer_set" = some (some (.ref fas)))
    (las : K.lookup fas = some ⟨ocas, odas, .func (PySem.W.fnOf "answer_set" "answer_set" (defArgs s_answer_set) (defBody s_answer_set) (defScope s_answer_set) .none kVas dcas pmas anas cdas ctas), slas⟩)
    (cas : PySem.W.codeIn K cdas "answer_set" = true)
    (kas : PySem.W.keepIn K (.ref fas) = true)
    (aia : PySem.W.nsIn K mainGlobals "is_answer" = some (some (.ref fia)))
    (lia : K.lookup fia = some ⟨ocia, odia, .func (PySem.W.fnOf "is_answer" "is_answer" (defArgs s_is_answer) (defBody s_is_answer) (defScope s_is_answer) .none kVia dcia pmia ania cdia ctia), slia⟩)
    (cia : PySem.W.codeIn K cdia "is_answer" = true)
    (kia : PySem.W.keepIn K (.ref fia) = true)
    (ati : PySem.W.nsIn K mainGlobals "take_item" = some (some (.ref fti)))
    (lti : K.lookup fti = some ⟨octi, odti, .func (PySem.W.fnOf "take_item" "take_item" (defArgs s_take_item) (defBody s_take_item) (defScope s_take_item) .none kVti dcti pmti anti cdti ctti), slti⟩)
    (cti : PySem.W.codeIn K cdti "take_item" = true)
    (kti : PySem.W.keepIn K (.ref fti) = true)
    (ata : PySem.W.nsIn K mainGlobals "take_answers" = some (some (.ref fta)))
    (lta : K.lookup fta = some ⟨octa, odta, .func (PySem.W.fnOf "take_answers" "take_answers" (defArgs s_take_answers) (defBody s_take_answers) (defScope s_take_answers) .none kVta dcta pmta anta cdta ctta), slta⟩)
    (cta : PySem.W.codeIn K cdta "take_answers" = true)
    (kta : PySem.W.keepIn K (.ref fta) = true)
    (aom : PySem.W.nsIn K mainGlobals "is_one_more" = some (some (.ref fom)))
    (lom : K.lookup fom = some ⟨ocom, odom, .func (PySem.W.fnOf "is_one_more" "is_one_more" (defArgs s_is_one_more) (defBody s_is_one_more) (defScope s_is_one_more) .none kVom dcom pmom anom cdom ctom), slom⟩)
    (com : PySem.W.codeIn K cdom "is_one_more" = true)
    (kom : PySem.W.keepIn K (.ref fom) = true)
    (ari : PySem.W.nsIn K mainGlobals "read_item" = some (some (.ref fri)))
    (lri : K.lookup fri = some ⟨ocri, odri, .func (PySem.W.fnOf "read_item" "read_item" (defArgs s_read_item) (defBody s_read_item) (defScope s_read_item) .none kVri dcri pmri anri cdri ctri), slri⟩)
    (cri : PySem.W.codeIn K cdri "read_item" = true)
    (kri : PySem.W.keepIn K (.ref fri) = true)
    (as1 : PySem.W.nsIn K mainGlobals "_law_some" = some (some (.ref fs1)))
    (ls1 : K.lookup fs1 = some ⟨ocs1, ods1, .func (PySem.W.fnOf "_law_some" "_law_some" (defArgs s__law_some) (defBody s__law_some) (defScope s__law_some) .none kVs1 dcs1 pms1 ans1 cds1 cts1), sls1⟩)
    (cs1 : PySem.W.codeIn K cds1 "_law_some" = true)
    (ks1 : PySem.W.keepIn K (.ref fs1) = true)
    (as2 : PySem.W.nsIn K mainGlobals "_law_said" = some (some (.ref fs2)))
    (ls2 : K.lookup fs2 = some ⟨ocs2, ods2, .func (PySem.W.fnOf "_law_said" "_law_said" (defArgs s__law_said) (defBody s__law_said) (defScope s__law_said) .none kVs2 dcs2 pms2 ans2 cds2 cts2), sls2⟩)
    (cs2 : PySem.W.codeIn K cds2 "_law_said" = true)
    (ks2 : PySem.W.keepIn K (.ref fs2) = true)
    (as3 : PySem.W.nsIn K mainGlobals "_law_sentence" = some (some (.ref fs3)))
    (ls3 : K.lookup fs3 = some ⟨ocs3, ods3, .func (PySem.W.fnOf "_law_sentence" "_law_sentence" (defArgs s__law_sentence) (defBody s__law_sentence) (defScope s__law_sentence) .none kVs3 dcs3 pms3 ans3 cds3 cts3), sls3⟩)
    (cs3 : PySem.W.codeIn K cds3 "_law_sentence" = true)
    (ks3 : PySem.W.keepIn K (.ref fs3) = true)
    (as4 : PySem.W.nsIn K mainGlobals "_law_answers" = some (some (.ref fs4)))
    (ls4 : K.lookup fs4 = some ⟨ocs4, ods4, .func (PySem.W.fnOf "_law_answers" "_law_answers" (defArgs s__law_answers) (defBody s__law_answers) (defScope s__law_answers) .none kVs4 dcs4 pms4 ans4 cds4 cts4), sls4⟩)
    (cs4 : PySem.W.codeIn K cds4 "_law_answers" = true)
    (ks4 : PySem.W.keepIn K (.ref fs4) = true)
    (as5 : PySem.W.nsIn K mainGlobals "_law_limit" = some (some (.ref fs5)))
    (ls5 : K.lookup fs5 = some ⟨ocs5, ods5, .func (PySem.W.fnOf "_law_limit" "_law_limit" (defArgs s__law_limit) (defBody s__law_limit) (defScope s__law_limit) .none kVs5 dcs5 pms5 ans5 cds5 cts5), sls5⟩)
    (cs5 : PySem.W.codeIn K cds5 "_law_limit" = true)
    (ks5 : PySem.W.keepIn K (.ref fs5) = true)
    (as6 : PySem.W.nsIn K mainGlobals "_law_item" = some (some (.ref fs6)))
    (ls6 : K.lookup fs6 = some ⟨ocs6, ods6, .func (PySem.W.fnOf "_law_item" "_law_item" (defArgs s__law_item) (defBody s__law_item) (defScope s__law_item) .none kVs6 dcs6 pms6 ans6 cds6 cts6), sls6⟩)
    (cs6 : PySem.W.codeIn K cds6 "_law_item" = true)
    (ks6 : PySem.W.keepIn K (.ref fs6) = true)
    (as7 : PySem.W.nsIn K mainGlobals "_law_pieces" = some (some (.ref fs7)))
    (ls7 : K.lookup fs7 = some ⟨ocs7, ods7, .func (PySem.W.fnOf "_law_pieces" "_law_pieces" (defArgs s__law_pieces) (defBody s__law_pieces) (defScope s__law_pieces) .none kVs7 dcs7 pms7 ans7 cds7 cts7), sls7⟩)
    (cs7 : PySem.W.codeIn K cds7 "_law_pieces" = true)
    (ks7 : PySem.W.keepIn K (.ref fs7) = true)
    (as8 : PySem.W.nsIn K mainGlobals "_law_text_fault" = some (some (.ref fs8)))
    (ls8 : K.lookup fs8 = some ⟨ocs8, ods8, .func (PySem.W.fnOf "_law_text_fault" "_law_text_fault" (defArgs s__law_text_fault) (defBody s__law_text_fault) (defScope s__law_text_fault) .none kVs8 dcs8 pms8 ans8 cds8 cts8), sls8⟩)
    (cs8 : PySem.W.codeIn K cds8 "_law_text_fault" = true)
    (ks8 : PySem.W.keepIn K (.ref fs8) = true)
    (as9 : PySem.W.nsIn K mainGlobals "_law_is_answer" = some (some (.ref fs9)))
    (ls9 : K.lookup fs9 = some ⟨ocs9, ods9, .func (PySem.W.fnOf "_law_is_answer" "_law_is_answer" (defArgs s__law_is_answer) (defBody s__law_is_answer) (defScope s__law_is_answer) .none kVs9 dcs9 pms9 ans9 cds9 cts9), sls9⟩)
    (cs9 : PySem.W.codeIn K cds9 "_law_is_answer" = true)
    (ks9 : PySem.W.keepIn K (.ref fs9) = true)
    (at1 : PySem.W.nsIn K mainGlobals "_law_answers_end" = some (some (.ref ft1)))
    (lt1 : K.lookup ft1 = some ⟨oct1, odt1, .func (PySem.W.fnOf "_law_answers_end" "_law_answers_end" (defArgs s__law_answers_end) (defBody s__law_answers_end) (defScope s__law_answers_end) .none kVt1 dct1 pmt1 ant1 cdt1 ctt1), slt1⟩)
    (ct1 : PySem.W.codeIn K cdt1 "_law_answers_end" = true)
    (kt1 : PySem.W.keepIn K (.ref ft1) = true)
    (at2 : PySem.W.nsIn K mainGlobals "_law_item_wrong" = some (some (.ref ft2)))
    (lt2 : K.lookup ft2 = some ⟨oct2, odt2, .func (PySem.W.fnOf "_law_item_wrong" "_law_item_wrong" (defArgs s__law_item_wrong) (defBody s__law_item_wrong) (defScope s__law_item_wrong) .none kVt2 dct2 pmt2 ant2 cdt2 ctt2), slt2⟩)
    (ct2 : PySem.W.codeIn K cdt2 "_law_item_wrong" = true)
    (kt2 : PySem.W.keepIn K (.ref ft2) = true)
    (at3 : PySem.W.nsIn K mainGlobals "_law_item_of" = some (some (.ref ft3)))
    (lt3 : K.lookup ft3 = some ⟨oct3, odt3, .func (PySem.W.fnOf "_law_item_of" "_law_item_of" (defArgs s__law_item_of) (defBody s__law_item_of) (defScope s__law_item_of) .none kVt3 dct3 pmt3 ant3 cdt3 ctt3), slt3⟩)
    (ct3 : PySem.W.codeIn K cdt3 "_law_item_of" = true)
    (kt3 : PySem.W.keepIn K (.ref ft3) = true)
    (a9 : PySem.W.nsIn K mainGlobals "law" = some (some (.ref f9)))
    (l9 : K.lookup f9 = some ⟨oc9, od9, .func (PySem.W.fnOf "law" "law" (defArgs s_law) (defBody s_law) (defScope s_law) .none kV9 dc9 pm9 an9 cd9 ct9), sl9⟩)
    (c9 : PySem.W.codeIn K cd9 "law" = true)
    (k9 : PySem.W.keepIn K (.ref f9) = true)
    (aB : PySem.W.nsIn K mainGlobals "BadLetters" = some (some (.ref CB)))
    (iB : PySem.W.findIn K (.ref CB) "__init__" = some (some (.ref fB)))
    (lB : K.lookup fB = some ⟨ocB, odB, .func (PySem.W.fnOf "__init__" "BadLetters.__init__" (defArgs s_BadLetters_init) (defBody s_BadLetters_init) (defScope s_BadLetters_init) .none kVB dcB pmB anB cdB ctB), slB⟩)
    (cB : PySem.W.codeIn K cdB "BadLetters.__init__" = true)
    (kB : PySem.W.keepIn K (.ref fB) = true)
    (kcB : PySem.W.keepIn K (.ref CB) = true)
    (saB : PySem.W.findIn K (.ref CB) "__setattr__" = some (some (.builtin "object.__setattr__")))
    (xB : K.lookup CB = some (excClassObj nmB qB CB NB bsB bmB true snB subB abB colB ddB m0B m1B m2B m3B m5B "ValueError.__new__"))
    (vB : PySem.HandSPX.refsVE bmB = true)
    (gaB : PySem.W.findIn K (.ref CB) "__getattribute__" = some (some (.builtin "BaseException.__getattribute__")))
    (ggB : PySem.W.findIn K (.ref CB) "__getattr__" = some none)
    (eCB : PySem.W.subIn K (.ref CB) (.type "BaseException") = some true)
    (tCB : PySem.W.typeIn K (.ref CB) = some (.type "type"))
    (tfB : PySem.W.typeIn K (.ref fB) = some (.type "function"))
    (hCB : PySem.W.hasDictIn K CB = true)
    (nB0 : PySem.W.findIn K (.ref CB) "index" = some none)
    (aM : PySem.W.nsIn K mainGlobals "TooMany" = some (some (.ref CM)))
    (iM : PySem.W.findIn K (.ref CM) "__init__" = some (some (.ref fM)))
    (lM : K.lookup fM = some ⟨ocM, odM, .func (PySem.W.fnOf "__init__" "TooMany.__init__" (defArgs s_TooMany_init) (defBody s_TooMany_init) (defScope s_TooMany_init) .none kVM dcM pmM anM cdM ctM), slM⟩)
    (cM : PySem.W.codeIn K cdM "TooMany.__init__" = true)
    (kM : PySem.W.keepIn K (.ref fM) = true)
    (kcM : PySem.W.keepIn K (.ref CM) = true)
    (saM : PySem.W.findIn K (.ref CM) "__setattr__" = some (some (.builtin "object.__setattr__")))
    (xM : K.lookup CM = some (excClassObj nmM qM CM NM bsM bmM true snM subM abM colM ddM m0M m1M m2M m3M m5M "ValueError.__new__"))
    (vM : PySem.HandSPX.refsVE bmM = true)
    (gaM : PySem.W.findIn K (.ref CM) "__getattribute__" = some (some (.builtin "BaseException.__getattribute__")))
    (ggM : PySem.W.findIn K (.ref CM) "__getattr__" = some none)
    (eCM : PySem.W.subIn K (.ref CM) (.type "BaseException") = some true)
    (tCM : PySem.W.typeIn K (.ref CM) = some (.type "type"))
    (tfM : PySem.W.typeIn K (.ref fM) = some (.type "function"))
    (hCM : PySem.W.hasDictIn K CM = true)
    (nM0 : PySem.W.findIn K (.ref CM) "what" = some none)
    (nM1 : PySem.W.findIn K (.ref CM) "many" = some none)
    (nM2 : PySem.W.findIn K (.ref CM) "most" = some none)
    (aT : PySem.W.nsIn K mainGlobals "BadLetter" = some (some (.ref CT)))
    (iT : PySem.W.findIn K (.ref CT) "__init__" = some (some (.ref fT)))
    (lT : K.lookup fT = some ⟨ocT, odT, .func (PySem.W.fnOf "__init__" "BadLetter.__init__" (defArgs s_BadLetter_init) (defBody s_BadLetter_init) (defScope s_BadLetter_init) .none kVT dcT pmT anT cdT ctT), slT⟩)
    (cT : PySem.W.codeIn K cdT "BadLetter.__init__" = true)
    (kT : PySem.W.keepIn K (.ref fT) = true)
    (kcT : PySem.W.keepIn K (.ref CT) = true)
    (saT : PySem.W.findIn K (.ref CT) "__setattr__" = some (some (.builtin "object.__setattr__")))
    (xT : K.lookup CT = some (excClassObj nmT qT CT NT bsT bmT true snT subT abT colT ddT m0T m1T m2T m3T m5T "ValueError.__new__"))
    (vT : PySem.HandSPX.refsVE bmT = true)
    (gaT : PySem.W.findIn K (.ref CT) "__getattribute__" = some (some (.builtin "BaseException.__getattribute__")))
    (ggT : PySem.W.findIn K (.ref CT) "__getattr__" = some none)
    (eCT : PySem.W.subIn K (.ref CT) (.type "BaseException") = some true)
    (tCT : PySem.W.typeIn K (.ref CT) = some (.type "type"))
    (tfT : PySem.W.typeIn K (.ref fT) = some (.type "function"))
    (hCT : PySem.W.hasDictIn K CT = true)
    (nT0 : PySem.W.findIn K (.ref CT) "index" = some none)
    (aBa : PySem.W.nsIn K mainGlobals "BadAnswers" = some (some (.ref CBa)))
    (iBa : PySem.W.findIn K (.ref CBa) "__init__" = some (some (.ref fBa)))
    (lBa : K.lookup fBa = some ⟨ocBa, odBa, .func (PySem.W.fnOf "__init__" "BadAnswers.__init__" (defArgs s_BadAnswers_init) (defBody s_BadAnswers_init) (defScope s_BadAnswers_init) .none kVBa dcBa pmBa anBa cdBa ctBa), slBa⟩)
    (cBa : PySem.W.codeIn K cdBa "BadAnswers.__init__" = true)
    (kBa : PySem.W.keepIn K (.ref fBa) = true)
    (kcBa : PySem.W.keepIn K (.ref CBa) = true)
    (saBa : PySem.W.findIn K (.ref CBa) "__setattr__" = some (some (.builtin "object.__setattr__")))
    (xBa : K.lookup CBa = some (excClassObj nmBa qBa CBa NBa bsBa bmBa true snBa subBa abBa colBa ddBa m0Ba m1Ba m2Ba m3Ba m5Ba "ValueError.__new__"))
    (vBa : PySem.HandSPX.refsVE bmBa = true)
    (gaBa : PySem.W.findIn K (.ref CBa) "__getattribute__" = some (some (.builtin "BaseException.__getattribute__")))
    (ggBa : PySem.W.findIn K (.ref CBa) "__getattr__" = some none)
    (eCBa : PySem.W.subIn K (.ref CBa) (.type "BaseException") = some true)
    (tCBa : PySem.W.typeIn K (.ref CBa) = some (.type "type"))
    (tfBa : PySem.W.typeIn K (.ref fBa) = some (.type "function"))
    (hCBa : PySem.W.hasDictIn K CBa = true)
    (nBa0 : PySem.W.findIn K (.ref CBa) "index" = some none)
    (aTx : PySem.W.nsIn K mainGlobals "BadText" = some (some (.ref CTx)))
    (iTx : PySem.W.findIn K (.ref CTx) "__init__" = some (some (.ref fTx)))
    (lTx : K.lookup fTx = some ⟨ocTx, odTx, .func (PySem.W.fnOf "__init__" "BadText.__init__" (defArgs s_BadText___init__) (defBody s_BadText___init__) (defScope s_BadText___init__) .none kVTx dcTx pmTx anTx cdTx ctTx), slTx⟩)
    (cTx : PySem.W.codeIn K cdTx "BadText.__init__" = true)
    (kTx : PySem.W.keepIn K (.ref fTx) = true)
    (kcTx : PySem.W.keepIn K (.ref CTx) = true)
    (saTx : PySem.W.findIn K (.ref CTx) "__setattr__" = some (some (.builtin "object.__setattr__")))
    (xTx : K.lookup CTx = some (excClassObj nmTx qTx CTx NTx bsTx bmTx true snTx subTx abTx colTx ddTx m0Tx m1Tx m2Tx m3Tx m5Tx "ValueError.__new__"))
    (vTx : PySem.HandSPX.refsVE bmTx = true)
    (gaTx : PySem.W.findIn K (.ref CTx) "__getattribute__" = some (some (.builtin "BaseException.__getattribute__")))
    (ggTx : PySem.W.findIn K (.ref CTx) "__getattr__" = some none)
    (eCTx : PySem.W.subIn K (.ref CTx) (.type "BaseException") = some true)
    (tCTx : PySem.W.typeIn K (.ref CTx) = some (.type "type"))
    (tfTx : PySem.W.typeIn K (.ref fTx) = some (.type "function"))
    (hCTx : PySem.W.hasDictIn K CTx = true)
    (nTx0 : PySem.W.findIn K (.ref CTx) "line" = some none)
    (nTx1 : PySem.W.findIn K (.ref CTx) "place" = some none)
    (icTx : PySem.W.isClsIn K CTx = true)
    (esTx : PySem.W.subIn K (.ref CTx) (.ref CTx) = some true)
    (haTx : PySem.W.findIn K (.ref CTx) "__class__" = some (some (.builtin "object.__class__")))
    (hmTx : PySem.W.mroIn K CTx (.type "object") = some true)
    (aZ : PySem.W.nsIn K mainGlobals "BadKind" = some (some (.ref CZ)))
    (exZ : PySem.W.excIn K CZ [Value.type "ValueError", Value.type "Exception", Value.type "BaseException", Value.type "object"] "ValueError.__new__" = true)
    (kcZ : PySem.W.keepIn K (.ref CZ) = true)
    (eCZ : PySem.W.subIn K (.ref CZ) (.type "BaseException") = some true)
    (tCZ : PySem.W.typeIn K (.ref CZ) = some (.type "type"))
    (aN0 : PySem.W.nsIn K mainGlobals "SaysNothing" = some (some (.ref CN0)))
    (exN0 : PySem.W.excIn K CN0 [Value.type "ValueError", Value.type "Exception", Value.type "BaseException", Value.type "object"] "ValueError.__new__" = true)
    (kcN0 : PySem.W.keepIn K (.ref CN0) = true)
    (eCN0 : PySem.W.subIn K (.ref CN0) (.type "BaseException") = some true)
    (tCN0 : PySem.W.typeIn K (.ref CN0) = some (.type "type"))
    (aL : PySem.W.nsIn K mainGlobals "Letters" = some (some (.ref CL)))
    (kcL : PySem.W.keepIn K (.ref CL) = true)
    (saL : PySem.W.findIn K (.ref CL) "__setattr__" = some (some (.builtin "object.__setattr__")))
    (pgL : PySem.W.plainGet K CL Str.empty = true)
    (hdL : PySem.W.hasDictIn K CL = true)
    (poL : PySem.W.plainOver K CL = true)
    (mkL : PySem.W.makesIn K CL = true)
    (nL0 : PySem.W.findIn K (.ref CL) "words" = some none)
    (icL : PySem.W.isClsIn K CL = true)
    (haL : PySem.W.findIn K (.ref CL) "__class__" = some (some (.builtin "object.__class__")))
    (hmL : PySem.W.mroIn K CL (.type "object") = some true)
    (iL : PySem.W.findIn K (.ref CL) "__init__" = some (some (.ref fL)))
    (lL : K.lookup fL = some ⟨ocL, odL, .func (PySem.W.fnOf "__init__" "Letters.__init__" (defArgs s_Letters_init) (defBody s_Letters_init) (defScope s_Letters_init) .none kVL dcL pmL anL cdL ctL), slL⟩)
    (cL : PySem.W.codeIn K cdL "Letters.__init__" = true)
    (kL : PySem.W.keepIn K (.ref fL) = true)
    (isL : PySem.W.isFn K (.ref fL) = true)
    (iH : PySem.W.findIn K (.ref CL) "__contains__" = some (some (.ref fH)))
    (lH : K.lookup fH = some ⟨ocH, odH, .func (PySem.W.fnOf "__contains__" "Letters.__contains__" (defArgs s_Has) (defBody s_Has) (defScope s_Has) .none kVH dcH pmH anH cdH ctH), slH⟩)
    (cH : PySem.W.codeIn K cdH "Letters.__contains__" = true)
    (kH : PySem.W.keepIn K (.ref fH) = true)
    (isH : PySem.W.isFn K (.ref fH) = true)
    (iR : PySem.W.findIn K (.ref CL) "rank" = some (some (.ref fR)))
    (lR : K.lookup fR = some ⟨ocR, odR, .func (PySem.W.fnOf "rank" "Letters.rank" (defArgs s_Rank) (defBody s_Rank) (defScope s_Rank) .none kVR dcR pmR anR cdR ctR), slR⟩)
    (cR : PySem.W.codeIn K cdR "Letters.rank" = true)
    (kR : PySem.W.keepIn K (.ref fR) = true)
    (isR : PySem.W.isFn K (.ref fR) = true)
    (iQ : PySem.W.findIn K (.ref CL) "__eq__" = some (some (.ref fQ)))
    (lQ : K.lookup fQ = some ⟨ocQ, odQ, .func (PySem.W.fnOf "__eq__" "Letters.__eq__" (defArgs s_Eq) (defBody s_Eq) (defScope s_Eq) .none kVQ dcQ pmQ anQ cdQ ctQ), slQ⟩)
    (cQ : PySem.W.codeIn K cdQ "Letters.__eq__" = true)
    (kQ : PySem.W.keepIn K (.ref fQ) = true)
    (isQ : PySem.W.isFn K (.ref fQ) = true)
    (aS : PySem.W.nsIn K mainGlobals "Sentence" = some (some (.ref CS)))
    (kcS : PySem.W.keepIn K (.ref CS) = true)
    (saS : PySem.W.findIn K (.ref CS) "__setattr__" = some (some (.builtin "object.__setattr__")))
    (pgS : PySem.W.plainGet K CS Str.empty = true)
    (hdS : PySem.W.hasDictIn K CS = true)
    (poS : PySem.W.plainOver K CS = true)
    (mkS : PySem.W.makesIn K CS = true)
    (nS0 : PySem.W.findIn K (.ref CS) "letters" = some none)
    (nS1 : PySem.W.findIn K (.ref CS) "kind" = some none)
    (nS2 : PySem.W.findIn K (.ref CS) "first" = some none)
    (nS3 : PySem.W.findIn K (.ref CS) "second" = some none)
    (icS : PySem.W.isClsIn K CS = true)
    (haS : PySem.W.findIn K (.ref CS) "__class__" = some (some (.builtin "object.__class__")))
    (hmS : PySem.W.mroIn K CS (.type "object") = some true)
    (iS : PySem.W.findIn K (.ref CS) "__init__" = some (some (.ref fS)))
    (lS : K.lookup fS = some ⟨ocS, odS, .func (PySem.W.fnOf "__init__" "Sentence.__init__" (defArgs s_Sen_init) (defBody s_Sen_init) (defScope s_Sen_init) (.ref TS) kVS dcS pmS anS cdS ctS), slS⟩)
    (cS : PySem.W.codeIn K cdS "Sentence.__init__" = true)
    (kS : PySem.W.keepIn K (.ref fS) = true)
    (dTS : K.lookup TS = some oTS)
    (dUS : oTS.data = .seq [Value.none].toArray nTS)
    (isS : PySem.W.isFn K (.ref fS) = true)
    (iA : PySem.W.findIn K (.ref CS) "__eq__" = some (some (.ref fA)))
    (lA : K.lookup fA = some ⟨ocA, odA, .func (PySem.W.fnOf "__eq__" "Sentence.__eq__" (defArgs s_SEq) (defBody s_SEq) (defScope s_SEq) .none kVA dcA pmA anA cdA ctA), slA⟩)
    (cA : PySem.W.codeIn K cdA "Sentence.__eq__" = true)
    (kA : PySem.W.keepIn K (.ref fA) = true)
    (isA : PySem.W.isFn K (.ref fA) = true)
    (iSr : PySem.W.findIn K (.ref CS) "__str__" = some (some (.ref fSr)))
    (lSr : K.lookup fSr = some ⟨ocSr, odSr, .func (PySem.W.fnOf "__str__" "Sentence.__str__" (defArgs s_Str) (defBody s_Str) (defScope s_Str) .none kVSr dcSr pmSr anSr cdSr ctSr), slSr⟩)
    (cSr : PySem.W.codeIn K cdSr "Sentence.__str__" = true)
    (kSr : PySem.W.keepIn K (.ref fSr) = true)
    (isSr : PySem.W.isFn K (.ref fSr) = true)
    (aI : PySem.W.nsIn K mainGlobals "Limit" = some (some (.ref CI)))
    (kcI : PySem.W.keepIn K (.ref CI) = true)
    (saI : PySem.W.findIn K (.ref CI) "__setattr__" = some (some (.builtin "object.__setattr__")))
    (pgI : PySem.W.plainGet K CI Str.empty = true)
    (hdI : PySem.W.hasDictIn K CI = true)
    (poI : PySem.W.plainOver K CI = true)
    (mkI : PySem.W.makesIn K CI = true)
    (nI0 : PySem.W.findIn K (.ref CI) "letters" = some none)
    (nI1 : PySem.W.findIn K (.ref CI) "kind" = some none)
    (nI2 : PySem.W.findIn K (.ref CI) "answers" = some none)
    (nI3 : PySem.W.findIn K (.ref CI) "letter" = some none)
    (icI : PySem.W.isClsIn K CI = true)
    (haI : PySem.W.findIn K (.ref CI) "__class__" = some (some (.builtin "object.__class__")))
    (hmI : PySem.W.mroIn K CI (.type "object") = some true)
    (iI : PySem.W.findIn K (.ref CI) "__init__" = some (some (.ref fI)))
    (lI : K.lookup fI = some ⟨ocI, odI, .func (PySem.W.fnOf "__init__" "Limit.__init__" (defArgs s_Lim_init) (defBody s_Lim_init) (defScope s_Lim_init) (.ref TI) kVI dcI pmI anI cdI ctI), slI⟩)
    (cI : PySem.W.codeIn K cdI "Limit.__init__" = true)
    (kI : PySem.W.keepIn K (.ref fI) = true)
    (dTI : K.lookup TI = some oTI)
    (dUI : oTI.data = .seq [Value.none].toArray nTI)
    (isI : PySem.W.isFn K (.ref fI) = true)
    (iLE : PySem.W.findIn K (.ref CI) "__eq__" = some (some (.ref fLE)))
    (lLE : K.lookup fLE = some ⟨ocLE, odLE, .func (PySem.W.fnOf "__eq__" "Limit.__eq__" (defArgs s_LEq) (defBody s_LEq) (defScope s_LEq) .none kVLE dcLE pmLE anLE cdLE ctLE), slLE⟩)
    (cLE : PySem.W.codeIn K cdLE "Limit.__eq__" = true)
    (kLE : PySem.W.keepIn K (.ref fLE) = true)
    (isLE : PySem.W.isFn K (.ref fLE) = true)
    (iLS : PySem.W.findIn K (.ref CI) "__str__" = some (some (.ref fLS)))
    (lLS : K.lookup fLS = some ⟨ocLS, odLS, .func (PySem.W.fnOf "__str__" "Limit.__str__" (defArgs s_LStr) (defBody s_LStr) (defScope s_LStr) .none kVLS dcLS pmLS anLS cdLS ctLS), slLS⟩)
    (cLS : PySem.W.codeIn K cdLS "Limit.__str__" = true)
    (kLS : PySem.W.keepIn K (.ref fLS) = true)
    (isLS : PySem.W.isFn K (.ref fLS) = true)
    (neSI : CI ≠ CS)
    (tcS : PySem.W.typeIn K (.ref CS) = some (.type "type"))
    (suSI : PySem.W.subIn K (.ref CI) (.ref CS) = some false)
    (neIS : CS ≠ CI)
    (tcI : PySem.W.typeIn K (.ref CI) = some (.type "type"))
    (suIS : PySem.W.subIn K (.ref CS) (.ref CI) = some false)
    (aRD : PySem.W.nsIn K mainGlobals "LineReader" = some (some (.ref CRD)))
    (kcRD : PySem.W.keepIn K (.ref CRD) = true)
    (saRD : PySem.W.findIn K (.ref CRD) "__setattr__" = some (some (.builtin "object.__setattr__")))
    (pgRD : PySem.W.plainGet K CRD Str.empty = true)
    (hdRD : PySem.W.hasDictIn K CRD = true)
    (poRD : PySem.W.plainOver K CRD = true)
    (mkRD : PySem.W.makesIn K CRD = true)
    (nRD0 : PySem.W.findIn K (.ref CRD) "parts" = some none)
    (nRD1 : PySem.W.findIn K (.ref CRD) "number" = some none)
    (nRD2 : PySem.W.findIn K (.ref CRD) "taken" = some none)
    (iD0 : PySem.W.findIn K (.ref CRD) "__init__" = some (some (.ref fD0)))
    (lD0 : K.lookup fD0 = some ⟨ocD0, odD0, .func (PySem.W.fnOf "__init__" "LineReader.__init__" (defArgs s_LineReader___init__) (defBody s_LineReader___init__) (defScope s_LineReader___init__) .none kVD0 dcD0 pmD0 anD0 cdD0 ctD0), slD0⟩)
    (cD0 : PySem.W.codeIn K cdD0 "LineReader.__init__" = true)
    (kD0 : PySem.W.keepIn K (.ref fD0) = true)
    (isD0 : PySem.W.isFn K (.ref fD0) = true)
    (iD1 : PySem.W.findIn K (.ref CRD) "ahead" = some (some (.ref fD1)))
    (lD1 : K.lookup fD1 = some ⟨ocD1, odD1, .func (PySem.W.fnOf "ahead" "LineReader.ahead" (defArgs s_LineReader_ahead) (defBody s_LineReader_ahead) (defScope s_LineReader_ahead) .none kVD1 dcD1 pmD1 anD1 cdD1 ctD1), slD1⟩)
    (cD1 : PySem.W.codeIn K cdD1 "LineReader.ahead" = true)
    (kD1 : PySem.W.keepIn K (.ref fD1) = true)
    (isD1 : PySem.W.isFn K (.ref fD1) = true)
    (iD2 : PySem.W.findIn K (.ref CRD) "refuse" = some (some (.ref fD2)))
    (lD2 : K.lookup fD2 = some ⟨ocD2, odD2, .func (PySem.W.fnOf "refuse" "LineReader.refuse" (defArgs s_LineReader_refuse) (defBody s_LineReader_refuse) (defScope s_LineReader_refuse) .none kVD2 dcD2 pmD2 anD2 cdD2 ctD2), slD2⟩)
    (cD2 : PySem.W.codeIn K cdD2 "LineReader.refuse" = true)
    (kD2 : PySem.W.keepIn K (.ref fD2) = true)
    (isD2 : PySem.W.isFn K (.ref fD2) = true)
    (iD3 : PySem.W.findIn K (.ref CRD) "take" = some (some (.ref fD3)))
    (lD3 : K.lookup fD3 = some ⟨ocD3, odD3, .func (PySem.W.fnOf "take" "LineReader.take" (defArgs s_LineReader_take) (defBody s_LineReader_take) (defScope s_LineReader_take) .none kVD3 dcD3 pmD3 anD3 cdD3 ctD3), slD3⟩)
    (cD3 : PySem.W.codeIn K cdD3 "LineReader.take" = true)
    (kD3 : PySem.W.keepIn K (.ref fD3) = true)
    (isD3 : PySem.W.isFn K (.ref fD3) = true)
    (iD4 : PySem.W.findIn K (.ref CRD) "take_one_of" = some (some (.ref fD4)))
    (lD4 : K.lookup fD4 = some ⟨ocD4, odD4, .func (PySem.W.fnOf "take_one_of" "LineReader.take_one_of" (defArgs s_LineReader_take_one_of) (defBody s_LineReader_take_one_of) (defScope s_LineReader_take_one_of) .none kVD4 dcD4 pmD4 anD4 cdD4 ctD4), slD4⟩)
    (cD4 : PySem.W.codeIn K cdD4 "LineReader.take_one_of" = true)
    (kD4 : PySem.W.keepIn K (.ref fD4) = true)
    (isD4 : PySem.W.isFn K (.ref fD4) = true)
    (iD5 : PySem.W.findIn K (.ref CRD) "finish" = some (some (.ref fD5)))
    (lD5 : K.lookup fD5 = some ⟨ocD5, odD5, .func (PySem.W.fnOf "finish" "LineReader.finish" (defArgs s_LineReader_finish) (defBody s_LineReader_finish) (defScope s_LineReader_finish) .none kVD5 dcD5 pmD5 anD5 cdD5 ctD5), slD5⟩)
    (cD5 : PySem.W.codeIn K cdD5 "LineReader.finish" = true)
    (kD5 : PySem.W.keepIn K (.ref fD5) = true)
    (isD5 : PySem.W.isFn K (.ref fD5) = true)
    (g_gS : PySem.W.nsIn K mainGlobals "SMALL_LETTERS" = some (some (.str "abcdefghijklmnopqrstuvwxyz" gS)))
    (g_gW : PySem.W.nsIn K mainGlobals "WORD_SIGNS" = some (some (.str "abcdefghijklmnopqrstuvwxyz0123456789" gW)))
    (g_gM : PySem.W.nsIn K mainGlobals "MOST_SIGNS" = some (some (.int 12 gM)))
    (g_gL : PySem.W.nsIn K mainGlobals "MOST_LETTERS" = some (some (.int 12 gL)))
    (g_gB : PySem.W.nsIn K mainGlobals "BEGINNINGS" = some (some (.ref T_gB)))
    (gl_gB : K.lookup T_gB = some o_gB)
    (gc_gB : o_gB.cls = .type "tuple")
    (gd_gB : o_gB.data = .seq j_gB n_gB)
    (gs_gB : j_gB.size ≤ sizeLine)
    (gv_gB : Vals [.str newW, .str foundW] j_gB.toList)
    (g_gK : PySem.W.nsIn K mainGlobals "KINDS" = some (some (.ref T_gK)))
    (gl_gK : K.lookup T_gK = some o_gK)
    (gc_gK : o_gK.cls = .type "tuple")
    (gd_gK : o_gK.data = .seq j_gK n_gK)
    (gs_gK : j_gK.size ≤ sizeLine)
    (gv_gK : Vals [.str ("idle" : Str), .str ("kept" : Str), .str ("still" : Str), .str ("over" : Str), .str ("undone" : Str), .str ("alike" : Str)] j_gK.toList)
    (g_gN : PySem.W.nsIn K mainGlobals "LONE_KINDS" = some (some (.ref T_gN)))
    (gl_gN : K.lookup T_gN = some o_gN)
    (gc_gN : o_gN.cls = .type "tuple")
    (gd_gN : o_gN.data = .seq j_gN n_gN)
    (gs_gN : j_gN.size ≤ sizeLine)
    (gv_gN : Vals [.str ("idle" : Str), .str ("still" : Str)] j_gN.toList)
    (g_gJ : PySem.W.nsIn K mainGlobals "LIMIT_KINDS" = some (some (.ref T_gJ)))
    (gl_gJ : K.lookup T_gJ = some o_gJ)
    (gc_gJ : o_gJ.cls = .type "tuple")
    (gd_gJ : o_gJ.data = .seq j_gJ n_gJ)
    (gs_gJ : j_gJ.size ≤ sizeLine)
    (gv_gJ : Vals [.str ("always" : Str), .str ("fresh" : Str), .str ("behind" : Str)] j_gJ.toList)
    (g_gA : PySem.W.nsIn K mainGlobals "MOST_ANSWERS" = some (some (.int 6 gA)))
    (z0 : PySem.W.nsIn K mainGlobals "int" = some none)
    (z1 : PySem.W.nsIn K mainGlobals "len" = some none)
    (z2 : PySem.W.nsIn K mainGlobals "abs" = some none)
    (z3 : PySem.W.nsIn K mainGlobals "list" = some none)
    (z4 : PySem.W.nsIn K mainGlobals "range" = some none)
    (z5 : PySem.W.nsIn K mainGlobals "min" = some none)
    (z6 : PySem.W.nsIn K mainGlobals "str" = some none)
    (z7 : PySem.W.nsIn K mainGlobals "isinstance" = some none)
    (z8 : PySem.W.nsIn K mainGlobals "all" = some none)
    (z9 : PySem.W.nsIn K mainGlobals "enumerate" = some none)
    (z10 : PySem.W.nsIn K mainGlobals "tuple" = some none)
    (z11 : PySem.W.nsIn K mainGlobals "repr" = some none)
    (z12 : PySem.W.nsIn K mainGlobals "dict" = some none)
    (z13 : PySem.W.nsIn K mainGlobals "sorted" = some none)
    (z14 : PySem.W.nsIn K mainGlobals "set" = some none)
    (xS : K.lookup CS = some (excClassObj nmS qS CS NS bsS bmS hdctS snS subS abS colS ddS m0S m1S m2S m3S m5S newS))
    (vS : bmS = [.type "object"])
    (xNS : K.lookup NS = some oNS)
    (xAS : oNS.data = .dict esNS epNS)
    (xBS : StrKeys esNS)
    (xCS : nsFind esNS "__eq__" = some (.ref fA))
    (xDS : nsFind esNS "__ne__" = none)
    (xI : K.lookup CI = some (excClassObj nmI qI CI NI bsI bmI hdctI snI subI abI colI ddI m0I m1I m2I m3I m5I newI))
    (vI : bmI = [.type "object"])
    (xNI : K.lookup NI = some oNI)
    (xAI : oNI.data = .dict esNI epNI)
    (xBI : StrKeys esNI)
    (xCI : nsFind esNI "__eq__" = some (.ref fLE))
    (xDI : nsFind esNI "__ne__" = none)
    (hcD4 : cdD4 = .ref qa)
    (hd_D4 : PySem.W.codeHdIn K qa Ta = true)
    (hn_D4 : K.lookup Ta = none)
    (hcti : cdti = .ref qb)
    (hd_ti : PySem.W.codeHdIn K qb Tb = true)
    (hn_ti : K.lookup Tb = none)
    (hcta : cdta = .ref qc)
    (hd_ta : PySem.W.codeHdIn K qc Tc = true)
    (hn_ta : K.lookup Tc = none)
    (hc9 : cd9 = .ref qd)
    (hd_9 : PySem.W.codeHdIn K qd Td = true)
    (hn_9 : K.lookup Td = none)
    (ndT : [Ta, Tb, Tc, Td].Nodup) :
    LamX.LawAtS l w K CX0 13 63 "_law_script" mg fa h := by
  have e := hfa.symm.trans (PySem.W.mg_of X G a9)
  cases e
  have T : Blt mg := ⟨PySem.W.mg_none_of X G z0, PySem.W.mg_none_of X G z1, PySem.W.mg_none_of X G z2, PySem.W.mg_none_of X G z3, PySem.W.mg_none_of X G z4, PySem.W.mg_none_of X G z5, PySem.W.mg_none_of X G z6, PySem.W.mg_none_of X G z7, PySem.W.mg_none_of X G z8, PySem.W.mg_none_of X G z9, PySem.W.mg_none_of X G z10, PySem.W.mg_none_of X G z11⟩
  have F0 := fun_mk (st := s_is_short_word) l0 c0 k0
  have b0 := F0.binds (ps := ["value"]) fun _ _ _ _ _ _ us hl => match us, hl with | [_], _ => rfl
  have A0 : At K mg "is_short_word" f0 _ ["value"] := ⟨PySem.W.mg_of X G a0, k0, b0⟩
  have F1 := fun_mk (st := s_copied) l1 c1 k1
  have b1 := F1.binds (ps := ["value"]) fun _ _ _ _ _ _ us hl => match us, hl with | [_], _ => rfl
  have A1 : At K mg "copied" f1 _ ["value"] := ⟨PySem.W.mg_of X G a1, k1, b1⟩
  have F2 := fun_mk (st := s_is_letter) l2 c2 k2
  have b2 := F2.binds (ps := ["value"]) fun _ _ _ _ _ _ us hl => match us, hl with | [_], _ => rfl
  have A2 : At K mg "is_letter" f2 _ ["value"] := ⟨PySem.W.mg_of X G a2, k2, b2⟩
  have F3 := fun_mk (st := s__law_pen) l3 c3 k3
  have b3 := F3.binds (ps := ["_law_script"]) fun _ _ _ _ _ _ us hl => match us, hl with | [_], _ => rfl
  have A3 : At K mg "_law_pen" f3 _ ["_law_script"] := ⟨PySem.W.mg_of X G a3, k3, b3⟩
  have F4 := fun_mk (st := s__law_draw) l4 c4 k4
  have b4 := F4.binds (ps := ["_law_pen_here", "_law_many"]) fun _ _ _ _ _ _ us hl => match us, hl with | [_, _], _ => rfl
  have A4 : At K mg "_law_draw" f4 _ ["_law_pen_here", "_law_many"] := ⟨PySem.W.mg_of X G a4, k4, b4⟩
  have F5 := fun_mk (st := s__law_pick) l5 c5 k5
  have b5 := F5.binds (ps := ["_law_pen_here", "_law_items"]) fun _ _ _ _ _ _ us hl => match us, hl with | [_, _], _ => rfl
  have A5 : At K mg "_law_pick" f5 _ ["_law_pen_here", "_law_items"] := ⟨PySem.W.mg_of X G a5, k5, b5⟩
  have F6 := fun_mk (st := s__law_shuffled) l6 c6 k6
  have b6 := F6.binds (ps := ["_law_pen_here", "_law_items"]) fun _ _ _ _ _ _ us hl => match us, hl with | [_, _], _ => rfl
  have A6 : At K mg "_law_shuffled" f6 _ ["_law_pen_here", "_law_items"] := ⟨PySem.W.mg_of X G a6, k6, b6⟩
  have F7 := fun_mk (st := s__law_words) l7 c7 k7
  have b7 := F7.binds (ps := ["_law_pen_here", "_law_many"]) fun _ _ _ _ _ _ us hl => match us, hl with | [_, _], _ => rfl
  have A7 : At K mg "_law_words" f7 _ ["_law_pen_here", "_law_many"] := ⟨PySem.W.mg_of X G a7, k7, b7⟩
  have F8 := fun_mk (st := s__law_marked) l8 c8 k8
  have b8 := F8.binds (ps := ["_law_pen_here", "_law_words_here"]) fun _ _ _ _ _ _ us hl => match us, hl with | [_, _], _ => rfl
  have A8 : At K mg "_law_marked" f8 _ ["_law_pen_here", "_law_words_here"] := ⟨PySem.W.mg_of X G a8, k8, b8⟩
  have Fm := fun_mk (st := s_is_due) lm cm km
  have bm := Fm.binds (ps := ["letters", "value", "has_letter"]) fun _ _ _ _ _ _ us hl => match us, hl with | [_, _, _], _ => rfl
  have Am : At K mg "is_due" fm _ ["letters", "value", "has_letter"] := ⟨PySem.W.mg_of X G am, km, bm⟩
  have Fo := fun_mk (st := s_one_form) lo co ko
  have bo := Fo.binds (ps := ["letters", "kind", "first", "second"]) fun _ _ _ _ _ _ us hl => match us, hl with | [_, _, _, _], _ => rfl
  have Ao : At K mg "one_form" fo _ ["letters", "kind", "first", "second"] := ⟨PySem.W.mg_of X G ao, ko, bo⟩
  have Fas := fun_mk (st := s_answer_set) las cas kas
  have bas := Fas.binds (ps := ["answers"]) fun _ _ _ _ _ _ us hl => match us, hl with | [_], _ => rfl
  have Aas : At K mg "answer_set" fas _ ["answers"] := ⟨PySem.W.mg_of X G aas, kas, bas⟩
  have Fia := fun_mk (st := s_is_answer) lia cia kia
  have bia := Fia.binds (ps := ["value"]) fun _ _ _ _ _ _ us hl => match us, hl with | [_], _ => rfl
  have Aia : At K mg "is_answer" fia _ ["value"] := ⟨PySem.W.mg_of X G aia, kia, bia⟩
  have Fti := fun_mk (st := s_take_item) lti cti kti
  have bti := Fti.binds (ps := ["words", "letters"]) fun _ _ _ _ _ _ us hl => match us, hl with | [_, _], _ => rfl
  have Ati : At K mg "take_item" fti _ ["words", "letters"] := ⟨PySem.W.mg_of X G ati, kti, bti⟩
  have Fta := fun_mk (st := s_take_answers) lta cta kta
  have bta := Fta.binds (ps := ["words", "end"]) fun _ _ _ _ _ _ us hl => match us, hl with | [_, _], _ => rfl
  have Ata : At K mg "take_answers" fta _ ["words", "end"] := ⟨PySem.W.mg_of X G ata, kta, bta⟩
  have Fom := fun_mk (st := s_is_one_more) lom com kom
  have bom := Fom.binds (ps := ["answer", "answers"]) fun _ _ _ _ _ _ us hl => match us, hl with | [_, _], _ => rfl
  have Aom : At K mg "is_one_more" fom _ ["answer", "answers"] := ⟨PySem.W.mg_of X G aom, kom, bom⟩
  have Fri := fun_mk (st := s_read_item) lri cri kri
  have bri := Fri.binds (ps := ["letters", "line"]) fun _ _ _ _ _ _ us hl => match us, hl with | [_, _], _ => rfl
  have Ari : At K mg "read_item" fri _ ["letters", "line"] := ⟨PySem.W.mg_of X G ari, kri, bri⟩
  have Fs1 := fun_mk (st := s__law_some) ls1 cs1 ks1
  have bs1 := Fs1.binds (ps := ["_law_pen_here", "_law_items"]) fun _ _ _ _ _ _ us hl => match us, hl with | [_, _], _ => rfl
  have As1 : At K mg "_law_some" fs1 _ ["_law_pen_here", "_law_items"] := ⟨PySem.W.mg_of X G as1, ks1, bs1⟩
  have Fs2 := fun_mk (st := s__law_said) ls2 cs2 ks2
  have bs2 := Fs2.binds (ps := ["_law_pen_here", "_law_many"]) fun _ _ _ _ _ _ us hl => match us, hl with | [_, _], _ => rfl
  have As2 : At K mg "_law_said" fs2 _ ["_law_pen_here", "_law_many"] := ⟨PySem.W.mg_of X G as2, ks2, bs2⟩
  have Fs3 := fun_mk (st := s__law_sentence) ls3 cs3 ks3
  have bs3 := Fs3.binds (ps := ["_law_letters", "_law_said_here"]) fun _ _ _ _ _ _ us hl => match us, hl with | [_, _], _ => rfl
  have As3 : At K mg "_law_sentence" fs3 _ ["_law_letters", "_law_said_here"] := ⟨PySem.W.mg_of X G as3, ks3, bs3⟩
  have Fs4 := fun_mk (st := s__law_answers) ls4 cs4 ks4
  have bs4 := Fs4.binds (ps := ["_law_pen_here", "_law_pool"]) fun _ _ _ _ _ _ us hl => match us, hl with | [_, _], _ => rfl
  have As4 : At K mg "_law_answers" fs4 _ ["_law_pen_here", "_law_pool"] := ⟨PySem.W.mg_of X G as4, ks4, bs4⟩
  have Fs5 := fun_mk (st := s__law_limit) ls5 cs5 ks5
  have bs5 := Fs5.binds (ps := ["_law_pen_here", "_law_letters", "_law_pool"]) fun _ _ _ _ _ _ us hl => match us, hl with | [_, _, _], _ => rfl
  have As5 : At K mg "_law_limit" fs5 _ ["_law_pen_here", "_law_letters", "_law_pool"] := ⟨PySem.W.mg_of X G as5, ks5, bs5⟩
  have Fs6 := fun_mk (st := s__law_item) ls6 cs6 ks6
  have bs6 := Fs6.binds (ps := ["_law_pen_here", "_law_letters", "_law_pool"]) fun _ _ _ _ _ _ us hl => match us, hl with | [_, _, _], _ => rfl
  have As6 : At K mg "_law_item" fs6 _ ["_law_pen_here", "_law_letters", "_law_pool"] := ⟨PySem.W.mg_of X G as6, ks6, bs6⟩
  have Fs7 := fun_mk (st := s__law_pieces) ls7 cs7 ks7
  have bs7 := Fs7.binds (ps := ["_law_pen_here", "_law_line", "_law_more"]) fun _ _ _ _ _ _ us hl => match us, hl with | [_, _, _], _ => rfl
  have As7 : At K mg "_law_pieces" fs7 _ ["_law_pen_here", "_law_line", "_law_more"] := ⟨PySem.W.mg_of X G as7, ks7, bs7⟩
  have Fs8 := fun_mk (st := s__law_text_fault) ls8 cs8 ks8
  have bs8 := Fs8.binds (ps := ["_law_deed"]) fun _ _ _ _ _ _ us hl => match us, hl with | [_], _ => rfl
  have As8 : At K mg "_law_text_fault" fs8 _ ["_law_deed"] := ⟨PySem.W.mg_of X G as8, ks8, bs8⟩
  have Fs9 := fun_mk (st := s__law_is_answer) ls9 cs9 ks9
  have bs9 := Fs9.binds (ps := ["_law_word"]) fun _ _ _ _ _ _ us hl => match us, hl with | [_], _ => rfl
  have As9 : At K mg "_law_is_answer" fs9 _ ["_law_word"] := ⟨PySem.W.mg_of X G as9, ks9, bs9⟩
  have Ft1 := fun_mk (st := s__law_answers_end) lt1 ct1 kt1
  have bt1 := Ft1.binds (ps := ["_law_words_here", "_law_at", "_law_stop"]) fun _ _ _ _ _ _ us hl => match us, hl with | [_, _, _], _ => rfl
  have At1 : At K mg "_law_answers_end" ft1 _ ["_law_words_here", "_law_at", "_law_stop"] := ⟨PySem.W.mg_of X G at1, kt1, bt1⟩
  have Ft2 := fun_mk (st := s__law_item_wrong) lt2 ct2 kt2
  have bt2 := Ft2.binds (ps := ["_law_letters", "_law_words_here", "_law_at"]) fun _ _ _ _ _ _ us hl => match us, hl with | [_, _, _], _ => rfl
  have At2 : At K mg "_law_item_wrong" ft2 _ ["_law_letters", "_law_words_here", "_law_at"] := ⟨PySem.W.mg_of X G at2, kt2, bt2⟩
  have Ft3 := fun_mk (st := s__law_item_of) lt3 ct3 kt3
  have bt3 := Ft3.binds (ps := ["_law_letters", "_law_words_here", "_law_at"]) fun _ _ _ _ _ _ us hl => match us, hl with | [_, _, _], _ => rfl
  have At3 : At K mg "_law_item_of" ft3 _ ["_law_letters", "_law_words_here", "_law_at"] := ⟨PySem.W.mg_of X G at3, kt3, bt3⟩
  have F9 := fun_mk (st := s_law) l9 c9 k9
  have FB := fun_mk (st := s_BadLetters_init) lB cB kB
  have bB := FB.binds (ps := ["self", "index"]) fun _ _ _ _ _ _ us hl => match us, hl with | [_, _], _ => rfl
  have OB : OexC K CB := ⟨⟨_, _, _, _, _, _, _, _, _, _, _, _, _, _, _, xB, vB⟩, saB, eCB, tCB, kcB⟩
  have EB : ErrAt K mg "BadLetters" CB fB _ _ := ⟨PySem.W.mg_of X G aB, OB, iB, tfB, bB, ⟨gaB, ggB, eCB, hCB⟩⟩
  have FM := fun_mk (st := s_TooMany_init) lM cM kM
  have bM := FM.binds (ps := ["self", "what", "many", "most"]) fun _ _ _ _ _ _ us hl => match us, hl with | [_, _, _, _], _ => rfl
  have OM : OexC K CM := ⟨⟨_, _, _, _, _, _, _, _, _, _, _, _, _, _, _, xM, vM⟩, saM, eCM, tCM, kcM⟩
  have EM : ErrAt K mg "TooMany" CM fM _ _ := ⟨PySem.W.mg_of X G aM, OM, iM, tfM, bM, ⟨gaM, ggM, eCM, hCM⟩⟩
  have FT := fun_mk (st := s_BadLetter_init) lT cT kT
  have bT := FT.binds (ps := ["self", "index"]) fun _ _ _ _ _ _ us hl => match us, hl with | [_, _], _ => rfl
  have OT : OexC K CT := ⟨⟨_, _, _, _, _, _, _, _, _, _, _, _, _, _, _, xT, vT⟩, saT, eCT, tCT, kcT⟩
  have ET : ErrAt K mg "BadLetter" CT fT _ _ := ⟨PySem.W.mg_of X G aT, OT, iT, tfT, bT, ⟨gaT, ggT, eCT, hCT⟩⟩
  have FBa := fun_mk (st := s_BadAnswers_init) lBa cBa kBa
  have bBa := FBa.binds (ps := ["self", "index"]) fun _ _ _ _ _ _ us hl => match us, hl with | [_, _], _ => rfl
  have OBa : OexC K CBa := ⟨⟨_, _, _, _, _, _, _, _, _, _, _, _, _, _, _, xBa, vBa⟩, saBa, eCBa, tCBa, kcBa⟩
  have EBa : ErrAt K mg "BadAnswers" CBa fBa _ _ := ⟨PySem.W.mg_of X G aBa, OBa, iBa, tfBa, bBa, ⟨gaBa, ggBa, eCBa, hCBa⟩⟩
  have FTx := fun_mk (st := s_BadText___init__) lTx cTx kTx
  have bTx := FTx.binds (ps := ["self", "line", "place"]) fun _ _ _ _ _ _ us hl => match us, hl with | [_, _, _], _ => rfl
  have OTx : OexC K CTx := ⟨⟨_, _, _, _, _, _, _, _, _, _, _, _, _, _, _, xTx, vTx⟩, saTx, eCTx, tCTx, kcTx⟩
  have ETx : ErrAt K mg "BadText" CTx fTx _ _ := ⟨PySem.W.mg_of X G aTx, OTx, iTx, tfTx, bTx, ⟨gaTx, ggTx, eCTx, hCTx⟩⟩
  have YTx : XkC K CTx := ⟨icTx, haTx, hn, ht, hmTx⟩
  have eeTx := exm_of eCTx icTx tCTx esTx
  have hCL : Cls K CL := ⟨pgL, hdL, poL, saL⟩
  have YL : XkC K CL := ⟨icL, haL, hn, ht, hmL⟩
  have FL := fun_mk (st := s_Letters_init) lL cL kL
  have bL := FL.binds (ps := ["self", "words"]) fun _ _ _ _ _ _ us hl => match us, hl with | [_, _], _ => rfl
  have FH := fun_mk (st := s_Has) lH cH kH
  have bH := FH.binds (ps := ["self", "x"]) fun _ _ _ _ _ _ us hl => match us, hl with | [_, _], _ => rfl
  have FR := fun_mk (st := s_Rank) lR cR kR
  have bR := FR.binds (ps := ["self", "x"]) fun _ _ _ _ _ _ us hl => match us, hl with | [_, _], _ => rfl
  have FQ := fun_mk (st := s_Eq) lQ cQ kQ
  have bQ := FQ.binds (ps := ["self", "other"]) fun _ _ _ _ _ _ us hl => match us, hl with | [_, _], _ => rfl
  have hCS : Cls K CS := ⟨pgS, hdS, poS, saS⟩
  have YS : XkC K CS := ⟨icS, haS, hn, ht, hmS⟩
  have FS : FunD K "__init__" "Sentence.__init__" (defArgs s_Sen_init) (defBody s_Sen_init) (defScope s_Sen_init) [V.non] [] fS _ := ⟨⟨_, _, _, _, _, _, _, _, _, _, rfl, lS, cS, .inr ⟨by simp, TS, oTS, [.none], nTS, rfl, dTS, dUS, .cons rfl .nil⟩, .inl rfl⟩, kS⟩
  have FA := fun_mk (st := s_SEq) lA cA kA
  have bA := FA.binds (ps := ["self", "other"]) fun _ _ _ _ _ _ us hl => match us, hl with | [_, _], _ => rfl
  have FSr := fun_mk (st := s_Str) lSr cSr kSr
  have bSr := FSr.binds (ps := ["self"]) fun _ _ _ _ _ _ us hl => match us, hl with | [_], _ => rfl
  have hCI : Cls K CI := ⟨pgI, hdI, poI, saI⟩
  have YI : XkC K CI := ⟨icI, haI, hn, ht, hmI⟩
  have FI : FunD K "__init__" "Limit.__init__" (defArgs s_Lim_init) (defBody s_Lim_init) (defScope s_Lim_init) [V.non] [] fI _ := ⟨⟨_, _, _, _, _, _, _, _, _, _, rfl, lI, cI, .inr ⟨by simp, TI, oTI, [.none], nTI, rfl, dTI, dUI, .cons rfl .nil⟩, .inl rfl⟩, kI⟩
  have FLE := fun_mk (st := s_LEq) lLE cLE kLE
  have bLE := FLE.binds (ps := ["self", "other"]) fun _ _ _ _ _ _ us hl => match us, hl with | [_, _], _ => rfl
  have FLS := fun_mk (st := s_LStr) lLS cLS kLS
  have bLS := FLS.binds (ps := ["self"]) fun _ _ _ _ _ _ us hl => match us, hl with | [_], _ => rfl
  have nSI := kit_ref icS tcS suSI neSI
  have nIS := kit_ref icI tcI suIS neIS
  have hCRD : Cls K CRD := ⟨pgRD, hdRD, poRD, saRD⟩
  have FD0 := fun_mk (st := s_LineReader___init__) lD0 cD0 kD0
  have bD0 := FD0.binds (ps := ["self", "line", "number"]) fun _ _ _ _ _ _ us hl => match us, hl with | [_, _, _], _ => rfl
  have mD0 : Meth K CRD "__init__" fD0 := ⟨iD0, isD0, kD0⟩
  have FD1 := fun_mk (st := s_LineReader_ahead) lD1 cD1 kD1
  have bD1 := FD1.binds (ps := ["self"]) fun _ _ _ _ _ _ us hl => match us, hl with | [_], _ => rfl
  have mD1 : Meth K CRD "ahead" fD1 := ⟨iD1, isD1, kD1⟩
  have FD2 := fun_mk (st := s_LineReader_refuse) lD2 cD2 kD2
  have bD2 := FD2.binds (ps := ["self"]) fun _ _ _ _ _ _ us hl => match us, hl with | [_], _ => rfl
  have mD2 : Meth K CRD "refuse" fD2 := ⟨iD2, isD2, kD2⟩
  have FD3 := fun_mk (st := s_LineReader_take) lD3 cD3 kD3
  have bD3 := FD3.binds (ps := ["self", "is_right"]) fun _ _ _ _ _ _ us hl => match us, hl with | [_, _], _ => rfl
  have mD3 : Meth K CRD "take" fD3 := ⟨iD3, isD3, kD3⟩
  have FD4 := fun_mk (st := s_LineReader_take_one_of) lD4 cD4 kD4
  have bD4 := FD4.binds (ps := ["self", "words"]) fun _ _ _ _ _ _ us hl => match us, hl with | [_, _], _ => rfl
  have mD4 : Meth K CRD "take_one_of" fD4 := ⟨iD4, isD4, kD4⟩
  have FD5 := fun_mk (st := s_LineReader_finish) lD5 cD5 kD5
  have bD5 := FD5.binds (ps := ["self"]) fun _ _ _ _ _ _ us hl => match us, hl with | [_], _ => rfl
  have mD5 : Meth K CRD "finish" fD5 := ⟨iD5, isD5, kD5⟩
  subst vS
  have hqS : ocA = .type "function" := by
    have h : (K.lookup fA).map (·.cls) = some (.type "function") := beq_iff_eq.mp isA
    rw [lA] at h
    exact Option.some.inj h
  have nES : OwnNe K CS fA := ⟨_, _, NS, _, _, _, _, _, _, _, _, _, _, _, _, _, oNS, esNS, epNS, _, xS, xNS, xAS, xBS, xCS, xDS, lA, hqS⟩
  subst vI
  have hqI : ocLE = .type "function" := by
    have h : (K.lookup fLE).map (·.cls) = some (.type "function") := beq_iff_eq.mp isLE
    rw [lLE] at h
    exact Option.some.inj h
  have nEI : OwnNe K CI fLE := ⟨_, _, NI, _, _, _, _, _, _, _, _, _, _, _, _, _, oNI, esNI, epNI, _, xI, xNI, xAI, xBI, xCI, xDI, lLE, hqI⟩
  have nD := PySem.W.mg_none_of X G z12
  have nSo := PySem.W.mg_none_of X G z13
  have nSe := PySem.W.mg_none_of X G z14
  have C : Gv K mg := ⟨⟨_, PySem.W.mg_of X G g_gS, _, rfl⟩, ⟨_, PySem.W.mg_of X G g_gW, _, rfl⟩, ⟨_, PySem.W.mg_of X G g_gM, _, rfl⟩, ⟨T_gB, _, PySem.W.mg_of X G g_gB, rfl, fun H => .inr ⟨o_gB, j_gB, n_gB, gl_gB, gc_gB, gd_gB, gs_gB, gv_gB⟩⟩, ⟨_, PySem.W.mg_of X G g_gL, _, rfl⟩⟩
  have Gk : GvK K mg := ⟨⟨T_gK, _, PySem.W.mg_of X G g_gK, rfl, fun H => .inr ⟨o_gK, j_gK, n_gK, gl_gK, gc_gK, gd_gK, gs_gK, gv_gK⟩⟩, ⟨T_gN, _, PySem.W.mg_of X G g_gN, rfl, fun H => .inr ⟨o_gN, j_gN, n_gN, gl_gN, gc_gN, gd_gN, gs_gN, gv_gN⟩⟩⟩
  have hSn : SnC K CS := ⟨hCS, nS0, nS1, nS2, nS3⟩
  have hLi : LiC K CI := ⟨hCI, nI0, nI1, nI2, nI3⟩
  have hRd : RdC K CRD := ⟨hCRD, nRD0, nRD1, nRD2⟩
  have mL := PySem.W.mg_of X G aL
  have mS := PySem.W.mg_of X G aS
  have mI := PySem.W.mg_of X G aI
  have EZ : Err0 K mg "BadKind" CZ := ⟨PySem.W.mg_of X G aZ, exZ, kcZ, eCZ, tCZ⟩
  have EN : Err0 K mg "SaysNothing" CN0 := ⟨PySem.W.mg_of X G aN0, exN0, kcN0, eCN0, tCN0⟩
  refine ⟨PySem.W.fnOf "law" "law" (defArgs s_law) (defBody s_law) (defScope s_law) .none kV9 dc9 pm9 an9 cd9 ct9, [(qa, Ta), (qb, Tb), (qc, Tc), (qd, Td)], spLaw [(Ta, fun _ _ => "LineReader.take_one_of.<locals>.<lambda>"), (Tb, fun _ _ => "take_item.<locals>.<lambda>"), (Tc, fun _ _ => "take_answers.<locals>.<lambda>"), (Td, fun _ _ => "law.<locals>.<lambda>")] K, ?_, ?_, ?_, fun s u => .of_eq rfl, fun H a ns hl _ hH hS => ⟨a, ns, rfl, ?_, hS, hl, fun _ => rfl⟩, fun base kb gb TBs => ?_⟩
  · intro p hp
    simp only [List.mem_cons, List.not_mem_nil, or_false] at hp
    rcases hp with rfl | rfl | rfl | rfl
    · exact hT Ta (by simp)
    · exact hT Tb (by simp)
    · exact hT Tc (by simp)
    · exact hT Td (by simp)
  · intro p hp
    simp only [List.mem_cons, List.not_mem_nil, or_false] at hp
    rcases hp with rfl | rfl | rfl | rfl
    · exact hn_D4
    · exact hn_ti
    · exact hn_ta
    · exact hn_9
  · intro p hp
    simp only [List.mem_cons, List.not_mem_nil, or_false] at hp
    rcases hp with rfl | rfl | rfl | rfl
    · exact PySem.W.codeHd_of_K X hd_D4
    · exact PySem.W.codeHd_of_K X hd_ti
    · exact PySem.W.codeHd_of_K X hd_ta
    · exact PySem.W.codeHd_of_K X hd_9
  · intro p hp
    simp only [List.mem_cons, List.not_mem_nil, or_false] at hp
    rcases hp with rfl | rfl | rfl | rfl
    · exact TabN.nil (hH (qa, Ta) (by simp))
    · exact TabN.nil (hH (qb, Tb) (by simp))
    · exact TabN.nil (hH (qc, Tc) (by simp))
    · exact TabN.nil (hH (qd, Td) (by simp))
  have G0 := ok_short (P := l.prog) (w := w) (base := base) F0 T C
  have G0v := ok_shortV (P := l.prog) (w := w) (base := base) F0 T C
  have G1 := ok_copied (P := l.prog) (w := w) (base := base) F1 T nD
  have G2 := ok_is_letter (P := l.prog) (w := w) (base := base) F2 T C G0 A0
  have G3 := ok_pen (P := l.prog) (w := w) (base := base) F3 T
  have G4 := ok_draw (P := l.prog) (w := w) (base := base) F4 T
  have G5 := ok_pick (P := l.prog) (w := w) (base := base) F5 T G4 A4
  have G5t := ok_pickT (P := l.prog) (w := w) (base := base) F5 T G4 A4
  have G6 := ok_shuf (P := l.prog) (w := w) (base := base) F6 T G4 A4
  have G7 := ok_words (P := l.prog) (w := w) (base := base) F7 T G4 A4 G5 A5 G6 A6
  have G8 := ok_marked (P := l.prog) (w := w) (base := base) F8 T G4 A4
  have GB := ok_badInit (P := l.prog) (w := w) (base := base) FB OB nB0 G1 A1
  have GM := ok_manyInit (P := l.prog) (w := w) (base := base) FM OM nM0 nM1 nM2 G1 A1
  have GT := ok_initBadLetter (P := l.prog) (w := w) (base := base) FT OT nT0 G1 A1
  have GBa := ok_initBadAnswers (P := l.prog) (w := w) (base := base) FBa OBa nBa0 G1 A1
  have GTx := ok_initBadText (P := l.prog) (w := w) (base := base) FTx OTx nTx0 nTx1 G1 A1
  have GL := ok_letInit (P := l.prog) (w := w) (base := base) FL T C hCL nL0 G2 A2 GB EB GM EM
  have GH := ok_has (P := l.prog) (w := w) (base := base) (mg := mg) FH hCL nL0
  have GR := ok_rank (P := l.prog) (w := w) (base := base) FR T hCL nL0 GT ET
  have GQ := ok_eq (P := l.prog) (w := w) (base := base) FQ T hCL nL0 YL mL
  have ML : Mk K CL fL := ⟨mkL, iL, isL, kcL⟩
  have MS : Mk K CS fS := ⟨mkS, iS, isS, kcS⟩
  have MI : Mk K CI fI := ⟨mkI, iI, isI, kcI⟩
  have MR : Mk K CRD fD0 := ⟨mkRD, iD0, isD0, kcRD⟩
  obtain ⟨⟨uS, ruS, bS0⟩, bS⟩ := sen_binds FS
  obtain ⟨⟨uI, ruI, bI0⟩, bI⟩ := lim_binds FI
  have Gm := ok_isDue (P := l.prog) (w := w) (base := base) (mg := mg) Fm GH bH iH isH
  have Go' := ok_form (P := l.prog) (w := w) (base := base) (mg := mg) Fo hCL ⟨iR, isR, kR⟩ bR GR
  have GS := ok_senInit (P := l.prog) (w := w) (base := base) FS hSn Gk GH bH iH isH Gm Am Go' Ao EZ EN GT ET
  have Gia := ok_isAnsV (P := l.prog) (w := w) (base := base) (mg := mg) Fia G0v A0
  have Gas := ok_ans (P := l.prog) (w := w) (base := base) Fas T nSo nSe ⟨_, PySem.W.mg_of X G g_gA, _, rfl⟩ Gia Aia GBa EBa GM EM
  have GI := ok_limInit (P := l.prog) (w := w) (base := base) FI hLi (PySem.W.mg_of X G g_gJ) rfl (fun H => .inr ⟨o_gJ, j_gJ, n_gJ, gl_gJ, gc_gJ, gd_gJ, gs_gJ, gv_gJ⟩) Gm Am Gas Aas EZ GT ET
  have GA := ok_seq (P := l.prog) (w := w) (base := base) FA T hSn YS mS GQ bQ iQ isQ
  have GLE := ok_leq (P := l.prog) (w := w) (base := base) FLE T hLi YI mI GQ bQ iQ isQ
  have GSr := ok_str (P := l.prog) (w := w) (base := base) (mg := mg) FSr hSn
  have GLS := ok_lstr (P := l.prog) (w := w) (base := base) (mg := mg) (CL := CL) FLS hLi
  have GD0 := ok_rdInit (P := l.prog) (w := w) (base := base) (mg := mg) FD0 hRd
  have GD1 := ok_ahead (P := l.prog) (w := w) (base := base) FD1 T hRd
  have GD2 := ok_refuse (P := l.prog) (w := w) (base := base) (mg := mg) FD2 hRd GTx ETx
  have GD3 := ok_take (P := l.prog) (w := w) (base := base) FD3 hRd GD1 bD1 mD1 GD2 bD2 mD2 Gia Aia
  have GD4 := ok_takeOne (P := l.prog) (w := w) (base := base) (mg := mg) (T := [(Ta, fun _ _ => "LineReader.take_one_of.<locals>.<lambda>"), (Tb, fun _ _ => "take_item.<locals>.<lambda>"), (Tc, fun _ _ => "take_answers.<locals>.<lambda>"), (Td, fun _ _ => "law.<locals>.<lambda>")]) (nm := fun _ _ => "LineReader.take_one_of.<locals>.<lambda>") FD4 hRd (TBs (qa, Ta) (by simp)) hcD4 (by simp) (fun _ _ => rfl) (tab_hu ndT (by simp)) GH bH iH isH GD3 bD3 mD3
  have GD5 := ok_finish (P := l.prog) (w := w) (base := base) (mg := mg) FD5 hRd GD1 bD1 mD1 GD2 bD2 mD2
  have Gom := ok_oneMore (P := l.prog) (w := w) (base := base) Fom T nSe ⟨_, PySem.W.mg_of X G g_gA, _, rfl⟩
  have Gta := ok_takeAns (P := l.prog) (w := w) (base := base) (T := [(Ta, fun _ _ => "LineReader.take_one_of.<locals>.<lambda>"), (Tb, fun _ _ => "take_item.<locals>.<lambda>"), (Tc, fun _ _ => "take_answers.<locals>.<lambda>"), (Td, fun _ _ => "law.<locals>.<lambda>")]) (nm := fun _ _ => "take_answers.<locals>.<lambda>") Fta hRd (TBs (qc, Tc) (by simp)) hcta (by simp) (fun _ _ => rfl) (tab_hu ndT (by simp)) Gia Aia Gom Aom GD1 bD1 mD1 GD3 bD3 mD3
  have Gti := ok_takeItem (P := l.prog) (w := w) (base := base) (T := [(Ta, fun _ _ => "LineReader.take_one_of.<locals>.<lambda>"), (Tb, fun _ _ => "take_item.<locals>.<lambda>"), (Tc, fun _ _ => "take_answers.<locals>.<lambda>"), (Td, fun _ _ => "law.<locals>.<lambda>")]) (nm := fun _ _ => "take_item.<locals>.<lambda>") Fti hRd Gk (PySem.W.mg_of X G g_gJ) rfl (fun H => .inr ⟨o_gJ, j_gJ, n_gJ, gl_gJ, gc_gJ, gd_gJ, gs_gJ, gv_gJ⟩) (TBs (qb, Tb) (by simp)) hcti (by simp) (fun _ _ => rfl) (tab_hu ndT (by simp)) GH bH iH isH GD4 bD4 mD4 GD3 bD3 mD3 Gta Ata MI mI bI GI MS mS bS ruS bS0 GS
  have Gri := ok_read (P := l.prog) (w := w) (base := base) (T := [(Ta, fun _ _ => "LineReader.take_one_of.<locals>.<lambda>"), (Tb, fun _ _ => "take_item.<locals>.<lambda>"), (Tc, fun _ _ => "take_answers.<locals>.<lambda>"), (Td, fun _ _ => "law.<locals>.<lambda>")]) Fri hRd MR (PySem.W.mg_of X G aRD) bD0 GD0 Gti Ati GD5 bD5 mD5
  have Gs1 := ok_some (P := l.prog) (w := w) (base := base) Fs1 T G4 A4 G6 A6
  have Gs4 := ok_answ (P := l.prog) (w := w) (base := base) Fs4 T G4 A4 G6 A6 Gs1 As1
  have Gs2 := ok_said (P := l.prog) (w := w) (base := base) Fs2 T G4 A4 G5 A5
  have Gs3 := ok_lsen (P := l.prog) (w := w) (base := base) (mg := mg) Fs3 hCL nL0 MS mS bS GS
  have Gs5 := ok_llim (P := l.prog) (w := w) (base := base) Fs5 hCL nL0 G5 A5 G5t Gs4 As4 MI mI bI GI
  have Gs6 := ok_item (P := l.prog) (w := w) (base := base) Fs6 T hCL nL0 G4 A4 Gs5 As5 Gs2 As2 Gs3 As3
  have Gs7 := ok_pieces (P := l.prog) (w := w) (base := base) Fs7 T G4 A4 G5 A5
  have Gs8 := ok_tf (P := l.prog) (w := w) (base := base) (T := [(Ta, fun _ _ => "LineReader.take_one_of.<locals>.<lambda>"), (Tb, fun _ _ => "take_item.<locals>.<lambda>"), (Tc, fun _ _ => "take_answers.<locals>.<lambda>"), (Td, fun _ _ => "law.<locals>.<lambda>")]) Fs8 ETx ⟨eeTx, nTx0, nTx1⟩
  have Gs9 := ok_lans (P := l.prog) (w := w) (base := base) Fs9 T
  have Gt1 := ok_aend (P := l.prog) (w := w) (base := base) Ft1 T Gs9 As9
  have Gt2 := ok_wrong (P := l.prog) (w := w) (base := base) Ft2 T Gt1 At1
  have Gt3 := ok_of (P := l.prog) (w := w) (base := base) Ft3 T MI mI bI ruI bI0 GI MS mS bS GS
  exact ok_law (TT := [(Ta, fun _ _ => "LineReader.take_one_of.<locals>.<lambda>"), (Tb, fun _ _ => "take_item.<locals>.<lambda>"), (Tc, fun _ _ => "take_answers.<locals>.<lambda>"), (Td, fun _ _ => "law.<locals>.<lambda>")]) (nm := fun _ _ => "law.<locals>.<lambda>") F9 T hCL nL0 hSn hLi YS YI nSI nIS mS mI (TBs (qd, Td) (by simp)) hc9 (by simp) (fun _ _ => rfl) (tab_hu ndT (by simp)) G3 A3 G4 A4 G7 A7 G8 A8 Gs6 As6 G6 A6 G5t A5 Gs7 As7 Gt2 At2 Gt3 At3 Gri Ari Gs8 As8 ML mL bL GL GA bA nES GLE bLE nEI GSr bSr iSr isSr GLS bLS iLS isLS
end Ask

open PySem PySem.W PyProof.Rows
set_option maxRecDepth 100000
set_option maxHeartbeats 0
set_option maxRecDepth 100000 in
set_option maxHeartbeats 0 in
theorem PySem.Challenge.cw_asksmore_k87_items_as_texts_holds : PySem.Challenge.rw_asksmore_k87_items_as_texts.Holds := by
  refine headK87 ?_
  k_fill
  refine LamX.walk_ofTs (l := PySem.Challenge.rw_asksmore_k87_items_as_texts) (n := 63) (k := 13) (x := "_law_script") (CX := fun _ => L2.CX0) rfl (by decide) rfl ⟨rfl, by decide, by decide⟩ (fun w h Y => (Ask.tabs_split4 Y (by kernel_rfl) (by kernel_rfl) (by kernel_rfl) (by kernel_rfl)).1) ?F (fun _ _ _ _ _ z => z)
  case F =>
    intro w mg fa h Y KX G hmg
    have hT := (Ask.tabs_split4 Y (by kernel_rfl) (by kernel_rfl) (by kernel_rfl) (by kernel_rfl)).2
    refine' Ask.all_mk (Ta := 650) (Tb := 671) (Tc := 678) (Td := 819) KX G hmg hT ?hn ?ht ?a0 ?l0 ?c0 ?k0 ?a1 ?l1 ?c1 ?k1 ?a2 ?l2 ?c2 ?k2 ?a3 ?l3 ?c3 ?k3 ?a4 ?l4 ?c4 ?k4 ?a5 ?l5 ?c5 ?k5 ?a6 ?l6 ?c6 ?k6 ?a7 ?l7 ?c7 ?k7 ?a8 ?l8 ?c8 ?k8 ?am ?lm ?cm ?km ?ao ?lo ?co ?ko ?aas ?las ?cas ?kas ?aia ?lia ?cia ?kia ?ati ?lti ?cti ?kti ?ata ?lta ?cta ?kta ?aom ?lom ?com ?kom ?ari ?lri ?cri ?kri ?as1 ?ls1 ?cs1 ?ks1 ?as2 ?ls2 ?cs2 ?ks2 ?as3 ?ls3 ?cs3 ?ks3 ?as4 ?ls4 ?cs4 ?ks4 ?as5 ?ls5 ?cs5 ?ks5 ?as6 ?ls6 ?cs6 ?ks6 ?as7 ?ls7 ?cs7 ?ks7 ?as8 ?ls8 ?cs8 ?ks8 ?as9 ?ls9 ?cs9 ?ks9 ?at1 ?lt1 ?ct1 ?kt1 ?at2 ?lt2 ?ct2 ?kt2 ?at3 ?lt3 ?ct3 ?kt3 ?a9 ?l9 ?c9 ?k9 ?aB ?iB ?lB ?cB ?kB ?kcB ?saB ?xB ?vB ?gaB ?ggB ?eCB ?tCB ?tfB ?hCB ?nB0 ?aM ?iM ?lM ?cM ?kM ?kcM ?saM ?xM ?vM ?gaM ?ggM ?eCM ?tCM ?tfM ?hCM ?nM0 ?nM1 ?nM2 ?aT ?iT ?lT ?cT ?kT ?kcT ?saT ?xT ?vT ?gaT ?ggT ?eCT ?tCT ?tfT ?hCT ?nT0 ?aBa ?iBa ?lBa ?cBa ?kBa ?kcBa ?saBa ?xBa ?vBa ?gaBa ?ggBa ?eCBa ?tCBa ?tfBa ?hCBa ?nBa0 ?aTx ?iTx ?lTx ?cTx ?kTx ?kcTx ?saTx ?xTx ?vTx ?gaTx ?ggTx ?eCTx ?tCTx ?tfTx ?hCTx ?nTx0 ?nTx1 ?icTx ?esTx ?haTx ?hmTx ?aZ ?exZ ?kcZ ?eCZ ?tCZ ?aN0 ?exN0 ?kcN0 ?eCN0 ?tCN0 ?aL ?kcL ?saL ?pgL ?hdL ?poL ?mkL ?nL0 ?icL ?haL ?hmL ?iL ?lL ?cL ?kL ?isL ?iH ?lH ?cH ?kH ?isH ?iR ?lR ?cR ?kR ?isR ?iQ ?lQ ?cQ ?kQ ?isQ ?aS ?kcS ?saS ?pgS ?hdS ?poS ?mkS ?nS0 ?nS1 ?nS2 ?nS3 ?icS ?haS ?hmS ?iS ?lS ?cS ?kS ?dTS ?dUS ?isS ?iA ?lA ?cA ?kA ?isA ?iSr ?lSr ?cSr ?kSr ?isSr ?aI ?kcI ?saI ?pgI ?hdI ?poI ?mkI ?nI0 ?nI1 ?nI2 ?nI3 ?icI ?haI ?hmI ?iI ?lI ?cI ?kI ?dTI ?dUI ?isI ?iLE ?lLE ?cLE ?kLE ?isLE ?iLS ?lLS ?cLS ?kLS ?isLS ?neSI ?tcS ?suSI ?neIS ?tcI ?suIS ?aRD ?kcRD ?saRD ?pgRD ?hdRD ?poRD ?mkRD ?nRD0 ?nRD1 ?nRD2 ?iD0 ?lD0 ?cD0 ?kD0 ?isD0 ?iD1 ?lD1 ?cD1 ?kD1 ?isD1 ?iD2 ?lD2 ?cD2 ?kD2 ?isD2 ?iD3 ?lD3 ?cD3 ?kD3 ?isD3 ?iD4 ?lD4 ?cD4 ?kD4 ?isD4 ?iD5 ?lD5 ?cD5 ?kD5 ?isD5 ?g_gS ?g_gW ?g_gM ?g_gL ?g_gB ?gl_gB ?gc_gB ?gd_gB ?gs_gB ?gv_gB ?g_gK ?gl_gK ?gc_gK ?gd_gK ?gs_gK ?gv_gK ?g_gN ?gl_gN ?gc_gN ?gd_gN ?gs_gN ?gv_gN ?g_gJ ?gl_gJ ?gc_gJ ?gd_gJ ?gs_gJ ?gv_gJ ?g_gA ?z0 ?z1 ?z2 ?z3 ?z4 ?z5 ?z6 ?z7 ?z8 ?z9 ?z10 ?z11 ?z12 ?z13 ?z14 ?xS ?vS ?xNS ?xAS ?xBS ?xCS ?xDS ?xI ?vI ?xNI ?xAI ?xBI ?xCI ?xDI ?hcD4 ?hd_D4 ?hn_D4 ?hcti ?hd_ti ?hn_ti ?hcta ?hd_ta ?hn_ta ?hc9 ?hd_9 ?hn_9 ?ndT
    (case hn => k_is)
    (case ht => k_is)
    (case a0 => k_is)
    (case l0 => k_is)
    (case c0 => k_is)
    (case k0 => k_is)
    (case a1 => k_is)
    (case l1 => k_is)
    (case c1 => k_is)
    (case k1 => k_is)
    (case a2 => k_is)
    (case l2 => k_is)
    (case c2 => k_is)
    (case k2 => k_is)
    (case a3 => k_is)
    (case l3 => k_is)
    (case c3 => k_is)
    (case k3 => k_is)
    (case a4 => k_is)
    (case l4 => k_is)
    (case c4 => k_is)
    (case k4 => k_is)
    (case a5 => k_is)
    (case l5 => k_is)
    (case c5 => k_is)
    (case k5 => k_is)
    (case a6 => k_is)
    (case l6 => k_is)
    (case c6 => k_is)
    (case k6 => k_is)
    (case a7 => k_is)
    (case l7 => k_is)
    (case c7 => k_is)
    (case k7 => k_is)
    (case a8 => k_is)
    (case l8 => k_is)
    (case c8 => k_is)
    (case k8 => k_is)
    (case am => k_is)
    (case lm => k_is)
    (case cm => k_is)
    (case km => k_is)
    (case ao => k_is)
    (case lo => k_is)
    (case co => k_is)
    (case ko => k_is)
    (case aas => k_is)
    (case las => k_is)
    (case cas => k_is)
    (case kas => k_is)
    (case aia => k_is)
    (case lia => k_is)
    (case cia => k_is)
    (case kia => k_is)
    (case ati => k_is)
    (case lti => k_is)
    (case cti => k_is)
    (case kti => k_is)
    (case ata => k_is)
    (case lta => k_is)
    (case cta => k_is)
    (case kta => k_is)
    (case aom => k_is)
    (case lom => k_is)
    (case com => k_is)
    (case kom => k_is)
    (case ari => k_is)
    (case lri => k_is)
    (case cri => k_is)
    (case kri => k_is)
    (case as1 => k_is)
    (case ls1 => k_is)
    (case cs1 => k_is)
    (case ks1 => k_is)
    (case as2 => k_is)
    (case ls2 => k_is)
    (case cs2 => k_is)
    (case ks2 => k_is)
    (case as3 => k_is)
    (case ls3 => k_is)
    (case cs3 => k_is)
    (case ks3 => k_is)
    (case as4 => k_is)
    (case ls4 => k_is)
    (case cs4 => k_is)
    (case ks4 => k_is)
    (case as5 => k_is)
    (case ls5 => k_is)
    (case cs5 => k_is)
    (case ks5 => k_is)
    (case as6 => k_is)
    (case ls6 => k_is)
    (case cs6 => k_is)
    (case ks6 => k_is)
    (case as7 => k_is)
    (case ls7 => k_is)
    (case cs7 => k_is)
    (case ks7 => k_is)
    (case as8 => k_is)
    (case ls8 => k_is)
    (case cs8 => k_is)
    (case ks8 => k_is)
    (case as9 => k_is)
    (case ls9 => k_is)
    (case cs9 => k_is)
    (case ks9 => k_is)
    (case at1 => k_is)
    (case lt1 => k_is)
    (case ct1 => k_is)
    (case kt1 => k_is)
    (case at2 => k_is)
    (case lt2 => k_is)
    (case ct2 => k_is)
    (case kt2 => k_is)
    (case at3 => k_is)
    (case lt3 => k_is)
    (case ct3 => k_is)
    (case kt3 => k_is)
    (case a9 => k_is)
    (case l9 => k_is)
    (case c9 => k_is)
    (case k9 => k_is)
    (case aB => k_is)
    (case iB => k_is)
    (case lB => k_is)
    (case cB => k_is)
    (case kB => k_is)
    (case kcB => k_is)
    (case saB => k_is)
    (case xB => k_is)
    (case vB => rfl)
    (case gaB => k_is)
    (case ggB => k_is)
    (case eCB => k_is)
    (case tCB => k_is)
    (case tfB => k_is)
    (case hCB => k_is)
    (case nB0 => k_is)
    (case aM => k_is)
    (case iM => k_is)
    (case lM => k_is)
    (case cM => k_is)
    (case kM => k_is)
    (case kcM => k_is)
    (case saM => k_is)
    (case xM => k_is)
    (case vM => rfl)
    (case gaM => k_is)
    (case ggM => k_is)
    (case eCM => k_is)
    (case tCM => k_is)
    (case tfM => k_is)
    (case hCM => k_is)
    (case nM0 => k_is)
    (case nM1 => k_is)
    (case nM2 => k_is)
    (case aT => k_is)
    (case iT => k_is)
    (case lT => k_is)
    (case cT => k_is)
    (case kT => k_is)
    (case kcT => k_is)
    (case saT => k_is)
    (case xT => k_is)
    (case vT => rfl)
    (case gaT => k_is)
    (case ggT => k_is)
    (case eCT => k_is)
    (case tCT => k_is)
    (case tfT => k_is)
    (case hCT => k_is)
    (case nT0 => k_is)
    (case aBa => k_is)
    (case iBa => k_is)
    (case lBa => k_is)
    (case cBa => k_is)
    (case kBa => k_is)
    (case kcBa => k_is)
    (case saBa => k_is)
    (case xBa => k_is)
    (case vBa => rfl)
    (case gaBa => k_is)
    (case ggBa => k_is)
    (case eCBa => k_is)
    (case tCBa => k_is)
    (case tfBa => k_is)
    (case hCBa => k_is)
    (case nBa0 => k_is)
    (case aTx => k_is)
    (case iTx => k_is)
    (case lTx => k_is)
    (case cTx => k_is)
    (case kTx => k_is)
    (case kcTx => k_is)
    (case saTx => k_is)
    (case xTx => k_is)
    (case vTx => rfl)
    (case gaTx => k_is)
    (case ggTx => k_is)
    (case eCTx => k_is)
    (case tCTx => k_is)
    (case tfTx => k_is)
    (case hCTx => k_is)
    (case nTx0 => k_is)
    (case nTx1 => k_is)
    (case icTx => k_is)
    (case esTx => k_is)
    (case haTx => k_is)
    (case hmTx => k_is)
    (case aZ => k_is)
    (case exZ => k_exc)
    (case kcZ => k_is)
    (case eCZ => k_is)
    (case tCZ => k_is)
    (case aN0 => k_is)
    (case exN0 => k_exc)
    (case kcN0 => k_is)
    (case eCN0 => k_is)
    (case tCN0 => k_is)
    (case aL => k_is)
    (case kcL => k_is)
    (case saL => k_is)
    (case pgL => k_is)
    (case hdL => k_is)
    (case poL => k_is)
    (case mkL => k_is)
    (case nL0 => k_is)
    (case icL => k_is)
    (case haL => k_is)
    (case hmL => k_is)
    (case iL => k_is)
    (case lL => k_is)
    (case cL => k_is)
    (case kL => k_is)
    (case isL => k_is)
    (case iH => k_is)
    (case lH => k_is)
    (case cH => k_is)
    (case kH => k_is)
    (case isH => k_is)
    (case iR => k_is)
    (case lR => k_is)
    (case cR => k_is)
    (case kR => k_is)
    (case isR => k_is)
    (case iQ => k_is)
    (case lQ => k_is)
    (case cQ => k_is)
    (case kQ => k_is)
    (case isQ => k_is)
    (case aS => k_is)
    (case kcS => k_is)
    (case saS => k_is)
    (case pgS => k_is)
    (case hdS => k_is)
    (case poS => k_is)
    (case mkS => k_is)
    (case nS0 => k_is)
    (case nS1 => k_is)
    (case nS2 => k_is)
    (case nS3 => k_is)
    (case icS => k_is)
    (case haS => k_is)
    (case hmS => k_is)
    (case iS => k_is)
    (case lS => k_is)
    (case cS => k_is)
    (case kS => k_is)
    (case dTS => k_is)
    (case dUS => rfl)
    (case isS => k_is)
    (case iA => k_is)
    (case lA => k_is)
    (case cA => k_is)
    (case kA => k_is)
    (case isA => k_is)
    (case iSr => k_is)
    (case lSr => k_is)
    (case cSr => k_is)
    (case kSr => k_is)
    (case isSr => k_is)
    (case aI => k_is)
    (case kcI => k_is)
    (case saI => k_is)
    (case pgI => k_is)
    (case hdI => k_is)
    (case poI => k_is)
    (case mkI => k_is)
    (case nI0 => k_is)
    (case nI1 => k_is)
    (case nI2 => k_is)
    (case nI3 => k_is)
    (case icI => k_is)
    (case haI => k_is)
    (case hmI => k_is)
    (case iI => k_is)
    (case lI => k_is)
    (case cI => k_is)
    (case kI => k_is)
    (case dTI => k_is)
    (case dUI => rfl)
    (case isI => k_is)
    (case iLE => k_is)
    (case lLE => k_is)
    (case cLE => k_is)
    (case kLE => k_is)
    (case isLE => k_is)
    (case iLS => k_is)
    (case lLS => k_is)
    (case cLS => k_is)
    (case kLS => k_is)
    (case isLS => k_is)
    (case neSI => decide)
    (case tcS => k_is)
    (case suSI => k_is)
    (case neIS => decide)
    (case tcI => k_is)
    (case suIS => k_is)
    (case aRD => k_is)
    (case kcRD => k_is)
    (case saRD => k_is)
    (case pgRD => k_is)
    (case hdRD => k_is)
    (case poRD => k_is)
    (case mkRD => k_is)
    (case nRD0 => k_is)
    (case nRD1 => k_is)
    (case nRD2 => k_is)
    (case iD0 => k_is)
    (case lD0 => k_is)
    (case cD0 => k_is)
    (case kD0 => k_is)
    (case isD0 => k_is)
    (case iD1 => k_is)
    (case lD1 => k_is)
    (case cD1 => k_is)
    (case kD1 => k_is)
    (case isD1 => k_is)
    (case iD2 => k_is)
    (case lD2 => k_is)
    (case cD2 => k_is)
    (case kD2 => k_is)
    (case isD2 => k_is)
    (case iD3 => k_is)
    (case lD3 => k_is)
    (case cD3 => k_is)
    (case kD3 => k_is)
    (case isD3 => k_is)
    (case iD4 => k_is)
    (case lD4 => k_is)
    (case cD4 => k_is)
    (case kD4 => k_is)
    (case isD4 => k_is)
    (case iD5 => k_is)
    (case lD5 => k_is)
    (case cD5 => k_is)
    (case kD5 => k_is)
    (case isD5 => k_is)
    (case g_gS => k_is)
    (case g_gW => k_is)
    (case g_gM => k_is)
    (case g_gL => k_is)
    (case g_gB => k_is)
    (case gl_gB => k_is)
    (case gc_gB => rfl)
    (case gd_gB => rfl)
    (case gs_gB => decide)
    (case gv_gB => exact .cons ⟨_, rfl⟩ (.cons ⟨_, rfl⟩ (.nil)))
    (case g_gK => k_is)
    (case gl_gK => k_is)
    (case gc_gK => rfl)
    (case gd_gK => rfl)
    (case gs_gK => decide)
    (case gv_gK => exact .cons ⟨_, rfl⟩ (.cons ⟨_, rfl⟩ (.cons ⟨_, rfl⟩ (.cons ⟨_, rfl⟩ (.cons ⟨_, rfl⟩ (.cons ⟨_, rfl⟩ (.nil)))))))
    (case g_gN => k_is)
    (case gl_gN => k_is)
    (case gc_gN => rfl)
    (case gd_gN => rfl)
    (case gs_gN => decide)
    (case gv_gN => exact .cons ⟨_, rfl⟩ (.cons ⟨_, rfl⟩ (.nil)))
    (case g_gJ => k_is)
    (case gl_gJ => k_is)
    (case gc_gJ => rfl)
    (case gd_gJ => rfl)
    (case gs_gJ => decide)
    (case gv_gJ => exact .cons ⟨_, rfl⟩ (.cons ⟨_, rfl⟩ (.cons ⟨_, rfl⟩ (.nil))))
    (case g_gA => k_is)
    (case z0 => k_is)
    (case z1 => k_is)
    (case z2 => k_is)
    (case z3 => k_is)
    (case z4 => k_is)
    (case z5 => k_is)
    (case z6 => k_is)
    (case z7 => k_is)
    (case z8 => k_is)
    (case z9 => k_is)
    (case z10 => k_is)
    (case z11 => k_is)
    (case z12 => k_is)
    (case z13 => k_is)
    (case z14 => k_is)
    (case xS => k_is)
    (case vS => rfl)
    (case xNS => k_is)
    (case xAS => rfl)
    (case xBS => exact Ask.strKeys_of rfl)
    (case xCS => rfl)
    (case xDS => rfl)
    (case xI => k_is)
    (case vI => rfl)
    (case xNI => k_is)
    (case xAI => rfl)
    (case xBI => exact Ask.strKeys_of rfl)
    (case xCI => rfl)
    (case xDI => rfl)
    (case hcD4 => rfl)
    (case hd_D4 => kernel_rfl)
    (case hn_D4 => kernel_rfl)
    (case hcti => rfl)
    (case hd_ti => kernel_rfl)
    (case hn_ti => kernel_rfl)
    (case hcta => rfl)
    (case hd_ta => kernel_rfl)
    (case hn_ta => kernel_rfl)
    (case hc9 => rfl)
    (case hd_9 => kernel_rfl)
    (case hn_9 => kernel_rfl)
    (case ndT => decide)
