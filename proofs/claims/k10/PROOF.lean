import PyProof.Rows.All
import Wide.All
import OpenK.AllK
import Wide.FinOn
import HandS.ForMost
import HandS.Exc
import HandS.TryOnly
import HandS.ExcInit
import HandS.IsInst
import HandS.Style
import HandS.Wide
import HandS.Deep
import HandS.Walk
import HandS.ExcField
import HandS.WordsExc
import HandS.Flow
import KE.GoesEnum
import PyProof.ReprRoads
import HandS.ExcOwn
import HandS.List
import HandS.OwnEq
import PyProof.InstNe
import PyProof.EqKinds
import KE.KExcIs
import HandS.Strs
import HandS.TupLe
import HandS.TupAny
import HandS.Defaults
import HandS.Base
import HandS.Call
import HandS.EndTab
import KE.KeyNested
import PyProof.DictRoadsH
import PyProof.DictMoreH
import HandS.DictTup
import HandS.DictComp
import HandS.More
import HandS.Star
import HandS.Dict
import HandS.CallSlots
import PyProof.ReprLen
import PyProof.Rows.StrJoinMade
import PyProof.P3Eq
import KE.OsRunLaw
import PySem.Challenge.RW_asksmore_k10_one_sentence_closed
set_option Elab.async false
set_option linter.all false
set_option maxRecDepth 100000
set_option maxHeartbeats 4000000
section
open PySem PySem.W PyProof.Rows
set_option maxHeartbeats 0
/-- the program's text with the law's def alone: what the walk looks at stands in K -/
def Ask.lawQ : Program := { PySem.Challenge.rw_asksmore_k10_one_sentence_closed.row.toRowW.1 with main := { PySem.Challenge.rw_asksmore_k10_one_sentence_closed.row.toRowW.1.main with body := PySem.Challenge.rw_asksmore_k10_one_sentence_closed.row.toRowW.1.main.body.drop 79 } }
def Ask.looseQ : List PySem.Str := [Str.ofString "heappop", Str.ofString "heappush", Str.ofString "_wall", Str.ofString "__name__", Str.ofString "SMALL_LETTERS", Str.ofString "WORD_SIGNS", Str.ofString "MOST_SIGNS", Str.ofString "is_whole", Str.ofString "is_list_of", Str.ofString "is_short_word", Str.ofString "copied", Str.ofString "AsksError", Str.ofString "BadLetters", Str.ofString "BadLetter", Str.ofString "BadBeginning", Str.ofString "BadRuns", Str.ofString "BadCount", Str.ofString "BadPlace", Str.ofString "BadKind", Str.ofString "SaysNothing", Str.ofString "BadTold", Str.ofString "NotLive", Str.ofString "TooLong", Str.ofString "TooMany", Str.ofString "BEGINNINGS", Str.ofString "MOST_LETTERS", Str.ofString "is_letter", Str.ofString "Letters", Str.ofString "joined", Str.ofString "spliced", Str.ofString "parted", Str.ofString "size_of", Str.ofString "MOST_COUNT", Str.ofString "MOST_RUNS", Str.ofString "MOST_SPELLED", Str.ofString "is_beginning", Str.ofString "require_beginning", Str.ofString "require_count", Str.ofString "require_runs", Str.ofString "extended", Str.ofString "CheckedRuns", Str.ofString "History", Str.ofString "KINDS", Str.ofString "LONE_KINDS", Str.ofString "is_due", Str.ofString "sides", Str.ofString "one_form", Str.ofString "side_of", Str.ofString "Sentence", Str.ofString "sides_of", Str.ofString "kind_between", Str.ofString "way_back", Str.ofString "steps_between", Str.ofString "Completion", Str.ofString "completed", Str.ofString "MOST_SENTENCES", Str.ofString "close", Str.ofString "require_few", Str.ofString "told_behind", Str.ofString "Closing", Str.ofString "_law_pen", Str.ofString "_law_draw", Str.ofString "_law_pick", Str.ofString "_law_letters", Str.ofString "_law_normal", Str.ofString "_law_triple", Str.ofString "_law_sentence", Str.ofString "_law_drawn", Str.ofString "_law_form", Str.ofString "_law_pair_told", Str.ofString "_law_still_told", Str.ofString "_law_answers_right"]
local macro_rules | `(tactic| k_head) => `(tactic| k_headL)
local macro_rules | `(tactic| o_headL ($f $K $A $e)) => `(tactic| (
    refine holds_open (q := Ask.lawQ) (loose := Ask.looseQ)
      (Xt := fun s => recOk (RowW.records PySem.Challenge.rw_asksmore_k10_one_sentence_closed.row.toRowW) s) (XP := fun _ _ => True)
      (Yf := Hook.obs (PySem.W.kHook (fun P => $K P) ($A) $e))
      (Ya := Hook.val (PySem.W.kHook (fun P => $K P) ($A) $e))
      (YP := Hook.says (PySem.W.kHook (fun P => $K P) ($A) $e))
      (N := 15826) ?hl (Hook.of (PySem.W.kHook (fun P => $K P) ($A) $e))
      (Hook.keeps (PySem.W.kHook (fun P => $K P) ($A) $e))
      (fun _ _ => trivial) (fun _ _ _ _ _ => trivial) (by rfl) (by rfl) (by rfl) (fun s e => recFacts_of e) (by rfl)
      (by decide +kernel) (by decide +kernel) ⟨rfl, rfl, rfl, rfl, rfl, by decide +kernel⟩ ?hw ?hc
    (case hl =>
      refine HeadRun.left_impK ?_
      intro w
      kernel_rfl)))
open_top headK10 for PySem.Challenge.rw_asksmore_k10_one_sentence_closed
end
namespace Ask
open PySem L2
def top (i : Nat) : Stmt := PySem.Challenge.pw_asksmore_k10_one_sentence_closed.main.body.getD i (.Pass ⟨0, 0, 0, 0⟩)
/-- the built-in names that the text calls -/
structure Blt (mg : Str → Option Value) : Prop where
  n_int : mg "int" = none
  n_len : mg "len" = none
  n_abs : mg "abs" = none
  n_list : mg "list" = none
  n_range : mg "range" = none
  n_min : mg "min" = none
  n_str : mg "str" = none
  n_isinstance : mg "isinstance" = none
  n_all : mg "all" = none
  n_enumerate : mg "enumerate" = none
  n_tuple : mg "tuple" = none
  n_repr : mg "repr" = none
/-- all but what stands at p is as it was -/
def Kp (p : Addr) (H H' : Hp) : Prop := ∀ b o, b ≠ p → H b = some o → H' b = some o
theorem Kp.refl (p : Addr) (H : Hp) : Kp p H H := fun _ _ _ h => h
theorem Kp.trans {p : Addr} {H H1 H2 : Hp} (a : Kp p H H1) (b : Kp p H1 H2) : Kp p H H2 := fun c o n h => b c o n (a c o n h)
theorem Kp.upd (p : Addr) (H : Hp) (o : HO) : Kp p H (upd H p o) := fun b u n h => by rw [upd_ne n]; exact h
theorem Kp.of {p : Addr} {H H' : Hp} (s : Same H H') : Kp p H H' := fun b o _ h => s b o h
theorem Kp.new {p q : Addr} {H H' : Hp} {o : HO} (k : Kp p H H') (h : H' q = none) : Kp p H (L2.upd H' q o) := fun b u n e => by
  rw [upd_ne (ne_of_none (k b u n e) h)]
  exact k b u n e
theorem kLC : ¬ ((Sum.inr ("left" : Str) : Key) = Sum.inr ("cells" : Str)) := by decide +kernel
theorem kLB : ¬ ((Sum.inr ("left" : Str) : Key) = Sum.inr ("begun" : Str)) := by decide +kernel
theorem kBC : ¬ ((Sum.inr ("begun" : Str) : Key) = Sum.inr ("cells" : Str)) := by decide +kernel
/-- what a pen holds -/
def pk (c : Addr) (b l : Int) : List (Key × V) := [(Sum.inr ("cells" : Str), .ref c), (Sum.inr ("begun" : Str), .int b), (Sum.inr ("left" : Str), .int l)]
theorem pk_cells (c : Addr) (b l : Int) : valV (pk c b l) (Sum.inr ("cells" : Str)) = some (.ref c) := valV_pos rfl
theorem pk_begun (c : Addr) (b l : Int) : valV (pk c b l) (Sum.inr ("begun" : Str)) = some (.int b) :=
  (valV_neg (fun z => kBC z.symm)).trans (valV_pos rfl)
theorem pk_left (c : Addr) (b l : Int) : valV (pk c b l) (Sum.inr ("left" : Str)) = some (.int l) :=
  (valV_neg (fun z => kLC z.symm)).trans ((valV_neg (fun z => kLB z.symm)).trans (valV_pos rfl))
theorem pk_putL (c : Addr) (b l m : Int) : putK (pk c b l) (Sum.inr ("left" : Str)) (.int m) = pk c b m := by
  unfold putK pk
  have e : (([(Sum.inr ("cells" : Str), .ref c), (Sum.inr ("begun" : Str), .int b), (Sum.inr ("left" : Str), .int l)] : List (Key × V)).any fun kv => decide (kv.1 = Sum.inr ("left" : Str))) = true := by simp
  rw [if_pos e]
  simp only [List.map_cons, List.map_nil]
  rw [if_neg (fun z => kLC z.symm), if_neg (fun z => kLB z.symm)]
  rfl
theorem pk_putB (c : Addr) (b l m : Int) : putK (pk c b l) (Sum.inr ("begun" : Str)) (.int m) = pk c m l := by
  unfold putK pk
  have e : (([(Sum.inr ("cells" : Str), .ref c), (Sum.inr ("begun" : Str), .int b), (Sum.inr ("left" : Str), .int l)] : List (Key × V)).any fun kv => decide (kv.1 = Sum.inr ("begun" : Str))) = true := by simp
  rw [if_pos e]
  simp only [List.map_cons, List.map_nil]
  rw [if_neg (fun z => kBC z.symm), if_neg kLB]
  rfl
/-- at p a pen over the cells ns at c, of which at most B were begun -/
def Pen (c : Addr) (ns : List Int) (H : Hp) (p : Addr) (B : Nat) : Prop := ∃ (b l : Int), H p = some (.dK (pk c b l)) ∧ H c = some (.lst (ns.map V.int)) ∧ ns.length ≤ 63 ∧ 0 ≤ b ∧ b ≤ (B : Int)
/-- from H0 to H all but the pen stands as it stood, and the pen is a pen -/
structure Go (p c : Addr) (ns : List Int) (H0 H : Hp) (B : Nat) : Prop where
  kp : Kp p H0 H
  pen : Pen c ns H p B
  base : ∃ A, Pen c ns H0 p A
section
variable {p c q a : Addr} {ns : List Int} {H0 H H' : Hp} {A B : Nat} {o : HO} {xs : List V} {K : PySem.W.Frag}
theorem Pen.mono (h : Pen c ns H p A) (le : A ≤ B) : Pen c ns H p B := by
  obtain ⟨b, l, h1, h2, h3, h4, h5⟩ := h
  exact ⟨b, l, h1, h2, h3, h4, by omega⟩
theorem Pen.at (h : Pen c ns H p A) : ∃ o, H p = some o := by
  obtain ⟨b, l, h1, _⟩ := h
  exact ⟨_, h1⟩
theorem Pen.upd (h : Pen c ns H p A) (h1 : q ≠ p) (h2 : q ≠ c) : Pen c ns (L2.upd H q o) p A := by
  obtain ⟨b, l, e1, e2, e3⟩ := h
  exact ⟨b, l, by rw [upd_ne h1.symm]; exact e1, by rw [upd_ne h2.symm]; exact e2, e3⟩
theorem Go.refl (h : Pen c ns H p B) : Go p c ns H H B := ⟨Kp.refl p H, h, B, h⟩
theorem Go.step (g : Go p c ns H0 H A) (g' : Go p c ns H H' B) : Go p c ns H0 H' B := ⟨g.kp.trans g'.kp, g'.pen, g.base⟩
theorem Go.mono (g : Go p c ns H0 H A) (le : A ≤ B) : Go p c ns H0 H B := ⟨g.kp, g.pen.mono le, g.base⟩
/-- fresh later is fresh before -/
theorem Go.free (g : Go p c ns H0 H B) (n : H q = none) : H0 q = none := by
  by_cases e : q = p
  · subst e
    obtain ⟨o, z⟩ := g.pen.at
    rw [z] at n
    cases n
  · cases z : H0 q with
    | none => rfl
    | some o =>
      rw [g.kp q o e z] at n
      cases n
theorem Go.ne (g : Go p c ns H0 H B) (n : H0 q = none) : q ≠ p ∧ q ≠ c := by
  obtain ⟨A, b, l, h1, h2, _⟩ := g.base
  refine ⟨fun e => ?_, fun e => ?_⟩
  · rw [e, h1] at n
    cases n
  · rw [e, h2] at n
    cases n
/-- what H0 did not know may change -/
theorem Go.mut (g : Go p c ns H0 H B) (n : H0 q = none) : Go p c ns H0 (upd H q o) B :=
  ⟨fun b u e z => by
    rw [upd_ne (ne_of_none z n)]
    exact g.kp b u e z, g.pen.upd (g.ne n).1 (g.ne n).2, g.base⟩
theorem Go.new (g : Go p c ns H0 H B) (n : H q = none) : Go p c ns H0 (upd H q o) B := g.mut (g.free n)
theorem Go.same (g : Go p c ns H0 H B) (s : Same H H') : Go p c ns H0 H' B := by
  obtain ⟨b, l, h1, h2, h3⟩ := g.pen
  exact ⟨g.kp.trans (Kp.of s), ⟨b, l, s _ _ h1, s _ _ h2, h3⟩, g.base⟩
theorem Go.at (g : Go p c ns H0 H B) (e : H0 a = some o) (d : ∀ kvs, o ≠ .dK kvs) : H a = some o := by
  obtain ⟨A, b, l, h1, _⟩ := g.base
  exact g.kp _ _ (ne_of e h1 (d _)) e
theorem Go.lst (g : Go p c ns H0 H B) (e : H0 a = some (.lst xs)) : H a = some (.lst xs) := g.at e (by intro _ z; cases z)
theorem Go.tup (g : Go p c ns H0 H B) (e : H0 a = some (.tup xs)) : H a = some (.tup xs) := g.at e (by intro _ z; cases z)
theorem Go.seq (g : Go p c ns H0 H B) (q : SqL K H0 a xs) : SqL K H a xs := by
  rcases q with (q | ⟨o, q⟩) | q
  · exact .inl (.inl (g.lst q))
  · exact .inl (.inr ⟨o, g.at q (by intro _ z; cases z)⟩)
  · exact .inr q
end

/-- x = a if c else b, its two ways met -/
theorem seqIf_cut {t : TT} {ta tb : TE} {g : TG} {u : TS} {D : Ends} {σ : L2.St} {H : Hp} (Pv : V → Hp → Prop) (h : ∀ Q' : VK, (∀ v H', Pv v H' → Q' v H') → tIf t ta tb σ H Q') (hq : ∀ v H', Pv v H' → g v σ H' (u D)) :
    tSeq (tAsg (tIf t ta tb) g) u D σ H := h _ hq
/-- if c: body, the ways past it met -/
theorem seqIfS_cut {c : TT} {t v u : TS} {D : Ends} {σ : L2.St} {H : Hp} (hn : u D σ H) (h : ∀ N : L2.St → Hp → Prop, N σ H → tIfS c t v { D with nx := N } σ H) : tSeq (tIfS c t v) u D σ H := h (u D) hn

/-! ### the draw -/
def spDraw : Sp := fun vs H Q _ => ∃ (p c : Addr) (ns : List Int) (m : Int) (B : Nat), vs = [.ref p, .int m] ∧ Pen c ns H p B ∧ B ≤ 1000000000 ∧ 0 < m ∧ m < 1073741824 ∧
  ∀ (H' : Hp) (r : Int), Go p c ns H H' (B + 1) → 0 ≤ r → r < m → Q (.int r) H'
section
variable {P : Program} {w : World} {K : PySem.W.Frag} {mg : Str → Option Value} {base : Heap}
abbrev s__law_draw : Stmt := top 68
theorem sc__law_draw : FnScope ["_law_pen_here", "_law_many", "_law_digit", "_law_place", "_law_size", "_law_told", "_law_blend"] ["_law_pen_here", "_law_many"] (defScope s__law_draw) := ⟨rfl, rfl, rfl, by decide +kernel, rfl, by decide +kernel, by decide +kernel⟩
theorem div_ok {i j : Int} (h : 0 < j) (h2 : j < 1073741824) : CDivW i j := wide_div (b := 30) h (by omega) (by decide) (by decide)
theorem mul_small {i j : Int} (h : -(2 ^ 64) < i ∧ i < 2 ^ 64) : CMul i j := .inl h
theorem ok_draw {f : Addr} {fd : FuncData} (F : Fun K "_law_draw" "_law_draw" s__law_draw f fd) (T : Blt mg) : FnOk P w K mg base CX0 1 f fd ["_law_pen_here", "_law_many"] spDraw := by
  refine F.ok sc__law_draw (fun vs H Q E h => ?_) (fun cdv A outer s H vs Q E hr h => ?_)
  · obtain ⟨p, c, ns, m, B, rfl, _⟩ := h
    rfl
  · obtain ⟨p, c, ns, m, B, rfl, hpen, hB, hm0, hm1, k⟩ := h
    obtain ⟨b, l, hp, hc, hl, hb0, hbB⟩ := id hpen
    have hu := hu_of hr
    refine ⟨_, (pss_cons (ps_if (pt_cmpR op_gt (pe_dget hu (pv 0) pe_str (fun _ _ => rfl)) pe_int (nomark _)) (pss_cons (ps_set (i := 2) sc__law_draw.nd rfl (Or.inl rfl) (pe_op op_mod (pe_callTy call_int1 (by rfl) T.n_int (by decide +kernel) (pa_cons (pe_dget hu (pv 0) pe_str (fun _ _ => rfl)) pa_nil)) (pv 1)))
      (pss_cons (ps_dput hu (pv 0) pe_str (pe_op op_fdivW (pe_dget hu (pv 0) pe_str (fun _ _ => rfl)) (pv 1)) rfl)
      (pss_one (ps_ret (pv 2))))) pss_nil)
      (pss_cons (ps_par (i := 3) (j := 4) rfl sc__law_draw.nd rfl rfl (by decide) rfl rfl (pa_cons (pe_dget hu (pv 0) pe_str (fun _ _ => rfl)) (pa_cons (pe_callB call_len_seq (by rfl) T.n_len (by decide +kernel) (pa_cons (pe_dget hu (pv 0) pe_str (fun _ _ => rfl)) pa_nil)) pa_nil)) (by rfl))
      (pss_cons (ps_dput hu (pv 0) pe_str (pe_op op_add (pv 3) pe_int) rfl)
      (pss_cons (ps_set (i := 5) sc__law_draw.nd rfl (Or.inl rfl) (pe_ifExp (pt_cmpR op_gt (pv 4) pe_int (nomark _)) (pe_ix ix_list (pe_dget hu (pv 0) pe_str (fun _ _ => rfl)) (pe_op op_mod (pe_callTy call_int1 (by rfl) T.n_int (by decide +kernel) (pa_cons (pv 3) pa_nil)) (pv 4)) (fun _ _ => rfl)) (pe_op op_add (pe_op op_mul pe_int (pv 3)) pe_int)))
      (pss_cons (ps_if (PW.pt (pw_and (pt_cmpR op_lt (pv 3) (pv 4) (nomark _)) (pw_and1 (pt_cmpR op_ge (pe_callB call_abs (by rfl) T.n_abs (by decide +kernel) (pa_cons (pv 5) pa_nil)) (pe_op op_pow pe_int pe_int) (nomark _))))) (pss_cons (ps_dput hu (pv 0) pe_str (pe_op op_fdivW (pe_op op_sub (pe_callB call_abs (by rfl) T.n_abs (by decide +kernel) (pa_cons (pv 5) pa_nil)) (pe_op op_pow pe_int pe_int)) (pv 1)) rfl)
      (pss_one (ps_ret (pe_op op_mod (pe_callTy call_int1 (by rfl) T.n_int (by decide +kernel) (pa_cons (pe_op op_sub (pe_callB call_abs (by rfl) T.n_abs (by decide +kernel) (pa_cons (pv 5) pa_nil)) (pe_op op_pow pe_int pe_int)) pa_nil)) (pv 1))))) pss_nil)
      (pss_cons (ps_set (i := 6) sc__law_draw.nd rfl (Or.inl rfl) (pe_op op_mod (pe_callTy call_int1 (by rfl) T.n_int (by decide +kernel) (pa_cons (pe_op op_add (pe_op op_add (pe_op op_mul (pe_op op_mod (pe_callTy call_int1 (by rfl) T.n_int (by decide +kernel) (pa_cons (pv 5) pa_nil)) pe_int) pe_int) (pe_op op_mul (pe_op op_mul pe_int (pv 3)) (pv 3))) pe_int) pa_nil)) pe_int))
      (pss_cons (ps_set (i := 6) sc__law_draw.nd rfl (Or.inl rfl) (pe_op op_mod (pe_callTy call_int1 (by rfl) T.n_int (by decide +kernel) (pa_cons (pe_op op_add (pe_op op_add (pe_op op_add (pe_op op_mul (pv 6) (pv 6)) (pe_op op_mul pe_int (pv 6))) (pe_op op_mul pe_int (pv 3))) pe_int) pa_nil)) pe_int))
      (pss_one (ps_ret (pe_op op_mod (pe_callTy call_int1 (by rfl) T.n_int (by decide +kernel) (pa_cons (pe_op op_fdivW (pe_op op_mod (pe_callTy call_int1 (by rfl) T.n_int (by decide +kernel) (pa_cons (pe_op op_mul (pv 6) (pe_op op_add (pv 6) pe_int)) pa_nil)) pe_int) pe_int) pa_nil)) (pv 1))))))))))), ?_⟩
    have gL : ∀ {H : Hp} {b l : Int}, H p = some (.dK (pk c b l)) → DGet H p (.str "left") (some (.int l)) := fun e => by
      have z := DGet.k (k := Sum.inr ("left" : Str)) e
      rw [pk_left] at z
      exact z
    have gB : ∀ {H : Hp} {b l : Int}, H p = some (.dK (pk c b l)) → DGet H p (.str "begun") (some (.int b)) := fun e => by
      have z := DGet.k (k := Sum.inr ("begun" : Str)) e
      rw [pk_begun] at z
      exact z
    have gC : ∀ {H : Hp} {b l : Int}, H p = some (.dK (pk c b l)) → DGet H p (.str "cells") (some (.ref c)) := fun e => by
      have z := DGet.k (k := Sum.inr ("cells" : Str)) e
      rw [pk_cells] at z
      exact z
    have three : ∀ b l : Int, (pk c b l).length < sizeLine := fun b l => by show 3 < sizeLine; decide
    have pL : ∀ {H : Hp} {b l : Int} (m : Int), H p = some (.dK (pk c b l)) → DPut H p (.str "left") (.int m) (upd H p (.dK (pk c b m))) := fun m e => by
      have z := DPut.k (k := Sum.inr ("left" : Str)) (v := .int m) e (three _ _)
      rw [pk_putL] at z
      exact z
    have pB : ∀ {H : Hp} {b l : Int} (m : Int), H p = some (.dK (pk c b l)) → DPut H p (.str "begun") (.int m) (upd H p (.dK (pk c m l))) := fun m e => by
      have z := DPut.k (k := Sum.inr ("begun" : Str)) (v := .int m) e (three _ _)
      rw [pk_putB] at z
      exact z
    have ncp : c ≠ p := ne_of hc hp (by intro z; cases z)
    -- if pen['left'] > 0
    refine ⟨_, rfl, p, _, rfl, gL hp, _, _, rfl, rfl, _, rfl, ?_⟩
    refine ite2 (fun h0 => ?_) (fun h0 => ?_)
    · -- digit = int(left) % many; left = left // many; return digit
      refine ⟨_, rfl, p, _, rfl, gL hp, .inl ⟨_, rfl, _, rfl, _, _, rfl, rfl, hm0, ?_⟩⟩
      refine ⟨_, rfl, p, _, rfl, gL hp, _, rfl, _, _, rfl, rfl, div_ok hm0 hm1, _, rfl, p, _, rfl, pL _ hp, ?_⟩
      refine ⟨_, rfl, ?_⟩
      refine k _ _ ⟨Kp.upd _ _ _, ⟨b, _, upd_same, by rw [upd_ne ncp]; exact hc, hl, hb0, by omega⟩, B, hpen⟩ (Int.emod_nonneg _ (by omega)) (Int.emod_lt_of_pos _ hm0)
    · -- place, size = begun, len(cells); begun = place + 1
      refine ⟨_, rfl, p, _, rfl, gB hp, _, rfl, p, _, rfl, gC hp, c, _, rfl, .inl (SqL.of hc), _, _, rfl, ?_⟩
      refine ⟨_, rfl, _, _, rfl, rfl, _, rfl, p, _, rfl, pB _ hp, ?_⟩
      have hp1 : upd H p (.dK (pk c (b + 1) l)) p = some (.dK (pk c (b + 1) l)) := upd_same
      have hc1 : upd H p (.dK (pk c (b + 1) l)) c = some (.lst (ns.map V.int)) := by rw [upd_ne ncp]; exact hc
      have k1 : Kp p H (upd H p (.dK (pk c (b + 1) l))) := Kp.upd _ _ _
      have pen1 : Pen c ns (upd H p (.dK (pk c (b + 1) l))) p (B + 1) := ⟨b + 1, l, hp1, hc1, hl, by omega, by omega⟩
      generalize upd H p (.dK (pk c (b + 1) l)) = H1 at hp1 hc1 k1 pen1 ⊢
      -- told: some int
      try dsimp only
      refine seqIf_cut (fun v H' => H' = H1 ∧ ∃ z, v = .int z) (fun Q' q' => ?_) (fun v H' hv => ?_)
      · refine ⟨_, rfl, _, _, rfl, rfl, _, rfl, ?_⟩
        refine ite2 (fun h1 => ?_) (fun h1 => ?_)
        · have h1 : (0 : Int) < ((ns.map V.int).length : Nat) := of_decide_eq_true h1
          rw [List.length_map] at h1
          have e0 : 0 ≤ b % (ns.length : Int) := Int.emod_nonneg _ (by omega)
          have e1 : b % (ns.length : Int) < (ns.length : Int) := Int.emod_lt_of_pos _ h1
          have e2 : (b % (ns.length : Int)).toNat < ns.length := by omega
          refine ⟨_, rfl, p, _, rfl, gC hp1, ?_⟩
          refine ⟨_, rfl, .inl ⟨_, rfl, _, rfl, _, _, rfl, rfl, (by rw [List.length_map]; exact h1), c, ns.map V.int, _, V.int ns[(b % (ns.length : Int)).toNat], rfl, rfl, SqL.of hc1, ?_, q' _ _ ⟨rfl, _, rfl⟩⟩⟩
          rw [List.length_map]
          refine at_of (j := (b % (ns.length : Int)).toNat) (by omega) ?_
          rw [List.getElem?_map, List.getElem?_eq_getElem e2]
          rfl
        · refine ⟨_, rfl, _, _, rfl, rfl, mul_small (by omega), _, _, rfl, rfl, q' _ _ ⟨rfl, _, rfl⟩⟩
      obtain ⟨rfl, z, rfl⟩ := hv
      refine seqIfS_cut ?_ (fun N q => ?_)
      · -- the blend
        have m0 := Int.emod_nonneg z (show (4294967279 : Int) ≠ 0 by decide)
        have m1 := Int.emod_lt_of_pos z (show (0 : Int) < 4294967279 by decide)
        refine ⟨_, rfl, .inl ⟨_, rfl, _, _, rfl, rfl, (by show (0 : Int) < _; decide), _, _, rfl, rfl, mul_small (by omega), ?_⟩⟩
        refine ⟨_, rfl, _, _, rfl, rfl, mul_small (by omega), _, rfl, _, _, rfl, rfl, mul_small (by omega), _, _, rfl, rfl, _, _, rfl, rfl, .inl ⟨_, rfl, _, _, rfl, rfl, (by show (0 : Int) < _; decide), ?_⟩⟩
        generalize hx : (z % 4294967279 * 44621 + 28657 * b * b + 1543) % 4294967291 = x
        have x0 : 0 ≤ x := by rw [← hx]; exact Int.emod_nonneg _ (by decide)
        have x1 : x < 4294967291 := by rw [← hx]; exact Int.emod_lt_of_pos _ (by decide)
        clear hx
        refine ⟨_, rfl, _, rfl, _, _, rfl, rfl, mul_small (by omega), _, rfl, _, _, rfl, rfl, mul_small (by omega), _, _, rfl, rfl, _, rfl, _, _, rfl, rfl, mul_small (by omega), _, _, rfl, rfl, _, _, rfl, rfl, .inl ⟨_, rfl, _, _, rfl, rfl, (by show (0 : Int) < _; decide), ?_⟩⟩
        generalize hy : (x * x + 66047 * x + 37 * b + 11) % 4294967231 = y
        have y0 : 0 ≤ y := by rw [← hy]; exact Int.emod_nonneg _ (by decide)
        have y1 : y < 4294967231 := by rw [← hy]; exact Int.emod_lt_of_pos _ (by decide)
        clear hy
        refine ⟨_, rfl, _, rfl, _, _, rfl, rfl, _, _, rfl, rfl, mul_small (by omega), .inl ⟨_, rfl, _, _, rfl, rfl, (by show (0 : Int) < _; decide), _, _, rfl, rfl, div_ok (by decide) (by decide), .inl ⟨_, rfl, _, rfl, _, _, rfl, rfl, hm0, ?_⟩⟩⟩
        exact k _ _ ⟨k1, pen1, B, hpen⟩ (Int.emod_nonneg _ (by omega)) (Int.emod_lt_of_pos _ hm0)
      · refine ⟨_, rfl, _, rfl, _, _, rfl, rfl, _, rfl, ?_⟩
        refine ite2 (fun h1 => ?_) (fun h1 => ?_)
        · refine ⟨_, rfl, _, rfl, _, _, rfl, rfl, (by refine ⟨by decide, by decide, by decide⟩), _, _, rfl, rfl, _, rfl, ?_⟩
          refine ite2 (fun h2 => ?_) (fun h2 => q)
          refine ⟨_, rfl, _, rfl, _, _, rfl, rfl, (by refine ⟨by decide, by decide, by decide⟩), _, _, rfl, rfl, _, rfl, _, _, rfl, rfl, div_ok hm0 hm1, _, rfl, p, _, rfl, pL _ hp1, ?_⟩
          refine ⟨_, rfl, _, rfl, _, _, rfl, rfl, (by refine ⟨by decide, by decide, by decide⟩), _, _, rfl, rfl, .inl ⟨_, rfl, _, rfl, _, _, rfl, rfl, hm0, ?_⟩⟩
          refine k _ _ ⟨k1.trans (Kp.upd _ _ _), ⟨b + 1, _, upd_same, by rw [upd_ne ncp]; exact hc1, hl, by omega, by omega⟩, B, hpen⟩ (Int.emod_nonneg _ (by omega)) (Int.emod_lt_of_pos _ hm0)
        · exact iteF q
end
end Ask

namespace Ask
open PySem L2
section
variable {P : Program} {w : World} {K : PySem.W.Frag} {mg : Str → Option Value} {base : Heap}
/-! ### the pen -/
def spPen (K : PySem.W.Frag) : Sp := fun vs H Q _ => ∃ (a : Addr) (ns : List Int), vs = [.ref a] ∧ SqL K H a (ns.map V.int) ∧ ns.length ≤ 63 ∧
  ∀ (H' : Hp) (p c : Addr), Same H H' → H p = none → Pen c ns H' p 0 → Q (.ref p) H'
abbrev s__law_pen : Stmt := top 67
theorem sc__law_pen : FnScope ["_law_script"] ["_law_script"] (defScope s__law_pen) := ⟨rfl, rfl, rfl, by decide +kernel, rfl, by decide +kernel, by decide +kernel⟩
theorem pk_made (c : Addr) (b l : Int) : mergeK [] [(Sum.inr ("cells" : Str), .ref c), (Sum.inr ("begun" : Str), .int b), (Sum.inr ("left" : Str), .int l)] = pk c b l := by
  have e1 : putK ([] : List (Key × V)) (Sum.inr ("cells" : Str)) (.ref c) = [(Sum.inr ("cells" : Str), .ref c)] := putK_new _ rfl
  have e2 : putK [((Sum.inr ("cells" : Str) : Key), V.ref c)] (Sum.inr ("begun" : Str)) (.int b) = [(Sum.inr ("cells" : Str), .ref c), (Sum.inr ("begun" : Str), .int b)] :=
    putK_new _ ((valV_neg (fun z => kBC z.symm)).trans rfl)
  have e3 : putK [((Sum.inr ("cells" : Str) : Key), V.ref c), (Sum.inr ("begun" : Str), .int b)] (Sum.inr ("left" : Str)) (.int l) = pk c b l :=
    putK_new _ ((valV_neg (fun z => kLC z.symm)).trans ((valV_neg (fun z => kLB z.symm)).trans rfl))
  unfold mergeK
  simp only [List.foldl_cons, List.foldl_nil]
  rw [e1, e2, e3]
theorem at_by {α : Type} {xs : List α} {z : Int} {j : Nat} {v : α} (e : z = (j : Int)) (h : xs[j]? = some v) : atI xs z = some v := by
  subst e
  exact atI_nat h
theorem cutV_whole (xs : List V) (n : Nat) (h : xs.length ≤ n) : cutV xs none (some (n : Int)) = xs := by
  unfold cutV
  rw [HT.sIx_none, HT.sIx_nat, List.drop_zero, Nat.sub_zero, Nat.min_eq_right h, List.take_length]
theorem ok_pen {f : Addr} {fd : FuncData} (F : Fun K "_law_pen" "_law_pen" s__law_pen f fd) (T : Blt mg) : FnOk P w K mg base CX0 1 f fd ["_law_script"] (spPen K) := by
  refine F.ok sc__law_pen (fun vs H Q E h => ?_) (fun cdv A outer s H vs Q E hr h => ?_)
  · obtain ⟨a, ns, rfl, _⟩ := h
    rfl
  · obtain ⟨a, ns, rfl, hS, hl, k⟩ := h
    refine ⟨_, (pss_one (ps_ret (pe_disp (pps_cons pe_str (pe_callTy call_list_of (by rfl) T.n_list (by decide +kernel) (pa_cons (pe_slice sl_list (pv 0) po_none (po_some pe_int)) pa_nil)) (pps_cons pe_str pe_int (pps_cons pe_str pe_int pps_nil))) (by rfl) (by rfl) (fun z => by cases z) (by decide)))), ?_⟩
    intro p hp
    have s0 : Same H (upd H p (.dK [])) := fun b o e => by rw [upd_ne (ne_of_none e hp)]; exact e
    refine ⟨_, rfl, _, rfl, a, _, rfl, s0.seq hS, fun q hq => ?_⟩
    rw [show cutV (ns.map V.int) none (some 63) = ns.map V.int from cutV_whole _ 63 (by rw [List.length_map]; exact hl)]
    refine ⟨q, _, rfl, .inl (SqL.of upd_same), fun c hc => ?_⟩
    have npq : p ≠ q := ne_of_none upd_same hq
    have hq0 : H q = none := by
      rw [upd_ne npq.symm] at hq
      exact hq
    have ncq : c ≠ q := fun e => by
      rw [e, upd_same] at hc
      cases hc
    have hc1 : upd H p (.dK []) c = none := by
      rw [upd_ne ncq] at hc
      exact hc
    have npc : p ≠ c := ne_of_none upd_same hc1
    have hc0 : H c = none := by
      rw [upd_ne npc.symm] at hc1
      exact hc1
    refine ⟨by rw [upd_ne npc, upd_ne npq, upd_same], [(Sum.inr ("cells" : Str), .ref c), (Sum.inr ("begun" : Str), .int 0), (Sum.inr ("left" : Str), .int 0)], rfl, (by show 3 ≤ 15; decide), ?_⟩
    rw [pk_made]
    refine k _ p c (fun b o e => ?_) hp ⟨0, 0, upd_same, by rw [upd_ne npc.symm, upd_same], hl, Int.le_refl _, Int.le_refl _⟩
    rw [upd_ne (ne_of_none e hp), upd_ne (ne_of_none e hc0), upd_ne (ne_of_none e hq0), upd_ne (ne_of_none e hp)]
    exact e

/-! ### the pick -/
def spPick (K : PySem.W.Frag) : Sp := fun vs H Q _ => ∃ (p c : Addr) (ns : List Int) (x : V) (B : Nat), vs = [.ref p, x] ∧ Pen c ns H p B ∧ B ≤ 1000000000 ∧
  ((∃ a xs, x = .ref a ∧ SqL K H a xs ∧ 0 < xs.length ∧ xs.length ≤ 1000 ∧ ∀ (H' : Hp) (v : V), Go p c ns H H' (B + 1) → v ∈ xs → Q v H') ∨
    (∃ z : Str, x = .str z ∧ 0 < z.length ∧ z.length ≤ 1000 ∧ ∀ (H' : Hp) (i : Nat), Go p c ns H H' (B + 1) → i ∈ z.cps.toList → Q (.str ⟨#[i]⟩) H'))
abbrev s__law_pick : Stmt := top 69
theorem sc__law_pick : FnScope ["_law_pen_here", "_law_options"] ["_law_pen_here", "_law_options"] (defScope s__law_pick) := ⟨rfl, rfl, rfl, by decide +kernel, rfl, by decide +kernel, by decide +kernel⟩
/-- a def of the text called by its name: where it stands, that it stays, how its arguments bind -/
structure At (K : PySem.W.Frag) (mg : Str → Option Value) (x : Str) (f : Addr) (fd : FuncData) (ps : List Str) : Prop where
  m : mg x = some (.ref f)
  k : PySem.W.keepIn K (.ref f) = true
  b : Binds K fd ps []
theorem ok_pick {f fD : Addr} {fd fdD : FuncData} (F : Fun K "_law_pick" "_law_pick" s__law_pick f fd) (T : Blt mg) (GD : FnOk P w K mg base CX0 1 fD fdD ["_law_pen_here", "_law_many"] spDraw) (D : At K mg "_law_draw" fD fdD ["_law_pen_here", "_law_many"]) :
    FnOk P w K mg base CX0 2 f fd ["_law_pen_here", "_law_options"] (spPick K) := by
  refine F.ok sc__law_pick (fun vs H Q E h => ?_) (fun cdv A outer s H vs Q E hr h => ?_)
  · obtain ⟨p, c, ns, x, B, rfl, _⟩ := h
    rfl
  · obtain ⟨p, c, ns, x, B, rfl, hpen, hB, h⟩ := h
    refine ⟨_, (pss_one (ps_ret (pe_ix ix_seq (pv 1) (pe_call GD hr (by rfl) D.m D.k D.b .nil pass0 (pa_cons (pv 0) (pa_cons (pe_callB call_len (by rfl) T.n_len (by decide +kernel) (pa_cons (pv 1) pa_nil)) pa_nil))) (fun _ _ => rfl)))), ?_⟩
    have sl : (1000 : Nat) ≤ sizeLine := by decide
    rcases h with ⟨a, xs, rfl, hS, h0, h1, k⟩ | ⟨z, rfl, h0, h1, k⟩
    · refine ⟨_, rfl, _, rfl, _, rfl, _, xs.length, rfl, .inl ⟨xs, hS, rfl⟩, p, c, ns, _, B, rfl, hpen, hB, by omega, by omega, fun H' r g r0 r1 => ?_⟩
      have hi : r.toNat < xs.length := by omega
      exact .inl ⟨a, xs, r, xs[r.toNat], rfl, rfl, g.seq hS, at_of (j := r.toNat) (by omega) (List.getElem?_eq_getElem hi), k H' _ g (List.getElem_mem hi)⟩
    · refine ⟨_, rfl, _, rfl, _, rfl, _, z.length, rfl, ⟨by omega, rfl⟩, p, c, ns, _, B, rfl, hpen, hB, by omega, by omega, fun H' r g r0 r1 => ?_⟩
      have hi : r.toNat < z.cps.toList.length := by
        have e : z.cps.toList.length = z.length := by simp [Str.length]
        omega
      exact .inr (.inr ⟨z, r, z.cps.toList[r.toNat], rfl, rfl, by omega, at_by (j := r.toNat) (by omega) (List.getElem?_eq_getElem hi), k H' _ g (List.getElem_mem hi)⟩)
end
end Ask

namespace Ask
open PySem L2
/-- if c: body else: other, its ways met in Mid -/
theorem seqIf_mid {c : TT} {t v u : TS} {D : Ends} {σ : L2.St} {H : Hp} (Mid : L2.St → Hp → Prop) (h : ∀ N : L2.St → Hp → Prop, (∀ σ' H', Mid σ' H' → N σ' H') → tIfS c t v { D with nx := N } σ H) (hq : ∀ σ' H', Mid σ' H' → u D σ' H') :
    tSeq (tIfS c t v) u D σ H := h (u D) hq
theorem len_sum1 : ∀ ys : List Str, (∀ y ∈ ys, y.length = 1) → (ys.map (·.length)).sum = ys.length
  | [], _ => rfl
  | y :: r, h => by
    rw [List.map_cons, List.sum_cons, List.length_cons, len_sum1 r (fun z hz => h z (List.mem_cons_of_mem _ hz)), h y (List.mem_cons_self ..)]
    omega
theorem join_len1 (ys : List Str) (h : ∀ y ∈ ys, y.length = 1) : (Txt.join (Str.ofString "") ys).length = ys.length := by
  rw [TL.join_eq]
  cases ys with
  | nil => rfl
  | cons a r =>
    rw [PyProof.Rows.len_join_cons, len_sum1 _ h]
    show _ + r.length * 0 = _
    omega
/-- all signs below 128 -/
def Asc (z : Str) : Prop := ∀ c ∈ z.cps.toList, c < 128
theorem Asc.app {a b : Str} (h : Asc a) (k : Asc b) : Asc (a ++ b) := fun c hc => by
  have e : (a ++ b).cps.toList = a.cps.toList ++ b.cps.toList := by
    rw [Str.cps_append, Array.toList_append]
  rw [e] at hc
  rcases List.mem_append.mp hc with z | z
  · exact h c z
  · exact k c z
theorem Asc.cut {a : Str} (h : Asc a) (lo hi : Option Int) : Asc (cutS a lo hi) := fun c hc => h c (List.mem_of_mem_drop (List.mem_of_mem_take hc))
theorem Asc.one {c : Nat} (h : c < 128) : Asc ⟨#[c]⟩ := fun d hd => by
  have e : d = c := by simpa using hd
  rw [e]
  exact h
theorem Asc.lit {s : String} (h : ((Str.ofString s).cps.toList.all fun c => decide (c < 128)) = true) : Asc (Str.ofString s) := fun c hc => of_decide_eq_true (List.all_eq_true.mp h c hc)
theorem Asc.joined : ∀ ys : List Str, (∀ y ∈ ys, Asc y) → Asc (Str.join (Str.ofString "") ys)
  | [], _ => fun c hc => by cases hc
  | [y], h => h y (List.mem_cons_self ..)
  | y :: z :: r, h => ((h y (List.mem_cons_self ..)).app (.lit rfl)).app (Asc.joined (z :: r) fun x hx => h x (List.mem_cons_of_mem _ hx))
theorem Asc.join (ys : List Str) (h : ∀ y ∈ ys, Asc y) : Asc (Txt.join (Str.ofString "") ys) := by
  rw [TL.join_eq]
  exact Asc.joined ys h
def small : Str := "abcdefghijklmnopqrstuvwxyz"
def signs : Str := "abcdefghijklmnopqrstuvwxyz0123456789"
theorem small_len : small.length = 26 := by decide +kernel
theorem signs_len : signs.length = 36 := by decide +kernel
theorem small_asc : Asc small := .lit (by decide +kernel)
theorem signs_asc : Asc signs := .lit (by decide +kernel)
section
variable {P : Program} {w : World} {K : PySem.W.Frag} {mg : Str → Option Value} {base : Heap}
abbrev s__law_letters : Stmt := top 70
theorem sc__law_letters : FnScope ["_law_pen_here", "_law_many", "_law_small", "_law_signs", "_law_stem", "_law_at", "_law_front", "_law_choice", "_law_step", "_law_tail", "_law_found", "_law_k", "_law_sign", "_law_word"] ["_law_pen_here", "_law_many"] (defScope s__law_letters) := ⟨rfl, rfl, rfl, by decide +kernel, rfl, by decide +kernel, by decide +kernel⟩
def nLet : List Str := ["_law_pen_here", "_law_many", "_law_small", "_law_signs", "_law_stem", "_law_at", "_law_front", "_law_choice", "_law_step", "_law_tail", "_law_found", "_law_k", "_law_sign", "_law_word"]
end
end Ask

/-! enumerate(t), t a tuple (or a list): the layer has it for lists alone -/
namespace PySem
open Sem (wp)
theorem ask_enum_new {v : Value} {o : Obj} {Hh : Heap → Prop} (B : Begins v o Hh) :
    Meets (Builtin.«enumerate.__new__» ⟨[.type "enumerate", v], []⟩) (fun _ R s => Hh s.heap ∧
      R (.ok (.ret (.ref (s.heap.push o).objs.size)))
        { s with heap := (s.heap.push o).push { cls := .type "enumerate", data := .fields #[.none, .bool false, .ref s.heap.objs.size, rawInt 0, .none, .none] } }) :=
  .of_wp fun prog w A R s z => by
    obtain ⟨h0, g0, d0, t0, os0⟩ := s
    obtain ⟨z1, z⟩ := z
    have subE := sub_enumerate
    have begins : ∀ {A' : Around} {E' : Value → Shared → Prop} {Q' : Value → Shared → Prop}, Q' (.ref h0.objs.size) ⟨h0.push o, g0, d0, t0, os0⟩ → wpAny (model prog w) A' (pyIter v) Q' E' ⟨h0, g0, d0, t0, os0⟩ :=
      fun q => B.iter prog w _ _ ⟨h0, g0, d0, t0, os0⟩ _ z1 q
    wp_walk using begins
    refine wpAny_stack_any fun _ => wpAny_pure ?_
    split
    · rename_i cl _ _ _ _ _
      cases (cl == Value.type "enumerate") <;> (wp_walk using begins; exact ⟨_, rfl, z⟩)
    · wp_walk using begins; exact ⟨_, rfl, z⟩
end PySem
namespace Ask
open PySem L2 PySem.Spec PyProof.Rows
/-- enumerate(v): its two new cells -/
theorem enum_made {prog : Program} {w : World} {A : Around} {E : Value → Shared → Prop} {s : Shared} {v : Value} {o : Obj} {Hh : Heap → Prop} {Q : Value → Shared → Prop} (B : Begins v o Hh) (h1 : Hh s.heap)
    (h : ∀ h', IsEnum h' (s.heap.objs.size + 1) s.heap.objs.size 0 .none → h'.get? s.heap.objs.size = some o → (∀ b u, s.heap.get? b = some u → h'.get? b = some u) → Q (.ref (s.heap.objs.size + 1)) { s with heap := h' }) :
    wpAny (model prog w) A (call (.type "enumerate") [v]) Q E s := by
  refine callType_new F.called_enumerate (by decide) (F.typeCall_enumerate_1 _) (F.newCall_enumerate_1 _) (fun obj => F.args_object_init_2 obj _) F.entry_enumerate_new (ask_enum_new B) ⟨h1, ?_⟩
  have z : (s.heap.push o).objs.size = s.heap.objs.size + 1 := Heap.size_push ..
  show _ ∧ _
  rw [z]
  have e : IsEnum ((s.heap.push o).push { cls := .type "enumerate", data := .fields #[.none, .bool false, .ref s.heap.objs.size, rawInt 0, .none, .none] }) (s.heap.objs.size + 1) s.heap.objs.size 0 .none := by
    have q := Heap.get?_push_size (s.heap.push o) (o := { cls := .type "enumerate", data := .fields #[.none, .bool false, .ref s.heap.objs.size, rawInt 0, .none, .none] }) rfl
    rw [z] at q
    exact q
  exact ⟨⟨_, e, rfl⟩, h _ e (Heap.get?_push_of_some _ (Heap.get?_push_size _ B.free)) fun b u q => Heap.get?_push_of_some _ (Heap.get?_push_of_some _ q)⟩
/-- the tuple at a, each item in a new pair with its place -/
def IteT (K : PySem.W.Frag) (a : Addr) : It :=
  ⟨fun i H => ∃ xs, SqT K H a xs ∧ i < xs.length, fun i H v H' => ∃ T x, v = .ref T ∧ H T = none ∧ H' = upd H T (.tup [.int (i : Nat), x]) ∧ ∀ xs, SqT K H a xs → xs[i]? = some x, fun i H => ∃ xs, SqT K H a xs ∧ xs.length = i⟩
theorem turn_enumT {P : Program} {w : World} {K : PySem.W.Frag} {elts : List Expr} {kk : Nat} {tpos : Pos} (a e it : Addr) (hne : e ≠ it) (hat : a ≠ it) :
    Turn P w K (.Tuple elts kk tpos) (IteT K a) [e, it] e (fun i h => (∃ old, IsEnum h e it ((i : Nat) : Int) old) ∧ h.IsTupleIter it a i) where
  mem := by simp
  obj := fun i h st b hb => by
    obtain ⟨⟨old, he⟩, o, ho, _, hd⟩ := st
    rcases (by simpa using hb : b = e ∨ b = it) with z | z
    · rw [z]; exact ⟨_, he, fun v q => nomatch q⟩
    · rw [z]; exact ⟨o, ho, fun v q => by rw [hd] at q; cases q⟩
  keep := fun i h h' st k => ⟨⟨_, k e (by simp) _ st.1.choose_spec⟩, st.2.at fun o q => k it (by simp) o q⟩
  item := by
    intro X hP hw hK hc i pins s σ H E I hf st hg
    subst hP hw hK
    obtain ⟨⟨old, he⟩, hit⟩ := st
    obtain ⟨xs, hq, hi⟩ := hg
    obtain ⟨its, rv, p, hz⟩ := I.tuple hq
    have hl := rv.length
    have hel : e < s.heap.objs.size := Heap.lt_size he
    have hil : it < s.heap.objs.size := by obtain ⟨_, q, _⟩ := hit; exact Heap.lt_size q
    have aE : a ≠ e := fun z => by
      obtain ⟨o, ho, ct, _⟩ := p
      have he2 : s.heap.get? e = some _ := he
      rw [z, he2] at ho
      have z2 := Option.some.inj ho
      rw [← z2] at ct
      injection ct with ct
      exact absurd ct (by decide)
    have Dr := Draws.tuple (prog := X.prog) (w := X.w) (A := X.A.in1) (show X.A.in1.handled = none from I.ok.hd hc) it a hat its.toArray
    refine wpAny_pyNext_enum_itemD Dr he ⟨hit, p⟩ (by simp; omega) hne (by intro z; rcases (by simpa using z : e = it ∨ e = a) with q | q; exact hne q; exact aE q.symm) fun x h' tk hx ho hs' hT hsz hk => ?_
    refine ⟨_, rfl, wpAny_letOwnedTupleGo_enum (s := { s with heap := h', toks := tk + 1 }) ho fun h'' he' sb => ?_⟩
    have hT2 : h''.get? s.heap.objs.size = some { cls := .type "tuple", data := .seq #[.int i tk, x] } := (sb.2 _ (Nat.ne_of_gt hel)).trans hT
    have hit2 : h''.IsTupleIter it a (i + 1) := hs'.1.at fun o q => (sb.2 it (Ne.symm hne)).trans q
    obtain ⟨y, hy, ry⟩ : ∃ y, xs[i]? = some y ∧ RelV y x := by
      obtain ⟨u, hu, ru⟩ := rv.get (List.getElem?_eq_getElem hi)
      have hx' : its[i]? = some x := by simpa using hx
      rw [hu] at hx'
      cases hx'
      exact ⟨_, List.getElem?_eq_getElem hi, ru⟩
    have new : ObjOk X.prog X.w (upd H s.heap.objs.size (.tup [.int (i : Nat), y])) h'' s.heap.objs.size (.tup [.int (i : Nat), y]) :=
      ⟨by show 2 ≤ sizeLine; decide, [.int i tk, x], .cons ⟨_, rfl⟩ (.cons ry .nil), ⟨_, hT2, rfl, _, rfl⟩⟩
    have I1 : Inv X pins σ (upd H s.heap.objs.size (.tup [.int (i : Nat), y])) { s with heap := h'', toks := tk + 1 } :=
      I.turnedNew (ch := [e, it]) (fun b ob hb q => (sb.2 b (fun z => hb (by simp [z]))).trans (hk b ob (fun z => hb (by simp [z])) (fun z => hb (by simp [z])) q)) hf (Nat.le_refl _) new
    refine ⟨.ref s.heap.objs.size, _, I1, rfl, ⟨_, y, rfl, I.hok.fresh (Nat.le_refl _), rfl, fun ys h2 => by rw [I.tuple_inj h2 hq]; exact hy⟩, ⟨⟨x, ?_⟩, hit2⟩, fun b hb => ?_⟩
    · have e1 : ((i + 1 : Nat) : Int) = (i : Int) + 1 := by omega
      rw [e1]
      exact he'
    · have hb' : b < s.heap.objs.size := by
        rcases (by simpa using hb : b = e ∨ b = it) with z | z
        · rw [z]; exact hel
        · rw [z]; exact hil
      rw [upd_ne (Nat.ne_of_lt hb')]
      exact (hf b hb).1
  done := by
    intro X hP hw hK hc i pins s σ H E I hf st hg
    subst hP hw hK
    obtain ⟨⟨old, he⟩, hit⟩ := st
    obtain ⟨xs, hq, hx⟩ := hg
    obtain ⟨its, rv, p, hz⟩ := I.tuple hq
    obtain ⟨f0, f1, f2, f3, f4, f5⟩ := hf it (by simp)
    have hl := rv.length
    have ei : i = its.toArray.size := by simp; omega
    subst ei
    have Dr := Draws.tuple (prog := X.prog) (w := X.w) (A := X.A.in1) (show X.A.in1.handled = none from I.ok.hd hc) it a hat its.toArray
    exact wpAny_pyNext_enum_endD Dr he ⟨hit, p⟩ fun h' eb => ⟨rfl, I.turned (t' := s.toks) (fun b o hb q => eb b o hb q) f0 f1 f3 f4 f5⟩
  self := fun A i s Q E st h => let ⟨⟨_, he⟩, _⟩ := st; wpAny_pyIter_enum he h
/-- enumerate(e), e a list or a tuple -/
def iEnumA (K : PySem.W.Frag) (ta : TA) : TI := fun σ H R => ta σ H fun vs H1 => ∃ a xs, vs = [.ref a] ∧ ((SqL K H1 a xs ∧ R (Ite K a) H1) ∨ (SqT K H1 a xs ∧ R (IteT K a) H1))
theorem pi_enumA {X : Cx} {e : Expr} {ta : TA} {p pos tpos : Pos} {elts : List Expr} {kk : Nat} (hg : Gl X "enumerate") (hm : X.mg "enumerate" = none) (ha : PA X [e] ta) (hs : starEach [e] X.env = [(false, eval e X.env)] := by rfl) :
    PI X (.Tuple elts kk tpos) (.Call (.Name "enumerate" p) [e] [] pos) (iEnumA X.K ta) := by
  refine ⟨fun pins s σ H R I h => ?_⟩
  refine Call_ (ld_blt I hg hm boot_enumerate (PyProof.Rows.callWith_type1 (thn (ha.run pos pins s σ H _ I h) fun us s1 ⟨vs, H1, I1, r1, a, xs, ex, q1⟩ => ?_) hs rfl))
  subst ex
  cases r1 with
  | cons r rr =>
    cases rr
    cases r
    have low : ∀ b : Addr, b ∈ [s1.heap.objs.size + 1, s1.heap.objs.size] → s1.heap.objs.size ≤ b := fun b hb => by
      rcases (by simpa using hb : b = s1.heap.objs.size + 1 ∨ b = s1.heap.objs.size) with z | z
      · rw [z]; exact Nat.le_add_right _ _
      · rw [z]; exact Nat.le_refl _
    rcases q1 with ⟨hq, q⟩ | ⟨hq, q⟩
    · obtain ⟨its, rv, p', hz⟩ := I1.list hq
      refine enum_made (begins_list a its.toArray) p'.isList fun h' he hit hk => wpAny_pyIter_enum he ?_
      exact ⟨s1.heap.objs.size + 1, [s1.heap.objs.size + 1, s1.heap.objs.size], _, _, H1, rfl, I1.kept (t' := s1.toks) hk, turn_enum a (s1.heap.objs.size + 1) s1.heap.objs.size, ⟨⟨.none, he⟩, ⟨_, hit, rfl, rfl⟩, Nat.succ_ne_self _⟩, fun b hb => I1.fpOk (low b hb) (I1.hok.fresh (low b hb)), q⟩
    · obtain ⟨its, rv, p', hz⟩ := I1.tuple hq
      have hal : a < s1.heap.objs.size := by obtain ⟨_, z, _⟩ := p'; exact Heap.lt_size z
      refine enum_made (begins_tuple a its.toArray) p' fun h' he hit hk => wpAny_pyIter_enum he ?_
      exact ⟨s1.heap.objs.size + 1, [s1.heap.objs.size + 1, s1.heap.objs.size], _, _, H1, rfl, I1.kept (t' := s1.toks) hk, turn_enumT a (s1.heap.objs.size + 1) s1.heap.objs.size (Nat.succ_ne_self _) (Nat.ne_of_lt hal), ⟨⟨.none, he⟩, ⟨_, hit, rfl, rfl⟩⟩, fun b hb => I1.fpOk (low b hb) (I1.hok.fresh (low b hb)), q⟩
theorem walk_enumT {K : PySem.W.Frag} {a : Addr} {xs : List V} : Walk (IteT K a) xs.length (fun H => SqT K H a xs) (YPair (fun i => some (.int (i : Nat))) (fun i => xs[i]?)) := by
  refine ⟨fun i H hi q => ⟨xs, q, hi⟩, fun H q => ⟨xs, q, rfl⟩, fun i H v H' _ q y => ?_⟩
  obtain ⟨T, x, h1, h2, h3, h4⟩ := y
  exact ⟨T, .int (i : Nat), x, h1, h2, h3, rfl, h4 xs q⟩
end Ask

/-! several clauses «except X as n» behind one try -/
namespace Ask
open PySem L2 PySem.Spec PyProof.Rows
/-- an error a that the frame of X has caught, with all that stood -/
structure Down (X : Cx) (pins : List (Addr × Obj)) (σ : L2.St) (H : Hp) (sI : Shared) (B : Heap) (a : Addr) (cls : Value) (d : Option Addr) (s : Shared) : Prop where
  fl : HandSPX.FlyingZ B (X.env :: X.outer) a (Zc cls d) s.heap
  inv : Inv X pins σ H sI
  nb : ∀ b o, sI.heap.get? b = some o → b ∉ frs X.stack → B.get? b = some o
  up : sI.heap.UpToSlots s.heap
  os : s.os = sI.os
  ag : AllBare s.gens
  na : H a = none
section
variable {X : Cx} {pins : List (Addr × Obj)} {σ : L2.St} {H : Hp} {sI s : Shared} {B : Heap} {a : Addr} {cls : Value} {d : Option Addr}
theorem Down.now (w : Down X pins σ H sI B a cls d s) : Inv X pins σ H s := w.inv.landed w.nb w.fl.1 w.up w.os w.ag
theorem Down.apart (w : Down X pins σ H sI B a cls d s) (hf : X.env.frame = some X.env.locals) : ∃ oe vs, s.heap.get? a = some oe ∧ Zc cls d oe ∧ oe.data = .fields vs ∧ a ≠ X.env.locals ∧ a ∉ X.fs := by
  obtain ⟨oe, vs, e, z, dd⟩ := w.fl.there
  have out : a ∉ frs (X.env :: X.outer) := fun hm => by
    obtain ⟨_, o2, e2, no⟩ := w.fl.2.2.1.mem hm
    rw [e] at e2
    cases e2
    exact no _ dd
  refine ⟨oe, vs, e, z, dd, fun q => out (List.mem_filterMap.mpr ⟨X.env, List.mem_cons_self, by rw [hf, q]⟩), fun hm => ?_⟩
  obtain ⟨v, hv, q⟩ := List.mem_filterMap.mp hm
  exact out (List.mem_filterMap.mpr ⟨v, List.mem_cons_of_mem _ hv, q⟩)
end
/-- what the clauses hds make of it, if W is wished for -/
def Hands (X : Cx) (D : Ends) (hds : List ExceptHandler) (W : WX) : Prop := ∀ (pins : List (Addr × Obj)) (σ : L2.St) (H : Hp) (sI s : Shared) (B : Heap) (a : Addr) (cls : Value) (d : Option Addr),
  Down X pins σ H sI B a cls d s → W cls d σ H → wpAny (model X.prog X.w) X.A (handleBy (.ref a) X.env hds) (SP X pins D) X.xe s
section
variable {X : Cx} {D : Ends} {hds : List ExceptHandler} {W : WX}
theorem hands_nil (hs : X.stack = X.env :: X.outer) (hf : X.env.frame = some X.env.locals) (tk : Takes X W) : Hands X D [] W := by
  intro pins σ H sI s B a cls d w q
  refine wpAny_handleBy_nil ?_
  obtain ⟨_, _, _, _, _, T, _, _, e, _, dd, e1, _⟩ := id w.fl
  unfold PySem.passOn
  refine wpAny_bind (wpAny_field e dd e1 ?_)
  rw [if_neg (show ¬ ((Value.ref T == Value.none) = true) from by simp)]
  have on : wpAny (model X.prog X.w) X.A (setFlight (.ref a) X.env.frame) (fun _ s4 => wpAny (model X.prog X.w) X.A (throw (.ref a) : Sem Flow) (SP X pins D) X.xe s4) X.xe s := by
    rw [hf]
    exact HandSPX.setFlight_upZ w.fl fun h4 held up4 => wpAny_throw (tk _ _ ⟨a, B, sI, pins, σ, H, cls, d, rfl, w.inv, w.nb, w.up.trans up4, .inr (.inr (by rw [hs]; exact held)), w.na, w.os, w.ag, q⟩)
  first
    | exact wpAny_bind (wpAny_pure (wpAny_bind on))
    | exact wpAny_bind on
theorem hands_as {x n : Str} {c : Value} {i : Nat} {suite : List Stmt} {b₀ : Stmt} {np pos' : Pos} {ts : Addr → Value → Option Addr → TS}
    (hf : X.env.frame = some X.env.locals) (hN : X.N.Nodup) (hi : X.N[i]? = some n) (hl : X.env.kindOf n = some .local) (hc : Names X x c)
    (su : ∀ (a : Addr) (oe : Obj) (cls : Value) (d : Option Addr) (pn : List (Addr × Obj)), Zc cls d oe → (∃ vs, oe.data = .fields vs) → PSs (X.suite a ((a, oe) :: pn)) (b₀ :: suite) (ts a cls d))
    (rest : Hands X D hds W) : Hands X D (.ExceptHandler (some (.Name x np)) (some n) (b₀ :: suite) pos' :: hds) (wAs X.K c i ts W D) := by
  intro pins σ H sI s B a cls d w q
  obtain ⟨b, hb, yes, no⟩ := q
  have J := w.now
  have ok := J.ok
  obtain ⟨oe, vs, he, hz, hd, nL, nF⟩ := w.apart hf
  have S := J.suite he hd w.na nL nF
  refine wpAny_handleBy_cons (codeAny_handlers_test ?_) (by intro z; cases z)
  have ty : PySem.W.Looks (model X.prog X.w) s.heap (typeOf (.ref a)) cls := fun A Q E s' k z => wpAny_typeOf_ref (k _ _ he) (by rw [hz.1]; exact z)
  have isIt := PySem.W.exm_one (M := model X.prog X.w) J.kIn ty hb
  have named : ∀ {Q : Value → Shared → Prop} {E : Value → Shared → Prop}, Q c s → wpAny (model X.prog X.w) (X.A.mark (some (.ref a))) (eval (.Name x np) X.env) Q E s := fun {Q E} z => by
    obtain ⟨g, dbg, m | ⟨m, bt, nn⟩⟩ := hc
    · exact ld_glob (X := X.suite a ((a, oe) :: (X.pn ++ pins))) S g m z dbg
    · exact ld_blt (X := X.suite a ((a, oe) :: (X.pn ++ pins))) S g m bt z nn dbg
  refine named (isIt.here ?_)
  cases b with
  | false => exact rest pins σ H sI s B a cls d w (no rfl)
  | true =>
    refine codeAny_handlers_suite_as (HandSPX.lands_againZ w.fl fun h4 fl4 up4 => ?_)
    have w4 : Down X pins σ H sI B a cls d { s with heap := h4 } := ⟨fl4, w.inv, w.nb, w.up.trans up4, w.os, w.ag, w.na⟩
    obtain ⟨oe4, vs4, he4, hz4, hd4, nL4, nF4⟩ := w4.apart hf
    have S4 := w4.now.suite he4 hd4 w.na nL4 nF4
    refine store_ok (X := X.suite a ((a, oe4) :: (X.pn ++ pins))) (v := .ref a) S4 hN hi (.inl hl) rfl (fun s5 S5 => ?_) (.inr hl)
    refine wpAny_mono ((su a oe4 cls d (X.pn ++ pins) hz4 ⟨_, hd4⟩).run [] s5 _ H _ S5 (yes rfl a w.na)) (fun f s6 got => ?_) (fun _ _ z => False.elim z)
    have away : ∀ {σ6 : L2.St} {H6 : Hp} {Q : Shared → Prop}, Inv (X.suite a ((a, oe4) :: (X.pn ++ pins))) [] σ6 H6 s6 → (∀ s7, Inv X pins (σ6.set i none) H6 s7 → Q s7) →
        wpAny (model X.prog X.w) X.A (do bindName X.env n .none; unbindBehindTheSuite X.env n pos') (fun _ s7 => Q s7) X.xe s6 := fun {σ6 H6 Q} S6 z => gone_ok (S6.unsuite ok) hN hi hl z
    cases f with
    | ret u => obtain ⟨v, σ6, H6, S6, r, z⟩ := got; exact away S6 fun s7 J7 => ⟨_, _, _, J7, r, z⟩
    | next => obtain ⟨σ6, H6, S6, z⟩ := got; exact away S6 fun s7 J7 => ⟨_, _, J7, z⟩
    | brk => obtain ⟨σ6, H6, S6, z⟩ := got; exact away S6 fun s7 J7 => ⟨_, _, J7, z⟩
    | cont => obtain ⟨σ6, H6, S6, z⟩ := got; exact away S6 fun s7 J7 => ⟨_, _, J7, z⟩
/-- try: body / the clauses -/
theorem ps_try_hands {body : List Stmt} {h₀ : ExceptHandler} {pos : Pos} {tb : WX → TS} {Wf : Ends → WX} (hs : X.stack = X.env :: X.outer) (hf : X.env.frame = some X.env.locals)
    (hb : ∀ (W : WX) (pn : List (Addr × Obj)) (xe : Value → Shared → Prop), Takes (X.tr pn xe) W → PassesOwn (model X.prog X.w) X.A X.env xe → PSs (X.tr pn xe) body (tb W))
    (hh : ∀ D, Hands X D (h₀ :: hds) (Wf D)) : PS X (.Try body (h₀ :: hds) [] [] pos) (fun D σ H => tb (Wf D) D σ H) := by
  refine ⟨fun pins s σ H D I h => ?_⟩
  have ok := I.ok
  have fr : X.A.frames = some (X.env :: X.outer) := by rw [ok.frames, hs]
  let after : Value → Shared → Prop := fun e s1 => wpAny (model X.prog X.w) X.A (noteFrame e X.env) (fun _ s2 => wpAny (model X.prog X.w) X.A (setFlight e none) (fun _ s3 => wpAny (model X.prog X.w) X.A (handleBy e X.env (h₀ :: hds)) (SP X pins D) X.xe s3) X.xe s2) X.xe s1
  have taken : Takes (X.tr (X.pn ++ pins) after) (Wf D) := fun u s1 xx => by
    obtain ⟨a, B, sI, pins1, σ1, H1, cls, d, rfl, J, nb, up, sky, na, os, ag, q⟩ := xx
    have sky1 : Sky B (X.env :: X.outer) a (Zc cls d) X.env.locals s1.heap := by rw [← hs]; exact sky
    exact Sky.land Zc.steady fr hf sky1 fun h3 fl3 up3 => hh D pins σ1 H1 sI { s1 with heap := h3 } B a cls d ⟨fl3, J.ofTry ok, nb, up.trans up3, os, ag, na⟩ q
  refine wpAny_Try_except (wpAny_mono ((hb (Wf D) (X.pn ++ pins) after taken PassesOwn.looking).run [] s σ H D (I.toTry _) h) (fun f s1 got => ?_) fun _ _ z => z)
  cases f with
  | ret u => obtain ⟨v, σ1, H1, J, r, z⟩ := got; exact ⟨v, σ1, H1, J.ofTry ok, r, z⟩
  | next => obtain ⟨σ1, H1, J, z⟩ := got; exact wpAny_execs_nil ⟨σ1, H1, J.ofTry ok, z⟩
  | brk => obtain ⟨σ1, H1, J, z⟩ := got; exact ⟨σ1, H1, J.ofTry ok, z⟩
  | cont => obtain ⟨σ1, H1, J, z⟩ := got; exact ⟨σ1, H1, J.ofTry ok, z⟩
end
end Ask

namespace Ask
open PySem L2 PySem.Spec PyProof.Rows
/-! ### repr of a list or tuple of data; a text times a number -/
def rRepr (K : PySem.W.Frag) : List V → Hp → VK → Prop := fun xs H Q => ∃ (a : Addr) (d : PyData), xs = [.ref a] ∧ Dp K H (.ref a) d ∧ d.showable = true ∧ d.hasDict = false ∧ d.depth ≤ 30 ∧ d.shown.length ≤ sizeLine ∧ Q (.str d.shown) H
theorem call_reprD {X : Cx} (hg : X.A.guards = some []) (hu : X.A.units + 64 < cLine) : CallR X (.builtin "repr") (rRepr X.K) := by
  intro pins s σ H xs us Q I r h
  obtain ⟨a, d, rfl, hd, sh, nd, dp, sz, q⟩ := h
  obtain ⟨u, rfl, ra⟩ := vals1 r
  obtain rfl : u = Value.ref a := ra
  obtain ⟨as, rd⟩ := Dp.reads I d _ _ hd rfl
  refine repr_of_reads' rd sh (fun z => by rw [nd] at z; cases z) hg (by omega) (fun _ _ e => e) (fun h' t tk k => ?_) sz
  exact ⟨.str d.shown, H, I.kept (t' := tk) k, ⟨t, rfl⟩, q⟩
def repS (x : Str) (n : Nat) : Str := ⟨(List.replicate n x.cps).foldl (· ++ ·) #[]⟩
theorem rep_size (x : Array Nat) : ∀ (n : Nat) (acc : Array Nat), ((List.replicate n x).foldl (· ++ ·) acc).size = acc.size + n * x.size
  | 0, acc => by simp
  | n + 1, acc => by
    rw [List.replicate_succ, List.foldl_cons, rep_size x n, Array.size_append, Nat.succ_mul]
    omega
theorem repS_len (x : Str) (n : Nat) : (repS x n).length = n * x.length := by
  show ((List.replicate n x.cps).foldl (· ++ ·) #[]).size = _
  rw [rep_size]
  show 0 + n * x.length = _
  omega
theorem op_mul_str {X : Cx} : OpR X (binaryOp .Mult) (fun x y H Q => ∃ (z : Str) (n : Int), x = .str z ∧ y = .int n ∧ 2 ≤ n ∧ n ≤ 1000 ∧ 1 ≤ z.length ∧ z.length ≤ 1000 ∧ Q (.str (repS z n.toNat)) H) := by
  intro pins s σ H x y v u Q I rx ry h
  obtain ⟨z, n, rfl, rfl, n0, n1, z0, z1, q⟩ := h
  obtain ⟨t, rfl⟩ := rx
  obtain ⟨t2, rfl⟩ := ry
  have zl : (z.length == 0) = false := by
    have : z.length ≠ 0 := by omega
    simpa using this
  have nl : (n == 1) = false := by
    have : n ≠ 1 := by omega
    simpa using this
  refine P.mul_str (by rw [decide_eq_false (by omega), decide_eq_false (by omega)]; rfl) (fun _ _ z => ?_) (fun _ _ => ?_) ?_
  · have e : (2 ^ 63 - 1) / (1000 : Int) ≤ (2 ^ 63 - 1) / n := by
      refine Int.le_ediv_of_mul_le (by omega) ?_
      have h1 : (2 ^ 63 - 1) / (1000 : Int) * n ≤ (2 ^ 63 - 1) / (1000 : Int) * 1000 := Int.mul_le_mul_of_nonneg_left n1 (by decide)
      have h2 : (2 ^ 63 - 1) / (1000 : Int) * 1000 ≤ 2 ^ 63 - 1 := by decide
      omega
    have e2 : (1000 : Int) ≤ (2 ^ 63 - 1) / (1000 : Int) := by decide
    omega
  · have e : z.length * n.toNat ≤ 1000 * 1000 := Nat.mul_le_mul z1 (by omega)
    have e2 : 1000 * 1000 ≤ sizeLine := by decide
    show decide (z.length * n.toNat > sizeLine) = false
    exact decide_eq_false (by omega)
  · rw [if_neg (by omega), if_neg (by rw [nl, zl]; exact Bool.false_ne_true)]
    refine ⟨?_, ?_⟩
    · show (repS z n.toNat).length ≤ sizeLine
      rw [repS_len]
      have e : z.length * n.toNat ≤ 1000 * 1000 := Nat.mul_le_mul z1 (by omega)
      have e2 : 1000 * 1000 ≤ sizeLine := by decide
      rw [Nat.mul_comm]
      omega
    · exact ⟨.str (repS z n.toNat), H, I.tok _, ⟨_, rfl⟩, q⟩
end Ask

namespace Ask
open PySem L2 PySem.Spec PyProof.Rows
/-! ### a def's body at one surrounding, the law's call from the outside (where it is known that no repr is under way) -/
theorem fn_run {CX : CXT} {P : Program} {w : World} {K : PySem.W.Frag} {mg : Str → Option Value} {base : Heap} {k : Nat} {f : Addr} {x qual : Str} {st : Stmt} {fd : FuncData} {N ps : List Str} {A : Around} {outer : List Env} {s : Shared} {H : Hp} {args : Args} {us : List Value} {vs : List V} {Q : VK} {E : XK}
    (F : Fun K x qual st f fd) (S : FnScope N ps (defScope st)) (hr : Room (k + 1) A) (e0 : Env0 P w K mg base A outer s H) (bind : BindsTo s fd args (ps.zip us)) (r : Vals vs us) (hl : vs.length = ps.length)
    (body : ∀ cdv : Value, Room k (A.deeper (envOfC qual (defScope st) s.heap.objs.size f cdv)) → ∃ t, PSs (cxOf CX P w K mg base N qual (defScope st) f cdv A outer s H E) (defBody st) t ∧ t { nx := fun _ H' => Q .non H', rt := Q } (start N vs) H) :
    codeAny (model P w) A (.call (.ref f) args) (CR CX outer P w H s Q E) s := by
  obtain ⟨oc, od, kV, doc, pm, an, cdv, ct, osl, rfl, lk, hcd⟩ := F.ex
  have here : ∀ b o, base.get? b = some o → s.heap.get? b = some o := fun b o e => (e0.bs b o e).1
  have inK : K.In s.heap := e0.mod.kin.keeps here
  refine codeAny_call_function hr.depth (inK _ _ lk) rfl S.co S.gen rfl (PySem.W.codeRec_of inK hcd) (bind _ _ _ _ ?_)
  refine wpAny_newFunctionEnv_cells S.kind (fun ⟨n, v⟩ hy => ?_) fun env he s1 x1 => ?_
  · rcases S.par n (List.of_mem_zip hy).1 with q | q
    · exact .inl q
    · exact .inr ⟨q, PySem.W.cellsFrom_some _ _ _ (.inl q)⟩
  subst he
  refine ⟨(e0.mod.nolimit.keeps here).keeps x1.toInCall.keep, codeAny_func ?_⟩
  obtain ⟨t, ht, hq⟩ := body cdv (hr.deeper _)
  refine wpAny_mono (ht.run [] s1 (start N vs) H _ (inv_start S hr.hd e0 hl r x1) hq) (fun fl s' got => ?_) fun _ _ z => z
  cases fl with
  | ret u => obtain ⟨v, _, H', J, rv, z⟩ := got; exact ⟨v, H', J.os, J.bare, J.base, J.hok, rv, z⟩
  | next => obtain ⟨_, H', J, z⟩ := got; exact ⟨V.non, H', J.os, J.bare, J.base, J.hok, rfl, z⟩
  | brk => obtain ⟨_, _, _, z⟩ := got; exact False.elim z
  | cont => obtain ⟨_, _, _, z⟩ := got; exact False.elim z
/-- the script's own cell, locked; nothing else is tracked -/
def lone (a : Addr) (vs : List Value) (ns : List Int) : Hp := fun b => if b = a then some (.frz { cls := .type "list", data := .seq vs.toArray } (.lst (ns.map V.int))) else none
theorem law_at {P : Program} {w : World} {K : PySem.W.Frag} {mg mb : Str → Option Value} {fa a : Addr} {s₁ : Shared} {vs : List Value} {ns : List Int}
    (inK : K.In s₁.heap) (gl : s₁.heap.Ns mainGlobals mg) (bl : s₁.heap.Ns builtinsNs mb) (bt : ∀ x : Str, x ≠ "__name__" → mb x = bootBuiltins x) (lim : s₁.heap.NoLimit) (gs : s₁.gens = #[])
    (ha : s₁.heap.get? a = some { cls := .type "list", data := .seq vs.toArray }) (hi : IntsAre vs ns) (hl : ns.length ≤ sizeLine)
    (run : ∀ (base : Heap) (H : Hp), K.In base → base.Ns mainGlobals mg → Env0 P w K mg base callerA [] s₁ H → SqL K H a (ns.map V.int) →
      codeAny (model P w) callerA (.call (.ref fa) ⟨[.ref a], []⟩) (CR CX0 [] P w H s₁ (fun v _ => v = .bl true) E0) s₁) :
    codeAny (model P w) callerA (.call (.ref fa) ⟨[.ref a], []⟩) (fun r s' => r = .ok (.ret (.bool true)) ∧ OldK s₁.heap s'.heap ∧ s'.os = s₁.os ∧ AllBare s'.gens) s₁ := by
  have nums : Vals (ns.map V.int) vs := vals_ints hi
  have from_ : ∀ H : Hp, (∀ b, H b = none ∨ ∃ o xs, H b = some (.frz o (.lst xs))) → (∀ b u, H b = some u → b = a ∧ K.lookup a = none) → SqL K H a (ns.map V.int) → HOk P w H s₁.heap →
      codeAny (model P w) callerA (.call (.ref fa) ⟨[.ref a], []⟩) (fun r s' => r = .ok (.ret (.bool true)) ∧ OldK s₁.heap s'.heap ∧ s'.os = s₁.os ∧ AllBare s'.gens) s₁ := by
    intro H frz atA sq ok
    have free : ∀ {b : Addr}, b ≠ a → H b = none := fun {b} ne => by
      cases q : H b with
      | none => rfl
      | some u => exact absurd (atA b u q).1 ne
    have nsB : ∀ {b : Addr} {m : Str → Option Value}, s₁.heap.Ns b m → (hidT s₁.heap H).Ns b m := fun {b m} ⟨o, es, ep, e, dd, z⟩ => ⟨o, es, ep, hidT_get e (free fun q => by
      rw [q, ha] at e
      cases e
      have dd' : Data.seq vs.toArray _ = Data.dict es ep := dd
      cases dd'), dd, z⟩
    have kB : K.In (hidT s₁.heap H) := fun b o e => hidT_get (inK b o e) (by
      cases q : H b with
      | none => rfl
      | some u =>
        obtain ⟨rfl, no⟩ := atA b u q
        rw [no] at e
        cases e)
    obtain ⟨mc, l1, l2⟩ := lim
    have e0 : Env0 P w K mg (hidT s₁.heap H) callerA [] s₁ H :=
      ⟨rfl, ⟨kB, nsB gl, ⟨mb, nsB bl, bt⟩, ⟨mc, nsB l1, l2⟩⟩, fun b o e => of_hidT e, Nat.le_of_eq (hidT_size _ _), trivial, (fun b hb => absurd (show b ∈ ([] : List Addr) from hb) (by simp)), ok, .of_eq gs⟩
    refine codeAny_mono (run _ H kB (nsB gl) e0 sq) fun r s' z => ?_
    match r, z with
    | .error e, z => exact False.elim z
    | .ok .next, z => exact False.elim z
    | .ok .brk, z => exact False.elim z
    | .ok .cont, z => exact False.elim z
    | .ok (.ret u), z =>
      obtain ⟨v, H', os, bare, un, ok', rv, q⟩ := z
      have q : v = .bl true := q
      subst q
      obtain rfl : u = Value.bool true := rv
      refine ⟨rfl, OldK.of_keep fun b o e => ?_, os, bare⟩
      rcases frz b with n | ⟨ob, xs, y⟩
      · exact un.keep b o e n (by intro z; exact absurd (show b ∈ ([] : List Addr) from z) (by simp)) (by simp)
      · obtain ⟨e1, _⟩ := ok b _ y
        obtain ⟨e2, _⟩ := ok' b _ (un.frzs b ob _ y)
        rw [e] at e1
        cases e1
        exact e2
  cases hk : K.lookup a with
  | none =>
    have at_ : lone a vs ns a = some (.frz { cls := .type "list", data := .seq vs.toArray } (.lst (ns.map V.int))) := if_pos rfl
    have off : ∀ {b : Addr}, b ≠ a → lone a vs ns b = none := fun {b} ne => if_neg ne
    refine from_ (lone a vs ns) (fun b => ?_) (fun b u z => ?_) (.inl (.inr ⟨_, at_⟩)) (fun b u z => ?_)
    · by_cases h : b = a
      · exact .inr ⟨_, _, by rw [h]; exact at_⟩
      · exact .inl (off h)
    · by_cases h : b = a
      · exact ⟨h, hk⟩
      · rw [off h] at z
        cases z
    · by_cases h : b = a
      · subst h
        rw [at_] at z
        cases z
        exact ⟨ha, by rw [List.length_map]; exact hl, vs, _, nums, ha⟩
      · rw [off h] at z
        cases z
  | some o =>
    have e := inK a o hk
    rw [ha] at e
    cases e
    refine from_ (fun _ => none) (fun _ => .inl rfl) (fun b u z => by cases z) (.inr ⟨_, vs.toArray, _, hk, rfl, rfl, rfl, ?_, by simpa using nums⟩) (fun b u z => by cases z)
    rw [List.size_toArray, hi.length]
    exact hl
end Ask

namespace Ask
open PySem L2
theorem pe_gv {X : Cx} {x : Str} {v : V} {pos : Pos} (hg : Gl X x) (h : ∃ u, X.mg x = some u ∧ RelV v u) (hd : (x == ("__debug__" : Str)) = false := by decide) : PE X (.Name x pos) (tC v) := by
  obtain ⟨u, hm, r⟩ := h
  exact pe_glob hg hm r hd
theorem Same.upd_new {H H' : Hp} {p : Addr} {o : HO} (s : Same H H') (h : H p = none) : Same H (upd H' p o) := fun b u e => by
  rw [upd_ne (ne_of_none e h)]
  exact s b u e
theorem Same.made1 {H H' : Hp} {p : Addr} {o : HO} (s : Same H H') (h : H' p = none) : Same H (upd H' p o) := Ask.Same.upd_new s (s.free h)

/-! ### letters, by their signs -/
def smallL : List Nat := small.cps.toList
def signsL : List Nat := signs.cps.toList
def shortL (l : List Nat) : Bool := decide (1 ≤ l.length ∧ l.length ≤ 12) && (match l.head? with | some c => decide (c ∈ smallL) | none => false) && l.all (fun c => decide (c ∈ signsL))
def wordOf (l : List Nat) : List Nat := if l.head? = some 126 then l.drop 1 else l
def newW : Str := "new"
def foundW : Str := "found"
def goodW (z : Str) : Bool := shortL z.cps.toList && !(decide (newW = z) || decide (foundW = z))
def wordS (z : Str) : Str := ⟨(wordOf z.cps.toList).toArray⟩
def isLs (z : Str) : Bool := goodW (wordS z)
def isL : PyData → Bool
  | .str z => isLs z
  | _ => false
/-- the values that the lists of the law hold -/
def Itm (d : PyData) : Prop := d = .none ∨ d = .bool true ∨ d = .int 7 ∨ ∃ z : Str, z.length ≤ 500 ∧ Asc z ∧ (d = .str z ∨ d = .list [.str z] ∨ d = .tuple [.str z])
def isStrD : PyData → Bool
  | .str _ => true
  | _ => false
section
variable {K : PySem.W.Frag} {H : Hp} {v : V} {d : PyData}
theorem ty_list {a : Addr} {xs : List V} (h : SqL K H a xs) : TyX K H (.ref a) (.type "list") := by
  rcases h with (h | ⟨o, h⟩) | ⟨o, _, _, h, c, _⟩
  · exact .base (.lst h)
  · exact .base (.frz h)
  · exact .kList h c
theorem ty_tup {a : Addr} {xs : List V} (h : SqT K H a xs) : TyX K H (.ref a) (.type "tuple") := by
  rcases h with (h | ⟨o, h⟩) | ⟨o, _, _, h, c, _⟩
  · exact .base (.tup h)
  · exact .fTuple h
  · exact .kTuple h c
/-- isinstance(value, str) -/
theorem isi_str (h : Dp K H v d) (hi : Itm d) : ∃ t : Value, TyX K H v t ∧ PySem.W.kitOne K t (.type "str") = some (isStrD d) := by
  rcases hi with rfl | rfl | rfl | ⟨z, _, _, rfl | rfl | rfl⟩
  · cases h
    exact ⟨_, .base .non, kit_ty (by decide +kernel)⟩
  · cases h
    exact ⟨_, .base (.bl _), kit_ty (by decide +kernel)⟩
  · cases h
    exact ⟨_, .base (.int _), kit_ty (by decide +kernel)⟩
  · cases h
    exact ⟨_, .base (.str _), kit_ty (by show kitB "str" "str" = some true; decide +kernel)⟩
  · cases h with
    | lst hs _ => exact ⟨_, ty_list hs, kit_ty (by show kitB "list" "str" = some false; decide +kernel)⟩
  · cases h with
    | tup hs _ => exact ⟨_, ty_tup hs, kit_ty (by show kitB "tuple" "str" = some false; decide +kernel)⟩
end
theorem tl_len (z : Str) : z.cps.toList.length = z.length := by simp [Str.length]
/-- the constants of the package's text -/
structure Gv (K : PySem.W.Frag) (mg : Str → Option Value) : Prop where
  small : ∃ u, mg "SMALL_LETTERS" = some u ∧ RelV (.str small) u
  signs : ∃ u, mg "WORD_SIGNS" = some u ∧ RelV (.str signs) u
  most : ∃ u, mg "MOST_SIGNS" = some u ∧ RelV (.int 12) u
  begins : ∃ (t : Addr) (u : Value), mg "BEGINNINGS" = some u ∧ RelV (.ref t) u ∧ ∀ H, SqT K H t [.str newW, .str foundW]
  mostL : ∃ u, mg "MOST_LETTERS" = some u ∧ RelV (.int 12) u
section
variable {P : Program} {w : World} {K : PySem.W.Frag} {mg : Str → Option Value} {base : Heap}
/-! ### is_short_word -/
def spShort : Sp := fun vs H Q _ => ∃ z : Str, vs = [.str z] ∧ z.length ≤ 500 ∧ ∀ H', Same H H' → Q (.bl (shortL z.cps.toList)) H'
abbrev s_is_short_word : Stmt := top 8
theorem sc_is_short_word : FnScope ["value", "sign"] ["value"] (defScope s_is_short_word) := ⟨rfl, rfl, rfl, by decide +kernel, rfl, by decide +kernel, by decide +kernel⟩
theorem ok_short {f : Addr} {fd : FuncData} (F : Fun K "is_short_word" "is_short_word" s_is_short_word f fd) (T : Blt mg) (C : Gv K mg) : FnOk P w K mg base CX0 1 f fd ["value"] spShort := by
  refine F.ok sc_is_short_word (fun vs H Q E h => ?_) (fun cdv A outer s H vs Q E hr h => ?_)
  · obtain ⟨z, rfl, _⟩ := h
    rfl
  · obtain ⟨z, rfl, hz, k⟩ := h
    refine ⟨_, (pss_cons (ps_if (PW.pt (pw_or (pt_not (pt_val (pe_callB call_isi (by rfl) T.n_isinstance (by decide +kernel) (pa_cons (pv 0) (pa_cons (pe_bltn (v := .ty "str") (u := .type "str") rfl T.n_str (by decide +kernel) rfl) pa_nil))))) (pw_or1 (pt_not (pt_chain op_le op_le pe_int (pe_callB call_len_str (by rfl) T.n_len (by decide +kernel) (pa_cons (pv 0) pa_nil)) (pe_gv rfl C.most)))))) (pss_one (ps_ret pe_bl)) pss_nil)
      (pss_one (ps_ret (pe_and (pe_cmpR op_in_sign (pe_ix ix_str (pv 0) pe_int (fun _ _ => rfl)) (pe_gv rfl C.small) rfl) (pe_one (pe_callB (cr_all rfl) (by rfl) T.n_all (by decide +kernel) (pa_cons (pe_lc (own := [("sign", 1)]) rfl sc_is_short_word.nd (pi_str (pv 0)) (blkOk_by (N := ["value", "sign"]) (sc := defScope s_is_short_word) (by decide +kernel)) (fun _ _ _ _ _ => (pg_name (i := 1) sc_is_short_word.nd rfl (Or.inl rfl))) (fun _ _ _ _ _ => pts_nil) (fun _ _ _ _ _ => (pe_cmpR op_in_sign (pv 1) (pe_gv rfl C.signs) rfl))) pa_nil))))))), ?_⟩
    have z1 : (1000 : Nat) ≤ sizeLine := by decide
    have hl := tl_len z
    refine ⟨_, rfl, _, _, _, _, true, rfl, .ty _, .base (.str _), kit_ty (by decide +kernel), _, rfl, ?_⟩
    refine iteF ⟨_, rfl, z, rfl, by omega, _, _, rfl, rfl, _, rfl, ite2 (fun h1 => ?_) (fun h1 => ?_)⟩
    · have h1 : (1 : Int) ≤ (z.length : Nat) := of_decide_eq_true h1
      refine ⟨_, _, rfl, rfl, _, rfl, ite2 (fun h2 => ?_) (fun h2 => ?_)⟩
      · have h2 : ¬ ((z.length : Nat) : Int) ≤ 12 := fun q => by
          rw [decide_eq_true q] at h2
          cases h2
        have e : shortL z.cps.toList = false := by
          unfold shortL
          rw [decide_eq_false (by omega)]
          rfl
        have := k H (Same.refl H)
        rw [e] at this
        exact this
      · have h2 : ((z.length : Nat) : Int) ≤ 12 := Decidable.byContradiction fun q => h2 (by rw [decide_eq_false q]; rfl)
        obtain ⟨c, r, ec⟩ : ∃ c r, z.cps.toList = c :: r := by
          cases e : z.cps.toList with
          | nil =>
            rw [e] at hl
            have : (0 : Nat) = z.length := hl
            omega
          | cons c r => exact ⟨c, r, rfl⟩
        refine ⟨_, rfl, z, 0, c, rfl, rfl, by omega, by rw [ec]; exact at_by (j := 0) rfl rfl, c, small, rfl, rfl, _, rfl, ite2 (fun h3 => ?_) (fun h3 => ?_)⟩
        · refine ⟨_, rfl, z, rfl, fun L hL => ?_⟩
          refine lc_it walk_str (fun i H' => Same H H' ∧ H' L = some (.lst (((z.cps.toList.take i).map fun c => decide (c ∈ signsL)).map V.bl))) ⟨Ask.Same.upd_new (Same.refl H) hL, upd_same⟩ (fun _ _ _ _ => trivial) (fun i x H1 H2 hi h1 y => ?_) (fun H1 h1 => ?_)
          · obtain ⟨rfl, c', hc', rfl⟩ := y
            obtain ⟨sm, hLL⟩ := h1
            refine ⟨rfl, _, rfl, c', signs, rfl, rfl, _, hLL, ?_, Ask.Same.upd_new sm hL, ?_⟩
            · rw [List.length_map, List.length_map, List.length_take]
              omega
            · rw [upd_same]
              have hc2 : z.cps.toList[i]? = some c' := by rw [Array.getElem?_toList]; exact hc'
              rw [List.take_add_one, hc2]
              simp only [Option.toList_some, List.map_append, List.map_cons, List.map_nil]
              rfl
          · obtain ⟨sm, hLL⟩ := h1
            refine ⟨L, _, rfl, SqL.of hLL, ?_⟩
            have e0 : z.cps.toList.take z.cps.size = z.cps.toList := List.take_of_length_le (by simp)
            rw [e0]
            have e : shortL z.cps.toList = (z.cps.toList.map fun c => decide (c ∈ signsL)).all id := by
              unfold shortL
              rw [decide_eq_true (by omega), ec]
              simp only [List.head?_cons, Bool.true_and]
              rw [show decide (c ∈ smallL) = true from h3, Bool.true_and, List.all_map]
              rfl
            have := k H1 sm
            rw [e] at this
            exact this
        · have e : shortL z.cps.toList = false := by
            unfold shortL
            rw [ec]
            simp only [List.head?_cons]
            rw [show decide (c ∈ smallL) = false from (Bool.not_eq_true _).mp h3, Bool.and_false, Bool.false_and]
          have := k H (Same.refl H)
          rw [e] at this
          exact this
    · have h1 : ¬ (1 : Int) ≤ (z.length : Nat) := fun q => h1 (decide_eq_true q)
      have e : shortL z.cps.toList = false := by
        unfold shortL
        rw [decide_eq_false (by omega)]
        rfl
      refine ⟨_, rfl, ite2 (fun _ => ?_) (fun q => absurd rfl q)⟩
      have := k H (Same.refl H)
      rw [e] at this
      exact this
end
end Ask

namespace Ask
open PySem L2
theorem str_ext {a b : Str} (h : a.cps.toList = b.cps.toList) : a = b := by
  obtain ⟨a⟩ := a
  obtain ⟨b⟩ := b
  have h : a.toList = b.toList := h
  rw [Array.toList_inj.mp h]
theorem starts_tilde (z : Str) : Txt.startswith z (Str.ofString "~") = decide (z.cps.toList.head? = some 126) := by
  obtain ⟨⟨l⟩⟩ := z
  unfold Txt.startswith Builtin.Str.subAt
  have e1 : (Str.ofString "~").cps = #[126] := by decide +kernel
  have e2 : (Str.ofString "~").length = 1 := by decide +kernel
  rw [e1, e2]
  cases l with
  | nil => rfl
  | cons c r =>
    have e3 : (⟨(c :: r)⟩ : Array Nat).extract 0 (0 + 1) = #[c] := by simp
    show (decide (0 + 1 ≤ (c :: r).length) && ((⟨(c :: r)⟩ : Array Nat).extract 0 (0 + 1) == #[126])) = decide (some c = some 126)
    rw [e3, decide_eq_true (by simp), Bool.true_and]
    by_cases h : c = 126
    · subst h
      rfl
    · rw [decide_eq_false (by intro q; exact h (Option.some.inj q))]
      simpa using h
theorem cut_rest (z : Str) : cutS z (some 1) none = ⟨(z.cps.toList.drop 1).toArray⟩ := by
  unfold cutS
  rw [show (some (1 : Int)) = some ((1 : Nat) : Int) from rfl, HT.sIx_nat, HT.sIx_none]
  have hl := tl_len z
  by_cases h : z.length = 0
  · have e : z.cps.toList = [] := List.length_eq_zero_iff.mp (by omega)
    rw [e]
    simp
  · have e : min 1 z.length = 1 := by omega
    rw [e, List.take_of_length_le (by rw [List.length_drop]; omega)]
theorem cut_head (z : Str) : cutS z none (some 1) = ⟨(z.cps.toList.take 1).toArray⟩ := by
  unfold cutS
  rw [show (some (1 : Int)) = some ((1 : Nat) : Int) from rfl, HT.sIx_nat, HT.sIx_none]
  have hl := tl_len z
  by_cases h : z.length = 0
  · have e : z.cps.toList = [] := List.length_eq_zero_iff.mp (by omega)
    rw [e]
    simp
  · have e : min 1 z.length = 1 := by omega
    rw [e, List.drop_zero]
theorem head_tilde (z : Str) : decide (V.str (cutS z none (some 1)) = V.str (Str.ofString "~")) = decide (z.cps.toList.head? = some 126) := by
  rw [cut_head]
  have e1 : (Str.ofString "~").cps.toList = [126] := by decide +kernel
  refine decide_eq_decide.mpr ⟨fun h => ?_, fun h => ?_⟩
  · have h2 : (⟨(z.cps.toList.take 1).toArray⟩ : Str) = Str.ofString "~" := V.str.inj h
    have h3 : z.cps.toList.take 1 = [126] := by
      have := congrArg (fun s : Str => s.cps.toList) h2
      rw [e1] at this
      simpa using this
    cases e : z.cps.toList with
    | nil =>
      rw [e] at h3
      cases h3
    | cons c r =>
      rw [e] at h3
      simp at h3
      rw [h3]
      rfl
  · congr 1
    refine str_ext ?_
    rw [e1]
    cases e : z.cps.toList with
    | nil =>
      rw [e] at h
      cases h
    | cons c r =>
      rw [e] at h
      cases h
      simp
theorem word_tilde {z : Str} (h : decide (z.cps.toList.head? = some 126) = true) : cutS z (some 1) none = wordS z := by
  rw [cut_rest]
  unfold wordS wordOf
  rw [if_pos (of_decide_eq_true h)]
theorem word_plain {z : Str} (h : ¬ decide (z.cps.toList.head? = some 126) = true) : z = wordS z := by
  unfold wordS wordOf
  rw [if_neg fun q => h (decide_eq_true q)]
theorem word_len (z : Str) : (wordS z).length ≤ z.length := by
  unfold wordS wordOf
  have hl := tl_len z
  split
  · show (z.cps.toList.drop 1).toArray.size ≤ _
    rw [List.size_toArray, List.length_drop]
    omega
  · show z.cps.toList.toArray.size ≤ _
    rw [List.size_toArray]
    omega
theorem eq_V (a b : Str) : eqV (.str a) (.str b) = decide (a = b) := by
  show (a == b) = _
  by_cases h : a = b
  · subst h; simp
  · rw [decide_eq_false h]
    simpa using h
section
variable {P : Program} {w : World} {K : PySem.W.Frag} {mg : Str → Option Value} {base : Heap}
def spIsL (K : PySem.W.Frag) : Sp := fun vs H Q _ => ∃ (v : V) (d : PyData), vs = [v] ∧ Dp K H v d ∧ Itm d ∧ ∀ H', Same H H' → Q (.bl (isL d)) H'
theorem itm_str {d : PyData} (hi : Itm d) (h : isStrD d = true) : ∃ z : Str, d = .str z ∧ z.length ≤ 500 ∧ Asc z := by
  rcases hi with rfl | rfl | rfl | ⟨z, h1, h2, rfl | rfl | rfl⟩
  · cases h
  · cases h
  · cases h
  · exact ⟨z, rfl, h1, h2⟩
  · cases h
  · cases h
theorem not_str {d : PyData} (h : ¬ isStrD d = true) : isL d = false := by
  cases d <;> first | rfl | exact absurd rfl h
/-! ### is_letter, the package's -/
abbrev s_is_letter : Stmt := top 27
theorem sc_is_letter : FnScope ["value", "word"] ["value"] (defScope s_is_letter) := ⟨rfl, rfl, rfl, by decide +kernel, rfl, by decide +kernel, by decide +kernel⟩
theorem ok_is_letter {f fS : Addr} {fd fdS : FuncData} (F : Fun K "is_letter" "is_letter" s_is_letter f fd) (T : Blt mg) (C : Gv K mg) (GS : FnOk P w K mg base CX0 1 fS fdS ["value"] spShort) (S : At K mg "is_short_word" fS fdS ["value"]) :
    FnOk P w K mg base CX0 2 f fd ["value"] (spIsL K) := by
  refine F.ok sc_is_letter (fun vs H Q E h => ?_) (fun cdv A outer s H vs Q E hr h => ?_)
  · obtain ⟨v, d, rfl, _⟩ := h
    rfl
  · obtain ⟨v, d, rfl, hd, hi, k⟩ := h
    obtain ⟨tB, uB, mB, rB, qB⟩ := C.begins
    refine ⟨_, (pss_cons (ps_if (pt_not (pt_val (pe_callB call_isi (by rfl) T.n_isinstance (by decide +kernel) (pa_cons (pv 0) (pa_cons (pe_bltn (v := .ty "str") (u := .type "str") rfl T.n_str (by decide +kernel) rfl) pa_nil))))) (pss_one (ps_ret pe_bl)) pss_nil)
      (pss_cons (ps_set (i := 1) sc_is_letter.nd rfl (Or.inl rfl) (pe_ifExp (pt_val (pe_m1 PySem.F.slot_str_startswith PySem.F.type_str_startswith mt_startswith (pv 0) pe_str)) (pe_slice sl_str (pv 0) (po_some pe_int) po_none) (pv 0)))
      (pss_one (ps_ret (pe_and (pe_call GS hr (by rfl) S.m S.k S.b .nil pass0 (pa_cons (pv 1) pa_nil)) (pe_one (pe_cmpR op_notIn_seq (pv 1) (pe_glob rfl mB rB) rfl))))))), ?_⟩
    obtain ⟨ty, hty, hkt⟩ := isi_str hd hi
    refine ⟨_, rfl, v, _, ty, _, isStrD d, rfl, .ty _, hty, hkt, _, rfl, ite2 (fun h1 => ?_) (fun h1 => ?_)⟩
    · have h1 : ¬ isStrD d = true := by intro q; rw [q] at h1; cases h1
      have := k H (Same.refl H)
      rw [not_str h1] at this
      exact this
    · have h1 : isStrD d = true := by
        cases q : isStrD d with
        | true => rfl
        | false => rw [q] at h1; exact absurd rfl h1
      obtain ⟨z, rfl, hz, az⟩ := itm_str hi h1
      cases hd
      have z1 : (1000 : Nat) ≤ sizeLine := by decide
      try dsimp only [tNext]
      refine seqIf_cut (fun v H' => v = .str (wordS z) ∧ H' = H) (fun Q' q' => ?_) (fun v H' hv => ?_)
      · refine ⟨_, rfl, ⟨_, rfl⟩, z, _, rfl, rfl, _, rfl, ?_⟩
        rw [starts_tilde]
        refine ite2 (fun h => ?_) (fun h => ?_)
        · exact ⟨_, rfl, _, rfl, z, rfl, by omega, q' _ _ ⟨by rw [word_tilde h], rfl⟩⟩
        · exact ⟨_, rfl, q' _ _ ⟨by rw [← word_plain h], rfl⟩⟩
      · obtain ⟨rfl, rfl⟩ := hv
        have hw := word_len z
        refine ⟨_, rfl, wordS z, rfl, by omega, fun H1 s1 => ⟨_, rfl, ite2 (fun h => ?_) (fun h => ?_)⟩⟩
        · refine ⟨_, rfl, tB, _, rfl, .inr (qB H1), rfl, rfl, ?_⟩
          have e : isL (.str z) = !inV (.str (wordS z)) [.str newW, .str foundW] := by
            show goodW (wordS z) = _
            unfold goodW
            rw [h, Bool.true_and]
            unfold inV
            simp only [List.any_cons, List.any_nil, Bool.or_false, eq_V]
          have := k H1 s1
          rw [e] at this
          exact this
        · have e : isL (.str z) = false := by
            show goodW (wordS z) = _
            unfold goodW
            rw [(Bool.not_eq_true _).mp h, Bool.false_and]
          have := k H1 s1
          rw [e] at this
          exact this
end
end Ask

namespace Ask
open PySem L2
/-! ### what the library asks of data -/
theorem asc_ok {z : Str} (h : Asc z) : PyData.strOk z = true := by
  unfold PyData.strOk
  rw [← Array.all_toList, List.all_eq_true]
  intro c hc
  have := h c hc
  exact decide_eq_true (by omega)
structure Fit (d : PyData) : Prop where
  lay : d.canLay0 = true
  dep : d.depth ≤ 1
  sho : d.showable = true
  nod : d.hasDict = false
  len : d.shown.length ≤ 6000
theorem fit_str {z : Str} (h1 : z.length ≤ 500) (h2 : Asc z) : Fit (.str z) ∧ (PyData.shown (.str z)).length ≤ 5100 := by
  have l := StrLaws.reprText_len z (fun c hc => by have := h2 c hc; omega)
  have l2 : (PyData.shown (.str z)).length ≤ 5100 := by
    show (reprText z).length ≤ 5100
    omega
  exact ⟨⟨asc_ok h2, Nat.zero_le _, rfl, rfl, by omega⟩, l2⟩
theorem itm_fit {d : PyData} (h : Itm d) : Fit d := by
  rcases h with rfl | rfl | rfl | ⟨z, h1, h2, rfl | rfl | rfl⟩
  · exact ⟨rfl, by decide, rfl, rfl, by decide⟩
  · exact ⟨rfl, by decide, rfl, rfl, by decide⟩
  · exact ⟨rfl, by decide, by decide, rfl, by decide⟩
  · exact (fit_str h1 h2).1
  · obtain ⟨f, l⟩ := fit_str h1 h2
    refine ⟨?_, by show max 0 0 + 1 ≤ 1; decide, rfl, rfl, ?_⟩
    · show (PyData.canLay0 (.str z) && true) = true
      rw [f.lay] <;> rfl
    · have := listText_len_le [PyData.shown (.str z)]
      show (listText [PyData.shown (.str z)]).length ≤ 6000
      simp only [List.map_cons, List.map_nil, List.sum_cons, List.sum_nil, List.length_cons, List.length_nil] at this
      omega
  · obtain ⟨f, l⟩ := fit_str h1 h2
    refine ⟨?_, by show max 0 0 + 1 ≤ 1; decide, rfl, rfl, ?_⟩
    · show (PyData.canLay0 (.str z) && true) = true
      rw [f.lay] <;> rfl
    · have := tupleText_len_le [PyData.shown (.str z)]
      show (tupleText [PyData.shown (.str z)]).length ≤ 6000
      simp only [List.map_cons, List.map_nil, List.sum_cons, List.sum_nil, List.length_cons, List.length_nil] at this
      omega
structure FitAll (ds : List PyData) : Prop where
  lay : PyData.canLayAll0 ds = true
  dep : PyData.depthAll ds ≤ 1
  sho : PyData.showableAll ds = true
  nod : PyData.hasDictAll ds = false
  len : ((PyData.shownAll ds).map (·.length)).sum ≤ 6000 * ds.length
  cnt : (PyData.shownAll ds).length = ds.length
theorem fit_all : ∀ {ds : List PyData}, (∀ d ∈ ds, Fit d) → FitAll ds
  | [], _ => ⟨rfl, Nat.zero_le _, rfl, rfl, Nat.le_refl _, rfl⟩
  | d :: r, h => by
    have f := h d (List.mem_cons_self ..)
    have g := fit_all (ds := r) fun x hx => h x (List.mem_cons_of_mem _ hx)
    refine ⟨?_, ?_, ?_, ?_, ?_, ?_⟩
    · show (PyData.canLay0 d && PyData.canLayAll0 r) = true
      rw [f.lay, g.lay] <;> rfl
    · show max (PyData.depth d) (PyData.depthAll r) ≤ 1
      exact Nat.max_le.mpr ⟨f.dep, g.dep⟩
    · show (PyData.showable d && PyData.showableAll r) = true
      rw [f.sho, g.sho] <;> rfl
    · show (PyData.hasDict d || PyData.hasDictAll r) = false
      rw [f.nod, g.nod] <;> rfl
    · show ((PyData.shown d :: PyData.shownAll r).map (·.length)).sum ≤ 6000 * (r.length + 1)
      rw [List.map_cons, List.sum_cons]
      have := f.len
      have := g.len
      omega
    · show (PyData.shown d :: PyData.shownAll r).length = r.length + 1
      rw [List.length_cons, g.cnt]
theorem shaped_of {d : PyData} (h : d.canLay0 = true) (k : d.depth ≤ 64) : SeqAt.shaped d = true := by
  unfold SeqAt.shaped
  rw [h, decide_eq_true k] <;> rfl
theorem FitAll.shapedL {ds : List PyData} (f : FitAll ds) : SeqAt.shaped (.list ds) = true :=
  shaped_of f.lay (by show PyData.depthAll ds + 1 ≤ 64; have := f.dep; omega)
theorem FitAll.shapedT {ds : List PyData} (f : FitAll ds) : SeqAt.shaped (.tuple ds) = true :=
  shaped_of f.lay (by show PyData.depthAll ds + 1 ≤ 64; have := f.dep; omega)
theorem Fit.shaped {d : PyData} (f : Fit d) : SeqAt.shaped d = true := shaped_of f.lay (by have := f.dep; omega)
theorem dp_strs {K : PySem.W.Frag} {H : Hp} : ∀ ys : List Str, DpAll K H (ys.map V.str) (ys.map PyData.str)
  | [] => .nil
  | y :: r => .cons (.str y) (dp_strs r)
theorem fit_strs {ys : List Str} (h : ∀ y ∈ ys, y.length ≤ 500 ∧ Asc y) : FitAll (ys.map PyData.str) := fit_all fun d hd => by
  obtain ⟨y, hy, rfl⟩ := List.mem_map.mp hd
  exact (fit_str (h y hy).1 (h y hy).2).1
theorem eqv_nil : ∀ ds : List PyData, PyData.eqv (.list ds) (.list []) = ds.isEmpty
  | [] => by simp [PyData.eqv, PyData.eqvAll]
  | _ :: _ => by simp [PyData.eqv, PyData.eqvAll]
theorem asc_word {z : Str} (h : Asc z) : Asc (wordS z) := fun c hc => by
  have hc : c ∈ wordOf z.cps.toList := by simpa [wordS] using hc
  unfold wordOf at hc
  split at hc
  · exact h c (List.mem_of_mem_drop hc)
  · exact h c hc
end Ask

namespace Ask
open PySem L2
/-! ### the letters that the laws make are letters, and different ones -/
def fixS (z : Str) : Str := if z = newW ∨ z = foundW then z ++ ("0" : Str) else z
def tildeS : Str := "~"
structure Wds (wd : Nat → Str) (M : Nat) : Prop where
  good : ∀ k, k < M → goodW (wd k) = true
  inj : ∀ j k, j < M → k < M → wd j = wd k → j = k
theorem app_list (a b : Str) : (a ++ b).cps.toList = a.cps.toList ++ b.cps.toList := by rw [Str.cps_append, Array.toList_append]
theorem good_short {z : Str} (h : goodW z = true) : shortL z.cps.toList = true := by
  unfold goodW at h
  exact (Bool.and_eq_true_iff.mp h).1
theorem short_len {l : List Nat} (h : shortL l = true) : 1 ≤ l.length ∧ l.length ≤ 12 := by
  unfold shortL at h
  exact of_decide_eq_true (Bool.and_eq_true_iff.mp (Bool.and_eq_true_iff.mp h).1).1
theorem short_signs {l : List Nat} (h : shortL l = true) : ∀ c ∈ l, c ∈ signsL := by
  unfold shortL at h
  exact fun c hc => of_decide_eq_true (List.all_eq_true.mp (Bool.and_eq_true_iff.mp h).2 c hc)
theorem short_head {l : List Nat} (h : shortL l = true) : ∃ c r, l = c :: r ∧ c ∈ smallL := by
  unfold shortL at h
  have h2 := (Bool.and_eq_true_iff.mp (Bool.and_eq_true_iff.mp h).1).2
  cases l with
  | nil => cases h2
  | cons c r => exact ⟨c, r, rfl, of_decide_eq_true h2⟩
theorem short_mk {c : Nat} {r : List Nat} (h1 : (c :: r).length ≤ 12) (h2 : c ∈ smallL) (h3 : ∀ d ∈ c :: r, d ∈ signsL) : shortL (c :: r) = true := by
  unfold shortL
  rw [decide_eq_true ⟨by simp, h1⟩]
  simp only [List.head?_cons, decide_eq_true h2, Bool.true_and]
  exact List.all_eq_true.mpr fun d hd => decide_eq_true (h3 d hd)
theorem signs_asc' : ∀ c ∈ signsL, c < 128 := signs_asc
theorem small_no : ¬ 126 ∈ smallL := by decide +kernel
theorem small_signs : ∀ c ∈ smallL, c ∈ signsL := by
  have h : smallL.all (fun c => decide (c ∈ signsL)) = true := by decide +kernel
  exact fun c hc => of_decide_eq_true (List.all_eq_true.mp h c hc)
theorem good_asc {z : Str} (h : goodW z = true) : Asc z := fun c hc => signs_asc' c (short_signs (good_short h) c hc)
theorem good_len {z : Str} (h : goodW z = true) : z.length ≤ 12 := by
  have := short_len (good_short h)
  rw [tl_len] at this
  exact this.2
theorem good_no {z : Str} (h : goodW z = true) : z.cps.toList.head? ≠ some 126 := by
  obtain ⟨c, r, e, hc⟩ := short_head (good_short h)
  rw [e]
  intro q
  cases q
  exact small_no hc
theorem word_same {z : Str} (h : z.cps.toList.head? ≠ some 126) : wordS z = z := by
  refine str_ext ?_
  show (wordOf z.cps.toList).toArray.toList = _
  unfold wordOf
  rw [if_neg h]
theorem good_is {z : Str} (h : goodW z = true) : isLs z = true := by
  unfold isLs
  rw [word_same (good_no h)]
  exact h
theorem tilde_is {z : Str} (h : goodW z = true) : isLs (tildeS ++ z) = true := by
  unfold isLs
  have e : wordS (tildeS ++ z) = z := by
    refine str_ext ?_
    show (wordOf (tildeS ++ z).cps.toList).toArray.toList = _
    have e2 : (tildeS ++ z).cps.toList = 126 :: z.cps.toList := by
      rw [app_list]
      have : tildeS.cps.toList = [126] := by decide +kernel
      rw [this]
      rfl
    rw [e2]
    rfl
  rw [e]
  exact h
theorem fix_good {z : Str} (h : shortL z.cps.toList = true) : goodW (fixS z) = true := by
  unfold fixS
  split
  · rename_i q
    rcases q with rfl | rfl <;> decide +kernel
  · rename_i q
    unfold goodW
    rw [h, decide_eq_false (fun e => q (.inl e.symm)), decide_eq_false (fun e => q (.inr e.symm))]
    rfl
theorem fix_at {z : Str} {a : Nat} (h : a < z.cps.toList.length) : (fixS z).cps.toList[a]? = z.cps.toList[a]? := by
  unfold fixS
  split
  · rw [app_list, List.getElem?_append_left h]
  · rfl
theorem wds_mk {wd : Nat → Str} {M : Nat} {S : List Nat} {a : Nat} {sg : Nat → Nat} {T : Nat → List Nat} (ha : a ≤ S.length) (hl : S.length ≤ 11) (hs : ∀ c ∈ S, c ∈ signsL) (hh : ∀ c, S.head? = some c → c ∈ smallL)
    (h1 : ∀ k, k < M → sg k ∈ signsL) (h0 : a = 0 → ∀ k, k < M → sg k ∈ smallL) (inj : ∀ j k, j < M → k < M → sg j = sg k → j = k) (hT : ∀ k, (∀ c ∈ T k, c ∈ signsL) ∧ (T k).length ≤ S.length - a)
    (e : ∀ k, k < M → ∃ z, wd k = fixS z ∧ z.cps.toList = S.take a ++ sg k :: T k) : Wds wd M := by
  refine ⟨fun k hk => ?_, fun j k hj hk q => ?_⟩
  · obtain ⟨z, e1, e2⟩ := e k hk
    rw [e1]
    refine fix_good ?_
    rw [e2]
    have len : (S.take a ++ sg k :: T k).length ≤ 12 := by
      rw [List.length_append, List.length_cons, List.length_take]
      have := (hT k).2
      omega
    have mem : ∀ c ∈ S.take a ++ sg k :: T k, c ∈ signsL := fun c hc => by
      rcases List.mem_append.mp hc with q | q
      · exact hs c (List.mem_of_mem_take q)
      · rcases List.mem_cons.mp q with rfl | q
        · exact h1 k hk
        · exact (hT k).1 c q
    cases a with
    | zero =>
      rw [List.take_zero, List.nil_append] at len mem ⊢
      exact short_mk len (h0 rfl k hk) mem
    | succ a =>
      cases S with
      | nil => simp at ha
      | cons c r =>
        rw [List.take_succ_cons, List.cons_append] at len mem ⊢
        exact short_mk len (hh c rfl) mem
  · obtain ⟨y, e1, e2⟩ := e j hj
    obtain ⟨z, e3, e4⟩ := e k hk
    have l1 : (S.take a).length = a := by rw [List.length_take]; omega
    have p1 : y.cps.toList[a]? = some (sg j) := by
      rw [e2, List.getElem?_append_right (by omega), l1, Nat.sub_self]
      rfl
    have p2 : z.cps.toList[a]? = some (sg k) := by
      rw [e4, List.getElem?_append_right (by omega), l1, Nat.sub_self]
      rfl
    have a1 : a < y.cps.toList.length := by rw [e2, List.length_append, List.length_cons]; omega
    have a2 : a < z.cps.toList.length := by rw [e4, List.length_append, List.length_cons]; omega
    have q2 : (fixS y).cps.toList[a]? = (fixS z).cps.toList[a]? := by rw [← e1, ← e3, q]
    rw [fix_at a1, fix_at a2, p1, p2] at q2
    exact inj j k hj hk (Option.some.inj q2)
/-- the signs of a row of different places -/
theorem step_inj {n f s j k : Nat} (hn : n = 26 ∨ n = 36) (hs : s ∈ [1, 5, 7, 11, 17, 19, 23, 25]) (hj : j < 26) (hk : k < 26) (h : (f + s * j) % n = (f + s * k) % n) : j = k := by
  simp only [List.mem_cons, List.not_mem_nil, or_false] at hs
  rcases hn with rfl | rfl <;> rcases hs with rfl | rfl | rfl | rfl | rfl | rfl | rfl | rfl <;> omega
theorem nodup_at {l : List Nat} (h : l.Nodup) {i j : Nat} {c : Nat} (h1 : l[i]? = some c) (h2 : l[j]? = some c) : i = j := by
  exact (List.getElem?_inj (List.getElem?_eq_some_iff.mp h1).1 h).mp (h1.trans h2.symm)
theorem small_nodup : smallL.Nodup := by decide +kernel
theorem signs_nodup : signsL.Nodup := by decide +kernel
/-! ### what stands behind i turns -/
structure Iv (wd : Nat → Str) (ys : List Str) (i : Nat) : Prop where
  len : ys.length = i
  from_ : ∀ y ∈ ys, ∃ j, j < i ∧ (y = wd j ∨ y = tildeS ++ wd j)
  nd : ys.Nodup
  last : ∀ l, ys.getLast? = some l → l.cps.toList.head? ≠ some 126 → ¬ (tildeS ++ l) ∈ ys
section
variable {wd : Nat → Str} {M i : Nat} {ys : List Str}
theorem tilde_inj {a b : Str} (h : tildeS ++ a = tildeS ++ b) : a = b := by
  have h2 := congrArg (fun z : Str => z.cps.toList) h
  simp only [app_list] at h2
  exact str_ext (List.append_cancel_left h2)
theorem tilde_head (a : Str) : (tildeS ++ a).cps.toList.head? = some 126 := by
  rw [app_list]
  have : tildeS.cps.toList = [126] := by decide +kernel
  rw [this]
  rfl
theorem Iv.nil : Iv wd [] 0 := ⟨rfl, fun _ h => by simp at h, List.nodup_nil, fun _ h => by simp at h⟩
theorem Iv.fresh (v : Iv wd ys i) (w : Wds wd M) (hi : i < M) : ¬ wd i ∈ ys ∧ ¬ (tildeS ++ wd i) ∈ ys := by
  refine ⟨fun h => ?_, fun h => ?_⟩
  · obtain ⟨j, hj, e | e⟩ := v.from_ _ h
    · have := w.inj i j hi (by omega) e
      omega
    · exact good_no (w.good i hi) (by rw [e]; exact tilde_head _)
  · obtain ⟨j, hj, e | e⟩ := v.from_ _ h
    · exact good_no (w.good j (by omega)) (by rw [← e]; exact tilde_head _)
    · have := w.inj i j hi (by omega) (tilde_inj e)
      omega
theorem nodup_app {ys : List Str} {y : Str} (h : ys.Nodup) (n : ¬ y ∈ ys) : (ys ++ [y]).Nodup := by
  rw [List.nodup_append]
  refine ⟨h, by simp, fun a ha b hb q => ?_⟩
  rw [List.mem_singleton.mp hb] at q
  rw [q] at ha
  exact n ha
theorem Iv.plain (v : Iv wd ys i) (w : Wds wd M) (hi : i < M) : Iv wd (ys ++ [wd i]) (i + 1) := by
  obtain ⟨f1, f2⟩ := v.fresh w hi
  refine ⟨by rw [List.length_append, v.len]; rfl, fun y hy => ?_, nodup_app v.nd f1, fun l hl hn => ?_⟩
  · rcases List.mem_append.mp hy with q | q
    · obtain ⟨j, hj, e⟩ := v.from_ y q
      exact ⟨j, by omega, e⟩
    · exact ⟨i, by omega, .inl (List.mem_singleton.mp q)⟩
  · rw [List.getLast?_concat] at hl
    cases hl
    intro q
    rcases List.mem_append.mp q with q | q
    · exact f2 q
    · exact good_no (w.good i hi) (by rw [← List.mem_singleton.mp q]; exact tilde_head _)
theorem Iv.tilde (v : Iv wd ys i) (w : Wds wd M) (hi : i < M) : Iv wd (ys ++ [tildeS ++ wd i]) (i + 1) := by
  obtain ⟨f1, f2⟩ := v.fresh w hi
  refine ⟨by rw [List.length_append, v.len]; rfl, fun y hy => ?_, nodup_app v.nd f2, fun l hl hn => ?_⟩
  · rcases List.mem_append.mp hy with q | q
    · obtain ⟨j, hj, e⟩ := v.from_ y q
      exact ⟨j, by omega, e⟩
    · exact ⟨i, by omega, .inr (List.mem_singleton.mp q)⟩
  · rw [List.getLast?_concat] at hl
    cases hl
    exact absurd (tilde_head _) hn
theorem Iv.again (v : Iv wd ys i) {l : Str} (hl : ys.getLast? = some l) (hn : l.cps.toList.head? ≠ some 126) : Iv wd (ys ++ [tildeS ++ l]) (i + 1) := by
  have ml : l ∈ ys := List.mem_of_getLast? hl
  refine ⟨by rw [List.length_append, v.len]; rfl, fun y hy => ?_, nodup_app v.nd (v.last l hl hn), fun k hk hn' => ?_⟩
  · rcases List.mem_append.mp hy with q | q
    · obtain ⟨j, hj, e⟩ := v.from_ y q
      exact ⟨j, by omega, e⟩
    · obtain ⟨j, hj, e | e⟩ := v.from_ l ml
      · exact ⟨j, by omega, .inr (by rw [List.mem_singleton.mp q, e])⟩
      · exact absurd (by rw [e]; exact tilde_head _) hn
  · rw [List.getLast?_concat] at hk
    cases hk
    exact absurd (tilde_head _) hn'
/-- at the end: letters, different ones -/
theorem Iv.ends (v : Iv wd ys i) (w : Wds wd M) (hi : i ≤ M) : ys.length = i ∧ ys.Nodup ∧ ∀ y ∈ ys, isLs y = true ∧ y.length ≤ 13 ∧ Asc y := by
  refine ⟨v.len, v.nd, fun y hy => ?_⟩
  obtain ⟨j, hj, e⟩ := v.from_ y hy
  have g := w.good j (by omega)
  rcases e with rfl | rfl
  · exact ⟨good_is g, by have := good_len g; omega, good_asc g⟩
  · refine ⟨tilde_is g, ?_, Asc.app (.lit (by decide +kernel)) (good_asc g)⟩
    rw [Str.length_append]
    have := good_len g
    show 1 + _ ≤ 13
    omega
end
end Ask

namespace Ask
open PySem L2
theorem join_ones : ∀ cs : List Nat, (Str.join (Str.ofString "") (cs.map fun c => (⟨#[c]⟩ : Str))).cps.toList = cs
  | [] => rfl
  | [c] => rfl
  | c :: d :: r => by
    show (((⟨#[c]⟩ : Str) ++ Str.ofString "") ++ Str.join (Str.ofString "") ((d :: r).map fun c => (⟨#[c]⟩ : Str))).cps.toList = _
    rw [app_list, app_list, join_ones (d :: r)]
    rfl
theorem joinT_ones (cs : List Nat) : (Txt.join (Str.ofString "") (cs.map fun c => (⟨#[c]⟩ : Str))).cps.toList = cs := by
  rw [TL.join_eq]
  exact join_ones cs
theorem cut_pre (z : Str) (n : Nat) : (cutS z none (some (n : Int))).cps.toList = z.cps.toList.take n := by
  unfold cutS
  rw [HT.sIx_none, HT.sIx_nat, List.drop_zero, Nat.sub_zero]
  have hl := tl_len z
  by_cases h : n ≤ z.length
  · rw [Nat.min_eq_left h]
  · rw [Nat.min_eq_right (by omega), List.take_of_length_le (by omega), List.take_of_length_le (by omega)]
theorem cut_suf (z : Str) (n : Nat) : (cutS z (some (n : Int)) none).cps.toList = z.cps.toList.drop n := by
  unfold cutS
  rw [HT.sIx_none, HT.sIx_nat]
  have hl := tl_len z
  by_cases h : n ≤ z.length
  · rw [Nat.min_eq_left h, List.take_of_length_le (by rw [List.length_drop]; omega)]
  · rw [Nat.min_eq_right (by omega), List.drop_of_length_le (by omega), List.drop_of_length_le (by omega)]
    simp
theorem cut_mem {z : Str} {lo hi : Option Int} {c : Nat} (h : c ∈ (cutS z lo hi).cps.toList) : c ∈ z.cps.toList := List.mem_of_mem_drop (List.mem_of_mem_take h)
/-- the sign of turn k -/
def sgN (zc : Str) (fr s k : Nat) : Nat := (zc.cps.toList[(fr + s * k) % zc.length]?).getD 0
theorem sgN_at (zc : Str) (fr s k : Nat) (h : 0 < zc.length) : zc.cps.toList[(fr + s * k) % zc.length]? = some (sgN zc fr s k) := by
  have hl := tl_len zc
  have lt : (fr + s * k) % zc.length < zc.cps.toList.length := by
    rw [hl]
    exact Nat.mod_lt _ h
  unfold sgN
  rw [List.getElem?_eq_getElem lt]
  rfl
theorem sgN_mem (zc : Str) (fr s k : Nat) (h : 0 < zc.length) : sgN zc fr s k ∈ zc.cps.toList := List.mem_of_getElem? (sgN_at zc fr s k h)
/-- the word of turn k -/
def wdN (stem zc : Str) (at_ fr s : Nat) (k : Nat) : Str :=
  fixS ((cutS stem none (some (at_ : Int)) ++ (⟨#[sgN zc fr s k]⟩ : Str)) ++ cutS (cutS stem (some (at_ : Int)) none) none (some (((cutS stem (some (at_ : Int)) none).length : Int) - (0 + (k : Int)) * (if decide (0 + (k : Int) < 2) = true then 1 else 0))))
theorem wdN_ok {stem zc : Str} {at_ fr s : Nat} (ha : at_ ≤ stem.length) (hl : stem.length ≤ 11) (hs : ∀ c ∈ stem.cps.toList, c ∈ signsL) (hh : ∀ c, stem.cps.toList.head? = some c → c ∈ smallL)
    (hz : zc = if 0 < at_ then signs else small) (hst : s ∈ [1, 5, 7, 11, 17, 19, 23, 25]) : Wds (wdN stem zc at_ fr s) 26 := by
  have hL := tl_len stem
  have hn : zc.length = 26 ∨ zc.length = 36 := by
    rw [hz]
    split
    · exact .inr signs_len
    · exact .inl small_len
  have pos : 0 < zc.length := by omega
  have nd : zc.cps.toList.Nodup := by
    rw [hz]
    split
    · exact signs_nodup
    · exact small_nodup
  refine wds_mk (S := stem.cps.toList) (a := at_) (sg := sgN zc fr s) (T := fun k => (cutS (cutS stem (some (at_ : Int)) none) none (some (((cutS stem (some (at_ : Int)) none).length : Int) - (0 + (k : Int)) * (if decide (0 + (k : Int) < 2) = true then 1 else 0)))).cps.toList)
    (by omega) (by omega) hs hh (fun k hk => ?_) (fun e k hk => ?_) (fun j k hj hk q => ?_) (fun k => ⟨fun c hc => hs c (cut_mem (cut_mem hc)), ?_⟩) (fun k hk => ⟨_, rfl, ?_⟩)
  · have := sgN_mem zc fr s k pos
    generalize sgN zc fr s k = x at this ⊢
    rw [hz] at this
    split at this
    · exact this
    · exact small_signs _ this
  · have := sgN_mem zc fr s k pos
    generalize sgN zc fr s k = x at this ⊢
    rw [hz, e] at this
    exact this
  · have e1 := sgN_at zc fr s j pos
    have e2 := sgN_at zc fr s k pos
    rw [q] at e1
    exact step_inj hn hst hj hk (nodup_at nd e1 e2)
  · rw [tl_len]
    refine Nat.le_trans (cutS_length _ _ _) ?_
    have := tl_len (cutS stem (some (at_ : Int)) none)
    rw [cut_suf, List.length_drop] at this
    omega
  · rw [app_list, app_list, cut_pre]
    show (_ ++ [sgN zc fr s k]) ++ _ = _
    rw [List.append_assoc]
    rfl
/-- what the block of the n signs leaves -/
def SgL (L : List Nat) (p c : Addr) (ns : List Int) (H0 : Hp) (D : Addr) (B i : Nat) (H : Hp) : Prop := ∃ cs : List Nat, Go p c ns H0 H (B + i) ∧ H D = some (.lst ((cs.map fun c => (⟨#[c]⟩ : Str)).map V.str)) ∧ cs.length = i ∧ ∀ c ∈ cs, c ∈ L
theorem SgL.next {L : List Nat} {p c D : Addr} {ns : List Int} {H0 H H' : Hp} {B i j : Nat} (h : SgL L p c ns H0 D B i H) (h0 : H0 D = none) (g : Go p c ns H H' (B + i + 1)) (hi : i ≤ 1000) (hj : j ∈ L) :
    ∃ acc, H' D = some (.lst acc) ∧ acc.length < sizeLine ∧ SgL L p c ns H0 D B (i + 1) (upd H' D (.lst (acc ++ [.str ⟨#[j]⟩]))) := by
  obtain ⟨cs, g0, hD, hl, h1⟩ := h
  refine ⟨_, g.lst hD, ?_, cs ++ [j], ((g0.step g).mut h0).mono (by omega), ?_, ?_, ?_⟩
  · rw [List.length_map, List.length_map]
    exact small1000 (by omega)
  · rw [upd_same, List.map_append, List.map_append]
    rfl
  · rw [List.length_append, hl]
    rfl
  · intro y hy
    rcases List.mem_append.mp hy with z | z
    · exact h1 y z
    · rw [List.mem_singleton.mp z]
      exact hj
theorem in_mem {x : Str} {ys : List Str} (h : x ∈ ys) : inV (.str x) (ys.map V.str) = true := by
  unfold inV
  rw [List.any_eq_true]
  refine ⟨.str x, List.mem_map.mpr ⟨x, h, rfl⟩, ?_⟩
  exact decide_eq_true rfl
section
variable {P : Program} {w : World} {K : PySem.W.Frag} {mg : Str → Option Value} {base : Heap}
/-- different letters in a new list -/
def spLettersD : Sp := fun vs H Q _ => ∃ (p c : Addr) (ns : List Int) (m : Int) (B : Nat), vs = [.ref p, .int m] ∧ Pen c ns H p B ∧ B ≤ 500000000 ∧ 0 ≤ m ∧ m ≤ 26 ∧
  ∀ (H' : Hp) (q : Addr) (ys : List Str), Go p c ns H H' (B + 150) → H q = none → H' q = some (.lst (ys.map V.str)) → (ys.length : Int) = m → ys.Nodup → (∀ y ∈ ys, isLs y = true ∧ y.length ≤ 13 ∧ Asc y) → Q (.ref q) H'
theorem ok_lettersD {f fD fP : Addr} {fd fdD fdP : FuncData} (F : Fun K "_law_letters" "_law_letters" s__law_letters f fd) (T : Blt mg)
    (GD : FnOk P w K mg base CX0 1 fD fdD ["_law_pen_here", "_law_many"] spDraw) (D : At K mg "_law_draw" fD fdD ["_law_pen_here", "_law_many"])
    (GP : FnOk P w K mg base CX0 2 fP fdP ["_law_pen_here", "_law_options"] (spPick K)) (C : At K mg "_law_pick" fP fdP ["_law_pen_here", "_law_options"]) :
    FnOk P w K mg base CX0 3 f fd ["_law_pen_here", "_law_many"] spLettersD := by
  refine F.ok sc__law_letters (fun vs H Q E h => ?_) (fun cdv A outer s H vs Q E hr h => ?_)
  · obtain ⟨p, c, ns, m, B, rfl, _⟩ := h
    rfl
  · obtain ⟨p, c, ns, m, B, rfl, hpen, hB, hm0, hm1, k⟩ := h
    have hr1 : Room 1 _ := hr.mono (by decide)
    refine ⟨_, (pss_cons (ps_asg (pe_tup (pa_cons pe_str (pa_cons pe_str pa_nil))) (pg_tup rfl (pgs_cons (pg_name (i := 2) sc__law_letters.nd rfl (Or.inr rfl)) (pgs_cons (pg_name (i := 3) sc__law_letters.nd rfl (Or.inr rfl)) pgs_nil))))
      (pss_cons (ps_set (i := 4) sc__law_letters.nd rfl (Or.inl rfl) (pe_join pe_str (pe_lc (own := [("_law_k", 11)]) rfl sc__law_letters.nd (pi_range1 rfl T.n_range (pa_cons (pe_callB (call_min2 rfl) (by rfl) T.n_min (by decide +kernel) (pa_cons pe_int (pa_cons (pe_call GD hr1 (by rfl) D.m D.k D.b .nil pass0 (pa_cons (pv 0) (pa_cons pe_int pa_nil))) pa_nil))) pa_nil)) (blkOk_by (N := nLet) (sc := defScope s__law_letters) (by decide +kernel)) (fun _ _ _ _ _ => (pg_name (i := 11) sc__law_letters.nd rfl (Or.inl rfl))) (fun _ _ _ _ _ => pts_nil) (fun _ _ _ _ _ => (pe_call GP (by exact hr) (by rfl) C.m C.k C.b .nil pass0 (pa_cons (pv 0) (pa_cons (pv 2) pa_nil)))))))
      (pss_cons (ps_set (i := 4) sc__law_letters.nd rfl (Or.inl rfl) (pe_op op_add_str (pv 4) (pe_join pe_str (pe_lc (own := [("_law_k", 11)]) rfl sc__law_letters.nd (pi_range1 rfl T.n_range (pa_cons (pe_op op_mul (pe_call GD hr1 (by rfl) D.m D.k D.b .nil pass0 (pa_cons (pv 0) (pa_cons pe_int pa_nil))) (pe_callB call_len_str (by rfl) T.n_len (by decide +kernel) (pa_cons (pv 4) pa_nil))) pa_nil)) (blkOk_by (N := nLet) (sc := defScope s__law_letters) (by decide +kernel)) (fun _ _ _ _ _ => (pg_name (i := 11) sc__law_letters.nd rfl (Or.inl rfl))) (fun _ _ _ _ _ => pts_nil) (fun _ _ _ _ _ => (pe_call GP (by exact hr) (by rfl) C.m C.k C.b .nil pass0 (pa_cons (pv 0) (pa_cons (pv 3) pa_nil))))))))
      (pss_cons (ps_par (i := 5) (j := 6) rfl sc__law_letters.nd rfl rfl (by decide) rfl rfl (pa_cons (pe_call GD hr1 (by rfl) D.m D.k D.b .nil pass0 (pa_cons (pv 0) (pa_cons (pe_op op_add (pe_callB call_len_str (by rfl) T.n_len (by decide +kernel) (pa_cons (pv 4) pa_nil)) pe_int) pa_nil))) (pa_cons (pe_call GD hr1 (by rfl) D.m D.k D.b .nil pass0 (pa_cons (pv 0) (pa_cons pe_int pa_nil))) pa_nil)) (by rfl))
      (pss_cons (ps_set (i := 7) sc__law_letters.nd rfl (Or.inl rfl) (pe_ifExp (pt_cmpR op_gt (pv 5) pe_int (nomark _)) (pv 3) (pv 2)))
      (pss_cons (ps_par3 (i := 8) (j := 9) (l := 10) rfl sc__law_letters.nd rfl rfl rfl (by decide) (by decide) (by decide) rfl rfl rfl (pa_cons (pe_call GP hr (by rfl) C.m C.k C.b .nil pass0 (pa_cons (pv 0) (pa_cons (pe_lst (pa_cons pe_int (pa_cons pe_int (pa_cons pe_int (pa_cons pe_int (pa_cons pe_int (pa_cons pe_int (pa_cons pe_int (pa_cons pe_int pa_nil))))))))) pa_nil))) (pa_cons (pe_slice sl_str (pv 4) (po_some (pv 5)) po_none) (pa_cons (pe_lst pa_nil) pa_nil))) (by rfl))
      (pss_cons (ps_for PassesOwn.never rfl (pi_range1 rfl T.n_range (pa_cons (pv 1) pa_nil)) (pg_name (i := 11) sc__law_letters.nd rfl (Or.inl rfl)) (pss_cons (ps_set (i := 12) sc__law_letters.nd rfl (Or.inl rfl) (pe_ix ix_str (pv 7) (pe_op op_mod (pe_callTy call_int1 (by rfl) T.n_int (by decide +kernel) (pa_cons (pe_op op_add (pv 6) (pe_op op_mul (pv 8) (pv 11))) pa_nil)) (pe_callB call_len_str (by rfl) T.n_len (by decide +kernel) (pa_cons (pv 7) pa_nil))) (fun _ _ => rfl)))
      (pss_cons (ps_set (i := 13) sc__law_letters.nd rfl (Or.inl rfl) (pe_op op_add_str (pe_op op_add_str (pe_slice sl_str (pv 4) po_none (po_some (pv 5))) (pv 12)) (pe_slice sl_str (pv 9) po_none (po_some (pe_op op_sub (pe_callB call_len_str (by rfl) T.n_len (by decide +kernel) (pa_cons (pv 9) pa_nil)) (pe_op op_mul (pv 11) (pe_callTy call_int1 (by rfl) T.n_int (by decide +kernel) (pa_cons (pe_cmpR op_lt (pv 11) pe_int (nomark _)) pa_nil))))))))
      (pss_cons (ps_if (pt_cmpR op_in_seq (pv 13) (pe_tup (pa_cons pe_str (pa_cons pe_str pa_nil))) rfl) (pss_one (ps_set (i := 13) sc__law_letters.nd rfl (Or.inl rfl) (pe_op op_add_str (pv 13) pe_str))) pss_nil)
      (pss_cons (ps_if (PW.pt (pw_and (pt_cmpR op_gt (pv 11) pe_int (nomark _)) (pw_and (pt_cmpR op_ne (pe_slice sl_str (pe_ix ix_list (pv 10) (pe_un un_neg pe_int) (fun _ _ => rfl)) po_none (po_some pe_int)) pe_str (nomark _)) (pw_and1 (pt_cmpR op_eq (pe_call GD hr1 (by rfl) D.m D.k D.b .nil pass0 (pa_cons (pv 0) (pa_cons pe_int pa_nil))) pe_int (nomark _)))))) (pss_one (ps_set (i := 13) sc__law_letters.nd rfl (Or.inl rfl) (pe_ix ix_list (pv 10) (pe_un un_neg pe_int) (fun _ _ => rfl)))) pss_nil)
      (pss_one (ps_expr (pe_bm PySem.F.plainAttrs_list PySem.F.slot_list_append PySem.F.type_list_append mt_append (pv 10) (pa_cons (pe_ifExp (PW.pt (pw_and (pt_cmpR op_notIn_seq (pv 13) (pv 10) rfl) (pw_and1 (pt_cmpR op_gt (pe_call GD hr1 (by rfl) D.m D.k D.b .nil pass0 (pa_cons (pv 0) (pa_cons pe_int pa_nil))) pe_int (nomark _))))) (pv 13) (pe_op op_add_str pe_str (pv 13))) pa_nil)))))))))
      (pss_one (ps_ret (pv 10)))))))))), ?_⟩
    have g0 := Go.refl hpen
    have z1 : (1000 : Nat) ≤ sizeLine := by decide
    -- small, signs
    refine ⟨by show 2 ≤ sizeLine; decide, fun t1 ht1 => ⟨t1, _, rfl, SqT.of upd_same, rfl, _, _, rfl, _, _, rfl, rfl, ?_⟩⟩
    have g1 := g0.new (o := .tup [.str small, .str signs]) ht1
    change Go p c ns H (upd H t1 (.tup [.str "abcdefghijklmnopqrstuvwxyz", .str "abcdefghijklmnopqrstuvwxyz0123456789"])) B at g1
    generalize upd H t1 _ = H1 at g1 ⊢
    -- stem, its first sign or none
    refine ⟨⟨_, rfl⟩, _, rfl, p, c, ns, 4, B, rfl, g1.pen, by omega, by decide, by decide, fun H2 r g2 r0 r1 => ⟨1, r, rfl, _, rfl, by split <;> omega, by split <;> omega, fun L hL => ?_⟩⟩
    have g2 := g1.step g2
    obtain ⟨n, en, hn⟩ : ∃ n : Nat, (if r < 1 then r else 1).toNat = n ∧ n ≤ 1 := ⟨_, rfl, by split <;> omega⟩
    rw [en]
    have hL0 := g2.free hL
    refine lc_range (lo := 0) (n := n) (SgL smallL p c ns H L (B + 1)) ⟨[], g2.new hL, upd_same, rfl, by simp⟩ (fun i H3 hi hs => ?_) (fun H3 hs => ?_)
    · obtain ⟨cs, g3, _⟩ := id hs
      refine ⟨rfl, ?_⟩
      exact ⟨_, rfl, _, rfl, p, c, ns, _, B + 1 + i, rfl, g3.pen, by omega, .inr ⟨small, rfl, by rw [small_len]; decide, by rw [small_len]; decide, fun H4 j g4 hj => hs.next hL0 g4 (by omega) hj⟩⟩
    obtain ⟨cs, g3, hL3, hl3, h13⟩ := hs
    have one1 : ∀ (cs : List Nat) (y : Str), y ∈ (cs.map fun c => (⟨#[c]⟩ : Str)) → y.length = 1 := fun cs y hy => by
      obtain ⟨c', _, rfl⟩ := List.mem_map.mp hy
      rfl
    refine ⟨_, L, cs.map fun c => (⟨#[c]⟩ : Str), rfl, rfl, .inl (SqL.of hL3), (by rw [len_sum1 _ (one1 cs), List.length_map]; show cs.length + cs.length * 0 ≤ _; omega), ?_⟩
    have hst := joinT_ones cs
    generalize Txt.join (Str.ofString "") (cs.map fun c => (⟨#[c]⟩ : Str)) = stem at hst ⊢
    have hstem : stem.length = n := by rw [← tl_len, hst, hl3]
    clear hL3
    -- stem, further signs
    refine ⟨_, rfl, ⟨_, rfl⟩, _, rfl, p, c, ns, 11, B + 1 + n, rfl, g3.pen, by omega, by decide, by decide, fun H4 r' g4 r0' r1' => ?_⟩
    have g4 := g3.step g4
    refine ⟨_, rfl, stem, rfl, Nat.le_trans (show stem.length ≤ 1000 by omega) (by decide), _, _, rfl, rfl, mul_small (by omega), ?_⟩
    obtain ⟨n', en', hn', ei', hn0⟩ : ∃ n' : Nat, (r' * (stem.length : Int)).toNat = n' ∧ n' ≤ 10 ∧ r' * (stem.length : Int) = (n' : Int) ∧ (n = 0 → n' = 0) := by
      rw [hstem]
      have h01 : n = 0 ∨ n = 1 := by omega
      rcases h01 with e | e
      · rw [e]
        exact ⟨0, by simp, by decide, by simp, fun _ => rfl⟩
      · rw [e]
        exact ⟨r'.toNat, by simp, by omega, by simp; omega, fun z => absurd z (by decide)⟩
    refine ⟨_, rfl, by omega, by omega, fun L' hL' => ?_⟩
    rw [en']
    have hL0' := g4.free hL'
    refine lc_range (lo := 0) (n := n') (SgL signsL p c ns H L' (B + 3)) ⟨[], (g4.new hL').mono (by omega), upd_same, rfl, by simp⟩ (fun i H5 hi hs => ?_) (fun H5 hs => ?_)
    · obtain ⟨cs, g5, _⟩ := id hs
      refine ⟨rfl, ?_⟩
      exact ⟨_, rfl, _, rfl, p, c, ns, _, B + 3 + i, rfl, g5.pen, by omega, .inr ⟨signs, rfl, by rw [signs_len]; decide, by rw [signs_len]; decide, fun H4 j g4 hj => hs.next hL0' g4 (by omega) hj⟩⟩
    obtain ⟨cs2, g5, hL5, hl5, h15⟩ := hs
    refine ⟨_, L', cs2.map fun c => (⟨#[c]⟩ : Str), rfl, rfl, .inl (SqL.of hL5), (by rw [len_sum1 _ (one1 cs2), List.length_map]; show cs2.length + cs2.length * 0 ≤ _; omega), ?_⟩
    have hst2 := joinT_ones cs2
    generalize Txt.join (Str.ofString "") (cs2.map fun c => (⟨#[c]⟩ : Str)) = more at hst2 ⊢
    have hmore : more.length = n' := by rw [← tl_len, hst2, hl5]
    refine ⟨_, _, rfl, rfl, Nat.le_trans (show stem.length + more.length ≤ 1000 by omega) (by decide), ?_⟩
    have hlen : (stem ++ more).length ≤ 11 := by
      rw [Str.length_append]
      omega
    have hls : ∀ d ∈ (stem ++ more).cps.toList, d ∈ signsL := by
      rw [app_list, hst, hst2]
      intro d hd
      rcases List.mem_append.mp hd with z | z
      · exact small_signs d (h13 d z)
      · exact h15 d z
    have hlh : ∀ d, (stem ++ more).cps.toList.head? = some d → d ∈ smallL := by
      rw [app_list, hst, hst2]
      intro d hd
      cases cs with
      | nil =>
        have e0 : n = 0 := hl3.symm
        have e1 := hn0 e0
        rw [e1] at hl5
        rw [List.eq_nil_of_length_eq_zero hl5] at hd
        cases hd
      | cons a b =>
        cases hd
        exact h13 _ (List.mem_cons_self ..)
    generalize stem ++ more = stem' at hlen hls hlh ⊢
    replace g5 : Go p c ns H H5 (B + 20) := g5.mono (by omega)
    clear ei' en' hstem hmore g4 g3 g2 g1 hL5 h15 hl5 h13 hl3 hst hst2 hn0
    -- at, front
    refine ⟨_, rfl, _, rfl, stem', rfl, by omega, _, _, rfl, rfl, p, c, ns, _, B + 20, rfl, g5.pen, by omega, by omega, by omega, fun H6 at_ g6 a0 a1 => ?_⟩
    refine ⟨_, rfl, p, c, ns, 36, B + 20 + 1, rfl, g6.pen, by omega, by decide, by decide, fun H7 fr g7 f0 f1 => ⟨_, _, rfl, ?_⟩⟩
    replace g7 : Go p c ns H H7 (B + 25) := ((g5.step g6).step g7).mono (by omega)
    clear g5 g6
    obtain ⟨atN, rfl⟩ : ∃ n : Nat, at_ = (n : Int) := ⟨at_.toNat, by omega⟩
    obtain ⟨frN, rfl⟩ : ∃ n : Nat, fr = (n : Int) := ⟨fr.toNat, by omega⟩
    obtain ⟨zc, hz⟩ : ∃ zc : Str, zc = if 0 < atN then signs else small := ⟨_, rfl⟩
    -- choice
    try dsimp only
    refine seqIf_cut (fun v H' => H' = H7 ∧ v = .str zc) (fun Q' q' => ?_) (fun v H' hv => ?_)
    · refine ⟨_, rfl, _, _, rfl, rfl, _, rfl, ?_⟩
      refine ite2 (fun h => ?_) (fun h => ?_)
      · have h : (0 : Int) < (atN : Int) := of_decide_eq_true h
        exact ⟨_, rfl, q' _ _ ⟨rfl, by rw [hz, if_pos (by omega)]; rfl⟩⟩
      · have h : ¬ (0 : Int) < (atN : Int) := fun q => h (decide_eq_true q)
        exact ⟨_, rfl, q' _ _ ⟨rfl, by rw [hz, if_neg (by omega)]; rfl⟩⟩
    obtain ⟨rfl, rfl⟩ := hv
    -- step, tail, found
    refine ⟨_, rfl, by show 8 ≤ sizeLine; decide, fun o ho => ⟨p, c, ns, _, B + 25, rfl, (g7.new ho).pen, by omega, .inl ⟨o, _, rfl, SqL.of upd_same, by show 0 < 8; decide, by show 8 ≤ 1000; decide, fun H9 v g9 hv => ?_⟩⟩⟩
    have g9 := (g7.new ho).step g9
    obtain ⟨st, rfl, hst⟩ : ∃ s : Nat, v = .int (s : Int) ∧ s ∈ [1, 5, 7, 11, 17, 19, 23, 25] := by
      simp only [List.mem_cons, List.not_mem_nil, or_false] at hv
      rcases hv with rfl | rfl | rfl | rfl | rfl | rfl | rfl | rfl
      · exact ⟨1, rfl, by decide⟩
      · exact ⟨5, rfl, by decide⟩
      · exact ⟨7, rfl, by decide⟩
      · exact ⟨11, rfl, by decide⟩
      · exact ⟨17, rfl, by decide⟩
      · exact ⟨19, rfl, by decide⟩
      · exact ⟨23, rfl, by decide⟩
      · exact ⟨25, rfl, by decide⟩
    have st1 : st ≤ 25 := by
      simp only [List.mem_cons, List.not_mem_nil, or_false] at hst
      omega
    have W : Wds (wdN stem' zc atN frN st) 26 := wdN_ok (by omega) hlen hls hlh hz hst
    have zl : 0 < zc.length ∧ zc.length ≤ 36 := by
      rw [hz]
      split
      · rw [signs_len]
        decide
      · rw [small_len]
        decide
    refine ⟨_, rfl, _, rfl, _, rfl, _, rfl, by omega, Nat.zero_le _, fun q hq => ⟨_, _, _, rfl, ?_⟩⟩
    obtain ⟨tail, etail⟩ : ∃ tail, tail = cutS stem' (some (atN : Int)) none := ⟨_, rfl⟩
    have htl : tail.length ≤ 11 := by rw [etail]; exact Nat.le_trans (cutS_length _ _ _) hlen
    rw [← etail]
    have hq0 := g9.free hq
    have g10 : Go p c ns H (upd H9 q (.lst [])) (B + 60) := (g9.new hq).mono (by omega)
    have hq1 : upd H9 q (.lst []) q = some (.lst (([] : List Str).map V.str)) := upd_same
    generalize upd H9 q (.lst []) = H10 at g10 hq1 ⊢
    clear g9 g7 hv hq ho
    -- the loop
    refine ⟨_, rfl, m, rfl, by omega, by omega, for_range (lo := 0) (n := m.toNat) (fun i σ' H' => ∃ (ys : List Str) (o1 o2 o3 : Option V),
      σ' = [some (.ref p), some (.int m), some (.str small), some (.str signs), some (.str stem'), some (.int (atN : Int)), some (.int (frN : Int)), some (.str zc), some (.int (st : Int)), some (.str tail), some (.ref q), o1, o2, o3] ∧
      Go p c ns H H' (B + 60 + 2 * i) ∧ H' q = some (.lst (ys.map V.str)) ∧ Iv (wdN stem' zc atN frN st) ys i)
      ⟨[], none, none, none, rfl, g10, hq1, .nil⟩ ?_ ?_⟩
    · rintro i σ' H11 hi ⟨ys, o1, o2, o3, rfl, g, hL, iv⟩
      have hi' : i < 26 := by omega
      obtain ⟨hl, _, hb⟩ := iv.ends W (by omega)
      have idx : ((frN : Int) + (st : Int) * (0 + (i : Int))) % ((zc.length : Nat) : Int) = (((frN + st * i) % zc.length : Nat) : Int) := by
        rw [Int.zero_add, Int.natCast_emod, Int.natCast_add, Int.natCast_mul]
      -- sign
      refine ⟨_, rfl, _, rfl, _, rfl, _, rfl, _, _, rfl, rfl, mul_small (by omega), _, _, rfl, rfl, .inl ⟨_, rfl, _, rfl, zc, rfl, by omega, _, _, rfl, rfl, (by omega), zc, _, sgN zc frN st i, rfl, rfl, by omega, at_by idx (sgN_at zc frN st i zl.1), ?_⟩⟩
      -- word
      refine ⟨_, rfl, _, rfl, _, rfl, stem', rfl, by omega, _, rfl, _, _, rfl, rfl, ?_, ?_⟩
      · have := cutS_length stem' none (some (atN : Int))
        show (cutS stem' none (some (atN : Int))).length + 1 ≤ sizeLine
        omega
      have hw1 : (cutS stem' none (some (atN : Int)) ++ (⟨#[sgN zc frN st i]⟩ : Str)).length ≤ 12 := by
        rw [Str.length_append]
        have := cutS_length stem' none (some (atN : Int))
        show (cutS stem' none (some (atN : Int))).length + 1 ≤ 12
        omega
      refine ⟨_, rfl, _, rfl, tail, rfl, by omega, _, rfl, _, rfl, _, _, rfl, rfl, .inr ⟨_, rfl, _, _, rfl, rfl, mul_small (by omega), _, _, rfl, rfl, _, rfl, tail, rfl, by omega, _, _, rfl, rfl, ?_, ?_⟩⟩
      · have := cutS_length tail none (some ((tail.length : Int) - (0 + (i : Int)) * (if decide (0 + (i : Int) < 2) = true then 1 else 0)))
        omega
      have ew : wdN stem' zc atN frN st i = fixS ((cutS stem' none (some (atN : Int)) ++ (⟨#[sgN zc frN st i]⟩ : Str)) ++ cutS tail none (some ((tail.length : Int) - (0 + (i : Int)) * (if decide (0 + (i : Int) < 2) = true then 1 else 0)))) := by
        rw [etail]
        rfl
      have hw2 : ((cutS stem' none (some (atN : Int)) ++ (⟨#[sgN zc frN st i]⟩ : Str)) ++ cutS tail none (some ((tail.length : Int) - (0 + (i : Int)) * (if decide (0 + (i : Int) < 2) = true then 1 else 0)))).length ≤ 23 := by
        rw [Str.length_append]
        have := cutS_length tail none (some ((tail.length : Int) - (0 + (i : Int)) * (if decide (0 + (i : Int) < 2) = true then 1 else 0)))
        omega
      generalize (cutS stem' none (some (atN : Int)) ++ (⟨#[sgN zc frN st i]⟩ : Str)) ++ cutS tail none (some ((tail.length : Int) - (0 + (i : Int)) * (if decide (0 + (i : Int) < 2) = true then 1 else 0))) = w2 at hw2 ew ⊢
      have gi := W.good i hi'
      have gl := good_len gi
      obtain ⟨wi, ewi⟩ : ∃ wi, wi = wdN stem' zc atN frN st i := ⟨_, rfl⟩
      rw [← ewi] at ew gi gl
      -- new, found
      try dsimp only
      refine seqIf_mid (fun σ' H' => σ' = [some (.ref p), some (.int m), some (.str small), some (.str signs), some (.str stem'), some (.int (atN : Int)), some (.int (frN : Int)), some (.str zc), some (.int (st : Int)), some (.str tail), some (.ref q), some (.int (0 + (i : Int))), some (.str ⟨#[sgN zc frN st i]⟩), some (.str wi)] ∧
        Go p c ns H H' (B + 60 + 2 * i) ∧ H' q = some (.lst (ys.map V.str))) (fun N hN => ?_) (fun σ' H' hm => ?_)
      · refine ⟨_, rfl, by show 2 ≤ sizeLine; decide, fun t ht => ⟨t, _, rfl, .inr (SqT.of upd_same), rfl, rfl, _, rfl, ?_⟩⟩
        have gt := g.new (o := .tup [.str "new", .str "found"]) ht
        have hLt : upd H11 t (.tup [.str "new", .str "found"]) q = some (.lst (ys.map V.str)) := by rw [upd_ne (ne_of_none hL ht)]; exact hL
        have e3 : inV (.str w2) [.str "new", .str "found"] = decide (w2 = newW ∨ w2 = foundW) := by
          unfold inV
          simp only [List.any_cons, List.any_nil, Bool.or_false, eq_V]
          by_cases c1 : w2 = newW
          · rw [decide_eq_true (show (Str.ofString "new") = w2 from c1.symm), decide_eq_true (show w2 = newW ∨ w2 = foundW from .inl c1)]
            rfl
          · by_cases c2 : w2 = foundW
            · rw [decide_eq_true (show (Str.ofString "found") = w2 from c2.symm), decide_eq_true (show w2 = newW ∨ w2 = foundW from .inr c2), Bool.or_true]
            · rw [decide_eq_false (show ¬ (Str.ofString "new") = w2 from fun z => c1 z.symm), decide_eq_false (show ¬ (Str.ofString "found") = w2 from fun z => c2 z.symm), decide_eq_false (show ¬ (w2 = newW ∨ w2 = foundW) from fun z => z.elim c1 c2)]
              rfl
        refine ite2 (fun h => ?_) (fun h => ?_)
        · have h : inV (.str w2) [.str "new", .str "found"] = true := h
          rw [e3] at h
          have e4 : wi = w2 ++ ("0" : Str) := by rw [ew]; exact if_pos (of_decide_eq_true h)
          refine ⟨_, rfl, _, _, rfl, rfl, (by show w2.length + 1 ≤ sizeLine; omega), hN _ _ ⟨?_, gt, hLt⟩⟩
          rw [e4]
          rfl
        · have h : ¬ inV (.str w2) [.str "new", .str "found"] = true := h
          rw [e3] at h
          have e4 : wi = w2 := by rw [ew]; exact if_neg (fun q => h (decide_eq_true q))
          refine hN _ _ ⟨?_, gt, hLt⟩
          rw [e4]
          rfl
      obtain ⟨rfl, g, hL⟩ := hm
      -- the last one again
      try dsimp only
      refine seqIf_mid (fun σ' H' => ∃ x : Str, σ' = [some (.ref p), some (.int m), some (.str small), some (.str signs), some (.str stem'), some (.int (atN : Int)), some (.int (frN : Int)), some (.str zc), some (.int (st : Int)), some (.str tail), some (.ref q), some (.int (0 + (i : Int))), some (.str ⟨#[sgN zc frN st i]⟩), some (.str x)] ∧
        Go p c ns H H' (B + 60 + 2 * i + 1) ∧ H' q = some (.lst (ys.map V.str)) ∧ x.length ≤ 13 ∧ (x = wi ∨ (ys.getLast? = some x ∧ x.cps.toList.head? ≠ some 126))) (fun N hN => ?_) (fun σ' H' hm => ?_)
      · have stay : ∀ H', Go p c ns H H' (B + 60 + 2 * i + 1) → H' q = some (.lst (ys.map V.str)) → N ([some (.ref p), some (.int m), some (.str small), some (.str signs), some (.str stem'), some (.int (atN : Int)), some (.int (frN : Int)), some (.str zc), some (.int (st : Int)), some (.str tail), some (.ref q), some (.int (0 + (i : Int))), some (.str ⟨#[sgN zc frN st i]⟩), some (.str wi)]) H' :=
          fun H' g' h' => hN _ _ ⟨wi, rfl, g', h', by omega, .inl rfl⟩
        refine ⟨_, rfl, _, _, rfl, rfl, _, rfl, ite2 (fun h1 => ?_) (fun h1 => iteF (stay _ (g.mono (by omega)) hL))⟩
        have h1 : (0 : Int) < 0 + (i : Int) := of_decide_eq_true h1
        obtain ⟨ys', last, rfl⟩ : ∃ ys' last, ys = ys' ++ [last] := by
          rcases List.eq_nil_or_concat ys with e | ⟨a, b, e⟩
          · rw [e] at hl
            have : (0 : Nat) = i := hl
            omega
          · exact ⟨a, b, by rw [e]; simp⟩
        have hlast := hb last (by simp)
        have hat : atI ((ys' ++ [last]).map V.str) (-1) = some (.str last) := by
          rw [List.map_append]
          exact atI_last _ _
        refine ⟨_, rfl, _, rfl, q, _, _, _, rfl, rfl, SqL.of hL, hat, _, rfl, last, rfl, (by have := hlast.2.1; omega), rfl, _, rfl, ite2 (fun h2 => ?_) (fun _ => iteF (stay _ (g.mono (by omega)) hL))⟩
        have hh : last.cps.toList.head? ≠ some 126 := fun e => by
          have h2 : (!decide (V.str (cutS last none (some 1)) = V.str (Str.ofString "~"))) = true := h2
          rw [head_tilde, decide_eq_true e] at h2
          cases h2
        refine ⟨_, rfl, p, c, ns, 5, B + 60 + 2 * i, rfl, g.pen, by omega, by decide, by decide, fun H12 r g12 _ _ => ⟨rfl, _, rfl, ?_⟩⟩
        have hL2 := g12.lst hL
        have g13 := g.step g12
        refine ite2 (fun _ => ?_) (fun _ => stay _ g13 hL2)
        exact ⟨_, rfl, _, rfl, q, _, _, _, rfl, rfl, SqL.of hL2, hat, hN _ _ ⟨last, rfl, g13, hL2, hlast.2.1, .inr ⟨List.getLast?_concat, hh⟩⟩⟩
      obtain ⟨x, rfl, g, hL, hx, hxw⟩ := hm
      -- found.append(..)
      have fin : ∀ (H' : Hp) (wv : Str), Go p c ns H H' (B + 60 + 2 * i + 2) → H' q = some (.lst (ys.map V.str)) → Iv (wdN stem' zc atN frN st) (ys ++ [wv]) (i + 1) →
          ∃ (ys2 : List Str) (o1 o2 o3 : Option V), [some (.ref p), some (.int m), some (.str small), some (.str signs), some (.str stem'), some (.int (atN : Int)), some (.int (frN : Int)), some (.str zc), some (.int (st : Int)), some (.str tail), some (.ref q), some (.int (0 + (i : Int))), some (.str ⟨#[sgN zc frN st i]⟩), some (.str x)] =
            [some (.ref p), some (.int m), some (.str small), some (.str signs), some (.str stem'), some (.int (atN : Int)), some (.int (frN : Int)), some (.str zc), some (.int (st : Int)), some (.str tail), some (.ref q), o1, o2, o3] ∧
          Go p c ns H (upd H' q (.lst (ys.map V.str ++ [.str wv]))) (B + 60 + 2 * (i + 1)) ∧ upd H' q (.lst (ys.map V.str ++ [.str wv])) q = some (.lst (ys2.map V.str)) ∧ Iv (wdN stem' zc atN frN st) ys2 (i + 1) := by
        intro H' wv g' h' hv
        refine ⟨ys ++ [wv], _, _, _, rfl, (g'.mut hq0).mono (by omega), ?_, hv⟩
        rw [upd_same, List.map_append]
        rfl
      have hflat : (ys.map V.str).all flatV = true := by
        rw [List.all_eq_true]
        intro x hx
        obtain ⟨y, _, rfl⟩ := List.mem_map.mp hx
        rfl
      have hsz : (ys.map V.str).length < sizeLine := by
        rw [List.length_map]
        omega
      have tld : Iv (wdN stem' zc atN frN st) (ys ++ [tildeS ++ x]) (i + 1) := by
        rcases hxw with rfl | ⟨e1, e2⟩
        · rw [ewi]
          exact iv.tilde W hi'
        · exact iv.again e1 e2
      refine ⟨_, rfl, .inl ⟨rfl, _, SqL.of hL⟩, ?_⟩
      refine ⟨_, rfl, _, rfl, q, _, rfl, .inl (SqL.of hL), rfl, hflat, _, rfl, ite2 (fun hn => ?_) (fun _ => iteF ?_)⟩
      · have pl : Iv (wdN stem' zc atN frN st) (ys ++ [x]) (i + 1) := by
          rcases hxw with rfl | ⟨e1, e2⟩
          · rw [ewi]
            exact iv.plain W hi'
          · have hn : (!inV (.str x) (ys.map V.str)) = true := hn
            rw [in_mem (List.mem_of_getLast? e1)] at hn
            cases hn
        refine ⟨_, rfl, p, c, ns, 5, B + 60 + 2 * i + 1, rfl, g.pen, by omega, by decide, by decide, fun H12 r g12 _ _ => ⟨_, _, rfl, rfl, _, rfl, ?_⟩⟩
        have hL2 := g12.lst hL
        have g13 := g.step g12
        refine ite2 (fun _ => ?_) (fun _ => ?_)
        · exact ⟨_, rfl, q, _, _, rfl, rfl, hL2, hsz, fin _ x g13 hL2 pl⟩
        · exact ⟨_, rfl, _, _, rfl, rfl, (by show 1 + x.length ≤ sizeLine; omega), q, _, _, rfl, rfl, hL2, hsz, fin _ _ g13 hL2 tld⟩
      · exact ⟨_, rfl, _, _, rfl, rfl, (by show 1 + x.length ≤ sizeLine; omega), q, _, _, rfl, rfl, hL, hsz, fin _ _ (g.mono (by omega)) hL tld⟩
    · rintro σ' H11 ⟨ys, o1, o2, o3, rfl, g, hL, iv⟩
      obtain ⟨hl, nd, hb⟩ := iv.ends W (by omega)
      exact ⟨_, rfl, k H11 q ys (g.mono (by omega)) hq0 hL (by omega) nd hb⟩
end
end Ask

namespace Ask
open PySem L2
/-- an item of the law's lists, its list or tuple at a place of N -/
def ItV (N : Addr → Prop) (H : Hp) (v : V) (d : PyData) : Prop :=
  (v = .non ∧ d = .none) ∨ (v = .bl true ∧ d = .bool true) ∨ (v = .int 7 ∧ d = .int 7) ∨ ∃ z : Str, (z.length ≤ 500 ∧ Asc z) ∧
    ((v = .str z ∧ d = .str z) ∨ ∃ a, v = .ref a ∧ N a ∧ ((H a = some (.lst [.str z]) ∧ d = .list [.str z]) ∨ (H a = some (.tup [.str z]) ∧ d = .tuple [.str z])))
section
variable {K : PySem.W.Frag} {N N' : Addr → Prop} {H H' H0 : Hp} {v : V} {d : PyData} {p c q : Addr} {ns : List Int} {B : Nat} {o : HO}
theorem ItV.itm (h : ItV N H v d) : Itm d := by
  rcases h with ⟨_, e⟩ | ⟨_, e⟩ | ⟨_, e⟩ | ⟨z, ⟨h1, h2⟩, ⟨_, e⟩ | ⟨a, _, _, ⟨_, e⟩ | ⟨_, e⟩⟩⟩
  · exact .inl e
  · exact .inr (.inl e)
  · exact .inr (.inr (.inl e))
  · exact .inr (.inr (.inr ⟨z, h1, h2, .inl e⟩))
  · exact .inr (.inr (.inr ⟨z, h1, h2, .inr (.inl e)⟩))
  · exact .inr (.inr (.inr ⟨z, h1, h2, .inr (.inr e)⟩))
theorem ItV.dp (h : ItV N H v d) : Dp K H v d := by
  rcases h with ⟨e, e'⟩ | ⟨e, e'⟩ | ⟨e, e'⟩ | ⟨z, _, ⟨e, e'⟩ | ⟨a, e, _, ⟨ea, e'⟩ | ⟨ea, e'⟩⟩⟩ <;> rw [e, e']
  · exact .non
  · exact .bl _
  · exact .int _
  · exact .str _
  · exact .lst (SqL.of ea) (.cons (.str _) .nil)
  · exact .tup (SqT.of ea) (.cons (.str _) .nil)
theorem ItV.mp (h : ItV N H v d) (k : ∀ a o, N a → H a = some o → (∀ kvs, o ≠ .dK kvs) → N' a ∧ H' a = some o) : ItV N' H' v d := by
  rcases h with h | h | h | ⟨z, hz, h | ⟨a, e, n, ⟨ea, e'⟩ | ⟨ea, e'⟩⟩⟩
  · exact .inl h
  · exact .inr (.inl h)
  · exact .inr (.inr (.inl h))
  · exact .inr (.inr (.inr ⟨z, hz, .inl h⟩))
  · obtain ⟨n', ea'⟩ := k a _ n ea (by intro _ z; cases z)
    exact .inr (.inr (.inr ⟨z, hz, .inr ⟨a, e, n', .inl ⟨ea', e'⟩⟩⟩))
  · obtain ⟨n', ea'⟩ := k a _ n ea (by intro _ z; cases z)
    exact .inr (.inr (.inr ⟨z, hz, .inr ⟨a, e, n', .inr ⟨ea', e'⟩⟩⟩))
theorem ItV.go (h : ItV N H v d) (g : Go p c ns H H' B) : ItV N H' v d := h.mp fun a o n e k => ⟨n, g.at e k⟩
theorem ItV.same (h : ItV N H v d) (s : Same H H') : ItV N H' v d := h.mp fun a o n e _ => ⟨n, s a o e⟩
theorem ItV.mut (h : ItV N H v d) (n : ∀ a, N a → a ≠ q) : ItV N (upd H q o) v d := h.mp fun a u m e _ => ⟨m, by rw [upd_ne (n a m)]; exact e⟩
theorem ItV.wk (h : ItV N H v d) (n : ∀ a, N a → N' a) : ItV N' H v d := h.mp fun a u m e _ => ⟨n a m, e⟩
def ItS (N : Addr → Prop) (H : Hp) (xs : List V) : Prop := ∀ v ∈ xs, ∃ d, ItV N H v d
theorem ItS.nil : ItS N H [] := fun _ h => by cases h
theorem ItS.cons {xs : List V} (h : ∃ d, ItV N H v d) (r : ItS N H xs) : ItS N H (v :: xs) := fun x hx => by
  rcases List.mem_cons.mp hx with rfl | hx
  · exact h
  · exact r x hx
theorem ItS.app {xs ys : List V} (h : ItS N H xs) (r : ItS N H ys) : ItS N H (xs ++ ys) := fun x hx => by
  rcases List.mem_append.mp hx with hx | hx
  · exact h x hx
  · exact r x hx
theorem itStr {z : Str} (h : z.length ≤ 500 ∧ Asc z) : ∃ d, ItV N H (.str z) d := ⟨_, .inr (.inr (.inr ⟨z, h, .inl ⟨rfl, rfl⟩⟩))⟩
end
theorem asc_upper {z : Str} (h : Asc z) : Asc (Txt.upper z) ∧ (Txt.upper z).length = z.length := by
  rw [PyProof.Rows.upper_ascii h]
  refine ⟨fun c hc => ?_, by simp [Str.length]⟩
  have hc : c ∈ (z.cps.map PyProof.Rows.up1).toList := hc
  rw [Array.toList_map] at hc
  obtain ⟨b, hb, rfl⟩ := List.mem_map.mp hc
  have := h b hb
  unfold PyProof.Rows.up1
  split <;> omega
theorem asc_rep {z : Str} (h : Asc z) (n : Nat) : Asc (repS z n) := by
  have : ∀ (n : Nat) (acc : Array Nat), (∀ c ∈ acc.toList, c < 128) → ∀ c ∈ ((List.replicate n z.cps).foldl (· ++ ·) acc).toList, c < 128 := by
    intro n
    induction n with
    | zero => intro acc ha; simpa using ha
    | succ n ih =>
      intro acc ha
      rw [List.replicate_succ, List.foldl_cons]
      refine ih _ fun c hc => ?_
      rw [Array.toList_append] at hc
      rcases List.mem_append.mp hc with q | q
      · exact ha c q
      · exact h c q
  exact this n #[] (fun c hc => by cases hc)
end Ask

namespace Ask
open PySem L2
/-! ### the answers, by the mirror -/
def badAt (ds : List PyData) (k : Nat) : Bool := match ds[k]? with
  | some d => !isL d || (ds.take k).any fun z => PyData.eqv z d
  | none => false
def bads (ds : List PyData) : List Nat := (List.range ds.length).filter (badAt ds)
def res (ds : List PyData) : PyData :=
  if 12 < ds.length then .tuple [.str "many", .str "letters", .int (ds.length : Nat), .int 12]
  else match bads ds with
    | k :: _ => .tuple [.str "letters", .int (k : Nat)]
    | [] => if ds.length = 0 then .tuple [.str "letters", .int 0] else .none
theorem res_many {ds : List PyData} (h : 12 < ds.length) : res ds = .tuple [.str "many", .str "letters", .int (ds.length : Nat), .int 12] := if_pos h
theorem res_none {ds : List PyData} (h : ds.length = 0) : res ds = .tuple [.str "letters", .int 0] := by
  have e : ds = [] := List.eq_nil_of_length_eq_zero h
  subst e
  rfl
theorem bads_at {ds : List PyData} {k : Nat} (h1 : k < ds.length) (h2 : badAt ds k = true) (h3 : ∀ j < k, badAt ds j = false) : ∃ r, bads ds = k :: r := by
  unfold bads
  have e : ds.length = k + (1 + (ds.length - k - 1)) := by omega
  rw [e, List.range_add, List.filter_append]
  have e1 : (List.range k).filter (badAt ds) = [] := List.filter_eq_nil_iff.mpr fun x hx => by
    rw [h3 x (List.mem_range.mp hx)]
    exact Bool.false_ne_true
  rw [e1, List.nil_append, Nat.add_comm 1, List.range_succ_eq_map, List.map_cons, List.filter_cons, if_pos (by simpa using h2)]
  exact ⟨_, rfl⟩
theorem res_at {ds : List PyData} {k : Nat} (h0 : ¬ 12 < ds.length) (h1 : k < ds.length) (h2 : badAt ds k = true) (h3 : ∀ j < k, badAt ds j = false) : res ds = .tuple [.str "letters", .int (k : Nat)] := by
  obtain ⟨r, e⟩ := bads_at h1 h2 h3
  unfold res
  rw [if_neg h0, e]
theorem res_good {ds : List PyData} (h0 : ¬ 12 < ds.length) (h1 : 0 < ds.length) (h3 : ∀ j < ds.length, badAt ds j = false) : res ds = .none := by
  have e : bads ds = [] := List.filter_eq_nil_iff.mpr fun x hx => by
    rw [h3 x (List.mem_range.mp hx)]
    exact Bool.false_ne_true
  unfold res
  rw [if_neg h0, e]
  exact if_neg (by omega)
/-- an answer of the law's -/
def Rs (H : Hp) (v : V) (d : PyData) : Prop := (v = .non ∧ d = .none) ∨ ∃ a xs ds, v = .ref a ∧ d = .tuple ds ∧ H a = some (.tup xs) ∧ ∀ (K : PySem.W.Frag) (H' : Hp), DpAll K H' xs ds
/-- the items of a list -/
def ItL (N : Addr → Prop) (H : Hp) : List V → List PyData → Prop
  | [], [] => True
  | v :: xs, d :: ds => ItV N H v d ∧ ItL N H xs ds
  | _, _ => False
section
variable {K : PySem.W.Frag} {N N' : Addr → Prop} {H H' H0 : Hp} {v : V} {d : PyData} {p c q : Addr} {ns : List Int} {B : Nat} {o : HO}
theorem Rs.dp (h : Rs H v d) : Dp K H v d := by
  rcases h with ⟨rfl, rfl⟩ | ⟨a, xs, ds, rfl, rfl, e, k⟩
  · exact .non
  · exact .tup (SqT.of e) (k K H)
theorem Rs.same (h : Rs H v d) (s : Same H H') : Rs H' v d := by
  rcases h with h | ⟨a, xs, ds, h1, h2, e, k⟩
  · exact .inl h
  · exact .inr ⟨a, xs, ds, h1, h2, s _ _ e, k⟩
theorem ItL.len : ∀ {xs : List V} {ds : List PyData}, ItL N H xs ds → xs.length = ds.length
  | [], [], _ => rfl
  | _ :: _, _ :: _, h => by rw [List.length_cons, List.length_cons, ItL.len h.2]
  | [], _ :: _, h => h.elim
  | _ :: _, [], h => h.elim
theorem ItL.mp : ∀ {xs : List V} {ds : List PyData}, ItL N H xs ds → (∀ v d, ItV N H v d → ItV N' H' v d) → ItL N' H' xs ds
  | [], [], _, _ => trivial
  | _ :: _, _ :: _, h, k => ⟨k _ _ h.1, ItL.mp h.2 k⟩
  | [], _ :: _, h, _ => h.elim
  | _ :: _, [], h, _ => h.elim
theorem ItL.dp : ∀ {xs : List V} {ds : List PyData}, ItL N H xs ds → DpAll K H xs ds
  | [], [], _ => .nil
  | _ :: _, _ :: _, h => .cons h.1.dp (ItL.dp h.2)
  | [], _ :: _, h => h.elim
  | _ :: _, [], h => h.elim
theorem ItL.itm : ∀ {xs : List V} {ds : List PyData}, ItL N H xs ds → ∀ d ∈ ds, Itm d
  | [], [], _, _, h => by cases h
  | _ :: _, _ :: _, h, d, hd => by
    rcases List.mem_cons.mp hd with rfl | hd
    · exact h.1.itm
    · exact ItL.itm h.2 d hd
  | [], _ :: _, h, _, _ => h.elim
  | _ :: _, [], h, _, _ => h.elim
theorem ItL.fit {xs : List V} {ds : List PyData} (h : ItL N H xs ds) : FitAll ds := fit_all fun d hd => itm_fit (h.itm d hd)
theorem ItL.get : ∀ {xs : List V} {ds : List PyData} (k : Nat), ItL N H xs ds → k < xs.length → ∃ v d, xs[k]? = some v ∧ ds[k]? = some d ∧ ItV N H v d
  | [], _, _, _, h => absurd h (Nat.not_lt_zero _)
  | _ :: _, [], _, h, _ => h.elim
  | v :: _, d :: _, 0, h, _ => ⟨v, d, rfl, rfl, h.1⟩
  | _ :: _, _ :: _, k + 1, h, hk => by
    obtain ⟨v, d, h1, h2, h3⟩ := ItL.get k h.2 (Nat.lt_of_succ_lt_succ hk)
    exact ⟨v, d, by simpa using h1, by simpa using h2, h3⟩
theorem ItL.take : ∀ {xs : List V} {ds : List PyData} (k : Nat), ItL N H xs ds → ItL N H (xs.take k) (ds.take k)
  | [], [], _, _ => by rw [List.take_nil, List.take_nil]; trivial
  | _ :: _, _ :: _, 0, _ => trivial
  | _ :: _, _ :: _, k + 1, h => ⟨h.1, ItL.take k h.2⟩
  | [], _ :: _, _, h => h.elim
  | _ :: _, [], _, h => h.elim
theorem ItL.set : ∀ {xs : List V} {ds : List PyData} (k : Nat), ItL N H xs ds → ItV N H v d → ItL N H (xs.set k v) (ds.set k d)
  | [], [], _, _, _ => trivial
  | _ :: _, _ :: _, 0, h, hv => ⟨hv, h.2⟩
  | _ :: _, _ :: _, k + 1, h, hv => ⟨h.1, ItL.set k h.2 hv⟩
  | [], _ :: _, _, h, _ => h.elim
  | _ :: _, [], _, h, _ => h.elim
theorem ItL.app1 : ∀ {xs : List V} {ds : List PyData}, ItL N H xs ds → ItV N H v d → ItL N H (xs ++ [v]) (ds ++ [d])
  | [], [], _, hv => ⟨hv, trivial⟩
  | _ :: _, _ :: _, h, hv => ⟨h.1, ItL.app1 h.2 hv⟩
  | [], _ :: _, h, _ => h.elim
  | _ :: _, [], h, _ => h.elim
theorem itl_strs : ∀ {ys : List Str}, (∀ y ∈ ys, y.length ≤ 500 ∧ Asc y) → ItL N H (ys.map V.str) (ys.map PyData.str)
  | [], _ => trivial
  | y :: r, h => ⟨.inr (.inr (.inr ⟨y, h y (List.mem_cons_self ..), .inl ⟨rfl, rfl⟩⟩)), itl_strs fun z hz => h z (List.mem_cons_of_mem _ hz)⟩
end
theorem ints_lay : ∀ ks : List Nat, (∀ k ∈ ks, k ≤ 1000) → PyData.canLayAll0 (ks.map fun k : Nat => PyData.int k) = true ∧ PyData.depthAll (ks.map fun k : Nat => PyData.int k) = 0
  | [], _ => ⟨rfl, rfl⟩
  | k :: r, h => by
    obtain ⟨h1, h2⟩ := ints_lay r fun z hz => h z (List.mem_cons_of_mem _ hz)
    have hk := h k (List.mem_cons_self ..)
    refine ⟨?_, ?_⟩
    · show (PyData.canLay0 (.int (k : Nat)) && PyData.canLayAll0 (r.map fun k : Nat => PyData.int k)) = true
      rw [h1, Bool.and_true]
      rfl
    · show max 0 (PyData.depthAll (r.map fun k : Nat => PyData.int k)) = 0
      rw [h2]
      rfl
theorem ints_shaped {ks : List Nat} (h : ∀ k ∈ ks, k ≤ 1000) : SeqAt.shaped (.list (ks.map fun k : Nat => PyData.int k)) = true := by
  obtain ⟨h1, h2⟩ := ints_lay ks h
  exact shaped_of h1 (by show PyData.depthAll _ + 1 ≤ 64; omega)
theorem dp_ints {K : PySem.W.Frag} {H : Hp} : ∀ ks : List Nat, DpAll K H (ks.map fun k : Nat => V.int k) (ks.map fun k : Nat => PyData.int k)
  | [] => .nil
  | k :: r => .cons (.int _) (dp_ints r)
theorem cutV_take (xs : List V) (k : Nat) (h : k ≤ xs.length) : cutV xs none (some (k : Int)) = xs.take k := by
  unfold cutV
  rw [HT.sIx_none, HT.sIx_nat, List.drop_zero, Nat.sub_zero, Nat.min_eq_left h]
end Ask

/-! C(e, ..), what its __init__ raises wished for at the caller's slots -/
namespace Ask
open PySem L2 PySem.Spec PyProof.Rows
def tMakeS (C : Addr) (sp : Sp) (E : L2.St → XK) (t : TA) : TE := fun σ H Q => t σ H fun vs H1 => ∀ x dx, H1 x = none → H1 dx = none → dx ≠ x →
  sp (.ref x :: vs) (upd (upd H1 dx (.own x)) x (.ins C dx [])) (fun v H2 => v = .non ∧ Q (.ref x) H2) (E σ)
theorem pe_makeS {X : Cx} {CX : CXT} {k : Nat} {f C : Addr} {fd : FuncData} {ps : List Str} {sp : Sp} {E : L2.St → XK} {x : Str} {p pos : Pos} {e : Expr} {es : List Expr} {t : TA}
    (M : Mk X.K C f) (F : FnOk X.prog X.w X.K X.mg X.base CX k f fd ps sp) (hr : Room (k + 1) X.A) (hg : Gl X x) (hm : X.mg x = some (.ref C)) (hb : Binds X.K fd ps []) (hx : ∀ σ, PassesAt CX X σ (E σ)) (ha : PA X (e :: es) t)
    (hdb : (x == ("__debug__" : Str)) = false := by decide) (he : starEach (e :: es) X.env = (false, eval e X.env) :: starEach es X.env := by rfl) (hpl : (backTo pos (starEach es X.env)).any (·.1) = false := by rfl) :
    PE X (.Call (.Name x p) (e :: es) [] pos) (tMakeS C sp E t) := by
  refine ⟨fun pins s σ H Q I h => wpAny_Call_Name_kw (ld_glob I hg hm ?_ hdb)⟩
  refine PySem.W.callWith_K (h₀ := X.base) I.ok.mod.kin M.kp (thn (ha.run pos pins s σ H _ I h) fun us s1 ⟨vs, H1, I1, r, q⟩ => ⟨I1.kIn, ?_⟩) he hpl
  have w := q (s1.heap.objs.size + 1) s1.heap.objs.size (I1.hok.fresh (Nat.le_succ _)) (I1.hok.fresh (Nat.le_refl _)) (Nat.ne_of_lt (Nat.lt_succ_self _))
  have I2 := Inv.made (C := C) I1
  have r2 : Vals (V.ref (s1.heap.objs.size + 1) :: vs) (Value.ref (s1.heap.objs.size + 1) :: us) := .cons rfl r
  have len : (Value.ref (s1.heap.objs.size + 1) :: us).length = ps.length := by
    rw [← r2.length]
    exact F.len _ _ _ _ w
  have len2 : (Value.ref (s1.heap.objs.size + 1) :: us ++ []).length = ps.length := by
    rw [List.append_nil]
    exact len
  have bound := hb _ (Value.ref (s1.heap.objs.size + 1) :: us) I2.kIn len2
  rw [List.append_nil] at bound
  refine wpAny_call (make_map (f := f) I1.kIn M.makes M.init (beq_iff_eq.mp M.fn) (codeAny_mono (F.run _ X.stack _ _ ⟨Value.ref (s1.heap.objs.size + 1) :: us, []⟩ _ _ _ (E σ) (hr.make C us []) (I2.env0.make C us []) bound r2 w) fun r s' got => ?_))
  match r, got with
  | .error e, got => exact hx σ pins _ _ e s' I2 got
  | .ok .next, got => exact False.elim got
  | .ok .brk, got => exact False.elim got
  | .ok .cont, got => exact False.elim got
  | .ok (.ret u), got =>
    obtain ⟨v, H', I3, rv, ev, z⟩ := I2.after got
    subst ev
    exact ⟨rv, ⟨V.ref (s1.heap.objs.size + 1), H', I3, rfl, z⟩⟩
end Ask

namespace Ask
open PySem L2
section
variable {P : Program} {w : World} {K : PySem.W.Frag} {mg : Str → Option Value} {base : Heap}
/-! ### copied, of a number or a text -/
def spCopy : Sp := fun vs H Q _ => ∃ x : V, vs = [x] ∧ ((∃ i, x = .int i) ∨ ∃ z, x = .str z) ∧ Q x H
abbrev s_copied : Stmt := top 9
theorem sc_copied : FnScope ["value"] ["value"] (defScope s_copied) := ⟨rfl, rfl, rfl, by decide +kernel, rfl, by decide +kernel, by decide +kernel⟩
theorem ok_copied {f : Addr} {fd : FuncData} (F : Fun K "copied" "copied" s_copied f fd) (T : Blt mg) (nD : mg "dict" = none) : FnOk P w K mg base CX0 1 f fd ["value"] spCopy := by
  refine F.ok sc_copied (fun vs H Q E h => ?_) (fun cdv A outer s H vs Q E hr h => ?_)
  · obtain ⟨x, rfl, _⟩ := h
    rfl
  · obtain ⟨x, rfl, hx, k⟩ := h
    refine ⟨_, (pss_cons (ps_if (pt_val (pe_callB call_isi (by rfl) T.n_isinstance (by decide +kernel) (pa_cons (pv 0) (pa_cons (pe_bltn (v := .ty "list") (u := .type "list") rfl T.n_list (by decide +kernel) rfl) pa_nil)))) pss_never pss_nil)
      (pss_cons (ps_if (pt_val (pe_callB call_isi (by rfl) T.n_isinstance (by decide +kernel) (pa_cons (pv 0) (pa_cons (pe_bltn (v := .ty "tuple") (u := .type "tuple") rfl T.n_tuple (by decide +kernel) rfl) pa_nil)))) pss_never pss_nil)
      (pss_cons (ps_if (pt_val (pe_callB call_isi (by rfl) T.n_isinstance (by decide +kernel) (pa_cons (pv 0) (pa_cons (pe_bltn (v := .ty "dict") (u := .type "dict") rfl nD (by decide +kernel) rfl) pa_nil)))) pss_never pss_nil)
      (pss_one (ps_ret (pv 0)))))), ?_⟩
    rcases hx with ⟨i, rfl⟩ | ⟨z, rfl⟩
    · refine ⟨_, rfl, _, _, _, _, false, rfl, .ty _, .base (.int _), kit_ty (by decide +kernel), _, rfl, iteF ?_⟩
      refine ⟨_, rfl, _, _, _, _, false, rfl, .ty _, .base (.int _), kit_ty (by decide +kernel), _, rfl, iteF ?_⟩
      refine ⟨_, rfl, _, _, _, _, false, rfl, .ty _, .base (.int _), kit_ty (by decide +kernel), _, rfl, iteF ?_⟩
      exact ⟨_, rfl, k⟩
    · refine ⟨_, rfl, _, _, _, _, false, rfl, .ty _, .base (.str _), kit_ty (by decide +kernel), _, rfl, iteF ?_⟩
      refine ⟨_, rfl, _, _, _, _, false, rfl, .ty _, .base (.str _), kit_ty (by decide +kernel), _, rfl, iteF ?_⟩
      refine ⟨_, rfl, _, _, _, _, false, rfl, .ty _, .base (.str _), kit_ty (by decide +kernel), _, rfl, iteF ?_⟩
      exact ⟨_, rfl, k⟩
/-! ### the errors -/
def spErr (C : Addr) (ok : List V → Prop) (fs : List V → List (Str × V)) : Sp := fun vs H Q _ => ∃ (a : Addr) (ws : List V), vs = .ref a :: ws ∧ ok ws ∧ H a = some (exo a C none) ∧
  ∀ (H' : Hp) (dx : Addr), H dx = none → dx ≠ a → H' a = some (exo a C (some dx)) → H' dx = some (exd dx (fs ws)) → (∀ b o, b ≠ a → H b = some o → H' b = some o) → Q .non H'
def okBad : List V → Prop := fun ws => ∃ i : Int, ws = [.int i]
def fsBad : List V → List (Str × V) := fun ws => match ws with
  | [v] => [("index", v)]
  | _ => []
def okMany : List V → Prop := fun ws => ∃ n : Int, ws = [.str "letters", .int n, .int 12]
def fsMany : List V → List (Str × V) := fun ws => match ws with
  | [v, n, m] => [("most", m), ("many", n), ("what", v)]
  | _ => []
abbrev s_BadLetters_init : Stmt := inClass (top 12) 0
theorem sc_BadLetters_init : FnScope ["self", "index"] ["self", "index"] (defScope s_BadLetters_init) := ⟨rfl, rfl, rfl, by decide +kernel, rfl, by decide +kernel, by decide +kernel⟩
abbrev s_TooMany_init : Stmt := inClass (top 23) 0
theorem sc_TooMany_init : FnScope ["self", "what", "many", "most"] ["self", "what", "many", "most"] (defScope s_TooMany_init) := ⟨rfl, rfl, rfl, by decide +kernel, rfl, by decide +kernel, by decide +kernel⟩
theorem ok_badInit {f fC C : Addr} {fd fdC : FuncData} (F : Fun K "__init__" "BadLetters.__init__" s_BadLetters_init f fd) (T : OexC K C) (h1 : PySem.W.findIn K (.ref C) "index" = some none)
    (GC : FnOk P w K mg base CX0 1 fC fdC ["value"] spCopy) (CP : At K mg "copied" fC fdC ["value"]) : FnOk P w K mg base CX0 2 f fd ["self", "index"] (spErr C okBad fsBad) := by
  refine F.ok sc_BadLetters_init (fun vs H Q E h => ?_) (fun cdv A outer s H vs Q E hr h => ?_)
  · obtain ⟨a, ws, rfl, ⟨i, rfl⟩, _⟩ := h
    rfl
  · obtain ⟨a, ws, rfl, ⟨i, rfl⟩, ha, k⟩ := h
    refine ⟨_, pss_one (ps_ost (pv 0) (pe_call GC hr (by rfl) CP.m CP.k CP.b .nil pass0 (pa_cons (pv 1) pa_nil))), ?_⟩
    refine ⟨_, rfl, _, rfl, .inl ⟨i, rfl⟩, _, rfl, a, C, rfl, T, h1, .inl ⟨ha, fun dx hdx hne => ?_⟩⟩
    refine k _ dx hdx hne upd_same (by rw [upd_ne hne]; exact upd_same) fun b o hb e => ?_
    rw [upd_ne hb, upd_ne (ne_of_none e hdx)]
    exact e
theorem ok_manyInit {f fC C : Addr} {fd fdC : FuncData} (F : Fun K "__init__" "TooMany.__init__" s_TooMany_init f fd) (T : OexC K C) (h1 : PySem.W.findIn K (.ref C) "what" = some none) (h2 : PySem.W.findIn K (.ref C) "many" = some none) (h3 : PySem.W.findIn K (.ref C) "most" = some none)
    (GC : FnOk P w K mg base CX0 1 fC fdC ["value"] spCopy) (CP : At K mg "copied" fC fdC ["value"]) : FnOk P w K mg base CX0 2 f fd ["self", "what", "many", "most"] (spErr C okMany fsMany) := by
  refine F.ok sc_TooMany_init (fun vs H Q E h => ?_) (fun cdv A outer s H vs Q E hr h => ?_)
  · obtain ⟨a, ws, rfl, ⟨i, rfl⟩, _⟩ := h
    rfl
  · obtain ⟨a, ws, rfl, ⟨i, rfl⟩, ha, k⟩ := h
    refine ⟨_, pss_cons (ps_ost (pv 0) (pe_call GC hr (by rfl) CP.m CP.k CP.b .nil pass0 (pa_cons (pv 1) pa_nil))) (pss_cons (ps_ost (pv 0) (pe_call GC hr (by rfl) CP.m CP.k CP.b .nil pass0 (pa_cons (pv 2) pa_nil))) (pss_one (ps_ost (pv 0) (pe_call GC hr (by rfl) CP.m CP.k CP.b .nil pass0 (pa_cons (pv 3) pa_nil))))), ?_⟩
    refine ⟨_, rfl, _, rfl, .inr ⟨_, rfl⟩, _, rfl, a, C, rfl, T, h1, .inl ⟨ha, fun dx hdx hne => ?_⟩⟩
    have e1 : upd (upd H dx (exd dx [("what", .str "letters")])) a (exo a C (some dx)) a = some (exo a C (some dx)) := upd_same
    have e2 : upd (upd H dx (exd dx [("what", .str "letters")])) a (exo a C (some dx)) dx = some (exd dx [("what", .str "letters")]) := by rw [upd_ne hne]; exact upd_same
    have k1 : ∀ b o, b ≠ a → H b = some o → upd (upd H dx (exd dx [("what", .str "letters")])) a (exo a C (some dx)) b = some o := fun b o hb e => by
      rw [upd_ne hb, upd_ne (ne_of_none e hdx)]
      exact e
    generalize upd (upd H dx (exd dx [("what", .str "letters")])) a (exo a C (some dx)) = H1 at e1 e2 k1 ⊢
    refine ⟨_, rfl, _, rfl, .inl ⟨_, rfl⟩, _, rfl, a, C, rfl, T, h2, .inr ⟨dx, _, e1, e2, by show 1 ≤ 900; decide, ?_⟩⟩
    refine ⟨_, rfl, _, rfl, .inl ⟨_, rfl⟩, _, rfl, a, C, rfl, T, h3, .inr ⟨dx, _, (by rw [upd_ne hne.symm]; exact e1), upd_same, by show 2 ≤ 900; decide, ?_⟩⟩
    refine k _ dx hdx hne (by rw [upd_ne hne.symm, upd_ne hne.symm]; exact e1) upd_same fun b o hb e => ?_
    have nb := ne_of_none e hdx
    rw [upd_ne nb, upd_ne nb]
    exact k1 b o hb e
end
end Ask

/-! tuple(list), frozen: its object has no dict, so that its methods can be called -/
namespace Ask
open PySem L2 PySem.Spec PyProof.Rows
section
variable {X : Cx}
theorem call_tuple_frz : CallR X (.type "tuple") (fun xs H Q => ∃ p ys, xs = [.ref p] ∧ SqL X.K H p ys ∧ ∀ (l : Addr) (o : Obj), H l = none → o.dict = none → Q (.ref l) (upd H l (.frz o (.tup ys)))) := by
  intro pins s σ H xs us Q I r h
  obtain ⟨p, ys, rfl, hq, q⟩ := h
  obtain ⟨u, rfl, rx⟩ := vals1 r
  cases rx
  obtain ⟨its, r', pl, hz⟩ := I.list hq
  have hlen := r'.length
  refine call_tuple_list pl.isList (fun h' kp => ?_) (by simp only [List.size_toArray] <;> omega)
  have I1 : Inv X pins σ H { s with heap := h' } := I.kept (t' := s.toks) kp
  have I2 : Inv X pins σ (upd H h'.objs.size (.frz { cls := .type "tuple", data := .seq its.toArray } (.tup ys))) { s with heap := h'.push { cls := .type "tuple", data := .seq its.toArray } } :=
    I1.laid (t' := s.toks) (fun b o e => Heap.get?_push_of_some _ e) (Nat.le_refl _) (show ObjOk X.prog X.w _ _ _ (.frz _ (.tup ys)) from ⟨Heap.get?_push_size _ rfl, hz, its, r', IsTup.new _ _⟩)
  exact ⟨.ref h'.objs.size, _, I2, rfl, q _ _ (I1.hok.fresh (Nat.le_refl _)) rfl⟩
def tBMT (r : V → List V → Hp → VK → Prop) (to : TE) (t : TA) : TE := fun σ H Q => to σ H fun x H1 => (∃ (p : Addr) (o : Obj) (xs : List V), x = .ref p ∧ H1 p = some (.frz o (.tup xs)) ∧ o.dict = none) ∧ t σ H1 fun xs H2 => r x xs H2 Q
variable {o e : Expr} {es : List Expr} {to : TE} {t : TA} {name : Str} {apos cpos : Pos} {id : String} {r : V → List V → Hp → VK → Prop}
theorem pe_bmT (slot : Slot "tuple" name id) (hty : typeOf (.builtin id) = pure (.type "method_descriptor")) (hm : MtR X id r) (ho : PE X o to) (ha : PA X (e :: es) t)
    (hbase : attributeBase o name X.env (eval o X.env) = eval o X.env := by rfl)
    (hfew : ((backTo cpos (starEach (e :: es) X.env)).all (fun x => !x.1) && (backToKw cpos (keywordEach [] X.env)).all (fun x => x.1.isSome)
      && decide ((e :: es).length + ([] : List Keyword).length + (if ([] : List Keyword).isEmpty then 0 else 1) < 30)) = true := by rfl)
    (hline : (apos.endLine == cpos.line) = true := by rfl) (hs : starEach (e :: es) X.env = (false, eval e X.env) :: starEach es X.env := by rfl) (hplain : (backTo cpos (starEach es X.env)).any (·.1) = false := by rfl) :
    PE X (.Call (.Attribute o name apos) (e :: es) [] cpos) (tBMT r to t) := by
  refine ⟨fun pins s σ H Q I h => ?_⟩
  refine wpAny_Call_method_late hbase hfew hline rfl (thn (ho.run pins s σ H _ I h) fun v s1 ⟨x, H1, I1, r1, ⟨p, ob, xs, ex, hp, hd⟩, q1⟩ => ?_)
  subst ex
  obtain rfl : v = Value.ref p := r1
  obtain ⟨its, rv, pl, _⟩ := I1.tuple (.inl (.inr ⟨ob, hp⟩))
  have ho := (show ObjOk X.prog X.w H1 s1.heap p (.frz ob (.tup xs)) from I1.hok p _ hp).1
  refine ⟨"tuple", id, PySem.F.plainAttrs_tuple, slot, hty, ?_, fun a ea => ?_, ?_⟩
  · obtain ⟨o1, h1, h2, _⟩ := pl
    exact ⟨o1, h1, h2⟩
  · cases ea
    exact ⟨ob, ho, hd⟩
  · have hA := ha.run cpos pins s1 σ H1 _ I1 q1
    rw [hs] at hA ⊢
    refine Calls.callWith_builtin (by show (false || (backTo cpos (starEach es X.env)).any (·.1)) = false; rw [hplain] <;> rfl) (Calls.evalArgs_plain ?_)
    exact thn hA fun us s2 ⟨vs, H2, I2, r2, q2⟩ => hm pins s2 σ H2 (.ref p) vs _ us Q I2 rfl r2 q2
end
end Ask

namespace Ask
open PySem L2
/-- an own error class of the text, its __init__ at f -/
structure ErrAt (K : PySem.W.Frag) (mg : Str → Option Value) (x : Str) (C f : Addr) (fd : FuncData) (ps : List Str) : Prop where
  m : mg x = some (.ref C)
  o : OexC K C
  i : PySem.W.findIn K (.ref C) "__init__" = some (some (.ref f))
  t : PySem.W.typeIn K (.ref f) = some (.type "function")
  b : Binds K fd ps []
  xf : XfC K C
theorem err_made {C : Addr} {ok : List V → Prop} {fs : List V → List (Str × V)} {H0 H1 : Hp} {ws : List V} {Qx : XK} (s : Same H0 H1) (hok : ok ws) (hl : ws.length ≤ 1000)
    (k : ∀ (H' : Hp) (d : Addr), Same H0 H' → H' d = some (.xd (fs ws)) → Qx (.ref C) (some d) H') :
    ws.length ≤ 1000 ∧ ∀ a, H1 a = none → spErr C ok fs (.ref a :: (ws ++ [])) (upd H1 a (exo a C none))
      (fun v H2 => v = .non ∧ ∃ (d : Addr) (fs' : List (Str × V)), H2 a = some (exo a C (some d)) ∧ H2 d = some (exd d fs') ∧ H1 d = none ∧ Qx (.ref C) (some d) (upd (del H2 a) d (.xd fs'))) (fun _ _ _ => False) := by
  refine ⟨hl, fun a ha => ⟨a, ws, by rw [List.append_nil], hok, upd_same, fun H' dx hdx hne e1 e2 kk => ?_⟩⟩
  have h1 : H1 dx = none := by
    rw [upd_ne hne] at hdx
    exact hdx
  refine ⟨rfl, dx, _, e1, e2, h1, k _ dx (fun b o e => ?_) upd_same⟩
  have e' := s b o e
  have nb : b ≠ a := ne_of_none e' ha
  rw [upd_ne (ne_of_none e' h1), del_ne nb]
  exact kk b o nb (by rw [upd_ne nb]; exact e')
theorem for_enum {K : PySem.W.Frag} {ta : TA} {g : TG} {tb u : TS} {D : Ends} {σ : L2.St} {H : Hp} {J : It} {n : Nat} {G : Hp → Prop} {Y : Nat → Hp → V → Hp → Prop} (f : ∀ R : It → Hp → Prop, R J H → iEnumA K ta σ H R)
    (wk : Walk J n G Y) (Pv : Nat → L2.St → Hp → Prop) (h0 : Pv 0 σ H) (hG : ∀ i σ H, i ≤ n → Pv i σ H → G H)
    (hs : ∀ i x σ H H', i < n → Pv i σ H → Y i H x H' → g x σ H' fun σ2 H2 => tb { D with nx := Pv (i + 1), ct := Pv (i + 1), bk := u D } σ2 H2) (hd : ∀ σ H, Pv n σ H → u D σ H) :
    tSeq (tFor (iEnumA K ta) g tb) u D σ H := by
  delta tSeq tFor
  exact f _ (for_it (D := { D with nx := u D }) wk Pv h0 hG hs hd)
theorem seqT_same {K : PySem.W.Frag} {H H' : Hp} {a : Addr} {xs : List V} (e : Same H H') (h : SqT K H a xs) : SqT K H' a xs := by
  rcases h with (h | ⟨o, h⟩) | h
  · exact .inl (.inl (e _ _ h))
  · exact .inl (.inr ⟨o, e _ _ h⟩)
  · exact .inr h
section
variable {P : Program} {w : World} {K : PySem.W.Frag} {mg : Str → Option Value} {base : Heap}
/-! ### Letters(words) -/
def spLet (K : PySem.W.Frag) (CL CB CM : Addr) : Sp := fun vs H Q E => ∃ (p dx a : Addr) (xs : List V) (ds : List PyData) (N : Addr → Prop), vs = [.ref p, .ref a] ∧ H p = some (.ins CL dx []) ∧ (SqL K H a xs ∨ SqT K H a xs) ∧ ItL N H xs ds ∧ xs.length ≤ 100 ∧
  (∀ (H' : Hp) (d : Addr) (i : Int), res ds = .tuple [.str "letters", .int i] → Same H H' → H' d = some (.xd (fsBad [.int i])) → E (.ref CB) (some d) H') ∧
  (∀ (H' : Hp) (d : Addr), 12 < ds.length → Same H H' → H' d = some (.xd (fsMany [.str "letters", .int (ds.length : Nat), .int 12])) → E (.ref CM) (some d) H') ∧
  (∀ (H' : Hp) (t : Addr) (o : Obj), res ds = .none → o.dict = none → H' p = some (.ins CL dx [("words", .ref t)]) → H' t = some (.frz o (.tup xs)) → (∀ b o, b ≠ p → H b = some o → H' b = some o) → Q .non H')
abbrev s_Letters_init : Stmt := inClass (top 28) 0
theorem sc_Letters_init : FnScope ["self", "words", "many", "kept", "index", "word"] ["self", "words"] (defScope s_Letters_init) := ⟨rfl, rfl, rfl, by decide +kernel, rfl, by decide +kernel, by decide +kernel⟩
theorem ok_letInit {f fI fB fM CL CB CM : Addr} {fd fdI fdB fdM : FuncData} (F : Fun K "__init__" "Letters.__init__" s_Letters_init f fd) (T : Blt mg) (C : Gv K mg) (hC : Cls K CL) (hA : NoAttr K CL "words")
    (GI : FnOk P w K mg base CX0 2 fI fdI ["value"] (spIsL K)) (I : At K mg "is_letter" fI fdI ["value"])
    (FB : FnOk P w K mg base CX0 2 fB fdB ["self", "index"] (spErr CB okBad fsBad)) (EB : ErrAt K mg "BadLetters" CB fB fdB ["self", "index"])
    (FM : FnOk P w K mg base CX0 2 fM fdM ["self", "what", "many", "most"] (spErr CM okMany fsMany)) (EM : ErrAt K mg "TooMany" CM fM fdM ["self", "what", "many", "most"]) :
    FnOk P w K mg base (L2.CX P w) 4 f fd ["self", "words"] (spLet K CL CB CM) := by
  refine F.okX sc_Letters_init (fun vs H Q E h => ?_) (fun cdv A outer s H vs Q E hr h => ?_)
  · obtain ⟨p, dx, a, xs, ds, N, rfl, _⟩ := h
    rfl
  · obtain ⟨p, dx, a, xs, ds, N, rfl, hp, hS, hI, hn, kB, kM, kQ⟩ := h
    have hu65 : A.units + 3 + 65 < cLine := by have := hr.un; have e : (A.deeper (PyProof.Rows.envOfC (Str.ofString "Letters.__init__") (defScope s_Letters_init) s.heap.objs.size f cdv)).units = A.units + 3 := rfl; omega
    have hr2 := hr.mono (j := 2) (by decide)
    refine ⟨_, (pss_cons (ps_set (i := 2) sc_Letters_init.nd rfl (Or.inl rfl) (pe_callB call_len_seq (by rfl) T.n_len (by decide +kernel) (pa_cons (pv 1) pa_nil)))
      (pss_cons (ps_if (pt_cmpR op_gt (pv 2) (pe_gv rfl C.mostL) (nomark _)) (pss_one (ps_raise rfl (takes_of rfl rfl rfl rfl) (pmk_oex EM.o EM.i EM.t FM hr EM.b .nil pass0 (by rfl) EM.m (pa_cons pe_str (pa_cons (pv 2) (pa_cons (pe_gv rfl C.mostL) pa_nil)))))) pss_nil)
      (pss_cons (ps_if (pt_cmpR op_eq (pv 2) pe_int (nomark _)) (pss_one (ps_raise rfl (takes_of rfl rfl rfl rfl) (pmk_oex EB.o EB.i EB.t FB hr EB.b .nil pass0 (by rfl) EB.m (pa_cons pe_int pa_nil)))) pss_nil)
      (pss_cons (ps_set (i := 3) sc_Letters_init.nd rfl (Or.inl rfl) (pe_lst pa_nil))
      (pss_cons (ps_for (passes_of rfl) rfl (pi_enumA (by rfl) T.n_enumerate (pa_cons (pv 1) pa_nil)) (pg_tup rfl (pgs_cons (pg_name (i := 4) sc_Letters_init.nd rfl (Or.inl rfl)) (pgs_cons (pg_name (i := 5) sc_Letters_init.nd rfl (Or.inl rfl)) pgs_nil))) (pss_cons (ps_if (PW.pt (pw_or (pt_not (pt_val (pe_call GI hr2 (by rfl) I.m I.k I.b .nil pass0 (pa_cons (pv 5) pa_nil)))) (pw_or1 (pt_cmpR (op_inD hu65) (pv 5) (pv 3) rfl)))) (pss_one (ps_raise rfl (takes_of rfl rfl rfl rfl) (pmk_oex EB.o EB.i EB.t FB hr EB.b .nil pass0 (by rfl) EB.m (pa_cons (pv 4) pa_nil)))) pss_nil)
      (pss_one (ps_expr (pe_bm PySem.F.plainAttrs_list PySem.F.slot_list_append PySem.F.type_list_append mt_append (pv 3) (pa_cons (pv 5) pa_nil))))))
      (pss_one (ps_fld (pv 0) (pe_callTy call_tuple_frz (by rfl) T.n_tuple (by decide +kernel) (pa_cons (pv 3) pa_nil)) rfl))))))), ?_⟩
    have hlen := hI.len
    have z1 : (1000 : Nat) ≤ sizeLine := by decide
    have fit := hI.fit
    refine ⟨_, rfl, a, xs, rfl, hS, _, rfl, _, _, rfl, rfl, _, rfl, ite2 (fun h1 => ?_) (fun h1 => ?_)⟩
    · have h1 : (12 : Int) < (xs.length : Nat) := of_decide_eq_true h1
      refine ⟨_, rfl, err_made (Same.refl H) ⟨_, rfl⟩ (by show 3 ≤ 1000; decide) (fun H' d s' e => kM H' d (by omega) s' ?_)⟩
      rw [← hlen]
      exact e
    have h1 : ¬ 12 < ds.length := fun q => h1 (decide_eq_true (by omega))
    refine ⟨_, rfl, rfl, _, rfl, ite2 (fun h2 => ?_) (fun h2 => ?_)⟩
    · have h2 : V.int ((xs.length : Nat) : Int) = V.int 0 := of_decide_eq_true h2
      injection h2 with h2
      exact err_made (Same.refl H) ⟨_, rfl⟩ (by show 1 ≤ 1000; decide) (fun H' d s' e => kB H' d 0 (res_none (by omega)) s' e)
    have h2 : 0 < ds.length := by
      have : ¬ ((xs.length : Nat) : Int) = 0 := fun q => h2 (decide_eq_true (congrArg V.int q))
      omega
    refine ⟨Nat.zero_le _, fun L hL => ?_⟩
    have s1 := Ask.Same.made1 (o := .lst []) (Same.refl H) hL
    have hL1 : upd H L (.lst []) L = some (.lst (xs.take 0)) := upd_same
    generalize upd H L (.lst []) = H1 at s1 hL1 ⊢
    obtain ⟨J, G, wk, hG, fits⟩ : ∃ (J : It) (G : Hp → Prop), Walk J xs.length G (YPair (fun i => some (.int (i : Nat))) (fun i => xs[i]?)) ∧ (∀ H', Same H H' → G H') ∧
        ∀ (R : It → Hp → Prop), R J H1 → iEnumA K (tCons (tVar 1) tNil) [some (.ref p), some (.ref a), some (.int (xs.length : Nat)), some (.ref L), none, none] H1 R := by
      rcases hS with hS | hS
      · exact ⟨Ite K a, _, walk_enum, fun H' s' => s'.seq hS, fun R r => ⟨_, rfl, a, xs, rfl, .inl ⟨s1.seq hS, r⟩⟩⟩
      · exact ⟨IteT K a, _, walk_enumT, fun H' s' => seqT_same s' hS, fun R r => ⟨_, rfl, a, xs, rfl, .inr ⟨seqT_same s1 hS, r⟩⟩⟩
    refine for_enum fits wk (fun i σ' H' => ∃ o4 o5 : Option V, σ' = [some (.ref p), some (.ref a), some (.int (xs.length : Nat)), some (.ref L), o4, o5] ∧ Same H H' ∧ H' L = some (.lst (xs.take i)) ∧ ∀ j < i, badAt ds j = false)
      ⟨none, none, rfl, s1, hL1, fun j hj => absurd hj (Nat.not_lt_zero _)⟩ (fun i σ' H' _ ⟨_, _, _, s', _⟩ => hG H' s') ?_ ?_
    · rintro i x σ' H2 H3 hi ⟨o4, o5, rfl, s2, hL2, hno⟩ ⟨t, x0, y0, rfl, ht, rfl, ex, ey⟩
      cases ex
      obtain ⟨v, d, hv, hd, hvd⟩ := hI.get i hi
      replace ey : xs[i]? = some y0 := ey
      obtain rfl : v = y0 := Option.some.inj (hv.symm.trans ey)
      clear ey
      have s3 := Ask.Same.made1 (o := .tup [.int (i : Nat), v]) s2 ht
      have hL3 : upd H2 t (.tup [.int (i : Nat), v]) L = some (.lst (xs.take i)) := by rw [upd_ne (ne_of_none hL2 ht)]; exact hL2
      have ht3 : upd H2 t (.tup [.int (i : Nat), v]) t = some (.tup [.int (i : Nat), v]) := upd_same
      generalize upd H2 t (.tup [.int (i : Nat), v]) = H4 at s3 hL3 ht3 ⊢
      have e0 : badAt ds i = (!isL d || (ds.take i).any fun z => PyData.eqv z d) := by
        unfold badAt
        rw [hd]
      have bad : ∀ H5, Same H H5 → badAt ds i = true → tMkO CB (spErr CB okBad fsBad) [] (tCons (tVar 4) tNil) [some (.ref p), some (.ref a), some (.int (xs.length : Nat)), some (.ref L), some (.int (i : Nat)), some v] H5 fun cls d H' => E cls d H' := fun H5 s5 q =>
        ⟨_, rfl, err_made s5 ⟨_, rfl⟩ (by show 1 ≤ 1000; decide) (fun H' d s' e => kB H' d i (res_at h1 (by omega) q hno) s' e)⟩
      refine ⟨t, _, rfl, SqT.of ht3, rfl, _, _, rfl, _, _, rfl, rfl, ?_⟩
      have hvd4 := hvd.same s3
      refine ⟨_, rfl, v, d, rfl, hvd4.dp, hvd4.itm, fun H5 s5 => ⟨_, rfl, ?_⟩⟩
      have s35 := s3.trans s5
      have hL5 := s5 _ _ hL3
      refine ite2 (fun q => ?_) (fun q => ?_)
      · exact iteT (bad H5 s35 (by rw [e0]; have q : (!isL d) = true := q; rw [q]; rfl))
      · have q : (!isL d) = false := (Bool.not_eq_true _).mp q
        have hT := (hI.mp fun v d h => h.same s35).take i
        refine ⟨_, rfl, _, rfl, d, ds.take i, (hvd.same s35).dp, .lst (SqL.of hL5) hT.dp, (itm_fit hvd.itm).shaped, hT.fit.shapedL, _, rfl, ?_⟩
        have e1 : badAt ds i = (ds.take i).any fun z => PyData.eqv z d := by rw [e0, q, Bool.false_or]
        refine ite2 (fun q => bad H5 s35 (by rw [e1]; exact q)) (fun q => ?_)
        have q : badAt ds i = false := by rw [e1]; exact (Bool.not_eq_true _).mp q
        refine ⟨_, rfl, .inl ⟨rfl, _, SqL.of hL5⟩, _, rfl, L, _, _, rfl, rfl, hL5, ?_, ?_⟩
        · rw [List.length_take]
          omega
        · refine ⟨_, _, rfl, Ask.Same.upd_new s35 hL, ?_, fun j hj => ?_⟩
          · rw [upd_same, List.take_add_one, hv]
            rfl
          · rcases Nat.lt_succ_iff_lt_or_eq.mp hj with hj | rfl
            · exact hno j hj
            · exact q
    · rintro σ' H2 ⟨o4, o5, rfl, s2, hL2, hno⟩
      rw [List.take_length] at hL2
      refine ⟨_, rfl, L, xs, rfl, SqL.of hL2, fun t ob ht hob => ?_⟩
      have npt : p ≠ t := ne_of_none (s2 _ _ hp) ht
      refine ⟨_, rfl, p, CL, dx, [], rfl, (by rw [upd_ne npt]; exact s2 _ _ hp), hC, hA, (by show 0 < 1000; decide), ?_⟩
      refine kQ _ t ob (res_good h1 h2 (by rw [← hlen]; exact hno)) hob upd_same (by rw [upd_ne npt.symm]; exact upd_same) fun b o hb e => ?_
      have e' := s2 _ _ e
      rw [upd_ne hb, upd_ne (ne_of_none e' ht)]
      exact e'
end
end Ask

/-! a loop over a list or a tuple, a pair that is a list or a tuple -/
namespace Ask
open PySem L2 PySem.Spec PyProof.Rows
theorem pg_or {X : Cx} {tg : Expr} {g1 g2 : TG} (h1 : PG X tg g1) (h2 : PG X tg g2) : PG X tg (fun v σ H Q => g1 v σ H Q ∨ g2 v σ H Q) :=
  ⟨fun pins s σ H v u Q I r h => h.elim (h1.run pins s σ H v u Q I r) (h2.run pins s σ H v u Q I r)⟩
theorem pi_or {X : Cx} {tg e : Expr} {w1 w2 : TI} (h1 : PI X tg e w1) (h2 : PI X tg e w2) : PI X tg e (fun σ H R => w1 σ H R ∨ w2 σ H R) :=
  ⟨fun pins s σ H R I h => h.elim (h1.run pins s σ H R I) (h2.run pins s σ H R I)⟩
end Ask

namespace Ask
open PySem L2
/-! ### runs, joined: the mirror -/
abbrev Run := Str × Int
def jstep (st : List Run × Option Run) (r : Run) : List Run × Option Run := match st.2 with
  | some l => if l.1 = r.1 then (st.1, some (l.1, l.2 + r.2)) else (st.1 ++ [l], some r)
  | none => (st.1, some r)
def jrun (rs : List Run) : List Run × Option Run := rs.foldl jstep ([], none)
def joinR (rs : List Run) : List Run := (jrun rs).1 ++ (jrun rs).2.toList
theorem jstep_eq {st1 : List Run} {l r : Run} (e : l.1 = r.1) : jstep (st1, some l) r = (st1, some (l.1, l.2 + r.2)) := if_pos e
theorem jstep_ne {st1 : List Run} {l r : Run} (e : ¬ l.1 = r.1) : jstep (st1, some l) r = (st1 ++ [l], some r) := if_neg e
theorem jrun_more {rs : List Run} {i : Nat} {r : Run} (h : rs[i]? = some r) : jrun (rs.take (i + 1)) = jstep (jrun (rs.take i)) r := by
  unfold jrun
  rw [List.take_add_one, h, List.foldl_append]
  rfl
theorem jrun_len (rs : List Run) : (jrun rs).1.length ≤ rs.length := by
  have : ∀ (rs : List Run) (st : List Run × Option Run), (rs.foldl jstep st).1.length ≤ st.1.length + rs.length := by
    intro rs
    induction rs with
    | nil => intro st; simp
    | cons r rs ih =>
      intro st
      rw [List.foldl_cons]
      refine Nat.le_trans (ih _) ?_
      have : (jstep st r).1.length ≤ st.1.length + 1 := by
        unfold jstep
        split
        · split
          · exact Nat.le_succ _
          · rw [List.length_append]; exact Nat.le_refl _
        · exact Nat.le_succ _
      rw [List.length_cons]
      omega
  have := this rs ([], none)
  simpa [jrun] using this
/-- a run as a value: a list or a tuple of a text and a number -/
def RunV (K : PySem.W.Frag) (H : Hp) (v : V) (r : Run) : Prop := ∃ b, v = .ref b ∧ (SqL K H b [.str r.1, .int r.2] ∨ SqT K H b [.str r.1, .int r.2])
def RunsV (K : PySem.W.Frag) (H : Hp) (xs : List V) (rs : List Run) : Prop := xs.length = rs.length ∧ ∀ (i : Nat) (v : V) (r : Run), xs[i]? = some v → rs[i]? = some r → RunV K H v r
/-- made pairs -/
def PairsV (H : Hp) (xs : List V) (rs : List Run) : Prop := xs.length = rs.length ∧ ∀ (i : Nat) (v : V) (r : Run), xs[i]? = some v → rs[i]? = some r → ∃ b, v = .ref b ∧ H b = some (.tup [.str r.1, .int r.2])
theorem RunV.same {K : PySem.W.Frag} {H H' : Hp} {v : V} {r : Run} (h : RunV K H v r) (s : Same H H') : RunV K H' v r := by
  obtain ⟨b, e, h | h⟩ := h
  · exact ⟨b, e, .inl (s.seq h)⟩
  · exact ⟨b, e, .inr (seqT_same s h)⟩
theorem PairsV.same {H H' : Hp} {xs : List V} {rs : List Run} (h : PairsV H xs rs) (s : Same H H') : PairsV H' xs rs :=
  ⟨h.1, fun i v r h1 h2 => let ⟨b, e, h3⟩ := h.2 i v r h1 h2; ⟨b, e, s _ _ h3⟩⟩
theorem PairsV.nil {H : Hp} : PairsV H [] [] := ⟨rfl, fun i v r h _ => by simp at h⟩
theorem PairsV.app {H : Hp} {xs : List V} {rs : List Run} {b : Addr} {r : Run} (h : PairsV H xs rs) (hb : H b = some (.tup [.str r.1, .int r.2])) : PairsV H (xs ++ [.ref b]) (rs ++ [r]) := by
  refine ⟨by rw [List.length_append, List.length_append, h.1]; rfl, fun i v r' h1 h2 => ?_⟩
  by_cases hi : i < xs.length
  · rw [List.getElem?_append_left hi] at h1
    rw [List.getElem?_append_left (by rw [← h.1]; exact hi)] at h2
    exact h.2 i v r' h1 h2
  · rw [List.getElem?_append_right (by omega)] at h1
    rw [List.getElem?_append_right (by rw [← h.1]; omega), ← h.1] at h2
    have e : i - xs.length = 0 := by
      have := (List.getElem?_eq_some_iff.mp h1).1
      have : i - xs.length < 1 := this
      omega
    rw [e] at h1 h2
    cases h1
    cases h2
    exact ⟨b, rfl, hb⟩
/-- PairsV stands where only what is no pair of it is written -/
theorem PairsV.mut {H : Hp} {xs ys : List V} {rs : List Run} {L : Addr} {o : HO} (h : PairsV H xs rs) (hL : H L = some (.lst ys)) : PairsV (upd H L o) xs rs :=
  ⟨h.1, fun i v r h1 h2 => let ⟨b, e, h3⟩ := h.2 i v r h1 h2; ⟨b, e, by rw [upd_ne (ne_of h3 hL (by intro z; cases z))]; exact h3⟩⟩
theorem for_any {wi : TI} {g : TG} {tb u : TS} {D : Ends} {σ : L2.St} {H : Hp} {J : It} {n : Nat} {G : Hp → Prop} {Y : Nat → Hp → V → Hp → Prop} (f : ∀ R : It → Hp → Prop, R J H → wi σ H R)
    (wk : Walk J n G Y) (Pv : Nat → L2.St → Hp → Prop) (h0 : Pv 0 σ H) (hG : ∀ i σ H, i ≤ n → Pv i σ H → G H)
    (hs : ∀ i x σ H H', i < n → Pv i σ H → Y i H x H' → g x σ H' fun σ2 H2 => tb { D with nx := Pv (i + 1), ct := Pv (i + 1), bk := u D } σ2 H2) (hd : ∀ σ H, Pv n σ H → u D σ H) :
    tSeq (tFor wi g tb) u D σ H := by
  delta tSeq tFor
  exact f _ (for_it (D := { D with nx := u D }) wk Pv h0 hG hs hd)
def lastV : Option Run → V
  | some r => .str r.1
  | none => .non
def totV : Option Run → V
  | some r => .int r.2
  | none => .int 0
section
variable {P : Program} {w : World} {K : PySem.W.Frag} {mg : Str → Option Value} {base : Heap}
def spJoined (K : PySem.W.Frag) : Sp := fun vs H Q _ => ∃ (a : Addr) (xs : List V) (rs : List Run), vs = [.ref a] ∧ (SqL K H a xs ∨ SqT K H a xs) ∧ RunsV K H xs rs ∧ rs.length ≤ 10000 ∧
  ∀ (H' : Hp) (t : Addr) (ks : List V), Same H H' → H' t = some (.tup ks) → PairsV H' ks (joinR rs) → Q (.ref t) H'
abbrev s_joined : Stmt := top 30
theorem sc_joined : FnScope ["runs", "kept", "last", "total", "letter", "count"] ["runs"] (defScope s_joined) := ⟨rfl, rfl, rfl, by decide +kernel, rfl, by decide +kernel, by decide +kernel⟩
theorem ok_joined {f : Addr} {fd : FuncData} (F : Fun K "joined" "joined" s_joined f fd) (T : Blt mg) : FnOk P w K mg base CX0 1 f fd ["runs"] (spJoined K) := by
  refine F.ok sc_joined (fun vs H Q E h => ?_) (fun cdv A outer s H vs Q E hr h => ?_)
  · obtain ⟨a, xs, rs, rfl, _⟩ := h
    rfl
  · obtain ⟨a, xs, rs, rfl, hS, hR, hn, k⟩ := h
    refine ⟨_, (pss_cons (ps_set (i := 1) sc_joined.nd rfl (Or.inl rfl) (pe_lst pa_nil))
      (pss_cons (ps_asg (pe_tup (pa_cons pe_non (pa_cons pe_int pa_nil))) (pg_tup rfl (pgs_cons (pg_name (i := 2) sc_joined.nd rfl (Or.inl rfl)) (pgs_cons (pg_name (i := 3) sc_joined.nd rfl (Or.inl rfl)) pgs_nil))))
      (pss_cons (ps_for PassesOwn.never rfl (pi_or (pi_list (pv 0)) (pi_tup (pv 0))) (pg_or (pg_tup rfl (pgs_cons (pg_name (i := 4) sc_joined.nd rfl (Or.inl rfl)) (pgs_cons (pg_name (i := 5) sc_joined.nd rfl (Or.inl rfl)) pgs_nil))) (pg_lst rfl (pgs_cons (pg_name (i := 4) sc_joined.nd rfl (Or.inl rfl)) (pgs_cons (pg_name (i := 5) sc_joined.nd rfl (Or.inl rfl)) pgs_nil)))) (pss_one (ps_if (pt_cmpR op_eq (pv 4) (pv 2) (nomark _)) (pss_one (ps_set (i := 3) sc_joined.nd rfl (Or.inl rfl) (pe_op op_add (pv 3) (pv 5)))) (pss_cons (ps_if (pt_cmpR op_notN (pv 2) pe_non (nomark _)) (pss_one (ps_expr (pe_bm PySem.F.plainAttrs_list PySem.F.slot_list_append PySem.F.type_list_append mt_append (pv 1) (pa_cons (pe_tup (pa_cons (pv 2) (pa_cons (pv 3) pa_nil))) pa_nil)))) pss_nil)
      (pss_one (ps_par (i := 2) (j := 3) rfl sc_joined.nd rfl rfl (by decide) rfl rfl (pa_cons (pv 4) (pa_cons (pv 5) pa_nil)) (by rfl)))))))
      (pss_cons (ps_if (pt_cmpR op_notN (pv 2) pe_non (nomark _)) (pss_one (ps_expr (pe_bm PySem.F.plainAttrs_list PySem.F.slot_list_append PySem.F.type_list_append mt_append (pv 1) (pa_cons (pe_tup (pa_cons (pv 2) (pa_cons (pv 3) pa_nil))) pa_nil)))) pss_nil)
      (pss_one (ps_ret (pe_callTy call_tuple_of (by rfl) T.n_tuple (by decide +kernel) (pa_cons (pv 1) pa_nil)))))))), ?_⟩
    have z1 : (100000 : Nat) ≤ sizeLine := by decide
    -- kept, last, total
    refine ⟨Nat.zero_le _, fun L hL => ?_⟩
    have s1 := Ask.Same.made1 (o := .lst []) (Same.refl H) hL
    have hL1 : upd H L (.lst []) L = some (.lst []) := upd_same
    generalize upd H L (.lst []) = H1 at s1 hL1 ⊢
    refine ⟨by show 2 ≤ sizeLine; decide, fun t ht => ⟨t, _, rfl, SqT.of upd_same, rfl, _, _, rfl, _, _, rfl, rfl, ?_⟩⟩
    have s2 := Ask.Same.made1 (o := .tup [.non, .int 0]) s1 ht
    have hL2 : upd H1 t (.tup [.non, .int 0]) L = some (.lst []) := by rw [upd_ne (ne_of_none hL1 ht)]; exact hL1
    generalize upd H1 t (.tup [.non, .int 0]) = H2 at s2 hL2 ⊢
    clear hL1 s1 ht
    -- the loop
    obtain ⟨J, G, wk, hG, fits⟩ : ∃ (J : It) (G : Hp → Prop), Walk J xs.length G (YAt xs) ∧ (∀ H', Same H H' → G H') ∧
        ∀ (R : It → Hp → Prop), R J H2 → (iList K (tVar 0) [some (.ref a), some (.ref L), some .non, some (.int 0), none, none] H2 R ∨ iTup K (tVar 0) [some (.ref a), some (.ref L), some .non, some (.int 0), none, none] H2 R) := by
      rcases hS with hS | hS
      · exact ⟨Itl K a, _, walk_list, fun H' s' => s'.seq hS, fun R r => .inl ⟨_, rfl, a, rfl, ⟨_, s2.seq hS⟩, r⟩⟩
      · exact ⟨Itt K a, _, walk_tup, fun H' s' => seqT_same s' hS, fun R r => .inr ⟨_, rfl, a, rfl, ⟨_, seqT_same s2 hS⟩, r⟩⟩
    try dsimp only
    refine for_any fits wk (fun i σ' H' => ∃ o4 o5 : Option V, σ' = [some (.ref a), some (.ref L), some (lastV (jrun (rs.take i)).2), some (totV (jrun (rs.take i)).2), o4, o5] ∧ Same H H' ∧ ∃ ks, H' L = some (.lst ks) ∧ PairsV H' ks (jrun (rs.take i)).1)
      ⟨none, none, rfl, s2, [], hL2, PairsV.nil⟩ (fun i σ' H' _ ⟨_, _, _, s', _⟩ => hG H' s') ?_ ?_
    · rintro i v σ' H3 H4 hi ⟨o4, o5, rfl, s3, ks, hL3, hk⟩ ⟨rfl, hv⟩
      obtain ⟨r, hri⟩ : ∃ r, rs[i]? = some r := ⟨_, List.getElem?_eq_getElem (by rw [← hR.1]; exact hi)⟩
      have step := jrun_more hri
      have hkl : ks.length ≤ 10000 := by
        have e1 := hk.1
        have e2 := jrun_len (rs.take i)
        rw [List.length_take] at e2
        omega
      obtain ⟨b, rfl, hb⟩ := (hR.2 i v _ hv hri).same s3
      generalize jrun (rs.take i) = st at step hk ⊢
      obtain ⟨st1, st2⟩ := st
      rcases hb with hb | hb
      all_goals
        first
          | refine .inr ⟨b, _, rfl, hb, rfl, _, _, rfl, _, _, rfl, rfl, ?_⟩
          | refine .inl ⟨b, _, rfl, hb, rfl, _, _, rfl, _, _, rfl, rfl, ?_⟩
        rcases st2 with _ | l
        · refine ⟨_, rfl, _, rfl, rfl, _, rfl, ?_⟩
          rw [decide_eq_false (show ¬ V.str r.1 = lastV none from fun z => by cases z)]
          refine iteF ?_
          refine ⟨_, rfl, rfl, _, rfl, ?_⟩
          rw [decide_eq_true (show lastV none = V.non from rfl)]
          refine iteF ?_
          refine ⟨_, rfl, _, rfl, _, _, rfl, some (.str r.1), some (.int r.2), ?_, s3, ks, hL3, ?_⟩
          · rw [step]
            rfl
          · rw [step]
            exact hk
        · refine ⟨_, rfl, _, rfl, rfl, _, rfl, ?_⟩
          by_cases e : l.1 = r.1
          · rw [decide_eq_true (show V.str r.1 = lastV (some l) from congrArg V.str e.symm)]
            refine iteT ?_
            refine ⟨_, rfl, _, rfl, _, _, rfl, rfl, some (.str r.1), some (.int r.2), ?_, s3, ks, hL3, ?_⟩
            · rw [step, jstep_eq e]
              rfl
            · rw [step, jstep_eq e]
              exact hk
          · rw [decide_eq_false (show ¬ V.str r.1 = lastV (some l) from fun z => e (V.str.inj z).symm)]
            refine iteF ?_
            refine ⟨_, rfl, rfl, _, rfl, ?_⟩
            rw [decide_eq_false (show ¬ lastV (some l) = V.non from fun z => by cases z)]
            refine iteT ?_
            refine ⟨_, rfl, .inl ⟨rfl, _, SqL.of hL3⟩, _, rfl, _, rfl, by show 2 ≤ sizeLine; decide, fun b2 hb2 => ?_⟩
            have hL4 : upd H4 b2 (.tup [.str l.1, .int l.2]) L = some (.lst ks) := by rw [upd_ne (ne_of_none hL3 hb2)]; exact hL3
            have s4 := Ask.Same.made1 (o := .tup [.str l.1, .int l.2]) s3 hb2
            have k4 := hk.same (Ask.Same.made1 (o := .tup [.str l.1, .int l.2]) (Same.refl H4) hb2)
            have hb4 : upd H4 b2 (.tup [.str l.1, .int l.2]) b2 = some (.tup [.str l.1, .int l.2]) := upd_same
            refine ⟨L, _, _, rfl, rfl, hL4, by omega, ?_⟩
            refine ⟨_, rfl, _, rfl, _, _, rfl, some (.str r.1), some (.int r.2), ?_, Ask.Same.upd_new s4 hL, _, upd_same, ?_⟩
            · rw [step, jstep_ne e]
              rfl
            · rw [step, jstep_ne e]
              exact (k4.app (b := b2) (r := l) hb4).mut hL4
    · rintro σ' H3 ⟨o4, o5, rfl, s3, ks, hL3, hk⟩
      rw [hR.1, List.take_length] at hk ⊢
      have hkl : ks.length ≤ 10000 := by
        have e1 := hk.1
        have e2 := jrun_len rs
        omega
      have ej : joinR rs = (jrun rs).1 ++ (jrun rs).2.toList := rfl
      generalize jrun rs = st at hk ej ⊢
      obtain ⟨st1, st2⟩ := st
      have fin : ∀ (H4 : Hp) (kt : List V), Same H H4 → H4 L = some (.lst kt) → PairsV H4 kt (joinR rs) → tRet (tCB (fun xs H Q => ∃ p ys, xs = [.ref p] ∧ ((SqL K H p ys ∧ ∀ l, H l = none → Q (.ref l) (upd H l (.tup ys))) ∨ (SqT K H p ys ∧ Q (.ref p) H))) (tCons (tVar 1) tNil)) { nx := fun _ H' => Q .non H', rt := Q } [some (.ref a), some (.ref L), some (lastV st2), some (totV st2), o4, o5] H4 :=
        fun H4 kt s4 h4 k4 => ⟨_, rfl, L, kt, rfl, .inl ⟨SqL.of h4, fun t2 ht2 => k _ t2 kt (Ask.Same.made1 s4 ht2) upd_same (k4.same (Ask.Same.made1 (Same.refl H4) ht2))⟩⟩
      rcases st2 with _ | l
      · refine ⟨_, rfl, rfl, _, rfl, ?_⟩
        rw [decide_eq_true (show lastV none = V.non from rfl)]
        refine iteF (fin H3 ks s3 hL3 ?_)
        rw [ej]
        simpa using hk
      · refine ⟨_, rfl, rfl, _, rfl, ?_⟩
        rw [decide_eq_false (show ¬ lastV (some l) = V.non from fun z => by cases z)]
        refine iteT ?_
        refine ⟨_, rfl, .inl ⟨rfl, _, SqL.of hL3⟩, _, rfl, _, rfl, by show 2 ≤ sizeLine; decide, fun b2 hb2 => ?_⟩
        have hL4 : upd H3 b2 (.tup [.str l.1, .int l.2]) L = some (.lst ks) := by rw [upd_ne (ne_of_none hL3 hb2)]; exact hL3
        have s4 := Ask.Same.made1 (o := .tup [.str l.1, .int l.2]) s3 hb2
        have k4 := hk.same (Ask.Same.made1 (o := .tup [.str l.1, .int l.2]) (Same.refl H3) hb2)
        have hb4 : upd H3 b2 (.tup [.str l.1, .int l.2]) b2 = some (.tup [.str l.1, .int l.2]) := upd_same
        refine ⟨L, _, _, rfl, rfl, hL4, by omega, ?_⟩
        refine fin _ _ (Ask.Same.upd_new s4 hL) upd_same ?_
        rw [ej]
        exact (k4.app (b := b2) (r := l) hb4).mut hL4
end
end Ask

namespace Ask
open PySem L2
theorem RunsV.same {K : PySem.W.Frag} {H H' : Hp} {xs : List V} {rs : List Run} (h : RunsV K H xs rs) (s : Same H H') : RunsV K H' xs rs := ⟨h.1, fun i v r h1 h2 => (h.2 i v r h1 h2).same s⟩
theorem PairsV.runs {K : PySem.W.Frag} {H : Hp} {xs : List V} {rs : List Run} (h : PairsV H xs rs) : RunsV K H xs rs := ⟨h.1, fun i v r h1 h2 => let ⟨b, e, h3⟩ := h.2 i v r h1 h2; ⟨b, e, .inr (SqT.of h3)⟩⟩
/-- how many letters runs tell -/
def sizeR (rs : List Run) : Int := (rs.map (·.2)).sum
theorem ret_cb {r : List V → Hp → VK → Prop} {t : TE} {D : Ends} {σ : L2.St} {H : Hp} (h : t σ H fun x H1 => r [x] H1 D.rt) : tRet (tCB r (tCons t tNil)) D σ H := h
theorem lc_any {wi : TI} {g : TG} {tt : TT} {te : TE} {vs : List Nat} {σ : L2.St} {H : Hp} {Q : VK} {J : It} {n : Nat} {G : Hp → Prop} {Y : Nat → Hp → V → Hp → Prop} (f : ∀ R : It → Hp → Prop, R J H → wi σ H R) (wk : Walk J n G Y)
    (h : ∀ D, H D = none → ∃ Pv : Nat → Hp → Prop, Pv 0 (upd H D (.lst [])) ∧ (∀ i H, i ≤ n → Pv i H → G H) ∧
      (∀ i x H H', i < n → Pv i H → Y i H x H' → g x (wipe σ vs) H' fun σ2 H2 => wipe σ2 vs = wipe σ vs ∧ tt σ2 H2 fun b H3 =>
        if b = true then te σ2 H3 fun y H4 => ∃ acc, H4 D = some (.lst acc) ∧ acc.length < sizeLine ∧ Pv (i + 1) (upd H4 D (.lst (acc ++ [y]))) else Pv (i + 1) H3) ∧ (∀ H, Pv n H → Q (.ref D) H)) :
    tLc wi g tt te vs σ H Q := by
  delta tLc
  exact f _ fun D hD => let ⟨Pv, h0, hG, hs, hd⟩ := h D hD; lc_it wk Pv h0 hG hs hd
section
variable {P : Program} {w : World} {K : PySem.W.Frag} {mg : Str → Option Value} {base : Heap}
def spSize (K : PySem.W.Frag) : Sp := fun vs H Q _ => ∃ (a : Addr) (xs : List V) (rs : List Run), vs = [.ref a] ∧ (SqL K H a xs ∨ SqT K H a xs) ∧ RunsV K H xs rs ∧ rs.length ≤ 10000 ∧ ∀ H', Same H H' → Q (.int (sizeR rs)) H'
abbrev s_size_of : Stmt := top 33
theorem sc_size_of : FnScope ["runs", "letter", "count"] ["runs"] (defScope s_size_of) := ⟨rfl, rfl, rfl, by decide +kernel, rfl, by decide +kernel, by decide +kernel⟩
theorem ok_size {f : Addr} {fd : FuncData} (F : Fun K "size_of" "size_of" s_size_of f fd) (nS : mg "sum" = none) : FnOk P w K mg base CX0 1 f fd ["runs"] (spSize K) := by
  refine F.ok sc_size_of (fun vs H Q E h => ?_) (fun cdv A outer s H vs Q E hr h => ?_)
  · obtain ⟨a, xs, rs, rfl, _⟩ := h
    rfl
  · obtain ⟨a, xs, rs, rfl, hS, hR, hn, k⟩ := h
    refine ⟨_, (pss_one (ps_ret (pe_callB (cr_sum rfl) (by rfl) nS (by decide +kernel) (pa_cons (pe_lc (own := [("letter", 1), ("count", 2)]) rfl sc_size_of.nd (pi_or (pi_list (pv 0)) (pi_tup (pv 0))) (blkOk_by (N := ["runs", "letter", "count"]) (sc := defScope s_size_of) (by decide +kernel)) (fun _ _ _ _ _ => (pg_or (show PG _ _ (gTup K 2 _) from pg_tup rfl (pgs_cons (pg_name (i := 1) sc_size_of.nd rfl (Or.inl rfl)) (pgs_cons (pg_name (i := 2) sc_size_of.nd rfl (Or.inl rfl)) pgs_nil))) (show PG _ _ (gLst K 2 _) from pg_lst rfl (pgs_cons (pg_name (i := 1) sc_size_of.nd rfl (Or.inl rfl)) (pgs_cons (pg_name (i := 2) sc_size_of.nd rfl (Or.inl rfl)) pgs_nil))))) (fun _ _ _ _ _ => pts_nil) (fun _ _ _ _ _ => (pv 2))) pa_nil)))), ?_⟩
    have z1 : (100000 : Nat) ≤ sizeLine := by decide
    obtain ⟨J, G, wk, hG, fits⟩ : ∃ (J : It) (G : Hp → Prop), Walk J xs.length G (YAt xs) ∧ (∀ H', Same H H' → G H') ∧
        ∀ (R : It → Hp → Prop), R J H → (iList K (tVar 0) [some (.ref a), none, none] H R ∨ iTup K (tVar 0) [some (.ref a), none, none] H R) := by
      rcases hS with hS | hS
      · exact ⟨Itl K a, _, walk_list, fun H' s' => s'.seq hS, fun R r => .inl ⟨_, rfl, a, rfl, ⟨_, hS⟩, r⟩⟩
      · exact ⟨Itt K a, _, walk_tup, fun H' s' => seqT_same s' hS, fun R r => .inr ⟨_, rfl, a, rfl, ⟨_, hS⟩, r⟩⟩
    refine ret_cb ?_
    refine lc_any (wi := fun σ H R => iList K (tVar 0) σ H R ∨ iTup K (tVar 0) σ H R) fits wk fun L hL => ⟨fun i H' => Same H H' ∧ H' L = some (.lst (((rs.take i).map (·.2)).map V.int)), ⟨Ask.Same.upd_new (Same.refl _) hL, upd_same⟩, fun i H' _ hh => hG H' hh.1, ?_, ?_⟩
    · rintro i v H3 H4 hi ⟨s3, hL3⟩ ⟨rfl, hv⟩
      obtain ⟨r, hri⟩ : ∃ r, rs[i]? = some r := ⟨_, List.getElem?_eq_getElem (by rw [← hR.1]; exact hi)⟩
      obtain ⟨b, rfl, hb⟩ := (hR.2 i v _ hv hri).same s3
      have go : ∀ (o : Option V), ∃ acc, H4 L = some (.lst acc) ∧ acc.length < sizeLine ∧ (Same H (upd H4 L (.lst (acc ++ [.int r.2]))) ∧ upd H4 L (.lst (acc ++ [.int r.2])) L = some (.lst (((rs.take (i + 1)).map (·.2)).map V.int))) := fun _ => by
        refine ⟨_, hL3, ?_, Ask.Same.upd_new s3 hL, ?_⟩
        · rw [List.length_map, List.length_map, List.length_take]
          omega
        · rw [upd_same, List.take_add_one, hri]
          simp only [Option.toList_some, List.map_append, List.map_cons, List.map_nil]
      rcases hb with hb | hb
      · exact .inr ⟨b, _, rfl, hb, rfl, _, _, rfl, _, _, rfl, rfl, rfl, _, rfl, go none⟩
      · exact .inl ⟨b, _, rfl, hb, rfl, _, _, rfl, _, _, rfl, rfl, rfl, _, rfl, go none⟩
    · rintro H3 ⟨s3, hL3⟩
      rw [hR.1, List.take_length] at hL3
      exact ⟨L, _, rfl, SqL.of hL3, k H3 s3⟩
end
end Ask

namespace Ask
open PySem L2
section
variable {P : Program} {w : World} {K : PySem.W.Frag} {mg : Str → Option Value} {base : Heap}
/-! ### is_whole, of any value whose kind is known -/
def spWhole (K : PySem.W.Frag) : Sp := fun vs H Q _ => ∃ (v : V) (t : Value) (b c : Bool), vs = [v] ∧ TyX K H v t ∧ PySem.W.kitOne K t (.type "int") = some b ∧ PySem.W.kitOne K t (.type "bool") = some c ∧ Q (.bl (b && !c)) H
abbrev s_is_whole : Stmt := top 6
theorem sc_is_whole : FnScope ["value"] ["value"] (defScope s_is_whole) := ⟨rfl, rfl, rfl, by decide +kernel, rfl, by decide +kernel, by decide +kernel⟩
theorem ok_whole {f : Addr} {fd : FuncData} (F : Fun K "is_whole" "is_whole" s_is_whole f fd) (T : Blt mg) (nB : mg "bool" = none) : FnOk P w K mg base CX0 1 f fd ["value"] (spWhole K) := by
  refine F.ok sc_is_whole (fun vs H Q E h => ?_) (fun cdv A outer s H vs Q E hr h => ?_)
  · obtain ⟨v, t, b, c, rfl, _⟩ := h
    rfl
  · obtain ⟨v, t, b, c, rfl, ty, h1, h2, k⟩ := h
    refine ⟨_, (pss_one (ps_ret (pe_and (pe_callB call_isi (by rfl) T.n_isinstance (by decide +kernel) (pa_cons (pv 0) (pa_cons (pe_bltn (v := .ty "int") (u := .type "int") rfl T.n_int (by decide +kernel) rfl) pa_nil))) (pe_one (pe_not (pe_callB call_isi (by rfl) T.n_isinstance (by decide +kernel) (pa_cons (pv 0) (pa_cons (pe_bltn (v := .ty "bool") (u := .type "bool") rfl nB (by decide +kernel) rfl) pa_nil)))))))), ?_⟩
    refine ⟨_, rfl, v, _, t, _, b, rfl, .ty _, ty, h1, _, rfl, ite2 (fun h => ?_) (fun h => ?_)⟩
    · have h : b = true := h
      subst h
      exact ⟨_, rfl, v, _, t, _, c, rfl, .ty _, ty, h2, _, rfl, k⟩
    · have h : b = false := (Bool.not_eq_true _).mp h
      subst h
      exact k
/-! ### is_list_of -/
def spListOf (K : PySem.W.Frag) : Sp := fun vs H Q _ => ∃ (v : V) (t : Value) (m : Int), vs = [v, .int m] ∧ TyX K H v t ∧
  ((PySem.W.kitAny K t [.type "list", .type "tuple"] = some false ∧ ∀ H', Same H H' → Q (.bl false) H') ∨
    (PySem.W.kitAny K t [.type "list", .type "tuple"] = some true ∧ ∃ (a : Addr) (xs : List V), v = .ref a ∧ (SqL K H a xs ∨ SqT K H a xs) ∧ ∀ H', Same H H' → Q (.bl (decide ((xs.length : Int) = m))) H'))
abbrev s_is_list_of : Stmt := top 7
theorem sc_is_list_of : FnScope ["value", "many"] ["value", "many"] (defScope s_is_list_of) := ⟨rfl, rfl, rfl, by decide +kernel, rfl, by decide +kernel, by decide +kernel⟩
theorem tyx_same {H H' : Hp} {v : V} {t : Value} (h : TyX K H v t) (s : Same H H') : TyX K H' v t := by
  cases h with
  | base b =>
    cases b with
    | non => exact .base .non
    | bl y => exact .base (.bl y)
    | int i => exact .base (.int i)
    | str y => exact .base (.str y)
    | flt y => exact .base (.flt y)
    | lst e => exact .base (.lst (s _ _ e))
    | frz e => exact .base (.frz (s _ _ e))
    | tup e => exact .base (.tup (s _ _ e))
    | dK e => exact .base (.dK (s _ _ e))
    | dT e => exact .base (.dT (s _ _ e))
    | ins e cl ha hn ht hm => exact .base (.ins (s _ _ e) cl ha hn ht hm)
  | byt b => exact .byt b
  | set e => exact .set (s _ _ e)
  | kList e c => exact .kList e c
  | kTuple e c => exact .kTuple e c
  | kDict e c => exact .kDict e c
  | fTuple e => exact .fTuple (s _ _ e)
  | fDict e => exact .fDict (s _ _ e)
theorem ok_listOf {f : Addr} {fd : FuncData} (F : Fun K "is_list_of" "is_list_of" s_is_list_of f fd) (T : Blt mg) : FnOk P w K mg base CX0 1 f fd ["value", "many"] (spListOf K) := by
  refine F.ok sc_is_list_of (fun vs H Q E h => ?_) (fun cdv A outer s H vs Q E hr h => ?_)
  · obtain ⟨v, t, m, rfl, _⟩ := h
    rfl
  · obtain ⟨v, t, m, rfl, ty, h⟩ := h
    refine ⟨_, (pss_one (ps_ret (pe_and (pe_callB call_isiT (by rfl) T.n_isinstance (by decide +kernel) (pa_cons (pv 0) (pa_cons (pe_tup (pa_cons (pe_bltn (v := .ty "list") (u := .type "list") rfl T.n_list (by decide +kernel) rfl) (pa_cons (pe_bltn (v := .ty "tuple") (u := .type "tuple") rfl T.n_tuple (by decide +kernel) rfl) pa_nil))) pa_nil))) (pe_one (pe_cmpR op_eq (pe_callB call_len_seq (by rfl) T.n_len (by decide +kernel) (pa_cons (pv 0) pa_nil)) (pv 1) (nomark _)))))), ?_⟩
    refine ⟨_, rfl, by show 2 ≤ sizeLine; decide, fun q hq => ?_⟩
    have s1 := Ask.Same.made1 (o := .tup [.ty "list", .ty "tuple"]) (Same.refl H) hq
    have hq1 : upd H q (.tup [.ty "list", .ty "tuple"]) q = some (.tup [.ty "list", .ty "tuple"]) := upd_same
    generalize upd H q (.tup [.ty "list", .ty "tuple"]) = H1 at s1 hq1 ⊢
    rcases h with ⟨ka, k⟩ | ⟨ka, a, xs, rfl, hS, k⟩
    · refine ⟨v, q, _, t, _, false, rfl, hq1, .cons (.ty _) (.cons (.ty _) .nil), tyx_same ty s1, ka, _, rfl, ite2 (fun h => absurd h Bool.false_ne_true) (fun _ => k H1 s1)⟩
    · refine ⟨_, q, _, t, _, true, rfl, hq1, .cons (.ty _) (.cons (.ty _) .nil), tyx_same ty s1, ka, _, rfl, ite2 (fun _ => ?_) (fun h => absurd rfl h)⟩
      have hS1 : SqL K H1 a xs ∨ SqT K H1 a xs := by
        rcases hS with hS | hS
        · exact .inl (s1.seq hS)
        · exact .inr (seqT_same s1 hS)
      refine ⟨_, rfl, a, xs, rfl, hS1, _, rfl, rfl, ?_⟩
      have e : decide (V.int (xs.length : Int) = V.int m) = decide ((xs.length : Int) = m) := by
        by_cases h : (xs.length : Int) = m
        · rw [decide_eq_true h, decide_eq_true (congrArg V.int h)]
        · rw [decide_eq_false h, decide_eq_false (fun z => h (V.int.inj z))]
      have := k H1 s1
      rw [← e] at this
      exact this
end
end Ask

/-! an instance's own __contains__, __len__, __eq__, each by what its def promises -/
namespace Ask
open PySem L2 PySem.Spec PyProof.Rows
section
variable {X : Cx} {CX : CXT} {k : Nat} {C f : Addr} {fd : FuncData} {ps : List Str} {sp : Sp} {E : XK}
theorem run_at {A : Around} {pins : List (Addr × Obj)} {σ : L2.St} {H : Hp} {s : Shared} {Q : VK} {us : List Value} {vs : List V} (F : FnOk X.prog X.w X.K X.mg X.base CX k f fd ps sp) (hr : Room k A) (hfr : A.frames = X.A.frames) (hb : Binds X.K fd ps []) (hx : Passes CX X E)
    (I : Inv X pins σ H s) (r : Vals vs us) (h : sp vs H Q E) : wpAny (model X.prog X.w) A (call (.ref f) us) (EP X pins σ Q) X.xe s := by
  have hl : us.length = ps.length := by rw [← r.length]; exact F.len _ _ _ _ h
  have b := hb s us I.kIn (by rw [List.append_nil]; exact hl)
  rw [List.append_nil] at b
  have e0 : Env0 X.prog X.w X.K X.mg X.base A X.stack s H := by
    have e := I.env0
    exact ⟨by rw [hfr]; exact e.frames, e.mod, e.bs, e.bsz, e.funs, e.frf, e.hok, e.bare⟩
  refine wpAny_call (codeAny_mono (F.run A X.stack s H ⟨us, []⟩ us vs Q E hr e0 b r h) fun r s' hq => ?_)
  cases r with
  | error e => exact hx pins σ H s e s' I hq
  | ok fl =>
    cases fl with
    | ret u => exact I.after hq
    | next => exact False.elim hq
    | brk => exact False.elim hq
    | cont => exact False.elim hq
/-- x in y, y an instance of C -/
def rInI (C : Addr) (sp : Sp) (E : XK) (neg : Bool) : R2 := fun x y H Q => ∃ (a dx : Addr) (fs : List (Str × V)), y = .ref a ∧ H a = some (.ins C dx fs) ∧ sp [.ref a, x] H (fun v H' => ∃ b : Bool, v = .bl b ∧ Q (.bl (if neg then !b else b)) H') E
theorem op_inI (F : FnOk X.prog X.w X.K X.mg X.base CX k f fd ps sp) (hr : Room k X.A) (hb : Binds X.K fd ps []) (hx : Passes CX X E) (hs : PySem.W.findIn X.K (.ref C) "__contains__" = some (some (.ref f))) (hf : PySem.W.isFn X.K (.ref f) = true) :
    OpR X (compareOp .In) (rInI C sp E false) := by
  intro pins s σ H x y v u Q I rx ry h
  obtain ⟨a, dx, fs, rfl, ha, q⟩ := h
  cases ry
  obtain ⟨mA, J, _⟩ := ins_get I.hok ha
  obtain ⟨od, J, _⟩ := J.look
  obtain ⟨m, hF⟩ := I.fr
  refine PySem.W.in_K hF I.ok.mod.kin J hs hf (thn (run_at (vs := [.ref a, x]) F hr rfl hb hx I (.cons rfl (.cons rx .nil)) q) fun r s' ⟨z, H', I', rz, b, ez, q'⟩ => ?_)
  subst ez
  cases rz
  exact wpAny_truthy_bool ⟨.bl b, H', I', rfl, q'⟩
theorem op_notInI (F : FnOk X.prog X.w X.K X.mg X.base CX k f fd ps sp) (hr : Room k X.A) (hb : Binds X.K fd ps []) (hx : Passes CX X E) (hs : PySem.W.findIn X.K (.ref C) "__contains__" = some (some (.ref f))) (hf : PySem.W.isFn X.K (.ref f) = true) :
    OpR X (compareOp .NotIn) (rInI C sp E true) := by
  intro pins s σ H x y v u Q I rx ry h
  obtain ⟨a, dx, fs, rfl, ha, q⟩ := h
  cases ry
  obtain ⟨mA, J, _⟩ := ins_get I.hok ha
  obtain ⟨od, J, _⟩ := J.look
  obtain ⟨m, hF⟩ := I.fr
  refine PySem.W.notIn_K hF I.ok.mod.kin J hs hf (thn (run_at (vs := [.ref a, x]) F hr rfl hb hx I (.cons rfl (.cons rx .nil)) q) fun r s' ⟨z, H', I', rz, b, ez, q'⟩ => ?_)
  subst ez
  cases rz
  exact wpAny_truthy_bool ⟨.bl (!b), H', I', rfl, q'⟩
/-- len(x), x an instance of C -/
theorem call_lenI (F : FnOk X.prog X.w X.K X.mg X.base CX k f fd ps sp) (hr : Room (k + 1) X.A) (hb : Binds X.K fd ps []) (hx : Passes CX X E) (hs : PySem.W.findIn X.K (.ref C) "__len__" = some (some (.ref f))) (hf : PySem.W.isFn X.K (.ref f) = true) :
    CallR X (.builtin "len") (fun xs H Q => ∃ (a dx : Addr) (fs : List (Str × V)), xs = [.ref a] ∧ H a = some (.ins C dx fs) ∧ sp [.ref a] H (fun v H' => ∃ n : Nat, v = .int n ∧ n ≤ 16777216 ∧ Q (.int n) H') E) := by
  intro pins s σ H xs us Q I r h
  obtain ⟨a, dx, fs, rfl, ha, q⟩ := h
  obtain ⟨u, rfl, ra⟩ := vals1 r
  obtain rfl : u = Value.ref a := ra
  obtain ⟨mA, J, _⟩ := ins_get I.hok ha
  obtain ⟨od, J, _⟩ := J.look
  obtain ⟨m, hF⟩ := I.fr
  refine PySem.W.len_K hF I.ok.mod.kin J hs hf (thn (run_at (vs := [.ref a]) F hr.in1 rfl hb hx I (.cons rfl .nil) q) fun r s' ⟨z, H', I', rz, n, ez, hn, q'⟩ => ?_)
  subst ez
  obtain ⟨t, rfl⟩ := rz
  exact ⟨⟨by omega, by omega⟩, ⟨.int n, H', I'.tok _, ⟨_, rfl⟩, q'⟩⟩
/-- x == y, both instances of C -/
theorem op_eqI (F : FnOk X.prog X.w X.K X.mg X.base CX k f fd ps sp) (hr : Room k X.A) (hb : Binds X.K fd ps []) (hx : Passes CX X E) (hs : PySem.W.findIn X.K (.ref C) "__eq__" = some (some (.ref f))) (hf : PySem.W.isFn X.K (.ref f) = true) :
    OpR X (compareOp .Eq) (fun x y H Q => ∃ (a b dx dy : Addr) (fs gs : List (Str × V)), x = .ref a ∧ y = .ref b ∧ H a = some (.ins C dx fs) ∧ H b = some (.ins C dy gs) ∧ sp [.ref a, .ref b] H (fun v H' => ∃ c : Bool, v = .bl c ∧ Q (.bl c) H') E) := by
  intro pins s σ H x y v u Q I rx ry h
  obtain ⟨a, b, dx, dy, fs, gs, rfl, rfl, ha, hb', q⟩ := h
  cases rx
  cases ry
  obtain ⟨mA, J, _⟩ := ins_get I.hok ha
  obtain ⟨mB, J', _⟩ := ins_get I.hok hb'
  obtain ⟨od, J, _⟩ := J.look
  obtain ⟨od', J', _⟩ := J'.look
  obtain ⟨m, hF⟩ := I.fr
  show wpAny (model X.prog X.w) X.A (richCompare .Eq (.ref a) (.ref b)) (EP X pins σ Q) X.xe s
  refine PySem.W.cmp_K (op := .Eq) (tb := .ref C) hr.units0 hF I.ok.mod.kin J J'.type (by simp [PySem.W.notFirst]) hs hf (thn (run_at (vs := [.ref a, .ref b]) F hr rfl hb hx I (.cons rfl (.cons rfl .nil)) q) fun r s' ⟨z, H', I', rz, c, ez, q'⟩ => ?_)
  subst ez
  cases rz
  exact ⟨.bl c, H', I', rfl, q'⟩
/-- a class over object with its own __eq__ at f and no __ne__ -/
def OwnNe (K : PySem.W.Frag) (C f : Addr) : Prop :=
  ∃ (nm q : Str) (N : Addr) (bs : List Value) (hdct : Bool) (sn : List Str) (sub : List Value) (ab : Bool) (col : Option Bool) (dd : Option Addr) (k0 k1 k2 k3 k5 : Option Value) (newId : String) (oN : Obj) (es : Array DictEntry) (ep : Nat) (of : Obj),
    K.lookup C = some (excClassObj nm q C N bs [.type "object"] hdct sn sub ab col dd k0 k1 k2 k3 k5 newId) ∧ K.lookup N = some oN ∧ oN.data = .dict es ep ∧ StrKeys es ∧ nsFind es "__eq__" = some (.ref f) ∧ nsFind es "__ne__" = none ∧
    K.lookup f = some of ∧ of.cls = .type "function"
/-- x != y, both instances of C -/
theorem op_neI (F : FnOk X.prog X.w X.K X.mg X.base CX k f fd ps sp) (hr : Room (k + 1) X.A) (hb : Binds X.K fd ps []) (hx : Passes CX X E) (cl : OwnNe X.K C f) :
    OpR X (compareOp .NotEq) (fun x y H Q => ∃ (a b dx dy : Addr) (fs gs : List (Str × V)), x = .ref a ∧ y = .ref b ∧ H a = some (.ins C dx fs) ∧ H b = some (.ins C dy gs) ∧ sp [.ref a, .ref b] H (fun v H' => ∃ c : Bool, v = .bl c ∧ Q (.bl (!c)) H') E) := by
  intro pins s σ H x y v u Q I rx ry h
  obtain ⟨a, b, dx, dy, fs, gs, rfl, rfl, ha, hb', q⟩ := h
  cases rx
  cases ry
  obtain ⟨mA, J, _⟩ := ins_get I.hok ha
  obtain ⟨mB, J', _⟩ := ins_get I.hok hb'
  obtain ⟨od, J, _⟩ := J.look
  obtain ⟨od', J', _⟩ := J'.look
  obtain ⟨nm, qn, N, bs, hdct, sn, sub, ab, col, dd, k0, k1, k2, k3, k5, newId, oN, es, ep, of, lC, lN, dN, sk, fe, fn, lf, cf⟩ := cl
  have kin := I.kIn
  obtain ⟨hp, g, d, t, os⟩ := s
  have own : hp.OwnEqNoNe a C f "object" [.type "object"] :=
    ⟨_, of, nm, qn, N, bs, hdct, sn, sub, ab, col, dd, k0, k1, k2, k3, k5, newId, nsFind es, _, J.1, J.cls, kin _ _ lC, ⟨oN, es, ep, kin _ _ lN, dN, sk, fun _ => rfl⟩, fe, kin _ _ lf, cf, PySem.F.cmp_object.mro, PySem.F.cmp_object.eq.lookup, fn⟩
  refine compareOp_ne_ownEq PySem.F.cmp_object own J'.1 J'.cls (by have := hr.un; omega) (thn (run_at (vs := [.ref a, .ref b]) F hr.in1 rfl hb hx I (.cons rfl (.cons rfl .nil)) q) fun r s' ⟨z, H', I', rz, c, ez, q'⟩ => ?_)
  subst ez
  cases rz
  exact ⟨c, rfl, ⟨.bl (!c), H', I', rfl, q'⟩⟩
end
end Ask

/-! a text against a dict; a dict in a tuple or list of texts -/
namespace Ask
open PySem L2 PySem.Spec PyProof.Rows PySem.SeqAt
theorem sub_sd : isSubtype (.type "str") (.type "dict") = pure false := by rw [isSubtype_type]; kernel_rfl
theorem sub_ds : isSubtype (.type "dict") (.type "str") = pure false := by rw [isSubtype_type]; kernel_rfl
theorem dict_declines (l : Addr) (o : Obj) (b : Str) (u : Tok) (hc : o.cls = .type "dict") :
    Meets (Builtin.«dict.__eq__» ⟨[.ref l, .str b u], []⟩) (fun _ R s => s.heap.get? l = some o ∧ R (.ok (.ret .notImplemented)) s) :=
  .of_wp fun prog w A R s h => by
    obtain ⟨hp, g, d, tk, os⟩ := s
    obtain ⟨cls, dd, data, sl⟩ := o
    obtain rfl : cls = .type "dict" := hc
    obtain ⟨hl, h⟩ := h
    have f1 := sub_sd
    wp_walk using wpAny_loadPart' hl
    exact ⟨_, rfl, h⟩
theorem str_declines (l : Addr) (o : Obj) (b : Str) (u : Tok) (hc : o.cls = .type "dict") {es : Array DictEntry} {ep : Nat} (hd : o.data = .dict es ep) :
    Meets (Builtin.«str.__eq__» ⟨[.str b u, .ref l], []⟩) (fun _ R s => s.heap.get? l = some o ∧ R (.ok (.ret .notImplemented)) s) :=
  .of_wp fun prog w A R s h => by
    obtain ⟨hp, g, d, tk, os⟩ := s
    obtain ⟨cls, dd, data, sl⟩ := o
    obtain rfl : cls = .type "dict" := hc
    obtain rfl : data = .dict es ep := hd
    obtain ⟨hl, h⟩ := h
    wp_walk using wpAny_loadPart' hl, wpAny_load hl
    exact ⟨_, rfl, h⟩
section
variable {A : Around} {s : Shared}
theorem rcAt_sd {l : Addr} {o : Obj} (b : Str) (u : Tok) (ho : s.heap.get? l = some o) (hc : o.cls = .type "dict") {es : Array DictEntry} {ep : Nat} (hd : o.data = .dict es ep) (hu : A.units < cLine) : RcAt A s (.str b u) (.ref l) false := fun prog w E Q h =>
  rc_eq_decline_or (k := false) (typeIs_str s b u) ⟨o, ho, hc⟩ (by decide) sub_ds PySem.F.slot_str_eq PySem.F.slot_dict_eq_refl
    (fun _ hq => call_meets PySem.F.slot_str_eq (typeIs_str s b u) PySem.F.entry_str_eq (PySem.F.args_str_eq_2 _ _) (str_declines l o b u hc hd) ⟨ho, hq⟩)
    (fun _ hq => call_meets PySem.F.slot_dict_eq_refl ⟨o, ho, hc⟩ PySem.F.entry_dict_eq (PySem.F.args_dict_eq_2 _ _) (dict_declines l o b u hc) ⟨ho, hq⟩)
    (fun _ hq => wpAny_of_eq (rfl : isSame (.str b u) (.ref l) = pure false) hq) (.inr hu) h
theorem eqAt_sd {l : Addr} {o : Obj} (b : Str) (u : Tok) (ho : s.heap.get? l = some o) (hc : o.cls = .type "dict") {es : Array DictEntry} {ep : Nat} (hd : o.data = .dict es ep) (hu : A.units < cLine) : EqAt A s (.str b u) (.ref l) false := fun prog w E Q h => by
  unfold eqBool
  refine wpAny_holding ?_
  refine wpAny_ite_split (fun hab => absurd (eq_of_beq hab) nofun) (fun _ => ?_)
  exact wpAny_bind (rcAt_sd b u ho hc hd hu prog w E _ (wpAny_truthy_bool h))
end
section
variable {X : Cx}
/-- a dict in a tuple of texts -/
def rInSD (K : PySem.W.Frag) (neg : Bool) : R2 := fun x y H Q => ∃ (d p : Addr) (kvs : List (Key × V)) (ys : List Str), x = .ref d ∧ y = .ref p ∧ H d = some (.dK kvs) ∧ SqT K H p (ys.map V.str) ∧ Q (.bl neg) H
theorem strs_eqAt {A : Around} {s : Shared} {l : Addr} {o : Obj} (ho : s.heap.get? l = some o) (hc : o.cls = .type "dict") {es : Array DictEntry} {ep : Nat} (hd : o.data = .dict es ep) (hu : A.units < cLine) : ∀ (ys : List Str) (us : List Value), Vals (ys.map V.str) us → ∀ w ∈ us, EqAt A s w (.ref l) false
  | [], us, r => by
    cases r
    exact fun w hw => by cases hw
  | y :: ys, us, r => by
    cases r with
    | cons r t =>
      intro w hw
      rcases List.mem_cons.mp hw with rfl | hw
      · obtain ⟨tk, rfl⟩ := r
        exact eqAt_sd y tk ho hc hd hu
      · exact strs_eqAt ho hc hd hu ys _ t w hw
theorem op_inSD (hu : X.A.units + 1 < cLine) : OpR X (compareOp .In) (rInSD X.K false) := by
  intro pins s σ H x y v u Q I rx ry h
  obtain ⟨d, p, kvs, ys, rfl, rfl, hd, hq, q⟩ := h
  cases rx
  cases ry
  obtain ⟨_, _, vs, _, o, es, ep, ho, hx, hdd, _⟩ := I.hok d _ hd
  obtain ⟨its, r, pl, hz⟩ := I.tuple hq
  refine in_tupleAt (fun _ => false) pl (fun w hw => strs_eqAt (A := X.A.in1) ho hx.1 hdd hu ys _ r w (by simpa using hw)) ⟨.bl false, H, I, ?_, q⟩
  show Value.bool _ = Value.bool false
  simp
theorem op_notInSD (hu : X.A.units + 1 < cLine) : OpR X (compareOp .NotIn) (rInSD X.K true) := by
  intro pins s σ H x y v u Q I rx ry h
  obtain ⟨d, p, kvs, ys, rfl, rfl, hd, hq, q⟩ := h
  cases rx
  cases ry
  obtain ⟨_, _, vs, _, o, es, ep, ho, hx, hdd, _⟩ := I.hok d _ hd
  obtain ⟨its, r, pl, hz⟩ := I.tuple hq
  refine notIn_tupleAt (fun _ => false) pl (fun w hw => strs_eqAt (A := X.A.in1) ho hx.1 hdd hu ys _ r w (by simpa using hw)) ⟨.bl true, H, I, ?_, q⟩
  show Value.bool _ = Value.bool true
  simp
end
end Ask

/-! isinstance(e, c) in a suite, e an own error with fields -/
namespace Ask
open PySem L2 PySem.Spec PyProof.Rows
/-- what the class says of __class__ -/
structure XkC (K : PySem.W.Frag) (C : Addr) : Prop where
  ic : PySem.W.isClsIn K C = true
  ha : PySem.W.findIn K (.ref C) "__class__" = some (some (.builtin "object.__class__"))
  hn : PySem.W.specialIn K (.builtin "object.__class__") "__get__" = some (some (.builtin "getset_descriptor.__get__"))
  ht : PySem.W.takesIn K (.builtin "object.__class__") = some true
  hm : PySem.W.mroIn K C (.type "object") = some true
def rIsX (K : PySem.W.Frag) (C a : Addr) (cls : Value) (d : Option Addr) : List V → Hp → VK → Prop := fun xs H Q => ∃ (c : V) (cv : Value) (b : Bool) (dd : Addr) (fs : List (Str × V)), xs = [.ref a, c] ∧ cls = .ref C ∧ d = some dd ∧ H dd = some (.xd fs) ∧ ClsV c cv ∧ PySem.W.kitOne K (.ref C) cv = some b ∧ Q (.bl b) H
theorem call_isX {X : Cx} {a C : Addr} {oe : Obj} {cls : Value} {d : Option Addr} {pn : List (Addr × Obj)} (T : XfC X.K C) (Y : XkC X.K C) (hz : Zc cls d oe) (hf : ∃ vs, oe.data = .fields vs) :
    CallR (X.suite a ((a, oe) :: pn)) (.builtin "isinstance") (rIsX X.K C a cls d) := by
  intro pins s σ H xs us Q I r h
  obtain ⟨c, cv, b, dd, fs, rfl, rfl, rfl, ed, hcv, e, q⟩ := h
  obtain ⟨u1, u2, rfl, r1, r2⟩ := vals2 r
  obtain rfl : u1 = Value.ref a := r1
  have ec := hcv.eq r2
  subst ec
  obtain ⟨ha, _⟩ := I.pin (a, oe) (List.mem_append_left _ List.mem_cons_self)
  obtain ⟨vs, hd⟩ := hf
  obtain ⟨mA, hns, hr⟩ := (show ObjOk X.prog X.w H s.heap dd (.xd fs) from I.hok dd _ ed)
  obtain ⟨od, ho, hl⟩ := lookIn_ns hns
  have J : PySem.W.InstAt s.heap a oe C (some od) := ⟨ha, hz.1, by unfold PySem.W.notCls; rw [hd] <;> rfl, by rw [hz.2]; exact ho⟩
  exact PySem.W.kia_one (PySem.W.kitx_exc Y.ic T.ga T.gg T.exC Y.ha Y.hn Y.ht Y.hm) I.kIn J e (fun z => nomatch z) fun tk => ⟨.bl b, H, I.kept (t' := tk) fun _ _ z => z, rfl, q⟩
end Ask

namespace Ask
open PySem L2
open PySem.SeqAt (in_tupleAt EqAt)
/-- whether x is in the texts: by value, or a list, tuple or dict that is none -/
def InW (H : Hp) (x : V) (ys : List Str) (b : Bool) : Prop := (flatV x = true ∧ b = inV x (ys.map V.str)) ∨
  (b = false ∧ ∃ d, x = .ref d ∧ ((∃ kvs, H d = some (.dK kvs)) ∨ (∃ xs, H d = some (.lst xs)) ∨ (∃ xs, H d = some (.tup xs))))
theorem strs_eqAtR {A : Around} {s : Shared} {l : Addr} (h : ∀ (y : Str) (t : Tok), EqAt A s (.str y t) (.ref l) false) : ∀ (ys : List Str) (us : List Value), Vals (ys.map V.str) us → ∀ w ∈ us, EqAt A s w (.ref l) false
  | [], us, r => by
    cases r
    exact fun w hw => by cases hw
  | y :: ys, us, r => by
    cases r with
    | cons r t =>
      intro w hw
      rcases List.mem_cons.mp hw with rfl | hw
      · obtain ⟨tk, rfl⟩ := r
        exact h y tk
      · exact strs_eqAtR h ys _ t w hw
section
variable {X : Cx}
theorem op_inW (hu : X.A.units + 1 < cLine) : OpR X (compareOp .In) (fun x y H Q => ∃ (p : Addr) (ys : List Str) (b : Bool), y = .ref p ∧ SqT X.K H p (ys.map V.str) ∧ InW H x ys b ∧ Q (.bl b) H) := by
  intro pins s σ H x y v u Q I rx ry h
  obtain ⟨p, ys, b, rfl, hq, hw, q⟩ := h
  rcases hw with ⟨fx, rfl⟩ | ⟨rfl, d, rfl, hd⟩
  · refine op_in_seq pins s σ H x (.ref p) v u Q I rx ry ⟨p, _, rfl, .inr hq, fx, ?_, q⟩
    rw [List.all_eq_true]
    intro y hy
    obtain ⟨z, _, rfl⟩ := List.mem_map.mp hy
    rfl
  · cases rx
    cases ry
    obtain ⟨its, r, pl, hz⟩ := I.tuple hq
    have at_ : ∀ (y : Str) (t : Tok), EqAt X.A.in1 s (.str y t) (.ref d) false := fun y t => by
      rcases hd with ⟨kvs, hd⟩ | ⟨xs, hd⟩ | ⟨xs, hd⟩
      · obtain ⟨_, _, vs, _, o, es, ep, ho, hx, hdd, _⟩ := I.hok d _ hd
        exact eqAt_sd y t ho hx.1 hdd hu
      · obtain ⟨its2, r2, pl2, _⟩ := I.list (.inl (.inl hd))
        exact PySem.SeqAt.EqAt.str_list y t pl2.isList hu
      · obtain ⟨its2, r2, pl2, _⟩ := I.tuple (.inl (.inl hd))
        exact PySem.SeqAt.EqAt.str_tuple y t pl2 hu
    refine in_tupleAt (fun _ => false) pl (fun w hw => strs_eqAtR at_ ys _ r w (by simpa using hw)) ⟨.bl false, H, I, ?_, q⟩
    show Value.bool _ = Value.bool false
    simp
end
/-- letters ys at p, their tuple at t -/
def Mde (CL : Addr) (H : Hp) (p t : Addr) (ys : List Str) : Prop := ∃ (dx : Addr) (o : Obj), H p = some (.ins CL dx [("words", .ref t)]) ∧ H t = some (.frz o (.tup (ys.map V.str))) ∧ o.dict = none
def spHas (CL : Addr) : Sp := fun vs H Q _ => ∃ (p t : Addr) (ys : List Str) (x : V) (b : Bool), vs = [.ref p, x] ∧ Mde CL H p t ys ∧ InW H x ys b ∧ Q (.bl b) H
def spLen (CL : Addr) : Sp := fun vs H Q _ => ∃ (p t : Addr) (ys : List Str), vs = [.ref p] ∧ Mde CL H p t ys ∧ ys.length ≤ 1000 ∧ Q (.int (ys.length : Nat)) H
def spEq2 (CL : Addr) : Sp := fun vs H Q _ => ∃ (p t p' t' : Addr) (ys zs : List Str), vs = [.ref p, .ref p'] ∧ Mde CL H p t ys ∧ Mde CL H p' t' zs ∧ (∀ y ∈ ys, y.length ≤ 500 ∧ Asc y) ∧ (∀ y ∈ zs, y.length ≤ 500 ∧ Asc y) ∧
  Q (.bl (PyData.eqv (.tuple (ys.map PyData.str)) (.tuple (zs.map PyData.str)))) H
def spRank (CL CE : Addr) : Sp := fun vs H Q E => ∃ (p t : Addr) (ys : List Str) (x : V), vs = [.ref p, x] ∧ Mde CL H p t ys ∧ ys.Nodup ∧
  ((∃ (i : Nat) (z : Str), x = .str z ∧ ys[i]? = some z ∧ ∀ H', Same H H' → Q (.int (i : Nat)) H') ∨ (InW H x ys false ∧ ∀ (H' : Hp) (d : Addr), Same H H' → H' d = some (.xd (fsBad [.int 0])) → E (.ref CE) (some d) H'))
abbrev s_Has : Stmt := inClass (top 28) 2
theorem sc_Has : FnScope ["self", "x"] ["self", "x"] (defScope s_Has) := ⟨rfl, rfl, rfl, by decide +kernel, rfl, by decide +kernel, by decide +kernel⟩
abbrev s_Len : Stmt := inClass (top 28) 3
theorem sc_Len : FnScope ["self"] ["self"] (defScope s_Len) := ⟨rfl, rfl, rfl, by decide +kernel, rfl, by decide +kernel, by decide +kernel⟩
abbrev s_Eq : Stmt := inClass (top 28) 4
theorem sc_Eq : FnScope ["self", "other"] ["self", "other"] (defScope s_Eq) := ⟨rfl, rfl, rfl, by decide +kernel, rfl, by decide +kernel, by decide +kernel⟩
abbrev s_Rank : Stmt := inClass (top 28) 1
theorem sc_Rank : FnScope ["self", "x", "place", "word"] ["self", "x"] (defScope s_Rank) := ⟨rfl, rfl, rfl, by decide +kernel, rfl, by decide +kernel, by decide +kernel⟩
theorem passE {X : Cx} : Passes (L2.CX X.prog X.w) X E0 := fun _ _ _ _ _ _ _ h => by
  obtain ⟨_, _, _, _, _, _, _, _, _, _, _, _, e⟩ := h
  exact e.elim
section
variable {P : Program} {w : World} {K : PySem.W.Frag} {mg : Str → Option Value} {base : Heap}
theorem ok_has {f CL : Addr} {fd : FuncData} (F : Fun K "__contains__" "Letters.__contains__" s_Has f fd) (hC : Cls K CL) (hA : NoAttr K CL "words") : FnOk P w K mg base CX0 1 f fd ["self", "x"] (spHas CL) := by
  refine F.ok sc_Has (fun vs H Q E h => ?_) (fun cdv A outer s H vs Q E hr h => ?_)
  · obtain ⟨p, t, ys, x, b, rfl, _⟩ := h
    rfl
  · obtain ⟨p, t, ys, x, b, rfl, ⟨dx, ob, hp, ht, hob⟩, hw, k⟩ := h
    exact ⟨_, pss_one (ps_ret (pe_cmpR (op_inW (hu_of hr)) (pv 1) (pe_fld (pv 0) rfl) rfl)), _, rfl, _, rfl, p, CL, dx, _, _, rfl, hp, hC, hA, rfl, t, ys, b, rfl, (.inl (.inr ⟨ob, ht⟩)), hw, k⟩
theorem ok_len {f CL : Addr} {fd : FuncData} (F : Fun K "__len__" "Letters.__len__" s_Len f fd) (T : Blt mg) (hC : Cls K CL) (hA : NoAttr K CL "words") : FnOk P w K mg base CX0 1 f fd ["self"] (spLen CL) := by
  refine F.ok sc_Len (fun vs H Q E h => ?_) (fun cdv A outer s H vs Q E hr h => ?_)
  · obtain ⟨p, t, ys, rfl, _⟩ := h
    rfl
  · obtain ⟨p, t, ys, rfl, ⟨dx, ob, hp, ht, hob⟩, hl, k⟩ := h
    refine ⟨_, pss_one (ps_ret (pe_callB call_len_seq (by rfl) T.n_len (by decide +kernel) (pa_cons (pe_fld (pv 0) rfl) pa_nil))), _, rfl, p, CL, dx, _, _, rfl, hp, hC, hA, rfl, t, _, rfl, .inr ((.inl (.inr ⟨ob, ht⟩))), ?_⟩
    rw [List.length_map]
    exact k
theorem ok_eq {f CL : Addr} {fd : FuncData} (F : Fun K "__eq__" "Letters.__eq__" s_Eq f fd) (T : Blt mg) (hC : Cls K CL) (hA : NoAttr K CL "words") (Y : XkC K CL) (mL : mg "Letters" = some (.ref CL)) : FnOk P w K mg base CX0 1 f fd ["self", "other"] (spEq2 CL) := by
  refine F.ok sc_Eq (fun vs H Q E h => ?_) (fun cdv A outer s H vs Q E hr h => ?_)
  · obtain ⟨p, t, p', t', ys, zs, rfl, _⟩ := h
    rfl
  · obtain ⟨p, t, p', t', ys, zs, rfl, ⟨dx, ob, hp, ht, hob⟩, ⟨dx', ob', hp', ht', hob'⟩, hy, hz, k⟩ := h
    refine ⟨_, (pss_one (ps_ret (pe_and (pe_callB call_isi (by rfl) T.n_isinstance (by decide +kernel) (pa_cons (pv 1) (pa_cons (pe_gv (v := .ref CL) rfl ⟨_, mL, rfl⟩) pa_nil))) (pe_one (pe_cmpR (op_eqD hr.units) (pe_fld (pv 0) rfl) (pe_fld (pv 1) rfl) (nomark _)))))), ?_⟩
    have kk : PySem.W.kitOne K (.ref CL) (.ref CL) = some true := by
      unfold PySem.W.kitOne
      rw [if_pos (by simp)]
    refine ⟨_, rfl, _, _, _, _, true, rfl, .own CL, .base (.ins hp' hC Y.ha Y.hn Y.ht Y.hm), kk, _, rfl, ite2 (fun _ => ?_) (fun q => absurd rfl q)⟩
    exact ⟨_, rfl, p, CL, dx, _, _, rfl, hp, hC, hA, rfl, _, rfl, p', CL, dx', _, _, rfl, hp', hC, hA, rfl, _, _, .tup ((.inl (.inr ⟨ob, ht⟩))) (dp_strs _), .tup ((.inl (.inr ⟨ob', ht'⟩))) (dp_strs _), (fit_strs hy).shapedT, (fit_strs hz).shapedT, k⟩
end
end Ask

namespace Ask
open PySem L2
theorem kitAny_l {K : PySem.W.Frag} : PySem.W.kitAny K (.type "list") [.type "list", .type "tuple"] = some true := kitAny_cons (b := true) (kit_ty (by show kitB "list" "list" = some true; decide +kernel)) (fun z => by cases z) (fun _ => rfl)
theorem kitAny_t {K : PySem.W.Frag} : PySem.W.kitAny K (.type "tuple") [.type "list", .type "tuple"] = some true := kitAny_cons (kit_ty (by show kitB "tuple" "list" = some false; decide +kernel)) (fun _ => kitAny_cons (kit_ty (by show kitB "tuple" "tuple" = some true; decide +kernel)) (fun z => by cases z) (fun _ => rfl)) (fun z => by cases z)
theorem Mde.same {CL m t : Addr} {H H' : Hp} {ys : List Str} (h : Mde CL H m t ys) (s : Same H H') : Mde CL H' m t ys := by
  obtain ⟨dx, ob, h1, h2, h3⟩ := h
  exact ⟨dx, ob, s _ _ h1, s _ _ h2, h3⟩
theorem for_any1 {wi : TI} {g : TG} {tb : TS} {D : Ends} {σ : L2.St} {H : Hp} {J : It} {n : Nat} {G : Hp → Prop} {Y : Nat → Hp → V → Hp → Prop} (f : ∀ R : It → Hp → Prop, R J H → wi σ H R)
    (wk : Walk J n G Y) (Pv : Nat → L2.St → Hp → Prop) (h0 : Pv 0 σ H) (hG : ∀ i σ H, i ≤ n → Pv i σ H → G H)
    (hs : ∀ i x σ H H', i < n → Pv i σ H → Y i H x H' → g x σ H' fun σ2 H2 => tb { D with nx := Pv (i + 1), ct := Pv (i + 1), bk := D.nx } σ2 H2) (hd : ∀ σ H, Pv n σ H → D.nx σ H) :
    tFor wi g tb D σ H := by
  delta tFor
  exact f _ (for_it (D := D) wk Pv h0 hG hs hd)
section
variable {P : Program} {w : World} {K : PySem.W.Frag} {mg : Str → Option Value} {base : Heap}
/-! ### require_runs, where nothing is wrong -/
def spReqOk (K : PySem.W.Frag) (CL : Addr) : Sp := fun vs H Q _ => ∃ (m t : Addr) (ys : List Str) (a : Addr) (xs : List V) (rs : List Run), vs = [.ref m, .ref a] ∧ Mde CL H m t ys ∧ (SqL K H a xs ∨ SqT K H a xs) ∧ RunsV K H xs rs ∧ rs.length ≤ 10000 ∧
  (∀ r ∈ rs, r.1 ∈ ys ∧ 1 ≤ r.2 ∧ r.2 ≤ 1000000000000000000000000000000) ∧ ∀ H', Same H H' → Q .non H'
/-! ### require_count, where nothing is wrong -/
def spReqCnt : Sp := fun vs H Q _ => ∃ (x : V) (n : Int), vs = [x, .int n] ∧ 1 ≤ n ∧ n ≤ 1000000000000000000000000000000 ∧ Q .non H
abbrev s_require_count : Stmt := top 40
theorem sc_require_count : FnScope ["index", "value"] ["index", "value"] (defScope s_require_count) := ⟨rfl, rfl, rfl, by decide +kernel, rfl, by decide +kernel, by decide +kernel⟩
theorem ok_reqCnt {f fW : Addr} {fd fdW : FuncData} (F : Fun K "require_count" "require_count" s_require_count f fd) (mM : ∃ u, mg "MOST_COUNT" = some u ∧ RelV (.int 1000000000000000000000000000000) u)
    (GW : FnOk P w K mg base CX0 1 fW fdW ["value"] (spWhole K)) (AW : At K mg "is_whole" fW fdW ["value"]) :
    FnOk P w K mg base CX0 2 f fd ["index", "value"] spReqCnt := by
  refine F.ok sc_require_count (fun vs H Q E h => ?_) (fun cdv A outer s H vs Q E hr h => ?_)
  · obtain ⟨x, n, rfl, _⟩ := h
    rfl
  · obtain ⟨x, n, rfl, h1, h2, k⟩ := h
    refine ⟨_, (pss_one (ps_if (PW.pt (pw_or (pt_not (pt_val (pe_call GW hr (by rfl) AW.m AW.k AW.b .nil pass0 (pa_cons (pv 1) pa_nil)))) (pw_or1 (pt_not (pt_chain op_le op_le pe_int (pv 1) (pe_gv rfl mM)))))) pss_never pss_nil)), ?_⟩
    refine ⟨_, rfl, _, .type "int", true, false, rfl, .base (.int _), kit_ty (by decide +kernel), kit_ty (by decide +kernel), _, rfl, ?_⟩
    refine iteF ?_
    refine ⟨_, rfl, _, _, rfl, rfl, _, rfl, ?_⟩
    refine ite2 (fun _ => ?_) (fun q => absurd (decide_eq_true h1) q)
    refine ⟨_, _, rfl, rfl, _, rfl, ?_⟩
    rw [decide_eq_true h2]
    exact iteF k
abbrev s_require_runs : Stmt := top 41
theorem sc_require_runs : FnScope ["letters", "runs", "index", "run"] ["letters", "runs"] (defScope s_require_runs) := ⟨rfl, rfl, rfl, by decide +kernel, rfl, by decide +kernel, by decide +kernel⟩
theorem ok_reqOk {f fO fN fH CL : Addr} {fd fdO fdN fdH : FuncData} (F : Fun K "require_runs" "require_runs" s_require_runs f fd) (T : Blt mg)
    (GO : FnOk P w K mg base CX0 1 fO fdO ["value", "many"] (spListOf K)) (AO : At K mg "is_list_of" fO fdO ["value", "many"])
    (GN : FnOk P w K mg base CX0 2 fN fdN ["index", "value"] spReqCnt) (AN : At K mg "require_count" fN fdN ["index", "value"])
    (GH : FnOk P w K mg base CX0 1 fH fdH ["self", "x"] (spHas CL)) (bH : Binds K fdH ["self", "x"] []) (hH : PySem.W.findIn K (.ref CL) "__contains__" = some (some (.ref fH))) (iH : PySem.W.isFn K (.ref fH) = true) :
    FnOk P w K mg base CX0 3 f fd ["letters", "runs"] (spReqOk K CL) := by
  refine F.ok sc_require_runs (fun vs H Q E h => ?_) (fun cdv A outer s H vs Q E hr h => ?_)
  · obtain ⟨m, t, ys, a, xs, rs, rfl, _⟩ := h
    rfl
  · obtain ⟨m, t, ys, a, xs, rs, rfl, hM, hS, hR, hn, hok, k⟩ := h
    refine ⟨_, (pss_one (ps_for PassesOwn.never rfl (pi_enumA (by rfl) T.n_enumerate (pa_cons (pv 1) pa_nil)) (pg_tup rfl (pgs_cons (pg_name (i := 2) sc_require_runs.nd rfl (Or.inl rfl)) (pgs_cons (pg_name (i := 3) sc_require_runs.nd rfl (Or.inl rfl)) pgs_nil))) (pss_cons (ps_if (pt_not (pt_val (pe_call GO (hr.mono (by decide)) (by rfl) AO.m AO.k AO.b .nil pass0 (pa_cons (pv 3) (pa_cons pe_int pa_nil))))) pss_never pss_nil)
      (pss_cons (ps_if (pt_cmpR (op_notInI (C := CL) (E := E0) GH (hr.mono (by decide)) bH pass0 hH iH) (pe_ix ix_seq (pv 3) pe_int (fun _ _ => rfl)) (pv 0) rfl) pss_never pss_nil)
      (pss_one (ps_expr (pe_call GN hr (by rfl) AN.m AN.k AN.b .nil pass0 (pa_cons (pv 2) (pa_cons (pe_ix ix_seq (pv 3) pe_int (fun _ _ => rfl)) pa_nil))))))))), ?_⟩
    obtain ⟨J, G, wk, hG, fits⟩ : ∃ (J : It) (G : Hp → Prop), Walk J xs.length G (YPair (fun i => some (.int (i : Nat))) (fun i => xs[i]?)) ∧ (∀ H', Same H H' → G H') ∧
        ∀ (R : It → Hp → Prop), R J H → iEnumA K (tCons (tVar 1) tNil) [some (.ref m), some (.ref a), none, none] H R := by
      rcases hS with hS | hS
      · exact ⟨Ite K a, _, walk_enum, fun H' s' => s'.seq hS, fun R r => ⟨_, rfl, a, xs, rfl, .inl ⟨hS, r⟩⟩⟩
      · exact ⟨IteT K a, _, walk_enumT, fun H' s' => seqT_same s' hS, fun R r => ⟨_, rfl, a, xs, rfl, .inr ⟨hS, r⟩⟩⟩
    refine for_any1 fits wk (fun i σ' H' => ∃ o2 o3 : Option V, σ' = [some (.ref m), some (.ref a), o2, o3] ∧ Same H H') ⟨none, none, rfl, Same.refl H⟩ (fun i σ' H' _ ⟨_, _, _, s'⟩ => hG H' s') ?_ (fun σ' H' ⟨_, _, _, s'⟩ => k H' s')
    rintro i x σ' H2 H3 hi ⟨o2, o3, rfl, s2⟩ ⟨t2, x0, y0, rfl, ht, rfl, ex, ey⟩
    cases ex
    replace ey : xs[i]? = some y0 := ey
    obtain ⟨r, hri⟩ : ∃ r, rs[i]? = some r := ⟨_, List.getElem?_eq_getElem (by rw [← hR.1]; exact hi)⟩
    obtain ⟨hr1, hr2, hr3⟩ := hok r (List.mem_of_getElem? hri)
    have s3 := Ask.Same.made1 (o := .tup [.int (i : Nat), y0]) s2 ht
    have ht3 : upd H2 t2 (.tup [.int (i : Nat), y0]) t2 = some (.tup [.int (i : Nat), y0]) := upd_same
    generalize upd H2 t2 (.tup [.int (i : Nat), y0]) = H4 at s3 ht3 ⊢
    obtain ⟨b, rfl, hb⟩ := hR.2 i y0 r ey hri
    have hin : ∀ H', InW H' (.str r.1) ys true := fun _ => .inl ⟨rfl, (in_mem hr1).symm⟩
    refine ⟨t2, _, rfl, SqT.of ht3, rfl, _, _, rfl, _, _, rfl, rfl, ?_⟩
    have hty : ∃ ty, TyX K H4 (.ref b) ty ∧ PySem.W.kitAny K ty [.type "list", .type "tuple"] = some true := by
      rcases hb with hb | hb
      · exact ⟨_, ty_list (s3.seq hb), kitAny_l⟩
      · exact ⟨_, ty_tup (seqT_same s3 hb), kitAny_t⟩
    obtain ⟨ty, hty, hka⟩ := hty
    have hb4 : SqL K H4 b [.str r.1, .int r.2] ∨ SqT K H4 b [.str r.1, .int r.2] := by
      rcases hb with hb | hb
      · exact .inl (s3.seq hb)
      · exact .inr (seqT_same s3 hb)
    refine ⟨_, rfl, .ref b, ty, 2, rfl, hty, .inr ⟨hka, b, _, rfl, hb4, fun H5 s5 => ⟨_, rfl, ?_⟩⟩⟩
    have s35 := s3.trans s5
    have md := hM.same s35
    obtain ⟨dx, ob, m1, _⟩ := id md
    rw [decide_eq_true (show (([V.str r.1, .int r.2] : List V).length : Int) = 2 from rfl)]
    refine iteF ?_
    rcases hb with hb | hb
    · have hb5 := s35.seq hb
      refine ⟨_, rfl, .inl ⟨b, _, 0, _, rfl, rfl, hb5, at_by (j := 0) rfl rfl, _, rfl, m, dx, _, rfl, m1, m, t, ys, _, true, rfl, md, hin _, _, rfl, _, rfl, ?_⟩⟩
      refine iteF ?_
      exact ⟨_, rfl, _, rfl, .inl ⟨b, _, 1, _, rfl, rfl, hb5, at_by (j := 1) rfl rfl, _, _, rfl, hr2, hr3, _, _, rfl, s35⟩⟩
    · have hb5 := seqT_same s35 hb
      refine ⟨_, rfl, .inr (.inl ⟨b, _, 0, _, rfl, rfl, hb5, at_by (j := 0) rfl rfl, _, rfl, m, dx, _, rfl, m1, m, t, ys, _, true, rfl, md, hin _, _, rfl, _, rfl, ?_⟩)⟩
      refine iteF ?_
      exact ⟨_, rfl, _, rfl, .inr (.inl ⟨b, _, 1, _, rfl, rfl, hb5, at_by (j := 1) rfl rfl, _, _, rfl, hr2, hr3, _, _, rfl, s35⟩)⟩
end
end Ask

namespace Ask
open PySem L2
theorem eqv_str1 (a b : Str) : PyData.eqv (.str a) (.str b) = decide (a = b) := by
  simp only [PyData.eqv]
  by_cases h : a = b
  · subst h; simp
  · rw [decide_eq_false h]; simpa using h
theorem eqvAll_strs : ∀ ys zs : List Str, PyData.eqvAll (ys.map PyData.str) (zs.map PyData.str) = decide (ys = zs)
  | [], [] => by simp [PyData.eqvAll]
  | [], _ :: _ => by simp [PyData.eqvAll]
  | _ :: _, [] => by simp [PyData.eqvAll]
  | y :: ys, z :: zs => by
    rw [List.map_cons, List.map_cons, PyData.eqvAll, eqv_str1, eqvAll_strs ys zs]
    by_cases h : y = z
    · subst h
      by_cases h2 : ys = zs
      · subst h2; simp
      · simp [h2]
    · simp [h]
theorem eqv_strs (ys zs : List Str) : PyData.eqv (.tuple (ys.map PyData.str)) (.tuple (zs.map PyData.str)) = decide (ys = zs) := by
  rw [PyData.eqv]
  exact eqvAll_strs ys zs
/-- letters that Letters takes -/
structure Lts (ys : List Str) : Prop where
  nd : ys.Nodup
  ok : ∀ y ∈ ys, isLs y = true ∧ y.length ≤ 13 ∧ Asc y
  l0 : 1 ≤ ys.length
  l1 : ys.length ≤ 12
theorem Lts.fit {ys : List Str} (h : Lts ys) : ∀ y ∈ ys, y.length ≤ 500 ∧ Asc y := fun y hy => ⟨by have := (h.ok y hy).2.1; omega, (h.ok y hy).2.2⟩
theorem Lts.res {ys : List Str} (h : Lts ys) : res (ys.map PyData.str) = .none := by
  have l0 := h.l0
  have l1 := h.l1
  refine res_good (by rw [List.length_map]; omega) (by rw [List.length_map]; omega) fun j hj => ?_
  rw [List.length_map] at hj
  unfold badAt
  rw [List.getElem?_map, List.getElem?_eq_getElem hj]
  show (!isLs ys[j] || ((ys.map PyData.str).take j).any fun z => PyData.eqv z (.str ys[j])) = false
  rw [(h.ok _ (List.getElem_mem hj)).1, Bool.not_true, Bool.false_or, List.any_eq_false]
  intro x hx
  rw [← List.map_take] at hx
  obtain ⟨y, hy, rfl⟩ := List.mem_map.mp hx
  rw [eqv_str1]
  intro e
  have e : y = ys[j] := of_decide_eq_true e
  obtain ⟨i, hi⟩ := List.mem_iff_getElem?.mp hy
  have hij : i < j := by
    have := (List.getElem?_eq_some_iff.mp hi).1
    rw [List.length_take] at this
    omega
  rw [List.getElem?_take_of_lt hij] at hi
  have : i = j := (List.getElem?_inj (List.getElem?_eq_some_iff.mp hi).1 h.nd).mp (hi.trans (by rw [e, List.getElem?_eq_getElem hj]))
  omega
theorem cutV_init (xs : List V) : cutV xs none (some (-1)) = xs.take (xs.length - 1) := by
  have e : HT.sIx xs.length xs.length (some (-1)) = xs.length - 1 := by
    show (if (-1 : Int) < 0 then ((-1 : Int) + (xs.length : Int)).toNat else min (-1 : Int).toNat xs.length) = _
    rw [if_pos (by decide)]
    omega
  unfold cutV
  rw [HT.sIx_none, List.drop_zero, Nat.sub_zero, e]
/-- a text none or one time -/
theorem op_mul_str01 {X : Cx} : OpR X (binaryOp .Mult) (fun x y H Q => ∃ (z : Str) (n : Int), x = .str z ∧ y = .int n ∧ (n = 0 ∨ n = 1) ∧ z.length ≤ 1000 ∧ ∀ z' : Str, z'.length ≤ z.length → Q (.str z') H) := by
  intro pins s σ H x y v u Q I rx ry h
  obtain ⟨z, n, rfl, rfl, hn, z1, q⟩ := h
  obtain ⟨t, rfl⟩ := rx
  obtain ⟨t2, rfl⟩ := ry
  rcases hn with rfl | rfl
  · exact P.mul_str_none (by decide) (by decide) ⟨.str Str.empty, H, I.tok _, ⟨_, rfl⟩, q _ (Nat.zero_le _)⟩
  · refine P.mul_str (by decide) (fun _ e => by simp at e) (fun _ e => by simp at e) ?_
    rw [if_neg (by decide), if_pos (by simp)]
    exact ⟨.str z, H, I, ⟨_, rfl⟩, q _ (Nat.le_refl _)⟩
theorem cutV_tail (xs : List V) : cutV xs (some 1) none = xs.drop 1 := by
  unfold cutV
  rw [HT.sIx_none, show (some (1 : Int)) = some ((1 : Nat) : Int) from rfl, HT.sIx_nat]
  by_cases h : 1 ≤ xs.length
  · rw [Nat.min_eq_left h, List.take_of_length_le (by rw [List.length_drop]; omega)]
  · have : xs = [] := List.eq_nil_of_length_eq_zero (by omega)
    subst this
    rfl
section
variable {p c CL q m t m' t' l : Addr} {ns : List Int} {H0 H H' : Hp} {ys zs : List Str} {B B' : Nat} {o : HO} {xs : List V}
theorem Mde.go (h : Mde CL H m t ys) (g : Go p c ns H H' B) : Mde CL H' m t ys := by
  obtain ⟨dx, ob, h1, h2, h3⟩ := h
  exact ⟨dx, ob, g.at h1 (by intro _ z; cases z), g.at h2 (by intro _ z; cases z), h3⟩
theorem Mde.mut (h : Mde CL H m t ys) (hl : H l = some (.lst xs)) : Mde CL (upd H l o) m t ys := by
  obtain ⟨dx, ob, h1, h2, h3⟩ := h
  exact ⟨dx, ob, by rw [upd_ne (ne_of h1 hl (by intro z; cases z))]; exact h1, by rw [upd_ne (ne_of h2 hl (by intro z; cases z))]; exact h2, h3⟩
theorem Mde.seq {K : PySem.W.Frag} (h : Mde CL H m t ys) : SqT K H t (ys.map V.str) := by
  obtain ⟨dx, ob, h1, h2, h3⟩ := h
  exact .inl (.inr ⟨ob, h2⟩)
end
end Ask

namespace Ask
open PySem L2
/-! ### spliced: the mirror -/
def spliceR (h t : List Run) : List Run := match h.getLast?, t with
  | some l, r :: t' => if l.1 = r.1 then h.dropLast ++ [(l.1, l.2 + r.2)] ++ t' else h ++ t
  | _, _ => h ++ t
theorem splice_nil (t : List Run) : spliceR [] t = t := rfl
theorem PairsV.get {H : Hp} {xs : List V} {rs : List Run} (h : PairsV H xs rs) {i : Nat} {r : Run} (e : rs[i]? = some r) : ∃ b, xs[i]? = some (.ref b) ∧ H b = some (.tup [.str r.1, .int r.2]) := by
  have hi : i < xs.length := by rw [h.1]; exact (List.getElem?_eq_some_iff.mp e).1
  obtain ⟨b, e2, e3⟩ := h.2 i _ r (List.getElem?_eq_getElem hi) e
  exact ⟨b, by rw [List.getElem?_eq_getElem hi, e2], e3⟩
theorem PairsV.cat {H : Hp} {xs ys : List V} {rs ss : List Run} (h : PairsV H xs rs) (k : PairsV H ys ss) : PairsV H (xs ++ ys) (rs ++ ss) := by
  refine ⟨by rw [List.length_append, List.length_append, h.1, k.1], fun i v r h1 h2 => ?_⟩
  by_cases hi : i < xs.length
  · rw [List.getElem?_append_left hi] at h1
    rw [List.getElem?_append_left (by rw [← h.1]; exact hi)] at h2
    exact h.2 i v r h1 h2
  · rw [List.getElem?_append_right (by omega)] at h1
    rw [List.getElem?_append_right (by rw [← h.1]; omega), ← h.1] at h2
    exact k.2 _ v r h1 h2
theorem PairsV.take {H : Hp} {xs : List V} {rs : List Run} (h : PairsV H xs rs) (n : Nat) : PairsV H (xs.take n) (rs.take n) := by
  refine ⟨by rw [List.length_take, List.length_take, h.1], fun i v r h1 h2 => ?_⟩
  have hi : i < n := by
    have := (List.getElem?_eq_some_iff.mp h1).1
    rw [List.length_take] at this
    omega
  rw [List.getElem?_take_of_lt hi] at h1 h2
  exact h.2 i v r h1 h2
theorem PairsV.drop {H : Hp} {xs : List V} {rs : List Run} (h : PairsV H xs rs) (n : Nat) : PairsV H (xs.drop n) (rs.drop n) := by
  refine ⟨by rw [List.length_drop, List.length_drop, h.1], fun i v r h1 h2 => ?_⟩
  rw [List.getElem?_drop] at h1 h2
  exact h.2 _ v r h1 h2
theorem PairsV.one {H : Hp} {b : Addr} {r : Run} (h : H b = some (.tup [.str r.1, .int r.2])) : PairsV H [.ref b] [r] := by
  refine ⟨rfl, fun i v r' h1 h2 => ?_⟩
  cases i with
  | zero =>
    cases h1
    cases h2
    exact ⟨b, rfl, h⟩
  | succ i => simp at h1
theorem sIx_init {n : Nat} : HT.sIx n n (some (-1)) = n - 1 := by
  show (if (-1 : Int) < 0 then ((-1 : Int) + (n : Int)).toNat else min (-1 : Int).toNat n) = _
  rw [if_pos (by decide)]
  omega
theorem sIx_one {n : Nat} (h : 1 ≤ n) : HT.sIx n 0 (some 1) = 1 := by
  show (if (1 : Int) < 0 then ((1 : Int) + (n : Int)).toNat else min (1 : Int).toNat n) = _
  rw [if_neg (by decide)]
  show min 1 n = 1
  omega
theorem atI_back {α : Type} {xs : List α} {v : α} (h : xs[xs.length - 1]? = some v) : atI xs (-1) = some v := by
  have ln := (List.getElem?_eq_some_iff.mp h).1
  have e : xs = xs.take (xs.length - 1) ++ [v] := by
    have h2 := List.take_append_getElem (l := xs) (i := xs.length - 1) ln
    rw [(List.getElem?_eq_some_iff.mp h).2] at h2
    rw [h2, List.take_of_length_le (by omega)]
  have k := atI_last (xs.take (xs.length - 1)) v
  rw [← e] at k
  exact k
section
variable {P : Program} {w : World} {K : PySem.W.Frag} {mg : Str → Option Value} {base : Heap}
def spSpliced (K : PySem.W.Frag) : Sp := fun vs H Q _ => ∃ (a b : Addr) (hs ts : List V) (h t : List Run), vs = [.ref a, .ref b] ∧ SqT K H a hs ∧ SqT K H b ts ∧ PairsV H hs h ∧ PairsV H ts t ∧ h.length ≤ 10000 ∧ t.length ≤ 10000 ∧
  ∀ (H' : Hp) (c : Addr) (ks : List V), Same H H' → SqT K H' c ks → PairsV H' ks (spliceR h t) → Q (.ref c) H'
abbrev s_spliced : Stmt := top 31
theorem sc_spliced : FnScope ["head", "tail"] ["head", "tail"] (defScope s_spliced) := ⟨rfl, rfl, rfl, by decide +kernel, rfl, by decide +kernel, by decide +kernel⟩
theorem ok_spliced {f : Addr} {fd : FuncData} (F : Fun K "spliced" "spliced" s_spliced f fd) : FnOk P w K mg base CX0 1 f fd ["head", "tail"] (spSpliced K) := by
  refine F.ok sc_spliced (fun vs H Q E h => ?_) (fun cdv A outer s H vs Q E hr h => ?_)
  · obtain ⟨a, b, hs, ts, h, t, rfl, _⟩ := h
    rfl
  · obtain ⟨a, b, hs, ts, h, t, rfl, ha, hb, hh, ht, lh, lt, k⟩ := h
    refine ⟨_, (pss_cons (ps_if (PW.pt (pw_and (pt_truth (pv 0) (by intro _; rfl)) (pw_and (pt_truth (pv 1) (by intro _; rfl)) (pw_and1 (pt_cmpR op_eq (pe_ix ix_tup (pe_ix ix_tup (pv 0) (pe_un un_neg pe_int) (fun _ _ => rfl)) pe_int (fun _ _ => rfl)) (pe_ix ix_tup (pe_ix ix_tup (pv 1) pe_int (fun _ _ => rfl)) pe_int (fun _ _ => rfl)) (nomark _)))))) (pss_one (ps_ret (pe_op op_catA (pe_op op_catA (pe_slice sl_tupA (pv 0) po_none (po_some (pe_un un_neg pe_int))) (pe_tup (pa_cons (pe_tup (pa_cons (pe_ix ix_tup (pe_ix ix_tup (pv 0) (pe_un un_neg pe_int) (fun _ _ => rfl)) pe_int (fun _ _ => rfl)) (pa_cons (pe_op op_add (pe_ix ix_tup (pe_ix ix_tup (pv 0) (pe_un un_neg pe_int) (fun _ _ => rfl)) pe_int (fun _ _ => rfl)) (pe_ix ix_tup (pe_ix ix_tup (pv 1) pe_int (fun _ _ => rfl)) pe_int (fun _ _ => rfl))) pa_nil))) pa_nil))) (pe_slice sl_tupA (pv 1) (po_some pe_int) po_none)))) pss_nil)
      (pss_one (ps_ret (pe_op op_catA (pv 0) (pv 1))))), ?_⟩
    have z1 : (100000 : Nat) ≤ sizeLine := by decide
    have e1 := hh.1
    have e2 := ht.1
    -- the plain sum
    have plain : spliceR h t = h ++ t → tRet (tOp (rCatA K) (tVar 0) (tVar 1)) { nx := fun _ H' => Q .non H', rt := Q } [some (.ref a), some (.ref b)] H := fun e => by
      have e3 : PairsV H (hs ++ ts) (spliceR h t) := by rw [e]; exact hh.cat ht
      refine ⟨_, rfl, _, rfl, a, b, hs, ts, rfl, rfl, ha, hb, by omega, fun z => ?_, fun _ z => ?_, fun _ _ p hp => ?_⟩
      · subst z
        exact k H b ts (Same.refl H) hb e3
      · subst z
        rw [List.append_nil] at e3
        exact k H a hs (Same.refl H) ha e3
      · have s1 := Ask.Same.made1 (o := .tup (hs ++ ts)) (Same.refl H) hp
        exact k _ p _ s1 (SqT.of upd_same) (e3.same s1)
    refine ⟨_, rfl, !hs.isEmpty, .inr (.inl ⟨hs, ha, rfl⟩), ite2 (fun q1 => ?_) (fun q1 => iteF (plain (by
      have q1 : (!hs.isEmpty) = false := (Bool.not_eq_true _).mp q1
      have : hs = [] := by cases hs with | nil => rfl | cons => cases q1
      subst this
      have : h = [] := List.eq_nil_of_length_eq_zero e1.symm
      subst this
      rfl)))⟩
    have q1 : hs ≠ [] := fun z => by subst z; cases q1
    refine ⟨_, rfl, !ts.isEmpty, .inr (.inl ⟨ts, hb, rfl⟩), ite2 (fun q2 => ?_) (fun q2 => iteF (plain (by
      have q2 : (!ts.isEmpty) = false := (Bool.not_eq_true _).mp q2
      have : ts = [] := by cases ts with | nil => rfl | cons => cases q2
      subst this
      have : t = [] := List.eq_nil_of_length_eq_zero e2.symm
      subst this
      unfold spliceR
      split
      · contradiction
      · rfl)))⟩
    have q2 : ts ≠ [] := fun z => by subst z; cases q2
    have l1 : 1 ≤ hs.length := List.length_pos_iff.mpr q1
    have l2 : 1 ≤ ts.length := List.length_pos_iff.mpr q2
    obtain ⟨l, hl⟩ : ∃ l, h[h.length - 1]? = some l := ⟨_, List.getElem?_eq_getElem (by omega)⟩
    obtain ⟨r, hr0⟩ : ∃ r, t[0]? = some r := ⟨_, List.getElem?_eq_getElem (by omega)⟩
    obtain ⟨x, hx, hx2⟩ := hh.get hl
    obtain ⟨y, hy, hy2⟩ := ht.get hr0
    rw [← e1] at hx
    have at1 : atI hs (-1) = some (.ref x) := atI_back hx
    have at2 : atI ts 0 = some (.ref y) := at_by (j := 0) rfl hy
    have bx0 : atI [V.str l.1, .int l.2] 0 = some (.str l.1) := at_by (j := 0) rfl rfl
    have bx1 : atI [V.str l.1, .int l.2] 1 = some (.int l.2) := at_by (j := 1) rfl rfl
    have by0 : atI [V.str r.1, .int r.2] 0 = some (.str r.1) := at_by (j := 0) rfl rfl
    have by1 : atI [V.str r.1, .int r.2] 1 = some (.int r.2) := at_by (j := 1) rfl rfl
    have sp : spliceR h t = if l.1 = r.1 then h.dropLast ++ [(l.1, l.2 + r.2)] ++ t.drop 1 else h ++ t := by
      have e3 : h.getLast? = some l := by rw [List.getLast?_eq_getElem?]; exact hl
      obtain ⟨t', rfl⟩ : ∃ t', t = r :: t' := by
        cases t with
        | nil => simp at hr0
        | cons a t => cases hr0; exact ⟨t, rfl⟩
      unfold spliceR
      rw [e3]
      rfl
    refine ⟨_, rfl, _, rfl, a, _, _, _, rfl, rfl, ha, at1, x, _, _, _, rfl, rfl, SqT.of hx2, bx0, _, rfl, b, _, _, _, rfl, rfl, hb, at2, y, _, _, _, rfl, rfl, SqT.of hy2, by0, rfl, _, rfl, ite2 (fun q3 => ?_) (fun q3 => plain (by
      have q3 : ¬ l.1 = r.1 := fun z => q3 (decide_eq_true (congrArg V.str z))
      rw [sp, if_neg q3]))⟩
    have q3 : l.1 = r.1 := V.str.inj (of_decide_eq_true q3)
    rw [if_pos q3] at sp
    refine ⟨_, rfl, _, rfl, _, rfl, a, hs, rfl, ha, fun z => ?_, fun _ p hp => ?_⟩
    · have z := z.2
      rw [sIx_init] at z
      omega
    have s1 := Ask.Same.made1 (o := .tup (cutV hs none (some (-1)))) (Same.refl H) hp
    have p1 : upd H p (.tup (cutV hs none (some (-1)))) p = some (.tup (cutV hs none (some (-1)))) := upd_same
    generalize upd H p (.tup (cutV hs none (some (-1)))) = H1 at s1 p1 ⊢
    have ha1 := seqT_same s1 ha
    have hb1 := seqT_same s1 hb
    refine ⟨_, rfl, _, rfl, a, _, _, _, rfl, rfl, ha1, at1, x, _, _, _, rfl, rfl, SqT.of (s1 _ _ hx2), bx0, ?_⟩
    refine ⟨_, rfl, _, rfl, a, _, _, _, rfl, rfl, ha1, at1, x, _, _, _, rfl, rfl, SqT.of (s1 _ _ hx2), bx1, ?_⟩
    refine ⟨_, rfl, b, _, _, _, rfl, rfl, hb1, at2, y, _, _, _, rfl, rfl, SqT.of (s1 _ _ hy2), by1, _, _, rfl, rfl, by show 2 ≤ sizeLine; decide, fun u hu => ?_⟩
    have s2 := Ask.Same.made1 (o := .tup [.str l.1, .int (l.2 + r.2)]) s1 hu
    have p2 : upd H1 u (.tup [.str l.1, .int (l.2 + r.2)]) p = some (.tup (cutV hs none (some (-1)))) := by rw [upd_ne (ne_of_none p1 hu)]; exact p1
    have u2 : upd H1 u (.tup [.str l.1, .int (l.2 + r.2)]) u = some (.tup [.str l.1, .int (l.2 + r.2)]) := upd_same
    generalize upd H1 u (.tup [.str l.1, .int (l.2 + r.2)]) = H2 at s2 p2 u2 ⊢
    refine ⟨by show 1 ≤ sizeLine; decide, fun g hg => ?_⟩
    have s3 := Ask.Same.made1 (o := .tup [.ref u]) s2 hg
    have st3 := Ask.Same.made1 (o := .tup [.ref u]) (Same.refl H2) hg
    have g3 : upd H2 g (.tup [.ref u]) g = some (.tup [.ref u]) := upd_same
    generalize upd H2 g (.tup [.ref u]) = H3 at s3 st3 g3 ⊢
    have hc : PairsV H3 (cutV hs none (some (-1))) h.dropLast := by
      rw [cutV_init, List.dropLast_eq_take, e1]
      exact (hh.take _).same s3
    have hc1 : PairsV H3 (cutV hs none (some (-1)) ++ [.ref u]) (h.dropLast ++ [(l.1, l.2 + r.2)]) := hc.cat (.one (st3 _ _ u2))
    have lc : (cutV hs none (some (-1))).length ≤ hs.length := cutV_length _ _ _
    -- the first sum
    have go : ∀ (H4 : Hp) (g4 : Addr), Same H3 H4 → SqT K H4 g4 (cutV hs none (some (-1)) ++ [.ref u]) →
        tSl (rSlA K) (tVar 1) (tPart (tC (.int 1))) tNoPart [some (.ref a), some (.ref b)] H4 fun y H2 => rCatA K (.ref g4) y H2 Q := fun H4 g4 s34 hg4 => by
      have s4 := s3.trans s34
      refine ⟨_, rfl, _, rfl, b, ts, rfl, seqT_same s4 hb, fun z => ?_, fun _ v hv => ?_⟩
      · have z := z.1
        rw [sIx_one l2] at z
        cases z
      have s45 := Ask.Same.made1 (o := .tup (cutV ts (some 1) none)) (Same.refl H4) hv
      have s5 := s4.trans s45
      have v5 : upd H4 v (.tup (cutV ts (some 1) none)) v = some (.tup (cutV ts (some 1) none)) := upd_same
      generalize upd H4 v (.tup (cutV ts (some 1) none)) = H5 at s45 s5 v5 ⊢
      rw [cutV_tail] at v5
      have ld : (ts.drop 1).length ≤ ts.length := by rw [List.length_drop]; omega
      have fin : PairsV H5 ((cutV hs none (some (-1)) ++ [.ref u]) ++ ts.drop 1) (spliceR h t) := by
        rw [sp]
        exact (hc1.same (s34.trans s45)).cat ((ht.drop 1).same s5)
      refine ⟨g4, v, _, _, rfl, rfl, seqT_same s45 hg4, SqT.of v5, by rw [List.length_append, List.length_singleton]; omega, fun z => ?_, fun _ z => ?_, fun _ _ d hd => ?_⟩
      · simp at z
      · rw [z, List.append_nil] at fin
        exact k H5 g4 _ s5 (seqT_same s45 hg4) fin
      · have s6 := Ask.Same.made1 (o := .tup ((cutV hs none (some (-1)) ++ [.ref u]) ++ ts.drop 1)) (Same.refl H5) hd
        exact k _ d _ (s5.trans s6) (SqT.of upd_same) (fin.same s6)
    refine ⟨p, g, _, _, rfl, rfl, SqT.of (st3 _ _ p2), SqT.of g3, (by rw [List.length_singleton]; omega), fun z => ?_, fun _ z => (by cases z), fun _ _ d hd => ?_⟩
    · exact go H3 g (Same.refl H3) (by rw [z]; exact SqT.of g3)
    · exact go _ d (Ask.Same.made1 (Same.refl H3) hd) (SqT.of upd_same)
end
end Ask

namespace Ask
open PySem L2
theorem seqA_same {K : PySem.W.Frag} {H H' : Hp} {a : Addr} {xs : List V} (h : SqL K H a xs ∨ SqT K H a xs) (s : Same H H') : SqL K H' a xs ∨ SqT K H' a xs := by
  rcases h with h | h
  · exact .inl (s.seq h)
  · exact .inr (seqT_same s h)
theorem joinR_len (rs : List Run) : (joinR rs).length ≤ rs.length + 1 := by
  unfold joinR
  rw [List.length_append]
  have := jrun_len rs
  have : (jrun rs).2.toList.length ≤ 1 := by cases (jrun rs).2 <;> simp
  omega
/-- what comes last: a letter or the beginning -/
def lastR (b : Str) (rs : List Run) : Str := ((rs.getLast?.map (·.1)).getD b)
/-- the attributes of a history -/
def hf (m c : Addr) (b : Str) (rs : List Run) : List (Str × V) := [("letters", .ref m), ("beginning", .str b), ("runs", .ref c), ("size", .int (sizeR rs)), ("last", .str (lastR b rs))]
/-- a history of the runs rs at p -/
def HistAt (K : PySem.W.Frag) (CL CH : Addr) (H : Hp) (p : Addr) (ys : List Str) (b : Str) (rs : List Run) : Prop := ∃ (dx m t c : Addr) (ks : List V), H p = some (.ins CH dx (hf m c b rs)) ∧ Mde CL H m t ys ∧ SqT K H c ks ∧ PairsV H ks rs
theorem HistAt.same {K : PySem.W.Frag} {CL CH p : Addr} {H H' : Hp} {ys : List Str} {b : Str} {rs : List Run} (h : HistAt K CL CH H p ys b rs) (s : Same H H') : HistAt K CL CH H' p ys b rs := by
  obtain ⟨dx, m, t, c, ks, h1, h2, h3, h4⟩ := h
  exact ⟨dx, m, t, c, ks, s _ _ h1, h2.same s, seqT_same s h3, h4.same s⟩
section
variable {P : Program} {w : World} {K : PySem.W.Frag} {mg : Str → Option Value} {base : Heap}
/-! ### is_beginning, of a text -/
def spIsBeg (K : PySem.W.Frag) : Sp := fun vs H Q _ => ∃ b : Str, vs = [.str b] ∧ (b = "new" ∨ b = "found") ∧ Q (.bl true) H
abbrev s_is_beginning : Stmt := top 38
theorem sc_is_beginning : FnScope ["value"] ["value"] (defScope s_is_beginning) := ⟨rfl, rfl, rfl, by decide +kernel, rfl, by decide +kernel, by decide +kernel⟩
theorem ok_isBeg {f : Addr} {fd : FuncData} (F : Fun K "is_beginning" "is_beginning" s_is_beginning f fd) (C : Gv K mg) : FnOk P w K mg base CX0 1 f fd ["value"] (spIsBeg K) := by
  refine F.ok sc_is_beginning (fun vs H Q E h => ?_) (fun cdv A outer s H vs Q E hr h => ?_)
  · obtain ⟨b, rfl, _⟩ := h
    rfl
  · obtain ⟨b, rfl, hb, k⟩ := h
    obtain ⟨tB, u, mB, uB, hB⟩ := C.begins
    refine ⟨_, (pss_one (ps_ret (pe_cmpR op_in_seq (pv 0) (pe_gv (v := .ref tB) rfl ⟨u, mB, uB⟩) rfl))), ?_⟩
    refine ⟨_, rfl, tB, _, rfl, .inr (hB H), rfl, rfl, ?_⟩
    rcases hb with rfl | rfl
    · exact k
    · exact k
/-! ### extended, where nothing is wrong -/
def spExtOk (K : PySem.W.Frag) (CL : Addr) : Sp := fun vs H Q _ => ∃ (m t e : Addr) (ys : List Str) (a : Addr) (hs xs : List V) (h rs : List Run), vs = [.ref m, .ref e, .ref a] ∧ Mde CL H m t ys ∧ SqT K H e hs ∧ PairsV H hs h ∧ h.length ≤ 1000 ∧ (SqL K H a xs ∨ SqT K H a xs) ∧ RunsV K H xs rs ∧ rs.length ≤ 1000 ∧
  (∀ r ∈ rs, r.1 ∈ ys ∧ 1 ≤ r.2 ∧ r.2 ≤ 1000000000000000000000000000000) ∧ (spliceR h (joinR rs)).length ≤ 400 ∧ ∀ (H' : Hp) (c : Addr) (ks : List V), Same H H' → SqT K H' c ks → PairsV H' ks (spliceR h (joinR rs)) → Q (.ref c) H'
abbrev s_extended : Stmt := top 42
theorem sc_extended : FnScope ["letters", "kept", "runs", "together"] ["letters", "kept", "runs"] (defScope s_extended) := ⟨rfl, rfl, rfl, by decide +kernel, rfl, by decide +kernel, by decide +kernel⟩
theorem ok_extOk {f fR fS fJ CL : Addr} {fd fdR fdS fdJ : FuncData} (F : Fun K "extended" "extended" s_extended f fd) (T : Blt mg) (mM : ∃ u, mg "MOST_RUNS" = some u ∧ RelV (.int 400) u)
    (GR : FnOk P w K mg base CX0 3 fR fdR ["letters", "runs"] (spReqOk K CL)) (AR : At K mg "require_runs" fR fdR ["letters", "runs"])
    (GS : FnOk P w K mg base CX0 1 fS fdS ["head", "tail"] (spSpliced K)) (AS : At K mg "spliced" fS fdS ["head", "tail"])
    (GJ : FnOk P w K mg base CX0 1 fJ fdJ ["runs"] (spJoined K)) (AJ : At K mg "joined" fJ fdJ ["runs"]) :
    FnOk P w K mg base CX0 4 f fd ["letters", "kept", "runs"] (spExtOk K CL) := by
  refine F.ok sc_extended (fun vs H Q E h => ?_) (fun cdv A outer s H vs Q E hr h => ?_)
  · obtain ⟨m, t, e, ys, a, hs, xs, h, rs, rfl, _⟩ := h
    rfl
  · obtain ⟨m, t, e, ys, a, hs, xs, h, rs, rfl, hM, he, hh, lh, ha, hR, ln, hok, lm, k⟩ := h
    have hr1 := hr.mono (j := 1) (by decide)
    refine ⟨_, (pss_cons (ps_expr (pe_call GR hr (by rfl) AR.m AR.k AR.b .nil pass0 (pa_cons (pv 0) (pa_cons (pv 2) pa_nil))))
      (pss_cons (ps_set (i := 3) sc_extended.nd rfl (Or.inl rfl) (pe_call GS hr1 (by rfl) AS.m AS.k AS.b .nil pass0 (pa_cons (pv 1) (pa_cons (pe_call GJ hr1 (by rfl) AJ.m AJ.k AJ.b .nil pass0 (pa_cons (pv 2) pa_nil)) pa_nil))))
      (pss_cons (ps_if (pt_cmpR op_gt (pe_callB call_len_seq (by rfl) T.n_len (by decide +kernel) (pa_cons (pv 3) pa_nil)) (pe_gv rfl mM) (nomark _)) pss_never pss_nil)
      (pss_one (ps_ret (pv 3)))))), ?_⟩
    refine ⟨_, rfl, _, rfl, m, t, ys, a, xs, rs, rfl, hM, ha, hR, by omega, hok, fun H1 s1 => ?_⟩
    refine ⟨_, rfl, _, rfl, a, xs, rs, rfl, seqA_same ha s1, hR.same s1, by omega, fun H2 j js s2 hj hjs => ?_⟩
    have s02 := s1.trans s2
    refine ⟨e, j, hs, js, h, joinR rs, rfl, seqT_same s02 he, SqT.of hj, hh.same s02, hjs, by omega, (by have := joinR_len rs; omega), fun H3 c ks s3 hc hks => ?_⟩
    have s03 := s02.trans s3
    refine ⟨_, rfl, c, ks, rfl, .inr hc, _, _, rfl, rfl, _, rfl, ?_⟩
    have e1 := hks.1
    rw [decide_eq_false (by omega)]
    exact iteF ⟨_, rfl, k H3 c ks s03 hc hks⟩
end
end Ask

namespace Ask
open PySem L2
theorem kit_other {K : PySem.W.Frag} {T : String} {C : Addr} (h1 : PySem.W.isClsIn K C = true) (h2 : PySem.W.typeIn K (.ref C) = some (.type "type")) (h3 : PySem.W.subIn K (.type T) (.ref C) = some false) : PySem.W.kitOne K (.type T) (.ref C) = some false := by
  unfold PySem.W.kitOne
  rw [if_neg (by simp)]
  have e2 : ((PySem.W.clsIn K C).isSome && PySem.W.typeIn K (.ref C) == some (.type "type")) = true := by
    have h2' : (PySem.W.clsIn K C).isSome = true := h1
    rw [h2', h2] <;> rfl
  show (if ((PySem.W.clsIn K C).isSome && PySem.W.typeIn K (.ref C) == some (.type "type")) = true then PySem.W.subIn K (.type T) (.ref C) else none) = some false
  rw [if_pos e2]
  exact h3
theorem sub_list {K : PySem.W.Frag} {C : Addr} : PySem.W.subIn K (.type "list") (.ref C) = some false := by
  show (fastBuiltinMro "list").map (·.contains (.ref C)) = some false
  have e : fastBuiltinMro "list" = some [.type "list", .type "object"] := by decide +kernel
  rw [e]
  rfl
theorem sub_tuple {K : PySem.W.Frag} {C : Addr} : PySem.W.subIn K (.type "tuple") (.ref C) = some false := by
  show (fastBuiltinMro "tuple").map (·.contains (.ref C)) = some false
  have e : fastBuiltinMro "tuple" = some [.type "tuple", .type "object"] := by decide +kernel
  rw [e]
  rfl
/-- a class that is another one than list and tuple -/
structure OnC (K : PySem.W.Frag) (mg : Str → Option Value) (x : Str) (C : Addr) : Prop where
  m : mg x = some (.ref C)
  i : PySem.W.isClsIn K C = true
  t : PySem.W.typeIn K (.ref C) = some (.type "type")
theorem ty_seqA {K : PySem.W.Frag} {mg : Str → Option Value} {x : Str} {C a : Addr} {H : Hp} {xs : List V} (h : SqL K H a xs ∨ SqT K H a xs) (o : OnC K mg x C) : ∃ ty, TyX K H (.ref a) ty ∧ PySem.W.kitOne K ty (.ref C) = some false := by
  rcases h with h | h
  · exact ⟨_, ty_list h, kit_other o.i o.t sub_list⟩
  · exact ⟨_, ty_tup h, kit_other o.i o.t sub_tuple⟩
/-- the attributes that a history is given -/
structure HsC (K : PySem.W.Frag) (C : Addr) : Prop where
  c : Cls K C
  a1 : NoAttr K C "letters"
  a2 : NoAttr K C "beginning"
  a3 : NoAttr K C "runs"
  a4 : NoAttr K C "size"
  a5 : NoAttr K C "last"
section
variable {K : PySem.W.Frag} {H H' : Hp} {p a m t CL C dx : Addr} {ys : List Str} {fs : List (Str × V)} {xs : List V} {rs : List Run}
theorem Mde.but (h : Mde CL H m t ys) (k : ∀ b o, b ≠ p → H b = some o → H' b = some o) (hp : H p = some (.ins C dx fs)) (n : fs ≠ ([("words", V.ref t)] : List (Str × V)) := by intro z; cases z) : Mde CL H' m t ys := by
  obtain ⟨dx', ob, h1, h2, h3⟩ := h
  refine ⟨dx', ob, k _ _ ?_ h1, k _ _ ?_ h2, h3⟩
  · refine ne_of h1 hp ?_
    intro z
    injection z with z1 z2 z3
    exact n z3.symm
  · exact ne_of h2 hp (by intro z; cases z)
theorem seqL_but (h : SqL K H a xs) (k : ∀ b o, b ≠ p → H b = some o → H' b = some o) (hp : H p = some (.ins C dx fs)) : SqL K H' a xs := by
  rcases h with (h | ⟨o, h⟩) | h
  · exact .inl (.inl (k _ _ (ne_of h hp (by intro z; cases z)) h))
  · exact .inl (.inr ⟨o, k _ _ (ne_of h hp (by intro z; cases z)) h⟩)
  · exact .inr h
theorem seqT_but (h : SqT K H a xs) (k : ∀ b o, b ≠ p → H b = some o → H' b = some o) (hp : H p = some (.ins C dx fs)) : SqT K H' a xs := by
  rcases h with (h | ⟨o, h⟩) | h
  · exact .inl (.inl (k _ _ (ne_of h hp (by intro z; cases z)) h))
  · exact .inl (.inr ⟨o, k _ _ (ne_of h hp (by intro z; cases z)) h⟩)
  · exact .inr h
theorem seqA_but (h : SqL K H a xs ∨ SqT K H a xs) (k : ∀ b o, b ≠ p → H b = some o → H' b = some o) (hp : H p = some (.ins C dx fs)) : SqL K H' a xs ∨ SqT K H' a xs := by
  rcases h with h | h
  · exact .inl (seqL_but h k hp)
  · exact .inr (seqT_but h k hp)
theorem RunsV.but (h : RunsV K H xs rs) (k : ∀ b o, b ≠ p → H b = some o → H' b = some o) (hp : H p = some (.ins C dx fs)) : RunsV K H' xs rs := by
  refine ⟨h.1, fun i v r h1 h2 => ?_⟩
  obtain ⟨b, e, h3⟩ := h.2 i v r h1 h2
  exact ⟨b, e, seqA_but h3 k hp⟩
theorem PairsV.but (h : PairsV H xs rs) (k : ∀ b o, b ≠ p → H b = some o → H' b = some o) (hp : H p = some (.ins C dx fs)) : PairsV H' xs rs :=
  ⟨h.1, fun i v r h1 h2 => let ⟨b, e, h3⟩ := h.2 i v r h1 h2; ⟨b, e, k _ _ (ne_of h3 hp (by intro z; cases z)) h3⟩⟩
end
section
variable {P : Program} {w : World} {K : PySem.W.Frag} {mg : Str → Option Value} {base : Heap}
/-! ### require_beginning, where nothing is wrong -/
def spReqBeg : Sp := fun vs H Q _ => ∃ (b : Str), vs = [.str b] ∧ (b = "new" ∨ b = "found") ∧ Q .non H
abbrev s_require_beginning : Stmt := top 39
theorem sc_require_beginning : FnScope ["value"] ["value"] (defScope s_require_beginning) := ⟨rfl, rfl, rfl, by decide +kernel, rfl, by decide +kernel, by decide +kernel⟩
theorem ok_reqBeg {f fB : Addr} {fd fdB : FuncData} (F : Fun K "require_beginning" "require_beginning" s_require_beginning f fd)
    (GB : FnOk P w K mg base CX0 1 fB fdB ["value"] (spIsBeg K)) (AB : At K mg "is_beginning" fB fdB ["value"]) :
    FnOk P w K mg base CX0 2 f fd ["value"] spReqBeg := by
  refine F.ok sc_require_beginning (fun vs H Q E h => ?_) (fun cdv A outer s H vs Q E hr h => ?_)
  · obtain ⟨b, rfl, _⟩ := h
    rfl
  · obtain ⟨b, rfl, hb, k⟩ := h
    refine ⟨_, (pss_one (ps_if (pt_not (pt_val (pe_call GB hr (by rfl) AB.m AB.k AB.b .nil pass0 (pa_cons (pv 0) pa_nil)))) pss_never pss_nil)), ?_⟩
    exact ⟨_, rfl, b, rfl, hb, _, rfl, iteF k⟩
def spHist (K : PySem.W.Frag) (CL CH : Addr) : Sp := fun vs H Q _ => ∃ (p dx m t a : Addr) (b : Str) (ys : List Str) (xs : List V) (rs : List Run), vs = [.ref p, .ref m, .str b, .ref a] ∧ H p = some (.ins CH dx []) ∧ Mde CL H m t ys ∧ (b = "new" ∨ b = "found") ∧
  (SqL K H a xs ∨ SqT K H a xs) ∧ RunsV K H xs rs ∧ rs.length ≤ 1000 ∧ (∀ r ∈ rs, r.1 ∈ ys ∧ 1 ≤ r.2 ∧ r.2 ≤ 1000000000000000000000000000000) ∧ (joinR rs).length ≤ 400 ∧
  ∀ (H' : Hp) (c : Addr) (ks : List V), H' p = some (.ins CH dx (hf m c b (joinR rs))) → Mde CL H' m t ys → SqT K H' c ks → PairsV H' ks (joinR rs) → (∀ b o, b ≠ p → H b = some o → H' b = some o) → Q .non H'
abbrev s_Hist_init : Stmt := inClass (top 44) 0
theorem sc_Hist_init : FnScope ["self", "letters", "beginning", "runs"] ["self", "letters", "beginning", "runs"] (defScope s_Hist_init) := ⟨rfl, rfl, rfl, by decide +kernel, rfl, by decide +kernel, by decide +kernel⟩
theorem hist_binds {K : PySem.W.Frag} {d : V} {f : Addr} {fd : FuncData} (F : FunD K "__init__" "History.__init__" (defArgs s_Hist_init) (defBody s_Hist_init) (defScope s_Hist_init) [d] [] f fd) : (∃ u, RelV d u ∧ Binds K fd ["self", "letters", "beginning", "runs"] [u]) ∧ Binds K fd ["self", "letters", "beginning", "runs"] [] := by
  constructor
  · obtain ⟨ds, r, b⟩ := F.binds1 (ps := ["self", "letters", "beginning", "runs"]) 3 0 (by simp) rfl fun T kV doc pm an cdv ct us its hu hi => match us, hu, its, hi with | [_, _, _], _, [_], _ => ⟨_, rfl, rfl⟩
    obtain ⟨u, rfl, ru⟩ := vals1 r
    exact ⟨u, ru, b⟩
  · obtain ⟨ds, r, b⟩ := F.binds1 (ps := ["self", "letters", "beginning", "runs"]) 4 1 (by simp) rfl fun T kV doc pm an cdv ct us its hu hi => match us, hu, its, hi with | [_, _, _, _], _, [_], _ => ⟨_, rfl, rfl⟩
    cases r
    exact b
theorem ok_histInit {dvs : List V} {f fB fX fZ CL CH CK : Addr} {fd fdB fdX fdZ : FuncData} (F : FunD K "__init__" "History.__init__" (defArgs s_Hist_init) (defBody s_Hist_init) (defScope s_Hist_init) dvs [] f fd) (T : Blt mg) (hC : HsC K CH) (O : OnC K mg "CheckedRuns" CK)
    (GB : FnOk P w K mg base CX0 2 fB fdB ["value"] spReqBeg) (AB : At K mg "require_beginning" fB fdB ["value"])
    (GX : FnOk P w K mg base CX0 4 fX fdX ["letters", "kept", "runs"] (spExtOk K CL)) (AX : At K mg "extended" fX fdX ["letters", "kept", "runs"])
    (GZ : FnOk P w K mg base CX0 1 fZ fdZ ["runs"] (spSize K)) (AZ : At K mg "size_of" fZ fdZ ["runs"]) :
    FnOk P w K mg base CX0 5 f fd ["self", "letters", "beginning", "runs"] (spHist K CL CH) := by
  refine F.ok sc_Hist_init (fun vs H Q E h => ?_) (fun cdv A outer s H vs Q E hr h => ?_)
  · obtain ⟨p, dx, m, t, a, b, ys, xs, rs, rfl, _⟩ := h
    rfl
  · obtain ⟨p, dx, m, t, a, b, ys, xs, rs, rfl, hp, hM, hb, ha, hR, ln, hok, lm, k⟩ := h
    have hr1 := hr.mono (j := 1) (by decide)
    refine ⟨_, PSs.nox (pss_cons (ps_expr (pe_call GB (hr.mono (by decide)) (by rfl) AB.m AB.k AB.b .nil pass0 (pa_cons (pv 2) pa_nil)))
      (pss_cons (ps_fld (pv 0) (pv 1) rfl)
      (pss_cons (ps_fld (pv 0) (pv 2) rfl)
      (pss_cons (ps_fld (pv 0) (pe_ifExp (pt_val (pe_callB call_isi (by rfl) T.n_isinstance (by decide +kernel) (pa_cons (pv 3) (pa_cons (pe_gv (v := .ref CK) rfl ⟨_, O.m, rfl⟩) pa_nil)))) (pe_fld (pv 3) rfl) (pe_call GX hr (by rfl) AX.m AX.k AX.b .nil pass0 (pa_cons (pv 1) (pa_cons (pe_tup pa_nil) (pa_cons (pv 3) pa_nil))))) rfl)
      (pss_cons (ps_fld (pv 0) (pe_call GZ hr1 (by rfl) AZ.m AZ.k AZ.b .nil pass0 (pa_cons (pe_fld (pv 0) rfl) pa_nil)) rfl)
      (pss_one (ps_fld (pv 0) (pe_ifExp (pt_truth (pe_fld (pv 0) rfl) (by intro _; rfl)) (pe_ix ix_tup (pe_ix ix_tup (pe_fld (pv 0) rfl) (pe_un un_neg pe_int) (fun _ _ => rfl)) pe_int (fun _ _ => rfl)) (pv 2)) rfl))))))), ?_⟩
    refine ⟨_, rfl, b, rfl, hb, ?_⟩
    -- letters, beginning
    refine ⟨_, rfl, _, rfl, p, CH, dx, [], rfl, hp, hC.c, hC.a1, (by show 0 < 1000; decide), ?_⟩
    have p1 : upd H p (.ins CH dx [("letters", .ref m)]) p = some (.ins CH dx [("letters", .ref m)]) := upd_same
    refine ⟨_, rfl, _, rfl, p, CH, dx, _, rfl, p1, hC.c, hC.a2, (by show 1 < 1000; decide), ?_⟩
    have p2 : upd (upd H p (.ins CH dx (putF "letters" (.ref m) []))) p (.ins CH dx (putF "beginning" (.str b) [("letters", .ref m)])) p = some (.ins CH dx [("letters", .ref m), ("beginning", .str b)]) := upd_same
    have k2 : ∀ b' o, b' ≠ p → H b' = some o → upd (upd H p (.ins CH dx (putF "letters" (.ref m) []))) p (.ins CH dx (putF "beginning" (.str b) [("letters", .ref m)])) b' = some o := fun b' o hb e => by rw [upd_ne hb, upd_ne hb]; exact e
    generalize upd (upd H p (.ins CH dx (putF "letters" (.ref m) []))) p (.ins CH dx (putF "beginning" (.str b) [("letters", .ref m)])) = H2 at p2 k2 ⊢
    have hM2 := hM.but k2 hp
    have ha2 := seqA_but ha k2 hp
    have hR2 := hR.but k2 hp
    -- runs
    obtain ⟨ty, hty, hkt⟩ := ty_seqA ha2 O
    refine ⟨_, rfl, .ref a, .ref CK, ty, _, false, rfl, .own CK, hty, hkt, _, rfl, iteF ?_⟩
    refine ⟨_, rfl, by show 0 ≤ sizeLine; decide, fun e he => ?_⟩
    have s3 := Ask.Same.made1 (o := .tup []) (Same.refl H2) he
    have e3 : upd H2 e (.tup []) e = some (.tup []) := upd_same
    generalize upd H2 e (.tup []) = H3 at s3 e3 ⊢
    refine ⟨_, rfl, m, t, e, ys, a, [], xs, [], rs, rfl, hM2.same s3, SqT.of e3, PairsV.nil, by show 0 ≤ 1000; decide, seqA_same ha2 s3, hR2.same s3, ln, hok, by rw [splice_nil]; exact lm, fun H4 c ks s4 hc hks => ?_⟩
    rw [splice_nil] at hks
    have s24 := s3.trans s4
    refine ⟨_, rfl, p, CH, dx, _, rfl, s24 _ _ p2, hC.c, hC.a3, (by show 2 < 1000; decide), ?_⟩
    have p5 : upd H4 p (.ins CH dx (putF "runs" (.ref c) [("letters", .ref m), ("beginning", .str b)])) p = some (.ins CH dx [("letters", .ref m), ("beginning", .str b), ("runs", .ref c)]) := upd_same
    have k5 : ∀ b' o, b' ≠ p → H4 b' = some o → upd H4 p (.ins CH dx (putF "runs" (.ref c) [("letters", .ref m), ("beginning", .str b)])) b' = some o := fun b' o hb e => by rw [upd_ne hb]; exact e
    generalize upd H4 p (.ins CH dx (putF "runs" (.ref c) [("letters", .ref m), ("beginning", .str b)])) = H5 at p5 k5 ⊢
    have p4 := s24 _ _ p2
    have hM5 := (hM2.same s24).but k5 p4
    have hc5 := seqT_but hc k5 p4
    have hks5 := hks.but k5 p4
    have kk5 : ∀ b' o, b' ≠ p → H b' = some o → H5 b' = some o := fun b' o hb e => k5 _ _ hb (s24 _ _ (k2 _ _ hb e))
    -- size
    refine ⟨_, rfl, p, CH, dx, _, _, rfl, p5, hC.c, hC.a3, rfl, c, ks, joinR rs, rfl, .inr hc5, hks5.runs, by omega, fun H6 s6 => ?_⟩
    have p6 := s6 _ _ p5
    refine ⟨_, rfl, p, CH, dx, _, rfl, p6, hC.c, hC.a4, (by show 3 < 1000; decide), ?_⟩
    have p7 : upd H6 p (.ins CH dx (putF "size" (.int (sizeR (joinR rs))) [("letters", .ref m), ("beginning", .str b), ("runs", .ref c)])) p = some (.ins CH dx [("letters", .ref m), ("beginning", .str b), ("runs", .ref c), ("size", .int (sizeR (joinR rs)))]) := upd_same
    have k7 : ∀ b' o, b' ≠ p → H6 b' = some o → upd H6 p (.ins CH dx (putF "size" (.int (sizeR (joinR rs))) [("letters", .ref m), ("beginning", .str b), ("runs", .ref c)])) b' = some o := fun b' o hb e => by rw [upd_ne hb]; exact e
    generalize upd H6 p (.ins CH dx (putF "size" (.int (sizeR (joinR rs))) [("letters", .ref m), ("beginning", .str b), ("runs", .ref c)])) = H7 at p7 k7 ⊢
    have hM7 := (hM5.same s6).but k7 p6
    have hc7 := seqT_but (seqT_same s6 hc5) k7 p6
    have hks7 := (hks5.same s6).but k7 p6
    have kk7 : ∀ b' o, b' ≠ p → H b' = some o → H7 b' = some o := fun b' o hb e => k7 _ _ hb (s6 _ _ (kk5 _ _ hb e))
    -- last
    have fin : ∀ z : Str, z = lastR b (joinR rs) → Q .non (upd H7 p (.ins CH dx (putF "last" (.str z) [("letters", .ref m), ("beginning", .str b), ("runs", .ref c), ("size", .int (sizeR (joinR rs)))]))) := fun z hz => by
      have p8 : upd H7 p (.ins CH dx (putF "last" (.str z) [("letters", .ref m), ("beginning", .str b), ("runs", .ref c), ("size", .int (sizeR (joinR rs)))])) p = some (.ins CH dx (hf m c b (joinR rs))) := by
        rw [hz]
        exact upd_same
      have k8 : ∀ b' o, b' ≠ p → H7 b' = some o → upd H7 p (.ins CH dx (putF "last" (.str z) [("letters", .ref m), ("beginning", .str b), ("runs", .ref c), ("size", .int (sizeR (joinR rs)))])) b' = some o := fun b' o hb e => by rw [upd_ne hb]; exact e
      exact k _ c ks p8 (hM7.but k8 p7) (seqT_but hc7 k8 p7) (hks7.but k8 p7) fun b' o hb e => k8 _ _ hb (kk7 _ _ hb e)
    refine ⟨_, rfl, p, CH, dx, _, _, rfl, p7, hC.c, hC.a3, rfl, !ks.isEmpty, .inr (.inl ⟨ks, hc7, rfl⟩), ite2 (fun q => ?_) (fun q => ?_)⟩
    · have q0 : ks ≠ [] := fun z => by subst z; cases q
      have l1 : 1 ≤ ks.length := List.length_pos_iff.mpr q0
      have e1 := hks7.1
      obtain ⟨l, hl⟩ : ∃ l, (joinR rs)[(joinR rs).length - 1]? = some l := ⟨_, List.getElem?_eq_getElem (by omega)⟩
      obtain ⟨x, hx, hx2⟩ := hks7.get hl
      rw [← e1] at hx
      refine ⟨_, rfl, p, CH, dx, _, _, rfl, p7, hC.c, hC.a3, rfl, _, rfl, c, _, _, _, rfl, rfl, hc7, atI_back hx, x, _, _, _, rfl, rfl, SqT.of hx2, at_by (j := 0) rfl rfl, ?_⟩
      refine ⟨_, rfl, p, CH, dx, _, rfl, p7, hC.c, hC.a5, (by show 4 < 1000; decide), fin l.1 ?_⟩
      unfold lastR
      rw [List.getLast?_eq_getElem?, hl]
      rfl
    · have q : (!ks.isEmpty) = false := (Bool.not_eq_true _).mp q
      have q0 : ks = [] := by cases ks with | nil => rfl | cons => cases q
      have q1 : joinR rs = [] := List.eq_nil_of_length_eq_zero (by rw [← hks7.1, q0]; rfl)
      refine ⟨_, rfl, _, rfl, p, CH, dx, _, rfl, p7, hC.c, hC.a5, (by show 4 < 1000; decide), fin b ?_⟩
      rw [q1]
      rfl
end
end Ask

/-! a text == a flat value, a list, a tuple or a dict -/
namespace Ask
open PySem L2 PySem.Spec PyProof.Rows PySem.SeqAt
def Any1 (H : Hp) (x : V) : Prop := flatV x = true ∨ ∃ d, x = .ref d ∧ ((∃ kvs, H d = some (.dK kvs)) ∨ (∃ xs, H d = some (.lst xs)) ∨ (∃ xs, H d = some (.tup xs)))
theorem Any1.same {H H' : Hp} {x : V} (h : Any1 H x) (s : Same H H') : Any1 H' x := by
  rcases h with h | ⟨d, e, h⟩
  · exact .inl h
  · refine .inr ⟨d, e, ?_⟩
    rcases h with ⟨k, h⟩ | ⟨k, h⟩ | ⟨k, h⟩
    · exact .inl ⟨k, s _ _ h⟩
    · exact .inr (.inl ⟨k, s _ _ h⟩)
    · exact .inr (.inr ⟨k, s _ _ h⟩)
section
variable {X : Cx}
theorem op_eqW (hu : X.A.units < cLine) : OpR X (compareOp .Eq) (fun x y H Q => ∃ z : Str, x = .str z ∧ Any1 H y ∧ Q (.bl (decide (V.str z = y))) H) := by
  intro pins s σ H x y v u Q I rx ry h
  obtain ⟨z, rfl, hy, q⟩ := h
  rcases hy with fy | ⟨d, rfl, hd⟩
  · cases y with
    | non => exact op_eq pins s σ H _ _ v u Q I rx ry ⟨rfl, q⟩
    | bl j => exact op_eq pins s σ H _ _ v u Q I rx ry ⟨rfl, q⟩
    | int j => exact op_eq pins s σ H _ _ v u Q I rx ry ⟨rfl, q⟩
    | str j => exact op_eq pins s σ H _ _ v u Q I rx ry ⟨rfl, q⟩
    | _ => cases fy
  · obtain ⟨t, rfl⟩ := id rx
    cases ry
    have fin : EP X pins σ Q (.bool false) s := fin_bl I q (decide_eq_false (fun z => by cases z))
    show wpAny (model X.prog X.w) X.A (richCompare .Eq (.str z t) (.ref d)) (EP X pins σ Q) X.xe s
    rcases hd with ⟨kvs, hd⟩ | ⟨xs, hd⟩ | ⟨xs, hd⟩
    · obtain ⟨_, _, vs, _, o, es, ep, ho, hx, hdd, _⟩ := I.hok d _ hd
      exact rcAt_sd z t ho hx.1 hdd hu _ _ _ _ fin
    · obtain ⟨its2, r2, pl2, _⟩ := I.list (.inl (.inl hd))
      exact RcAt.str_list z t pl2.isList hu _ _ _ _ fin
    · obtain ⟨its2, r2, pl2, _⟩ := I.tuple (.inl (.inl hd))
      exact RcAt.str_tuple z t pl2 hu _ _ _ _ fin
end
end Ask

/-! C(), C an own error without __init__ -/
namespace Ask
open PySem PySem.Spec PyProof.Rows L2
theorem pmk_own0 {X : Cx} {C : Addr} {bmB : List Value} {B newId initId : String} {x : Str} {p pos : Pos} (F : ExcBaseFacts B newId initId bmB) (q : PySem.W.excIn X.K C bmB newId = true) (gC : X.mg x = some (.ref C)) (kC : PySem.W.keepIn X.K (.ref C) = true) (r : Raises X (.ref C)) (hg : Gl X x)
    (hdb : (x == ("__debug__" : Str)) = false := by decide) : PMk X (.Call (.Name x p) [] [] pos) (fun _ H Q => Q (.ref C) none H) := by
  intro pins s σ H Q I h
  refine wpAny_Call_Name_kw (ld_glob I hg gC ?_ hdb)
  refine PySem.W.callWith_K0 (first := []) I.kIn kC ?_
  show wpAny _ _ (call (.ref C) []) _ _ _
  obtain ⟨bm, N, nm, qn, bs, hdct, sn, sub, ab, col, dd, k0, k1, k2, k3, k5, mN, hC, hN, hni, T⟩ := exc_obj I.kIn q
  refine wpAny_call_exc_subT F T hC hN hni (fun h' e hm => ?_) (Nat.zero_le _)
  exact mk_of I hm r h (I.hok.gone hm.new)
/-- an own error class without __init__ -/
structure Err0 (K : PySem.W.Frag) (mg : Str → Option Value) (x : Str) (C : Addr) : Prop where
  m : mg x = some (.ref C)
  e : PySem.W.excIn K C [Value.type "ValueError", Value.type "Exception", Value.type "BaseException", Value.type "object"] "ValueError.__new__" = true
  k : PySem.W.keepIn K (.ref C) = true
  b : PySem.W.subIn K (.ref C) (.type "BaseException") = some true
  t : PySem.W.typeIn K (.ref C) = some (.type "type")
end Ask

/-! a clause «except X» without a name, among several -/
namespace Ask
open PySem L2 PySem.Spec PyProof.Rows
def wNo (K : PySem.W.Frag) (c : Value) (ts : TS) (W : WX) (D : Ends) : WX := fun cls d σ H =>
  ∃ b, PySem.W.exmOne K cls c = some b ∧ (b = true → ts D σ H) ∧ (b = false → W cls d σ H)
theorem hands_no {X : Cx} {D : Ends} {hds : List ExceptHandler} {W : WX} {x : Str} {c : Value} {suite : List Stmt} {b₀ : Stmt} {np pos' : Pos} {ts : TS}
    (hf : X.env.frame = some X.env.locals) (hc : Names X x c)
    (su : ∀ (a : Addr) (oe : Obj) (pn : List (Addr × Obj)), PSs (X.suite a ((a, oe) :: pn)) (b₀ :: suite) ts)
    (rest : Hands X D hds W) : Hands X D (.ExceptHandler (some (.Name x np)) none (b₀ :: suite) pos' :: hds) (wNo X.K c ts W D) := by
  intro pins σ H sI s B a cls d w q
  obtain ⟨b, hb, yes, no⟩ := q
  have J := w.now
  have ok := J.ok
  obtain ⟨oe, vs, he, hz, hd, nL, nF⟩ := w.apart hf
  have S := J.suite he hd w.na nL nF
  refine wpAny_handleBy_cons (codeAny_handlers_test ?_) (by intro z; cases z)
  have ty : PySem.W.Looks (model X.prog X.w) s.heap (typeOf (.ref a)) cls := fun A Q E s' k z => wpAny_typeOf_ref (k _ _ he) (by rw [hz.1]; exact z)
  have isIt := PySem.W.exm_one (M := model X.prog X.w) J.kIn ty hb
  have named : ∀ {Q : Value → Shared → Prop} {E : Value → Shared → Prop}, Q c s → wpAny (model X.prog X.w) (X.A.mark (some (.ref a))) (eval (.Name x np) X.env) Q E s := fun {Q E} z => by
    obtain ⟨g, dbg, m | ⟨m, bt, nn⟩⟩ := hc
    · exact ld_glob (X := X.suite a ((a, oe) :: (X.pn ++ pins))) S g m z dbg
    · exact ld_blt (X := X.suite a ((a, oe) :: (X.pn ++ pins))) S g m bt z nn dbg
  refine named (isIt.here ?_)
  cases b with
  | false => exact rest pins σ H sI s B a cls d w (no rfl)
  | true =>
    refine codeAny_handlers_suite (HandSPX.lands_againZ w.fl fun h4 fl4 up4 => ?_)
    have w4 : Down X pins σ H sI B a cls d { s with heap := h4 } := ⟨fl4, w.inv, w.nb, w.up.trans up4, w.os, w.ag, w.na⟩
    obtain ⟨oe4, vs4, he4, hz4, hd4, nL4, nF4⟩ := w4.apart hf
    have S4 := w4.now.suite he4 hd4 w.na nL4 nF4
    refine wpAny_mono ((su a oe4 (X.pn ++ pins)).run [] _ σ H _ S4 (yes rfl)) (fun f s6 got => ?_) (fun _ _ z => False.elim z)
    cases f with
    | ret u => obtain ⟨v, σ6, H6, S6, r, z⟩ := got; exact ⟨v, σ6, H6, S6.unsuite ok, r, z⟩
    | next => obtain ⟨σ6, H6, S6, z⟩ := got; exact ⟨σ6, H6, S6.unsuite ok, z⟩
    | brk => obtain ⟨σ6, H6, S6, z⟩ := got; exact ⟨σ6, H6, S6.unsuite ok, z⟩
    | cont => obtain ⟨σ6, H6, S6, z⟩ := got; exact ⟨σ6, H6, S6.unsuite ok, z⟩
end Ask

/-! o.f as a target among several -/
namespace Ask
open PySem PySem.Spec PyProof.Rows L2
def gFld (K : PySem.W.Frag) (to : TE) (f : Str) : TG := fun y σ H Q => to σ H fun x H2 => ∃ a C dx fs, x = .ref a ∧ H2 a = some (.ins C dx fs) ∧ Cls K C ∧ NoAttr K C f ∧ fs.length < 1000 ∧ Q σ (upd H2 a (.ins C dx (putF f y fs)))
theorem pg_fld {X : Cx} {o : Expr} {f : Str} {pos : Pos} {to : TE} (ho : PE X o to) : PG X (.Attribute o f pos) (gFld X.K to f) := by
  refine ⟨fun pins s σ H v u Q I r h => ?_⟩
  rw [assign_Attribute]
  refine wpAny_bind (wpAny_holding (thn (ho.run pins s σ H _ I h) fun ov s1 ⟨x, H1, I1, r1, a, C, dx, fs, ex, ea, c, n, l, q⟩ => ?_))
  subst ex
  obtain rfl : ov = Value.ref a := r1
  refine wpAny_bind (wpAny_standAt (wpAny_bind (wpAny_holding ?_)))
  exact setattr_ok I1 ea c n l r fun s3 I3 => wpAny_release ⟨σ, _, I3, q⟩
end Ask

namespace Ask
open PySem L2
theorem inW_any {H : Hp} {x : V} {ys : List Str} {b : Bool} (h : InW H x ys b) : Any1 H x := by
  rcases h with ⟨h, _⟩ | ⟨_, h⟩
  · exact .inl h
  · exact .inr h
theorem inW_ne {H : Hp} {x : V} {ys : List Str} {y : Str} (h : InW H x ys false) (hy : y ∈ ys) : V.str y ≠ x := by
  rcases h with ⟨_, h⟩ | ⟨_, d, rfl, _⟩
  · rintro rfl
    have e := in_mem hy
    rw [e] at h
    cases h
  · intro z
    cases z
section
variable {P : Program} {w : World} {K : PySem.W.Frag} {mg : Str → Option Value} {base : Heap}
abbrev s_BadLetter_init : Stmt := inClass (top 13) 0
theorem sc_BadLetter_init : FnScope ["self", "index"] ["self", "index"] (defScope s_BadLetter_init) := ⟨rfl, rfl, rfl, by decide +kernel, rfl, by decide +kernel, by decide +kernel⟩
theorem ok_initBadLetter {f fC C : Addr} {fd fdC : FuncData} (F : Fun K "__init__" "BadLetter.__init__" s_BadLetter_init f fd) (T : OexC K C) (h1 : PySem.W.findIn K (.ref C) "index" = some none)
    (GC : FnOk P w K mg base CX0 1 fC fdC ["value"] spCopy) (CP : At K mg "copied" fC fdC ["value"]) : FnOk P w K mg base CX0 2 f fd ["self", "index"] (spErr C okBad fsBad) := by
  refine F.ok sc_BadLetter_init (fun vs H Q E h => ?_) (fun cdv A outer s H vs Q E hr h => ?_)
  · obtain ⟨a, ws, rfl, ⟨i, rfl⟩, _⟩ := h
    rfl
  · obtain ⟨a, ws, rfl, ⟨i, rfl⟩, ha, k⟩ := h
    refine ⟨_, pss_one (ps_ost (pv 0) (pe_call GC hr (by rfl) CP.m CP.k CP.b .nil pass0 (pa_cons (pv 1) pa_nil))), ?_⟩
    refine ⟨_, rfl, _, rfl, .inl ⟨i, rfl⟩, _, rfl, a, C, rfl, T, h1, .inl ⟨ha, fun dx hdx hne => ?_⟩⟩
    refine k _ dx hdx hne upd_same (by rw [upd_ne hne]; exact upd_same) fun b o hb e => ?_
    rw [upd_ne hb, upd_ne (ne_of_none e hdx)]
    exact e
theorem ok_rank {f fE CL CE : Addr} {fd fdE : FuncData} (F : Fun K "rank" "Letters.rank" s_Rank f fd) (T : Blt mg) (hC : Cls K CL) (hA : NoAttr K CL "words")
    (FE : FnOk P w K mg base CX0 2 fE fdE ["self", "index"] (spErr CE okBad fsBad)) (EE : ErrAt K mg "BadLetter" CE fE fdE ["self", "index"]) :
    FnOk P w K mg base (L2.CX P w) 4 f fd ["self", "x"] (spRank CL CE) := by
  refine F.okX sc_Rank (fun vs H Q E h => ?_) (fun cdv A outer s H vs Q E hr h => ?_)
  · obtain ⟨p, t, ys, x, rfl, _⟩ := h
    rfl
  · obtain ⟨p, t, ys, x, rfl, ⟨dx, ob, hp, ht, hob⟩, nd, h⟩ := h
    refine ⟨_, (pss_cons (ps_for (passes_of rfl) rfl (pi_enumA (by rfl) T.n_enumerate (pa_cons (pe_fld (pv 0) rfl) pa_nil)) (pg_tup rfl (pgs_cons (pg_name (i := 2) sc_Rank.nd rfl (Or.inl rfl)) (pgs_cons (pg_name (i := 3) sc_Rank.nd rfl (Or.inl rfl)) pgs_nil)))
        (pss_one (ps_if (pt_cmpR (op_eqW hr.units0) (pv 3) (pv 1) (nomark _)) (pss_one (ps_ret (pv 2))) pss_nil)))
      (pss_one (ps_raise rfl (takes_of rfl rfl rfl rfl) (pmk_oex EE.o EE.i EE.t FE hr EE.b .nil pass0 (by rfl) EE.m (pa_cons pe_int pa_nil))))), ?_⟩
    have hq : SqT K H t (ys.map V.str) := .inl (.inr ⟨ob, ht⟩)
    have hx : Any1 H x := by
      rcases h with ⟨i0, z, rfl, hi, k⟩ | ⟨hw, k⟩
      · exact .inl rfl
      · exact inW_any hw
    have hn : (ys.map V.str).length = ys.length := List.length_map ..
    refine for_enum (fun R r => ⟨_, rfl, p, CL, dx, _, _, rfl, hp, hC, hA, rfl, t, _, rfl, .inr ⟨hq, r⟩⟩) walk_enumT
      (fun i σ' H' => (∀ (j : Nat) (y : Str), j < i → ys[j]? = some y → V.str y ≠ x) ∧ ∃ o2 o3 : Option V, σ' = [some (.ref p), some x, o2, o3] ∧ Same H H')
      ⟨fun j y hj => absurd hj (Nat.not_lt_zero j), none, none, rfl, Same.refl H⟩ (fun i σ' H' _ ⟨_, _, _, _, s'⟩ => seqT_same s' hq) ?_ ?_
    · rintro i e σ' H2 H3 hi ⟨hne, o2, o3, rfl, s2⟩ ⟨t2, x0, y0, rfl, ht2, rfl, ex, ey⟩
      cases ex
      rw [hn] at hi
      obtain ⟨y, hy⟩ : ∃ y, ys[i]? = some y := ⟨_, List.getElem?_eq_getElem hi⟩
      replace ey : (ys.map V.str)[i]? = some y0 := ey
      rw [List.getElem?_map, hy] at ey
      injection ey with ey
      subst ey
      have s3 := Ask.Same.made1 (o := .tup [.int (i : Nat), .str y]) s2 ht2
      have ht3 : upd H2 t2 (.tup [.int (i : Nat), .str y]) t2 = some (.tup [.int (i : Nat), .str y]) := upd_same
      generalize upd H2 t2 (.tup [.int (i : Nat), .str y]) = H4 at s3 ht3 ⊢
      refine ⟨t2, _, rfl, SqT.of ht3, rfl, _, _, rfl, _, _, rfl, rfl, ?_⟩
      refine ⟨_, rfl, _, rfl, y, rfl, hx.same s3, _, rfl, ite2 (fun hd => ?_) (fun hd => ?_)⟩
      · have hd : V.str y = x := of_decide_eq_true hd
        subst hd
        rcases h with ⟨i0, z, hz, hi0, k⟩ | ⟨hw, k⟩
        · injection hz with hz
          subst hz
          obtain rfl : i = i0 := (List.getElem?_inj hi nd).mp (hy.trans hi0.symm)
          exact ⟨_, rfl, k _ s3⟩
        · exact absurd rfl (inW_ne hw (List.mem_of_getElem? hy))
      · have hd : V.str y ≠ x := fun q => hd (decide_eq_true q)
        refine ⟨fun j z hj hz => ?_, _, _, rfl, s3⟩
        rcases Nat.lt_succ_iff_lt_or_eq.mp hj with hj | rfl
        · exact hne j z hj hz
        · rw [hy] at hz
          injection hz with hz
          subst hz
          exact hd
    · rintro σ' H' ⟨hne, o2, o3, rfl, s'⟩
      rw [hn] at hne
      rcases h with ⟨i0, z, rfl, hi0, k⟩ | ⟨hw, k⟩
      · exact absurd rfl (hne i0 z (List.getElem?_eq_some_iff.mp hi0).1 hi0)
      · exact err_made s' ⟨_, rfl⟩ (by show 1 ≤ 1000; decide) (fun H' d s' e => k H' d s' e)
end
end Ask

namespace Ask
open PySem L2
open PySem.SeqAt (notIn_tupleAt EqAt)
section
variable {X : Cx}
theorem op_notInW (hu : X.A.units + 1 < cLine) : OpR X (compareOp .NotIn) (fun x y H Q => ∃ (p : Addr) (ys : List Str) (b : Bool), y = .ref p ∧ SqT X.K H p (ys.map V.str) ∧ InW H x ys b ∧ Q (.bl (!b)) H) := by
  intro pins s σ H x y v u Q I rx ry h
  obtain ⟨p, ys, b, rfl, hq, hw, q⟩ := h
  rcases hw with ⟨fx, rfl⟩ | ⟨rfl, d, rfl, hd⟩
  · refine op_notIn_seq pins s σ H x (.ref p) v u Q I rx ry ⟨p, _, rfl, .inr hq, fx, ?_, q⟩
    rw [List.all_eq_true]
    intro y hy
    obtain ⟨z, _, rfl⟩ := List.mem_map.mp hy
    rfl
  · cases rx
    cases ry
    obtain ⟨its, r, pl, hz⟩ := I.tuple hq
    have at_ : ∀ (y : Str) (t : Tok), EqAt X.A.in1 s (.str y t) (.ref d) false := fun y t => by
      rcases hd with ⟨kvs, hd⟩ | ⟨xs, hd⟩ | ⟨xs, hd⟩
      · obtain ⟨_, _, vs, _, o, es, ep, ho, hx, hdd, _⟩ := I.hok d _ hd
        exact eqAt_sd y t ho hx.1 hdd hu
      · obtain ⟨its2, r2, pl2, _⟩ := I.list (.inl (.inl hd))
        exact PySem.SeqAt.EqAt.str_list y t pl2.isList hu
      · obtain ⟨its2, r2, pl2, _⟩ := I.tuple (.inl (.inl hd))
        exact PySem.SeqAt.EqAt.str_tuple y t pl2 hu
    refine notIn_tupleAt (fun _ => false) pl (fun w hw => strs_eqAtR at_ ys _ r w (by simpa using hw)) ⟨.bl true, H, I, ?_, q⟩
    show Value.bool _ = Value.bool true
    simp
end
theorem inV_str (z : Str) (ys : List Str) : inV (.str z) (ys.map V.str) = decide (z ∈ ys) := by
  by_cases h : z ∈ ys
  · rw [in_mem h, decide_eq_true h]
  · rw [decide_eq_false h]
    unfold inV
    rw [List.any_eq_false]
    intro y hy
    obtain ⟨x, hx, rfl⟩ := List.mem_map.mp hy
    intro e
    have e : decide (x = z) = true := e
    exact h (of_decide_eq_true e ▸ hx)
theorem inV_other {x : V} (h : ∀ z, eqV (.str z) x = false) (ys : List Str) : inV x (ys.map V.str) = false := by
  unfold inV
  rw [List.any_eq_false]
  intro y hy
  obtain ⟨z, hz, rfl⟩ := List.mem_map.mp hy
  rw [h z]
  exact Bool.false_ne_true
/-- a value of the law's: flat, or a list, a tuple, a dict -/
def Val (p : Addr) (H : Hp) (v : V) : Prop := flatV v = true ∨ ∃ d, v = .ref d ∧ d ≠ p ∧ ((∃ kvs, H d = some (.dK kvs)) ∨ (∃ xs, H d = some (.lst xs)) ∨ (∃ xs, H d = some (.tup xs)))
def inB (ys : List Str) : V → Bool
  | .str z => decide (z ∈ ys)
  | _ => false
def isN : V → Bool
  | .non => true
  | _ => false
section
variable {p : Addr} {H H' : Hp} {v : V} {ys : List Str} {K : PySem.W.Frag}
theorem Val.kp (h : Val p H v) (k : Kp p H H') : Val p H' v := by
  rcases h with h | ⟨d, e, n, h⟩
  · exact .inl h
  · refine .inr ⟨d, e, n, ?_⟩
    rcases h with ⟨z, h⟩ | ⟨z, h⟩ | ⟨z, h⟩
    · exact .inl ⟨z, k _ _ n h⟩
    · exact .inr (.inl ⟨z, k _ _ n h⟩)
    · exact .inr (.inr ⟨z, k _ _ n h⟩)
theorem Val.same (h : Val p H v) (s : Same H H') : Val p H' v := h.kp (Kp.of s)
theorem Val.inw (h : Val p H v) (ys : List Str) : InW H v ys (inB ys v) := by
  rcases h with h | ⟨d, rfl, n, h⟩
  · cases v with
    | str z => exact .inl ⟨rfl, (inV_str z ys).symm⟩
    | non => exact .inl ⟨rfl, (inV_other (fun _ => rfl) ys).symm⟩
    | bl b => exact .inl ⟨rfl, (inV_other (fun _ => rfl) ys).symm⟩
    | int i => exact .inl ⟨rfl, (inV_other (fun _ => rfl) ys).symm⟩
    | _ => cases h
  · exact .inr ⟨rfl, d, rfl, h⟩
/-- what isinstance(v, str) tells -/
theorem Val.isi (h : Val p H v) : ∃ ty b, TyX K H v ty ∧ PySem.W.kitOne K ty (.type "str") = some b ∧ (b = true → ∃ z, v = .str z) ∧ (b = false → ∀ ys, inB ys v = false) := by
  rcases h with h | ⟨d, rfl, n, ⟨z, h⟩ | ⟨z, h⟩ | ⟨z, h⟩⟩
  · cases v with
    | str z => exact ⟨.type "str", true, .base (.str z), kit_ty (by decide +kernel), fun _ => ⟨z, rfl⟩, fun h => by cases h⟩
    | non => exact ⟨.type "NoneType", false, .base .non, kit_ty (by decide +kernel), fun h => (by cases h), fun _ _ => rfl⟩
    | bl b => exact ⟨.type "bool", false, .base (.bl b), kit_ty (by decide +kernel), fun h => (by cases h), fun _ _ => rfl⟩
    | int i => exact ⟨.type "int", false, .base (.int i), kit_ty (by decide +kernel), fun h => (by cases h), fun _ _ => rfl⟩
    | _ => cases h
  · exact ⟨.type "dict", false, .base (.dK h), kit_ty (by decide +kernel), fun h => (by cases h), fun _ _ => rfl⟩
  · exact ⟨.type "list", false, ty_list (SqL.of h), kit_ty (by decide +kernel), fun h => (by cases h), fun _ _ => rfl⟩
  · exact ⟨.type "tuple", false, ty_tup (SqT.of h), kit_ty (by decide +kernel), fun h => (by cases h), fun _ _ => rfl⟩
theorem inB_some (h : inB ys v = true) : ∃ z, v = .str z ∧ z ∈ ys := by
  cases v with
  | str z => exact ⟨z, rfl, of_decide_eq_true h⟩
  | _ => cases h
end
def KL : List Str := ["idle", "kept", "still", "over", "undone", "alike"]
def LK : List Str := ["idle", "still"]
/-- the constants of sentences -/
structure GvK (K : PySem.W.Frag) (mg : Str → Option Value) : Prop where
  kinds : ∃ (t : Addr) (u : Value), mg "KINDS" = some u ∧ RelV (.ref t) u ∧ ∀ H, SqT K H t (KL.map V.str)
  lone : ∃ (t : Addr) (u : Value), mg "LONE_KINDS" = some u ∧ RelV (.ref t) u ∧ ∀ H, SqT K H t (LK.map V.str)
section
variable {P : Program} {w : World} {K : PySem.W.Frag} {mg : Str → Option Value} {base : Heap}
/-! ### is_due -/
def spIsDue (CL : Addr) : Sp := fun vs H Q _ => ∃ (m t : Addr) (ys : List Str) (v : V) (h b : Bool), vs = [.ref m, v, .bl h] ∧ Mde CL H m t ys ∧ InW H v ys b ∧ Q (.bl (if h = true then b else decide (v = .non))) H
abbrev s_is_due : Stmt := top 48
theorem sc_is_due : FnScope ["letters", "value", "has_letter"] ["letters", "value", "has_letter"] (defScope s_is_due) := ⟨rfl, rfl, rfl, by decide +kernel, rfl, by decide +kernel, by decide +kernel⟩
theorem ok_isDue {f fH CL : Addr} {fd fdH : FuncData} (F : Fun K "is_due" "is_due" s_is_due f fd)
    (GH : FnOk P w K mg base CX0 1 fH fdH ["self", "x"] (spHas CL)) (bH : Binds K fdH ["self", "x"] []) (hH : PySem.W.findIn K (.ref CL) "__contains__" = some (some (.ref fH))) (iH : PySem.W.isFn K (.ref fH) = true) :
    FnOk P w K mg base CX0 2 f fd ["letters", "value", "has_letter"] (spIsDue CL) := by
  refine F.ok sc_is_due (fun vs H Q E h => ?_) (fun cdv A outer s H vs Q E hr h => ?_)
  · obtain ⟨m, t, ys, v, h, b, rfl, _⟩ := h
    rfl
  · obtain ⟨m, t, ys, v, h, b, rfl, hM, hw, k⟩ := h
    obtain ⟨dx, ob, m1, _⟩ := id hM
    refine ⟨_, (pss_one (ps_ret (pe_ifExp (pt_val (pv 2)) (pe_cmpR (op_inI (C := CL) (E := E0) GH hr bH pass0 hH iH) (pv 1) (pv 0) rfl) (pe_cmpR op_isN (pv 1) pe_non (nomark _))))), ?_⟩
    refine ⟨_, rfl, _, rfl, ?_⟩
    cases h with
    | true => exact iteT ⟨_, rfl, _, rfl, m, dx, _, rfl, m1, m, t, ys, v, b, rfl, hM, hw, b, rfl, k⟩
    | false => exact iteF ⟨_, rfl, rfl, k⟩
/-! ### sides -/
def spSides (K : PySem.W.Frag) : Sp := fun vs H Q _ => ∃ (ys : List Str) (k x : Str) (s : V), vs = [.str k, .str x, s, .int 1] ∧ k ∈ KL ∧ x ∈ ys ∧ (k ∉ LK → ∃ y, s = .str y ∧ y ∈ ys) ∧
  ∀ (H' : Hp) (q l r : Addr) (ls rs : List V) (a b : List Run), Same H H' → H' q = some (.tup [.ref l, .ref r]) → SqT K H' l ls → PairsV H' ls a → SqT K H' r rs → PairsV H' rs b → a.length ≤ 2 → b.length ≤ 2 → (∀ z ∈ a, z.1 ∈ ys ∧ z.2 = 1) → (∀ z ∈ b, z.1 ∈ ys ∧ z.2 = 1) → Q (.ref q) H'
abbrev s_sides : Stmt := top 49
theorem sc_sides : FnScope ["kind", "first", "second", "times"] ["kind", "first", "second", "times"] (defScope s_sides) := ⟨rfl, rfl, rfl, by decide +kernel, rfl, by decide +kernel, by decide +kernel⟩
theorem ok_sides {f : Addr} {fd : FuncData} (F : Fun K "sides" "sides" s_sides f fd) (Gk : GvK K mg) : FnOk P w K mg base CX0 1 f fd ["kind", "first", "second", "times"] (spSides K) := by
  refine F.ok sc_sides (fun vs H Q E h => ?_) (fun cdv A outer s H vs Q E hr h => ?_)
  · obtain ⟨ys, k, x, s, rfl, _⟩ := h
    rfl
  · obtain ⟨ys, k, x, s', rfl, hk, hx, hs, Qk⟩ := h
    obtain ⟨tL, uL, mL, rL, sL⟩ := Gk.lone
    refine ⟨_, (pss_cons (ps_if (pt_cmpR op_in_seq (pv 0) (pe_gv (v := .ref tL) rfl ⟨uL, mL, rL⟩) rfl) (pss_one (ps_ret (pe_tup (pa_cons (pe_tup (pa_cons (pe_tup (pa_cons (pv 1) (pa_cons (pv 3) pa_nil))) pa_nil)) (pa_cons (pe_tup pa_nil) pa_nil))))) pss_nil)
      (pss_cons (ps_if (pt_cmpR op_eq (pv 0) pe_str (nomark _)) (pss_one (ps_ret (pe_tup (pa_cons (pe_tup (pa_cons (pe_tup (pa_cons (pv 1) (pa_cons (pv 3) pa_nil))) pa_nil)) (pa_cons (pe_tup (pa_cons (pe_tup (pa_cons (pv 2) (pa_cons (pv 3) pa_nil))) pa_nil)) pa_nil))))) pss_nil)
      (pss_cons (ps_if (pt_cmpR op_eq (pv 0) pe_str (nomark _)) (pss_one (ps_ret (pe_tup (pa_cons (pe_tup (pa_cons (pe_tup (pa_cons (pv 1) (pa_cons pe_int pa_nil))) (pa_cons (pe_tup (pa_cons (pv 2) (pa_cons (pv 3) pa_nil))) pa_nil))) (pa_cons (pe_tup (pa_cons (pe_tup (pa_cons (pv 1) (pa_cons pe_int pa_nil))) pa_nil)) pa_nil))))) pss_nil)
      (pss_cons (ps_if (pt_cmpR op_eq (pv 0) pe_str (nomark _)) (pss_one (ps_ret (pe_tup (pa_cons (pe_tup (pa_cons (pe_tup (pa_cons (pv 1) (pa_cons (pv 3) pa_nil))) (pa_cons (pe_tup (pa_cons (pv 2) (pa_cons pe_int pa_nil))) pa_nil))) (pa_cons (pe_tup (pa_cons (pe_tup (pa_cons (pv 2) (pa_cons pe_int pa_nil))) pa_nil)) pa_nil))))) pss_nil)
      (pss_one (ps_ret (pe_tup (pa_cons (pe_tup (pa_cons (pe_tup (pa_cons (pv 1) (pa_cons (pv 3) pa_nil))) (pa_cons (pe_tup (pa_cons (pv 2) (pa_cons (pv 3) pa_nil))) pa_nil))) (pa_cons (pe_tup pa_nil) pa_nil))))))))), ?_⟩
    have two : (2 : Nat) ≤ sizeLine := by decide
    have one : (1 : Nat) ≤ sizeLine := by decide
    have in1 : ∀ {x : Str}, x ∈ ys → ∀ z ∈ [((x, 1) : Run)], z.1 ∈ ys ∧ z.2 = 1 := fun hx z hz => by
      rw [List.mem_singleton] at hz
      subst hz
      exact ⟨hx, rfl⟩
    have in2 : ∀ {x y : Str}, x ∈ ys → y ∈ ys → ∀ z ∈ [((x, 1) : Run), (y, 1)], z.1 ∈ ys ∧ z.2 = 1 := fun hx hy z hz => by
      rcases List.mem_cons.mp hz with rfl | hz
      · exact ⟨hx, rfl⟩
      · exact in1 hy z hz
    have in0 : ∀ z ∈ ([] : List Run), z.1 ∈ ys ∧ z.2 = 1 := fun z hz => by cases hz
    have mk : ∀ {H1 : Hp} {a : Addr} {o : HO}, H1 a = none → Same H1 (upd H1 a o) := fun h => Ask.Same.made1 (Same.refl _) h
    refine ⟨_, rfl, tL, _, rfl, .inr (sL H), rfl, rfl, _, rfl, ?_⟩
    show (if inV (.str k) (LK.map V.str) = true then _ else _)
    rw [inV_str]
    by_cases lone : k ∈ LK
    · rw [decide_eq_true lone]
      refine iteT ⟨_, rfl, _, rfl, two, fun a1 h1 => ⟨one, fun l hl => ⟨Nat.zero_le _, fun r hr => ⟨two, fun q hq => ?_⟩⟩⟩⟩
      have s1 := (mk (o := HO.tup []) hr).trans (mk (o := HO.tup [.ref l, .ref r]) hq)
      exact Qk _ q l r _ _ _ _ ((mk h1).trans ((mk hl).trans s1)) upd_same (SqT.of (s1 _ _ upd_same)) ((PairsV.one (r := (x, 1)) upd_same).same ((mk hl).trans s1)) (SqT.of (mk hq _ _ upd_same)) PairsV.nil (by show 1 ≤ 2; decide) (by show 0 ≤ 2; decide) (in1 hx) in0
    rw [decide_eq_false lone]
    refine iteF ?_
    obtain ⟨y, rfl, hy⟩ := hs lone
    refine ⟨_, rfl, rfl, _, rfl, ite2 (fun _ => ?_) (fun _ => ?_)⟩
    · refine ⟨_, rfl, _, rfl, two, fun a1 h1 => ⟨one, fun l hl => ⟨_, rfl, _, rfl, two, fun a2 h2 => ⟨one, fun r hr => ⟨two, fun q hq => ?_⟩⟩⟩⟩⟩
      have s1 := (mk (o := HO.tup [.ref a2]) hr).trans (mk (o := HO.tup [.ref l, .ref r]) hq)
      have s2 := (mk (o := HO.tup [.str y, .int 1]) h2).trans s1
      exact Qk _ q l r _ _ _ _ ((mk h1).trans ((mk hl).trans s2)) upd_same (SqT.of (s2 _ _ upd_same)) ((PairsV.one (r := (x, 1)) upd_same).same ((mk hl).trans s2)) (SqT.of (mk hq _ _ upd_same)) ((PairsV.one (r := (y, 1)) upd_same).same s1) (by show 1 ≤ 2; decide) (by show 1 ≤ 2; decide) (in1 hx) (in1 hy)
    refine ⟨_, rfl, rfl, _, rfl, ite2 (fun _ => ?_) (fun _ => ?_)⟩
    · refine ⟨_, rfl, two, fun a1 h1 => ⟨_, rfl, _, rfl, two, fun a2 h2 => ⟨two, fun l hl => ⟨_, rfl, two, fun a3 h3 => ⟨one, fun r hr => ⟨two, fun q hq => ?_⟩⟩⟩⟩⟩⟩
      have s1 := (mk (o := HO.tup [.ref a3]) hr).trans (mk (o := HO.tup [.ref l, .ref r]) hq)
      have s2 := (mk (o := HO.tup [.str x, .int 1]) h3).trans s1
      have s3 := (mk (o := HO.tup [.ref a1, .ref a2]) hl).trans s2
      have s4 := (mk (o := HO.tup [.str y, .int 1]) h2).trans s3
      exact Qk _ q l r _ _ _ _ ((mk h1).trans s4) upd_same (SqT.of (s2 _ _ upd_same)) (((PairsV.one (r := (x, 1)) upd_same).same s4).cat ((PairsV.one (r := (y, 1)) upd_same).same s3)) (SqT.of (mk hq _ _ upd_same)) ((PairsV.one (r := (x, 1)) upd_same).same s1) (by show 2 ≤ 2; decide) (by show 1 ≤ 2; decide) (in2 hx hy) (in1 hx)
    refine ⟨_, rfl, rfl, _, rfl, ite2 (fun _ => ?_) (fun _ => ?_)⟩
    · refine ⟨_, rfl, _, rfl, two, fun a1 h1 => ⟨_, rfl, two, fun a2 h2 => ⟨two, fun l hl => ⟨_, rfl, two, fun a3 h3 => ⟨one, fun r hr => ⟨two, fun q hq => ?_⟩⟩⟩⟩⟩⟩
      have s1 := (mk (o := HO.tup [.ref a3]) hr).trans (mk (o := HO.tup [.ref l, .ref r]) hq)
      have s2 := (mk (o := HO.tup [.str y, .int 1]) h3).trans s1
      have s3 := (mk (o := HO.tup [.ref a1, .ref a2]) hl).trans s2
      have s4 := (mk (o := HO.tup [.str y, .int 1]) h2).trans s3
      exact Qk _ q l r _ _ _ _ ((mk h1).trans s4) upd_same (SqT.of (s2 _ _ upd_same)) (((PairsV.one (r := (x, 1)) upd_same).same s4).cat ((PairsV.one (r := (y, 1)) upd_same).same s3)) (SqT.of (mk hq _ _ upd_same)) ((PairsV.one (r := (y, 1)) upd_same).same s1) (by show 2 ≤ 2; decide) (by show 1 ≤ 2; decide) (in2 hx hy) (in1 hy)
    · refine ⟨_, rfl, _, rfl, two, fun a1 h1 => ⟨_, rfl, _, rfl, two, fun a2 h2 => ⟨two, fun l hl => ⟨Nat.zero_le _, fun r hr => ⟨two, fun q hq => ?_⟩⟩⟩⟩⟩
      have s1 := (mk (o := HO.tup []) hr).trans (mk (o := HO.tup [.ref l, .ref r]) hq)
      have s3 := (mk (o := HO.tup [.ref a1, .ref a2]) hl).trans s1
      have s4 := (mk (o := HO.tup [.str y, .int 1]) h2).trans s3
      exact Qk _ q l r _ _ _ _ ((mk h1).trans s4) upd_same (SqT.of (s1 _ _ upd_same)) (((PairsV.one (r := (x, 1)) upd_same).same s4).cat ((PairsV.one (r := (y, 1)) upd_same).same s3)) (SqT.of (mk hq _ _ upd_same)) PairsV.nil (by show 2 ≤ 2; decide) (by show 0 ≤ 2; decide) (in2 hx hy) in0
end
end Ask

namespace Ask
open PySem L2
def ixOf : List Str → Str → Nat
  | [], _ => 0
  | y :: ys, x => if y = x then 0 else ixOf ys x + 1
theorem ixOf_at : ∀ {ys : List Str} {x : Str}, x ∈ ys → ys[ixOf ys x]? = some x ∧ ∀ m < ixOf ys x, ys[m]? ≠ some x
  | [], _, h => by cases h
  | y :: ys, x, h => by
    unfold ixOf
    by_cases e : y = x
    · rw [if_pos e]
      exact ⟨congrArg some e, fun m hm => absurd hm (Nat.not_lt_zero _)⟩
    · rw [if_neg e]
      have h' : x ∈ ys := by
        rcases List.mem_cons.mp h with h | h
        · exact absurd h.symm e
        · exact h
      obtain ⟨h1, h2⟩ := ixOf_at h'
      refine ⟨h1, fun m hm => ?_⟩
      cases m with
      | zero => exact fun z => e (Option.some.inj z)
      | succ m => exact h2 m (Nat.lt_of_succ_lt_succ hm)
/-- whether x stands ahead of s -/
def ahead (ys : List Str) (x : Str) : V → Bool
  | .str y => decide (ixOf ys x < ixOf ys y)
  | _ => false
/-- the one form -/
def nfT (ys : List Str) (k x : Str) (s : V) : List V := if k = "over" ∧ V.str x = s then [.str "kept", .str x, s] else if k = "alike" ∧ ahead ys x s = true then [.str k, s, .str x] else [.str k, .str x, s]
section
variable {P : Program} {w : World} {K : PySem.W.Frag} {mg : Str → Option Value} {base : Heap}
/-! ### one_form -/
def spForm (CL : Addr) : Sp := fun vs H Q _ => ∃ (m t : Addr) (ys : List Str) (k x : Str) (s : V), vs = [.ref m, .str k, .str x, s] ∧ Mde CL H m t ys ∧ ys.Nodup ∧ x ∈ ys ∧ (k ∉ LK → ∃ y, s = .str y ∧ y ∈ ys) ∧ (k ∈ LK → s = .non) ∧
  ∀ (H' : Hp) (q : Addr), Same H H' → H' q = some (.tup (nfT ys k x s)) → Q (.ref q) H'
abbrev s_one_form : Stmt := top 50
theorem sc_one_form : FnScope ["letters", "kind", "first", "second"] ["letters", "kind", "first", "second"] (defScope s_one_form) := ⟨rfl, rfl, rfl, by decide +kernel, rfl, by decide +kernel, by decide +kernel⟩
theorem ok_form {f fR CL CE : Addr} {fd fdR : FuncData} (F : Fun K "one_form" "one_form" s_one_form f fd) (hC : Cls K CL) (mR : Meth K CL "rank" fR) (bR : Binds K fdR ["self", "x"] []) (GR : FnOk P w K mg base (L2.CX P w) 4 fR fdR ["self", "x"] (spRank CL CE)) :
    FnOk P w K mg base CX0 5 f fd ["letters", "kind", "first", "second"] (spForm CL) := by
  refine F.ok sc_one_form (fun vs H Q E h => ?_) (fun cdv A outer s H vs Q E hr h => ?_)
  · obtain ⟨m, t, ys, k, x, s, rfl, _⟩ := h
    rfl
  · obtain ⟨m, t, ys, k, x, s', rfl, hM, nd, hx, hs1, hs2, kq⟩ := h
    refine ⟨_, (pss_cons (ps_if (PW.pt (pw_and (pt_cmpR op_eq (pv 1) pe_str (nomark _)) (pw_and1 (pt_cmpR op_eq (pv 2) (pv 3) (nomark _))))) (pss_one (ps_ret (pe_tup (pa_cons pe_str (pa_cons (pv 2) (pa_cons (pv 3) pa_nil)))))) pss_nil)
      (pss_cons (ps_if (PW.pt (pw_and (pt_cmpR op_eq (pv 1) pe_str (nomark _)) (pw_and1 (pt_cmpR op_lt (pe_meth (pv 0) hC mR GR hr bR .nil passE (pa_cons (pv 2) pa_nil)) (pe_meth (pv 0) hC mR GR hr bR .nil passE (pa_cons (pv 3) pa_nil)) (nomark _))))) (pss_one (ps_ret (pe_tup (pa_cons (pv 1) (pa_cons (pv 3) (pa_cons (pv 2) pa_nil)))))) pss_nil)
      (pss_one (ps_ret (pe_tup (pa_cons (pv 1) (pa_cons (pv 2) (pa_cons (pv 3) pa_nil)))))))), ?_⟩
    obtain ⟨dx, ob, m1, _⟩ := id hM
    have sc : scal (.str x) s' = true := by
      by_cases l : k ∈ LK
      · rw [hs2 l]; rfl
      · obtain ⟨y, rfl, _⟩ := hs1 l; rfl
    have three : (3 : Nat) ≤ sizeLine := by decide
    -- behind the first look
    have rest : ¬ (k = "over" ∧ V.str x = s') → ∀ (tt : TS), True → True := fun _ _ _ => trivial
    refine ⟨_, rfl, rfl, _, rfl, ite2 (fun q1 => ?_) (fun q1 => ?_)⟩
    · have q1 : k = "over" := V.str.inj (of_decide_eq_true q1)
      refine ⟨_, rfl, _, rfl, sc, _, rfl, ite2 (fun q2 => ?_) (fun q2 => ?_)⟩
      · have q2 := of_decide_eq_true q2
        exact ⟨_, rfl, _, rfl, three, fun q hq => kq _ q (Ask.Same.made1 (Same.refl H) hq) (by unfold nfT; rw [if_pos ⟨q1, q2⟩]; exact upd_same)⟩
      · have q2 : ¬ V.str x = s' := fun z => q2 (decide_eq_true z)
        have n2 : ¬ k = "alike" := by rw [q1]; decide
        refine ⟨_, rfl, rfl, _, rfl, ?_⟩
        rw [decide_eq_false (fun z => n2 (V.str.inj z))]
        refine iteF ⟨_, rfl, _, rfl, _, rfl, three, fun q hq => kq _ q (Ask.Same.made1 (Same.refl H) hq) (by unfold nfT; rw [if_neg (fun z => q2 z.2), if_neg (fun z => n2 z.1)]; exact upd_same)⟩
    · have q1 : ¬ k = "over" := fun z => q1 (decide_eq_true (congrArg V.str z))
      refine ⟨_, rfl, rfl, _, rfl, ite2 (fun q2 => ?_) (fun q2 => ?_)⟩
      · have q2 : k = "alike" := V.str.inj (of_decide_eq_true q2)
        obtain ⟨y, rfl, hy⟩ := hs1 (by rw [q2]; decide)
        refine ⟨_, rfl, m, dx, _, rfl, m1, rfl, _, rfl, m, t, ys, _, rfl, hM, nd, .inl ⟨ixOf ys x, x, rfl, (ixOf_at hx).1, fun H2 s2 => ?_⟩⟩
        refine ⟨_, rfl, m, dx, _, rfl, s2 _ _ m1, rfl, _, rfl, m, t, ys, _, rfl, hM.same s2, nd, .inl ⟨ixOf ys y, y, rfl, (ixOf_at hy).1, fun H3 s3 => ?_⟩⟩
        refine ⟨_, _, rfl, rfl, _, rfl, ite2 (fun q3 => ?_) (fun q3 => ?_)⟩
        · have q3 : (ixOf ys x : Int) < (ixOf ys y : Int) := of_decide_eq_true q3
          exact ⟨_, rfl, _, rfl, _, rfl, three, fun q hq => kq _ q (Ask.Same.made1 (s2.trans s3) hq) (by unfold nfT; rw [if_neg (fun z => q1 z.1), if_pos ⟨q2, decide_eq_true (by omega)⟩]; exact upd_same)⟩
        · have q3 : ¬ (ixOf ys x : Int) < (ixOf ys y : Int) := fun z => q3 (decide_eq_true z)
          exact ⟨_, rfl, _, rfl, _, rfl, three, fun q hq => kq _ q (Ask.Same.made1 (s2.trans s3) hq) (by unfold nfT; rw [if_neg (fun z => q1 z.1), if_neg (fun z => by have := of_decide_eq_true z.2; omega)]; exact upd_same)⟩
      · have q2 : ¬ k = "alike" := fun z => q2 (decide_eq_true (congrArg V.str z))
        exact ⟨_, rfl, _, rfl, _, rfl, three, fun q hq => kq _ q (Ask.Same.made1 (Same.refl H) hq) (by unfold nfT; rw [if_neg (fun z => q1 z.1), if_neg (fun z => q2 z.1)]; exact upd_same)⟩
end
end Ask

namespace Ask
open PySem L2
/-- what stands but at p -/
def But (p : Addr) (H H' : Hp) : Prop := ∀ b o, b ≠ p → H b = some o → H' b = some o
theorem But.same {p : Addr} {H H1 H2 : Hp} (k : But p H H1) (s : Same H1 H2) : But p H H2 := fun b o n e => s _ _ (k b o n e)
theorem But.upd {p : Addr} {H H1 : Hp} {o : HO} (k : But p H H1) : But p H (upd H1 p o) := fun b u n e => by rw [upd_ne n]; exact k b u n e
/-- what comes of a sentence: 0 the kind, 1 and 2 the letters, 3 nothing said, 4 a sentence -/
def outS (ys : List Str) (kd f s : V) : Nat := if inB KL kd = false then 0 else if inB ys f = false then 1 else if (if inB LK kd = true then isN s else inB ys s) = false then 2 else if kd = .str "alike" ∧ f = s then 3 else 4
/-- where a sentence's sides begin -/
def bgR (k : Str) : Str := if k = "still" then "new" else "found"
theorem HistAt.but {K : PySem.W.Frag} {CL CH C p dx q : Addr} {H H' : Hp} {ys : List Str} {b : Str} {rs : List Run} {fs : List (Str × V)} (h : HistAt K CL CH H q ys b rs) (k : But p H H') (hp : H p = some (.ins C dx fs)) (n1 : ∀ m c b rs, fs ≠ hf m c b rs := by intro m c b rs z; cases z) (n2 : ∀ t, fs ≠ ([("words", V.ref t)] : List (Str × V)) := by intro t z; cases z) : HistAt K CL CH H' q ys b rs := by
  obtain ⟨dx', m, t, c, ks, h1, h2, h3, h4⟩ := h
  refine ⟨dx', m, t, c, ks, k _ _ (ne_of h1 hp ?_) h1, h2.but k hp (n2 t), seqT_but h3 k hp, h4.but k hp⟩
  intro z
  injection z with z1 z2 z3
  exact n1 m c b rs z3.symm
/-- the attributes that a sentence is given -/
structure SnC (K : PySem.W.Frag) (C : Addr) : Prop where
  c : Cls K C
  a1 : NoAttr K C "letters"
  a2 : NoAttr K C "kind"
  a3 : NoAttr K C "first"
  a4 : NoAttr K C "second"
section
variable {P : Program} {w : World} {K : PySem.W.Frag} {mg : Str → Option Value} {base : Heap} {CL CB CM CH : Addr} {H : Hp} {a m t : Addr} {ys : List Str} {b : Str} {xs : List V} {rs : List Run} {Q : VK} {E : XK}
/-- History(m, b, a) is made -/
theorem hist_made (hM : Mde CL H m t ys) (hb : b = "new" ∨ b = "found") (ha : SqL K H a xs ∨ SqT K H a xs) (hR : RunsV K H xs rs) (ln : rs.length ≤ 1000) (hok : ∀ r ∈ rs, r.1 ∈ ys ∧ 1 ≤ r.2 ∧ r.2 ≤ 1000000000000000000000000000000) (lm : (joinR rs).length ≤ 400)
    {x dx : Addr} (hx : H x = none) (hdx : H dx = none) (hne : dx ≠ x) (k : ∀ H', Same H H' → HistAt K CL CH H' x ys b (joinR rs) → Q .non H') :
    spHist K CL CH [.ref x, .ref m, .str b, .ref a] (upd (upd H dx (.own x)) x (.ins CH dx [])) Q E := by
  have sm : Same H (upd (upd H dx (.own x)) x (.ins CH dx [])) := Ask.Same.made1 (Ask.Same.made1 (Same.refl H) hdx) (by rw [upd_ne hne.symm]; exact hx)
  refine ⟨x, dx, m, t, a, b, ys, xs, rs, rfl, upd_same, hM.same sm, hb, seqA_same ha sm, hR.same sm, ln, hok, lm, fun H' c ks e1 e2 e3 e4 kk => ?_⟩
  exact k H' (Same.made hx hdx fun b o e hb => kk b o hb e) ⟨dx, m, t, c, ks, e1, e2, e3, e4⟩
end
section
variable {P : Program} {w : World} {K : PySem.W.Frag} {mg : Str → Option Value} {base : Heap}
def spSen (K : PySem.W.Frag) (CL CS CK CT CN : Addr) : Sp := fun vs H Q E => ∃ (p dx m t pp : Addr) (kd f s : V) (ys : List Str), vs = [.ref p, .ref m, kd, f, s] ∧ H p = some (.ins CS dx []) ∧ Mde CL H m t ys ∧ ys.Nodup ∧ Val pp H kd ∧ Val pp H f ∧ Val pp H s ∧
  (outS ys kd f s = 0 → E (.ref CK) none H) ∧
  (∀ i : Nat, outS ys kd f s = i + 1 → i ≤ 1 → ∀ (H' : Hp) (d : Addr), Same H H' → H' d = some (.xd (fsBad [.int (i : Nat)])) → E (.ref CT) (some d) H') ∧
  (outS ys kd f s = 3 → E (.ref CN) none H) ∧
  (outS ys kd f s = 4 → ∀ (k x : Str), kd = .str k → f = .str x → k ∈ KL → x ∈ ys → (k ∉ LK → ∃ y, s = .str y ∧ y ∈ ys) → (k ∈ LK → s = .non) → ∀ (H' : Hp) (k' x' : Str) (s' : V), H' p = some (.ins CS dx [("letters", .ref m), ("kind", .str k'), ("first", .str x'), ("second", s')]) → But p H H' → nfT ys k x s = [.str k', .str x', s'] → Q .non H')
abbrev s_Sen_init : Stmt := inClass (top 52) 0
theorem sc_Sen_init : FnScope ["self", "letters", "kind", "first", "second"] ["self", "letters", "kind", "first", "second"] (defScope s_Sen_init) := ⟨rfl, rfl, rfl, by decide +kernel, rfl, by decide +kernel, by decide +kernel⟩
theorem nfT_three (ys : List Str) (k x : Str) (s : V) : ∃ a b c, nfT ys k x s = [a, b, c] := by
  unfold nfT
  split
  · exact ⟨_, _, _, rfl⟩
  · split
    · exact ⟨_, _, _, rfl⟩
    · exact ⟨_, _, _, rfl⟩
/-- what the one form is, where the parts are right -/
theorem nfT_ok {ys : List Str} {k x : Str} {s : V} (hk : k ∈ KL) (hx : x ∈ ys) (h1 : k ∉ LK → ∃ y, s = .str y ∧ y ∈ ys) (h2 : k ∈ LK → s = .non) :
    ∃ (k' x' : Str) (s' : V), nfT ys k x s = [.str k', .str x', s'] ∧ k' ∈ KL ∧ x' ∈ ys ∧ (k' ∉ LK → ∃ y, s' = .str y ∧ y ∈ ys) ∧ (k' ∈ LK → s' = .non) := by
  unfold nfT
  split
  · rename_i h
    refine ⟨"kept", x, s, rfl, by decide, hx, fun _ => ⟨x, h.2.symm, hx⟩, fun z => absurd z (by decide)⟩
  · split
    · rename_i _ h
      obtain ⟨y, rfl, hy⟩ := h1 (by rw [h.1]; decide)
      exact ⟨k, y, .str x, rfl, hk, hy, fun _ => ⟨x, rfl, hx⟩, fun z => by rw [h.1] at z; exact absurd z (by decide)⟩
    · exact ⟨k, x, s, rfl, hk, hx, h1, h2⟩
theorem joinR_small {rs : List Run} (h : rs.length ≤ 2) : (joinR rs).length ≤ 400 := by
  have := joinR_len rs
  omega
theorem ok_senInit {dvs : List V} {f fD fO fT fH CL CS CK CT CN : Addr} {fd fdD fdO fdT fdH : FuncData} (F : FunD K "__init__" "Sentence.__init__" (defArgs s_Sen_init) (defBody s_Sen_init) (defScope s_Sen_init) dvs [] f fd) (hC : SnC K CS) (Gk : GvK K mg)
    (GH : FnOk P w K mg base CX0 1 fH fdH ["self", "x"] (spHas CL)) (bH : Binds K fdH ["self", "x"] []) (hH : PySem.W.findIn K (.ref CL) "__contains__" = some (some (.ref fH))) (iH : PySem.W.isFn K (.ref fH) = true)
    (GD : FnOk P w K mg base CX0 2 fD fdD ["letters", "value", "has_letter"] (spIsDue CL)) (AD : At K mg "is_due" fD fdD ["letters", "value", "has_letter"])
    (GO : FnOk P w K mg base CX0 5 fO fdO ["letters", "kind", "first", "second"] (spForm CL)) (AO : At K mg "one_form" fO fdO ["letters", "kind", "first", "second"])
    (EK : Err0 K mg "BadKind" CK) (EN : Err0 K mg "SaysNothing" CN)
    (GT : FnOk P w K mg base CX0 2 fT fdT ["self", "index"] (spErr CT okBad fsBad)) (ET : ErrAt K mg "BadLetter" CT fT fdT ["self", "index"])  :
    FnOk P w K mg base (L2.CX P w) 7 f fd ["self", "letters", "kind", "first", "second"] (spSen K CL CS CK CT CN) := by
  refine F.ok sc_Sen_init (fun vs H Q E h => ?_) (fun cdv A outer s H vs Q E hr h => ?_)
  · obtain ⟨p, dx, m, t, pp, kd, f, s, ys, rfl, _⟩ := h
    rfl
  · obtain ⟨p, dx, m, t, pp, kd, f, s', ys, rfl, hp, hM, nd, vk, vf, vs, k0, k12, k3, k4⟩ := h
    obtain ⟨tK, uK, mK, rK, sK⟩ := Gk.kinds
    obtain ⟨tL, uL, mL, rL, sL⟩ := Gk.lone
    have hr1 := hr.mono (j := 1) (by decide)
    have hr2 := hr.mono (j := 2) (by decide)
    have hr3 := hr.mono (j := 3) (by decide)
    refine ⟨_, (pss_cons (ps_if (pt_cmpR (op_notInW (hu_of hr)) (pv 2) (pe_gv (v := .ref tK) rfl ⟨uK, mK, rK⟩) rfl) (pss_one (ps_raise rfl (takes_of rfl rfl rfl rfl) (pmk_own0 PySem.F.excBase_ValueError EK.e EK.m EK.k (raises_own EK.b EK.t) (by rfl)))) pss_nil)
      (pss_cons (ps_if (pt_cmpR (op_notInI (C := CL) (E := E0) GH hr1 bH pass0 hH iH) (pv 3) (pv 1) rfl) (pss_one (ps_raise rfl (takes_of rfl rfl rfl rfl) (pmk_oex ET.o ET.i ET.t GT hr3 ET.b .nil pass0 (by rfl) ET.m (pa_cons pe_int pa_nil)))) pss_nil)
      (pss_cons (ps_if (pt_not (pt_val (pe_call GD hr2 (by rfl) AD.m AD.k AD.b .nil pass0 (pa_cons (pv 1) (pa_cons (pv 4) (pa_cons (pe_cmpR op_notIn_seq (pv 2) (pe_gv (v := .ref tL) rfl ⟨uL, mL, rL⟩) rfl) pa_nil)))))) (pss_one (ps_raise rfl (takes_of rfl rfl rfl rfl) (pmk_oex ET.o ET.i ET.t GT hr3 ET.b .nil pass0 (by rfl) ET.m (pa_cons pe_int pa_nil)))) pss_nil)
      (pss_cons (ps_if (PW.pt (pw_and (pt_cmpR op_eq (pv 2) pe_str (nomark _)) (pw_and1 (pt_cmpR op_eq (pv 3) (pv 4) (nomark _))))) (pss_one (ps_raise rfl (takes_of rfl rfl rfl rfl) (pmk_own0 PySem.F.excBase_ValueError EN.e EN.m EN.k (raises_own EN.b EN.t) (by rfl)))) pss_nil)
      (pss_cons (ps_fld (pv 0) (pv 1) rfl)
      (pss_one (ps_asg (pe_call GO (hr.mono (by decide)) (by rfl) AO.m AO.k AO.b .nil pass0 (pa_cons (pv 1) (pa_cons (pv 2) (pa_cons (pv 3) (pa_cons (pv 4) pa_nil))))) (pg_tup rfl (pgs_cons (pg_fld (pv 0)) (pgs_cons (pg_fld (pv 0)) (pgs_cons (pg_fld (pv 0)) pgs_nil))))))))))), ?_⟩
    refine ⟨_, rfl, tK, KL, _, rfl, sK H, vk.inw KL, _, rfl, ?_⟩
    cases bk : inB KL kd with
    | false => exact iteT (k0 (by unfold outS; rw [if_pos bk]))
    | true =>
    refine iteF ?_
    obtain ⟨k, rfl, hk⟩ := inB_some bk
    obtain ⟨dm, ob, m1, _⟩ := id hM
    refine ⟨_, rfl, _, rfl, m, dm, _, rfl, m1, m, t, ys, _, _, rfl, hM, vf.inw ys, _, rfl, _, rfl, ?_⟩
    cases bf : inB ys f with
    | false => exact iteT (err_made (Same.refl H) ⟨_, rfl⟩ (by show 1 ≤ 1000; decide) (fun H' d s' e => k12 0 (by unfold outS; rw [if_neg (by rw [bk]; decide), if_pos bf]) (by decide) H' d s' e))
    | true =>
    refine iteF ?_
    obtain ⟨x, rfl, hx⟩ := inB_some bf
    refine ⟨_, rfl, _, rfl, _, rfl, tL, _, rfl, .inr (sL H), rfl, rfl, m, t, ys, s', _, _, rfl, hM, vs.inw ys, _, rfl, ?_⟩
    have isn : isN s' = decide (s' = V.non) := by
      cases s' <;> first | rfl | exact (decide_eq_false (fun z => by cases z)).symm
    have ec : (if (if true = true then !inV (V.str k) (List.map V.str LK) else inV (V.str k) (List.map V.str LK)) = true then inB ys s' else decide (s' = V.non)) = (if inB LK (.str k) = true then isN s' else inB ys s') := by
      rw [inV_str, isn, if_pos rfl]
      show (if (!decide (k ∈ LK)) = true then _ else _) = (if decide (k ∈ LK) = true then _ else _)
      by_cases l : k ∈ LK
      · rw [decide_eq_true l]; rfl
      · rw [decide_eq_false l]; rfl
    rw [ec]
    cases b2 : (if inB LK (.str k) = true then isN s' else inB ys s') with
    | false => exact iteT (err_made (Same.refl H) ⟨_, rfl⟩ (by show 1 ≤ 1000; decide) (fun H' d s' e => k12 1 (by unfold outS; rw [if_neg (by rw [bk]; decide), if_neg (by rw [bf]; decide), if_pos b2]) (by decide) H' d s' e))
    | true =>
    refine iteF ?_
    have hs1 : k ∉ LK → ∃ y, s' = .str y ∧ y ∈ ys := fun l => by
      have e : inB LK (.str k) = false := decide_eq_false l
      rw [e, if_neg Bool.false_ne_true] at b2
      exact inB_some b2
    have hs2 : k ∈ LK → s' = .non := fun l => by
      have e : inB LK (.str k) = true := decide_eq_true l
      rw [e, if_pos rfl, isn] at b2
      exact of_decide_eq_true b2
    have sc : scal (.str x) s' = true := by
      by_cases l : k ∈ LK
      · rw [hs2 l]; rfl
      · obtain ⟨y, rfl, _⟩ := hs1 l; rfl
    have o34 : outS ys (.str k) (.str x) s' = if V.str k = .str "alike" ∧ V.str x = s' then 3 else 4 := by
      unfold outS
      rw [if_neg (by rw [bk]; decide), if_neg (by rw [bf]; decide), if_neg (by rw [b2]; decide)]
    refine ⟨_, rfl, rfl, _, rfl, ?_⟩
    by_cases qa : V.str k = .str "alike"
    · rw [decide_eq_true qa]
      refine iteT ⟨_, rfl, _, rfl, sc, _, rfl, ?_⟩
      by_cases qb : V.str x = s'
      · rw [decide_eq_true qb]
        exact iteT (k3 (by rw [o34, if_pos ⟨qa, qb⟩]))
      · rw [decide_eq_false qb]
        have o4 : outS ys (.str k) (.str x) s' = 4 := by rw [o34, if_neg (fun z => qb z.2)]
        refine iteF ?_
        refine ⟨_, rfl, _, rfl, p, CS, dx, [], rfl, hp, hC.c, hC.a1, (by show 0 < 1000; decide), ?_⟩
        have p1 : upd H p (.ins CS dx (putF "letters" (.ref m) [])) p = some (.ins CS dx [("letters", .ref m)]) := upd_same
        have b1 : But p H (upd H p (.ins CS dx (putF "letters" (.ref m) []))) := But.upd fun _ _ _ e => e
        generalize upd H p (.ins CS dx (putF "letters" (.ref m) [])) = H1 at p1 b1 ⊢
        have hM1 : Mde CL H1 m t ys := hM.but b1 hp
        refine ⟨_, rfl, _, rfl, _, rfl, _, rfl, m, t, ys, k, x, s', rfl, hM1, nd, hx, hs1, hs2, fun H2 q s2 hq => ?_⟩
        obtain ⟨k', x', s2', enf, hk', hx', hs1', hs2'⟩ := nfT_ok hk hx hs1 hs2
        rw [enf] at hq
        have p2 := s2 _ _ p1
        refine ⟨q, _, rfl, SqT.of hq, rfl, _, _, rfl, _, rfl, p, CS, dx, _, rfl, p2, hC.c, hC.a2, (by show 1 < 1000; decide), _, _, rfl, _, rfl, p, CS, dx, _, rfl, upd_same, hC.c, hC.a3, (by show 2 < 1000; decide), _, _, rfl, _, rfl, p, CS, dx, _, rfl, upd_same, hC.c, hC.a4, (by show 3 < 1000; decide), rfl, ?_⟩
        exact k4 o4 k x rfl rfl hk hx hs1 hs2 _ k' x' s2' upd_same (((b1.same s2).upd.upd).upd) enf
    · rw [decide_eq_false qa]
      have o4 : outS ys (.str k) (.str x) s' = 4 := by rw [o34, if_neg (fun z => qa z.1)]
      refine iteF ?_
      refine ⟨_, rfl, _, rfl, p, CS, dx, [], rfl, hp, hC.c, hC.a1, (by show 0 < 1000; decide), ?_⟩
      have p1 : upd H p (.ins CS dx (putF "letters" (.ref m) [])) p = some (.ins CS dx [("letters", .ref m)]) := upd_same
      have b1 : But p H (upd H p (.ins CS dx (putF "letters" (.ref m) []))) := But.upd fun _ _ _ e => e
      generalize upd H p (.ins CS dx (putF "letters" (.ref m) [])) = H1 at p1 b1 ⊢
      have hM1 : Mde CL H1 m t ys := hM.but b1 hp
      refine ⟨_, rfl, _, rfl, _, rfl, _, rfl, m, t, ys, k, x, s', rfl, hM1, nd, hx, hs1, hs2, fun H2 q s2 hq => ?_⟩
      obtain ⟨k', x', s2', enf, hk', hx', hs1', hs2'⟩ := nfT_ok hk hx hs1 hs2
      rw [enf] at hq
      have p2 := s2 _ _ p1
      refine ⟨q, _, rfl, SqT.of hq, rfl, _, _, rfl, _, rfl, p, CS, dx, _, rfl, p2, hC.c, hC.a2, (by show 1 < 1000; decide), _, _, rfl, _, rfl, p, CS, dx, _, rfl, upd_same, hC.c, hC.a3, (by show 2 < 1000; decide), _, _, rfl, _, rfl, p, CS, dx, _, rfl, upd_same, hC.c, hC.a4, (by show 3 < 1000; decide), rfl, ?_⟩
      exact k4 o4 k x rfl rfl hk hx hs1 hs2 _ k' x' s2' upd_same (((b1.same s2).upd.upd).upd) enf
end
end Ask

namespace Ask
open PySem L2
theorem flat_strs (ys : List Str) : (ys.map V.str).all flatV = true := by
  rw [List.all_eq_true]
  intro y hy
  obtain ⟨z, _, rfl⟩ := List.mem_map.mp hy
  rfl
section
variable {P : Program} {w : World} {K : PySem.W.Frag} {mg : Str → Option Value} {base : Heap}
/-! ### the one form, by the law -/
def spNormal (K : PySem.W.Frag) : Sp := fun vs H Q _ => ∃ (a tr : Addr) (ys : List Str) (k x : Str) (s : V), vs = [.ref a, .ref tr] ∧ SqL K H a (ys.map V.str) ∧ H tr = some (.tup [.str k, .str x, s]) ∧ x ∈ ys ∧ (k ∉ LK → ∃ y, s = .str y ∧ y ∈ ys) ∧ (k ∈ LK → s = .non) ∧
  ∀ (H' : Hp) (q : Addr), Same H H' → H' q = some (.tup (nfT ys k x s)) → Q (.ref q) H'
abbrev s__law_normal : Stmt := top 71
theorem sc__law_normal : FnScope ["_law_letters_here", "_law_triple_here", "_law_kind", "_law_first", "_law_second"] ["_law_letters_here", "_law_triple_here"] (defScope s__law_normal) := ⟨rfl, rfl, rfl, by decide +kernel, rfl, by decide +kernel, by decide +kernel⟩
theorem ok_normal {f : Addr} {fd : FuncData} (F : Fun K "_law_normal" "_law_normal" s__law_normal f fd) : FnOk P w K mg base CX0 1 f fd ["_law_letters_here", "_law_triple_here"] (spNormal K) := by
  refine F.ok sc__law_normal (fun vs H Q E h => ?_) (fun cdv A outer s H vs Q E hr h => ?_)
  · obtain ⟨a, tr, ys, k, x, s, rfl, _⟩ := h
    rfl
  · obtain ⟨a, tr, ys, k, x, s', rfl, hS, ht, hx, hs1, hs2, kq⟩ := h
    refine ⟨_, (pss_cons (ps_asg (pv 1) (pg_tup rfl (pgs_cons (pg_name (i := 2) sc__law_normal.nd rfl (Or.inl rfl)) (pgs_cons (pg_name (i := 3) sc__law_normal.nd rfl (Or.inl rfl)) (pgs_cons (pg_name (i := 4) sc__law_normal.nd rfl (Or.inl rfl)) pgs_nil)))))
      (pss_cons (ps_if (PW.pt (pw_and (pt_cmpR op_eq (pv 2) pe_str (nomark _)) (pw_and1 (pt_cmpR op_lt (pe_bm PySem.F.plainAttrs_list PySem.F.slot_list_index PySem.F.type_list_index mt_index (pv 0) (pa_cons (pv 3) pa_nil)) (pe_bm PySem.F.plainAttrs_list PySem.F.slot_list_index PySem.F.type_list_index mt_index (pv 0) (pa_cons (pv 4) pa_nil)) (nomark _))))) (pss_one (ps_ret (pe_tup (pa_cons (pv 2) (pa_cons (pv 4) (pa_cons (pv 3) pa_nil)))))) pss_nil)
      (pss_one (ps_ret (pe_ifExp (PW.pt (pw_and (pt_cmpR op_eq (pv 2) pe_str (nomark _)) (pw_and1 (pt_cmpR op_eq (pv 3) (pv 4) (nomark _))))) (pe_tup (pa_cons pe_str (pa_cons (pv 3) (pa_cons (pv 4) pa_nil)))) (pv 1)))))), ?_⟩
    have three : (3 : Nat) ≤ sizeLine := by decide
    have sc : scal (.str x) s' = true := by
      by_cases l : k ∈ LK
      · rw [hs2 l]; rfl
      · obtain ⟨y, rfl, _⟩ := hs1 l; rfl
    have first : ∀ {z : Str}, z ∈ ys → (ys.map V.str)[ixOf ys z]? = some (.str z) ∧ eqV (.str z) (.str z) = true ∧ ∀ (m : Nat) (z' : V), m < ixOf ys z → (ys.map V.str)[m]? = some z' → eqV z' (.str z) = false := fun {z} hz => by
      obtain ⟨h1, h2⟩ := ixOf_at hz
      refine ⟨by rw [List.getElem?_map, h1]; rfl, decide_eq_true rfl, fun m z' hm e => ?_⟩
      rw [List.getElem?_map] at e
      cases e1 : ys[m]? with
      | none => rw [e1] at e; cases e
      | some y =>
        rw [e1] at e
        cases e
        exact decide_eq_false (fun q => h2 m hm (by rw [e1, q]))
    refine ⟨_, rfl, tr, _, rfl, SqT.of ht, rfl, _, _, rfl, _, _, rfl, _, _, rfl, rfl, ?_⟩
    refine ⟨_, rfl, rfl, _, rfl, ite2 (fun q1 => ?_) (fun q1 => ?_)⟩
    · have q1 : k = "alike" := V.str.inj (of_decide_eq_true q1)
      have n1 : ¬ k = "over" := by rw [q1]; decide
      obtain ⟨y, rfl, hy⟩ := hs1 (by rw [q1]; decide)
      obtain ⟨i1, i2, i3⟩ := first hx
      obtain ⟨j1, j2, j3⟩ := first hy
      refine ⟨_, rfl, .inl ⟨rfl, _, hS⟩, _, rfl, a, _, _, _, _, rfl, rfl, hS, rfl, flat_strs _, i1, i2, i3, ?_⟩
      refine ⟨_, rfl, .inl ⟨rfl, _, hS⟩, _, rfl, a, _, _, _, _, rfl, rfl, hS, rfl, flat_strs _, j1, j2, j3, ?_⟩
      refine ⟨_, _, rfl, rfl, _, rfl, ite2 (fun q3 => ?_) (fun q3 => ?_)⟩
      · have q3 : (ixOf ys x : Int) < (ixOf ys y : Int) := of_decide_eq_true q3
        exact ⟨_, rfl, _, rfl, _, rfl, three, fun q hq => kq _ q (Ask.Same.made1 (Same.refl H) hq) (by unfold nfT; rw [if_neg (fun z => n1 z.1), if_pos ⟨q1, decide_eq_true (by omega)⟩]; exact upd_same)⟩
      · have q3 : ¬ (ixOf ys x : Int) < (ixOf ys y : Int) := fun z => q3 (decide_eq_true z)
        refine ⟨_, rfl, rfl, _, rfl, ?_⟩
        rw [decide_eq_false (fun z => n1 (V.str.inj z))]
        exact iteF ⟨_, rfl, kq _ tr (Same.refl H) (by unfold nfT; rw [if_neg (fun z => n1 z.1), if_neg (fun z => by have := of_decide_eq_true z.2; omega)]; exact ht)⟩
    · have q1 : ¬ k = "alike" := fun z => q1 (decide_eq_true (congrArg V.str z))
      refine ⟨_, rfl, rfl, _, rfl, ite2 (fun q2 => ?_) (fun q2 => ?_)⟩
      · have q2 : k = "over" := V.str.inj (of_decide_eq_true q2)
        refine ⟨_, rfl, _, rfl, sc, _, rfl, ite2 (fun q3 => ?_) (fun q3 => ?_)⟩
        · have q3 := of_decide_eq_true q3
          exact ⟨_, rfl, _, rfl, three, fun q hq => kq _ q (Ask.Same.made1 (Same.refl H) hq) (by unfold nfT; rw [if_pos ⟨q2, q3⟩]; exact upd_same)⟩
        · have q3 : ¬ V.str x = s' := fun z => q3 (decide_eq_true z)
          exact ⟨_, rfl, kq _ tr (Same.refl H) (by unfold nfT; rw [if_neg (fun z => q3 z.2), if_neg (fun z => q1 z.1)]; exact ht)⟩
      · have q2 : ¬ k = "over" := fun z => q2 (decide_eq_true (congrArg V.str z))
        exact ⟨_, rfl, kq _ tr (Same.refl H) (by unfold nfT; rw [if_neg (fun z => q2 z.1), if_neg (fun z => q1 z.1)]; exact ht)⟩
/-! ### a drawn sentence -/
/-- a letter or nothing, as the kind wants it -/
def SOk (ys : List Str) (k : Str) (s : V) : Prop := (k ∉ LK → ∃ y, s = .str y ∧ y ∈ ys) ∧ (k ∈ LK → s = .non)
/-- a triple that is a sentence -/
def DrOk (ys : List Str) (k x : Str) (s : V) : Prop := k ∈ KL ∧ x ∈ ys ∧ SOk ys k s ∧ ¬ (k = "alike" ∧ V.str x = s)
theorem DrOk.lone {ys : List Str} {k x : Str} (h : k ∈ LK) (hk : k ∈ KL) (hx : x ∈ ys) : DrOk ys k x .non := ⟨hk, hx, ⟨fun z => absurd h z, fun _ => rfl⟩, fun z => by cases z.2⟩
theorem DrOk.two {ys : List Str} {k x y : Str} (h : k ∉ LK) (hk : k ∈ KL) (hx : x ∈ ys) (hy : y ∈ ys) (n : ¬ (k = "alike" ∧ x = y)) : DrOk ys k x (.str y) := ⟨hk, hx, ⟨fun _ => ⟨y, rfl, hy⟩, fun z => absurd z h⟩, fun z => n ⟨z.1, V.str.inj z.2⟩⟩
def spDrawn (K : PySem.W.Frag) : Sp := fun vs H Q _ => ∃ (p c : Addr) (ns : List Int) (B : Nat) (a : Addr) (ys : List Str), vs = [.ref p, .ref a] ∧ Pen c ns H p B ∧ B ≤ 500000000 ∧ SqL K H a (ys.map V.str) ∧ 0 < ys.length ∧ ys.length ≤ 1000 ∧
  ∀ (H' : Hp) (q : Addr) (k x : Str) (s : V), Go p c ns H H' (B + 3) → H' q = some (.tup [.str k, .str x, s]) → DrOk ys k x s → Q (.ref q) H'
abbrev s__law_drawn : Stmt := top 74
theorem sc__law_drawn : FnScope ["_law_pen_here", "_law_letters_here", "_law_way", "_law_x", "_law_y"] ["_law_pen_here", "_law_letters_here"] (defScope s__law_drawn) := ⟨rfl, rfl, rfl, by decide +kernel, rfl, by decide +kernel, by decide +kernel⟩
theorem ok_drawn {f fD fP : Addr} {fd fdD fdP : FuncData} (F : Fun K "_law_drawn" "_law_drawn" s__law_drawn f fd) (T : Blt mg)
    (GD : FnOk P w K mg base CX0 1 fD fdD ["_law_pen_here", "_law_many"] spDraw) (AD : At K mg "_law_draw" fD fdD ["_law_pen_here", "_law_many"])
    (GP : FnOk P w K mg base CX0 2 fP fdP ["_law_pen_here", "_law_options"] (spPick K)) (AP : At K mg "_law_pick" fP fdP ["_law_pen_here", "_law_options"]) :
    FnOk P w K mg base CX0 3 f fd ["_law_pen_here", "_law_letters_here"] (spDrawn K) := by
  refine F.ok sc__law_drawn (fun vs H Q E h => ?_) (fun cdv A outer s H vs Q E hr h => ?_)
  · obtain ⟨p, c, ns, B, a, ys, rfl, _⟩ := h
    rfl
  · obtain ⟨p, c, ns, B, a, ys, rfl, hpen, hB, hS, h0, h1, k⟩ := h
    have hr1 := hr.mono (j := 1) (by decide)
    refine ⟨_, (pss_cons (ps_set (i := 2) sc__law_drawn.nd rfl (Or.inl rfl) (pe_call GD hr1 (by rfl) AD.m AD.k AD.b .nil pass0 (pa_cons (pv 0) (pa_cons pe_int pa_nil))))
      (pss_cons (ps_par (i := 3) (j := 4) rfl sc__law_drawn.nd rfl rfl (by decide) rfl rfl (pa_cons (pe_call GP hr (by rfl) AP.m AP.k AP.b .nil pass0 (pa_cons (pv 0) (pa_cons (pv 1) pa_nil))) (pa_cons (pe_call GP hr (by rfl) AP.m AP.k AP.b .nil pass0 (pa_cons (pv 0) (pa_cons (pv 1) pa_nil))) pa_nil)) (by rfl))
      (pss_cons (ps_if (PW.pt (pw_or (pt_cmpR op_eq (pv 2) pe_int (nomark _)) (pw_or1 (PW.pt (pw_and (pt_cmpR op_eq (pv 2) pe_int (nomark _)) (pw_and1 (pt_cmpR op_eq (pv 3) (pv 4) (nomark _)))))))) (pss_one (ps_ret (pe_tup (pa_cons pe_str (pa_cons (pv 3) (pa_cons pe_non pa_nil)))))) pss_nil)
      (pss_cons (ps_if (pt_cmpR op_eq (pv 2) pe_int (nomark _)) (pss_one (ps_ret (pe_tup (pa_cons pe_str (pa_cons (pv 3) (pa_cons (pv 4) pa_nil)))))) pss_nil)
      (pss_cons (ps_if (pt_cmpR op_lt (pv 2) pe_int (nomark _)) (pss_one (ps_ret (pe_tup (pa_cons pe_str (pa_cons (pv 4) (pa_cons pe_non pa_nil)))))) pss_nil)
      (pss_one (ps_ret (pe_tup (pa_cons (pe_ix ix_list (pe_lst (pa_cons pe_str (pa_cons pe_str (pa_cons pe_str pa_nil)))) (pe_op op_mod (pe_callTy call_int1 (by rfl) T.n_int (by decide +kernel) (pa_cons (pe_op op_sub (pv 2) pe_int) pa_nil)) pe_int) (fun _ _ => rfl)) (pa_cons (pv 3) (pa_cons (pv 4) pa_nil))))))))))), ?_⟩
    have three : (3 : Nat) ≤ sizeLine := by decide
    refine ⟨_, rfl, p, c, ns, 16, B, rfl, hpen, by omega, by decide, by decide, fun H1 r g1 r0 r1 => ?_⟩
    refine ⟨_, rfl, _, rfl, p, c, ns, _, _, rfl, g1.pen, by omega, .inl ⟨a, _, rfl, g1.seq hS, by rw [List.length_map]; exact h0, by rw [List.length_map]; exact h1, fun H2 v g2 hv => ?_⟩⟩
    obtain ⟨x, hx, rfl⟩ := List.mem_map.mp hv
    have g12 := g1.step g2
    refine ⟨_, rfl, _, rfl, p, c, ns, _, _, rfl, g12.pen, by omega, .inl ⟨a, _, rfl, g12.seq hS, by rw [List.length_map]; exact h0, by rw [List.length_map]; exact h1, fun H3 v g3 hv => ?_⟩⟩
    obtain ⟨y, hy, rfl⟩ := List.mem_map.mp hv
    have g := g12.step g3
    clear hv g1 g2 g12 g3
    -- behind the first question
    refine ⟨_, _, rfl, ?_⟩
    refine ⟨_, rfl, rfl, _, rfl, ite2 (fun _ => ⟨_, rfl, three, fun q hq => k _ q _ _ _ ((g.new hq).mono (by omega)) upd_same (.lone (by decide) (by decide) hx)⟩) (fun q => ?_)⟩
    refine ⟨_, rfl, rfl, _, rfl, ite2 (fun q1 => ⟨_, rfl, _, rfl, rfl, _, rfl, ite2 (fun q2 => ⟨_, rfl, three, fun q hq => k _ q _ _ _ ((g.new hq).mono (by omega)) upd_same (.lone (by decide) (by decide) hx)⟩) (fun q2 => ?_)⟩) (fun q1 => ?_)⟩
    · skip
      refine ⟨_, rfl, rfl, _, rfl, ite2 (fun qa => ⟨_, rfl, _, rfl, three, fun q hq => k _ q _ _ _ ((g.new hq).mono (by omega)) upd_same (.two (by decide) (by decide) hx hy (fun w => q2 (decide_eq_true (congrArg V.str w.2))))⟩) (fun _ => ?_)⟩
      refine ⟨_, rfl, _, _, rfl, rfl, _, rfl, ite2 (fun _ => ⟨_, rfl, three, fun q hq => k _ q _ _ _ ((g.new hq).mono (by omega)) upd_same (.lone (by decide) (by decide) hy)⟩) (fun q4 => ?_)⟩
      have q4 : ¬ r < 4 := fun z => q4 (decide_eq_true z)
      refine ⟨three, fun u hu => ?_⟩
      have fu : upd H3 u (.lst [.str "kept", .str "over", .str "undone"]) u = some (.lst [.str "kept", .str "over", .str "undone"]) := upd_same
      replace g := g.new (o := .lst [.str "kept", .str "over", .str "undone"]) hu
      generalize upd H3 u (.lst [.str "kept", .str "over", .str "undone"]) = H4 at fu g ⊢
      obtain ⟨n, hn1, hn⟩ : ∃ n : Nat, (r - 4) % 3 = (n : Int) ∧ n < 3 := ⟨((r - 4) % 3).toNat, by omega, by omega⟩
      obtain ⟨z, hz, hz1, hz2, hz3⟩ : ∃ z : Str, ([V.str "kept", .str "over", .str "undone"] : List V)[n]? = some (.str z) ∧ z ∉ LK ∧ z ∈ KL ∧ z ≠ "alike" := by
        match n, hn with
        | 0, _ => exact ⟨_, rfl, by decide, by decide, by decide⟩
        | 1, _ => exact ⟨_, rfl, by decide, by decide, by decide⟩
        | 2, _ => exact ⟨_, rfl, by decide, by decide, by decide⟩
      exact ⟨_, rfl, _, _, rfl, rfl, .inl ⟨_, rfl, _, _, rfl, rfl, (by show (0:Int) < _; decide), u, _, _, _, rfl, rfl, SqL.of fu, at_by (j := n) hn1 hz, _, rfl, _, rfl, three, fun q hq => k _ q _ _ _ ((g.new hq).mono (by omega)) upd_same (.two hz1 hz2 hx hy (fun w => hz3 w.1))⟩⟩
    · skip
      refine ⟨_, rfl, rfl, _, rfl, ite2 (fun qa => absurd qa q1) (fun _ => ?_)⟩
      refine ⟨_, rfl, _, _, rfl, rfl, _, rfl, ite2 (fun _ => ⟨_, rfl, three, fun q hq => k _ q _ _ _ ((g.new hq).mono (by omega)) upd_same (.lone (by decide) (by decide) hy)⟩) (fun q4 => ?_)⟩
      have q4 : ¬ r < 4 := fun z => q4 (decide_eq_true z)
      refine ⟨three, fun u hu => ?_⟩
      have fu : upd H3 u (.lst [.str "kept", .str "over", .str "undone"]) u = some (.lst [.str "kept", .str "over", .str "undone"]) := upd_same
      replace g := g.new (o := .lst [.str "kept", .str "over", .str "undone"]) hu
      generalize upd H3 u (.lst [.str "kept", .str "over", .str "undone"]) = H4 at fu g ⊢
      obtain ⟨n, hn1, hn⟩ : ∃ n : Nat, (r - 4) % 3 = (n : Int) ∧ n < 3 := ⟨((r - 4) % 3).toNat, by omega, by omega⟩
      obtain ⟨z, hz, hz1, hz2, hz3⟩ : ∃ z : Str, ([V.str "kept", .str "over", .str "undone"] : List V)[n]? = some (.str z) ∧ z ∉ LK ∧ z ∈ KL ∧ z ≠ "alike" := by
        match n, hn with
        | 0, _ => exact ⟨_, rfl, by decide, by decide, by decide⟩
        | 1, _ => exact ⟨_, rfl, by decide, by decide, by decide⟩
        | 2, _ => exact ⟨_, rfl, by decide, by decide, by decide⟩
      exact ⟨_, rfl, _, _, rfl, rfl, .inl ⟨_, rfl, _, _, rfl, rfl, (by show (0:Int) < _; decide), u, _, _, _, rfl, rfl, SqL.of fu, at_by (j := n) hn1 hz, _, rfl, _, rfl, three, fun q hq => k _ q _ _ _ ((g.new hq).mono (by omega)) upd_same (.two hz1 hz2 hx hy (fun w => hz3 w.1))⟩⟩
end
end Ask

namespace Ask
open PySem L2
def Plain (ys : List Str) : Prop := ∀ y ∈ ys, y.length ≤ 500 ∧ Asc y
theorem SOk.cases {ys : List Str} {k : Str} {s : V} (h : SOk ys k s) : s = .non ∨ ∃ y, s = .str y ∧ y ∈ ys := by
  by_cases l : k ∈ LK
  · exact .inl (h.2 l)
  · exact .inr (h.1 l)
/-- a sentence in its one form at p -/
def SenAt (K : PySem.W.Frag) (CL CS : Addr) (H : Hp) (p : Addr) (ys : List Str) (k x : Str) (s : V) : Prop := ∃ (dx m t : Addr), H p = some (.ins CS dx [("letters", .ref m), ("kind", .str k), ("first", .str x), ("second", s)]) ∧ Mde CL H m t ys
theorem SenAt.same {K : PySem.W.Frag} {CL CS p : Addr} {H H' : Hp} {ys : List Str} {k x : Str} {s : V} (h : SenAt K CL CS H p ys k x s) (e : Same H H') : SenAt K CL CS H' p ys k x s := by
  obtain ⟨dx, m, t, h1, h2⟩ := h
  exact ⟨dx, m, t, e _ _ h1, h2.same e⟩
theorem nf_bg {ys : List Str} {k x k' x' : Str} {s s' : V} (h : nfT ys k x s = [.str k', .str x', s']) : bgR k' = bgR k := by
  unfold nfT at h
  split at h
  · rename_i q
    injection h with h1 _
    rw [← V.str.inj h1, q.1]
    rfl
  · split at h
    · injection h with h1 _
      rw [V.str.inj h1]
    · injection h with h1 _
      rw [V.str.inj h1]
section
variable {P : Program} {w : World} {K : PySem.W.Frag} {mg : Str → Option Value} {base : Heap}
/-! ### equality of sentences -/
def spSEq (K : PySem.W.Frag) (CL CS : Addr) : Sp := fun vs H Q _ => ∃ (p : Addr) (v : V) (ys : List Str) (k x : Str) (s : V), vs = [.ref p, v] ∧ SenAt K CL CS H p ys k x s ∧ SOk ys k s ∧ Plain ys ∧
  ((∃ (q : Addr) (zs : List Str) (k2 x2 : Str) (s2 : V), v = .ref q ∧ SenAt K CL CS H q zs k2 x2 s2 ∧ SOk zs k2 s2 ∧ Plain zs ∧ Q (.bl (decide (ys = zs ∧ k = k2 ∧ x = x2 ∧ s = s2))) H) ∨
    (∃ ty, TyX K H v ty ∧ PySem.W.kitOne K ty (.ref CS) = some false ∧ Q (.bl false) H))
abbrev s_SEq : Stmt := inClass (top 52) 3
theorem sc_SEq : FnScope ["self", "other"] ["self", "other"] (defScope s_SEq) := ⟨rfl, rfl, rfl, by decide +kernel, rfl, by decide +kernel, by decide +kernel⟩
theorem ok_seq {f fQ CL CS : Addr} {fd fdQ : FuncData} (F : Fun K "__eq__" "Sentence.__eq__" s_SEq f fd) (T : Blt mg) (hC : SnC K CS) (Y : XkC K CS) (mS : mg "Sentence" = some (.ref CS))
    (GQ : FnOk P w K mg base CX0 1 fQ fdQ ["self", "other"] (spEq2 CL)) (bQ : Binds K fdQ ["self", "other"] []) (hQ : PySem.W.findIn K (.ref CL) "__eq__" = some (some (.ref fQ))) (iQ : PySem.W.isFn K (.ref fQ) = true) :
    FnOk P w K mg base CX0 2 f fd ["self", "other"] (spSEq K CL CS) := by
  refine F.ok sc_SEq (fun vs H Q E h => ?_) (fun cdv A outer s H vs Q E hr h => ?_)
  · obtain ⟨p, v, ys, k, x, s, rfl, _⟩ := h
    rfl
  · obtain ⟨p, v, ys, k, x, s', rfl, ⟨dx, m, t, hp, hM⟩, so, py, h⟩ := h
    refine ⟨_, (pss_one (ps_ret (pe_and (pe_callB call_isi (by rfl) T.n_isinstance (by decide +kernel) (pa_cons (pv 1) (pa_cons (pe_gv (v := .ref CS) rfl ⟨_, mS, rfl⟩) pa_nil))) (pe_and (pe_cmpR (op_eqI (C := CL) (E := E0) GQ hr bQ pass0 hQ iQ) (pe_fld (pv 0) rfl) (pe_fld (pv 1) rfl) (nomark _)) (pe_and (pe_cmpR op_eq (pe_fld (pv 0) rfl) (pe_fld (pv 1) rfl) (nomark _)) (pe_and (pe_cmpR op_eq (pe_fld (pv 0) rfl) (pe_fld (pv 1) rfl) (nomark _)) (pe_one (pe_cmpR op_eq (pe_fld (pv 0) rfl) (pe_fld (pv 1) rfl) (nomark _))))))))), ?_⟩
    rcases h with ⟨q, zs, k2, x2, s2, rfl, ⟨dx', m', t', hq, hM'⟩, so2, pz, kq⟩ | ⟨ty, hty, hkt, kq⟩
    · have kk : PySem.W.kitOne K (.ref CS) (.ref CS) = some true := by
        unfold PySem.W.kitOne
        rw [if_pos (by simp)]
      refine ⟨_, rfl, _, _, _, _, true, rfl, .own CS, .base (.ins hq hC.c Y.ha Y.hn Y.ht Y.hm), kk, _, rfl, ite2 (fun _ => ?_) (fun q => absurd rfl q)⟩
      obtain ⟨d1, o1, e1, e2, e3⟩ := id hM
      obtain ⟨d2, o2, g1, g2, g3⟩ := id hM'
      refine ⟨_, rfl, p, CS, dx, _, _, rfl, hp, hC.c, hC.a1, rfl, _, rfl, q, CS, dx', _, _, rfl, hq, hC.c, hC.a1, rfl, m, m', d1, d2, _, _, rfl, rfl, e1, g1, m, t, m', t', ys, zs, rfl, hM, hM', py, pz, _, rfl, _, rfl, ?_⟩
      rw [eqv_strs]
      by_cases e1 : ys = zs
      case neg =>
        rw [decide_eq_false (fun z => e1 z.1)] at kq
        rw [decide_eq_false e1]
        exact iteF kq
      rw [decide_eq_true e1]
      refine iteT ⟨_, rfl, p, CS, dx, _, _, rfl, hp, hC.c, hC.a2, rfl, _, rfl, q, CS, dx', _, _, rfl, hq, hC.c, hC.a2, rfl, rfl, _, rfl, ?_⟩
      by_cases e2 : k = k2
      case neg =>
        rw [decide_eq_false (fun z => e2 z.2.1)] at kq
        rw [decide_eq_false (fun z => e2 (V.str.inj z))]
        exact iteF kq
      rw [decide_eq_true (congrArg V.str e2)]
      refine iteT ⟨_, rfl, p, CS, dx, _, _, rfl, hp, hC.c, hC.a3, rfl, _, rfl, q, CS, dx', _, _, rfl, hq, hC.c, hC.a3, rfl, rfl, _, rfl, ?_⟩
      by_cases e3 : x = x2
      case neg =>
        rw [decide_eq_false (fun z => e3 z.2.2.1)] at kq
        rw [decide_eq_false (fun z => e3 (V.str.inj z))]
        exact iteF kq
      rw [decide_eq_true (congrArg V.str e3)]
      have sc : scal s' s2 = true := by
        rcases so.cases with rfl | ⟨y, rfl, _⟩ <;> rcases so2.cases with rfl | ⟨z, rfl, _⟩ <;> rfl
      refine iteT ⟨_, rfl, p, CS, dx, _, _, rfl, hp, hC.c, hC.a4, rfl, _, rfl, q, CS, dx', _, _, rfl, hq, hC.c, hC.a4, rfl, sc, ?_⟩
      have e : decide (s' = s2) = decide (ys = zs ∧ k = k2 ∧ x = x2 ∧ s' = s2) := by
        by_cases q : s' = s2
        · rw [decide_eq_true q, decide_eq_true ⟨e1, e2, e3, q⟩]
        · rw [decide_eq_false q, decide_eq_false (fun z => q z.2.2.2)]
      rw [e]
      exact kq
    · exact ⟨_, rfl, _, _, _, _, false, rfl, .own CS, hty, hkt, _, rfl, iteF kq⟩
end
end Ask

namespace Ask
open PySem L2
/-- what is not None -/
def noN (xs : List V) : List V := xs.filter fun v => !decide (v = V.non)
theorem noN_more {xs : List V} {i : Nat} {v : V} (h : xs[i]? = some v) : noN (xs.take (i + 1)) = noN (xs.take i) ++ (if (!decide (v = V.non)) = true then [v] else []) := by
  unfold noN
  rw [List.take_add_one, h, List.filter_append, Option.toList_some, List.filter_cons, List.filter_nil]
theorem noN_len (xs : List V) (i : Nat) : (noN (xs.take i)).length ≤ xs.length := by
  unfold noN
  refine Nat.le_trans (List.length_filter_le _ _) ?_
  rw [List.length_take]
  omega
/-- the words of a sentence -/
def wordsS (k x : Str) : V → List Str
  | .str y => [k, x, y]
  | _ => [k, x]
theorem noN_words {k x : Str} {s : V} (h : s = .non ∨ ∃ y, s = .str y) : noN [.str k, .str x, s] = (wordsS k x s).map V.str := by
  have e : ∀ z : Str, (!decide (V.str z = V.non)) = true := fun z => by rw [decide_eq_false (fun q => by cases q)]; rfl
  unfold noN
  rw [List.filter_cons, if_pos (e k), List.filter_cons, if_pos (e x)]
  rcases h with rfl | ⟨y, rfl⟩
  · rw [List.filter_cons, if_neg (by rw [decide_eq_true rfl]; exact Bool.false_ne_true)]
    rfl
  · rw [List.filter_cons, if_pos (e y)]
    rfl
theorem words_size {k x : Str} {s : V} (h : ∀ z ∈ wordsS k x s, z.length ≤ 500) (d : Nat) (hd : d ≤ 10) : ((wordsS k x s).map (·.length)).sum + (wordsS k x s).length * d ≤ 16777216 := by
  cases s <;> first
    | (have a := h k (List.mem_cons_self ..); have b := h x (List.mem_cons_of_mem _ (List.mem_cons_self ..)); show (k.length + (x.length + 0)) + 2 * d ≤ 16777216; omega)
    | (rename_i y; have a := h k (List.mem_cons_self ..); have b := h x (List.mem_cons_of_mem _ (List.mem_cons_self ..)); have c := h y (List.mem_cons_of_mem _ (List.mem_cons_of_mem _ (List.mem_cons_self ..))); show (k.length + (x.length + (y.length + 0))) + 3 * d ≤ 16777216; omega)
section
variable {P : Program} {w : World} {K : PySem.W.Frag} {mg : Str → Option Value} {base : Heap}
/-! ### Sentence.__str__ -/
def spStr (CS : Addr) : Sp := fun vs H Q _ => ∃ (p dx : Addr) (fs : List (Str × V)) (k x : Str) (s : V), vs = [.ref p] ∧ H p = some (.ins CS dx fs) ∧ fs.lookup ("kind" : Str) = some (.str k) ∧ fs.lookup ("first" : Str) = some (.str x) ∧ fs.lookup ("second" : Str) = some s ∧ (s = .non ∨ ∃ y, s = .str y) ∧
  (∀ z ∈ wordsS k x s, z.length ≤ 500) ∧ ∀ H', Same H H' → Q (.str (Txt.join " " (wordsS k x s))) H'
abbrev s_Str : Stmt := inClass (top 52) 4
theorem sc_Str : FnScope ["self", "word"] ["self"] (defScope s_Str) := ⟨rfl, rfl, rfl, by decide +kernel, rfl, by decide +kernel, by decide +kernel⟩
theorem ok_str {f CS : Addr} {fd : FuncData} (F : Fun K "__str__" "Sentence.__str__" s_Str f fd) (hC : SnC K CS) : FnOk P w K mg base CX0 1 f fd ["self"] (spStr CS) := by
  refine F.ok sc_Str (fun vs H Q E h => ?_) (fun cdv A outer s H vs Q E hr h => ?_)
  · obtain ⟨p, dx, fs, k, x, s, rfl, _⟩ := h
    rfl
  · obtain ⟨p, dx, fs, k, x, s', rfl, hp, l1, l2, l3, hs, hz, kq⟩ := h
    refine ⟨_, (pss_one (ps_ret (pe_join pe_str (pe_lc (own := [("word", 1)]) rfl sc_Str.nd (pi_tup (pe_tup (pa_cons (pe_fld (pv 0) rfl) (pa_cons (pe_fld (pv 0) rfl) (pa_cons (pe_fld (pv 0) rfl) pa_nil))))) (blkOk_by (N := ["self", "word"]) (sc := defScope s_Str) (by decide +kernel)) (fun _ _ _ _ _ => (pg_name (i := 1) sc_Str.nd rfl (Or.inl rfl))) (fun _ _ _ _ _ => pts_one (pt_cmpR (show OpR _ _ (fun x y H Q => y = .non ∧ Q (.bl (!decide (x = .non))) H) from op_notN) (pv 1) pe_non (nomark _))) (fun _ _ _ _ _ => (pv 1)))))), ?_⟩
    refine ⟨⟨_, rfl⟩, _, rfl, p, CS, dx, fs, _, rfl, hp, hC.c, hC.a2, l1, _, rfl, p, CS, dx, fs, _, rfl, hp, hC.c, hC.a3, l2, _, rfl, p, CS, dx, fs, _, rfl, hp, hC.c, hC.a4, l3, by show 3 ≤ sizeLine; decide, fun t ht => ⟨t, rfl, ⟨_, SqT.of upd_same⟩, fun L hL => ?_⟩⟩
    have s1 := Ask.Same.made1 (o := .tup [.str k, .str x, s']) (Same.refl H) ht
    have f1 : upd H t (.tup [.str k, .str x, s']) t = some (.tup [.str k, .str x, s']) := upd_same
    generalize upd H t (.tup [.str k, .str x, s']) = H1 at s1 f1 hL ⊢
    refine lc_it (walk_tup (xs := [.str k, .str x, s'])) (fun i H' => Same H1 H' ∧ H' L = some (.lst (noN (([.str k, .str x, s'] : List V).take i)))) ⟨Ask.Same.upd_new (Same.refl _) hL, upd_same⟩ (fun i H' _ hh => seqT_same hh.1 (SqT.of f1)) ?_ ?_
    · rintro i v H2 H3 hi ⟨s2, hL2⟩ ⟨rfl, hv⟩
      refine ⟨rfl, _, rfl, rfl, _, rfl, ?_⟩
      have e := noN_more hv
      have n := noN_len [.str k, .str x, s'] i
      have z1 : (1000 : Nat) ≤ sizeLine := by decide
      have n3 : ([.str k, .str x, s'] : List V).length = 3 := rfl
      refine ite2 (fun q => ?_) (fun q => ?_)
      · rw [if_pos q] at e
        exact ⟨_, rfl, _, hL2, by omega, Ask.Same.upd_new s2 hL, by rw [upd_same, e]⟩
      · rw [if_neg q, List.append_nil] at e
        exact ⟨s2, by rw [e]; exact hL2⟩
    · rintro H2 ⟨s2, hL2⟩
      have e : noN (([.str k, .str x, s'] : List V).take 3) = (wordsS k x s').map V.str := noN_words hs
      refine ⟨_, L, wordsS k x s', rfl, rfl, .inl (SqL.of (by rw [← e]; exact hL2)), words_size hz 1 (by decide), kq H2 (s1.trans s2)⟩
end
end Ask

namespace Ask
open PySem L2
theorem let_made {CL CB CM : Addr} {K : PySem.W.Frag} {H : Hp} {a : Addr} {ys : List Str} {Q : VK} {E : XK} (lts : Lts ys) (ha : SqL K H a (ys.map V.str) ∨ SqT K H a (ys.map V.str)) {x dx : Addr} (hx : H x = none) (hdx : H dx = none) (hne : dx ≠ x) (k : ∀ (H' : Hp) (t : Addr), Same H H' → Mde CL H' x t ys → Q .non H') :
    spLet K CL CB CM [.ref x, .ref a] (upd (upd H dx (.own x)) x (.ins CL dx [])) Q E := by
  have sm : Same H (upd (upd H dx (.own x)) x (.ins CL dx [])) := Ask.Same.made1 (Ask.Same.made1 (Same.refl H) hdx) (by rw [upd_ne hne.symm]; exact hx)
  refine ⟨x, dx, a, _, _, (fun _ => True), rfl, upd_same, seqA_same ha sm, itl_strs lts.fit, (by rw [List.length_map]; have := lts.l1; omega), fun _ _ _ e => ?_, fun _ _ e => ?_, fun H5 t o5 _ ho e1 e2 kk => ?_⟩
  · rw [lts.res] at e
    cases e
  · rw [List.length_map] at e
    have := lts.l1
    omega
  · exact k H5 t (Same.made hx hdx fun b o e hb => kk b o hb e) ⟨dx, o5, e1, e2, ho⟩
theorem DrOk.out {ys : List Str} {k x : Str} {s : V} (h : DrOk ys k x s) : outS ys (.str k) (.str x) s = 4 := by
  obtain ⟨hk, hx, so, n⟩ := h
  have b2 : (if inB LK (.str k) = true then isN s else inB ys s) = true := by
    by_cases l : k ∈ LK
    · rw [if_pos (show inB LK (.str k) = true from decide_eq_true l), so.2 l]
      rfl
    · rw [if_neg (show ¬ inB LK (.str k) = true from fun z => l (of_decide_eq_true z))]
      obtain ⟨y, rfl, hy⟩ := so.1 l
      exact decide_eq_true hy
  unfold outS
  rw [if_neg (by rw [show inB KL (.str k) = true from decide_eq_true hk]; decide), if_neg (by rw [show inB ys (.str x) = true from decide_eq_true hx]; decide), if_neg (by rw [b2]; decide), if_neg (fun z => n ⟨V.str.inj z.1, z.2⟩)]
theorem DrOk.flat {ys : List Str} {k x : Str} {s : V} (h : DrOk ys k x s) : flatV s = true := by
  rcases h.2.2.1.cases with rfl | ⟨y, rfl, _⟩ <;> rfl
theorem DrOk.mono {ys zs : List Str} {k x : Str} {s : V} (h : DrOk ys k x s) (m : ∀ y ∈ ys, y ∈ zs) : DrOk zs k x s :=
  ⟨h.1, m _ h.2.1, ⟨fun l => let ⟨y, e, hy⟩ := h.2.2.1.1 l; ⟨y, e, m _ hy⟩, h.2.2.1.2⟩, h.2.2.2⟩
/-- the one form is one, too -/
theorem DrOk.nf {ys : List Str} {k x : Str} {s : V} (h : DrOk ys k x s) : ∃ (k' x' : Str) (s' : V), nfT ys k x s = [.str k', .str x', s'] ∧ k' ∈ KL ∧ x' ∈ ys ∧ SOk ys k' s' := by
  obtain ⟨k', x', s', e, a, b, c, d⟩ := nfT_ok h.1 h.2.1 h.2.2.1.1 h.2.2.1.2
  exact ⟨k', x', s', e, a, b, c, d⟩
section
variable {P : Program} {w : World} {K : PySem.W.Frag} {mg : Str → Option Value} {base : Heap}
/-- Sentence(m, k, x, s) is made -/
theorem sen_made {CL CS CK CT CN : Addr} {H : Hp} {m t pp : Addr} {ys : List Str} {k x : Str} {s : V} {Q : VK} {E : XK} (hM : Mde CL H m t ys) (nd : ys.Nodup) (dr : DrOk ys k x s) {p dx : Addr} (hp : H p = none) (hdx : H dx = none) (hne : dx ≠ p)
    (kq : ∀ (H' : Hp) (k' x' : Str) (s' : V), Same H H' → nfT ys k x s = [.str k', .str x', s'] → SenAt K CL CS H' p ys k' x' s' → Q .non H') :
    spSen K CL CS CK CT CN [.ref p, .ref m, .str k, .str x, s] (upd (upd H dx (.own p)) p (.ins CS dx [])) Q E := by
  have sm : Same H (upd (upd H dx (.own p)) p (.ins CS dx [])) := Ask.Same.made1 (Ask.Same.made1 (Same.refl H) hdx) (by rw [upd_ne hne.symm]; exact hp)
  have o := dr.out
  refine ⟨p, dx, m, t, m, .str k, .str x, s, ys, rfl, upd_same, hM.same sm, nd, .inl rfl, .inl rfl, .inl dr.flat, fun z => absurd (o.symm.trans z) (by decide), fun j z hj H' d sd e => absurd (o.symm.trans z) (by omega), fun z => absurd (o.symm.trans z) (by decide), fun _ k0 x0 ek ex hk hx h1 h2 H' k' x' s' hp' kk enf => ?_⟩
  cases ek
  cases ex
  have s1 : Same H H' := Same.made hp hdx fun b o e hb => kk b o hb e
  exact kq H' k' x' s' s1 enf ⟨dx, m, t, hp', hM.same s1⟩
/-! ### the program's sentence of a triple -/
def spSent (K : PySem.W.Frag) (CL CS : Addr) : Sp := fun vs H Q _ => ∃ (a tr : Addr) (ys : List Str) (k x : Str) (s : V), vs = [.ref a, .ref tr] ∧ SqL K H a (ys.map V.str) ∧ Lts ys ∧ H tr = some (.tup [.str k, .str x, s]) ∧ DrOk ys k x s ∧
  ∀ (H' : Hp) (p : Addr) (k' x' : Str) (s' : V), Same H H' → nfT ys k x s = [.str k', .str x', s'] → SenAt K CL CS H' p ys k' x' s' → Q (.ref p) H'
abbrev s__law_sentence : Stmt := top 73
theorem sc__law_sentence : FnScope ["_law_letters_here", "_law_triple_here", "_law_kind", "_law_first", "_law_second"] ["_law_letters_here", "_law_triple_here"] (defScope s__law_sentence) := ⟨rfl, rfl, rfl, by decide +kernel, rfl, by decide +kernel, by decide +kernel⟩
theorem ok_sent {f fL fS CL CS CE CM CK CT CN : Addr} {fd fdL fdS : FuncData} {uD : Value} (F : Fun K "_law_sentence" "_law_sentence" s__law_sentence f fd)
    (ML : Mk K CL fL) (mL : mg "Letters" = some (.ref CL)) (bL : Binds K fdL ["self", "words"] []) (GL : FnOk P w K mg base (L2.CX P w) 4 fL fdL ["self", "words"] (spLet K CL CE CM))
    (MS : Mk K CS fS) (mS : mg "Sentence" = some (.ref CS)) (bS : Binds K fdS ["self", "letters", "kind", "first", "second"] []) (bS0 : Binds K fdS ["self", "letters", "kind", "first", "second"] [uD]) (ru : RelV .non uD) (GS : FnOk P w K mg base (L2.CX P w) 7 fS fdS ["self", "letters", "kind", "first", "second"] (spSen K CL CS CK CT CN)) :
    FnOk P w K mg base CX0 9 f fd ["_law_letters_here", "_law_triple_here"] (spSent K CL CS) := by
  refine F.ok sc__law_sentence (fun vs H Q E h => ?_) (fun cdv A outer s H vs Q E hr h => ?_)
  · obtain ⟨a, tr, ys, k, x, s, rfl, _⟩ := h
    rfl
  · obtain ⟨a, tr, ys, k, x, s', rfl, hS, lts, ht, dr, kq⟩ := h
    have hr5 := hr.mono (j := 5) (by decide)
    refine ⟨_, (pss_cons (ps_asg (pv 1) (pg_tup rfl (pgs_cons (pg_name (i := 2) sc__law_sentence.nd rfl (Or.inl rfl)) (pgs_cons (pg_name (i := 3) sc__law_sentence.nd rfl (Or.inl rfl)) (pgs_cons (pg_name (i := 4) sc__law_sentence.nd rfl (Or.inl rfl)) pgs_nil)))))
      (pss_cons (ps_if (pt_cmpR op_isN (pv 4) pe_non (nomark _)) (pss_one (ps_ret (pe_make MS GS hr (by rfl) mS bS0 (.cons ru .nil) passE (pa_cons (pe_make ML GL hr5 (by rfl) mL bL .nil passE (pa_cons (pv 0) pa_nil)) (pa_cons (pv 2) (pa_cons (pv 3) pa_nil)))))) pss_nil)
      (pss_one (ps_ret (pe_make MS GS hr (by rfl) mS bS .nil passE (pa_cons (pe_make ML GL hr5 (by rfl) mL bL .nil passE (pa_cons (pv 0) pa_nil)) (pa_cons (pv 2) (pa_cons (pv 3) (pa_cons (pv 4) pa_nil))))))))), ?_⟩
    refine ⟨_, rfl, tr, _, rfl, SqT.of ht, rfl, _, _, rfl, _, _, rfl, _, _, rfl, rfl, ?_⟩
    refine ⟨_, rfl, rfl, _, rfl, ite2 (fun q => ?_) (fun q => ?_)⟩
    · have q := of_decide_eq_true q
      subst q
      exact ⟨_, rfl, fun m md hm hmd hne => let_made lts (.inl hS) hm hmd hne fun H1 t s1 hM => ⟨rfl, _, rfl, _, rfl, fun p pd hp hpd hnp => sen_made (pp := m) hM lts.nd dr hp hpd hnp fun H2 k' x' s2 sm enf hs => ⟨rfl, kq H2 p k' x' s2 (s1.trans sm) enf hs⟩⟩⟩
    · exact ⟨_, rfl, fun m md hm hmd hne => let_made lts (.inl hS) hm hmd hne fun H1 t s1 hM => ⟨rfl, _, rfl, _, rfl, _, rfl, fun p pd hp hpd hnp => sen_made (pp := m) hM lts.nd dr hp hpd hnp fun H2 k' x' s2 sm enf hs => ⟨rfl, kq H2 p k' x' s2 (s1.trans sm) enf hs⟩⟩⟩
/-! ### the letters of the sides -/
end
end Ask

/-! defs that are called where no repr is under way; repr of any data -/
namespace Ask
open PySem L2 PySem.Spec PyProof.Rows
structure FnG (P : Program) (w : World) (K : PySem.W.Frag) (mg : Str → Option Value) (base : Heap) (CX : CXT) (k : Nat) (f : Addr) (fd : FuncData) (ps : List Str) (sp : Sp) : Prop where
  long : ∀ xs J R Z, sp xs J R Z → xs.length = ps.length
  goes : ∀ (A : Around) (out : List Env) (s : Shared) (J : Hp) (args : Args) (us : List Value) (xs : List V) (R : VK) (Z : XK), A.guards = some [] → Room k A → Env0 P w K mg base A out s J → BindsTo s fd args (ps.zip us) → Vals xs us → sp xs J R Z →
    codeAny (model P w) A (.call (.ref f) args) (CR CX out P w J s R Z) s
theorem FnG.mk0 {P : Program} {w : World} {K : PySem.W.Frag} {mg : Str → Option Value} {base : Heap} {CX : CXT} {k : Nat} {f : Addr} {x qual : Str} {st : Stmt} {fd : FuncData} {N ps : List Str} {sp : Sp} (F : Fun K x qual st f fd) (S : FnScope N ps (defScope st)) (ln : ∀ xs J R Z, sp xs J R Z → xs.length = ps.length)
    (hb : ∀ (cdv : Value) (A : Around) (out : List Env) (s : Shared) (J : Hp) (xs : List V) (R : VK) (Z : XK), A.guards = some [] → Room k (A.deeper (envOfC qual (defScope st) s.heap.objs.size f cdv)) → sp xs J R Z →
      ∃ t, PSs (cxOf CX P w K mg base N qual (defScope st) f cdv A out s J Z) (defBody st) t ∧ t { nx := fun _ H' => R .non H', rt := R } (start N xs) J) : FnG P w K mg base CX (k + 1) f fd ps sp :=
  ⟨ln, fun A out s J args us xs R Z hg hr e0 bd r q => fn_run F S hr e0 bd r (ln _ _ _ _ q) fun cdv hr' => hb cdv A out s J xs R Z hg hr' q⟩
theorem run_fnG {X : Cx} {CX : CXT} {k : Nat} {f : Addr} {fd : FuncData} {ps : List Str} {sp : Sp} {Z : XK} {pins : List (Addr × Obj)} {σ : L2.St} {J : Hp} {s : Shared} {R : VK} {us : List Value} {xs : List V} (F : FnG X.prog X.w X.K X.mg X.base CX k f fd ps sp) (hg : X.A.guards = some []) (hr : Room k X.A)
    (hb : Binds X.K fd ps []) (hx : Passes CX X Z) (I : Inv X pins σ J s) (r : Vals xs us) (q : sp xs J R Z) : wpAny (model X.prog X.w) X.A (call (.ref f) us) (EP X pins σ R) X.xe s := by
  have ul : us.length = ps.length := r.length.symm.trans (F.long _ _ _ _ q)
  have bd := hb s us I.kIn ((List.append_nil us).symm ▸ ul)
  rw [List.append_nil] at bd
  refine wpAny_call (codeAny_mono (F.goes X.A X.stack s J ⟨us, []⟩ us xs R Z hg hr I.env0 bd r q) fun got s' z => ?_)
  rcases got with e | fl
  · exact hx pins σ J s e s' I z
  · cases fl <;> first | exact I.after z | exact False.elim z
theorem pe_callG {X : Cx} {CX : CXT} {k : Nat} {f : Addr} {fd : FuncData} {ps : List Str} {sp : Sp} {Z : XK} {x : Str} {p pos : Pos} {e : Expr} {es : List Expr} {t : TA} (F : FnG X.prog X.w X.K X.mg X.base CX k f fd ps sp) (hG : X.A.guards = some []) (hr : Room k X.A) (hg : Gl X x) (hm : X.mg x = some (.ref f))
    (hk : PySem.W.keepIn X.K (.ref f) = true) (hb : Binds X.K fd ps []) (hx : Passes CX X Z) (ha : PA X (e :: es) t) (hdb : (x == ("__debug__" : Str)) = false := by decide) (he : starEach (e :: es) X.env = (false, eval e X.env) :: starEach es X.env := by rfl) (hpl : (backTo pos (starEach es X.env)).any (·.1) = false := by rfl) :
    PE X (.Call (.Name x p) (e :: es) [] pos) (fun σ J R => t σ J fun xs J1 => sp xs J1 R Z) := by
  constructor
  intro pins s σ J R I q
  refine wpAny_Call_Name_kw (ld_glob I hg hm ?_ hdb)
  exact PySem.W.callWith_K (h₀ := X.base) I.ok.mod.kin hk (thn (ha.run pos pins s σ J _ I q) fun us s1 ⟨xs, J1, I1, r, z⟩ => ⟨I1.kIn, run_fnG F hG hr hb hx I1 r z⟩) he hpl
/-- repr of data of any kind -/
def rReprV (K : PySem.W.Frag) : List V → Hp → VK → Prop := fun xs J R => ∃ (x : V) (d : PyData), xs = [x] ∧ Dp K J x d ∧ d.showable = true ∧ d.hasDict = false ∧ d.depth ≤ 30 ∧ d.shown.length ≤ sizeLine ∧ R (.str d.shown) J
theorem call_reprV {X : Cx} (hg : X.A.guards = some []) (hu : X.A.units + 64 < cLine) : CallR X (.builtin "repr") (rReprV X.K) := by
  intro pins s σ J xs us R I r h
  obtain ⟨x, d, rfl, hd, sh, nd, dp, sz, q⟩ := h
  have lst : ∀ a, x = .ref a → wpAny (model X.prog X.w) X.A (call (.builtin "repr") us) (EP X pins σ R) X.xe s := fun a e => by
    subst e
    exact call_reprD hg hu pins s σ J _ us R I r ⟨a, d, rfl, hd, sh, nd, dp, sz, q⟩
  obtain ⟨u, rfl, ra⟩ := vals1 r
  cases hd with
  | non =>
    obtain rfl : u = Value.none := ra
    exact P.repr_of_none ⟨.str _, J, I.tok _, ⟨_, rfl⟩, by simpa only [PyData.shown] using q⟩
  | bl b =>
    obtain rfl : u = Value.bool b := ra
    exact P.repr_of_bool ⟨.str _, J, I.tok _, ⟨_, rfl⟩, by simpa only [PyData.shown] using q⟩
  | int i =>
    obtain ⟨t, rfl⟩ := ra
    exact P.repr_of_int (of_decide_eq_true (by simpa only [PyData.showable] using sh)) ⟨.str _, J, I.tok _, ⟨_, rfl⟩, by simpa only [PyData.shown] using q⟩
  | str z =>
    obtain ⟨t, rfl⟩ := ra
    exact P.repr_of_str ⟨.str _, J, I.tok _, ⟨_, rfl⟩, by simpa only [PyData.shown] using q⟩ (by simpa only [PyData.shown] using sz)
  | lst h1 h2 => exact lst _ rfl
  | tup h1 h2 => exact lst _ rfl
end Ask

/-! the law's call from the outside with tables of code objects, where it is known that no repr is under way -/
namespace Ask
open PySem L2 PySem.Spec PyProof.Rows
/-- what may be tracked at first: the script's cell, the tables -/
def Few0 (K : PySem.W.Frag) (a : Addr) (cs : List (Addr × Addr)) (H : Hp) : Prop := ∀ b u, H b = some u → (b = a ∧ K.lookup a = none ∧ ∃ o xs, u = .frz o (.lst xs)) ∨ (∃ p ∈ cs, p.2 = b) ∧ u = .tbl #[]
theorem law_atT {P : Program} {w : World} {K : PySem.W.Frag} {mg mb : Str → Option Value} {fa a : Addr} {cs : List (Addr × Addr)} {s₁ : Shared} {vs : List Value} {ns : List Int}
    (inK : K.In s₁.heap) (gl : s₁.heap.Ns mainGlobals mg) (bl : s₁.heap.Ns builtinsNs mb) (bt : ∀ x : Str, x ≠ "__name__" → mb x = bootBuiltins x) (lim : s₁.heap.NoLimit) (gs : s₁.gens = #[])
    (tabs : ∀ p ∈ cs, s₁.heap.get? p.2 = some { cls := .none, data := .fields #[] } ∧ K.lookup p.2 = none ∧ PySem.W.CodeHd s₁.heap p.1 p.2)
    (bmn : ∃ (bm : Addr) (ob : Obj), mg "__builtins__" = some (.ref bm) ∧ bm ≠ builtinsNs ∧ s₁.heap.get? bm = some ob ∧ ob.cls = .type "module" ∧ ob.dict = some builtinsNs ∧ ob.data = .plain)
    (ha : s₁.heap.get? a = some { cls := .type "list", data := .seq vs.toArray }) (hi : IntsAre vs ns) (hl : ns.length ≤ sizeLine)
    (run : ∀ (base : Heap) (H : Hp), K.In base → base.Ns mainGlobals mg → (∀ p ∈ cs, LamX.TabB base mg p.1 p.2) → (∀ p ∈ cs, H p.2 = some (.tbl #[])) → Env0 P w K mg base callerA [] s₁ H → SqL K H a (ns.map V.int) →
      codeAny (model P w) callerA (.call (.ref fa) ⟨[.ref a], []⟩) (CR CX0 [] P w H s₁ (fun v _ => v = .bl true) E0) s₁) :
    codeAny (model P w) callerA (.call (.ref fa) ⟨[.ref a], []⟩) (fun r s' => r = .ok (.ret (.bool true)) ∧ OldK s₁.heap s'.heap ∧ s'.os = s₁.os ∧ AllBare s'.gens) s₁ := by
  have nums : Vals (ns.map V.int) vs := vals_ints hi
  have noCell : ∀ p ∈ cs, p.2 ≠ a := fun p hp z => by
    have q := (tabs p hp).1
    rw [z, ha] at q
    have q' : Data.seq vs.toArray _ = Data.fields #[] := congrArg Obj.data (Option.some.inj q)
    cases q'
  have from_ : ∀ H : Hp, Few0 K a cs H → (∀ p ∈ cs, H p.2 = some (.tbl #[])) → SqL K H a (ns.map V.int) → HOk P w H s₁.heap →
      codeAny (model P w) callerA (.call (.ref fa) ⟨[.ref a], []⟩) (fun r s' => r = .ok (.ret (.bool true)) ∧ OldK s₁.heap s'.heap ∧ s'.os = s₁.os ∧ AllBare s'.gens) s₁ := by
    intro H few at_ sq ok
    -- what is neither a list nor bare fields is not tracked
    have off : ∀ {b : Addr} {o : Obj}, s₁.heap.get? b = some o → (∀ x n, o.data = .seq x n → False) → (o.data = .fields #[] → False) → (hidT s₁.heap H).get? b = some o := fun {b o} e n1 n2 => hidT_get e (by
      cases q : H b with
      | none => rfl
      | some u =>
        rcases few b u q with ⟨rfl, _⟩ | ⟨⟨p, hp, rfl⟩, _⟩
        · rw [ha] at e
          cases e
          exact (n1 _ _ rfl).elim
        · rw [(tabs p hp).1] at e
          cases e
          exact (n2 rfl).elim)
    have offD : ∀ {b : Addr} {o : Obj} {es : Array DictEntry} {ep : Nat}, s₁.heap.get? b = some o → o.data = .dict es ep → (hidT s₁.heap H).get? b = some o := fun {b o es ep} e d => off e (fun x n z => by rw [d] at z; cases z) (fun z => by rw [d] at z; cases z)
    have nsB : ∀ {b : Addr} {m : Str → Option Value}, s₁.heap.Ns b m → (hidT s₁.heap H).Ns b m := fun {b m} ⟨o, es, ep, e, dd, z⟩ => ⟨o, es, ep, offD e dd, dd, z⟩
    have kB : K.In (hidT s₁.heap H) := fun b o e => hidT_get (inK b o e) (by
      cases q : H b with
      | none => rfl
      | some u =>
        rcases few b u q with ⟨rfl, no, _⟩ | ⟨⟨p, hp, rfl⟩, _⟩
        · rw [no] at e
          cases e
        · rw [(tabs p hp).2.1] at e
          cases e)
    have isG : ∀ b, s₁.heap.get? b = some { cls := .none, data := .fields #[] } → mainGlobals ≠ b := fun b eb z => by
      obtain ⟨o, es, ep, e, dd, _⟩ := gl
      rw [z, eb] at e
      cases e
      cases dd
    have tb : ∀ p ∈ cs, LamX.TabB (hidT s₁.heap H) mg p.1 p.2 := fun p hp => by
      obtain ⟨eT, _, o, us, file, tf, flags, tg, inF, text, tt, e1, r1, r2, r3, rr⟩ := tabs p hp
      obtain ⟨bm, ob, b1, b2, b3, b4, b5, b6⟩ := bmn
      have obm : ob ≠ { cls := .none, data := .fields #[] } := fun z => by rw [z] at b6; cases b6
      refine ⟨⟨o, us, file, tf, flags, tg, inF, text, tt, off e1 (fun x n z => by rw [r2] at z; cases z) (fun z => ?_), r1, r2, r3, rr⟩, ⟨bm, ob, b1, b2, fun z => ?_, fun z => ?_, off b3 (fun x n z => by rw [b6] at z; cases z) (fun z => by rw [b6] at z; cases z), b4, b5, b6⟩, isG _ eT⟩
      · rw [r2] at z
        cases z
        simp at r3
      · obtain ⟨o2, es, ep, e2, dd, _⟩ := gl
        rw [z, e2] at b3
        cases b3
        rw [dd] at b6
        cases b6
      · rw [z, eT] at b3
        exact obm (Option.some.inj b3).symm
    obtain ⟨mc, l1, l2⟩ := lim
    have e0 : Env0 P w K mg (hidT s₁.heap H) callerA [] s₁ H :=
      ⟨rfl, ⟨kB, nsB gl, ⟨mb, nsB bl, bt⟩, ⟨mc, nsB l1, l2⟩⟩, fun b o e => of_hidT e, Nat.le_of_eq (hidT_size _ _), trivial, (fun b hb => absurd (show b ∈ ([] : List Addr) from hb) (by simp)), ok, .of_eq gs⟩
    refine codeAny_mono (run _ H kB (nsB gl) tb at_ e0 sq) fun r s' z => ?_
    match r, z with
    | .error e, z => exact False.elim z
    | .ok .next, z => exact False.elim z
    | .ok .brk, z => exact False.elim z
    | .ok .cont, z => exact False.elim z
    | .ok (.ret u), z =>
      obtain ⟨v, H', os, bare, un, ok', rv, q⟩ := z
      have q : v = .bl true := q
      subst q
      obtain rfl : u = Value.bool true := rv
      -- an object stays, or it is a table that has grown
      have one : ∀ b o, s₁.heap.get? b = some o → s'.heap.get? b = some o ∨ ∃ p ∈ cs, p.2 = b ∧ ∃ more : Array Value, s'.heap.get? b = some { cls := .none, data := .fields more } := fun b o e => by
        cases q : H b with
        | none => exact .inl (un.keep b o e q (by intro z; exact absurd (show b ∈ ([] : List Addr) from z) (by simp)) (by simp))
        | some u =>
          rcases few b u q with ⟨_, _, ob, xs, rfl⟩ | ⟨⟨p, hp, pb⟩, rfl⟩
          · obtain ⟨e1, _⟩ := ok b _ q
            obtain ⟨e2, _⟩ := ok' b _ (un.frzs b ob _ q)
            rw [e] at e1
            cases e1
            exact .inl e2
          · obtain ⟨more, z⟩ := un.tbls b #[] q
            exact .inr ⟨p, hp, pb, _, ok' b _ z⟩
      refine ⟨rfl, ⟨fun b o e => ?_, fun b o e => ?_⟩, os, bare⟩
      · rcases one b o e with z | ⟨p, hp, rfl, more, z⟩
        · exact .inl z
        · have eT := (tabs p hp).1
          rw [eT] at e
          cases e
          exact .inr (.inl ⟨((tabs p hp).2.2.tab eT).isCodeTable, rfl, #[], more, rfl, by rw [Array.empty_append]; exact z⟩)
      · rcases one b o e with z | ⟨_, _, _, _, z⟩
        · exact ⟨_, z⟩
        · exact ⟨_, z⟩
  obtain ⟨HT, eHT⟩ : ∃ HT : Hp, HT = fun b => if b ∈ cs.map (·.2) then some (.tbl #[]) else none := ⟨_, rfl⟩
  have htab : ∀ p ∈ cs, HT p.2 = some (.tbl #[]) := fun p hp => by rw [eHT]; exact if_pos (List.mem_map.mpr ⟨p, hp, rfl⟩)
  have hoff : ∀ b u, HT b = some u → (∃ p ∈ cs, p.2 = b) ∧ u = .tbl #[] := fun b u z => by
    rw [eHT] at z
    by_cases c : b ∈ cs.map (·.2)
    · obtain ⟨p, hp, e⟩ := List.mem_map.mp c
      have z' := (if_pos c).symm.trans z
      cases z'
      exact ⟨⟨p, hp, e⟩, rfl⟩
    · have z' := (if_neg c).symm.trans z
      cases z'
  have okT : ∀ b u, HT b = some u → ObjOk P w HT s₁.heap b u := fun b u z => by
    obtain ⟨⟨p, hp, rfl⟩, rfl⟩ := hoff b u z
    exact (tabs p hp).1
  cases hk : K.lookup a with
  | some o =>
    have e := inK a o hk
    rw [ha] at e
    cases e
    refine from_ HT (fun b u z => .inr (hoff b u z)) htab (.inr ⟨_, vs.toArray, _, hk, rfl, rfl, rfl, ?_, by simpa using nums⟩) okT
    rw [List.size_toArray, hi.length]
    exact hl
  | none =>
    obtain ⟨F, eF⟩ : ∃ F : HO, F = .frz { cls := .type "list", data := .seq vs.toArray } (.lst (ns.map V.int)) := ⟨_, rfl⟩
    have hit : upd HT a F a = some F := upd_same
    have mis : ∀ {b}, b ≠ a → upd HT a F b = HT b := fun n => upd_ne n
    refine from_ (upd HT a F) (fun b u z => ?_) (fun p hp => by rw [mis (noCell p hp)]; exact htab p hp) (.inl (.inr ⟨{ cls := .type "list", data := .seq vs.toArray }, by rw [hit, eF]⟩)) (fun b u z => ?_)
    · by_cases c : b = a
      · subst c
        rw [hit, eF] at z
        cases z
        exact .inl ⟨rfl, hk, _, _, rfl⟩
      · rw [mis c] at z
        exact .inr (hoff b u z)
    · by_cases c : b = a
      · subst c
        rw [hit, eF] at z
        cases z
        exact ⟨ha, by rw [List.length_map]; exact hl, vs, _, nums, ha⟩
      · rw [mis c] at z
        obtain ⟨⟨p, hp, rfl⟩, rfl⟩ := hoff b u z
        exact (tabs p hp).1
/-- what is known of the law's promise at the head's heap, no repr being under way -/
def LawAtG (l : PySem.W.OpenLaw) (w : World) (K : PySem.W.Frag) (k n : Nat) (x : Str) (mg : Str → Option Value) (fa : Addr) (h : Heap) : Prop :=
  ∃ (fd : FuncData) (cs : List (Addr × Addr)) (sp : Sp), (∀ p ∈ cs, h.get? p.2 = some { cls := .none, data := .fields #[] } ∧ K.lookup p.2 = none ∧ PySem.W.CodeHd h p.1 p.2) ∧ (∀ (s : Shared) (u : Value), BindsTo s fd ⟨[u], []⟩ [(x, u)]) ∧
    (∀ (H : Hp) (a : Addr) (ns : List Int), ns.length ≤ n → (∀ z ∈ ns, Builtin.Int.intBits z ≤ 1048576) → (∀ p ∈ cs, H p.2 = some (.tbl #[])) → SqL K H a (ns.map V.int) → sp [.ref a] H (fun v _ => v = .bl true) E0) ∧
    ∀ base : Heap, K.In base → base.Ns mainGlobals mg → (∀ p ∈ cs, LamX.TabB base mg p.1 p.2) → FnG l.prog w K mg base CX0 k fa fd [x] sp
theorem walk_ofG {l : PySem.W.OpenLaw} {n k : Nat} {q : Program} {loose : List Str} {XP : (Str → Option Value) → Heap → Prop} {YP : World → Heap → Prop} {d : DefRec} {K : Params → PySem.W.Frag} {x : Str}
    (most : l.most = some n) (small : n ≤ sizeLine) (plain : d.params.defaults = []) (room : Room k callerA) (held : ∀ (w : World) (h : Heap), YP w h → (K w.params).In h)
    (promise : ∀ (w : World) (mg : Str → Option Value) (fa : Addr) (h : Heap), YP w h → (K w.params).In h → h.Ns mainGlobals mg → mg d.name = some (.ref fa) → LawAtG l w (K w.params) k n x mg fa h) :
    PySem.W.WalkO q loose XP YP l.row.toRowW d [] (fun f vs => PySem.call f vs) := by
  refine Att.attach_callB most plain fun w e0 e1 mg mb fa o pm cd doc a vs ns G Y c1 c2 c3 c4 c5 c6 c7 c8 c9 => ?_
  obtain ⟨fd, cs, sp, tabs, bind, asks, F⟩ := promise w mg fa _ Y (held w _ Y) G.T.g c4
  exact law_atT (held w _ Y) G.T.g G.T.b G.T.builtins G.T.nolimit c9 tabs G.T.bmain c5 c6 (Nat.le_trans c7 small) fun base H kb gb tb at_ env hS =>
    (F base kb gb tb).goes callerA [] e1 H ⟨[.ref a], []⟩ [.ref a] [.ref a] _ _ rfl room env (bind e1 (.ref a)) (.cons rfl .nil) (asks H a ns c7 c8 at_ hS)
end Ask

/-! dicts whose keys are nested tuples of texts, whole numbers and None -/
namespace Ask
open PySem L2 PySem.Spec PyProof.Rows
mutual
/-- a tracked value that is the key k -/
inductive KeyV (K : PySem.W.Frag) (H : Hp) : NestedKey → V → Prop
  | none : KeyV K H .none .non
  | num (i : Int) : KeyV K H (.num i) (.int i)
  | text (x : Str) : KeyV K H (.text x) (.str x)
  | tup {a : Addr} {vs : List V} {ks : List NestedKey} : SqT K H a vs → KeyVs K H ks vs → KeyV K H (.tup ks) (.ref a)
inductive KeyVs (K : PySem.W.Frag) (H : Hp) : List NestedKey → List V → Prop
  | nil : KeyVs K H [] []
  | cons {k : NestedKey} {v : V} {ks : List NestedKey} {vs : List V} : KeyV K H k v → KeyVs K H ks vs → KeyVs K H (k :: ks) (v :: vs)
end
section
variable {X : Cx} {pins : List (Addr × Obj)} {σ : L2.St} {H : Hp} {s : Shared}
mutual
theorem KeyV.is (I : Inv X pins σ H s) : ∀ (k : NestedKey) (v : V) (u : Value), KeyV X.K H k v → RelV v u → NestedIs s.heap k u
  | .none, _, _, h, r => by
    cases h
    obtain rfl : _ = Value.none := r
    exact .none
  | .num i, _, _, h, r => by
    cases h
    obtain ⟨t, rfl⟩ := r
    exact .int i t
  | .text x, _, _, h, r => by
    cases h
    obtain ⟨t, rfl⟩ := r
    exact .text x t
  | .tup ks, _, _, h, r => by
    cases h with
    | tup hs hk =>
      rename_i a vs
      obtain rfl : _ = Value.ref a := r
      obtain ⟨its, rv, ⟨o, ho, hc, n, hd⟩, _⟩ := I.tuple hs
      exact .tup ho hc hd (by simpa using KeyVs.is I ks vs its hk rv)
theorem KeyVs.is (I : Inv X pins σ H s) : ∀ (ks : List NestedKey) (vs : List V) (us : List Value), KeyVs X.K H ks vs → Vals vs us → NestedAll s.heap ks us
  | [], _, _, h, r => by
    cases h
    cases r
    exact .nil
  | k :: ks, _, _, h, r => by
    cases h with
    | cons h1 h2 =>
      cases r with
      | cons r1 r2 => exact .cons (KeyV.is I k _ _ h1 r1) (KeyVs.is I ks _ _ h2 r2)
end
end
/-- a dict of such keys as a thing of the heap, by its raw entries -/
def NkO (P : Program) (w : World) (d : Addr) (xs : List (NestedKey × Addr × Value)) : HO := .ext fun h =>
  ∃ o es ep, h.get? d = some o ∧ o.ExactDict ∧ o.data = .dict es ep ∧ es.toList = xs.map (entryOfKey (nestedKind P w)) ∧ (xs.map (·.1)).Nodup
theorem nkO_ok {P : Program} {w : World} {H : Hp} {h : Heap} {d : Addr} {xs : List (NestedKey × Addr × Value)} (x : h.DictOfH (nestedKind P w) d xs) : ObjOk P w H h d (NkO P w d xs) := by
  obtain ⟨o, es, ep, e, c, ed, el, _, nd⟩ := x
  exact ⟨⟨o, es, ep, e, c, ed, el, nd⟩, ⟨o, e⟩, fun h1 h2 p k => by
    obtain ⟨o, es, ep, e, r⟩ := p
    exact ⟨o, es, ep, k o e, r⟩⟩
/-- the dict at d holds these keys and values -/
structure NkAt (K : PySem.W.Frag) (P : Program) (w : World) (H : Hp) (d : Addr) (kvs : List (NestedKey × V)) (xs : List (NestedKey × Addr × Value)) : Prop where
  at_ : H d = some (NkO P w d xs)
  sys : (d == sysModules) = false
  prs : Paired (fun (p : NestedKey × V) (q : NestedKey × Addr × Value) => p.1 = q.1 ∧ KeyV K H p.1 (.ref q.2.1) ∧ p.1.depth ≤ 8 ∧ RelV p.2 q.2.2) kvs xs
section
variable {X : Cx} {pins : List (Addr × Obj)} {σ : L2.St} {H : Hp} {s : Shared}
theorem NkAt.dict {d : Addr} {kvs : List (NestedKey × V)} {xs : List (NestedKey × Addr × Value)} (I : Inv X pins σ H s) (h : NkAt X.K X.prog X.w H d kvs xs) : s.heap.DictOfH (nestedKind X.prog X.w) d xs := by
  obtain ⟨hat, _, prs⟩ := h
  have ok := (I.hok d _ hat).1
  obtain ⟨o, es, ep, e, c, ed, el, nd⟩ := ok
  refine ⟨o, es, ep, e, c, ed, el, ?_, nd⟩
  clear el nd hat
  intro x hx
  induction prs with
  | nil => cases hx
  | cons r t ih =>
    rcases List.mem_cons.mp hx with rfl | hx
    · obtain ⟨e1, e2, e3, _⟩ := r
      rw [e1] at e2 e3
      exact ⟨KeyV.is I _ (V.ref _) _ e2 rfl, e3⟩
    · exact ih hx
/-- the empty dict, by whatever name it is known -/
theorem dict0 {d : Addr} (I : Inv X pins σ H s) (h : H d = some (.dK [])) : (d == sysModules) = false ∧ s.heap.DictOfH (nestedKind X.prog X.w) d [] := by
  obtain ⟨_, sy, vs, pr, o, es, ep, e, c, ed, _, ps, _⟩ := I.hok d _ h
  cases pr
  refine ⟨sy, o, es, ep, e, c, ed, ?_, (fun x hx => absurd hx List.not_mem_nil), List.nodup_nil⟩
  cases q : es.toList with
  | nil => rfl
  | cons a l => rw [q] at ps; cases ps
/-- k in d -/
def rInNk (K : PySem.W.Frag) (P : Program) (w : World) : R2 := fun x y H Q => ∃ (a d : Addr) (k : NestedKey) (kvs : List (NestedKey × V)), x = .ref a ∧ y = .ref d ∧ KeyV K H k (.ref a) ∧ k.depth ≤ 8 ∧ ((kvs = [] ∧ H d = some (.dK [])) ∨ ∃ xs, NkAt K P w H d kvs xs) ∧
  Q (.bl (decide (k ∈ kvs.map (·.1)))) H
theorem at_in {xs : List (NestedKey × Addr × Value)} {k : NestedKey} : (atKey xs k).isSome = decide (k ∈ xs.map (·.1)) := by
  unfold atKey
  rw [Option.isSome_map, Bool.eq_iff_iff, List.find?_isSome, decide_eq_true_iff]
  constructor
  · rintro ⟨x, hx, e⟩
    exact List.mem_map.mpr ⟨x, hx, of_decide_eq_true e⟩
  · intro h
    obtain ⟨x, hx, e⟩ := List.mem_map.mp h
    exact ⟨x, hx, decide_eq_true e⟩
theorem prs_keys {K : PySem.W.Frag} {kvs : List (NestedKey × V)} {xs : List (NestedKey × Addr × Value)} (h : Paired (fun (p : NestedKey × V) (q : NestedKey × Addr × Value) => p.1 = q.1 ∧ KeyV K H p.1 (.ref q.2.1) ∧ p.1.depth ≤ 8 ∧ RelV p.2 q.2.2) kvs xs) : kvs.map (·.1) = xs.map (·.1) := by
  induction h with
  | nil => rfl
  | cons r t ih => rw [List.map_cons, List.map_cons, ih, r.1]
theorem op_inNk (hu : X.A.units + 64 < cLine) : OpR X (compareOp .In) (rInNk X.K X.prog X.w) := by
  intro pins s σ H x y v u Q I rx ry h
  obtain ⟨a, d, k, kvs, rfl, rfl, hk, dk, hd, q⟩ := h
  obtain rfl : v = Value.ref a := rx
  obtain rfl : u = Value.ref d := ry
  have is : (nestedKind X.prog X.w).is s.heap k a := ⟨KeyV.is I k _ _ hk rfl, dk⟩
  have room : (nestedKind X.prog X.w).room X.A.in1 := by show X.A.units + 1 + 8 < cLine; omega
  obtain ⟨sy, xs, hx, e⟩ : (d == sysModules) = false ∧ ∃ xs, s.heap.DictOfH (nestedKind X.prog X.w) d xs ∧ kvs.map (·.1) = xs.map (·.1) := by
    rcases hd with ⟨rfl, h0⟩ | ⟨xs, h1⟩
    · obtain ⟨a, b⟩ := dict0 I h0
      exact ⟨a, [], b, rfl⟩
    · exact ⟨h1.sys, xs, h1.dict I, prs_keys h1.prs⟩
  refine wpAny_in_heap room is sy hx ⟨.bl (decide (k ∈ kvs.map (·.1))), H, I.tok _, ?_, q⟩
  show Value.bool _ = Value.bool _
  rw [at_in, e]
mutual
theorem KeyV.keep {K : PySem.W.Frag} {H H' : Hp} {d : Addr} {u : HO} (hd : H d = some u) (n1 : ∀ xs, u ≠ .tup xs) (n2 : ∀ o v, u ≠ .frz o v) (kp : ∀ b o, b ≠ d → H b = some o → H' b = some o) : ∀ (k : NestedKey) (v : V), KeyV K H k v → KeyV K H' k v
  | .none, _, h => by cases h; exact .none
  | .num i, _, h => by cases h; exact .num i
  | .text x, _, h => by cases h; exact .text x
  | .tup ks, _, h => by
    cases h with
    | tup hs hk =>
      refine .tup ?_ (KeyVs.keep hd n1 n2 kp ks _ hk)
      rcases hs with (q | ⟨o, q⟩) | q
      · exact .inl (.inl (kp _ _ (fun z => by rw [z, hd] at q; exact n1 _ (Option.some.inj q)) q))
      · exact .inl (.inr ⟨o, kp _ _ (fun z => by rw [z, hd] at q; exact n2 _ _ (Option.some.inj q)) q⟩)
      · exact .inr q
theorem KeyVs.keep {K : PySem.W.Frag} {H H' : Hp} {d : Addr} {u : HO} (hd : H d = some u) (n1 : ∀ xs, u ≠ .tup xs) (n2 : ∀ o v, u ≠ .frz o v) (kp : ∀ b o, b ≠ d → H b = some o → H' b = some o) : ∀ (ks : List NestedKey) (vs : List V), KeyVs K H ks vs → KeyVs K H' ks vs
  | [], _, h => by cases h; exact .nil
  | k :: ks, _, h => by
    cases h with
    | cons h1 h2 => exact .cons (KeyV.keep hd n1 n2 kp k _ h1) (KeyVs.keep hd n1 n2 kp ks _ h2)
end
abbrev PrsNk (K : PySem.W.Frag) (H : Hp) : List (NestedKey × V) → List (NestedKey × Addr × Value) → Prop := Paired fun (p : NestedKey × V) (q : NestedKey × Addr × Value) => p.1 = q.1 ∧ KeyV K H p.1 (.ref q.2.1) ∧ p.1.depth ≤ 8 ∧ RelV p.2 q.2.2
theorem prs_at {K : PySem.W.Frag} {kvs : List (NestedKey × V)} {xs : List (NestedKey × Addr × Value)} {k : NestedKey} {v : V} (h : PrsNk K H kvs xs) (nd : (kvs.map (·.1)).Nodup) (hk : (k, v) ∈ kvs) : ∃ p, atKey xs k = some p ∧ RelV v p.2 := by
  unfold atKey
  induction h with
  | nil => cases hk
  | cons r t ih =>
    rename_i p q l1 l2
    rw [List.map_cons, List.nodup_cons] at nd
    rw [List.find?_cons]
    rcases List.mem_cons.mp hk with e | hk
    · subst e
      rw [show decide (q.1 = k) = true from decide_eq_true r.1.symm]
      exact ⟨q.2, rfl, r.2.2.2⟩
    · rw [show decide (q.1 = k) = false from decide_eq_false fun z => nd.1 (by rw [r.1, z]; exact List.mem_map.mpr ⟨_, hk, rfl⟩)]
      exact ih nd.2 hk
/-- d[k] -/
def rIxNk (K : PySem.W.Frag) (P : Program) (w : World) : R2 := fun x y H Q => ∃ (a d : Addr) (k : NestedKey) (v : V) (kvs : List (NestedKey × V)) (xs : List (NestedKey × Addr × Value)), x = .ref d ∧ y = .ref a ∧ KeyV K H k (.ref a) ∧ k.depth ≤ 8 ∧ NkAt K P w H d kvs xs ∧ (k, v) ∈ kvs ∧ Q v H
theorem NkAt.nodup {d : Addr} {kvs : List (NestedKey × V)} {xs : List (NestedKey × Addr × Value)} (I : Inv X pins σ H s) (h : NkAt X.K X.prog X.w H d kvs xs) : (kvs.map (·.1)).Nodup := by
  obtain ⟨o, es, ep, _, _, _, _, _, nd⟩ := h.dict I
  rw [prs_keys h.prs]
  exact nd
/-- the dict with one more entry, or with another value -/
def putNk (kvs : List (NestedKey × V)) (k : NestedKey) (v : V) : List (NestedKey × V) := if k ∈ kvs.map (·.1) then kvs.map (fun p => if p.1 = k then (p.1, v) else p) else kvs ++ [(k, v)]
theorem prs_app {K : PySem.W.Frag} {k1 k2 : List (NestedKey × V)} {x1 x2 : List (NestedKey × Addr × Value)} (h : PrsNk K H k1 x1) (h2 : PrsNk K H k2 x2) : PrsNk K H (k1 ++ k2) (x1 ++ x2) := by
  induction h with
  | nil => exact h2
  | cons r t ih => exact .cons r ih
theorem prs_put {K : PySem.W.Frag} {kvs : List (NestedKey × V)} {xs : List (NestedKey × Addr × Value)} {k : NestedKey} {a : Addr} {v : V} {u : Value} (h : PrsNk K H kvs xs) (hk : KeyV K H k (.ref a)) (dk : k.depth ≤ 8) (r : RelV v u) : PrsNk K H (putNk kvs k v) (storedH xs k a u) := by
  have e := prs_keys h
  unfold putNk storedH
  rw [at_in, ← e]
  by_cases c : k ∈ kvs.map (·.1)
  · rw [if_pos c, if_pos (decide_eq_true c)]
    clear c e
    induction h with
    | nil => exact .nil
    | cons r1 t ih =>
      refine .cons ?_ ih
      unfold putAt
      rename_i p q l1 l2
      obtain ⟨e1, e2, e3, e4⟩ := r1
      dsimp only
      by_cases c : p.1 = k
      · rw [if_pos c, if_pos (e1 ▸ c)]
        exact ⟨e1, e2, e3, r⟩
      · rw [if_neg c, if_neg (fun z => c (e1.trans z))]
        exact ⟨e1, e2, e3, e4⟩
  · rw [if_neg c, if_neg (by rw [decide_eq_false c]; exact Bool.false_ne_true)]
    exact prs_app h (.cons ⟨rfl, hk, dk, r⟩ .nil)
theorem PrsNk.keep {K : PySem.W.Frag} {H H' : Hp} {kvs : List (NestedKey × V)} {xs : List (NestedKey × Addr × Value)} (k : ∀ (n : NestedKey) (v : V), KeyV K H n v → KeyV K H' n v) (h : PrsNk K H kvs xs) : PrsNk K H' kvs xs := Paired.mapP h fun p q z => ⟨z.1, k _ _ z.2.1, z.2.2⟩
/-- d[k] = v -/
def rSetNk (K : PySem.W.Frag) (P : Program) (w : World) : V → V → V → Hp → (Hp → Prop) → Prop := fun o i v H Q => ∃ (a d : Addr) (k : NestedKey) (kvs : List (NestedKey × V)), o = .ref d ∧ i = .ref a ∧ KeyV K H k (.ref a) ∧ k.depth ≤ 8 ∧ kvs.length ≤ 10000 ∧ ((kvs = [] ∧ H d = some (.dK [])) ∨ ∃ xs, NkAt K P w H d kvs xs) ∧
  ∀ xs', NkAt K P w (upd H d (NkO P w d xs')) d (putNk kvs k v) xs' → Q (upd H d (NkO P w d xs'))
theorem set_nk (hu : X.A.units + 64 < cLine) : PSet X (rSetNk X.K X.prog X.w) := by
  intro pins s σ H o i v ov iv u Q I ro ri rv h
  obtain ⟨a, d, k, kvs, rfl, rfl, hk, dk, l, hd, q⟩ := h
  obtain rfl : ov = Value.ref d := ro
  obtain rfl : iv = Value.ref a := ri
  have is : (nestedKind X.prog X.w).is s.heap k a := ⟨KeyV.is I k _ _ hk rfl, dk⟩
  have room : (nestedKind X.prog X.w).room X.A.in1 := by show X.A.units + 1 + 8 < cLine; omega
  obtain ⟨o, ho, mu, n1, n2, sy, xs, hx, ps⟩ : ∃ o, H d = some o ∧ Mut (some o) ∧ (∀ xs, o ≠ .tup xs) ∧ (∀ u v, o ≠ .frz u v) ∧ (d == sysModules) = false ∧ ∃ xs, s.heap.DictOfH (nestedKind X.prog X.w) d xs ∧ PrsNk X.K H kvs xs := by
    rcases hd with ⟨rfl, h0⟩ | ⟨xs, h1⟩
    · obtain ⟨a, b⟩ := dict0 I h0
      exact ⟨_, h0, trivial, (fun _ z => nomatch z), (fun _ _ z => nomatch z), a, [], b, .nil⟩
    · exact ⟨_, h1.at_, trivial, (fun _ z => nomatch z), (fun _ _ z => nomatch z), h1.sys, xs, h1.dict I, h1.prs⟩
  have lx : xs.length = kvs.length := by rw [← Paired.length ps]
  refine wpAny_setItem_heap room is hx (fun h' hm sb => ?_) (by rw [lx]; have : (10000 : Nat) ≤ sizeLine := by decide
                                                                omega)
  have he : ∃ u, h'.get? d = some u := by
    have ⟨o, _, _, e, _⟩ := hm
    exact ⟨o, e⟩
  refine ⟨upd H d (NkO X.prog X.w d (storedH xs k a u)), I.write (e := d) (t' := s.toks + (nestedKind X.prog X.w).draws k) (by rw [ho]; exact mu) (.inl rfl) (fun b u hb hu => (sb.2 b hb).trans hu) he (nkO_ok hm), q _ ⟨upd_same, sy, ?_⟩⟩
  exact PrsNk.keep (fun n v z => KeyV.keep ho n1 n2 (fun b o hb e => by rw [upd_ne hb]; exact e) n v z) (prs_put ps hk dk rv)
end
end Ask

/-! rules: the sides of a sentence by ranks, the kind between two sides -/
namespace Ask
open PySem L2
/-- the two sides of a sentence by ranks, the left one the greater -/
def sidesN (k : Str) (x : Nat) (y : Option Nat) : List Nat × List Nat := if k ∈ LK then ([x], []) else if k = "alike" then ([x], y.toList) else if k = "undone" then (x :: y.toList, []) else (x :: y.toList, if k = "kept" then [x] else y.toList)
abbrev iN (n : Nat) : V := .int ((n : Nat) : Int)
def oN' : Option Nat → V
  | none => .non
  | some n => .int ((n : Nat) : Int)
section
variable {P : Program} {w : World} {K : PySem.W.Frag} {mg : Str → Option Value} {base : Heap}
def spSides2 : Sp := fun vs H Q _ => ∃ (k : Str) (x : Nat) (y : Option Nat), vs = [.str k, .int ((x : Nat) : Int), oN' y] ∧ (k ∈ LK ↔ y = none) ∧
  ∀ (H' : Hp) (t a b : Addr), Same H H' → H' t = some (.tup [.ref a, .ref b]) → H' a = some (.tup ((sidesN k x y).1.map iN)) → H' b = some (.tup ((sidesN k x y).2.map iN)) → Q (.ref t) H'

abbrev s_sides_of : Stmt := top 54
theorem sc_sides_of : FnScope ["kind", "x", "y"] ["kind", "x", "y"] (defScope s_sides_of) := ⟨rfl, rfl, rfl, by decide +kernel, rfl, by decide +kernel, by decide +kernel⟩
theorem ok_sides2 {f : Addr} {fd : FuncData} (F : Fun K "sides_of" "sides_of" s_sides_of f fd) (Gk : GvK K mg) : FnOk P w K mg base CX0 1 f fd ["kind", "x", "y"] spSides2 := by
  refine F.ok sc_sides_of (fun vs H Q E h => ?_) (fun cdv A outer s H vs Q E hr h => ?_)
  · obtain ⟨k, x, y, rfl, _⟩ := h
    rfl
  · obtain ⟨k, x, y, rfl, hy, kq⟩ := h
    obtain ⟨tL, uL, mL, rL, sL⟩ := Gk.lone
    have z1 : (100000 : Nat) ≤ sizeLine := by decide
    refine ⟨_, (pss_cons (ps_if (pt_cmpR op_in_seq (pv 0) (pe_gv (v := .ref tL) rfl ⟨_, mL, rL⟩) rfl) (pss_one (ps_ret (pe_tup (pa_cons (pe_tup (pa_cons (pv 1) pa_nil)) (pa_cons (pe_tup pa_nil) pa_nil))))) pss_nil)
      (pss_cons (ps_if (pt_cmpR op_eq (pv 0) pe_str (nomark _)) (pss_one (ps_ret (pe_tup (pa_cons (pe_tup (pa_cons (pv 1) pa_nil)) (pa_cons (pe_tup (pa_cons (pv 2) pa_nil)) pa_nil))))) pss_nil)
      (pss_cons (ps_if (pt_cmpR op_eq (pv 0) pe_str (nomark _)) (pss_one (ps_ret (pe_tup (pa_cons (pe_tup (pa_cons (pv 1) (pa_cons (pv 2) pa_nil))) (pa_cons (pe_tup pa_nil) pa_nil))))) pss_nil)
      (pss_one (ps_ret (pe_tup (pa_cons (pe_tup (pa_cons (pv 1) (pa_cons (pv 2) pa_nil))) (pa_cons (pe_ifExp (pt_cmpR op_eq (pv 0) pe_str (nomark _)) (pe_tup (pa_cons (pv 1) pa_nil)) (pe_tup (pa_cons (pv 2) pa_nil))) pa_nil)))))))), ?_⟩
    have fin : ∀ (H0 : Hp) (a b t : Addr) (l r : List Nat), Same H H0 → H0 a = some (.tup (l.map iN)) → sidesN k x y = (l, r) → H0 b = none → upd H0 b (.tup (r.map iN)) t = none → Q (.ref t) (upd (upd H0 b (.tup (r.map iN))) t (.tup [.ref a, .ref b])) := fun H0 a b t l r s0 ha e hb ht => by
      have s1 := Ask.Same.made1 (o := .tup (r.map iN)) (Same.refl H0) hb
      have f1 : upd H0 b (.tup (r.map iN)) b = some (.tup (r.map iN)) := upd_same
      have s2 := Ask.Same.made1 (o := .tup [.ref a, .ref b]) (Same.refl _) ht
      exact kq _ t a b ((s0.trans s1).trans s2) upd_same (by rw [e]; exact s2 _ _ (s1 _ _ ha)) (by rw [e]; exact s2 _ _ f1)
    have mk : ∀ (H0 : Hp) (a : Addr) (l : List Nat), H0 a = none → Same H0 (upd H0 a (.tup (l.map iN))) ∧ upd H0 a (.tup (l.map iN)) a = some (.tup (l.map iN)) := fun H0 a l ha => ⟨Ask.Same.made1 (Same.refl _) ha, upd_same⟩
    refine ⟨_, rfl, tL, _, rfl, .inr (sL H), rfl, rfl, _, rfl, ?_⟩
    rw [show (if false = true then !inV (V.str k) (LK.map V.str) else inV (V.str k) (LK.map V.str)) = decide (k ∈ LK) from by rw [if_neg Bool.false_ne_true]; exact inV_str k LK]
    by_cases c : k ∈ LK
    · rw [decide_eq_true c]
      refine iteT ⟨_, rfl, by show 1 ≤ sizeLine; omega, fun a ha => ⟨Nat.zero_le _, fun b hb => ⟨by show 2 ≤ sizeLine; omega, fun t ht => ?_⟩⟩⟩
      obtain ⟨s1, f1⟩ := mk H a [x] ha
      exact fin _ a b t [x] [] s1 f1 (if_pos c) hb ht
    rw [decide_eq_false c]
    refine iteF ?_
    obtain ⟨n, rfl⟩ : ∃ n, y = some n := by
      cases y with
      | none => exact absurd (hy.mpr rfl) c
      | some n => exact ⟨n, rfl⟩
    have sd : ∀ z : Str, decide (V.str k = V.str z) = decide (k = z) := fun z => decide_eq_decide.mpr ⟨V.str.inj, fun e => by rw [e]⟩
    refine ⟨_, rfl, rfl, _, rfl, ?_⟩
    rw [sd]
    by_cases c1 : k = "alike"
    · rw [decide_eq_true c1]
      refine iteT ⟨_, rfl, by show 1 ≤ sizeLine; omega, fun a ha => ⟨_, rfl, by show 1 ≤ sizeLine; omega, fun b hb => ⟨by show 2 ≤ sizeLine; omega, fun t ht => ?_⟩⟩⟩
      obtain ⟨s1, f1⟩ := mk H a [x] ha
      exact fin _ a b t [x] [n] s1 f1 (by unfold sidesN; rw [if_neg c, if_pos c1]; rfl) hb ht
    rw [decide_eq_false c1]
    refine iteF ⟨_, rfl, rfl, _, rfl, ?_⟩
    rw [sd]
    by_cases c2 : k = "undone"
    · rw [decide_eq_true c2]
      refine iteT ⟨_, rfl, _, rfl, by show 2 ≤ sizeLine; omega, fun a ha => ⟨Nat.zero_le _, fun b hb => ⟨by show 2 ≤ sizeLine; omega, fun t ht => ?_⟩⟩⟩
      obtain ⟨s1, f1⟩ := mk H a [x, n] ha
      exact fin _ a b t [x, n] [] s1 f1 (by unfold sidesN; rw [if_neg c, if_neg c1, if_pos c2]; rfl) hb ht
    rw [decide_eq_false c2]
    refine iteF ⟨_, rfl, _, rfl, by show 2 ≤ sizeLine; omega, fun a ha => ⟨_, rfl, rfl, _, rfl, ?_⟩⟩
    obtain ⟨s1, f1⟩ := mk H a [x, n] ha
    rw [sd]
    by_cases c3 : k = "kept"
    · rw [decide_eq_true c3]
      exact iteT ⟨_, rfl, by show 1 ≤ sizeLine; omega, fun b hb => ⟨by show 2 ≤ sizeLine; omega, fun t ht => fin _ a b t [x, n] [x] s1 f1 (by unfold sidesN; rw [if_neg c, if_neg c1, if_neg c2, if_pos c3]; rfl) hb ht⟩⟩
    · rw [decide_eq_false c3]
      exact iteF ⟨_, rfl, by show 1 ≤ sizeLine; omega, fun b hb => ⟨by show 2 ≤ sizeLine; omega, fun t ht => fin _ a b t [x, n] [n] s1 f1 (by unfold sidesN; rw [if_neg c, if_neg c1, if_neg c2, if_neg c3]; rfl) hb ht⟩⟩
end
end Ask

/-! a completion before anything is told -/
namespace Ask
open PySem L2
theorem turn_any {J : It} {n : Nat} {G : Hp → Prop} {Y : Nat → Hp → V → Hp → Prop} (wk : Walk J n G Y) {B : V → Hp → (Hp → Prop) → Prop} {M : Hp → Prop} {H : Hp} (Pw : Nat → Hp → Prop) (h0 : Pw 0 H) (hG : ∀ j H, j ≤ n → Pw j H → G H)
    (hs : ∀ j x H H', j < n → Pw j H → Y j H x H' → B x H' (Pw (j + 1))) (hd : ∀ H, Pw n H → M H) :
    ∃ W : Nat → Nat → Hp → Prop, (∃ m, W 0 m H) ∧ ∀ j k H, W j k H → (J.stop j H ∧ M H) ∨ (J.go j H ∧ ∃ Nx : Hp → Prop, (∀ H', Nx H' → ∃ k', k' < k ∧ W (j + 1) k' H') ∧ ∀ x H', J.yld j H x H' → B x H' Nx) := by
  refine ⟨fun j k H => k = n - j ∧ j ≤ n ∧ Pw j H, ⟨n, by simp, Nat.zero_le _, h0⟩, ?_⟩
  rintro j k G0 ⟨rfl, hj, q⟩
  have ok := hG j G0 hj q
  rcases Nat.lt_or_ge j n with lt | ge
  · refine .inr ⟨wk.goes j G0 lt ok, Pw (j + 1), fun H' q' => ⟨n - (j + 1), by omega, rfl, lt, q'⟩, fun x H' y => hs j x G0 H' lt q (wk.yields j G0 x H' lt ok y)⟩
  · have e : j = n := by omega
    subst e
    exact .inl ⟨wk.stops G0 ok, hd G0 q⟩
/-- the attributes that a completion is given -/
structure CmC (K : PySem.W.Frag) (C : Addr) : Prop where
  c : Cls K C
  a1 : NoAttr K C "letters"
  a2 : NoAttr K C "ranks"
  a3 : NoAttr K C "many"
  a4 : NoAttr K C "rows"
  a5 : NoAttr K C "lengths"
  a6 : NoAttr K C "lone"
  a7 : NoAttr K C "still"
  a8 : NoAttr K C "pairs"
  a9 : NoAttr K C "waiting"
  aa : NoAttr K C "fresh"
  ab : NoAttr K C "offered"
/-- where a completion's parts stand -/
structure CmA where
  m : Addr
  rk : Addr
  ro : Addr
  le : Addr
  lo : Addr
  st : Addr
  pr : Addr
  wa : Addr
  fr : Addr
def fsC (A : CmA) (n off : Nat) : List (Str × V) := [("letters", .ref A.m), ("ranks", .ref A.rk), ("many", iN n), ("rows", .ref A.ro), ("lengths", .ref A.le), ("lone", .ref A.lo), ("still", .ref A.st), ("pairs", .ref A.pr), ("waiting", .ref A.wa), ("fresh", .ref A.fr), ("offered", iN off)]
/-- the ranks of letters -/
def rkD (ys : List Str) : List (Key × V) := (List.zipIdx ys).map fun e => (Sum.inr e.1, iN e.2)
theorem rkD_take {ys : List Str} {i : Nat} {y : Str} (nd : ys.Nodup) (e : ys[i]? = some y) : putK (rkD (ys.take i)) (Sum.inr y) (iN i) = rkD (ys.take (i + 1)) := by
  have li : i < ys.length := (List.getElem?_eq_some_iff.mp e).1
  have new : y ∉ ys.take i := fun h => by
    obtain ⟨j, hj⟩ := List.mem_iff_getElem?.mp h
    have jl := (List.getElem?_eq_some_iff.mp hj).1
    rw [List.length_take] at jl
    rw [List.getElem?_take_of_lt (by omega)] at hj
    have := (List.getElem?_inj (by omega) nd).mp (hj.trans e.symm)
    omega
  unfold putK
  rw [if_neg, List.take_add_one, e]
  · unfold rkD
    rw [show (some y).toList = [y] from rfl, List.zipIdx_append, List.map_append]
    congr 1
    show _ = [((Sum.inr y : Key), iN (0 + (ys.take i).length))]
    rw [List.length_take, Nat.min_eq_left (by omega), Nat.zero_add]
  · intro h
    obtain ⟨kv, hk, q⟩ := List.any_eq_true.mp h
    unfold rkD at hk
    obtain ⟨z, hz, rfl⟩ := List.mem_map.mp hk
    have := Sum.inr.inj (of_decide_eq_true q)
    exact new (by rw [← this]; exact List.fst_mem_of_mem_zipIdx hz)
theorem rep_flat (n : Nat) : (List.replicate ((n : Nat) : Int).toNat [V.non]).flatten = List.replicate n V.non := by
  rw [Int.toNat_natCast]
  induction n with
  | zero => rfl
  | succ n ih => rw [List.replicate_succ, List.flatten_cons, ih, List.replicate_succ]; rfl
section
variable {P : Program} {w : World} {K : PySem.W.Frag} {mg : Str → Option Value} {base : Heap}
/-- a completion with nothing in it; the lists stand apart -/
def spCmI (K : PySem.W.Frag) (CL CC : Addr) : Sp := fun vs H Q _ => ∃ (p dx m t : Addr) (ys : List Str), vs = [.ref p, .ref m] ∧ H p = some (.ins CC dx []) ∧ Mde CL H m t ys ∧ ys.Nodup ∧ 1 ≤ ys.length ∧ ys.length ≤ 12 ∧
  ∀ (H' : Hp) (A : CmA), A.m = m → (∀ b o, b ≠ p → H b = some o → H' b = some o) → H' p = some (.ins CC dx (fsC A ys.length 0)) → H' A.rk = some (.dK (rkD ys)) → H' A.ro = some (.lst []) → H' A.le = some (.lst []) → H' A.lo = some (.lst (List.replicate ys.length .non)) → H' A.st = some (.lst (List.replicate ys.length .non)) →
    H' A.pr = some (.lst (List.replicate (ys.length * ys.length) .non)) → H' A.wa = some (.dK []) → H' A.fr = some (.lst []) → [A.rk, A.ro, A.le, A.lo, A.st, A.pr, A.wa, A.fr].Nodup → (∀ b ∈ [A.rk, A.ro, A.le, A.lo, A.st, A.pr, A.wa, A.fr], H b = none) → Q .non H'

abbrev s_Completion___init__ : Stmt := inClass (top 58) 0
theorem sc_Completion___init__ : FnScope ["self", "letters", "rank", "letter"] ["self", "letters"] (defScope s_Completion___init__) := ⟨rfl, rfl, rfl, by decide +kernel, rfl, by decide +kernel, by decide +kernel⟩
theorem ok_cmI {f CL CC : Addr} {fd : FuncData} (F : Fun K "__init__" "Completion.__init__" s_Completion___init__ f fd) (T : Blt mg) (hC : CmC K CC) (hL0 : Cls K CL) (nW : NoAttr K CL "words") : FnOk P w K mg base CX0 1 f fd ["self", "letters"] (spCmI K CL CC) := by
  refine F.ok sc_Completion___init__ (fun vs H Q E h => ?_) (fun cdv A outer s H vs Q E hr h => ?_)
  · obtain ⟨p, dx, m, t, ys, rfl, _⟩ := h
    rfl
  · obtain ⟨p, dx, m, t, ys, rfl, hp, hM, nd, l1, l12, kq⟩ := h
    have z1 : (100000 : Nat) ≤ sizeLine := by decide
    have nn144 : ys.length * ys.length ≤ 144 := Nat.mul_le_mul l12 l12
    refine ⟨_, (pss_cons (ps_fld (pv 0) (pv 1) rfl)
      (pss_cons (ps_fld (pv 0) (pe_dc (own := [("rank", 2), ("letter", 3)]) rfl sc_Completion___init__.nd (show PI _ _ _ (iEnumA K _) from pi_enumA (by rfl) T.n_enumerate (pa_cons (pe_fld (pv 1) rfl) pa_nil)) (blkOk_by (N := ["self", "letters", "rank", "letter"]) (sc := defScope s_Completion___init__) (by decide +kernel)) (fun _ _ _ _ _ => (show PG _ _ (gTup K 2 _) from (pg_tup rfl (pgs_cons (pg_name (i := 2) sc_Completion___init__.nd rfl (Or.inl rfl)) (pgs_cons (pg_name (i := 3) sc_Completion___init__.nd rfl (Or.inl rfl)) pgs_nil))))) (fun _ _ _ _ _ => pts_nil) (fun _ _ _ _ _ => (pv 3)) (fun _ _ _ _ _ => (pv 2))) rfl)
      (pss_cons (ps_fld (pv 0) (pe_callB call_len_seq (by rfl) T.n_len (by decide +kernel) (pa_cons (pe_fld (pv 1) rfl) pa_nil)) rfl)
      (pss_cons (ps_fld (pv 0) (pe_lst pa_nil) rfl)
      (pss_cons (ps_fld (pv 0) (pe_lst pa_nil) rfl)
      (pss_cons (ps_fld (pv 0) (pe_op op_rep (pe_lst (pa_cons pe_non pa_nil)) (pe_fld (pv 0) rfl)) rfl)
      (pss_cons (ps_fld (pv 0) (pe_op op_rep (pe_lst (pa_cons pe_non pa_nil)) (pe_fld (pv 0) rfl)) rfl)
      (pss_cons (ps_fld (pv 0) (pe_op op_rep (pe_lst (pa_cons pe_non pa_nil)) (pe_op op_mul (pe_fld (pv 0) rfl) (pe_fld (pv 0) rfl))) rfl)
      (pss_cons (ps_fld (pv 0) pe_dnewK rfl)
      (pss_cons (ps_fld (pv 0) (pe_lst pa_nil) rfl)
      (pss_one (ps_fld (pv 0) pe_int rfl)))))))))))), ?_⟩
    obtain ⟨dl, ol, hm, ht, hol⟩ := id hM
    have hSt : SqT K H t (ys.map V.str) := .inl (.inr ⟨ol, ht⟩)
    have mp : m ≠ p := fun z => by rw [z, hp] at hm; cases hm
    have tp : t ≠ p := fun z => by rw [z, hp] at ht; cases ht
    refine ⟨_, rfl, _, rfl, p, CC, dx, [], rfl, hp, hC.c, hC.a1, (by show 0 < 1000; decide), ?_⟩
    have p1 : upd H p (.ins CC dx (putF "letters" (.ref m) [])) p = some (.ins CC dx [("letters", .ref m)]) := upd_same
    have k1 : ∀ b o, b ≠ p → H b = some o → upd H p (.ins CC dx (putF "letters" (.ref m) [])) b = some o := fun b o hb e => by rw [upd_ne hb]; exact e
    have n1 : ∀ b, upd H p (.ins CC dx (putF "letters" (.ref m) [])) b = none → H b = none := fun b e => by
      by_cases z : b = p
      · rw [z, upd_same] at e; cases e
      · rw [upd_ne z] at e; exact e
    generalize upd H p (.ins CC dx (putF "letters" (.ref m) [])) = H1 at p1 k1 n1 ⊢
    have hm1 := k1 _ _ mp hm
    have ht1 : SqT K H1 t (ys.map V.str) := .inl (.inr ⟨ol, k1 _ _ tp ht⟩)
    refine ⟨_, rfl, m, CL, dl, _, _, rfl, hm1, hL0, nW, rfl, ?_⟩
    refine ⟨t, _, rfl, .inr ⟨ht1, fun D hD => ?_⟩⟩
    refine turn_any (walk_enumT (xs := ys.map V.str)) (fun i H' => H' D = some (.dK (rkD (ys.take i))) ∧ Same H1 H') ⟨by rw [upd_same, List.take_zero]; rfl, Ask.Same.upd_new (Same.refl _) hD⟩ (fun _ H' _ ⟨_, s'⟩ => seqT_same s' ht1) ?_ ?_
    · rintro j x HB' HB hj ⟨e1', e2'⟩ ⟨t5, x5, y5, rfl, ht5, rfl, ex5, ey5⟩
      rw [List.length_map] at hj
      cases ex5
      have hy : ys[j]? = some ys[j] := List.getElem?_eq_getElem hj
      replace ey5 : (ys.map V.str)[j]? = some y5 := ey5
      rw [List.getElem?_map, hy] at ey5
      cases ey5
      generalize ys[j] = y at hy
      have sT := Ask.Same.made1 (o := .tup [.int (j : Nat), .str y]) (Same.refl HB') ht5
      have hT : upd HB' t5 (.tup [.int (j : Nat), .str y]) t5 = some (.tup [.int (j : Nat), .str y]) := upd_same
      generalize upd HB' t5 (.tup [.int (j : Nat), .str y]) = HC at sT hT ⊢
      have e3 := sT _ _ e1'
      refine ⟨t5, _, rfl, SqT.of hT, rfl, _, _, rfl, _, _, rfl, rfl, rfl, _, rfl, _, rfl, _, Sum.inr y, rfl, e3, ?_, ?_, Ask.Same.upd_new (e2'.trans sT) hD⟩
      · unfold rkD
        rw [List.length_map, List.length_zipIdx, List.length_take]
        omega
      · rw [upd_same, rkD_take nd hy]
    rintro H2 ⟨eD, s2⟩
    rw [List.length_map, List.take_length] at eD
    have Dp : D ≠ p := fun z => by rw [z, p1] at hD; cases hD
    have p2 := s2 _ _ p1
    have kk2 : ∀ b o, b ≠ p → H b = some o → H2 b = some o := fun b o hb e => s2 _ _ (k1 b o hb e)
    have nn2 : ∀ b, H2 b = none → H b = none := fun b e => n1 b (s2.free e)
    have nD : H D = none := n1 D hD
    refine ⟨_, rfl, p, CC, dx, _, rfl, p2, hC.c, hC.a2, (by show 1 < 1000; decide), ?_⟩
    have p3 : upd H2 p (.ins CC dx (putF "ranks" (.ref D) [("letters", .ref m)])) p = some (.ins CC dx [("letters", .ref m), ("ranks", .ref D)]) := upd_same
    have k3 : ∀ b o, b ≠ p → H2 b = some o → upd H2 p (.ins CC dx (putF "ranks" (.ref D) [("letters", .ref m)])) b = some o := fun b o hb e => by rw [upd_ne hb]; exact e
    have n3 : ∀ b, upd H2 p (.ins CC dx (putF "ranks" (.ref D) [("letters", .ref m)])) b = none → H2 b = none := fun b e => by
      by_cases z : b = p
      · rw [z, upd_same] at e; cases e
      · rw [upd_ne z] at e; exact e
    generalize upd H2 p (.ins CC dx (putF "ranks" (.ref D) [("letters", .ref m)])) = H3_ at p3 k3 n3 ⊢
    have kk3 : ∀ b o, b ≠ p → H b = some o → H3_ b = some o := fun b o hb e => k3 b o hb (kk2 b o hb e)
    have nn3 : ∀ b, H3_ b = none → H b = none := fun b e => nn2 b (n3 b e)
    have eD3 := k3 _ _ Dp eD
    refine ⟨_, rfl, m, CL, dl, _, _, rfl, kk3 _ _ mp hm, hL0, nW, rfl, t, _, rfl, .inr (.inl (.inr ⟨ol, kk3 _ _ tp ht⟩)), ?_⟩
    rw [List.length_map]
    refine ⟨_, rfl, p, CC, dx, _, rfl, p3, hC.c, hC.a3, (by show 2 < 1000; decide), ?_⟩
    have p4 : upd H3_ p (.ins CC dx (putF "many" (iN ys.length) [("letters", .ref m), ("ranks", .ref D)])) p = some (.ins CC dx [("letters", .ref m), ("ranks", .ref D), ("many", iN ys.length)]) := upd_same
    have k4 : ∀ b o, b ≠ p → H3_ b = some o → upd H3_ p (.ins CC dx (putF "many" (iN ys.length) [("letters", .ref m), ("ranks", .ref D)])) b = some o := fun b o hb e => by rw [upd_ne hb]; exact e
    have n4 : ∀ b, upd H3_ p (.ins CC dx (putF "many" (iN ys.length) [("letters", .ref m), ("ranks", .ref D)])) b = none → H3_ b = none := fun b e => by
      by_cases z : b = p
      · rw [z, upd_same] at e; cases e
      · rw [upd_ne z] at e; exact e
    generalize upd H3_ p (.ins CC dx (putF "many" (iN ys.length) [("letters", .ref m), ("ranks", .ref D)])) = H4_ at p4 k4 n4 ⊢
    have kk4 : ∀ b o, b ≠ p → H b = some o → H4_ b = some o := fun b o hb e => k4 b o hb (kk3 b o hb e)
    have nn4 : ∀ b, H4_ b = none → H b = none := fun b e => nn3 b (n4 b e)
    have eD4 := k4 _ _ Dp eD3
    refine ⟨Nat.zero_le _, fun ro hro => ?_⟩
    have rop : ro ≠ p := fun z => by rw [z, p4] at hro; cases hro
    have nro : H ro = none := nn4 ro hro
    have s5 := Ask.Same.made1 (o := .lst []) (Same.refl H4_) hro
    have g5 : upd H4_ ro (.lst []) ro = some (.lst []) := upd_same
    have m5 : ∀ b, upd H4_ ro (.lst []) b = none → H4_ b = none := fun b e => s5.free e
    generalize upd H4_ ro (.lst []) = H5_ at s5 g5 m5 ⊢
    have eD5 := s5 _ _ eD4
    have dDro : D ≠ ro := ne_of_none eD4 hro
    have kk5 : ∀ b o, b ≠ p → H b = some o → H5_ b = some o := fun b o hb e => s5 _ _ (kk4 b o hb e)
    have nn5 : ∀ b, H5_ b = none → H b = none := fun b e => nn4 b (m5 b e)
    have p5 := s5 _ _ p4
    refine ⟨_, rfl, p, CC, dx, _, rfl, p5, hC.c, hC.a4, (by show 3 < 1000; decide), ?_⟩
    have p6 : upd H5_ p (.ins CC dx (putF "rows" (.ref ro) [("letters", .ref m), ("ranks", .ref D), ("many", iN ys.length)])) p = some (.ins CC dx [("letters", .ref m), ("ranks", .ref D), ("many", iN ys.length), ("rows", .ref ro)]) := upd_same
    have k6 : ∀ b o, b ≠ p → H5_ b = some o → upd H5_ p (.ins CC dx (putF "rows" (.ref ro) [("letters", .ref m), ("ranks", .ref D), ("many", iN ys.length)])) b = some o := fun b o hb e => by rw [upd_ne hb]; exact e
    have n6 : ∀ b, upd H5_ p (.ins CC dx (putF "rows" (.ref ro) [("letters", .ref m), ("ranks", .ref D), ("many", iN ys.length)])) b = none → H5_ b = none := fun b e => by
      by_cases z : b = p
      · rw [z, upd_same] at e; cases e
      · rw [upd_ne z] at e; exact e
    generalize upd H5_ p (.ins CC dx (putF "rows" (.ref ro) [("letters", .ref m), ("ranks", .ref D), ("many", iN ys.length)])) = H6_ at p6 k6 n6 ⊢
    have kk6 : ∀ b o, b ≠ p → H b = some o → H6_ b = some o := fun b o hb e => k6 b o hb (kk5 b o hb e)
    have nn6 : ∀ b, H6_ b = none → H b = none := fun b e => nn5 b (n6 b e)
    have eD6 := k6 _ _ Dp eD5
    have ero6 := k6 _ _ rop g5
    refine ⟨Nat.zero_le _, fun le hle => ?_⟩
    have lep : le ≠ p := fun z => by rw [z, p6] at hle; cases hle
    have nle : H le = none := nn6 le hle
    have s7 := Ask.Same.made1 (o := .lst []) (Same.refl H6_) hle
    have g7 : upd H6_ le (.lst []) le = some (.lst []) := upd_same
    have m7 : ∀ b, upd H6_ le (.lst []) b = none → H6_ b = none := fun b e => s7.free e
    generalize upd H6_ le (.lst []) = H7_ at s7 g7 m7 ⊢
    have eD7 := s7 _ _ eD6
    have dDle : D ≠ le := ne_of_none eD6 hle
    have ero7 := s7 _ _ ero6
    have drole : ro ≠ le := ne_of_none ero6 hle
    have kk7 : ∀ b o, b ≠ p → H b = some o → H7_ b = some o := fun b o hb e => s7 _ _ (kk6 b o hb e)
    have nn7 : ∀ b, H7_ b = none → H b = none := fun b e => nn6 b (m7 b e)
    have p7 := s7 _ _ p6
    refine ⟨_, rfl, p, CC, dx, _, rfl, p7, hC.c, hC.a5, (by show 4 < 1000; decide), ?_⟩
    have p8 : upd H7_ p (.ins CC dx (putF "lengths" (.ref le) [("letters", .ref m), ("ranks", .ref D), ("many", iN ys.length), ("rows", .ref ro)])) p = some (.ins CC dx [("letters", .ref m), ("ranks", .ref D), ("many", iN ys.length), ("rows", .ref ro), ("lengths", .ref le)]) := upd_same
    have k8 : ∀ b o, b ≠ p → H7_ b = some o → upd H7_ p (.ins CC dx (putF "lengths" (.ref le) [("letters", .ref m), ("ranks", .ref D), ("many", iN ys.length), ("rows", .ref ro)])) b = some o := fun b o hb e => by rw [upd_ne hb]; exact e
    have n8 : ∀ b, upd H7_ p (.ins CC dx (putF "lengths" (.ref le) [("letters", .ref m), ("ranks", .ref D), ("many", iN ys.length), ("rows", .ref ro)])) b = none → H7_ b = none := fun b e => by
      by_cases z : b = p
      · rw [z, upd_same] at e; cases e
      · rw [upd_ne z] at e; exact e
    generalize upd H7_ p (.ins CC dx (putF "lengths" (.ref le) [("letters", .ref m), ("ranks", .ref D), ("many", iN ys.length), ("rows", .ref ro)])) = H8_ at p8 k8 n8 ⊢
    have kk8 : ∀ b o, b ≠ p → H b = some o → H8_ b = some o := fun b o hb e => k8 b o hb (kk7 b o hb e)
    have nn8 : ∀ b, H8_ b = none → H b = none := fun b e => nn7 b (n8 b e)
    have eD8 := k8 _ _ Dp eD7
    have ero8 := k8 _ _ rop ero7
    have ele8 := k8 _ _ lep g7
    refine ⟨by show 1 ≤ sizeLine; omega, fun ulo hulo => ?_⟩
    have ulop : ulo ≠ p := fun z => by rw [z, p8] at hulo; cases hulo
    have nulo : H ulo = none := nn8 ulo hulo
    have s9 := Ask.Same.made1 (o := .lst [.non]) (Same.refl H8_) hulo
    have g9 : upd H8_ ulo (.lst [.non]) ulo = some (.lst [.non]) := upd_same
    have m9 : ∀ b, upd H8_ ulo (.lst [.non]) b = none → H8_ b = none := fun b e => s9.free e
    generalize upd H8_ ulo (.lst [.non]) = H9_ at s9 g9 m9 ⊢
    have eD9 := s9 _ _ eD8
    have dDulo : D ≠ ulo := ne_of_none eD8 hulo
    have ero9 := s9 _ _ ero8
    have droulo : ro ≠ ulo := ne_of_none ero8 hulo
    have ele9 := s9 _ _ ele8
    have dleulo : le ≠ ulo := ne_of_none ele8 hulo
    have kk9 : ∀ b o, b ≠ p → H b = some o → H9_ b = some o := fun b o hb e => s9 _ _ (kk8 b o hb e)
    have nn9 : ∀ b, H9_ b = none → H b = none := fun b e => nn8 b (m9 b e)
    have p9 := s9 _ _ p8
    refine ⟨_, rfl, p, CC, dx, _, _, rfl, p9, hC.c, hC.a3, rfl, ulo, _, [.non], rfl, rfl, g9, by omega, by omega, by show 1 * _ ≤ sizeLine; omega, fun lo hlo => ?_⟩
    rw [rep_flat]
    have lop : lo ≠ p := fun z => by rw [z, p9] at hlo; cases hlo
    have nlo : H lo = none := nn9 lo hlo
    have s10 := Ask.Same.made1 (o := .lst (List.replicate ys.length .non)) (Same.refl H9_) hlo
    have g10 : upd H9_ lo (.lst (List.replicate ys.length .non)) lo = some (.lst (List.replicate ys.length .non)) := upd_same
    have m10 : ∀ b, upd H9_ lo (.lst (List.replicate ys.length .non)) b = none → H9_ b = none := fun b e => s10.free e
    generalize upd H9_ lo (.lst (List.replicate ys.length .non)) = H10_ at s10 g10 m10 ⊢
    have eD10 := s10 _ _ eD9
    have dDlo : D ≠ lo := ne_of_none eD9 hlo
    have ero10 := s10 _ _ ero9
    have drolo : ro ≠ lo := ne_of_none ero9 hlo
    have ele10 := s10 _ _ ele9
    have dlelo : le ≠ lo := ne_of_none ele9 hlo
    have eulo10 := s10 _ _ g9
    have dulolo : ulo ≠ lo := ne_of_none g9 hlo
    have kk10 : ∀ b o, b ≠ p → H b = some o → H10_ b = some o := fun b o hb e => s10 _ _ (kk9 b o hb e)
    have nn10 : ∀ b, H10_ b = none → H b = none := fun b e => nn9 b (m10 b e)
    have p10 := s10 _ _ p9
    refine ⟨_, rfl, p, CC, dx, _, rfl, p10, hC.c, hC.a6, (by show 5 < 1000; decide), ?_⟩
    have p11 : upd H10_ p (.ins CC dx (putF "lone" (.ref lo) [("letters", .ref m), ("ranks", .ref D), ("many", iN ys.length), ("rows", .ref ro), ("lengths", .ref le)])) p = some (.ins CC dx [("letters", .ref m), ("ranks", .ref D), ("many", iN ys.length), ("rows", .ref ro), ("lengths", .ref le), ("lone", .ref lo)]) := upd_same
    have k11 : ∀ b o, b ≠ p → H10_ b = some o → upd H10_ p (.ins CC dx (putF "lone" (.ref lo) [("letters", .ref m), ("ranks", .ref D), ("many", iN ys.length), ("rows", .ref ro), ("lengths", .ref le)])) b = some o := fun b o hb e => by rw [upd_ne hb]; exact e
    have n11 : ∀ b, upd H10_ p (.ins CC dx (putF "lone" (.ref lo) [("letters", .ref m), ("ranks", .ref D), ("many", iN ys.length), ("rows", .ref ro), ("lengths", .ref le)])) b = none → H10_ b = none := fun b e => by
      by_cases z : b = p
      · rw [z, upd_same] at e; cases e
      · rw [upd_ne z] at e; exact e
    generalize upd H10_ p (.ins CC dx (putF "lone" (.ref lo) [("letters", .ref m), ("ranks", .ref D), ("many", iN ys.length), ("rows", .ref ro), ("lengths", .ref le)])) = H11_ at p11 k11 n11 ⊢
    have kk11 : ∀ b o, b ≠ p → H b = some o → H11_ b = some o := fun b o hb e => k11 b o hb (kk10 b o hb e)
    have nn11 : ∀ b, H11_ b = none → H b = none := fun b e => nn10 b (n11 b e)
    have eD11 := k11 _ _ Dp eD10
    have ero11 := k11 _ _ rop ero10
    have ele11 := k11 _ _ lep ele10
    have eulo11 := k11 _ _ ulop eulo10
    have elo11 := k11 _ _ lop g10
    refine ⟨by show 1 ≤ sizeLine; omega, fun ust hust => ?_⟩
    have ustp : ust ≠ p := fun z => by rw [z, p11] at hust; cases hust
    have nust : H ust = none := nn11 ust hust
    have s12 := Ask.Same.made1 (o := .lst [.non]) (Same.refl H11_) hust
    have g12 : upd H11_ ust (.lst [.non]) ust = some (.lst [.non]) := upd_same
    have m12 : ∀ b, upd H11_ ust (.lst [.non]) b = none → H11_ b = none := fun b e => s12.free e
    generalize upd H11_ ust (.lst [.non]) = H12_ at s12 g12 m12 ⊢
    have eD12 := s12 _ _ eD11
    have dDust : D ≠ ust := ne_of_none eD11 hust
    have ero12 := s12 _ _ ero11
    have droust : ro ≠ ust := ne_of_none ero11 hust
    have ele12 := s12 _ _ ele11
    have dleust : le ≠ ust := ne_of_none ele11 hust
    have eulo12 := s12 _ _ eulo11
    have duloust : ulo ≠ ust := ne_of_none eulo11 hust
    have elo12 := s12 _ _ elo11
    have dloust : lo ≠ ust := ne_of_none elo11 hust
    have kk12 : ∀ b o, b ≠ p → H b = some o → H12_ b = some o := fun b o hb e => s12 _ _ (kk11 b o hb e)
    have nn12 : ∀ b, H12_ b = none → H b = none := fun b e => nn11 b (m12 b e)
    have p12 := s12 _ _ p11
    refine ⟨_, rfl, p, CC, dx, _, _, rfl, p12, hC.c, hC.a3, rfl, ust, _, [.non], rfl, rfl, g12, by omega, by omega, by show 1 * _ ≤ sizeLine; omega, fun st hst => ?_⟩
    rw [rep_flat]
    have stp : st ≠ p := fun z => by rw [z, p12] at hst; cases hst
    have nst : H st = none := nn12 st hst
    have s13 := Ask.Same.made1 (o := .lst (List.replicate ys.length .non)) (Same.refl H12_) hst
    have g13 : upd H12_ st (.lst (List.replicate ys.length .non)) st = some (.lst (List.replicate ys.length .non)) := upd_same
    have m13 : ∀ b, upd H12_ st (.lst (List.replicate ys.length .non)) b = none → H12_ b = none := fun b e => s13.free e
    generalize upd H12_ st (.lst (List.replicate ys.length .non)) = H13_ at s13 g13 m13 ⊢
    have eD13 := s13 _ _ eD12
    have dDst : D ≠ st := ne_of_none eD12 hst
    have ero13 := s13 _ _ ero12
    have drost : ro ≠ st := ne_of_none ero12 hst
    have ele13 := s13 _ _ ele12
    have dlest : le ≠ st := ne_of_none ele12 hst
    have eulo13 := s13 _ _ eulo12
    have dulost : ulo ≠ st := ne_of_none eulo12 hst
    have elo13 := s13 _ _ elo12
    have dlost : lo ≠ st := ne_of_none elo12 hst
    have eust13 := s13 _ _ g12
    have dustst : ust ≠ st := ne_of_none g12 hst
    have kk13 : ∀ b o, b ≠ p → H b = some o → H13_ b = some o := fun b o hb e => s13 _ _ (kk12 b o hb e)
    have nn13 : ∀ b, H13_ b = none → H b = none := fun b e => nn12 b (m13 b e)
    have p13 := s13 _ _ p12
    refine ⟨_, rfl, p, CC, dx, _, rfl, p13, hC.c, hC.a7, (by show 6 < 1000; decide), ?_⟩
    have p14 : upd H13_ p (.ins CC dx (putF "still" (.ref st) [("letters", .ref m), ("ranks", .ref D), ("many", iN ys.length), ("rows", .ref ro), ("lengths", .ref le), ("lone", .ref lo)])) p = some (.ins CC dx [("letters", .ref m), ("ranks", .ref D), ("many", iN ys.length), ("rows", .ref ro), ("lengths", .ref le), ("lone", .ref lo), ("still", .ref st)]) := upd_same
    have k14 : ∀ b o, b ≠ p → H13_ b = some o → upd H13_ p (.ins CC dx (putF "still" (.ref st) [("letters", .ref m), ("ranks", .ref D), ("many", iN ys.length), ("rows", .ref ro), ("lengths", .ref le), ("lone", .ref lo)])) b = some o := fun b o hb e => by rw [upd_ne hb]; exact e
    have n14 : ∀ b, upd H13_ p (.ins CC dx (putF "still" (.ref st) [("letters", .ref m), ("ranks", .ref D), ("many", iN ys.length), ("rows", .ref ro), ("lengths", .ref le), ("lone", .ref lo)])) b = none → H13_ b = none := fun b e => by
      by_cases z : b = p
      · rw [z, upd_same] at e; cases e
      · rw [upd_ne z] at e; exact e
    generalize upd H13_ p (.ins CC dx (putF "still" (.ref st) [("letters", .ref m), ("ranks", .ref D), ("many", iN ys.length), ("rows", .ref ro), ("lengths", .ref le), ("lone", .ref lo)])) = H14_ at p14 k14 n14 ⊢
    have kk14 : ∀ b o, b ≠ p → H b = some o → H14_ b = some o := fun b o hb e => k14 b o hb (kk13 b o hb e)
    have nn14 : ∀ b, H14_ b = none → H b = none := fun b e => nn13 b (n14 b e)
    have eD14 := k14 _ _ Dp eD13
    have ero14 := k14 _ _ rop ero13
    have ele14 := k14 _ _ lep ele13
    have eulo14 := k14 _ _ ulop eulo13
    have elo14 := k14 _ _ lop elo13
    have eust14 := k14 _ _ ustp eust13
    have est14 := k14 _ _ stp g13
    refine ⟨by show 1 ≤ sizeLine; omega, fun upr hupr => ?_⟩
    have uprp : upr ≠ p := fun z => by rw [z, p14] at hupr; cases hupr
    have nupr : H upr = none := nn14 upr hupr
    have s15 := Ask.Same.made1 (o := .lst [.non]) (Same.refl H14_) hupr
    have g15 : upd H14_ upr (.lst [.non]) upr = some (.lst [.non]) := upd_same
    have m15 : ∀ b, upd H14_ upr (.lst [.non]) b = none → H14_ b = none := fun b e => s15.free e
    generalize upd H14_ upr (.lst [.non]) = H15_ at s15 g15 m15 ⊢
    have eD15 := s15 _ _ eD14
    have dDupr : D ≠ upr := ne_of_none eD14 hupr
    have ero15 := s15 _ _ ero14
    have droupr : ro ≠ upr := ne_of_none ero14 hupr
    have ele15 := s15 _ _ ele14
    have dleupr : le ≠ upr := ne_of_none ele14 hupr
    have eulo15 := s15 _ _ eulo14
    have duloupr : ulo ≠ upr := ne_of_none eulo14 hupr
    have elo15 := s15 _ _ elo14
    have dloupr : lo ≠ upr := ne_of_none elo14 hupr
    have eust15 := s15 _ _ eust14
    have dustupr : ust ≠ upr := ne_of_none eust14 hupr
    have est15 := s15 _ _ est14
    have dstupr : st ≠ upr := ne_of_none est14 hupr
    have kk15 : ∀ b o, b ≠ p → H b = some o → H15_ b = some o := fun b o hb e => s15 _ _ (kk14 b o hb e)
    have nn15 : ∀ b, H15_ b = none → H b = none := fun b e => nn14 b (m15 b e)
    have p15 := s15 _ _ p14
    refine ⟨_, rfl, p, CC, dx, _, _, rfl, p15, hC.c, hC.a3, rfl, _, rfl, p, CC, dx, _, _, rfl, p15, hC.c, hC.a3, rfl, _, _, rfl, rfl, mul_small (by omega), ?_⟩
    refine ⟨upr, ((ys.length * ys.length : Nat) : Int), [.non], rfl, congrArg V.int (Int.natCast_mul _ _).symm, g15, by omega, by omega, by show 1 * ((ys.length * ys.length : Nat) : Int).toNat ≤ sizeLine; rw [Int.toNat_natCast]; omega, fun pr hpr => ?_⟩
    rw [rep_flat]
    have prp : pr ≠ p := fun z => by rw [z, p15] at hpr; cases hpr
    have npr : H pr = none := nn15 pr hpr
    have s16 := Ask.Same.made1 (o := .lst (List.replicate (ys.length * ys.length) .non)) (Same.refl H15_) hpr
    have g16 : upd H15_ pr (.lst (List.replicate (ys.length * ys.length) .non)) pr = some (.lst (List.replicate (ys.length * ys.length) .non)) := upd_same
    have m16 : ∀ b, upd H15_ pr (.lst (List.replicate (ys.length * ys.length) .non)) b = none → H15_ b = none := fun b e => s16.free e
    generalize upd H15_ pr (.lst (List.replicate (ys.length * ys.length) .non)) = H16_ at s16 g16 m16 ⊢
    have eD16 := s16 _ _ eD15
    have dDpr : D ≠ pr := ne_of_none eD15 hpr
    have ero16 := s16 _ _ ero15
    have dropr : ro ≠ pr := ne_of_none ero15 hpr
    have ele16 := s16 _ _ ele15
    have dlepr : le ≠ pr := ne_of_none ele15 hpr
    have eulo16 := s16 _ _ eulo15
    have dulopr : ulo ≠ pr := ne_of_none eulo15 hpr
    have elo16 := s16 _ _ elo15
    have dlopr : lo ≠ pr := ne_of_none elo15 hpr
    have eust16 := s16 _ _ eust15
    have dustpr : ust ≠ pr := ne_of_none eust15 hpr
    have est16 := s16 _ _ est15
    have dstpr : st ≠ pr := ne_of_none est15 hpr
    have eupr16 := s16 _ _ g15
    have duprpr : upr ≠ pr := ne_of_none g15 hpr
    have kk16 : ∀ b o, b ≠ p → H b = some o → H16_ b = some o := fun b o hb e => s16 _ _ (kk15 b o hb e)
    have nn16 : ∀ b, H16_ b = none → H b = none := fun b e => nn15 b (m16 b e)
    have p16 := s16 _ _ p15
    refine ⟨_, rfl, p, CC, dx, _, rfl, p16, hC.c, hC.a8, (by show 7 < 1000; decide), ?_⟩
    have p17 : upd H16_ p (.ins CC dx (putF "pairs" (.ref pr) [("letters", .ref m), ("ranks", .ref D), ("many", iN ys.length), ("rows", .ref ro), ("lengths", .ref le), ("lone", .ref lo), ("still", .ref st)])) p = some (.ins CC dx [("letters", .ref m), ("ranks", .ref D), ("many", iN ys.length), ("rows", .ref ro), ("lengths", .ref le), ("lone", .ref lo), ("still", .ref st), ("pairs", .ref pr)]) := upd_same
    have k17 : ∀ b o, b ≠ p → H16_ b = some o → upd H16_ p (.ins CC dx (putF "pairs" (.ref pr) [("letters", .ref m), ("ranks", .ref D), ("many", iN ys.length), ("rows", .ref ro), ("lengths", .ref le), ("lone", .ref lo), ("still", .ref st)])) b = some o := fun b o hb e => by rw [upd_ne hb]; exact e
    have n17 : ∀ b, upd H16_ p (.ins CC dx (putF "pairs" (.ref pr) [("letters", .ref m), ("ranks", .ref D), ("many", iN ys.length), ("rows", .ref ro), ("lengths", .ref le), ("lone", .ref lo), ("still", .ref st)])) b = none → H16_ b = none := fun b e => by
      by_cases z : b = p
      · rw [z, upd_same] at e; cases e
      · rw [upd_ne z] at e; exact e
    generalize upd H16_ p (.ins CC dx (putF "pairs" (.ref pr) [("letters", .ref m), ("ranks", .ref D), ("many", iN ys.length), ("rows", .ref ro), ("lengths", .ref le), ("lone", .ref lo), ("still", .ref st)])) = H17_ at p17 k17 n17 ⊢
    have kk17 : ∀ b o, b ≠ p → H b = some o → H17_ b = some o := fun b o hb e => k17 b o hb (kk16 b o hb e)
    have nn17 : ∀ b, H17_ b = none → H b = none := fun b e => nn16 b (n17 b e)
    have eD17 := k17 _ _ Dp eD16
    have ero17 := k17 _ _ rop ero16
    have ele17 := k17 _ _ lep ele16
    have eulo17 := k17 _ _ ulop eulo16
    have elo17 := k17 _ _ lop elo16
    have eust17 := k17 _ _ ustp eust16
    have est17 := k17 _ _ stp est16
    have eupr17 := k17 _ _ uprp eupr16
    have epr17 := k17 _ _ prp g16
    refine fun wa hwa => ?_
    have wap : wa ≠ p := fun z => by rw [z, p17] at hwa; cases hwa
    have nwa : H wa = none := nn17 wa hwa
    have s18 := Ask.Same.made1 (o := .dK []) (Same.refl H17_) hwa
    have g18 : upd H17_ wa (.dK []) wa = some (.dK []) := upd_same
    have m18 : ∀ b, upd H17_ wa (.dK []) b = none → H17_ b = none := fun b e => s18.free e
    generalize upd H17_ wa (.dK []) = H18_ at s18 g18 m18 ⊢
    have eD18 := s18 _ _ eD17
    have dDwa : D ≠ wa := ne_of_none eD17 hwa
    have ero18 := s18 _ _ ero17
    have drowa : ro ≠ wa := ne_of_none ero17 hwa
    have ele18 := s18 _ _ ele17
    have dlewa : le ≠ wa := ne_of_none ele17 hwa
    have eulo18 := s18 _ _ eulo17
    have dulowa : ulo ≠ wa := ne_of_none eulo17 hwa
    have elo18 := s18 _ _ elo17
    have dlowa : lo ≠ wa := ne_of_none elo17 hwa
    have eust18 := s18 _ _ eust17
    have dustwa : ust ≠ wa := ne_of_none eust17 hwa
    have est18 := s18 _ _ est17
    have dstwa : st ≠ wa := ne_of_none est17 hwa
    have eupr18 := s18 _ _ eupr17
    have duprwa : upr ≠ wa := ne_of_none eupr17 hwa
    have epr18 := s18 _ _ epr17
    have dprwa : pr ≠ wa := ne_of_none epr17 hwa
    have kk18 : ∀ b o, b ≠ p → H b = some o → H18_ b = some o := fun b o hb e => s18 _ _ (kk17 b o hb e)
    have nn18 : ∀ b, H18_ b = none → H b = none := fun b e => nn17 b (m18 b e)
    have p18 := s18 _ _ p17
    refine ⟨_, rfl, p, CC, dx, _, rfl, p18, hC.c, hC.a9, (by show 8 < 1000; decide), ?_⟩
    have p19 : upd H18_ p (.ins CC dx (putF "waiting" (.ref wa) [("letters", .ref m), ("ranks", .ref D), ("many", iN ys.length), ("rows", .ref ro), ("lengths", .ref le), ("lone", .ref lo), ("still", .ref st), ("pairs", .ref pr)])) p = some (.ins CC dx [("letters", .ref m), ("ranks", .ref D), ("many", iN ys.length), ("rows", .ref ro), ("lengths", .ref le), ("lone", .ref lo), ("still", .ref st), ("pairs", .ref pr), ("waiting", .ref wa)]) := upd_same
    have k19 : ∀ b o, b ≠ p → H18_ b = some o → upd H18_ p (.ins CC dx (putF "waiting" (.ref wa) [("letters", .ref m), ("ranks", .ref D), ("many", iN ys.length), ("rows", .ref ro), ("lengths", .ref le), ("lone", .ref lo), ("still", .ref st), ("pairs", .ref pr)])) b = some o := fun b o hb e => by rw [upd_ne hb]; exact e
    have n19 : ∀ b, upd H18_ p (.ins CC dx (putF "waiting" (.ref wa) [("letters", .ref m), ("ranks", .ref D), ("many", iN ys.length), ("rows", .ref ro), ("lengths", .ref le), ("lone", .ref lo), ("still", .ref st), ("pairs", .ref pr)])) b = none → H18_ b = none := fun b e => by
      by_cases z : b = p
      · rw [z, upd_same] at e; cases e
      · rw [upd_ne z] at e; exact e
    generalize upd H18_ p (.ins CC dx (putF "waiting" (.ref wa) [("letters", .ref m), ("ranks", .ref D), ("many", iN ys.length), ("rows", .ref ro), ("lengths", .ref le), ("lone", .ref lo), ("still", .ref st), ("pairs", .ref pr)])) = H19_ at p19 k19 n19 ⊢
    have kk19 : ∀ b o, b ≠ p → H b = some o → H19_ b = some o := fun b o hb e => k19 b o hb (kk18 b o hb e)
    have nn19 : ∀ b, H19_ b = none → H b = none := fun b e => nn18 b (n19 b e)
    have eD19 := k19 _ _ Dp eD18
    have ero19 := k19 _ _ rop ero18
    have ele19 := k19 _ _ lep ele18
    have eulo19 := k19 _ _ ulop eulo18
    have elo19 := k19 _ _ lop elo18
    have eust19 := k19 _ _ ustp eust18
    have est19 := k19 _ _ stp est18
    have eupr19 := k19 _ _ uprp eupr18
    have epr19 := k19 _ _ prp epr18
    have ewa19 := k19 _ _ wap g18
    refine ⟨Nat.zero_le _, fun fr hfr => ?_⟩
    have frp : fr ≠ p := fun z => by rw [z, p19] at hfr; cases hfr
    have nfr : H fr = none := nn19 fr hfr
    have s20 := Ask.Same.made1 (o := .lst []) (Same.refl H19_) hfr
    have g20 : upd H19_ fr (.lst []) fr = some (.lst []) := upd_same
    have m20 : ∀ b, upd H19_ fr (.lst []) b = none → H19_ b = none := fun b e => s20.free e
    generalize upd H19_ fr (.lst []) = H20_ at s20 g20 m20 ⊢
    have eD20 := s20 _ _ eD19
    have dDfr : D ≠ fr := ne_of_none eD19 hfr
    have ero20 := s20 _ _ ero19
    have drofr : ro ≠ fr := ne_of_none ero19 hfr
    have ele20 := s20 _ _ ele19
    have dlefr : le ≠ fr := ne_of_none ele19 hfr
    have eulo20 := s20 _ _ eulo19
    have dulofr : ulo ≠ fr := ne_of_none eulo19 hfr
    have elo20 := s20 _ _ elo19
    have dlofr : lo ≠ fr := ne_of_none elo19 hfr
    have eust20 := s20 _ _ eust19
    have dustfr : ust ≠ fr := ne_of_none eust19 hfr
    have est20 := s20 _ _ est19
    have dstfr : st ≠ fr := ne_of_none est19 hfr
    have eupr20 := s20 _ _ eupr19
    have duprfr : upr ≠ fr := ne_of_none eupr19 hfr
    have epr20 := s20 _ _ epr19
    have dprfr : pr ≠ fr := ne_of_none epr19 hfr
    have ewa20 := s20 _ _ ewa19
    have dwafr : wa ≠ fr := ne_of_none ewa19 hfr
    have kk20 : ∀ b o, b ≠ p → H b = some o → H20_ b = some o := fun b o hb e => s20 _ _ (kk19 b o hb e)
    have nn20 : ∀ b, H20_ b = none → H b = none := fun b e => nn19 b (m20 b e)
    have p20 := s20 _ _ p19
    refine ⟨_, rfl, p, CC, dx, _, rfl, p20, hC.c, hC.aa, (by show 9 < 1000; decide), ?_⟩
    have p21 : upd H20_ p (.ins CC dx (putF "fresh" (.ref fr) [("letters", .ref m), ("ranks", .ref D), ("many", iN ys.length), ("rows", .ref ro), ("lengths", .ref le), ("lone", .ref lo), ("still", .ref st), ("pairs", .ref pr), ("waiting", .ref wa)])) p = some (.ins CC dx [("letters", .ref m), ("ranks", .ref D), ("many", iN ys.length), ("rows", .ref ro), ("lengths", .ref le), ("lone", .ref lo), ("still", .ref st), ("pairs", .ref pr), ("waiting", .ref wa), ("fresh", .ref fr)]) := upd_same
    have k21 : ∀ b o, b ≠ p → H20_ b = some o → upd H20_ p (.ins CC dx (putF "fresh" (.ref fr) [("letters", .ref m), ("ranks", .ref D), ("many", iN ys.length), ("rows", .ref ro), ("lengths", .ref le), ("lone", .ref lo), ("still", .ref st), ("pairs", .ref pr), ("waiting", .ref wa)])) b = some o := fun b o hb e => by rw [upd_ne hb]; exact e
    have n21 : ∀ b, upd H20_ p (.ins CC dx (putF "fresh" (.ref fr) [("letters", .ref m), ("ranks", .ref D), ("many", iN ys.length), ("rows", .ref ro), ("lengths", .ref le), ("lone", .ref lo), ("still", .ref st), ("pairs", .ref pr), ("waiting", .ref wa)])) b = none → H20_ b = none := fun b e => by
      by_cases z : b = p
      · rw [z, upd_same] at e; cases e
      · rw [upd_ne z] at e; exact e
    generalize upd H20_ p (.ins CC dx (putF "fresh" (.ref fr) [("letters", .ref m), ("ranks", .ref D), ("many", iN ys.length), ("rows", .ref ro), ("lengths", .ref le), ("lone", .ref lo), ("still", .ref st), ("pairs", .ref pr), ("waiting", .ref wa)])) = H21_ at p21 k21 n21 ⊢
    have kk21 : ∀ b o, b ≠ p → H b = some o → H21_ b = some o := fun b o hb e => k21 b o hb (kk20 b o hb e)
    have nn21 : ∀ b, H21_ b = none → H b = none := fun b e => nn20 b (n21 b e)
    have eD21 := k21 _ _ Dp eD20
    have ero21 := k21 _ _ rop ero20
    have ele21 := k21 _ _ lep ele20
    have eulo21 := k21 _ _ ulop eulo20
    have elo21 := k21 _ _ lop elo20
    have eust21 := k21 _ _ ustp eust20
    have est21 := k21 _ _ stp est20
    have eupr21 := k21 _ _ uprp eupr20
    have epr21 := k21 _ _ prp epr20
    have ewa21 := k21 _ _ wap ewa20
    have efr21 := k21 _ _ frp g20
    refine ⟨_, rfl, p, CC, dx, _, rfl, p21, hC.c, hC.ab, (by show 10 < 1000; decide), ?_⟩
    have p22 : upd H21_ p (.ins CC dx (putF "offered" (.int 0) [("letters", .ref m), ("ranks", .ref D), ("many", iN ys.length), ("rows", .ref ro), ("lengths", .ref le), ("lone", .ref lo), ("still", .ref st), ("pairs", .ref pr), ("waiting", .ref wa), ("fresh", .ref fr)])) p = some (.ins CC dx [("letters", .ref m), ("ranks", .ref D), ("many", iN ys.length), ("rows", .ref ro), ("lengths", .ref le), ("lone", .ref lo), ("still", .ref st), ("pairs", .ref pr), ("waiting", .ref wa), ("fresh", .ref fr), ("offered", .int 0)]) := upd_same
    have k22 : ∀ b o, b ≠ p → H21_ b = some o → upd H21_ p (.ins CC dx (putF "offered" (.int 0) [("letters", .ref m), ("ranks", .ref D), ("many", iN ys.length), ("rows", .ref ro), ("lengths", .ref le), ("lone", .ref lo), ("still", .ref st), ("pairs", .ref pr), ("waiting", .ref wa), ("fresh", .ref fr)])) b = some o := fun b o hb e => by rw [upd_ne hb]; exact e
    have n22 : ∀ b, upd H21_ p (.ins CC dx (putF "offered" (.int 0) [("letters", .ref m), ("ranks", .ref D), ("many", iN ys.length), ("rows", .ref ro), ("lengths", .ref le), ("lone", .ref lo), ("still", .ref st), ("pairs", .ref pr), ("waiting", .ref wa), ("fresh", .ref fr)])) b = none → H21_ b = none := fun b e => by
      by_cases z : b = p
      · rw [z, upd_same] at e; cases e
      · rw [upd_ne z] at e; exact e
    generalize upd H21_ p (.ins CC dx (putF "offered" (.int 0) [("letters", .ref m), ("ranks", .ref D), ("many", iN ys.length), ("rows", .ref ro), ("lengths", .ref le), ("lone", .ref lo), ("still", .ref st), ("pairs", .ref pr), ("waiting", .ref wa), ("fresh", .ref fr)])) = H22_ at p22 k22 n22 ⊢
    have kk22 : ∀ b o, b ≠ p → H b = some o → H22_ b = some o := fun b o hb e => k22 b o hb (kk21 b o hb e)
    have nn22 : ∀ b, H22_ b = none → H b = none := fun b e => nn21 b (n22 b e)
    have eD22 := k22 _ _ Dp eD21
    have ero22 := k22 _ _ rop ero21
    have ele22 := k22 _ _ lep ele21
    have eulo22 := k22 _ _ ulop eulo21
    have elo22 := k22 _ _ lop elo21
    have eust22 := k22 _ _ ustp eust21
    have est22 := k22 _ _ stp est21
    have eupr22 := k22 _ _ uprp eupr21
    have epr22 := k22 _ _ prp epr21
    have ewa22 := k22 _ _ wap ewa21
    have efr22 := k22 _ _ frp efr21
    refine kq H22_ ⟨m, D, ro, le, lo, st, pr, wa, fr⟩ rfl kk22 p22 eD22 ero22 ele22 elo22 est22 epr22 ewa22 efr22 ?_ ?_
    · simp [dDro, dDle, dDlo, dDst, dDpr, dDwa, dDfr, drole, drolo, drost, dropr, drowa, drofr, dlelo, dlest, dlepr, dlewa, dlefr, dlost, dlopr, dlowa, dlofr, dstpr, dstwa, dstfr, dprwa, dprfr, dwafr]
    · intro b hb
      simp only [List.mem_cons, List.not_mem_nil, or_false] at hb
      rcases hb with rfl | rfl | rfl | rfl | rfl | rfl | rfl | rfl <;> assumption
end
end Ask

/-! a completion whose equations are all settled: its rules looked at -/
namespace Ask
open PySem L2
/-- a rule: what a word is struck to, the row that shows it -/
abbrev Rul := Option (List Nat × Nat)
/-- the rules of a completion -/
structure CmS where
  lone : List Rul
  still : List Rul
  pairs : List Rul
def RulV (H : Hp) (o : Rul) (v : V) : Prop := match o with
  | none => v = .non
  | some (r, i) => ∃ t a : Addr, v = .ref t ∧ H t = some (.tup [.ref a, iN i]) ∧ H a = some (.tup (r.map iN))
theorem RulV.non {H : Hp} {o : Rul} {v : V} (h : RulV H o v) : decide (v = .non) = o.isNone := by
  cases o with
  | none => rw [show v = .non from h]; rfl
  | some x =>
    obtain ⟨t, a, rfl, _⟩ := h
    exact decide_eq_false (fun z => nomatch z)
def RulL (H : Hp) (a : Addr) (l : List Rul) : Prop := ∃ vs, H a = some (.lst vs) ∧ vs.length = l.length ∧ ∀ (i : Nat) (v : V) (o : Rul), vs[i]? = some v → l[i]? = some o → RulV H o v
theorem RulL.get {H : Hp} {a : Addr} {l : List Rul} (h : RulL H a l) {i : Nat} (hi : i < l.length) : ∃ vs v o, H a = some (.lst vs) ∧ vs[i]? = some v ∧ l[i]? = some o ∧ RulV H o v := by
  obtain ⟨vs, e, n, k⟩ := h
  exact ⟨vs, _, _, e, List.getElem?_eq_getElem (by rw [n]; exact hi), List.getElem?_eq_getElem hi, k i _ _ (List.getElem?_eq_getElem (by rw [n]; exact hi)) (List.getElem?_eq_getElem hi)⟩
/-- the rules stand where the completion's attributes say -/
structure CmR (K : PySem.W.Frag) (CC : Addr) (H : Hp) (p dx : Addr) (A : CmA) (n off : Nat) (S : CmS) : Prop where
  at_ : H p = some (.ins CC dx (fsC A n off))
  lone : RulL H A.lo S.lone
  still : RulL H A.st S.still
  pairs : RulL H A.pr S.pairs
  l1 : S.lone.length = n
  l2 : S.still.length = n
  l3 : S.pairs.length = n * n
  n12 : n ≤ 12
def CmS.lo (S : CmS) (x : Nat) : Rul := (S.lone[x]?).getD none
def CmS.stl (S : CmS) (x : Nat) : Rul := (S.still[x]?).getD none
def CmS.pr (S : CmS) (n x y : Nat) : Rul := (S.pairs[x * n + y]?).getD none
theorem pr_lt {x y n : Nat} (hx : x < n) (hy : y < n) : x * n + y < n * n := by
  have : (x + 1) * n ≤ n * n := Nat.mul_le_mul_right n hx
  rw [Nat.add_mul, Nat.one_mul] at this
  omega
/-- no rule strikes the word, which has at most two letters -/
def CmS.firm (S : CmS) (n : Nat) (b : Str) (w : List Nat) : Bool := match w with
  | [] => true
  | [x] => !(decide (b = "new") && (S.stl x).isSome) && (S.lo x).isNone
  | [x, y] => !(decide (b = "new") && (S.stl x).isSome) && !(S.pr n x y).isSome && ((S.lo x).isNone && (S.lo y).isNone)
  | _ => false
section
variable {P : Program} {w : World} {K : PySem.W.Frag} {mg : Str → Option Value} {base : Heap}
def spFirm (K : PySem.W.Frag) (CC : Addr) : Sp := fun vs H Q _ => ∃ (p dx a : Addr) (A : CmA) (n off : Nat) (S : CmS) (b : Str) (wd : List Nat), vs = [.ref p, .str b, .ref a] ∧ CmR K CC H p dx A n off S ∧ H a = some (.tup (wd.map iN)) ∧ wd.length ≤ 2 ∧ (∀ x ∈ wd, x < n) ∧
  ∀ H', Same H H' → Q (.bl (S.firm n b wd)) H'

abbrev s_Completion_is_struck : Stmt := inClass (top 58) 15
theorem sc_Completion_is_struck : FnScope ["self", "beginning", "word", "letter"] ["self", "beginning", "word"] (defScope s_Completion_is_struck) := ⟨rfl, rfl, rfl, by decide +kernel, rfl, by decide +kernel, by decide +kernel⟩
theorem ok_firm {f CC : Addr} {fd : FuncData} (F : Fun K "is_struck" "Completion.is_struck" s_Completion_is_struck f fd) (T : Blt mg) (hC : CmC K CC) : FnOk P w K mg base CX0 1 f fd ["self", "beginning", "word"] (spFirm K CC) := by
  refine F.ok sc_Completion_is_struck (fun vs H Q E h => ?_) (fun cdv A outer s H vs Q E hr h => ?_)
  · obtain ⟨p, dx, a, A, n, off, S, b, wd, rfl, _⟩ := h
    rfl
  · obtain ⟨p, dx, a, A, n, off, S, b, wd, rfl, R, ha, l2, lt, kq⟩ := h
    have z1 : (100000 : Nat) ≤ sizeLine := by decide
    refine ⟨_, (pss_cons (ps_if (PW.pt (pw_and (pt_cmpR op_eq (pv 1) pe_str (nomark _)) (pw_and (pt_truth (pv 2) (by intro _; rfl)) (pw_and1 (pt_cmpR op_notN (pe_ix ix_list (pe_fld (pv 0) rfl) (pe_ix ix_tup (pv 2) pe_int (fun _ _ => rfl)) (fun _ _ => rfl)) pe_non (nomark _)))))) (pss_one (ps_ret pe_bl)) pss_nil)
      (pss_cons (ps_if (PW.pt (pw_and (pt_cmpR op_eq (pe_callB call_len_seq (by rfl) T.n_len (by decide +kernel) (pa_cons (pv 2) pa_nil)) pe_int (nomark _)) (pw_and1 (pt_cmpR op_notN (pe_ix ix_list (pe_fld (pv 0) rfl) (pe_op op_add (pe_op op_mul (pe_ix ix_tup (pv 2) pe_int (fun _ _ => rfl)) (pe_fld (pv 0) rfl)) (pe_ix ix_tup (pv 2) pe_int (fun _ _ => rfl))) (fun _ _ => rfl)) pe_non (nomark _))))) (pss_one (ps_ret pe_bl)) pss_nil)
      (pss_one (ps_ret (pe_callB (cr_all rfl) (by rfl) T.n_all (by decide +kernel) (pa_cons (pe_lc (own := [("letter", 3)]) rfl sc_Completion_is_struck.nd (pi_tup (pv 2)) (blkOk_by (N := ["self", "beginning", "word", "letter"]) (sc := defScope s_Completion_is_struck) (by decide +kernel)) (fun _ _ _ _ _ => (pg_name (i := 3) sc_Completion_is_struck.nd rfl (Or.inl rfl))) (fun _ _ _ _ _ => pts_nil) (fun _ _ _ _ _ => (pe_cmpR (show OpR _ _ (fun x y H Q => y = V.non ∧ Q (.bl (decide (x = V.non))) H) from op_isN) (pe_ix (show IxR _ (rIxL K) from ix_list) (show PE _ _ (tFld K _ "lone") from pe_fld (pv 0) rfl) (pv 3) (fun _ _ => rfl)) pe_non (nomark _)))) pa_nil)))))), ?_⟩
    have sd : ∀ z : Str, decide (V.str b = V.str z) = decide (b = z) := fun z => decide_eq_decide.mpr ⟨V.str.inj, fun e => by rw [e]⟩
    have hat : ∀ (i : Nat) (x : Nat), wd[i]? = some x → (wd.map iN)[i]? = some (iN x) := fun i x e => by rw [List.getElem?_map, e]; rfl
    have lG : ∀ x, x < n → ∃ vs v, H A.lo = some (.lst vs) ∧ vs[x]? = some v ∧ decide (v = .non) = (S.lo x).isNone := fun x hx => by
      obtain ⟨vs, v, o, e1, e2, e3, e4⟩ := R.lone.get (i := x) (by rw [R.l1]; exact hx)
      exact ⟨vs, v, e1, e2, by rw [e4.non]; unfold CmS.lo; rw [e3]; rfl⟩
    have sG : ∀ x, x < n → ∃ vs v, H A.st = some (.lst vs) ∧ vs[x]? = some v ∧ decide (v = .non) = (S.stl x).isNone := fun x hx => by
      obtain ⟨vs, v, o, e1, e2, e3, e4⟩ := R.still.get (i := x) (by rw [R.l2]; exact hx)
      exact ⟨vs, v, e1, e2, by rw [e4.non]; unfold CmS.stl; rw [e3]; rfl⟩
    have pG : ∀ x y, x < n → y < n → ∃ vs v, H A.pr = some (.lst vs) ∧ vs[x * n + y]? = some v ∧ decide (v = .non) = (S.pr n x y).isNone := fun x y hx hy => by
      obtain ⟨vs, v, o, e1, e2, e3, e4⟩ := R.pairs.get (i := x * n + y) (by rw [R.l3]; exact pr_lt hx hy)
      exact ⟨vs, v, e1, e2, by rw [e4.non]; unfold CmS.pr; rw [e3]; rfl⟩
    have nI : ∀ o : Rul, o.isNone = true ∨ o.isNone = false ∧ o.isSome = true := fun o => by cases o <;> simp
    have n12 := R.n12
    by_cases f1 : b = "new" ∧ ∃ x r, wd = x :: r ∧ (S.stl x).isSome = true
    · obtain ⟨rfl, x, r, rfl, sx⟩ := f1
      obtain ⟨vs, v, e1, e2, e3⟩ := sG x (lt x List.mem_cons_self)
      have sn : (S.stl x).isNone = false := by cases q : S.stl x <;> simp_all
      refine ⟨_, rfl, rfl, _, rfl, ?_⟩
      rw [decide_eq_true (rfl : V.str "new" = V.str "new")]
      refine iteT ⟨_, rfl, true, .inr (.inl ⟨_, SqT.of ha, rfl⟩), iteT ?_⟩
      refine ⟨_, rfl, p, CC, dx, _, _, rfl, R.at_, hC.c, hC.a7, rfl, _, rfl, a, _, _, iN x, rfl, rfl, SqT.of ha, at_by (j := 0) rfl rfl, A.st, _, _, v, rfl, rfl, SqL.of e1, at_by (j := x) rfl e2, rfl, _, rfl, ?_⟩
      rw [e3, sn]
      refine iteT ?_
      have fm : S.firm n "new" (x :: r) = false := by
        match r, l2 with
        | [], _ => show (!(decide (("new" : Str) = "new") && (S.stl x).isSome) && _) = false; rw [sx, decide_eq_true rfl]; rfl
        | [y], _ => show (!(decide (("new" : Str) = "new") && (S.stl x).isSome) && _ && _) = false; rw [sx, decide_eq_true rfl]; rfl
      rw [← fm]
      exact kq H (Same.refl _)
    refine seqIfS_cut ?_ (fun N hN => ?_)
    rotate_left
    · refine ⟨_, rfl, rfl, _, rfl, ?_⟩
      rw [sd]
      by_cases cb : b = "new"
      · rw [decide_eq_true cb]
        cases wd with
        | nil => exact iteT ⟨_, rfl, false, .inr (.inl ⟨_, SqT.of ha, rfl⟩), iteF (iteF hN)⟩
        | cons x r =>
          obtain ⟨vs, v, e1, e2, e3⟩ := sG x (lt x List.mem_cons_self)
          have sn : (S.stl x).isNone = true := (nI (S.stl x)).resolve_right fun z => f1 ⟨cb, x, r, rfl, z.2⟩
          refine iteT ⟨_, rfl, true, .inr (.inl ⟨_, SqT.of ha, rfl⟩), iteT ?_⟩
          refine ⟨_, rfl, p, CC, dx, _, _, rfl, R.at_, hC.c, hC.a7, rfl, _, rfl, a, _, _, iN x, rfl, rfl, SqT.of ha, at_by (j := 0) rfl rfl, A.st, _, _, v, rfl, rfl, SqL.of e1, at_by (j := x) rfl e2, rfl, _, rfl, ?_⟩
          rw [e3, sn]
          exact iteF hN
      · rw [decide_eq_false cb]
        exact iteF (iteF hN)
    have mulS : ∀ x, x < n → -(2 ^ 64) < (x : Int) ∧ (x : Int) < 2 ^ 64 := fun x hx => by omega
    have pat : ∀ x y : Nat, (x : Int) * (n : Int) + (y : Int) = ((x * n + y : Nat) : Int) := fun x y => by rw [Int.natCast_add, Int.natCast_mul]
    by_cases f2 : ∃ x y, wd = [x, y] ∧ (S.pr n x y).isSome = true
    · obtain ⟨x, y, rfl, sx⟩ := f2
      have hx := lt x List.mem_cons_self
      have hy := lt y (List.mem_cons_of_mem _ List.mem_cons_self)
      obtain ⟨vs, v, e1, e2, e3⟩ := pG x y hx hy
      have sn : (S.pr n x y).isNone = false := by cases q : S.pr n x y <;> simp_all
      refine ⟨_, rfl, a, _, rfl, .inr (SqT.of ha), rfl, _, rfl, ?_⟩
      rw [decide_eq_true (show V.int ((([x, y].map iN).length : Nat) : Int) = V.int 2 from rfl)]
      refine iteT ⟨_, rfl, p, CC, dx, _, _, rfl, R.at_, hC.c, hC.a8, rfl, _, rfl, a, _, _, iN x, rfl, rfl, SqT.of ha, at_by (j := 0) rfl rfl, _, rfl, p, CC, dx, _, _, rfl, R.at_, hC.c, hC.a3, rfl, _, _, rfl, rfl, mul_small (mulS x hx), _, rfl, a, _, _, iN y, rfl, rfl, SqT.of ha, at_by (j := 1) rfl rfl, _, _, rfl, rfl, A.pr, _, _, v, rfl, rfl, SqL.of e1, at_by (j := x * n + y) (pat x y) e2, rfl, _, rfl, ?_⟩
      rw [e3, sn]
      refine iteT ?_
      have fm : S.firm n b [x, y] = false := by
        show (_ && !(S.pr n x y).isSome && _) = false
        rw [sx]
        simp
      rw [← fm]
      exact kq H (Same.refl _)
    refine seqIfS_cut ?_ (fun N hN => ?_)
    rotate_left
    · refine ⟨_, rfl, a, _, rfl, .inr (SqT.of ha), rfl, _, rfl, ?_⟩
      rw [List.length_map]
      by_cases c2 : wd.length = 2
      · rw [decide_eq_true (show V.int ((wd.length : Nat) : Int) = V.int 2 by rw [c2]; rfl)]
        obtain ⟨x, y, rfl⟩ : ∃ x y, wd = [x, y] := by
          match wd, c2 with
          | [x, y], _ => exact ⟨x, y, rfl⟩
        have hx := lt x List.mem_cons_self
        have hy := lt y (List.mem_cons_of_mem _ List.mem_cons_self)
        obtain ⟨vs, v, e1, e2, e3⟩ := pG x y hx hy
        have sn : (S.pr n x y).isNone = true := (nI (S.pr n x y)).resolve_right fun z => f2 ⟨x, y, rfl, z.2⟩
        refine iteT ⟨_, rfl, p, CC, dx, _, _, rfl, R.at_, hC.c, hC.a8, rfl, _, rfl, a, _, _, iN x, rfl, rfl, SqT.of ha, at_by (j := 0) rfl rfl, _, rfl, p, CC, dx, _, _, rfl, R.at_, hC.c, hC.a3, rfl, _, _, rfl, rfl, mul_small (mulS x hx), _, rfl, a, _, _, iN y, rfl, rfl, SqT.of ha, at_by (j := 1) rfl rfl, _, _, rfl, rfl, A.pr, _, _, v, rfl, rfl, SqL.of e1, at_by (j := x * n + y) (pat x y) e2, rfl, _, rfl, ?_⟩
        rw [e3, sn]
        exact iteF hN
      · rw [decide_eq_false (show ¬ V.int ((wd.length : Nat) : Int) = V.int 2 from fun z => c2 (by have := V.int.inj z; omega))]
        exact iteF (iteF hN)
    refine ⟨_, rfl, a, rfl, ⟨_, SqT.of ha⟩, fun L hL => ?_⟩
    refine lc_it (walk_tup (xs := wd.map iN)) (fun i H' => H' L = some (.lst (((wd.take i).map fun x => (S.lo x).isNone).map V.bl)) ∧ Same H H') ⟨by rw [upd_same, List.take_zero]; rfl, Ask.Same.upd_new (Same.refl _) hL⟩ (fun _ H' _ ⟨_, s'⟩ => SqT.of (s' _ _ ha)) ?_ ?_
    · rintro i v HB' HB hi ⟨p1, p2⟩ ⟨rfl, hv⟩
      rw [List.length_map] at hi
      obtain ⟨x, hx⟩ : ∃ x, wd[i]? = some x := ⟨_, List.getElem?_eq_getElem hi⟩
      rw [List.getElem?_map, hx] at hv
      cases hv
      obtain ⟨vs, v, e1, e2, e3⟩ := lG x (lt x (List.mem_of_getElem? hx))
      refine ⟨rfl, _, rfl, p, CC, dx, _, _, rfl, p2 _ _ R.at_, hC.c, hC.a6, rfl, _, rfl, A.lo, _, _, v, rfl, rfl, SqL.of (p2 _ _ e1), at_by (j := x) rfl e2, rfl, _, p1, by rw [List.length_map, List.length_map, List.length_take]; omega, ?_, Ask.Same.upd_new p2 hL⟩
      rw [upd_same, List.take_add_one, hx, List.map_append, List.map_append, e3]
      rfl
    rintro H2 ⟨p1, s2⟩
    rw [List.length_map, List.take_length] at p1
    refine ⟨L, _, rfl, SqL.of p1, ?_⟩
    have fm : (wd.map fun x => (S.lo x).isNone).all id = S.firm n b wd := by
      have g1 : ∀ x r, wd = x :: r → (!(decide (b = "new") && (S.stl x).isSome)) = true := fun x r e => by
        rw [Bool.not_eq_true', Bool.and_eq_false_iff]
        by_cases c : b = "new"
        · right
          cases q : (S.stl x).isSome with
          | false => rfl
          | true => exact absurd ⟨c, x, r, e, q⟩ f1
        · left
          exact decide_eq_false c
      match wd, l2, f2, g1 with
      | [], _, _, _ => rfl
      | [x], _, _, g1 =>
        show ((S.lo x).isNone && true) = (_ && (S.lo x).isNone)
        rw [g1 x [] rfl, Bool.true_and, Bool.and_true]
      | [x, y], _, f2, g1 =>
        have g2 : (!(S.pr n x y).isSome) = true := by
          cases q : (S.pr n x y).isSome with
          | false => rfl
          | true => exact absurd ⟨x, y, rfl, q⟩ f2
        show ((S.lo x).isNone && ((S.lo y).isNone && true)) = (_ && _ && ((S.lo x).isNone && (S.lo y).isNone))
        rw [g1 x [y] rfl, g2, Bool.true_and, Bool.true_and, Bool.and_true]
    rw [fm]
    exact kq H2 s2
end
end Ask

/-! the rule at a place of a word -/
namespace Ask
open PySem L2
/-- the size of a left side that stands at a place, and its rule -/
def CmS.ruleAt (S : CmS) (n : Nat) (b : Str) (wd : List Nat) (i : Nat) : Nat × Rul :=
  let x := (wd[i]?).getD 0
  if (S.lo x).isSome then (1, S.lo x) else if i + 1 < wd.length ∧ (S.pr n x ((wd[i + 1]?).getD 0)).isSome then (2, S.pr n x ((wd[i + 1]?).getD 0)) else (1, if b = "new" ∧ i = 0 then S.stl x else none)
section
variable {P : Program} {w : World} {K : PySem.W.Frag} {mg : Str → Option Value} {base : Heap}
def spRuleAt (K : PySem.W.Frag) (CC : Addr) : Sp := fun vs H Q _ => ∃ (p dx a : Addr) (A : CmA) (n off : Nat) (S : CmS) (b : Str) (wd : List Nat) (i : Nat), vs = [.ref p, .str b, .ref a, iN i] ∧ CmR K CC H p dx A n off S ∧ H a = some (.tup (wd.map iN)) ∧ wd.length ≤ 4 ∧ i < wd.length ∧ (∀ x ∈ wd, x < n) ∧
  ∀ (H' : Hp) (t : Addr) (v : V), Same H H' → H' t = some (.tup [iN (S.ruleAt n b wd i).1, v]) → RulV H' (S.ruleAt n b wd i).2 v → Q (.ref t) H'
theorem non_of {o : Rul} (h : ¬ o.isSome = true) : o.isNone = true := by
  cases o with
  | none => rfl
  | some x => exact absurd rfl h
theorem some_non {o : Rul} (h : o.isSome = true) : o.isNone = false := by
  cases o with
  | none => cases h
  | some x => rfl
theorem RulV.same {H H' : Hp} {o : Rul} {v : V} (h : RulV H o v) (s : Same H H') : RulV H' o v := by
  cases o with
  | none => exact h
  | some x =>
    obtain ⟨t, a, e, h1, h2⟩ := h
    exact ⟨t, a, e, s _ _ h1, s _ _ h2⟩

abbrev s_Completion_rule_at : Stmt := inClass (top 58) 17
theorem sc_Completion_rule_at : FnScope ["self", "beginning", "word", "place", "letter", "rule"] ["self", "beginning", "word", "place"] (defScope s_Completion_rule_at) := ⟨rfl, rfl, rfl, by decide +kernel, rfl, by decide +kernel, by decide +kernel⟩
theorem ok_ruleAt {f CC : Addr} {fd : FuncData} (F : Fun K "rule_at" "Completion.rule_at" s_Completion_rule_at f fd) (T : Blt mg) (hC : CmC K CC) : FnOk P w K mg base CX0 1 f fd ["self", "beginning", "word", "place"] (spRuleAt K CC) := by
  refine F.ok sc_Completion_rule_at (fun vs H Q E h => ?_) (fun cdv A outer s H vs Q E hr h => ?_)
  · obtain ⟨p, dx, a, A, n, off, S, b, wd, i, rfl, _⟩ := h
    rfl
  · obtain ⟨p, dx, a, A, n, off, S, b, wd, i, rfl, R, ha, l4, li, lt, kq⟩ := h
    have z1 : (100000 : Nat) ≤ sizeLine := by decide
    refine ⟨_, (pss_cons (ps_set (i := 4) sc_Completion_rule_at.nd rfl (Or.inl rfl) (pe_ix ix_tup (pv 2) (pv 3) (fun _ _ => rfl)))
      (pss_cons (ps_if (pt_cmpR op_notN (pe_ix ix_list (pe_fld (pv 0) rfl) (pv 4) (fun _ _ => rfl)) pe_non (nomark _)) (pss_one (ps_ret (pe_tup (pa_cons pe_int (pa_cons (pe_ix ix_list (pe_fld (pv 0) rfl) (pv 4) (fun _ _ => rfl)) pa_nil))))) pss_nil)
      (pss_cons (ps_if (pt_cmpR op_lt (pe_op op_add (pv 3) pe_int) (pe_callB call_len_seq (by rfl) T.n_len (by decide +kernel) (pa_cons (pv 2) pa_nil)) (nomark _)) (pss_cons (ps_set (i := 5) sc_Completion_rule_at.nd rfl (Or.inl rfl) (pe_ix ix_list (pe_fld (pv 0) rfl) (pe_op op_add (pe_op op_mul (pv 4) (pe_fld (pv 0) rfl)) (pe_ix ix_tup (pv 2) (pe_op op_add (pv 3) pe_int) (fun _ _ => rfl))) (fun _ _ => rfl)))
      (pss_one (ps_if (pt_cmpR op_notN (pv 5) pe_non (nomark _)) (pss_one (ps_ret (pe_tup (pa_cons pe_int (pa_cons (pv 5) pa_nil))))) pss_nil))) pss_nil)
      (pss_one (ps_ret (pe_tup (pa_cons pe_int (pa_cons (pe_ifExp (PW.pt (pw_and (pt_cmpR op_eq (pv 1) pe_str (nomark _)) (pw_and1 (pt_cmpR op_eq (pv 3) pe_int (nomark _))))) (pe_ix ix_list (pe_fld (pv 0) rfl) (pv 4) (fun _ _ => rfl)) pe_non) pa_nil)))))))), ?_⟩
    have sd : ∀ z : Str, decide (V.str b = V.str z) = decide (b = z) := fun z => decide_eq_decide.mpr ⟨V.str.inj, fun e => by rw [e]⟩
    have n12 := R.n12
    obtain ⟨x, hx⟩ : ∃ x, wd[i]? = some x := ⟨_, List.getElem?_eq_getElem li⟩
    have lx := lt x (List.mem_of_getElem? hx)
    have ex : (wd[i]?).getD 0 = x := by rw [hx]; rfl
    have fin : ∀ (H0 : Hp) (k : Nat) (v : V), Same H H0 → S.ruleAt n b wd i = (k, (S.ruleAt n b wd i).2) → RulV H0 (S.ruleAt n b wd i).2 v → ∀ t, H0 t = none → Q (.ref t) (upd H0 t (.tup [iN k, v])) := fun H0 k v s0 e r t ht => by
      have s1 := Ask.Same.made1 (o := .tup [iN k, v]) (Same.refl H0) ht
      exact kq _ t v (s0.trans s1) (by rw [upd_same, e]) (r.same s1)
    obtain ⟨vs, v, o, e1, e2, e3, e4⟩ := R.lone.get (i := x) (by rw [R.l1]; exact lx)
    have eo : S.lo x = o := by unfold CmS.lo; rw [e3]; rfl
    have fl : ∀ u : V, decide (u = .non) = true ∨ decide (u = .non) = false := fun u => by cases decide (u = .non) <;> simp
    refine ⟨_, rfl, _, rfl, a, _, _, iN x, rfl, rfl, SqT.of ha, at_by (j := i) rfl (by rw [List.getElem?_map, hx]; rfl), ?_⟩
    try dsimp only
    by_cases c1 : (S.lo x).isSome = true
    · have rn : S.ruleAt n b wd i = (1, S.lo x) := by unfold CmS.ruleAt; rw [ex]; exact if_pos c1
      refine ⟨_, rfl, p, CC, dx, _, _, rfl, R.at_, hC.c, hC.a6, rfl, _, rfl, A.lo, _, _, v, rfl, rfl, SqL.of e1, at_by (j := x) rfl e2, rfl, _, rfl, ?_⟩
      rw [e4.non, ← eo, some_non c1]
      refine iteT ⟨_, rfl, p, CC, dx, _, _, rfl, R.at_, hC.c, hC.a6, rfl, _, rfl, A.lo, _, _, v, rfl, rfl, SqL.of e1, at_by (j := x) rfl e2, by show 2 ≤ sizeLine; omega, fun t ht => ?_⟩
      exact fin H 1 v (Same.refl H) (by rw [rn]) (by rw [rn]; show RulV H (S.lo x) v; rw [eo]; exact e4) t ht
    have c1n := non_of c1
    refine ⟨_, rfl, p, CC, dx, _, _, rfl, R.at_, hC.c, hC.a6, rfl, _, rfl, A.lo, _, _, v, rfl, rfl, SqL.of e1, at_by (j := x) rfl e2, rfl, _, rfl, ?_⟩
    rw [e4.non, ← eo, c1n]
    refine iteF ?_
    try dsimp only
    by_cases c2 : i + 1 < wd.length ∧ (S.pr n x ((wd[i + 1]?).getD 0)).isSome = true
    · obtain ⟨li1, sx⟩ := c2
      obtain ⟨y, hy⟩ : ∃ y, wd[i + 1]? = some y := ⟨_, List.getElem?_eq_getElem li1⟩
      have ly := lt y (List.mem_of_getElem? hy)
      rw [show (wd[i + 1]?).getD 0 = y from by rw [hy]; rfl] at sx
      have rn : S.ruleAt n b wd i = (2, S.pr n x y) := by
        unfold CmS.ruleAt
        rw [ex, hy]
        show (if (S.lo x).isSome = true then _ else if i + 1 < wd.length ∧ (S.pr n x y).isSome = true then (2, S.pr n x y) else _) = _
        rw [if_neg c1, if_pos ⟨li1, sx⟩]
      obtain ⟨ps, u, o2, g1, g2, g3, g4⟩ := R.pairs.get (i := x * n + y) (by rw [R.l3]; exact pr_lt lx ly)
      have eo2 : S.pr n x y = o2 := by unfold CmS.pr; rw [g3]; rfl
      refine ⟨_, rfl, _, _, rfl, rfl, _, rfl, a, _, rfl, .inr (SqT.of ha), _, _, rfl, rfl, _, rfl, ?_⟩
      rw [List.length_map, decide_eq_true (show ((i : Int) + 1) < ((wd.length : Nat) : Int) by omega)]
      refine iteT ?_
      refine ⟨_, rfl, p, CC, dx, _, _, rfl, R.at_, hC.c, hC.a8, rfl, _, rfl, _, rfl, p, CC, dx, _, _, rfl, R.at_, hC.c, hC.a3, rfl, _, _, rfl, rfl, mul_small (by omega), _, rfl, _, rfl, _, _, rfl, rfl, a, _, _, iN y, rfl, rfl, SqT.of ha, at_by (j := i + 1) (by omega) (by rw [List.getElem?_map, hy]; rfl), _, _, rfl, rfl, A.pr, _, _, u, rfl, rfl, SqL.of g1, at_by (j := x * n + y) (by rw [Int.natCast_add, Int.natCast_mul]) g2, ?_⟩
      refine ⟨_, rfl, rfl, _, rfl, ?_⟩
      rw [g4.non, ← eo2, some_non sx]
      refine iteT ⟨_, rfl, by show 2 ≤ sizeLine; omega, fun t ht => ?_⟩
      exact fin H 2 u (Same.refl H) (by rw [rn]) (by rw [rn]; show RulV H (S.pr n x y) u; rw [eo2]; exact g4) t ht
    try dsimp only [tNext]
    refine seqIf_mid (fun σ' H' => ∃ o5 : Option V, σ' = [some (.ref p), some (.str b), some (.ref a), some (iN i), some (iN x), o5] ∧ H' = H) (fun K' hK => ?_) ?_
    · refine ⟨_, rfl, _, _, rfl, rfl, _, rfl, a, _, rfl, .inr (SqT.of ha), _, _, rfl, rfl, _, rfl, ?_⟩
      rw [List.length_map]
      by_cases li1 : i + 1 < wd.length
      · rw [decide_eq_true (show ((i : Int) + 1) < ((wd.length : Nat) : Int) by omega)]
        refine iteT ?_
        obtain ⟨y, hy⟩ : ∃ y, wd[i + 1]? = some y := ⟨_, List.getElem?_eq_getElem li1⟩
        have ly := lt y (List.mem_of_getElem? hy)
        rw [show (wd[i + 1]?).getD 0 = y from by rw [hy]; rfl] at c2
        obtain ⟨ps, u, o2, g1, g2, g3, g4⟩ := R.pairs.get (i := x * n + y) (by rw [R.l3]; exact pr_lt lx ly)
        have eo2 : S.pr n x y = o2 := by unfold CmS.pr; rw [g3]; rfl
        refine ⟨_, rfl, p, CC, dx, _, _, rfl, R.at_, hC.c, hC.a8, rfl, _, rfl, _, rfl, p, CC, dx, _, _, rfl, R.at_, hC.c, hC.a3, rfl, _, _, rfl, rfl, mul_small (by omega), _, rfl, _, rfl, _, _, rfl, rfl, a, _, _, iN y, rfl, rfl, SqT.of ha, at_by (j := i + 1) (by omega) (by rw [List.getElem?_map, hy]; rfl), _, _, rfl, rfl, A.pr, _, _, u, rfl, rfl, SqL.of g1, at_by (j := x * n + y) (by rw [Int.natCast_add, Int.natCast_mul]) g2, ?_⟩
        refine ⟨_, rfl, rfl, _, rfl, ?_⟩
        rw [g4.non, ← eo2, non_of (fun z => c2 ⟨li1, z⟩)]
        exact iteF (hK _ _ ⟨_, rfl, rfl⟩)
      · rw [decide_eq_false (show ¬ ((i : Int) + 1) < ((wd.length : Nat) : Int) by omega)]
        exact iteF (hK _ _ ⟨_, rfl, rfl⟩)
    rintro σ' H' ⟨o5, rfl, rfl⟩
    have rn : S.ruleAt n b wd i = (1, if b = "new" ∧ i = 0 then S.stl x else none) := by
      unfold CmS.ruleAt
      rw [ex]
      show (if (S.lo x).isSome = true then _ else if i + 1 < wd.length ∧ (S.pr n x ((wd[i + 1]?).getD 0)).isSome = true then _ else _) = _
      rw [if_neg c1, if_neg c2]
    refine ⟨_, rfl, rfl, _, rfl, ?_⟩
    rw [sd]
    by_cases c3 : b = "new"
    · rw [decide_eq_true c3]
      refine iteT ⟨_, rfl, rfl, _, rfl, ?_⟩
      by_cases c4 : i = 0
      · rw [decide_eq_true (show iN i = V.int 0 by rw [c4]; rfl)]
        obtain ⟨ss, u, o2, g1, g2, g3, g4⟩ := R.still.get (i := x) (by rw [R.l2]; exact lx)
        have eo2 : S.stl x = o2 := by unfold CmS.stl; rw [g3]; rfl
        refine iteT ⟨_, rfl, p, CC, dx, _, _, rfl, R.at_, hC.c, hC.a7, rfl, _, rfl, A.st, _, _, u, rfl, rfl, SqL.of g1, at_by (j := x) rfl g2, by show 2 ≤ sizeLine; omega, fun t ht => ?_⟩
        exact fin _ 1 u (Same.refl _) (by rw [rn]) (by rw [rn]; show RulV _ (if b = "new" ∧ i = 0 then S.stl x else none) u; rw [if_pos ⟨c3, c4⟩, eo2]; exact g4) t ht
      · rw [decide_eq_false (show ¬ iN i = V.int 0 from fun z => c4 (by have := V.int.inj z; omega))]
        exact iteF ⟨by show 2 ≤ sizeLine; omega, fun t ht => fin _ 1 .non (Same.refl _) (by rw [rn]) (by rw [rn]; show RulV _ (if b = "new" ∧ i = 0 then S.stl x else none) _; rw [if_neg (fun z => c4 z.2)]; rfl) t ht⟩
    · rw [decide_eq_false c3]
      exact iteF (iteF ⟨by show 2 ≤ sizeLine; omega, fun t ht => fin _ 1 .non (Same.refl _) (by rw [rn]) (by rw [rn]; show RulV _ (if b = "new" ∧ i = 0 then S.stl x else none) _; rw [if_neg (fun z => c3 z.1)]; rfl) t ht⟩)
end
end Ask

/-! the length of a row of steps; whether a rule strikes a letter to another one -/
namespace Ask
open PySem L2
/-- steps of one change each, all ahead (row, place) or back -/
structure Stp1 where
  row : Nat
  place : Nat
  way : Int
def Stp1.vs (x : Stp1) : List V := [iN x.row, iN x.place, .int x.way, .int 1]
def StL (H : Hp) (vs : List V) (st : List Stp1) : Prop := vs.length = st.length ∧ ∀ (j : Nat) (x : Stp1), st[j]? = some x → ∃ t : Addr, vs[j]? = some (.ref t) ∧ H t = some (.tup x.vs)
theorem sum_nats : ∀ ks : List Nat, (ks.map fun k : Nat => (k : Int)).sum = ((ks.sum : Nat) : Int)
  | [] => rfl
  | k :: r => by rw [List.map_cons, List.sum_cons, List.sum_cons, sum_nats r, Int.natCast_add]
def lenS (ls : List Nat) (st : List Stp1) : Nat := (st.map fun x => (ls[x.row]?).getD 0).sum
theorem eqv_int1 (a b : Nat) : PyData.eqv (.int (a : Int)) (.int (b : Int)) = decide (a = b) := by
  simp only [PyData.eqv]
  by_cases h : a = b
  · subst h; simp
  · rw [decide_eq_false h]; simp; omega
theorem eqvAll_nats : ∀ ys zs : List Nat, PyData.eqvAll (ys.map fun k : Nat => PyData.int k) (zs.map fun k : Nat => PyData.int k) = decide (ys = zs)
  | [], [] => by simp [PyData.eqvAll]
  | [], _ :: _ => by simp [PyData.eqvAll]
  | _ :: _, [] => by simp [PyData.eqvAll]
  | y :: ys, z :: zs => by
    rw [List.map_cons, List.map_cons, PyData.eqvAll, eqv_int1, eqvAll_nats ys zs]
    by_cases a : y = z <;> by_cases b : ys = zs <;> simp [a, b]
theorem eqvT_nats (ys zs : List Nat) : PyData.eqv (.tuple (ys.map fun k : Nat => PyData.int k)) (.tuple (zs.map fun k : Nat => PyData.int k)) = decide (ys = zs) := by
  rw [PyData.eqv, eqvAll_nats]
theorem natsT_shaped {ks : List Nat} (h : ∀ k ∈ ks, k ≤ 1000) : SeqAt.shaped (.tuple (ks.map fun k : Nat => PyData.int k)) = true := by
  obtain ⟨h1, h2⟩ := ints_lay ks h
  exact shaped_of h1 (by show PyData.depthAll _ + 1 ≤ 64; omega)
/-- what the rules of a completion of n letters and nr rows are -/
structure CmS.Fit (S : CmS) (n nr : Nat) : Prop where
  lo : ∀ x r i, S.lo x = some (r, i) → r.length ≤ 1 ∧ (∀ k ∈ r, k < n) ∧ i < nr ∧ ∀ k ∈ r, k < x
  st : ∀ x r i, S.stl x = some (r, i) → r = [] ∧ i < nr
  pr : ∀ x y r i, S.pr n x y = some (r, i) → r.length ≤ 1 ∧ (∀ k ∈ r, k < n) ∧ i < nr
section
variable {P : Program} {w : World} {K : PySem.W.Frag} {mg : Str → Option Value} {base : Heap}
def spLength (K : PySem.W.Frag) (CC : Addr) : Sp := fun vs H Q _ => ∃ (p dx a : Addr) (A : CmA) (n off : Nat) (ls : List Nat) (vt : List V) (st : List Stp1), vs = [.ref p, .ref a] ∧ H p = some (.ins CC dx (fsC A n off)) ∧ H A.le = some (.lst (ls.map iN)) ∧ H a = some (.tup vt) ∧ StL H vt st ∧ (∀ x ∈ st, x.row < ls.length) ∧ st.length ≤ 1000 ∧
  ∀ H', Same H H' → Q (iN (lenS ls st)) H'

abbrev s_Completion_length : Stmt := inClass (top 58) 18
theorem sc_Completion_length : FnScope ["self", "steps", "step"] ["self", "steps"] (defScope s_Completion_length) := ⟨rfl, rfl, rfl, by decide +kernel, rfl, by decide +kernel, by decide +kernel⟩
theorem ok_length {f CC : Addr} {fd : FuncData} (F : Fun K "length" "Completion.length" s_Completion_length f fd) (T : Blt mg) (nSu : mg "sum" = none) (hC : CmC K CC) : FnOk P w K mg base CX0 1 f fd ["self", "steps"] (spLength K CC) := by
  refine F.ok sc_Completion_length (fun vs H Q E h => ?_) (fun cdv A outer s H vs Q E hr h => ?_)
  · obtain ⟨p, dx, a, A, n, off, ls, vt, st, rfl, _⟩ := h
    rfl
  · obtain ⟨p, dx, a, A, n, off, ls, vt, st, rfl, hp, hle, ha, hS, lt, sn, kq⟩ := h
    have z1 : (100000 : Nat) ≤ sizeLine := by decide
    refine ⟨_, (pss_one (ps_ret (pe_callB (cr_sum rfl) (by rfl) nSu (by decide +kernel) (pa_cons (pe_lc (own := [("step", 2)]) rfl sc_Completion_length.nd (pi_tup (pv 1)) (blkOk_by (N := ["self", "steps", "step"]) (sc := defScope s_Completion_length) (by decide +kernel)) (fun _ _ _ _ _ => (pg_name (i := 2) sc_Completion_length.nd rfl (Or.inl rfl))) (fun _ _ _ _ _ => pts_nil) (fun _ _ _ _ _ => (pe_ix (show IxR _ (rIx K) from ix_seq) (show PE _ _ (tFld K _ "lengths") from pe_fld (pv 0) rfl) (pe_ix (show IxR _ (rIxT K) from ix_tup) (pv 2) pe_int (fun _ _ => rfl)) (fun _ _ => rfl)))) pa_nil)))), ?_⟩
    have hB : ∀ (j : Nat) (v : V), vt[j]? = some v → ∃ (y : Stp1) (t : Addr), st[j]? = some y ∧ v = .ref t ∧ H t = some (.tup y.vs) := fun j v e => by
      obtain ⟨h1, h2⟩ := hS
      obtain ⟨lj, _⟩ := List.getElem?_eq_some_iff.mp e
      have ey := List.getElem?_eq_getElem (l := st) (i := j) (by rw [← h1]; exact lj)
      obtain ⟨t, e1, e2⟩ := h2 j _ ey
      rw [e] at e1
      exact ⟨_, t, ey, Option.some.inj e1, e2⟩
    refine ⟨_, rfl, a, rfl, ⟨_, SqT.of ha⟩, fun L hL => ?_⟩
    refine lc_it (walk_tup (xs := vt)) (fun i H' => H' L = some (.lst (((st.take i).map fun x => (ls[x.row]?).getD 0).map iN)) ∧ Same H H') ⟨by rw [upd_same, List.take_zero]; rfl, Ask.Same.upd_new (Same.refl _) hL⟩ (fun _ H' _ ⟨_, s'⟩ => SqT.of (s' _ _ ha)) ?_ ?_
    · rintro i v HB' HB hi ⟨p1, p2⟩ ⟨rfl, hv⟩
      obtain ⟨y, t, ey, rfl, et⟩ := hB i v hv
      obtain ⟨k, ek⟩ : ∃ k, ls[y.row]? = some k := ⟨_, List.getElem?_eq_getElem (lt y (List.mem_of_getElem? ey))⟩
      refine ⟨rfl, _, rfl, p, CC, dx, _, _, rfl, p2 _ _ hp, hC.c, hC.a5, rfl, _, rfl, t, _, _, iN y.row, rfl, rfl, SqT.of (p2 _ _ et), at_by (j := 0) rfl rfl, .inl ⟨A.le, _, _, iN k, rfl, rfl, SqL.of (p2 _ _ hle), at_by (j := y.row) rfl (by rw [List.getElem?_map, ek]; rfl), ?_⟩⟩
      refine ⟨_, p1, by rw [List.length_map, List.length_map, List.length_take]; omega, ?_, Ask.Same.upd_new p2 hL⟩
      rw [upd_same, List.take_add_one, ey, List.map_append, List.map_append]
      show some (HO.lst (_ ++ [iN k])) = some (HO.lst (_ ++ [iN ((ls[y.row]?).getD 0)]))
      rw [ek]
      rfl
    rintro H2 ⟨p1, s2⟩
    rw [hS.1, List.take_length] at p1
    refine ⟨L, ((st.map fun x => (ls[x.row]?).getD 0).map fun k : Nat => (k : Int)), rfl, SqL.of (by rw [p1, List.map_map, List.map_map, List.map_map]; rfl), ?_⟩
    rw [sum_nats]
    exact kq H2 s2
def spLeastOf (K : PySem.W.Frag) (CC : Addr) : Sp := fun vs H Q _ => ∃ (p dx : Addr) (A : CmA) (n off : Nat) (S : CmS) (x y : Nat), vs = [.ref p, iN x, iN y] ∧ CmR K CC H p dx A n off S ∧ (∃ nr, S.Fit n nr) ∧ x < n ∧ y < n ∧
  ∀ H', Same H H' → Q (.bl (decide ((S.lo y).map (·.1) = some [x]))) H'

abbrev s_Completion_is_least_of : Stmt := inClass (top 58) 10
theorem sc_Completion_is_least_of : FnScope ["self", "letter", "other"] ["self", "letter", "other"] (defScope s_Completion_is_least_of) := ⟨rfl, rfl, rfl, by decide +kernel, rfl, by decide +kernel, by decide +kernel⟩
theorem ok_leastOf {f CC : Addr} {fd : FuncData} (F : Fun K "is_least_of" "Completion.is_least_of" s_Completion_is_least_of f fd) (T : Blt mg) (hC : CmC K CC) : FnOk P w K mg base CX0 1 f fd ["self", "letter", "other"] (spLeastOf K CC) := by
  refine F.ok sc_Completion_is_least_of (fun vs H Q E h => ?_) (fun cdv A outer s H vs Q E hr h => ?_)
  · obtain ⟨p, dx, A, n, off, S, x, y, rfl, _⟩ := h
    rfl
  · obtain ⟨p, dx, A, n, off, S, x, y, rfl, R, ⟨nr, hF⟩, lx, ly, kq⟩ := h
    have z1 : (100000 : Nat) ≤ sizeLine := by decide
    refine ⟨_, (pss_one (ps_ret (pe_and (pe_cmpR op_notN (pe_ix ix_list (pe_fld (pv 0) rfl) (pv 2) (fun _ _ => rfl)) pe_non (nomark _)) (pe_one (pe_cmpR (op_eqD hr.units) (pe_ix ix_seq (pe_ix ix_list (pe_fld (pv 0) rfl) (pv 2) (fun _ _ => rfl)) pe_int (fun _ _ => rfl)) (pe_tup (pa_cons (pv 1) pa_nil)) (nomark _)))))), ?_⟩
    obtain ⟨vs, v, o, e1, e2, e3, e4⟩ := R.lone.get (i := y) (by rw [R.l1]; exact ly)
    have eo : S.lo y = o := by unfold CmS.lo; rw [e3]; rfl
    refine ⟨_, rfl, p, CC, dx, _, _, rfl, R.at_, hC.c, hC.a6, rfl, _, rfl, A.lo, _, _, v, rfl, rfl, SqL.of e1, at_by (j := y) rfl e2, rfl, _, rfl, ?_⟩
    rw [e4.non, ← eo]
    cases q : S.lo y with
    | none =>
      refine ite2 (fun z => nomatch z) (fun _ => ?_)
      rw [q] at kq
      exact kq H (Same.refl H)
    | some ri =>
      obtain ⟨r, i⟩ := ri
      rw [← eo, q] at e4
      obtain ⟨t, b, rfl, et, eb⟩ := e4
      refine ite2 (fun _ => ?_) (fun z => nomatch z)
      refine ⟨_, rfl, p, CC, dx, _, _, rfl, R.at_, hC.c, hC.a6, rfl, _, rfl, A.lo, _, _, _, rfl, rfl, SqL.of e1, at_by (j := y) rfl e2, .inr (.inl ⟨t, _, _, _, rfl, rfl, SqT.of et, at_by (j := 0) rfl rfl, ?_⟩)⟩
      refine ⟨_, rfl, by show 1 ≤ sizeLine; omega, fun u hu => ?_⟩
      have s1 := Ask.Same.made1 (o := .tup [iN x]) (Same.refl H) hu
      have n12 := R.n12
      refine ⟨.tuple (r.map fun k : Nat => PyData.int k), .tuple ([x].map fun k : Nat => PyData.int k), .tup (SqT.of (s1 _ _ eb)) (dp_ints r), .tup (SqT.of upd_same) (dp_ints [x]), natsT_shaped fun k hk => ?_, natsT_shaped fun k hk => ?_, ?_⟩
      · have := (hF.lo y r i q).2.1 k hk
        omega
      · cases hk with
        | head => omega
        | tail _ z => cases z
      · rw [eqvT_nats]
        rw [q] at kq
        have := kq _ s1
        rw [show decide ((some (r, i)).map (·.1) = some [x]) = decide (r = [x]) from decide_eq_decide.mpr ⟨fun z => Option.some.inj z, fun z => by rw [z]; rfl⟩] at this
        exact this
end
end Ask

/-! a row as an equation -/
namespace Ask
open PySem L2
theorem tIf_cut {t : TT} {ta tb : TE} {σ : L2.St} {H : Hp} {Q : VK} (Pv : V → Hp → Prop) (h : ∀ Q' : VK, (∀ v H', Pv v H' → Q' v H') → tIf t ta tb σ H Q') (k : ∀ v H', Pv v H' → Q v H') : tIf t ta tb σ H Q := h Q k
theorem nm_asg {i : Nat} {v : V} {σ : L2.St} {H : Hp} {te : TE} {g : TG} {u : TS} {D : Ends} (h : te (σ.set i (some v)) H fun x H1 => g x (σ.set i (some v)) H1 (u D)) : gName i v σ H (({ D with nx := tSeq (tAsg te g) u D } : Ends).nx) := h
theorem nm_asg2 {i : Nat} {v : V} {σ : L2.St} {H : Hp} {te : TE} {g : TG} {u : TS} {D : Ends} (h : te (σ.set i (some v)) H fun x H1 => g x (σ.set i (some v)) H1 (u D)) : gName i v σ H (tSeq (tAsg te g) u D) := h
theorem ret_tup {te : TE} {tr : TA} {σ : L2.St} {H : Hp} {D : Ends} (h : te σ H fun x H1 => tr σ H1 fun xs H2 => (fun ys H3 => ys.length ≤ sizeLine ∧ ∀ t, H3 t = none → D.rt (.ref t) (upd H3 t (.tup ys))) (x :: xs) H2) : tRet (tTup (tCons te tr)) D σ H := h
def rkOf (ys : List Str) : V → Option Nat
  | .str y => some (ys.idxOf y)
  | _ => none
theorem idx_ne {z x : Str} {r : List Str} (e : ¬ z = x) : (z :: r).idxOf x = r.idxOf x + 1 := by
  rw [List.idxOf_cons]
  rw [show (z == x) = false from by rw [beq_eq_false_iff_ne]; exact e]
  rfl
theorem rkD_get {ys : List Str} {x : Str} (hx : x ∈ ys) : valV (rkD ys) (Sum.inr x) = some (iN (ys.idxOf x)) := by
  unfold rkD
  have key : ∀ (zs : List Str) (i : Nat), x ∈ zs → valV ((List.zipIdx zs i).map fun e => ((Sum.inr e.1 : Key), iN e.2)) (Sum.inr x) = some (iN (i + zs.idxOf x)) := by
    intro zs
    induction zs with
    | nil => intro i h; cases h
    | cons z r ih =>
      intro i h
      rw [List.zipIdx_cons, List.map_cons]
      by_cases e : z = x
      · rw [valV_pos (by rw [e]), e, List.idxOf_cons_self]
        rfl
      · rw [valV_neg (fun q => e (Sum.inr.inj q)), ih (i + 1) (by cases h with | head => exact absurd rfl e | tail _ h => exact h), idx_ne e]
        congr 2
        omega
  have := key ys 0 hx
  rw [Nat.zero_add] at this
  exact this
section
variable {P : Program} {w : World} {K : PySem.W.Frag} {mg : Str → Option Value} {base : Heap}
def spEqOf (K : PySem.W.Frag) (CL CS CC : Addr) : Sp := fun vs H Q _ => ∃ (p dx t sp sq : Addr) (A : CmA) (n off row : Nat) (ys : List Str) (vr : List V) (k x : Str) (s : V), vs = [.ref p, iN row] ∧ H p = some (.ins CC dx (fsC A n off)) ∧ H A.rk = some (.dK (rkD ys)) ∧ H A.ro = some (.lst vr) ∧ vr[row]? = some (.ref t) ∧ H t = some (.tup [.ref sp, .ref sq]) ∧ SenAt K CL CS H sp ys k x s ∧ k ∈ KL ∧ x ∈ ys ∧ SOk ys k s ∧
  ∀ (H' : Hp) (t' a b c d : Addr), Same H H' → H' t' = some (.tup [.str (bgR k), .ref a, .ref b, .ref c]) → H' a = some (.tup ((sidesN k (ys.idxOf x) (rkOf ys s)).1.map iN)) → H' b = some (.tup ((sidesN k (ys.idxOf x) (rkOf ys s)).2.map iN)) → H' c = some (.tup [.ref d]) → H' d = some (.tup (Stp1.vs ⟨row, 0, 1⟩)) → Q (.ref t') H'

abbrev s_Completion_equation_of : Stmt := inClass (top 58) 3
theorem sc_Completion_equation_of : FnScope ["self", "row", "sentence", "second", "left", "right"] ["self", "row"] (defScope s_Completion_equation_of) := ⟨rfl, rfl, rfl, by decide +kernel, rfl, by decide +kernel, by decide +kernel⟩
theorem ok_eqOf {f CL CS CC fS : Addr} {fd fdS : FuncData} (F : Fun K "equation_of" "Completion.equation_of" s_Completion_equation_of f fd) (T : Blt mg) (hC : CmC K CC) (hS : SnC K CS)
    (G_sides_of : FnOk P w K mg base CX0 1 fS fdS ["kind", "x", "y"] spSides2) (A_sides_of : At K mg "sides_of" fS fdS ["kind", "x", "y"]) : FnOk P w K mg base CX0 2 f fd ["self", "row"] (spEqOf K CL CS CC) := by
  refine F.ok sc_Completion_equation_of (fun vs H Q E h => ?_) (fun cdv A0 outer s H vs Q E hr h => ?_)
  · obtain ⟨p, dx, t, sp, sq, A, n, off, row, ys, vr, k, x, s, rfl, _⟩ := h
    rfl
  · obtain ⟨p, dx, t, sp, sq, A, n, off, row, ys, vr, k, x, sv, rfl, hp, hrk, hro, er, ht, hSe, hk, hx, hs, kq⟩ := h
    have z1 : (100000 : Nat) ≤ sizeLine := by decide
    have h_sides_of := hr.mono (j := 1) (by decide)
    have hu := hu_of hr
    refine ⟨_, (pss_cons (ps_set (i := 2) sc_Completion_equation_of.nd rfl (Or.inl rfl) (pe_ix ix_seq (pe_ix ix_seq (pe_fld (pv 0) rfl) (pv 1) (fun _ _ => rfl)) pe_int (fun _ _ => rfl)))
      (pss_cons (ps_set (i := 3) sc_Completion_equation_of.nd rfl (Or.inl rfl) (pe_ifExp (pt_cmpR op_isN (pe_fld (pv 2) rfl) pe_non (nomark _)) pe_non (pe_dget hu (pe_fld (pv 0) rfl) (pe_fld (pv 2) rfl) (fun _ _ => rfl))))
      (pss_cons (ps_asg (pe_call G_sides_of (by exact h_sides_of) (by rfl) A_sides_of.m A_sides_of.k A_sides_of.b .nil pass0 (pa_cons (pe_fld (pv 2) rfl) (pa_cons (pe_dget hu (pe_fld (pv 0) rfl) (pe_fld (pv 2) rfl) (fun _ _ => rfl)) (pa_cons (pv 3) pa_nil)))) (pg_tup rfl (pgs_cons (pg_name (i := 4) sc_Completion_equation_of.nd rfl (Or.inl rfl)) (pgs_cons (pg_name (i := 5) sc_Completion_equation_of.nd rfl (Or.inl rfl)) pgs_nil))))
      (pss_one (ps_ret (pe_tup (pa_cons (pe_ifExp (pt_cmpR (show OpR _ _ rEq from op_eq) (pe_fld (pv 2) rfl) pe_str (nomark _)) pe_str pe_str) (pa_cons (pv 4) (pa_cons (pv 5) (pa_cons (pe_tup (pa_cons (pe_tup (pa_cons (pv 1) (pa_cons pe_int (pa_cons pe_int (pa_cons pe_int pa_nil))))) pa_nil)) pa_nil)))))))))), ?_⟩
    obtain ⟨dS, m, tm, hsp, hm⟩ := hSe
    have hk2 : k ∈ LK ↔ rkOf ys sv = none := ⟨fun q => by rw [hs.2 q]; rfl, fun q => by
      by_cases c : k ∈ LK
      · exact c
      · obtain ⟨y, e, _⟩ := hs.1 c
        rw [e] at q
        cases q⟩
    refine ⟨_, rfl, p, CC, dx, _, _, rfl, hp, hC.c, hC.a4, rfl, _, rfl, .inl ⟨A.ro, vr, _, .ref t, rfl, rfl, SqL.of hro, at_by (j := row) rfl er, .inr (.inl ⟨t, _, _, _, rfl, rfl, SqT.of ht, at_by (j := 0) rfl rfl, ?_⟩)⟩⟩
    try dsimp only
    refine nm_asg2 ?_
    refine tIf_cut (fun v H' => v = oN' (rkOf ys sv) ∧ H' = H) (fun Q' hQ => ?_) ?_
    · refine ⟨_, rfl, sp, CS, dS, _, _, rfl, hsp, hS.c, hS.a4, rfl, rfl, _, rfl, ?_⟩
      by_cases c : k ∈ LK
      · have e := hs.2 c
        subst e
        exact iteT (hQ _ _ ⟨rfl, rfl⟩)
      · obtain ⟨y, e, hy⟩ := hs.1 c
        subst e
        exact iteF ⟨_, rfl, p, CC, dx, _, _, rfl, hp, hC.c, hC.a2, rfl, _, rfl, sp, CS, dS, _, _, rfl, hsp, hS.c, hS.a4, rfl, A.rk, _, rfl, by have := DGet.k (k := Sum.inr y) hrk; rw [rkD_get hy] at this; exact this, hQ _ _ ⟨rfl, rfl⟩⟩
    rintro v H' ⟨rfl, rfl⟩
    refine ⟨_, rfl, sp, CS, dS, _, _, rfl, hsp, hS.c, hS.a2, rfl, _, rfl, p, CC, dx, _, _, rfl, hp, hC.c, hC.a2, rfl, _, rfl, sp, CS, dS, _, _, rfl, hsp, hS.c, hS.a3, rfl, A.rk, _, rfl, by have := DGet.k (k := Sum.inr x) hrk; rw [rkD_get hx] at this; exact this, _, rfl, ?_⟩
    refine ⟨k, ys.idxOf x, rkOf ys sv, rfl, hk2, fun H2 t2 a b s2 h1 h2 h3 => ?_⟩
    refine ⟨t2, _, rfl, SqT.of h1, rfl, _, _, rfl, _, _, rfl, rfl, ?_⟩
    have hsp2 := s2 _ _ hsp
    try dsimp only
    refine ret_tup ?_
    refine tIf_cut (fun v H'' => v = V.str (bgR k) ∧ H'' = H2) (fun Q' hQ => ?_) ?_
    · refine ⟨_, rfl, sp, CS, dS, _, _, rfl, hsp2, hS.c, hS.a2, rfl, rfl, _, rfl, ?_⟩
      rw [show decide (V.str k = V.str "still") = decide (k = "still") from decide_eq_decide.mpr ⟨V.str.inj, fun e => by rw [e]⟩]
      unfold bgR at hQ
      by_cases c : k = "still"
      · rw [decide_eq_true c]
        rw [if_pos c] at hQ
        exact iteT (hQ _ _ ⟨rfl, rfl⟩)
      · rw [decide_eq_false c]
        rw [if_neg c] at hQ
        exact iteF (hQ _ _ ⟨rfl, rfl⟩)
    rintro v H3 ⟨rfl, rfl⟩
    refine ⟨_, rfl, _, rfl, _, rfl, by show 4 ≤ sizeLine; omega, fun d hd => ⟨by show 1 ≤ sizeLine; omega, fun c hc => ⟨by show 4 ≤ sizeLine; omega, fun t' ht' => ?_⟩⟩⟩
    have s3 := Ask.Same.made1 (o := .tup (Stp1.vs ⟨row, 0, 1⟩)) (Same.refl H3) hd
    have e3 : upd H3 d (.tup (Stp1.vs ⟨row, 0, 1⟩)) d = _ := upd_same
    have s4 := Ask.Same.made1 (o := .tup [.ref d]) (Same.refl _) hc
    have e4 : upd (upd H3 d (.tup (Stp1.vs ⟨row, 0, 1⟩))) c (.tup [.ref d]) c = _ := upd_same
    have s5 := Ask.Same.made1 (o := .tup [.str (bgR k), .ref a, .ref b, .ref c]) (Same.refl _) ht'
    exact kq _ t' a b c d (((s2.trans s3).trans s4).trans s5) upd_same (s5 _ _ (s4 _ _ (s3 _ _ h2))) (s5 _ _ (s4 _ _ (s3 _ _ h3))) (s5 _ _ e4) (s5 _ _ (s4 _ _ e3))
end
end Ask

/-! a word struck as far as the rules go -/
namespace Ask
open PySem L2
/-- by turns: the word, the place, the steps so far -/
def redN (S : CmS) (n : Nat) (b : Str) : Nat → List Nat → Nat → List Stp1 → Option (List Nat × List Stp1)
  | 0, _, _, _ => none
  | k + 1, wd, i, st => if i < wd.length then match (S.ruleAt n b wd i).2 with
      | none => redN S n b k wd (i + 1) st
      | some (r, row) => redN S n b k (wd.take i ++ r ++ wd.drop (i + (S.ruleAt n b wd i).1)) 0 (st ++ [⟨row, i, 1⟩])
    else some (wd, st)
theorem ruleAt_fit {S : CmS} {n nr : Nat} (F : S.Fit n nr) {b : Str} {wd : List Nat} {i : Nat} (li : i < wd.length) :
    1 ≤ (S.ruleAt n b wd i).1 ∧ i + (S.ruleAt n b wd i).1 ≤ wd.length ∧ ∀ r row, (S.ruleAt n b wd i).2 = some (r, row) → r.length ≤ 1 ∧ (∀ k ∈ r, k < n) ∧ row < nr := by
  unfold CmS.ruleAt
  dsimp only
  split
  · exact ⟨Nat.le_refl _, li, fun r row e => let ⟨h1, h2, h3, _⟩ := F.lo _ _ _ e; ⟨h1, h2, h3⟩⟩
  · split
    · rename_i h
      exact ⟨by show 1 ≤ 2; decide, h.1, fun r row e => F.pr _ _ _ _ e⟩
    · refine ⟨Nat.le_refl _, li, fun r row e => ?_⟩
      dsimp only at e
      split at e
      · obtain ⟨h1, h2⟩ := F.st _ _ _ e
        rw [h1]
        exact ⟨Nat.zero_le _, fun k z => absurd z (List.not_mem_nil), h2⟩
      · cases e
theorem RulL.same {H H' : Hp} {a : Addr} {l : List Rul} (h : RulL H a l) (s : Same H H') : RulL H' a l := by
  obtain ⟨vs, e, n, k⟩ := h
  exact ⟨vs, s _ _ e, n, fun i v o e1 e2 => (k i v o e1 e2).same s⟩
theorem CmR.same {K : PySem.W.Frag} {CC : Addr} {H H' : Hp} {p dx : Addr} {A : CmA} {n off : Nat} {S : CmS} (h : CmR K CC H p dx A n off S) (s : Same H H') : CmR K CC H' p dx A n off S :=
  ⟨s _ _ h.at_, h.lone.same s, h.still.same s, h.pairs.same s, h.l1, h.l2, h.l3, h.n12⟩
theorem StL.same {H H' : Hp} {vs : List V} {st : List Stp1} (h : StL H vs st) (s : Same H H') : StL H' vs st :=
  ⟨h.1, fun j x e => let ⟨t, e1, e2⟩ := h.2 j x e; ⟨t, e1, s _ _ e2⟩⟩
theorem StL.app {H : Hp} {vs : List V} {st : List Stp1} {x : Stp1} {t : Addr} (h : StL H vs st) (e : H t = some (.tup x.vs)) : StL H (vs ++ [.ref t]) (st ++ [x]) := by
  refine ⟨by rw [List.length_append, List.length_append, h.1]; rfl, fun j y ey => ?_⟩
  by_cases l : j < st.length
  · rw [List.getElem?_append_left l] at ey
    obtain ⟨u, e1, e2⟩ := h.2 j y ey
    exact ⟨u, by rw [List.getElem?_append_left (by rw [h.1]; exact l)]; exact e1, e2⟩
  · rw [List.getElem?_append_right (by omega)] at ey
    have j0 : j - st.length = 0 := by
      have := (List.getElem?_eq_some_iff.mp ey).1
      simp at this
      omega
    rw [j0] at ey
    cases ey
    refine ⟨t, ?_, e⟩
    rw [List.getElem?_append_right (by rw [h.1]; omega), h.1, j0]
    rfl
theorem slA_any {K : PySem.W.Frag} {H : Hp} {a : Addr} {xs : List V} {lo hi : Option Int} {Q : VK} (ha : H a = some (.tup xs)) (q : ∀ p H', Same H H' → H' p = some (.tup (cutV xs lo hi)) → Q (.ref p) H') : rSlA K (.ref a) lo hi H Q := by
  refine ⟨a, xs, rfl, SqT.of ha, fun z => q a H (Same.refl H) ?_, fun _ p hp => q p _ (Ask.Same.made1 (Same.refl H) hp) upd_same⟩
  rw [ha]
  unfold cutV
  rw [z.1, z.2, List.drop_zero, Nat.sub_zero, List.take_length]
theorem catA_any {K : PySem.W.Frag} {H : Hp} {a b : Addr} {xs ys : List V} {Q : VK} (ha : H a = some (.tup xs)) (hb : H b = some (.tup ys)) (l : xs.length + ys.length ≤ sizeLine) (q : ∀ p H', Same H H' → H' p = some (.tup (xs ++ ys)) → Q (.ref p) H') : rCatA K (.ref a) (.ref b) H Q := by
  refine ⟨a, b, xs, ys, rfl, rfl, SqT.of ha, SqT.of hb, l, fun e => q b H (Same.refl H) ?_, fun _ e => q a H (Same.refl H) ?_, fun _ _ p hp => q p _ (Ask.Same.made1 (Same.refl H) hp) upd_same⟩
  · rw [e]
    exact hb
  · rw [e, List.append_nil]
    exact ha
theorem cutV_le (xs : List V) (lo hi : Option Int) : (cutV xs lo hi).length ≤ xs.length := by
  unfold cutV
  rw [List.length_take, List.length_drop]
  omega
theorem cutV_from (xs : List V) (n : Nat) : cutV xs (some (n : Int)) none = xs.drop n := by
  unfold cutV
  rw [HT.sIx_none, HT.sIx_nat]
  by_cases h : n ≤ xs.length
  · rw [Nat.min_eq_left h, List.take_of_length_le (by rw [List.length_drop]; omega)]
  · rw [Nat.min_eq_right (by omega), Nat.sub_self, List.take_zero, List.drop_of_length_le (by omega)]
section
variable {P : Program} {w : World} {K : PySem.W.Frag} {mg : Str → Option Value} {base : Heap}
def spReduced (K : PySem.W.Frag) (CC : Addr) : Sp := fun vs H Q _ => ∃ (p dx a : Addr) (A : CmA) (n off nr : Nat) (S : CmS) (b : Str) (wd : List Nat) (m : Nat) (out : List Nat × List Stp1), vs = [.ref p, .str b, .ref a] ∧ CmR K CC H p dx A n off S ∧ S.Fit n nr ∧ H a = some (.tup (wd.map iN)) ∧ wd.length ≤ 4 ∧ (∀ x ∈ wd, x < n) ∧ m ≤ 1000 ∧ redN S n b m wd 0 [] = some out ∧
  ∀ (H' : Hp) (t a2 b2 : Addr) (vt : List V), Same H H' → H' t = some (.tup [.ref a2, .ref b2]) → H' a2 = some (.tup (out.1.map iN)) → H' b2 = some (.tup vt) → StL H' vt out.2 → Q (.ref t) H'

abbrev s_Completion_reduced : Stmt := inClass (top 58) 16
theorem sc_Completion_reduced : FnScope ["self", "beginning", "word", "steps", "place", "size", "rule"] ["self", "beginning", "word"] (defScope s_Completion_reduced) := ⟨rfl, rfl, rfl, by decide +kernel, rfl, by decide +kernel, by decide +kernel⟩
theorem ok_reduced {f CC fR : Addr} {fd fdR : FuncData} (F : Fun K "reduced" "Completion.reduced" s_Completion_reduced f fd) (T : Blt mg) (hC : CmC K CC)
    (GR : FnOk P w K mg base CX0 1 fR fdR ["self", "beginning", "word", "place"] (spRuleAt K CC)) (bR : Binds K fdR ["self", "beginning", "word", "place"] []) (mR : Meth K CC "rule_at" fR) : FnOk P w K mg base CX0 2 f fd ["self", "beginning", "word"] (spReduced K CC) := by
  refine F.ok sc_Completion_reduced (fun vs H Q E h => ?_) (fun cdv A0 outer s H vs Q E hr h => ?_)
  · obtain ⟨p, dx, a, A, n, off, nr, S, b, wd, m, out, rfl, _⟩ := h
    rfl
  · obtain ⟨p, dx, a, A, n, off, nr, S, b, wd, m, out, rfl, R, hF, ha, l4, lt, lm, hred, kq⟩ := h
    have z1 : (100000 : Nat) ≤ sizeLine := by decide
    have h_rule_at := hr.mono (j := 1) (by decide)
    refine ⟨_, (pss_cons (ps_set (i := 3) sc_Completion_reduced.nd rfl (Or.inl rfl) (pe_lst pa_nil))
      (pss_cons (ps_set (i := 4) sc_Completion_reduced.nd rfl (Or.inl rfl) pe_int)
      (pss_cons (ps_while PassesOwn.never (pt_cmpR op_lt (pv 4) (pe_callB call_len_seq (by rfl) T.n_len (by decide +kernel) (pa_cons (pv 2) pa_nil)) (nomark _)) (pss_cons (ps_asg (pe_meth (pv 0) hC.c mR GR h_rule_at bR .nil pass0 (pa_cons (pv 1) (pa_cons (pv 2) (pa_cons (pv 4) pa_nil)))) (pg_tup rfl (pgs_cons (pg_name (i := 5) sc_Completion_reduced.nd rfl (Or.inl rfl)) (pgs_cons (pg_name (i := 6) sc_Completion_reduced.nd rfl (Or.inl rfl)) pgs_nil))))
      (pss_one (ps_if (pt_cmpR op_isN (pv 6) pe_non (nomark _)) (pss_one (ps_aug (i := 4) sc_Completion_reduced.nd rfl (Or.inl rfl) pe_int ip_add)) (pss_cons (ps_set (i := 2) sc_Completion_reduced.nd rfl (Or.inl rfl) (pe_op op_catA (pe_op op_catA (pe_slice sl_tupA (pv 2) po_none (po_some (pv 4))) (pe_ix ix_tup (pv 6) pe_int (fun _ _ => rfl))) (pe_slice sl_tupA (pv 2) (po_some (pe_op op_add (pv 4) (pv 5))) po_none)))
      (pss_cons (ps_expr (pe_bm PySem.F.plainAttrs_list PySem.F.slot_list_append PySem.F.type_list_append mt_append (pv 3) (pa_cons (pe_tup (pa_cons (pe_ix ix_tup (pv 6) pe_int (fun _ _ => rfl)) (pa_cons (pv 4) (pa_cons pe_int (pa_cons pe_int pa_nil))))) pa_nil)))
      (pss_one (ps_set (i := 4) sc_Completion_reduced.nd rfl (Or.inl rfl) pe_int))))))))
      (pss_one (ps_ret (pe_tup (pa_cons (pv 2) (pa_cons (pe_callTy call_tuple_of (by rfl) T.n_tuple (by decide +kernel) (pa_cons (pv 3) pa_nil)) pa_nil)))))))), ?_⟩
    refine ⟨Nat.zero_le _, fun L hL => ?_⟩
    try dsimp only
    refine ⟨fun k σ H' => ∃ (wd' : List Nat) (i : Nat) (st : List Stp1) (vt : List V) (a' : Addr) (o5 o6 : Option V), σ = [some (.ref p), some (.str b), some (.ref a'), some (.ref L), some (iN i), o5, o6] ∧ redN S n b k wd' i st = some out ∧ st.length + k ≤ 1000 ∧ Same H H' ∧ H' a' = some (.tup (wd'.map iN)) ∧ wd'.length ≤ 4 ∧ (∀ x ∈ wd', x < n) ∧ H' L = some (.lst vt) ∧ StL H' vt st, ⟨m, wd, 0, [], [], a, none, none, rfl, hred, by show 0 + m ≤ 1000; omega, Ask.Same.upd_new (Same.refl _) hL, ?_, l4, lt, upd_same, rfl, fun j x e => by cases e⟩, ?_⟩
    · rw [upd_ne (fun z => by rw [z, hL] at ha; cases ha)]
      exact ha
    rintro k σ H1 ⟨wd', i, st, vt, a', o5, o6, rfl, hrd, lk, s1, ha', l4', lt', hL1, hS⟩
    cases k with
    | zero => cases hrd
    | succ k =>
    unfold redN at hrd
    refine ⟨_, rfl, _, rfl, a', _, rfl, .inr (SqT.of ha'), _, _, rfl, rfl, _, rfl, ?_⟩
    rw [List.length_map]
    by_cases li : i < wd'.length
    · rw [if_pos li] at hrd
      rw [decide_eq_true (show ((i : Int)) < ((wd'.length : Nat) : Int) by omega)]
      refine iteT ⟨_, fun σ' H' h => ⟨k, Nat.lt_succ_self k, h⟩, ?_⟩
      obtain ⟨f1, f2, f3⟩ := ruleAt_fit hF (b := b) li
      refine ⟨_, rfl, p, dx, _, rfl, s1 _ _ R.at_, rfl, _, rfl, _, rfl, _, rfl, p, dx, a', A, n, off, S, b, wd', i, rfl, R.same s1, ha', l4', li, lt', fun H2 t2 v2 s2 h2 hv => ?_⟩
      refine ⟨t2, _, rfl, SqT.of h2, rfl, _, _, rfl, _, _, rfl, rfl, ?_⟩
      have h3 : S.ruleAt n b wd' i = ((S.ruleAt n b wd' i).1, (S.ruleAt n b wd' i).2) := rfl
      generalize (S.ruleAt n b wd' i).1 = sz at h3 f1 f2 hrd h2 ⊢
      generalize (S.ruleAt n b wd' i).2 = rl at h3 f3 hrd hv ⊢
      have aH2 := s2 _ _ ha'
      have LH2 := s2 _ _ hL1
      have SH2 := hS.same s2
      cases rl with
      | none =>
        obtain rfl : v2 = .non := hv
        refine ⟨_, rfl, rfl, _, rfl, iteT ⟨_, rfl, _, _, rfl, rfl, ?_⟩⟩
        exact ⟨wd', i + 1, st, vt, a', _, _, rfl, hrd, by omega, s1.trans s2, aH2, l4', lt', LH2, SH2⟩
      | some ri =>
        obtain ⟨r, row⟩ := ri
        obtain ⟨t6, ar, rfl, ht6, har⟩ := hv
        obtain ⟨g1, g2, g3⟩ := f3 r row rfl
        dsimp only at hrd
        refine ⟨_, rfl, rfl, _, rfl, iteF ?_⟩
        refine ⟨_, rfl, _, rfl, _, rfl, slA_any aH2 fun q1 H3 s3 e3 => ⟨_, rfl, t6, _, _, .ref ar, rfl, rfl, SqT.of (s3 _ _ ht6), at_by (j := 0) rfl rfl, catA_any e3 (s3 _ _ har) ?_ fun q2 H4 s4 e4 => ⟨_, rfl, _, rfl, _, rfl, _, _, rfl, rfl, _, rfl, ?_⟩⟩⟩
        · rw [List.length_map]
          have := cutV_le (wd'.map iN) none (some (i : Int))
          rw [List.length_map] at this
          omega
        delta tNoPart
        dsimp only
        refine slA_any (s4 _ _ (s3 _ _ aH2)) fun q3 H5 s5 e5 => ?_
        refine catA_any (s5 _ _ e4) e5 ?_ fun q4 H6 s6 e6 => ?_
        · have t1 := cutV_le (wd'.map iN) none (some (i : Int))
          have t2 := cutV_le (wd'.map iN) (some ((i : Int) + (sz : Int))) none
          rw [List.length_map] at t1 t2
          rw [List.length_append, List.length_map]
          omega
        have s26 := ((((s3.trans s4).trans s5)).trans s6)
        have L6 := s26 _ _ LH2
        refine ⟨_, rfl, .inl ⟨rfl, _, SqL.of L6⟩, _, rfl, t6, _, _, iN row, rfl, rfl, SqT.of (s26 _ _ ht6), at_by (j := 1) rfl rfl, _, rfl, by show 4 ≤ sizeLine; omega, fun u hu => ?_⟩
        have s7 := Ask.Same.made1 (o := .tup (Stp1.vs ⟨row, i, 1⟩)) (Same.refl H6) hu
        have e7 : upd H6 u (.tup (Stp1.vs ⟨row, i, 1⟩)) u = _ := upd_same
        have L7 := s7 _ _ L6
        have n1 := SH2.1
        refine ⟨L, vt, .ref u, rfl, rfl, L7, by omega, ?_⟩
        have sH : Same H (upd (upd H6 u (.tup (Stp1.vs ⟨row, i, 1⟩))) L (.lst (vt ++ [.ref u]))) := Ask.Same.upd_new ((s1.trans s2).trans (s26.trans s7)) hL
        have ne : ∀ (x : Addr) (xs : List V) (H0 : Hp), H0 x = some (.tup xs) → Same H0 (upd H6 u (.tup (Stp1.vs ⟨row, i, 1⟩))) → upd (upd H6 u (.tup (Stp1.vs ⟨row, i, 1⟩))) L (.lst (vt ++ [.ref u])) x = some (.tup xs) := fun x xs H0 e0 s0 => by
          rw [upd_ne (fun z => by have := s0 _ _ e0; rw [z, L7] at this; cases this)]
          exact s0 _ _ e0
        have ew : cutV (wd'.map iN) none (some (i : Int)) ++ r.map iN ++ cutV (wd'.map iN) (some ((i : Int) + (sz : Int))) none = (wd'.take i ++ r ++ wd'.drop (i + sz)).map iN := by
          rw [cutV_take _ _ (by rw [List.length_map]; omega), ← Int.natCast_add, cutV_from, List.map_append, List.map_append, List.map_take, List.map_drop]
        refine ⟨wd'.take i ++ r ++ wd'.drop (i + sz), 0, st ++ [⟨row, i, 1⟩], vt ++ [.ref u], q4, _, _, rfl, hrd, by rw [List.length_append]; show st.length + 1 + k ≤ 1000; omega, sH, ?_, ?_, ?_, upd_same, ?_⟩
        · have := ne q4 _ H6 e6 s7
          rw [ew] at this
          exact this
        · rw [List.length_append, List.length_append, List.length_take, List.length_drop]
          omega
        · intro x hx
          rcases List.mem_append.mp hx with hx | hx
          · rcases List.mem_append.mp hx with hx | hx
            · exact lt' x (List.mem_of_mem_take hx)
            · exact g2 x hx
          · exact lt' x (List.mem_of_mem_drop hx)
        · refine StL.app ⟨SH2.1, fun j y ey => ?_⟩ (ne u _ _ e7 (Same.refl _))
          obtain ⟨t, b1, b2⟩ := SH2.2 j y ey
          exact ⟨t, b1, ne t _ H2 b2 (s26.trans s7)⟩
    · rw [if_neg li] at hrd
      rw [decide_eq_false (show ¬ ((i : Int)) < ((wd'.length : Nat) : Int) by omega)]
      cases hrd
      refine iteF ⟨_, rfl, _, rfl, L, vt, rfl, .inl ⟨SqL.of hL1, fun l hl => ⟨by show 2 ≤ sizeLine; omega, fun t ht => ?_⟩⟩⟩
      have s3 := Ask.Same.made1 (o := .tup vt) (Same.refl H1) hl
      have e3 : upd H1 l (.tup vt) l = _ := upd_same
      have s4 := Ask.Same.made1 (o := .tup [.ref a', .ref l]) (Same.refl _) ht
      exact kq _ t a' l vt ((s1.trans s3).trans s4) upd_same (s4 _ _ (s3 _ _ ha')) (s4 _ _ e3) ((hS.same s3).same s4)
end
end Ask

/-! striking comes to an end: every rule makes the word's weight less -/
namespace Ask
open PySem L2
/-- the weight of a word: what every rule makes less -/
def wgt (wd : List Nat) : Nat := 13 * wd.length + wd.sum
theorem wgt_app (a b : List Nat) : wgt (a ++ b) = wgt a + wgt b := by
  unfold wgt
  rw [List.length_append, List.sum_append]
  omega
theorem wgt_le : ∀ {wd : List Nat}, (∀ x ∈ wd, x < 12) → wgt wd ≤ 24 * wd.length
  | [], _ => Nat.le_refl _
  | x :: r, h => by
    have h1 := h x List.mem_cons_self
    have h2 := wgt_le (wd := r) fun y hy => h y (List.mem_cons_of_mem _ hy)
    have e : wgt (x :: r) = 13 + x + wgt r := by
      unfold wgt
      rw [List.length_cons, List.sum_cons]
      omega
    rw [e, List.length_cons]
    omega
theorem wgt_rule {S : CmS} {n nr : Nat} (F : S.Fit n nr) (n12 : n ≤ 12) {b : Str} {wd : List Nat} {i : Nat} (li : i < wd.length) {r : List Nat} {row : Nat} (e : (S.ruleAt n b wd i).2 = some (r, row)) :
    wgt (wd.take i ++ r ++ wd.drop (i + (S.ruleAt n b wd i).1)) < wgt wd := by
  have cut : ∀ k, wgt wd = wgt (wd.take i) + wgt ((wd.drop i).take k) + wgt (wd.drop (i + k)) := fun k => by
    rw [Nat.add_assoc, ← List.drop_drop, ← wgt_app, List.take_append_drop, ← wgt_app, List.take_append_drop]
  have h1 : ∃ x, (wd.drop i).take 1 = [x] ∧ (wd[i]?).getD 0 = x := by
    refine ⟨wd[i], ?_, by rw [List.getElem?_eq_getElem li]; rfl⟩
    rw [List.drop_eq_getElem_cons li]
    rfl
  obtain ⟨x, hx, ex⟩ := h1
  have c1 := cut 1
  rw [hx] at c1
  have w1 : wgt [x] = 13 + x := by show 13 * 1 + (x + 0) = 13 + x; omega
  rw [wgt_app, wgt_app]
  have one : ∀ k, r = [k] → wgt r = 13 + k := fun k q => by rw [q]; show 13 * 1 + (k + 0) = 13 + k; omega
  have nil : r = [] → wgt r = 0 := fun q => by rw [q]; rfl
  have two : ∀ l : List Nat, l.length ≤ 1 → l = [] ∨ ∃ k, l = [k] := fun l h => by
    match l, h with
    | [], _ => exact .inl rfl
    | [k], _ => exact .inr ⟨k, rfl⟩
  unfold CmS.ruleAt at e ⊢
  dsimp only at e ⊢
  rw [ex] at e ⊢
  split at e
  · rename_i c
    rw [if_pos c]
    dsimp only
    obtain ⟨f1, f2, f3, f4⟩ := F.lo _ _ _ e
    rcases two r f1 with q | ⟨k, q⟩
    · have := nil q
      omega
    · have := one k q
      have := f4 k (by rw [q]; exact List.mem_cons_self)
      omega
  · rename_i c
    rw [if_neg c]
    split at e
    · rename_i d
      rw [if_pos d]
      dsimp only
      obtain ⟨f1, f2, f3⟩ := F.pr _ _ _ _ e
      have c2 := cut 2
      have w2 : 26 ≤ wgt ((wd.drop i).take 2) := by
        unfold wgt
        rw [List.length_take, List.length_drop]
        omega
      rcases two r f1 with q | ⟨k, q⟩
      · have := nil q
        omega
      · have := one k q
        have := f2 k (by rw [q]; exact List.mem_cons_self)
        omega
    · rename_i d
      rw [if_neg d]
      dsimp only at e ⊢
      split at e
      · obtain ⟨f1, f2⟩ := F.st _ _ _ e
        have := nil f1
        omega
      · cases e
theorem redN_some {S : CmS} {n nr : Nat} (F : S.Fit n nr) (n12 : n ≤ 12) {b : Str} : ∀ (k : Nat) (wd : List Nat) (i : Nat) (st : List Stp1), wd.length ≤ 4 → 5 * wgt wd + (wd.length - i) < k → ∃ out, redN S n b k wd i st = some out
  | 0, _, _, _, _, h => absurd h (Nat.not_lt_zero _)
  | k + 1, wd, i, st, l4, h => by
    unfold redN
    by_cases li : i < wd.length
    · rw [if_pos li]
      obtain ⟨f1, f2, f3⟩ := ruleAt_fit F (b := b) li
      cases e : (S.ruleAt n b wd i).2 with
      | none => exact redN_some F n12 k wd (i + 1) st l4 (by omega)
      | some ri =>
        obtain ⟨r, row⟩ := ri
        have g := f3 r row e
        have hw := wgt_rule F n12 li e
        dsimp only
        refine redN_some F n12 k _ 0 _ ?_ ?_
        · rw [List.length_append, List.length_append, List.length_take, List.length_drop]
          omega
        · have : (wd.take i ++ r ++ wd.drop (i + (S.ruleAt n b wd i).1)).length ≤ 4 := by
            rw [List.length_append, List.length_append, List.length_take, List.length_drop]
            omega
          omega
    · rw [if_neg li]
      exact ⟨_, rfl⟩
/-- a word of at most four letters is struck as far as the rules go -/
theorem red_ends {S : CmS} {n nr : Nat} (F : S.Fit n nr) (n12 : n ≤ 12) (b : Str) {wd : List Nat} (l4 : wd.length ≤ 4) (lt : ∀ x ∈ wd, x < n) : ∃ out, redN S n b 1000 wd 0 [] = some out := by
  refine redN_some F n12 1000 wd 0 [] l4 ?_
  have := wgt_le fun x hx => Nat.lt_of_lt_of_le (lt x hx) n12
  omega
end Ask

/-! an equation that the rules show to hold is offered: nothing waits -/
namespace Ask
open PySem L2
/-- what is never come to needs no rule -/
theorem pss_no {X : Cx} {ss : List Stmt} : PSs X ss (fun _ _ _ => False) := ⟨fun _ _ _ _ _ _ h => h.elim⟩
theorem redN_lt {S : CmS} {n nr : Nat} (F : S.Fit n nr) {b : Str} : ∀ (k : Nat) (wd : List Nat) (i : Nat) (st : List Stp1) (out : List Nat × List Stp1), (∀ x ∈ wd, x < n) → redN S n b k wd i st = some out → ∀ x ∈ out.1, x < n
  | 0, _, _, _, _, _, h => by cases h
  | k + 1, wd, i, st, out, lt, h => by
    unfold redN at h
    by_cases li : i < wd.length
    · rw [if_pos li] at h
      obtain ⟨f1, f2, f3⟩ := ruleAt_fit F (b := b) li
      cases e : (S.ruleAt n b wd i).2 with
      | none =>
        rw [e] at h
        exact redN_lt F k wd (i + 1) st out lt h
      | some ri =>
        obtain ⟨r, row⟩ := ri
        rw [e] at h
        obtain ⟨g1, g2, g3⟩ := f3 r row e
        refine redN_lt F k _ 0 _ out (fun x hx => ?_) h
        rcases List.mem_append.mp hx with hx | hx
        · rcases List.mem_append.mp hx with hx | hx
          · exact lt x (List.mem_of_mem_take hx)
          · exact g2 x hx
        · exact lt x (List.mem_of_mem_drop hx)
    · rw [if_neg li] at h
      cases h
      exact lt
section
variable {P : Program} {w : World} {K : PySem.W.Frag} {mg : Str → Option Value} {base : Heap}
def spOffer (K : PySem.W.Frag) (CC : Addr) : Sp := fun vs H Q _ => ∃ (p dx a1 a2 a3 : Addr) (A : CmA) (n off nr : Nat) (S : CmS) (b : Str) (w1 w2 : List Nat) (o1 o2 : List Nat × List Stp1), vs = [.ref p, .str b, .ref a1, .ref a2, .ref a3] ∧ CmR K CC H p dx A n off S ∧ S.Fit n nr ∧ H a1 = some (.tup (w1.map iN)) ∧ H a2 = some (.tup (w2.map iN)) ∧ w1.length ≤ 4 ∧ w2.length ≤ 4 ∧ (∀ x ∈ w1, x < n) ∧ (∀ x ∈ w2, x < n) ∧
  redN S n b 1000 w1 0 [] = some o1 ∧ redN S n b 1000 w2 0 [] = some o2 ∧ o1.1 = o2.1 ∧ ∀ H', Same H H' → Q .non H'

abbrev s_Completion_offer : Stmt := inClass (top 58) 5
theorem sc_Completion_offer : FnScope ["self", "beginning", "first", "last", "steps", "before", "behind"] ["self", "beginning", "first", "last", "steps"] (defScope s_Completion_offer) := ⟨rfl, rfl, rfl, by decide +kernel, rfl, by decide +kernel, by decide +kernel⟩
theorem ok_offer {f CC fR : Addr} {fd fdR : FuncData} (F : Fun K "offer" "Completion.offer" s_Completion_offer f fd) (T : Blt mg) (hC : CmC K CC)
    (GR : FnOk P w K mg base CX0 2 fR fdR ["self", "beginning", "word"] (spReduced K CC)) (bR : Binds K fdR ["self", "beginning", "word"] []) (mR : Meth K CC "reduced" fR) : FnOk P w K mg base CX0 3 f fd ["self", "beginning", "first", "last", "steps"] (spOffer K CC) := by
  refine F.ok sc_Completion_offer (fun vs H Q E h => ?_) (fun cdv A0 outer s H vs Q E hr h => ?_)
  · obtain ⟨p, dx, a1, a2, a3, A, n, off, nr, S, b, w1, w2, o1, o2, rfl, _⟩ := h
    rfl
  · obtain ⟨p, dx, a1, a2, a3, A, n, off, nr, S, b, w1, w2, o1, o2, rfl, R, hF, h1, h2, l1, l2, t1, t2, r1, r2, eo, kq⟩ := h
    have n12 := R.n12
    have h_reduced := hr.mono (j := 2) (by decide)
    refine ⟨_, (pss_cons (ps_asg (pe_meth (pv 0) hC.c mR GR h_reduced bR .nil pass0 (pa_cons (pv 1) (pa_cons (pv 2) pa_nil))) (pg_tup rfl (pgs_cons (pg_name (i := 2) sc_Completion_offer.nd rfl (Or.inl rfl)) (pgs_cons (pg_name (i := 5) sc_Completion_offer.nd rfl (Or.inl rfl)) pgs_nil))))
      (pss_cons (ps_asg (pe_meth (pv 0) hC.c mR GR h_reduced bR .nil pass0 (pa_cons (pv 1) (pa_cons (pv 3) pa_nil))) (pg_tup rfl (pgs_cons (pg_name (i := 3) sc_Completion_offer.nd rfl (Or.inl rfl)) (pgs_cons (pg_name (i := 6) sc_Completion_offer.nd rfl (Or.inl rfl)) pgs_nil))))
      (pss_one (ps_if (pt_cmpR (op_neD hr.units) (pv 2) (pv 3) (nomark _)) pss_no pss_nil)))), ?_⟩
    refine ⟨_, rfl, p, dx, _, rfl, R.at_, rfl, _, rfl, _, rfl, p, dx, a1, A, n, off, nr, S, b, w1, 1000, o1, rfl, R, hF, h1, l1, t1, Nat.le_refl _, r1, fun H2 t b1 c1 v1 s2 e1 f1 g1 _ => ?_⟩
    refine ⟨t, _, rfl, SqT.of e1, rfl, _, _, rfl, _, _, rfl, rfl, ?_⟩
    try dsimp only
    refine ⟨_, rfl, p, dx, _, rfl, s2 _ _ R.at_, rfl, _, rfl, _, rfl, p, dx, a2, A, n, off, nr, S, b, w2, 1000, o2, rfl, R.same s2, hF, s2 _ _ h2, l2, t2, Nat.le_refl _, r2, fun H3 u b2 c2 v2 s3 e2 f2 g2 _ => ?_⟩
    refine ⟨u, _, rfl, SqT.of e2, rfl, _, _, rfl, _, _, rfl, rfl, ?_⟩
    try dsimp only
    have lo : ∀ {o : List Nat}, (∀ x ∈ o, x < n) → ∀ x ∈ o, x ≤ 1000 := fun h x hx => by have := h x hx; omega
    refine ⟨_, rfl, _, rfl, _, _, .tup (SqT.of (s3 _ _ f1)) (dp_ints o1.1), .tup (SqT.of f2) (dp_ints o2.1), natsT_shaped (lo (redN_lt hF _ _ _ _ _ t1 r1)), natsT_shaped (lo (redN_lt hF _ _ _ _ _ t2 r2)), ?_⟩
    rw [eqvT_nats, eo, decide_eq_true rfl]
    exact ⟨_, rfl, iteF (kq H3 (s2.trans s3))⟩
end
end Ask

/-! an overlap that is seen at once to hold -/
namespace Ask
open PySem L2
theorem asg_c {te : TE} {g : TG} {u : TS} {D : Ends} {σ : L2.St} {H : Hp} (h : te σ H fun x H1 => g x σ H1 (u D)) : tSeq (tAsg te g) u D σ H := h
/-- what x y z is struck to where the first rule is used first; where the last one is -/
def fstW (x z : Nat) (h t : List Nat) : List Nat := if h = [x] then [x, z] else if h ≠ [] then t else [z]
def lstW (x z : Nat) (h t : List Nat) : List Nat := if t = [z] then [x, z] else if t ≠ [] then h else [x]
theorem fstW_le {x z : Nat} {h t : List Nat} (hx : x ≤ 1000) (hz : z ≤ 1000) (ht : ∀ k ∈ t, k ≤ 1000) : ∀ k ∈ fstW x z h t, k ≤ 1000 := by
  intro k hk
  unfold fstW at hk
  split at hk
  · rcases List.mem_cons.mp hk with e | hk
    · omega
    · have := List.mem_singleton.mp hk; omega
  · split at hk
    · exact ht k hk
    · have := List.mem_singleton.mp hk; omega
theorem lstW_le {x z : Nat} {h t : List Nat} (hx : x ≤ 1000) (hz : z ≤ 1000) (hh : ∀ k ∈ h, k ≤ 1000) : ∀ k ∈ lstW x z h t, k ≤ 1000 := by
  intro k hk
  unfold lstW at hk
  split at hk
  · rcases List.mem_cons.mp hk with e | hk
    · omega
    · have := List.mem_singleton.mp hk; omega
  · split at hk
    · exact hh k hk
    · have := List.mem_singleton.mp hk; omega
section
variable {P : Program} {w : World} {K : PySem.W.Frag} {mg : Str → Option Value} {base : Heap}
def spOverlap : Sp := fun vs H Q _ => ∃ (p t1 t2 h1 h2 : Addr) (x y z r1 r2 : Nat) (hw tw : List Nat), vs = [.ref p, iN x, iN y, iN z, .ref t1, .ref t2] ∧ H t1 = some (.tup [.ref h1, iN r1]) ∧ H h1 = some (.tup (hw.map iN)) ∧ H t2 = some (.tup [.ref h2, iN r2]) ∧ H h2 = some (.tup (tw.map iN)) ∧
  x ≤ 1000 ∧ z ≤ 1000 ∧ (∀ k ∈ hw, k ≤ 1000) ∧ (∀ k ∈ tw, k ≤ 1000) ∧ fstW x z hw tw = lstW x z hw tw ∧ ∀ H', Same H H' → Q .non H'

abbrev s_Completion_overlap : Stmt := inClass (top 58) 13
theorem sc_Completion_overlap : FnScope ["self", "x", "y", "z", "one", "other", "here", "there", "first", "last", "known"] ["self", "x", "y", "z", "one", "other"] (defScope s_Completion_overlap) := ⟨rfl, rfl, rfl, by decide +kernel, rfl, by decide +kernel, by decide +kernel⟩
theorem ok_overlap {f : Addr} {fd : FuncData} (F : Fun K "overlap" "Completion.overlap" s_Completion_overlap f fd) (T : Blt mg) : FnOk P w K mg base CX0 1 f fd ["self", "x", "y", "z", "one", "other"] spOverlap := by
  refine F.ok sc_Completion_overlap (fun vs H Q E h => ?_) (fun cdv A0 outer s H vs Q E hr h => ?_)
  · obtain ⟨p, t1, t2, h1, h2, x, y, z, r1, r2, hw, tw, rfl, _⟩ := h
    rfl
  · obtain ⟨p, t1, t2, h1, h2, x, y, z, r1, r2, hw, tw, rfl, e1, g1, e2, g2, bx, bz, bh, bt, eq, kq⟩ := h
    have z1 : (100000 : Nat) ≤ sizeLine := by decide
    refine ⟨_, (pss_cons (ps_par (i := 6) (j := 7) rfl sc_Completion_overlap.nd rfl rfl (by decide) rfl rfl (pa_cons (pe_ix ix_tup (pv 4) pe_int (fun _ _ => rfl)) (pa_cons (pe_ix ix_tup (pv 5) pe_int (fun _ _ => rfl)) pa_nil)) (by rfl))
      (pss_cons (ps_set (i := 8) sc_Completion_overlap.nd rfl (Or.inl rfl) (pe_ifExp (pt_cmpR (op_eqD hr.units) (pv 6) (pe_tup (pa_cons (pv 1) pa_nil)) (nomark _)) (pe_tup (pa_cons (pv 1) (pa_cons (pv 3) pa_nil))) (pe_ifExp (pt_truth (pv 6) (by intro _; rfl)) (pv 7) (pe_tup (pa_cons (pv 3) pa_nil)))))
      (pss_cons (ps_set (i := 9) sc_Completion_overlap.nd rfl (Or.inl rfl) (pe_ifExp (pt_cmpR (op_eqD hr.units) (pv 7) (pe_tup (pa_cons (pv 3) pa_nil)) (nomark _)) (pe_tup (pa_cons (pv 1) (pa_cons (pv 3) pa_nil))) (pe_ifExp (pt_truth (pv 7) (by intro _; rfl)) (pv 6) (pe_tup (pa_cons (pv 1) pa_nil)))))
      (pss_cons (ps_if (pt_cmpR (op_eqD hr.units) (pv 8) (pv 9) (nomark _)) (pss_one ps_retN) pss_nil)
      pss_no)))), ?_⟩
    refine ⟨_, rfl, t1, _, _, .ref h1, rfl, rfl, SqT.of e1, at_by (j := 0) rfl rfl, _, rfl, t2, _, _, .ref h2, rfl, rfl, SqT.of e2, at_by (j := 0) rfl rfl, _, _, rfl, ?_⟩
    try dsimp only
    refine asg_c ?_
    refine tIf_cut (fun v H' => ∃ a, v = .ref a ∧ Same H H' ∧ H' a = some (.tup ((fstW x z hw tw).map iN))) (fun Q' hQ => ?_) ?_
    · skip
      refine ⟨_, rfl, _, rfl, by show 1 ≤ sizeLine; omega, fun u hu => ?_⟩
      have s0 := Ask.Same.made1 (o := .tup [iN x]) (Same.refl H) hu
      refine ⟨.tuple (hw.map fun k : Nat => PyData.int k), .tuple ([x].map fun k : Nat => PyData.int k), .tup (SqT.of (s0 _ _ g1)) (dp_ints hw), .tup (SqT.of upd_same) (dp_ints [x]), natsT_shaped bh, natsT_shaped fun k hk => by (have := List.mem_singleton.mp hk); omega, _, rfl, ?_⟩
      rw [eqvT_nats]
      by_cases c : hw = [x]
      · rw [decide_eq_true c]
        refine iteT ⟨_, rfl, _, rfl, by show 2 ≤ sizeLine; omega, fun v hv => ?_⟩
        refine hQ _ _ ⟨v, rfl, (s0.trans (Ask.Same.made1 (o := .tup [iN x, iN z]) (Same.refl _) hv)), ?_⟩
        rw [show fstW x z hw tw = [x, z] from if_pos c]
        exact upd_same
      · rw [decide_eq_false c]
        refine iteF ?_
        by_cases d : hw = []
        · subst d
          refine ⟨_, rfl, false, .inr (.inl ⟨_, SqT.of (s0 _ _ g1), rfl⟩), iteF ⟨_, rfl, by show 1 ≤ sizeLine; omega, fun v hv => ?_⟩⟩
          refine hQ _ _ ⟨v, rfl, (s0.trans (Ask.Same.made1 (o := .tup [iN z]) (Same.refl _) hv)), ?_⟩
          rw [show fstW x z [] tw = [z] from by unfold fstW; rw [if_neg c, if_neg (fun z => z rfl)]]
          exact upd_same
        · obtain ⟨y0, r0, e0⟩ : ∃ y0 r0, hw = y0 :: r0 := by cases q : hw with
            | nil => exact absurd q d
            | cons y r => exact ⟨y, r, rfl⟩
          refine ⟨_, rfl, true, .inr (.inl ⟨_, SqT.of (s0 _ _ g1), by rw [e0]; rfl⟩), iteT ⟨_, rfl, ?_⟩⟩
          refine hQ _ _ ⟨_, rfl, s0, ?_⟩
          rw [show fstW x z hw tw = tw from by unfold fstW; rw [if_neg c, if_pos d]]
          exact s0 _ _ g2
    rintro v1 H1 ⟨a1, rfl, s1, f1⟩
    try dsimp only
    refine nm_asg2 ?_
    refine tIf_cut (fun v H' => ∃ a, v = .ref a ∧ Same H H' ∧ H' a1 = some (.tup ((fstW x z hw tw).map iN)) ∧ H' a = some (.tup ((lstW x z hw tw).map iN))) (fun Q' hQ => ?_) ?_
    · have g1' := s1 _ _ g1
      have g2' := s1 _ _ g2
      refine ⟨_, rfl, _, rfl, by show 1 ≤ sizeLine; omega, fun u hu => ?_⟩
      have s0 := Ask.Same.made1 (o := .tup [iN z]) (Same.refl H1) hu
      refine ⟨.tuple (tw.map fun k : Nat => PyData.int k), .tuple ([z].map fun k : Nat => PyData.int k), .tup (SqT.of (s0 _ _ g2')) (dp_ints tw), .tup (SqT.of upd_same) (dp_ints [z]), natsT_shaped bt, natsT_shaped fun k hk => by (have := List.mem_singleton.mp hk); omega, _, rfl, ?_⟩
      rw [eqvT_nats]
      by_cases c : tw = [z]
      · rw [decide_eq_true c]
        refine iteT ⟨_, rfl, _, rfl, by show 2 ≤ sizeLine; omega, fun v hv => ?_⟩
        refine hQ _ _ ⟨v, rfl, s1.trans ((s0.trans (Ask.Same.made1 (o := .tup [iN x, iN z]) (Same.refl _) hv))), (Ask.Same.made1 (o := .tup [iN x, iN z]) (Same.refl _) hv) _ _ (s0 _ _ f1), ?_⟩
        rw [show lstW x z hw tw = [x, z] from if_pos c]
        exact upd_same
      · rw [decide_eq_false c]
        refine iteF ?_
        by_cases d : tw = []
        · subst d
          refine ⟨_, rfl, false, .inr (.inl ⟨_, SqT.of (s0 _ _ g2'), rfl⟩), iteF ⟨_, rfl, by show 1 ≤ sizeLine; omega, fun v hv => ?_⟩⟩
          refine hQ _ _ ⟨v, rfl, s1.trans ((s0.trans (Ask.Same.made1 (o := .tup [iN x]) (Same.refl _) hv))), (Ask.Same.made1 (o := .tup [iN x]) (Same.refl _) hv) _ _ (s0 _ _ f1), ?_⟩
          rw [show lstW x z hw [] = [x] from by unfold lstW; rw [if_neg c, if_neg (fun z => z rfl)]]
          exact upd_same
        · obtain ⟨y0, r0, e0⟩ : ∃ y0 r0, tw = y0 :: r0 := by cases q : tw with
            | nil => exact absurd q d
            | cons y r => exact ⟨y, r, rfl⟩
          refine ⟨_, rfl, true, .inr (.inl ⟨_, SqT.of (s0 _ _ g2'), by rw [e0]; rfl⟩), iteT ⟨_, rfl, ?_⟩⟩
          refine hQ _ _ ⟨_, rfl, s1.trans (s0), s0 _ _ f1, ?_⟩
          rw [show lstW x z hw tw = hw from by unfold lstW; rw [if_neg c, if_pos d]]
          exact s0 _ _ g1'
    rintro v2 H2 ⟨a2, rfl, s2, f1', f2⟩
    try dsimp only
    refine ⟨_, rfl, _, rfl, _, _, .tup (SqT.of f1') (dp_ints _), .tup (SqT.of f2) (dp_ints _), natsT_shaped (fstW_le bx bz bt), natsT_shaped (lstW_le bx bz bh), _, rfl, ?_⟩
    rw [eqvT_nats, eq, decide_eq_true rfl]
    exact iteT (kq H2 s2)
end
end Ask

/-! a still letter and a pair that do not stand together -/
namespace Ask
open PySem L2
section
variable {P : Program} {w : World} {K : PySem.W.Frag} {mg : Str → Option Value} {base : Heap}
def spOverStill (K : PySem.W.Frag) (CC : Addr) : Sp := fun vs H Q _ => ∃ (p dx : Addr) (A : CmA) (n off : Nat) (S : CmS) (x y : Nat), vs = [.ref p, iN x, iN y] ∧ CmR K CC H p dx A n off S ∧ x < n ∧ y < n ∧ (S.stl x = none ∨ S.pr n x y = none) ∧ ∀ H', Same H H' → Q .non H'

abbrev s_Completion_overlap_still : Stmt := inClass (top 58) 14
theorem sc_Completion_overlap_still : FnScope ["self", "letter", "other", "still", "pair"] ["self", "letter", "other"] (defScope s_Completion_overlap_still) := ⟨rfl, rfl, rfl, by decide +kernel, rfl, by decide +kernel, by decide +kernel⟩
theorem ok_overStill {f CC : Addr} {fd : FuncData} (F : Fun K "overlap_still" "Completion.overlap_still" s_Completion_overlap_still f fd) (T : Blt mg) (hC : CmC K CC) : FnOk P w K mg base CX0 1 f fd ["self", "letter", "other"] (spOverStill K CC) := by
  refine F.ok sc_Completion_overlap_still (fun vs H Q E h => ?_) (fun cdv A0 outer s H vs Q E hr h => ?_)
  · obtain ⟨p, dx, A, n, off, S, x, y, rfl, _⟩ := h
    rfl
  · obtain ⟨p, dx, A, n, off, S, x, y, rfl, R, lx, ly, no, kq⟩ := h
    refine ⟨_, (pss_cons (ps_par (i := 3) (j := 4) rfl sc_Completion_overlap_still.nd rfl rfl (by decide) rfl rfl (pa_cons (pe_ix ix_list (pe_fld (pv 0) rfl) (pv 1) (fun _ _ => rfl)) (pa_cons (pe_ix ix_list (pe_fld (pv 0) rfl) (pe_op op_add (pe_op op_mul (pv 1) (pe_fld (pv 0) rfl)) (pv 2)) (fun _ _ => rfl)) pa_nil)) (by rfl))
      (pss_one (ps_if (PW.pt (pw_and (pt_cmpR op_notN (pv 3) pe_non (nomark _)) (pw_and1 (pt_cmpR op_notN (pv 4) pe_non (nomark _))))) pss_no pss_nil))), ?_⟩
    have n12 := R.n12
    obtain ⟨ss, u, o1, e1, e2, e3, e4⟩ := R.still.get (i := x) (by rw [R.l2]; exact lx)
    have eo1 : S.stl x = o1 := by unfold CmS.stl; rw [e3]; rfl
    obtain ⟨ps, v, o2, g1, g2, g3, g4⟩ := R.pairs.get (i := x * n + y) (by rw [R.l3]; exact pr_lt lx ly)
    have eo2 : S.pr n x y = o2 := by unfold CmS.pr; rw [g3]; rfl
    refine ⟨_, rfl, p, CC, dx, _, _, rfl, R.at_, hC.c, hC.a7, rfl, _, rfl, A.st, _, _, u, rfl, rfl, SqL.of e1, at_by (j := x) rfl e2, _, rfl, p, CC, dx, _, _, rfl, R.at_, hC.c, hC.a8, rfl, _, rfl, _, rfl, p, CC, dx, _, _, rfl, R.at_, hC.c, hC.a3, rfl, _, _, rfl, rfl, mul_small (by omega), _, rfl, _, _, rfl, rfl, A.pr, _, _, v, rfl, rfl, SqL.of g1, at_by (j := x * n + y) (by rw [Int.natCast_add, Int.natCast_mul]) g2, _, _, rfl, ?_⟩
    refine ⟨_, rfl, rfl, _, rfl, ?_⟩
    rw [e4.non, ← eo1]
    rcases no with q | q
    · rw [q]
      exact iteF (iteF (kq H (Same.refl H)))
    · have g5 := g4.non
      rw [← eo2, q] at g5
      cases c : (S.stl x).isNone with
      | true => exact iteF (iteF (kq H (Same.refl H)))
      | false =>
        refine iteT ⟨_, rfl, rfl, _, rfl, ?_⟩
        rw [g5]
        exact iteF (kq H (Same.refl H))
end
end Ask

/-! a pair that overlaps only where it is seen at once to hold -/
namespace Ask
open PySem L2
theorem nm_any {i : Nat} {v : V} {σ : L2.St} {H : Hp} {N : L2.St → Hp → Prop} (h : N (σ.set i (some v)) H) : gName i v σ H N := h
section
variable {P : Program} {w : World} {K : PySem.W.Frag} {mg : Str → Option Value} {base : Heap}
def spOverPair (K : PySem.W.Frag) (CC : Addr) : Sp := fun vs H Q _ => ∃ (p dx : Addr) (A : CmA) (n off nr : Nat) (S : CmS) (x y : Nat) (r : List Nat) (row : Nat), vs = [.ref p, iN x, iN y] ∧ CmR K CC H p dx A n off S ∧ S.Fit n nr ∧ x < n ∧ y < n ∧ S.pr n x y = some (r, row) ∧ S.stl x = none ∧
  (∀ z r' row', z < n → S.pr n y z = some (r', row') → fstW x z r r' = lstW x z r r') ∧ (∀ z r' row', z < n → S.pr n z x = some (r', row') → fstW z y r' r = lstW z y r' r) ∧ ∀ H', Same H H' → Q .non H'

abbrev s_Completion_overlap_pair : Stmt := inClass (top 58) 12
theorem sc_Completion_overlap_pair : FnScope ["self", "x", "y", "rule", "z", "behind", "ahead"] ["self", "x", "y"] (defScope s_Completion_overlap_pair) := ⟨rfl, rfl, rfl, by decide +kernel, rfl, by decide +kernel, by decide +kernel⟩
theorem ok_overPair {f CC fO fS : Addr} {fd fdO fdS : FuncData} (F : Fun K "overlap_pair" "Completion.overlap_pair" s_Completion_overlap_pair f fd) (T : Blt mg) (hC : CmC K CC)
    (GO : FnOk P w K mg base CX0 1 fO fdO ["self", "x", "y", "z", "one", "other"] spOverlap) (bO : Binds K fdO ["self", "x", "y", "z", "one", "other"] []) (mO : Meth K CC "overlap" fO)
    (GS : FnOk P w K mg base CX0 1 fS fdS ["self", "letter", "other"] (spOverStill K CC)) (bS : Binds K fdS ["self", "letter", "other"] []) (mS : Meth K CC "overlap_still" fS) : FnOk P w K mg base CX0 2 f fd ["self", "x", "y"] (spOverPair K CC) := by
  refine F.ok sc_Completion_overlap_pair (fun vs H Q E h => ?_) (fun cdv A0 outer s H vs Q E hr h => ?_)
  · obtain ⟨p, dx, A, n, off, nr, S, x, y, r, row, rfl, _⟩ := h
    rfl
  · obtain ⟨p, dx, A, n, off, nr, S, x, y, r, row, rfl, R, hF, lx, ly, hxy, hst, hb, ha, kq⟩ := h
    have n12 := R.n12
    have h_overlap := hr.mono (j := 1) (by decide)
    have h_overlap_still := hr.mono (j := 1) (by decide)
    refine ⟨_, (pss_cons (ps_set (i := 3) sc_Completion_overlap_pair.nd rfl (Or.inl rfl) (pe_ix ix_list (pe_fld (pv 0) rfl) (pe_op op_add (pe_op op_mul (pv 1) (pe_fld (pv 0) rfl)) (pv 2)) (fun _ _ => rfl)))
      (pss_cons (ps_for PassesOwn.never rfl (pi_range1 rfl T.n_range (pa_cons (pe_fld (pv 0) rfl) pa_nil)) (pg_name (i := 4) sc_Completion_overlap_pair.nd rfl (Or.inl rfl)) (pss_cons (ps_set (i := 5) sc_Completion_overlap_pair.nd rfl (Or.inl rfl) (pe_ix ix_list (pe_fld (pv 0) rfl) (pe_op op_add (pe_op op_mul (pv 2) (pe_fld (pv 0) rfl)) (pv 4)) (fun _ _ => rfl)))
      (pss_cons (ps_if (pt_cmpR op_notN (pv 5) pe_non (nomark _)) (pss_one (ps_expr (pe_meth (pv 0) hC.c mO GO h_overlap bO .nil pass0 (pa_cons (pv 1) (pa_cons (pv 2) (pa_cons (pv 4) (pa_cons (pv 3) (pa_cons (pv 5) pa_nil)))))))) pss_nil)
      (pss_cons (ps_set (i := 6) sc_Completion_overlap_pair.nd rfl (Or.inl rfl) (pe_ix ix_list (pe_fld (pv 0) rfl) (pe_op op_add (pe_op op_mul (pv 4) (pe_fld (pv 0) rfl)) (pv 1)) (fun _ _ => rfl)))
      (pss_one (ps_if (pt_cmpR op_notN (pv 6) pe_non (nomark _)) (pss_one (ps_expr (pe_meth (pv 0) hC.c mO GO h_overlap bO .nil pass0 (pa_cons (pv 4) (pa_cons (pv 1) (pa_cons (pv 2) (pa_cons (pv 6) (pa_cons (pv 3) pa_nil)))))))) pss_nil))))))
      (pss_one (ps_expr (pe_meth (pv 0) hC.c mS GS h_overlap_still bS .nil pass0 (pa_cons (pv 1) (pa_cons (pv 2) pa_nil))))))), ?_⟩
    have mulS : ∀ {a b : Nat}, a < n → b < n → ∃ ps v, H A.pr = some (.lst ps) ∧ ps[a * n + b]? = some v ∧ RulV H (S.pr n a b) v := fun {a b} la lb => by
      obtain ⟨ps, v, o2, g1, g2, g3, g4⟩ := R.pairs.get (i := a * n + b) (by rw [R.l3]; exact pr_lt la lb)
      exact ⟨ps, v, g1, g2, by rw [show S.pr n a b = o2 from by unfold CmS.pr; rw [g3]; rfl]; exact g4⟩
    obtain ⟨ps, v, g1, g2, g4⟩ := mulS lx ly
    rw [hxy] at g4
    obtain ⟨t1, h1, rfl, e1, e2⟩ := g4
    refine ⟨_, rfl, p, CC, dx, _, _, rfl, R.at_, hC.c, hC.a8, rfl, _, rfl, _, rfl, p, CC, dx, _, _, rfl, R.at_, hC.c, hC.a3, rfl, _, _, rfl, rfl, mul_small (by omega), _, rfl, _, _, rfl, rfl, A.pr, _, _, _, rfl, rfl, SqL.of g1, at_by (j := x * n + y) (by rw [Int.natCast_add, Int.natCast_mul]) g2, ?_⟩
    try dsimp only
    refine nm_any ?_
    have bnd : ∀ {a b : Nat} {r' : List Nat} {row' : Nat}, S.pr n a b = some (r', row') → ∀ k ∈ r', k ≤ 1000 := fun {a b r' row'} e k hk => by have := (hF.pr _ _ _ _ e).2.1 k hk; omega
    refine for_any (fun Rr hR => ⟨_, rfl, p, CC, dx, _, _, rfl, R.at_, hC.c, hC.a3, rfl, (n : Int), rfl, by omega, by omega, hR⟩) (walk_range (lo := 0) (n := n)) (fun i σ' H' => ∃ o4 o5 o6 : Option V, σ' = [some (.ref p), some (iN x), some (iN y), some (.ref t1), o4, o5, o6] ∧ Same H H') ⟨_, _, _, rfl, Same.refl H⟩ (fun _ _ _ _ _ => trivial) ?_ ?_
    · rintro i v σ' H1 H1' hi ⟨o4, o5, o6, rfl, s1⟩ ⟨rfl, rfl⟩
      try dsimp only
      obtain ⟨ps1, v1, a1, a2, a3⟩ := mulS ly hi
      obtain ⟨ps2, v2, b1, b2, b3⟩ := mulS hi lx
      rw [Int.zero_add]
      refine nm_asg2 ?_
      refine ⟨_, rfl, p, CC, dx, _, _, rfl, s1 _ _ R.at_, hC.c, hC.a8, rfl, _, rfl, _, rfl, p, CC, dx, _, _, rfl, s1 _ _ R.at_, hC.c, hC.a3, rfl, _, _, rfl, rfl, mul_small (by omega), _, rfl, _, _, rfl, rfl, A.pr, _, _, v1, rfl, rfl, SqL.of (s1 _ _ a1), at_by (j := y * n + i) (by rw [Int.natCast_add, Int.natCast_mul]) a2, ?_⟩
      try dsimp only
      refine nm_any ?_
      refine seqIf_mid (fun σ' H' => σ' = [some (.ref p), some (iN x), some (iN y), some (.ref t1), some (iN i), some v1, o6] ∧ Same H H') (fun K' hK => ?_) ?_
      · refine ⟨_, rfl, rfl, _, rfl, ?_⟩
        rw [a3.non]
        cases q : S.pr n y i with
        | none => exact iteF (hK _ _ ⟨rfl, s1⟩)
        | some ri =>
          obtain ⟨r', row'⟩ := ri
          rw [q] at a3
          obtain ⟨t3, h3, rfl, c1, c2⟩ := a3
          refine iteT ⟨_, rfl, p, dx, _, rfl, s1 _ _ R.at_, rfl, _, rfl, _, rfl, _, rfl, _, rfl, _, rfl, p, t1, t3, h1, h3, x, y, i, row, row', r, r', rfl, s1 _ _ e1, s1 _ _ e2, s1 _ _ c1, s1 _ _ c2, by omega, by omega, bnd hxy, bnd q, hb i r' row' hi q, fun H2 s2 => hK _ _ ⟨rfl, s1.trans s2⟩⟩
      rintro σ2 H2 ⟨rfl, s2⟩
      refine asg_c ?_
      refine ⟨_, rfl, p, CC, dx, _, _, rfl, s2 _ _ R.at_, hC.c, hC.a8, rfl, _, rfl, _, rfl, p, CC, dx, _, _, rfl, s2 _ _ R.at_, hC.c, hC.a3, rfl, _, _, rfl, rfl, mul_small (by omega), _, rfl, _, _, rfl, rfl, A.pr, _, _, v2, rfl, rfl, SqL.of (s2 _ _ b1), at_by (j := i * n + x) (by rw [Int.natCast_add, Int.natCast_mul]) b2, ?_⟩
      try dsimp only
      refine nm_any ?_
      refine ⟨_, rfl, rfl, _, rfl, ?_⟩
      rw [b3.non]
      cases q : S.pr n i x with
      | none => exact iteF ⟨_, _, _, rfl, s2⟩
      | some ri =>
        obtain ⟨r', row'⟩ := ri
        rw [q] at b3
        obtain ⟨t3, h3, rfl, c1, c2⟩ := b3
        exact iteT ⟨_, rfl, p, dx, _, rfl, s2 _ _ R.at_, rfl, _, rfl, _, rfl, _, rfl, _, rfl, _, rfl, p, t3, t1, h3, h1, i, x, y, row', row, r', r, rfl, s2 _ _ c1, s2 _ _ c2, s2 _ _ e1, s2 _ _ e2, by omega, by omega, bnd q, bnd hxy, ha i r' row' hi q, fun H3 s3 => ⟨_, _, _, rfl, s2.trans s3⟩⟩
    · rintro σ' H1 ⟨o4, o5, o6, rfl, s1⟩
      refine ⟨_, rfl, p, dx, _, rfl, s1 _ _ R.at_, rfl, _, rfl, _, rfl, p, dx, A, n, off, S, x, y, rfl, R.same s1, lx, ly, .inl hst, fun H2 s2 => kq H2 (s1.trans s2)⟩
end
end Ask

/-! the row of a told rule; rules taken back -/
namespace Ask
open PySem L2
section
variable {P : Program} {w : World} {K : PySem.W.Frag} {mg : Str → Option Value} {base : Heap}
/-- what is told in one row has that row -/
def spRowFor : Sp := fun vs H Q _ => ∃ (p a1 a2 a3 d : Addr) (b : Str) (x : Stp1), vs = [.ref p, .str b, .ref a1, .ref a2, .ref a3] ∧ H a3 = some (.tup [.ref d]) ∧ H d = some (.tup x.vs) ∧ ∀ H', Same H H' → Q (iN x.row) H'

abbrev s_Completion_row_for : Stmt := inClass (top 58) 8
theorem sc_Completion_row_for : FnScope ["self", "beginning", "left", "right", "steps", "words", "kind", "second", "rank"] ["self", "beginning", "left", "right", "steps"] (defScope s_Completion_row_for) := ⟨rfl, rfl, rfl, by decide +kernel, rfl, by decide +kernel, by decide +kernel⟩
theorem ok_rowFor {f : Addr} {fd : FuncData} (F : Fun K "row_for" "Completion.row_for" s_Completion_row_for f fd) (T : Blt mg) : FnOk P w K mg base CX0 1 f fd ["self", "beginning", "left", "right", "steps"] spRowFor := by
  refine F.ok sc_Completion_row_for (fun vs H Q E h => ?_) (fun cdv A0 outer s H vs Q E hr h => ?_)
  · obtain ⟨p, a1, a2, a3, d, b, x, rfl, _⟩ := h
    rfl
  · obtain ⟨p, a1, a2, a3, d, b, x, rfl, e1, e2, kq⟩ := h
    refine ⟨_, (pss_cons (ps_if (pt_cmpR op_eq (pe_callB call_len_seq (by rfl) T.n_len (by decide +kernel) (pa_cons (pv 4) pa_nil)) pe_int (nomark _)) (pss_one (ps_ret (pe_ix ix_seq (pe_ix ix_tup (pv 4) pe_int (fun _ _ => rfl)) pe_int (fun _ _ => rfl)))) pss_nil)
      pss_no), ?_⟩
    refine ⟨_, rfl, a3, _, rfl, .inr (SqT.of e1), rfl, _, rfl, ?_⟩
    rw [decide_eq_true (show V.int ((([V.ref d].length : Nat) : Int)) = V.int 1 from rfl)]
    exact iteT ⟨_, rfl, a3, _, _, .ref d, rfl, rfl, SqT.of e1, at_by (j := 0) rfl rfl, .inr (.inl ⟨d, _, _, _, rfl, rfl, SqT.of e2, at_by (j := 0) rfl rfl, kq H (Same.refl H)⟩)⟩
/-- places of a list of rules, taken back one by one: the rows, the list -/
def takeN (l : List Rul) : List Nat → List Nat × List Rul
  | [] => ([], l)
  | i :: r => match (l[i]?).getD none with
    | none => takeN l r
    | some x => let q := takeN (l.set i none) r
      (x.2 :: q.1, q.2)
end
end Ask

/-! rules taken back -/
namespace Ask
open PySem L2
theorem takeN_app : ∀ (a : List Nat) (l : List Rul) (i : Nat), takeN l (a ++ [i]) = match ((takeN l a).2[i]?).getD none with
    | none => takeN l a
    | some x => ((takeN l a).1 ++ [x.2], (takeN l a).2.set i none)
  | [], l, i => by
    show takeN l [i] = _
    unfold takeN
    show (match (l[i]?).getD none with | none => takeN l [] | some x => _) = _
    cases (l[i]?).getD none <;> rfl
  | j :: a, l, i => by
    rw [List.cons_append]
    unfold takeN
    cases e : (l[j]?).getD none with
    | none => exact takeN_app a l i
    | some x =>
      dsimp only
      rw [takeN_app a (l.set j none) i]
      cases ((takeN (l.set j none) a).2[i]?).getD none <;> rfl
theorem takeN_len : ∀ (a : List Nat) (l : List Rul), (takeN l a).2.length = l.length ∧ (takeN l a).1.length ≤ a.length
  | [], _ => ⟨rfl, Nat.le_refl _⟩
  | j :: a, l => by
    unfold takeN
    cases e : (l[j]?).getD none with
    | none => exact ⟨(takeN_len a l).1, Nat.le_succ_of_le (takeN_len a l).2⟩
    | some x =>
      obtain ⟨h1, h2⟩ := takeN_len a (l.set j none)
      exact ⟨by dsimp only; rw [h1, List.length_set], Nat.succ_le_succ h2⟩
/-- all but the object at p stands -/
def ButL (p : Addr) (H H' : Hp) : Prop := ∀ b o, b ≠ p → H b = some o → H' b = some o
theorem RulV.but {H H' : Hp} {p : Addr} {o : Rul} {v : V} {xs : List V} (hp : H p = some (.lst xs)) (h : RulV H o v) (s : ButL p H H') : RulV H' o v := by
  cases o with
  | none => exact h
  | some x =>
    obtain ⟨t, a, e, h1, h2⟩ := h
    exact ⟨t, a, e, s _ _ (fun z => by rw [z, hp] at h1; cases h1) h1, s _ _ (fun z => by rw [z, hp] at h2; cases h2) h2⟩
section
variable {P : Program} {w : World} {K : PySem.W.Frag} {mg : Str → Option Value} {base : Heap}
def spTaken : Sp := fun vs H Q _ => ∃ (p rA pA : Addr) (l : List Rul) (ix : List Nat), vs = [.ref p, .ref rA, .ref pA] ∧ RulL H rA l ∧ H pA = some (.lst (ix.map iN)) ∧ rA ≠ pA ∧ (∀ i ∈ ix, i < l.length) ∧ ix.length ≤ 1000 ∧
  ∀ (H' : Hp) (L : Addr), ButL rA H H' → ((takeN l ix).1 = [] → Same H H') → RulL H' rA (takeN l ix).2 → H' L = some (.lst ((takeN l ix).1.map iN)) → H L = none → Q (.ref L) H'

abbrev s_Completion_taken_back : Stmt := inClass (top 58) 11
theorem sc_Completion_taken_back : FnScope ["self", "rules", "places", "rows", "place"] ["self", "rules", "places"] (defScope s_Completion_taken_back) := ⟨rfl, rfl, rfl, by decide +kernel, rfl, by decide +kernel, by decide +kernel⟩
theorem ok_taken {f : Addr} {fd : FuncData} (F : Fun K "taken_back" "Completion.taken_back" s_Completion_taken_back f fd) (T : Blt mg) : FnOk P w K mg base CX0 1 f fd ["self", "rules", "places"] spTaken := by
  refine F.ok sc_Completion_taken_back (fun vs H Q E h => ?_) (fun cdv A0 outer s H vs Q E hr h => ?_)
  · obtain ⟨p, rA, pA, l, ix, rfl, _⟩ := h
    rfl
  · obtain ⟨p, rA, pA, l, ix, rfl, hR, hpA, ne, lt, n1, kq⟩ := h
    have z1 : (100000 : Nat) ≤ sizeLine := by decide
    refine ⟨_, (pss_cons (ps_set (i := 3) sc_Completion_taken_back.nd rfl (Or.inl rfl) (pe_lst pa_nil))
      (pss_cons (ps_for PassesOwn.never rfl (pi_list (pv 2)) (pg_name (i := 4) sc_Completion_taken_back.nd rfl (Or.inl rfl)) (pss_one (ps_if (pt_cmpR op_notN (pe_ix ix_list (pv 1) (pv 4) (fun _ _ => rfl)) pe_non (nomark _)) (pss_cons (ps_expr (pe_bm PySem.F.plainAttrs_list PySem.F.slot_list_append PySem.F.type_list_append mt_append (pv 3) (pa_cons (pe_ix ix_seq (pe_ix ix_list (pv 1) (pv 4) (fun _ _ => rfl)) pe_int (fun _ _ => rfl)) pa_nil)))
      (pss_one (ps_asg pe_non (pg_sub (pv 1) (pv 4) set_list (by intro _; rfl))))) pss_nil)))
      (pss_one (ps_ret (pv 3))))), ?_⟩
    refine ⟨Nat.zero_le _, fun L hL => ?_⟩
    try dsimp only
    have rL : rA ≠ L := fun z => by obtain ⟨vs, e, _⟩ := hR; rw [z, hL] at e; cases e
    have pL : pA ≠ L := fun z => by rw [z, hL] at hpA; cases hpA
    refine nm_any ?_
    have s0 : Same H (upd H L (.lst [])) := Ask.Same.upd_new (Same.refl H) hL
    refine for_any (fun Rr hR => ⟨_, rfl, pA, rfl, ⟨_, SqL.of (s0 _ _ hpA)⟩, hR⟩) (walk_list (xs := ix.map iN)) (fun i σ' H' => ∃ o4 : Option V, σ' = [some (.ref p), some (.ref rA), some (.ref pA), some (.ref L), o4] ∧ ButL rA H H' ∧ ((takeN l (ix.take i)).1 = [] → Same H H') ∧ RulL H' rA (takeN l (ix.take i)).2 ∧ H' L = some (.lst ((takeN l (ix.take i)).1.map iN))) ⟨_, rfl, fun b o _ e => s0 b o e, fun _ => s0, hR.same s0, upd_same⟩ (fun i σ' H' _ ⟨_, _, b, _⟩ => SqL.of (b pA _ ne.symm hpA)) ?_ ?_
    · rintro i v σ' H1 H1' hi ⟨o4, rfl, bu, sm, hRl, hLl⟩ ⟨rfl, hv⟩
      rw [List.length_map] at hi
      obtain ⟨j, hj⟩ : ∃ j, ix[i]? = some j := ⟨_, List.getElem?_eq_getElem hi⟩
      rw [List.getElem?_map, hj] at hv
      cases hv
      have lj := lt j (List.mem_of_getElem? hj)
      obtain ⟨k1, k2⟩ := takeN_len (ix.take i) l
      have st := takeN_app (ix.take i) l j
      have tk : ix.take (i + 1) = ix.take i ++ [j] := by rw [List.take_add_one, hj]; rfl
      rw [← tk] at st
      obtain ⟨vs, u, o, e1, e2, e3, e4⟩ := hRl.get (i := j) (by rw [k1]; exact lj)
      have eo : ((takeN l (ix.take i)).2[j]?).getD none = o := by rw [e3]; rfl
      try dsimp only
      refine nm_any ?_
      refine ⟨_, rfl, _, rfl, rA, vs, _, u, rfl, rfl, SqL.of e1, at_by (j := j) rfl e2, rfl, _, rfl, ?_⟩
      rw [e4.non]
      rw [eo] at st
      cases o with
      | none =>
        dsimp only at st
        rw [st]
        exact iteF ⟨_, rfl, bu, sm, hRl, hLl⟩
      | some ri =>
        obtain ⟨r, row⟩ := ri
        dsimp only at st
        rw [st]
        obtain ⟨t, a, rfl, ht, hta⟩ := id e4
        have kl : (takeN l (ix.take i)).1.length ≤ 1000 := Nat.le_trans k2 (by rw [List.length_take]; omega)
        refine iteT ⟨_, rfl, .inl ⟨rfl, _, SqL.of hLl⟩, _, rfl, _, rfl, rA, vs, _, _, rfl, rfl, SqL.of e1, at_by (j := j) rfl e2, .inr (.inl ⟨t, _, _, iN row, rfl, rfl, SqT.of ht, at_by (j := 1) rfl rfl, L, _, iN row, rfl, rfl, hLl, by rw [List.length_map]; omega, ?_⟩)⟩
        try dsimp only
        have e1' : upd H1' L (.lst ((takeN l (ix.take i)).1.map iN ++ [iN row])) rA = some (.lst vs) := by rw [upd_ne rL]; exact e1
        have eL : upd H1' L (.lst ((takeN l (ix.take i)).1.map iN ++ [iN row])) L = some (.lst ((takeN l (ix.take i)).1.map iN ++ [iN row])) := upd_same
        have kp : ∀ b o, b ≠ rA → b ≠ L → H1' b = some o → upd (upd H1' L (.lst ((takeN l (ix.take i)).1.map iN ++ [iN row]))) rA (.lst (vs.set j .non)) b = some o := fun b o n1 n2 e => by rw [upd_ne n1, upd_ne n2]; exact e
        refine ⟨_, rfl, _, rfl, rA, vs, _, j, rfl, rfl, e1', ?_, _, rfl, fun b o n1 e => kp b o n1 (fun z => by rw [z, hL] at e; cases e) (bu b o n1 e), fun z => absurd z (by simp), ?_, ?_⟩
        · have hm : j < vs.length := (List.getElem?_eq_some_iff.mp e2).1
          unfold ixN
          rw [if_pos (by omega), if_pos (by omega), Int.toNat_natCast]
        · obtain ⟨ws, f1, f2, f3⟩ := hRl
          rw [e1] at f1
          cases f1
          refine ⟨vs.set j .non, upd_same, by rw [List.length_set, List.length_set]; exact f2, fun m y o' g1 g2 => ?_⟩
          by_cases c : m = j
          · subst c
            have hm : m < vs.length := by have := (List.getElem?_eq_some_iff.mp g1).1; rw [List.length_set] at this; exact this
            rw [List.getElem?_set_self hm] at g1
            rw [List.getElem?_set_self (by rw [← f2]; exact hm)] at g2
            cases g1
            cases g2
            rfl
          · rw [List.getElem?_set_ne (fun z => c z.symm)] at g1 g2
            have h1 := f3 m y o' g1 g2
            cases o' with
            | none => exact h1
            | some xx =>
              obtain ⟨t', a', q1, q2, q3⟩ := h1
              exact ⟨t', a', q1, kp _ _ (fun z => by rw [z, e1] at q2; cases q2) (fun z => by rw [z, hLl] at q2; cases q2) q2, kp _ _ (fun z => by rw [z, e1] at q3; cases q3) (fun z => by rw [z, hLl] at q3; cases q3) q3⟩
        · rw [upd_ne rL.symm, eL, List.map_append]
          rfl
    · rintro σ' H1 ⟨o4, rfl, bu, sm, hRl, hLl⟩
      rw [List.length_map, List.take_length] at sm hRl hLl
      exact ⟨_, rfl, kq H1 L bu sm hRl hLl hL⟩
end
end Ask

/-! a letter of which no rule speaks is retired: nothing is taken back -/
namespace Ask
open PySem L2
theorem takeN_no : ∀ (ix : List Nat) (l : List Rul), (∀ i ∈ ix, (l[i]?).getD none = none) → (takeN l ix).1 = []
  | [], _, _ => rfl
  | i :: r, l, h => by
    unfold takeN
    rw [h i List.mem_cons_self]
    exact takeN_no r l fun j hj => h j (List.mem_cons_of_mem _ hj)
section
variable {P : Program} {w : World} {K : PySem.W.Frag} {mg : Str → Option Value} {base : Heap}
def spRetire (K : PySem.W.Frag) (CC : Addr) : Sp := fun vs H Q _ => ∃ (p dx : Addr) (A : CmA) (n off nr : Nat) (S : CmS) (x : Nat), vs = [.ref p, iN x] ∧ CmR K CC H p dx A n off S ∧ S.Fit n nr ∧ x < n ∧ S.stl x = none ∧ (∀ y, y < n → (S.lo y).map (·.1) ≠ some [x]) ∧ (∀ y, y < n → S.pr n x y = none ∧ S.pr n y x = none) ∧ ∀ H', Same H H' → Q .non H'

abbrev s_Completion_retire : Stmt := inClass (top 58) 9
theorem sc_Completion_retire : FnScope ["self", "letter", "many", "rows", "row", "equation", "other"] ["self", "letter"] (defScope s_Completion_retire) := ⟨rfl, rfl, rfl, by decide +kernel, rfl, by decide +kernel, by decide +kernel⟩
theorem ok_retire {f CC fT fL : Addr} {fd fdT fdL : FuncData} (F : Fun K "retire" "Completion.retire" s_Completion_retire f fd) (T : Blt mg) (hC : CmC K CC) (nSo : mg "sorted" = none)
    (GT : FnOk P w K mg base CX0 1 fT fdT ["self", "rules", "places"] spTaken) (bT : Binds K fdT ["self", "rules", "places"] []) (mT : Meth K CC "taken_back" fT)
    (GL : FnOk P w K mg base CX0 1 fL fdL ["self", "letter", "other"] (spLeastOf K CC)) (bL : Binds K fdL ["self", "letter", "other"] []) (mL : Meth K CC "is_least_of" fL) : FnOk P w K mg base CX0 2 f fd ["self", "letter"] (spRetire K CC) := by
  refine F.ok sc_Completion_retire (fun vs H Q E h => ?_) (fun cdv A0 outer s H vs Q E hr h => ?_)
  · obtain ⟨p, dx, A, n, off, nr, S, x, rfl, _⟩ := h
    rfl
  · obtain ⟨p, dx, A, n, off, nr, S, x, rfl, R, hF, lx, hst, hlo, hpr, kq⟩ := h
    have z1 : (100000 : Nat) ≤ sizeLine := by decide
    have n12 := R.n12
    have h_taken_back := hr.mono (j := 1) (by decide)
    have h_is_least_of := hr.mono (j := 1) (by decide)
    refine ⟨_, (pss_cons (ps_set (i := 2) sc_Completion_retire.nd rfl (Or.inr rfl) (pe_fld (pv 0) rfl))
      (pss_cons (ps_set (i := 3) sc_Completion_retire.nd rfl (Or.inl rfl) (pe_meth (pv 0) hC.c mT GT h_taken_back bT .nil pass0 (pa_cons (pe_fld (pv 0) rfl) (pa_cons (pe_lst (pa_cons (pv 1) pa_nil)) pa_nil))))
      (pss_cons (ps_expr (pe_bm PySem.F.plainAttrs_list PySem.F.slot_list_extend PySem.F.type_list_extend mt_extend (pv 3) (pa_cons (pe_meth (pv 0) hC.c mT GT h_taken_back bT .nil pass0 (pa_cons (pe_fld (pv 0) rfl) (pa_cons (pe_lc (own := [("other", 6)]) rfl sc_Completion_retire.nd (pi_range1 rfl T.n_range (pa_cons (pv 2) pa_nil)) (blkOk_by (N := ["self", "letter", "many", "rows", "row", "equation", "other"]) (sc := defScope s_Completion_retire) (by decide +kernel)) (fun _ _ _ _ _ => (pg_name (i := 6) sc_Completion_retire.nd rfl (Or.inl rfl))) (fun _ _ _ _ _ => pts_one (pt_val (pe_meth (pv 0) hC.c mL GL h_is_least_of bL .nil pass0 (pa_cons (pv 1) (pa_cons (pv 6) pa_nil))))) (fun _ _ _ _ _ => (pv 6))) pa_nil))) pa_nil)))
      (pss_cons (ps_expr (pe_bm PySem.F.plainAttrs_list PySem.F.slot_list_extend PySem.F.type_list_extend mt_extend (pv 3) (pa_cons (pe_meth (pv 0) hC.c mT GT h_taken_back bT .nil pass0 (pa_cons (pe_fld (pv 0) rfl) (pa_cons (pe_lc (own := [("other", 6)]) rfl sc_Completion_retire.nd (pi_range1 rfl T.n_range (pa_cons (pv 2) pa_nil)) (blkOk_by (N := ["self", "letter", "many", "rows", "row", "equation", "other"]) (sc := defScope s_Completion_retire) (by decide +kernel)) (fun _ _ _ _ _ => (pg_name (i := 6) sc_Completion_retire.nd rfl (Or.inl rfl))) (fun _ _ _ _ _ => pts_nil) (fun _ _ _ _ _ => (pe_op op_add (pe_op op_mul (pv 1) (pv 2)) (pv 6)))) pa_nil))) pa_nil)))
      (pss_cons (ps_expr (pe_bm PySem.F.plainAttrs_list PySem.F.slot_list_extend PySem.F.type_list_extend mt_extend (pv 3) (pa_cons (pe_meth (pv 0) hC.c mT GT h_taken_back bT .nil pass0 (pa_cons (pe_fld (pv 0) rfl) (pa_cons (pe_lc (own := [("other", 6)]) rfl sc_Completion_retire.nd (pi_range1 rfl T.n_range (pa_cons (pv 2) pa_nil)) (blkOk_by (N := ["self", "letter", "many", "rows", "row", "equation", "other"]) (sc := defScope s_Completion_retire) (by decide +kernel)) (fun _ _ _ _ _ => (pg_name (i := 6) sc_Completion_retire.nd rfl (Or.inl rfl))) (fun _ _ _ _ _ => pts_nil) (fun _ _ _ _ _ => (pe_op op_add (pe_op op_mul (pv 6) (pv 2)) (pv 1)))) pa_nil))) pa_nil)))
      (pss_one (ps_for PassesOwn.never rfl (pi_list (pe_callB cr_sorted (by rfl) nSo (by decide +kernel) (pa_cons (pv 3) pa_nil))) (pg_name (i := 4) sc_Completion_retire.nd rfl (Or.inl rfl)) pss_no))))))), ?_⟩
    have d1 : (takeN S.still [x]).1 = [] := takeN_no _ _ fun i hi => by rw [List.mem_singleton.mp hi]; exact hst
    refine ⟨_, rfl, p, CC, dx, _, _, rfl, R.at_, hC.c, hC.a3, rfl, ?_⟩
    try dsimp only
    refine nm_asg2 ?_
    refine ⟨_, rfl, p, dx, _, rfl, R.at_, rfl, _, rfl, p, CC, dx, _, _, rfl, R.at_, hC.c, hC.a7, rfl, _, rfl, by show 1 ≤ sizeLine; omega, fun l1 hl1 => ?_⟩
    have s1 := Ask.Same.made1 (o := .lst [iN x]) (Same.refl H) hl1
    have nst : A.st ≠ l1 := fun z => by obtain ⟨vs, e, _⟩ := R.still; rw [z, hl1] at e; cases e
    refine ⟨p, A.st, l1, S.still, [x], rfl, R.still.same s1, upd_same, nst, fun i hi => by rw [List.mem_singleton.mp hi, R.l2]; exact lx, by show 1 ≤ 1000; decide, fun H2 L _ sm _ hL2 hLn => ?_⟩
    have s2 := s1.trans (sm d1)
    rw [d1] at hL2
    have hL : H L = none := by
      cases q : H L with
      | none => rfl
      | some o => rw [s1 _ _ q] at hLn; cases hLn
    try dsimp only
    refine nm_any ?_
    have d2 : (takeN S.lone []).1 = [] := rfl
    refine ⟨_, rfl, .inl ⟨rfl, _, SqL.of hL2⟩, _, rfl, p, dx, _, rfl, s2 _ _ R.at_, rfl, _, rfl, p, CC, dx, _, _, rfl, s2 _ _ R.at_, hC.c, hC.a6, rfl, _, rfl, (n : Int), rfl, by omega, by omega, fun D hD => ?_⟩
    refine lc_it (walk_range (lo := 0) (n := n)) (fun i H' => H' D = some (.lst []) ∧ Same H2 H') ⟨upd_same, Ask.Same.upd_new (Same.refl _) hD⟩ (fun _ _ _ _ => trivial) ?_ ?_
    · rintro i v HB' HB hi ⟨p1, p2⟩ ⟨rfl, rfl⟩
      dsimp only
      rw [Int.zero_add]
      have sB := s2.trans p2
      refine ⟨rfl, _, rfl, p, dx, _, rfl, sB _ _ R.at_, rfl, _, rfl, _, rfl, p, dx, A, n, off, S, x, i, rfl, R.same sB, ⟨nr, hF⟩, lx, hi, fun H' s' => ⟨_, rfl, ?_⟩⟩
      rw [decide_eq_false (hlo i hi)]
      exact iteF ⟨s' _ _ p1, p2.trans s'⟩
    rintro H3 ⟨p1, p2⟩
    have s3 := s2.trans p2
    refine ⟨p, A.lo, D, S.lone, [], rfl, R.lone.same s3, p1, ?_, (fun _ z => nomatch z), by show 0 ≤ 1000; decide, fun H4 L4 _ sm4 _ hL4 hn4 => ?_⟩
    · exact fun z => by obtain ⟨vs, e, _⟩ := R.lone; have e' := s2 _ _ e; rw [z, hD] at e'; cases e'
    have s4 := s3.trans (sm4 d2)
    have r4 : H4 L = some (.lst []) := (sm4 d2) _ _ (p2 _ _ hL2)
    refine ⟨L, L4, [], [], rfl, rfl, r4, hL4, Nat.zero_le _, ?_⟩
    have s5 : Same H (upd H4 L (.lst ([] ++ []))) := Ask.Same.upd_new s4 hL
    have r5 : upd H4 L (.lst ([] ++ [])) L = some (.lst []) := upd_same
    generalize upd H4 L (.lst ([] ++ [])) = H5 at s5 r5 ⊢
    try dsimp only
    refine ⟨_, rfl, .inl ⟨rfl, _, SqL.of r5⟩, _, rfl, p, dx, _, rfl, s5 _ _ R.at_, rfl, _, rfl, p, CC, dx, _, _, rfl, s5 _ _ R.at_, hC.c, hC.a8, rfl, _, rfl, (n : Int), rfl, by omega, by omega, fun D6 hD6 => ?_⟩
    refine lc_it (walk_range (lo := 0) (n := n)) (fun i H' => H' D6 = some (.lst (((List.range i).map fun j => x * n + j).map iN)) ∧ Same H5 H') ⟨upd_same, Ask.Same.upd_new (Same.refl _) hD6⟩ (fun _ _ _ _ => trivial) ?_ ?_
    · rintro i v HB' HB hi ⟨p1, p2⟩ ⟨rfl, rfl⟩
      dsimp only
      rw [Int.zero_add]
      refine ⟨rfl, _, rfl, _, rfl, _, _, rfl, rfl, mul_small (by omega), _, rfl, _, _, rfl, rfl, _, p1, by rw [List.length_map, List.length_map, List.length_range]; omega, ?_, Ask.Same.upd_new p2 hD6⟩
      rw [upd_same, List.range_succ, List.map_append, List.map_append]
      show some (HO.lst (_ ++ [V.int _])) = some (HO.lst (_ ++ [V.int ((x * n + i : Nat) : Int)]))
      rw [Int.natCast_add, Int.natCast_mul]
    rintro H6a ⟨p1, p2⟩
    have s6a := s5.trans p2
    have d6 : (takeN S.pairs ((List.range n).map fun j => x * n + j)).1 = [] := takeN_no _ _ fun i hi => by
      obtain ⟨j, hj, e⟩ := List.mem_map.mp hi
      rw [← e]
      exact (hpr j (List.mem_range.mp hj)).1
    refine ⟨p, A.pr, D6, S.pairs, _, rfl, R.pairs.same s6a, p1, ?_, ?_, ?_, fun H6b L6 _ sm6 _ hL6 hn6 => ?_⟩
    · exact fun z => by obtain ⟨vs, e, _⟩ := R.pairs; have e' := s5 _ _ e; rw [z, hD6] at e'; cases e'
    · intro i hi
      obtain ⟨j, hj, e⟩ := List.mem_map.mp hi
      rw [← e, R.l3]
      exact pr_lt lx (List.mem_range.mp hj)
    · rw [List.length_map, List.length_range]
      omega
    have s6b := s6a.trans (sm6 d6)
    rw [d6] at hL6
    have r6 : H6b L = some (.lst []) := (sm6 d6) _ _ (p2 _ _ r5)
    refine ⟨L, L6, [], [], rfl, rfl, r6, hL6, Nat.zero_le _, ?_⟩
    have s6c : Same H (upd H6b L (.lst ([] ++ []))) := Ask.Same.upd_new s6b hL
    have r6c : upd H6b L (.lst ([] ++ [])) L = some (.lst []) := upd_same
    generalize upd H6b L (.lst ([] ++ [])) = H6c at s6c r6c ⊢
    try dsimp only
    refine ⟨_, rfl, .inl ⟨rfl, _, SqL.of r6c⟩, _, rfl, p, dx, _, rfl, s6c _ _ R.at_, rfl, _, rfl, p, CC, dx, _, _, rfl, s6c _ _ R.at_, hC.c, hC.a8, rfl, _, rfl, (n : Int), rfl, by omega, by omega, fun D7 hD7 => ?_⟩
    refine lc_it (walk_range (lo := 0) (n := n)) (fun i H' => H' D7 = some (.lst (((List.range i).map fun j => j * n + x).map iN)) ∧ Same H6c H') ⟨upd_same, Ask.Same.upd_new (Same.refl _) hD7⟩ (fun _ _ _ _ => trivial) ?_ ?_
    · rintro i v HB' HB hi ⟨p1, p2⟩ ⟨rfl, rfl⟩
      dsimp only
      rw [Int.zero_add]
      refine ⟨rfl, _, rfl, _, rfl, _, _, rfl, rfl, mul_small (by omega), _, rfl, _, _, rfl, rfl, _, p1, by rw [List.length_map, List.length_map, List.length_range]; omega, ?_, Ask.Same.upd_new p2 hD7⟩
      rw [upd_same, List.range_succ, List.map_append, List.map_append]
      show some (HO.lst (_ ++ [V.int _])) = some (HO.lst (_ ++ [V.int ((i * n + x : Nat) : Int)]))
      rw [Int.natCast_add, Int.natCast_mul]
    rintro H7a ⟨p1, p2⟩
    have s7a := s6c.trans p2
    have d7 : (takeN S.pairs ((List.range n).map fun j => j * n + x)).1 = [] := takeN_no _ _ fun i hi => by
      obtain ⟨j, hj, e⟩ := List.mem_map.mp hi
      rw [← e]
      exact (hpr j (List.mem_range.mp hj)).2
    refine ⟨p, A.pr, D7, S.pairs, _, rfl, R.pairs.same s7a, p1, ?_, ?_, ?_, fun H7b L7 _ sm7 _ hL7 hn7 => ?_⟩
    · exact fun z => by obtain ⟨vs, e, _⟩ := R.pairs; have e' := s6c _ _ e; rw [z, hD7] at e'; cases e'
    · intro i hi
      obtain ⟨j, hj, e⟩ := List.mem_map.mp hi
      rw [← e, R.l3]
      exact pr_lt (List.mem_range.mp hj) lx
    · rw [List.length_map, List.length_range]
      omega
    have s7b := s7a.trans (sm7 d7)
    rw [d7] at hL7
    have r7 : H7b L = some (.lst []) := (sm7 d7) _ _ (p2 _ _ r6c)
    refine ⟨L, L7, [], [], rfl, rfl, r7, hL7, Nat.zero_le _, ?_⟩
    have s7c : Same H (upd H7b L (.lst ([] ++ []))) := Ask.Same.upd_new s7b hL
    have r7c : upd H7b L (.lst ([] ++ [])) L = some (.lst []) := upd_same
    generalize upd H7b L (.lst ([] ++ [])) = H7c at s7c r7c ⊢
    try dsimp only
    delta tFor
    refine ⟨_, rfl, L, [], rfl, SqL.of r7c, by show 0 < 64; decide, fun ns' q hpm _ hq => ?_⟩
    obtain rfl : ns' = [] := List.Perm.eq_nil hpm
    have sq := Ask.Same.made1 (o := .lst (([] : List Int).map V.int)) (Same.refl H7c) hq
    have eq : upd H7c q (.lst (([] : List Int).map V.int)) q = some (.lst []) := upd_same
    generalize upd H7c q (.lst (([] : List Int).map V.int)) = H8 at sq eq ⊢
    refine ⟨q, rfl, ⟨_, SqL.of eq⟩, ?_⟩
    refine ⟨fun i m σ' H' => i = 0 ∧ H' = H8, ⟨0, rfl, rfl⟩, ?_⟩
    rintro i m σ' H' ⟨rfl, rfl⟩
    exact .inl ⟨(walk_list (K := K) (a := q) (xs := [])).stops _ (SqL.of eq), kq _ (s7c.trans sq)⟩
end
end Ask

/-! the first told rule is adopted -/
namespace Ask
open PySem L2
/-- no rule at all -/
def S0 (n : Nat) : CmS := ⟨List.replicate n none, List.replicate n none, List.replicate (n * n) none⟩
/-- one rule -/
def S1 (n : Nat) (b : Str) (left right : List Nat) (row : Nat) : CmS := match left with
  | [x] => if b = "new" then { S0 n with still := (S0 n).still.set x (some (right, row)) } else { S0 n with lone := (S0 n).lone.set x (some (right, row)) }
  | [x, y] => { S0 n with pairs := (S0 n).pairs.set (x * n + y) (some (right, row)) }
  | _ => S0 n
/-- an equation that one told sentence gives -/
inductive EqOk (n : Nat) : Str → List Nat → List Nat → Prop
  | pair {x y : Nat} {r : List Nat} : x < n → y < n → (r = [] ∨ r = [x] ∨ r = [y]) → EqOk n "found" [x, y] r
  | still {x : Nat} : x < n → EqOk n "new" [x] []
  | lone {x : Nat} {r : List Nat} : x < n → (r = [] ∨ ∃ y, r = [y] ∧ y < x) → EqOk n "found" [x] r
theorem EqOk.right {n : Nat} {b : Str} {l r : List Nat} (h : EqOk n b l r) : r.length ≤ 1 ∧ (∀ k ∈ r, k < n) := by
  cases h with
  | pair hx hy c => rcases c with rfl | rfl | rfl <;> simp [*]
  | still hx => simp
  | lone hx c =>
    rcases c with rfl | ⟨y, rfl, hy⟩
    · simp
    · exact ⟨Nat.le_refl _, fun k hk => by rw [List.mem_singleton.mp hk]; omega⟩
theorem EqOk.left {n : Nat} {b : Str} {l r : List Nat} (h : EqOk n b l r) : 1 ≤ l.length ∧ l.length ≤ 2 ∧ (∀ k ∈ l, k < n) := by
  cases h with
  | pair hx hy c => exact ⟨by simp, by simp, fun k hk => by rcases List.mem_cons.mp hk with rfl | hk; exact hx; rw [List.mem_singleton.mp hk]; exact hy⟩
  | still hx => exact ⟨by simp, by simp, fun k hk => by rw [List.mem_singleton.mp hk]; exact hx⟩
  | lone hx c => exact ⟨by simp, by simp, fun k hk => by rw [List.mem_singleton.mp hk]; exact hx⟩
theorem rep_get (m i : Nat) : ((List.replicate m (none : Rul))[i]?).getD none = none := by
  rw [List.getElem?_replicate]
  split <;> rfl
theorem rep_set (m i j : Nat) (o : Rul) : (((List.replicate m (none : Rul)).set i o)[j]?).getD none = if i = j ∧ i < m then o else none := by
  rw [List.getElem?_set]
  by_cases c : i = j
  · subst c
    by_cases d : i < m
    · rw [if_pos rfl, if_pos (by rw [List.length_replicate]; exact d), if_pos ⟨rfl, d⟩]
      rfl
    · rw [if_pos rfl, if_neg (by rw [List.length_replicate]; exact d), if_neg (fun z => d z.2)]
      rfl
  · rw [if_neg c, if_neg (fun z => c z.1)]
    exact rep_get m j
theorem S0_lo (n x : Nat) : (S0 n).lo x = none := rep_get n x
theorem S0_st (n x : Nat) : (S0 n).stl x = none := rep_get n x
theorem S0_pr (n x y : Nat) : (S0 n).pr n x y = none := rep_get _ _
theorem pair_inj {n x y x' y' : Nat} (hy : y < n) (hy' : y' < n) (e : x * n + y = x' * n + y') : x = x' ∧ y = y' := by
  have h1 : (x * n + y) / n = x := by rw [Nat.mul_comm, Nat.mul_add_div (by omega), Nat.div_eq_of_lt hy, Nat.add_zero]
  have h2 : (x' * n + y') / n = x' := by rw [Nat.mul_comm, Nat.mul_add_div (by omega), Nat.div_eq_of_lt hy', Nat.add_zero]
  have : x = x' := by rw [← h1, e, h2]
  subst this
  exact ⟨rfl, by omega⟩
section one
variable {n : Nat} {b : Str} {r : List Nat} {x y row : Nat}
theorem Sp_lo (z : Nat) : (S1 n b [x, y] r row).lo z = none := rep_get n z
theorem Sp_st (z : Nat) : (S1 n b [x, y] r row).stl z = none := rep_get n z
theorem Sp_pr (hx : x < n) (hy : y < n) {a c : Nat} (hc : c < n) : (S1 n b [x, y] r row).pr n a c = if x = a ∧ y = c then some (r, row) else none := by
  show ((((List.replicate (n * n) (none : Rul)).set (x * n + y) (some (r, row)))[a * n + c]?).getD none) = _
  rw [rep_set]
  by_cases e : x = a ∧ y = c
  · obtain ⟨rfl, rfl⟩ := e
    rw [if_pos ⟨rfl, pr_lt hx hy⟩, if_pos ⟨rfl, rfl⟩]
  · rw [if_neg (fun z => e (pair_inj hy hc z.1)), if_neg e]
theorem Ss_lo (z : Nat) : (S1 n "new" [x] r row).lo z = none := rep_get n z
theorem Ss_pr (z y : Nat) : (S1 n "new" [x] r row).pr n z y = none := rep_get _ _
theorem Ss_st (hx : x < n) (z : Nat) : (S1 n "new" [x] r row).stl z = if x = z then some (r, row) else none := by
  show ((((List.replicate n (none : Rul)).set x (some (r, row)))[z]?).getD none) = _
  rw [rep_set]
  by_cases e : x = z
  · rw [if_pos ⟨e, hx⟩, if_pos e]
  · rw [if_neg (fun q => e q.1), if_neg e]
theorem Sl_st (z : Nat) : (S1 n "found" [x] r row).stl z = none := rep_get n z
theorem Sl_pr (z y : Nat) : (S1 n "found" [x] r row).pr n z y = none := rep_get _ _
theorem Sl_lo (hx : x < n) (z : Nat) : (S1 n "found" [x] r row).lo z = if x = z then some (r, row) else none := by
  show ((((List.replicate n (none : Rul)).set x (some (r, row)))[z]?).getD none) = _
  rw [rep_set]
  by_cases e : x = z
  · rw [if_pos ⟨e, hx⟩, if_pos e]
  · rw [if_neg (fun q => e q.1), if_neg e]
end one
theorem S1_lone {n : Nat} {r : List Nat} {x row : Nat} : S1 n "found" [x] r row = { S0 n with lone := (S0 n).lone.set x (some (r, row)) } := by unfold S1; exact if_neg (by decide)
theorem S1_still {n : Nat} {r : List Nat} {x row : Nat} : S1 n "new" [x] r row = { S0 n with still := (S0 n).still.set x (some (r, row)) } := by unfold S1; exact if_pos rfl
theorem S1_len {n : Nat} {b : Str} {l r : List Nat} {row : Nat} : (S1 n b l r row).lone.length = n ∧ (S1 n b l r row).still.length = n ∧ (S1 n b l r row).pairs.length = n * n := by
  unfold S1 S0
  split
  · split <;> simp
  · simp
  · simp
theorem S1_fit {n nr : Nat} {b : Str} {l r : List Nat} {row : Nat} (e : EqOk n b l r) (lr : row < nr) : (S1 n b l r row).Fit n nr := by
  obtain ⟨r1, r2⟩ := e.right
  cases e with
  | pair hx hy c =>
    refine ⟨fun z r' i h => ?_, fun z r' i h => ?_, fun a c r' i h => ?_⟩
    · rw [Sp_lo] at h; cases h
    · rw [Sp_st] at h; cases h
    · have h := (show ((((List.replicate (n * n) (none : Rul)).set _ (some (r, row)))[a * n + c]?).getD none) = some (r', i) from h)
      rw [rep_set] at h
      split at h
      · cases h
        exact ⟨r1, r2, lr⟩
      · cases h
  | still hx =>
    refine ⟨fun z r' i h => ?_, fun z r' i h => ?_, fun a c r' i h => ?_⟩
    · rw [Ss_lo] at h; cases h
    · rw [Ss_st hx] at h
      split at h
      · cases h; exact ⟨rfl, lr⟩
      · cases h
    · rw [Ss_pr] at h; cases h
  | lone hx c =>
    refine ⟨fun z r' i h => ?_, fun z r' i h => ?_, fun a c r' i h => ?_⟩
    · rw [Sl_lo hx] at h
      split at h
      · rename_i q
        cases h
        subst q
        refine ⟨r1, r2, lr, fun k hk => ?_⟩
        rcases c with rfl | ⟨y, rfl, hy⟩
        · cases hk
        · rw [List.mem_singleton.mp hk]; exact hy
      · cases h
    · rw [Sl_st] at h; cases h
    · rw [Sl_pr] at h; cases h
/-- the list that the rule goes to -/
def adL (A : CmA) (b : Str) (l : List Nat) : Addr := match l with
  | [_] => if b = "new" then A.st else A.lo
  | _ => A.pr
theorem RulL.but {H H' : Hp} {p a : Addr} {l : List Rul} {xs : List V} (hp : H p = some (.lst xs)) (ne : a ≠ p) (h : RulL H a l) (s : ButL p H H') : RulL H' a l := by
  obtain ⟨vs, e, n, k⟩ := h
  exact ⟨vs, s _ _ ne e, n, fun i v o e1 e2 => (k i v o e1 e2).but hp s⟩
theorem RulL.put {H : Hp} {a : Addr} {l : List Rul} {vs : List V} {j : Nat} {v : V} {o : Rul} (e : H a = some (.lst vs)) (h : RulL H a l) (r : RulV H o v) : RulL (upd H a (.lst (vs.set j v))) a (l.set j o) := by
  obtain ⟨ws, f1, f2, f3⟩ := h
  rw [e] at f1
  cases f1
  have bu : ButL a H (upd H a (.lst (vs.set j v))) := fun b o n q => by rw [upd_ne n]; exact q
  refine ⟨vs.set j v, upd_same, by rw [List.length_set, List.length_set]; exact f2, fun m y o' g1 g2 => ?_⟩
  by_cases c : m = j
  · subst c
    have hm : m < vs.length := by have := (List.getElem?_eq_some_iff.mp g1).1; rw [List.length_set] at this; exact this
    rw [List.getElem?_set_self hm] at g1
    rw [List.getElem?_set_self (by rw [← f2]; exact hm)] at g2
    cases g1
    cases g2
    exact r.but e bu
  · rw [List.getElem?_set_ne (fun z => c z.symm)] at g1 g2
    exact (f3 m y o' g1 g2).but e bu
/-- the lists of rules stand apart -/
structure Apart3 (A : CmA) : Prop where
  ls : A.lo ≠ A.st
  lp : A.lo ≠ A.pr
  sp : A.st ≠ A.pr
theorem ixN_at {n i : Nat} (h : i < n) : ixN n ((i : Nat) : Int) = some i := by
  unfold ixN
  rw [if_pos (by omega), if_pos (by omega), Int.toNat_natCast]
theorem CmR.put_lo {K : PySem.W.Frag} {CC : Addr} {H : Hp} {p dx : Addr} {A : CmA} {n off : Nat} {S : CmS} (R : CmR K CC H p dx A n off S) (ap : Apart3 A) {x : Nat} {vs : List V} {v : V} {o : Rul} (e : H A.lo = some (.lst vs)) (r : RulV H o v) :
    CmR K CC (upd H A.lo (.lst (vs.set x v))) p dx A n off { S with lone := S.lone.set x o } := by
  have bu : ButL A.lo H (upd H A.lo (.lst (vs.set x v))) := fun b o n e => by rw [upd_ne n]; exact e
  refine ⟨bu _ _ (fun z => by have := R.at_; rw [z, e] at this; cases this) R.at_, RulL.put e R.lone r, R.still.but e ap.ls.symm bu, R.pairs.but e ap.lp.symm bu, ?_, R.l2, R.l3, R.n12⟩
  rw [List.length_set]
  exact R.l1
theorem CmR.put_st {K : PySem.W.Frag} {CC : Addr} {H : Hp} {p dx : Addr} {A : CmA} {n off : Nat} {S : CmS} (R : CmR K CC H p dx A n off S) (ap : Apart3 A) {x : Nat} {vs : List V} {v : V} {o : Rul} (e : H A.st = some (.lst vs)) (r : RulV H o v) :
    CmR K CC (upd H A.st (.lst (vs.set x v))) p dx A n off { S with still := S.still.set x o } := by
  have bu : ButL A.st H (upd H A.st (.lst (vs.set x v))) := fun b o n e => by rw [upd_ne n]; exact e
  refine ⟨bu _ _ (fun z => by have := R.at_; rw [z, e] at this; cases this) R.at_, R.lone.but e ap.ls bu, RulL.put e R.still r, R.pairs.but e ap.sp.symm bu, R.l1, ?_, R.l3, R.n12⟩
  rw [List.length_set]
  exact R.l2
theorem CmR.put_pr {K : PySem.W.Frag} {CC : Addr} {H : Hp} {p dx : Addr} {A : CmA} {n off : Nat} {S : CmS} (R : CmR K CC H p dx A n off S) (ap : Apart3 A) {x : Nat} {vs : List V} {v : V} {o : Rul} (e : H A.pr = some (.lst vs)) (r : RulV H o v) :
    CmR K CC (upd H A.pr (.lst (vs.set x v))) p dx A n off { S with pairs := S.pairs.set x o } := by
  have bu : ButL A.pr H (upd H A.pr (.lst (vs.set x v))) := fun b o n e => by rw [upd_ne n]; exact e
  refine ⟨bu _ _ (fun z => by have := R.at_; rw [z, e] at this; cases this) R.at_, R.lone.but e ap.lp bu, R.still.but e ap.sp bu, RulL.put e R.pairs r, R.l1, R.l2, ?_, R.n12⟩
  rw [List.length_set]
  exact R.l3
/-- a key of the dict of what waits -/
def keyQ (b : Str) (l r : List Nat) : NestedKey := .tup [.text b, .tup (l.map fun k : Nat => .num (k : Int)), .tup (r.map fun k : Nat => .num (k : Int))]
theorem keyVs_nats {K : PySem.W.Frag} {H : Hp} : ∀ l : List Nat, KeyVs K H (l.map fun k : Nat => NestedKey.num (k : Int)) (l.map iN)
  | [] => .nil
  | k :: l => .cons (.num _) (keyVs_nats l)
theorem depth_nats : ∀ l : List Nat, NestedKey.depthAll (l.map fun k : Nat => NestedKey.num (k : Int)) = 0
  | [] => rfl
  | k :: l => by rw [List.map_cons, NestedKey.depthAll, depth_nats l]; rfl
theorem keyQ_depth (b : Str) (l r : List Nat) : (keyQ b l r).depth ≤ 8 := by
  unfold keyQ
  simp only [NestedKey.depth, NestedKey.depthAll, depth_nats]
  decide
theorem keyQ_at {K : PySem.W.Frag} {H : Hp} {a a1 a2 : Addr} {b : Str} {l r : List Nat} (h : H a = some (.tup [.str b, .ref a1, .ref a2])) (h1 : H a1 = some (.tup (l.map iN))) (h2 : H a2 = some (.tup (r.map iN))) : KeyV K H (keyQ b l r) (.ref a) :=
  .tup (SqT.of h) (.cons (.text b) (.cons (.tup (SqT.of h1) (keyVs_nats l)) (.cons (.tup (SqT.of h2) (keyVs_nats r)) .nil)))
section
variable {P : Program} {w : World} {K : PySem.W.Frag} {mg : Str → Option Value} {base : Heap}
def spAdopt (K : PySem.W.Frag) (CC : Addr) : Sp := fun vs H Q _ => ∃ (p dx a1 a2 a3 d : Addr) (A : CmA) (n off : Nat) (b : Str) (l r : List Nat) (st : Stp1), vs = [.ref p, .str b, .ref a1, .ref a2, .ref a3] ∧ CmR K CC H p dx A n off (S0 n) ∧ Apart3 A ∧ H A.wa = some (.dK []) ∧ H a1 = some (.tup (l.map iN)) ∧ H a2 = some (.tup (r.map iN)) ∧ H a3 = some (.tup [.ref d]) ∧ H d = some (.tup st.vs) ∧ EqOk n b l r ∧
  ∀ H', ButL (adL A b l) H H' → CmR K CC H' p dx A n off (S1 n b l r st.row) → Q .non H'

abbrev s_Completion_adopt : Stmt := inClass (top 58) 7
theorem sc_Completion_adopt : FnScope ["self", "beginning", "left", "right", "steps", "rule", "other"] ["self", "beginning", "left", "right", "steps"] (defScope s_Completion_adopt) := ⟨rfl, rfl, rfl, by decide +kernel, rfl, by decide +kernel, by decide +kernel⟩
theorem ok_adopt {f CC fW fP fS fR : Addr} {fd fdW fdP fdS fdR : FuncData} (F : Fun K "adopt" "Completion.adopt" s_Completion_adopt f fd) (T : Blt mg) (hC : CmC K CC)
    (GW : FnOk P w K mg base CX0 1 fW fdW ["self", "beginning", "left", "right", "steps"] spRowFor) (bW : Binds K fdW ["self", "beginning", "left", "right", "steps"] []) (mW : Meth K CC "row_for" fW)
    (GP : FnOk P w K mg base CX0 2 fP fdP ["self", "x", "y"] (spOverPair K CC)) (bP : Binds K fdP ["self", "x", "y"] []) (mP : Meth K CC "overlap_pair" fP)
    (GS : FnOk P w K mg base CX0 1 fS fdS ["self", "letter", "other"] (spOverStill K CC)) (bS : Binds K fdS ["self", "letter", "other"] []) (mS : Meth K CC "overlap_still" fS)
    (GR : FnOk P w K mg base CX0 2 fR fdR ["self", "letter"] (spRetire K CC)) (bR : Binds K fdR ["self", "letter"] []) (mR : Meth K CC "retire" fR) : FnOk P w K mg base CX0 3 f fd ["self", "beginning", "left", "right", "steps"] (spAdopt K CC) := by
  refine F.ok sc_Completion_adopt (fun vs H Q E h => ?_) (fun cdv A0 outer s H vs Q E hr h => ?_)
  · obtain ⟨p, dx, a1, a2, a3, d, A, n, off, b, l, r, st, rfl, _⟩ := h
    rfl
  · obtain ⟨p, dx, a1, a2, a3, d, A, n, off, b, l, r, st, rfl, R, ap, hwa, h1, h2, h3, hd, eq, kq⟩ := h
    have z1 : (100000 : Nat) ≤ sizeLine := by decide
    have n12 := R.n12
    have h_row_for := hr.mono (j := 1) (by decide)
    have h_overlap_pair := hr.mono (j := 2) (by decide)
    have h_overlap_still := hr.mono (j := 1) (by decide)
    have h_retire := hr.mono (j := 2) (by decide)
    refine ⟨_, (pss_cons (ps_set (i := 5) sc_Completion_adopt.nd rfl (Or.inl rfl) (pe_tup (pa_cons (pv 3) (pa_cons (pe_meth (pv 0) hC.c mW GW h_row_for bW .nil pass0 (pa_cons (pv 1) (pa_cons (pv 2) (pa_cons (pv 3) (pa_cons (pv 4) pa_nil))))) pa_nil))))
      (pss_cons (ps_if (pt_cmpR (show OpR _ _ (rInNk K P w) from op_inNk hr.units) (pe_tup (pa_cons (pv 1) (pa_cons (pv 2) (pa_cons (pv 3) pa_nil)))) (pe_fld (pv 0) rfl) rfl) pss_no pss_nil)
      (pss_one (ps_if (pt_cmpR op_eq (pe_callB call_len_seq (by rfl) T.n_len (by decide +kernel) (pa_cons (pv 2) pa_nil)) pe_int (nomark _)) (pss_cons (ps_asg (pv 5) (pg_sub (pe_fld (pv 0) rfl) (pe_op op_add (pe_op op_mul (pe_ix ix_tup (pv 2) pe_int (fun _ _ => rfl)) (pe_fld (pv 0) rfl)) (pe_ix ix_tup (pv 2) pe_int (fun _ _ => rfl))) set_list (by intro _; rfl)))
      (pss_one (ps_expr (pe_meth (pv 0) hC.c mP GP h_overlap_pair bP .nil pass0 (pa_cons (pe_ix ix_tup (pv 2) pe_int (fun _ _ => rfl)) (pa_cons (pe_ix ix_tup (pv 2) pe_int (fun _ _ => rfl)) pa_nil)))))) (pss_one (ps_if (pt_cmpR op_eq (pv 1) pe_str (nomark _)) (pss_cons (ps_asg (pv 5) (pg_sub (pe_fld (pv 0) rfl) (pe_ix ix_tup (pv 2) pe_int (fun _ _ => rfl)) set_list (by intro _; rfl)))
      (pss_one (ps_for PassesOwn.never rfl (pi_range1 rfl T.n_range (pa_cons (pe_fld (pv 0) rfl) pa_nil)) (pg_name (i := 6) sc_Completion_adopt.nd rfl (Or.inl rfl)) (pss_one (ps_expr (pe_meth (pv 0) hC.c mS GS h_overlap_still bS .nil pass0 (pa_cons (pe_ix ix_tup (pv 2) pe_int (fun _ _ => rfl)) (pa_cons (pv 6) pa_nil)))))))) (pss_cons (ps_asg (pv 5) (pg_sub (pe_fld (pv 0) rfl) (pe_ix ix_tup (pv 2) pe_int (fun _ _ => rfl)) set_list (by intro _; rfl)))
      (pss_one (ps_expr (pe_meth (pv 0) hC.c mR GR h_retire bR .nil pass0 (pa_cons (pe_ix ix_tup (pv 2) pe_int (fun _ _ => rfl)) pa_nil))))))))))), ?_⟩
    refine ⟨_, rfl, _, rfl, p, dx, _, rfl, R.at_, rfl, _, rfl, _, rfl, _, rfl, _, rfl, p, a1, a2, a3, d, b, st, rfl, h3, hd, fun H1 s1 => ⟨by show 2 ≤ sizeLine; omega, fun t ht => ?_⟩⟩
    have s2 := Ask.Same.made1 (o := .tup [.ref a2, iN st.row]) s1 ht
    have eT : upd H1 t (.tup [.ref a2, iN st.row]) t = some (.tup [.ref a2, iN st.row]) := upd_same
    generalize upd H1 t (.tup [.ref a2, iN st.row]) = H2 at s2 eT ⊢
    have rv : RulV H2 (some (r, st.row)) (.ref t) := ⟨t, a2, rfl, eT, s2 _ _ h2⟩
    try dsimp only
    refine nm_any ?_
    refine seqIf_mid (fun σ' H' => σ' = [some (.ref p), some (.str b), some (.ref a1), some (.ref a2), some (.ref a3), some (.ref t), none] ∧ Same H H' ∧ RulV H' (some (r, st.row)) (.ref t)) (fun N hN => ?_) ?_
    · refine ⟨_, rfl, _, rfl, _, rfl, by show 3 ≤ sizeLine; omega, fun u hu => ?_⟩
      have s3 := Ask.Same.made1 (o := .tup [.str b, .ref a1, .ref a2]) s2 hu
      have s4 := Ask.Same.made1 (o := .tup [.str b, .ref a1, .ref a2]) (Same.refl H2) hu
      have eU : upd H2 u (.tup [.str b, .ref a1, .ref a2]) u = some (.tup [.str b, .ref a1, .ref a2]) := upd_same
      exact ⟨_, rfl, p, CC, dx, _, _, rfl, s3 _ _ R.at_, hC.c, hC.a9, rfl, u, A.wa, keyQ b l r, [], rfl, rfl, keyQ_at eU (s3 _ _ h1) (s3 _ _ h2), keyQ_depth b l r, .inl ⟨rfl, s3 _ _ hwa⟩, _, rfl, iteF (hN _ _ ⟨rfl, s3, rv.same s4⟩)⟩
    clear s2 eT rv
    rintro σ3 H3 ⟨rfl, s3, rv⟩
    have R3 := R.same s3
    have h13 := s3 _ _ h1
    obtain ⟨v1, e1, g1⟩ := id R3.lone
    obtain ⟨v2, e2, g2⟩ := id R3.still
    obtain ⟨v3, e3, g3⟩ := id R3.pairs
    have pn : ∀ {q : Addr} {xs : List V}, H3 q = some (.lst xs) → p ≠ q := fun e z => by rw [← z, R3.at_] at e; cases e
    refine ⟨_, rfl, a1, _, rfl, .inr (SqT.of h13), rfl, _, rfl, ?_⟩
    cases eq with
    | pair hx hy c =>
      rename_i x y
      rw [decide_eq_true (show V.int ((([x, y].map iN).length : Nat) : Int) = V.int 2 from rfl)]
      refine iteT ?_
      have lv : x * n + y < v3.length := by rw [g3.1, R3.l3]; exact pr_lt hx hy
      refine ⟨_, rfl, _, rfl, p, CC, dx, _, _, rfl, R3.at_, hC.c, hC.a8, rfl, _, rfl, a1, _, _, iN x, rfl, rfl, SqT.of h13, at_by (j := 0) rfl rfl, _, rfl, p, CC, dx, _, _, rfl, R3.at_, hC.c, hC.a3, rfl, _, _, rfl, rfl, mul_small (by omega), _, rfl, a1, _, _, iN y, rfl, rfl, SqT.of h13, at_by (j := 1) rfl rfl, _, _, rfl, rfl, A.pr, v3, _, x * n + y, rfl, rfl, e3, (by rw [← Int.natCast_mul, ← Int.natCast_add]; exact ixN_at lv), ?_⟩
      have R4 := R3.put_pr ap (x := x * n + y) e3 rv
      have bu : ButL A.pr H (upd H3 A.pr (.lst (v3.set (x * n + y) (.ref t)))) := fun b o n e => by rw [upd_ne n]; exact s3 _ _ e
      have h14 : upd H3 A.pr (.lst (v3.set (x * n + y) (.ref t))) a1 = _ := (upd_ne (fun z => by rw [z, e3] at h13; cases h13)).trans h13
      generalize upd H3 A.pr (.lst (v3.set (x * n + y) (.ref t))) = H4 at R4 bu h14 ⊢
      have ft := S1_fit (n := n) (nr := st.row + 1) (.pair hx hy c) (Nat.lt_succ_self st.row)
      replace R4 : CmR K CC H4 p dx A n off (S1 n "found" [x, y] r st.row) := R4
      try dsimp only
      refine ⟨_, rfl, p, dx, _, rfl, R4.at_, rfl, _, rfl, a1, _, _, iN x, rfl, rfl, SqT.of h14, at_by (j := 0) rfl rfl, _, rfl, a1, _, _, iN y, rfl, rfl, SqT.of h14, at_by (j := 1) rfl rfl, p, dx, A, n, off, _, _, x, y, r, st.row, rfl, R4, ft, hx, hy, ?_, Sp_st x, ?_, ?_, fun H5 s5 => kq H5 (fun b o n e => s5 _ _ (bu b o n e)) (R4.same s5)⟩
      · rw [Sp_pr hx hy hy, if_pos ⟨rfl, rfl⟩]
      · intro z r' row' hz e
        rw [Sp_pr hx hy hz] at e
        split at e
        · rename_i q
          obtain ⟨q1, q2⟩ := q
          cases e
          subst q2
          subst q1
          rcases c with rfl | rfl | rfl <;> simp [fstW, lstW]
        · cases e
      · intro z r' row' hz e
        rw [Sp_pr hx hy hx] at e
        split at e
        · rename_i q
          obtain ⟨q1, q2⟩ := q
          cases e
          subst q2
          subst q1
          rcases c with rfl | rfl | rfl <;> simp [fstW, lstW]
        · cases e
    | still hx =>
      rename_i x
      rw [decide_eq_false (show ¬ V.int ((([x].map iN).length : Nat) : Int) = V.int 2 from fun z => absurd (V.int.inj z) (by show ¬ ((1 : Nat) : Int) = 2; decide))]
      refine iteF ⟨_, rfl, rfl, _, rfl, ?_⟩
      rw [decide_eq_true (rfl : V.str "new" = V.str "new")]
      refine iteT ?_
      have lv : x < v2.length := by rw [g2.1, R3.l2]; exact hx
      refine ⟨_, rfl, _, rfl, p, CC, dx, _, _, rfl, R3.at_, hC.c, hC.a7, rfl, _, rfl, a1, _, _, iN x, rfl, rfl, SqT.of h13, at_by (j := 0) rfl rfl, A.st, v2, _, x, rfl, rfl, e2, ixN_at lv, ?_⟩
      have R4 := R3.put_st ap (x := x) e2 rv
      have bu : ButL A.st H (upd H3 A.st (.lst (v2.set x (.ref t)))) := fun b o n e => by rw [upd_ne n]; exact s3 _ _ e
      have h14 : upd H3 A.st (.lst (v2.set x (.ref t))) a1 = _ := (upd_ne (fun z => by rw [z, e2] at h13; cases h13)).trans h13
      generalize upd H3 A.st (.lst (v2.set x (.ref t))) = H4 at R4 bu h14 ⊢
      rw [← S1_still] at R4
      try dsimp only
      refine for_any1 (fun Rr hR => ⟨_, rfl, p, CC, dx, _, _, rfl, R4.at_, hC.c, hC.a3, rfl, (n : Int), rfl, by omega, by omega, hR⟩) (walk_range (lo := 0) (n := n)) (fun i σ' H' => ∃ o4 : Option V, σ' = [some (.ref p), some (.str "new"), some (.ref a1), some (.ref a2), some (.ref a3), some (.ref t), o4] ∧ Same H4 H') ⟨_, rfl, Same.refl H4⟩ (fun _ _ _ _ _ => trivial) ?_ ?_
      · rintro i v σ' H5 H5' hi ⟨o4, rfl, s5⟩ ⟨rfl, rfl⟩
        try dsimp only
        rw [Int.zero_add]
        refine nm_any ?_
        refine ⟨_, rfl, p, dx, _, rfl, s5 _ _ R4.at_, rfl, _, rfl, a1, _, _, iN x, rfl, rfl, SqT.of (s5 _ _ h14), at_by (j := 0) rfl rfl, _, rfl, p, dx, A, n, off, _, x, i, rfl, R4.same s5, hx, hi, .inr (Ss_pr x i), fun H6 s6 => ⟨_, rfl, s5.trans s6⟩⟩
      · rintro σ' H5 ⟨o4, rfl, s5⟩
        exact kq H5 (fun b o n e => s5 _ _ (bu b o n e)) (R4.same s5)
    | lone hx c =>
      rename_i x
      rw [decide_eq_false (show ¬ V.int ((([x].map iN).length : Nat) : Int) = V.int 2 from fun z => absurd (V.int.inj z) (by show ¬ ((1 : Nat) : Int) = 2; decide))]
      refine iteF ⟨_, rfl, rfl, _, rfl, ?_⟩
      rw [decide_eq_false (show ¬ V.str "found" = V.str "new" from by decide)]
      refine iteF ?_
      have lv : x < v1.length := by rw [g1.1, R3.l1]; exact hx
      refine ⟨_, rfl, _, rfl, p, CC, dx, _, _, rfl, R3.at_, hC.c, hC.a6, rfl, _, rfl, a1, _, _, iN x, rfl, rfl, SqT.of h13, at_by (j := 0) rfl rfl, A.lo, v1, _, x, rfl, rfl, e1, ixN_at lv, ?_⟩
      have R4 := R3.put_lo ap (x := x) e1 rv
      have bu : ButL A.lo H (upd H3 A.lo (.lst (v1.set x (.ref t)))) := fun b o n e => by rw [upd_ne n]; exact s3 _ _ e
      have h14 : upd H3 A.lo (.lst (v1.set x (.ref t))) a1 = _ := (upd_ne (fun z => by rw [z, e1] at h13; cases h13)).trans h13
      generalize upd H3 A.lo (.lst (v1.set x (.ref t))) = H4 at R4 bu h14 ⊢
      have ft := S1_fit (n := n) (nr := st.row + 1) (.lone hx c) (Nat.lt_succ_self st.row)
      rw [← S1_lone] at R4
      try dsimp only
      refine ⟨_, rfl, p, dx, _, rfl, R4.at_, rfl, _, rfl, a1, _, _, iN x, rfl, rfl, SqT.of h14, at_by (j := 0) rfl rfl, p, dx, A, n, off, _, _, x, rfl, R4, ft, hx, Sl_st x, fun y hy => ?_, fun y _ => ⟨Sl_pr x y, Sl_pr y x⟩, fun H5 s5 => kq H5 (fun b o n e => s5 _ _ (bu b o n e)) (R4.same s5)⟩
      rw [Sl_lo hx]
      by_cases q : x = y
      · rw [if_pos q]
        rcases c with rfl | ⟨z, rfl, hz⟩
        · exact fun z => nomatch z
        · intro z
          have := List.cons.inj (Option.some.inj z)
          omega
      · rw [if_neg q]
        exact fun z => nomatch z
end
end Ask

/-! an equation is considered: the first one is adopted, the same again is offered in vain -/
namespace Ask
open PySem L2
theorem S0_firm {n : Nat} {b : Str} : ∀ {wd : List Nat}, wd.length ≤ 2 → (S0 n).firm n b wd = true
  | [], _ => rfl
  | [x], _ => by unfold CmS.firm; simp [S0_lo, S0_st]
  | [x, y], _ => by unfold CmS.firm; simp [S0_lo, S0_st, S0_pr]
  | _ :: _ :: _ :: _, h => absurd h (by simp)
theorem S1_firm {n : Nat} {b : Str} {l r : List Nat} {row : Nat} (e : EqOk n b l r) : (S1 n b l r row).firm n b l = false := by
  cases e with
  | pair hx hy c => unfold CmS.firm; simp [Sp_pr hx hy hy]
  | still hx => unfold CmS.firm; simp [Ss_st hx]
  | lone hx c => unfold CmS.firm; simp [Sl_lo hx]
theorem redN_end {S : CmS} {n : Nat} {b : Str} {k : Nat} {wd : List Nat} {i : Nat} {st : List Stp1} (h : wd.length ≤ i) : redN S n b (k + 1) wd i st = some (wd, st) := by
  unfold redN
  rw [if_neg (by omega)]
theorem redN_go {S : CmS} {n : Nat} {b : Str} {k : Nat} {wd : List Nat} {i : Nat} {st : List Stp1} (h : i < wd.length) {m : Nat} {r : List Nat} {row : Nat} (e : S.ruleAt n b wd i = (m, some (r, row))) : redN S n b (k + 1) wd i st = redN S n b k (wd.take i ++ r ++ wd.drop (i + m)) 0 (st ++ [⟨row, i, 1⟩]) := by
  conv => lhs; unfold redN
  rw [if_pos h, e]
theorem redN_on {S : CmS} {n : Nat} {b : Str} {k : Nat} {wd : List Nat} {i : Nat} {st : List Stp1} (h : i < wd.length) (e : (S.ruleAt n b wd i).2 = none) : redN S n b (k + 1) wd i st = redN S n b k wd (i + 1) st := by
  conv => lhs; unfold redN
  rw [if_pos h, e]
theorem ruleAt_lo {S : CmS} {n : Nat} {b : Str} {wd : List Nat} {i x : Nat} {o : List Nat × Nat} (e : (wd[i]?).getD 0 = x) (h : S.lo x = some o) : S.ruleAt n b wd i = (1, some o) := by
  unfold CmS.ruleAt
  simp only [e, h, Option.isSome_some, if_true]
theorem ruleAt_pr {S : CmS} {n : Nat} {b : Str} {wd : List Nat} {i x y : Nat} {o : List Nat × Nat} (e : (wd[i]?).getD 0 = x) (e2 : (wd[i + 1]?).getD 0 = y) (l : i + 1 < wd.length) (h : S.lo x = none) (h2 : S.pr n x y = some o) : S.ruleAt n b wd i = (2, some o) := by
  unfold CmS.ruleAt
  simp only [e, e2, h, h2, Option.isSome_some, Option.isSome_none, if_true, Bool.false_eq_true, if_false, l, and_self]
theorem ruleAt_st {S : CmS} {n : Nat} {b : Str} {wd : List Nat} {i x : Nat} (e : (wd[i]?).getD 0 = x) (l : ¬ i + 1 < wd.length) (h : S.lo x = none) : S.ruleAt n b wd i = (1, if b = "new" ∧ i = 0 then S.stl x else none) := by
  unfold CmS.ruleAt
  simp only [e, h, Option.isSome_none, Bool.false_eq_true, if_false, l, false_and]
/-- a word of at most one letter that no rule strikes -/
theorem red_one {S : CmS} {n : Nat} {b : Str} {k : Nat} {r : List Nat} {st : List Stp1} (h1 : r.length ≤ 1) (hl : ∀ x ∈ r, S.lo x = none) (hs : b = "new" → ∀ x ∈ r, S.stl x = none) : redN S n b (k + 2) r 0 st = some (r, st) := by
  match r, h1 with
  | [], _ => exact redN_end (Nat.le_refl 0)
  | [x], _ =>
    refine (redN_on (Nat.zero_lt_one) ?_).trans (redN_end (Nat.le_refl 1))
    rw [ruleAt_st (x := x) rfl (by show ¬ 0 + 1 < 1; decide) (hl x List.mem_cons_self)]
    by_cases c : b = "new"
    · rw [if_pos ⟨c, rfl⟩]; exact hs c x List.mem_cons_self
    · rw [if_neg (fun z => c z.1)]
theorem S1_red {n : Nat} {b : Str} {l r : List Nat} {row : Nat} (e : EqOk n b l r) : ∃ o1 o2, redN (S1 n b l r row) n b 1000 l 0 [] = some o1 ∧ redN (S1 n b l r row) n b 1000 r 0 [] = some o2 ∧ o1.1 = o2.1 := by
  obtain ⟨r1, r2⟩ := e.right
  cases e with
  | pair hx hy c =>
    rename_i x y
    refine ⟨(r, [] ++ [⟨row, 0, 1⟩]), (r, []), ?_, red_one (k := 998) r1 (fun z _ => Sp_lo z) (fun z => absurd z (by decide)), rfl⟩
    refine (redN_go (k := 999) (m := 2) (r := r) (row := row) (Nat.zero_lt_two) (ruleAt_pr (x := x) (y := y) rfl rfl (by show 0 + 1 < 2; decide) (Sp_lo x) (by rw [Sp_pr hx hy hy, if_pos ⟨rfl, rfl⟩]))).trans ?_
    show redN _ n "found" (997 + 2) ([] ++ r ++ []) 0 _ = _
    rw [List.nil_append, List.append_nil]
    exact red_one r1 (fun z _ => Sp_lo z) (fun z => absurd z (by decide))
  | still hx =>
    rename_i x
    refine ⟨([], [] ++ [⟨row, 0, 1⟩]), ([], []), ?_, redN_end (k := 999) (Nat.le_refl 0), rfl⟩
    refine (redN_go (k := 999) (m := 1) (r := []) (row := row) (Nat.zero_lt_one) ((ruleAt_st (x := x) rfl (by show ¬ 0 + 1 < 1; decide) (Ss_lo x)).trans ?_)).trans (redN_end (k := 998) (Nat.le_refl 0))
    rw [if_pos ⟨rfl, rfl⟩, Ss_st hx, if_pos rfl]
  | lone hx c =>
    rename_i x
    have nx : ∀ z ∈ r, (S1 n "found" [x] r row).lo z = none := fun z hz => by
      rw [Sl_lo hx, if_neg]
      rcases c with rfl | ⟨y, rfl, hy⟩
      · cases hz
      · rw [List.mem_singleton.mp hz]; omega
    refine ⟨(r, [] ++ [⟨row, 0, 1⟩]), (r, []), ?_, red_one (k := 998) r1 nx (fun z => absurd z (by decide)), rfl⟩
    refine (redN_go (k := 999) (m := 1) (r := r) (row := row) (Nat.zero_lt_one) (ruleAt_lo (x := x) rfl (by rw [Sl_lo hx, if_pos rfl]))).trans ?_
    show redN _ n "found" (997 + 2) ([] ++ r ++ []) 0 _ = _
    rw [List.nil_append, List.append_nil]
    exact red_one r1 nx (fun z => absurd z (by decide))
section
variable {P : Program} {w : World} {K : PySem.W.Frag} {mg : Str → Option Value} {base : Heap}
def spConsider (K : PySem.W.Frag) (CC : Addr) : Sp := fun vs H Q _ => ∃ (p dx a1 a2 a3 d : Addr) (A : CmA) (n off : Nat) (b : Str) (l r : List Nat) (st : Stp1), vs = [.ref p, .str b, .ref a1, .ref a2, .ref a3] ∧ H a1 = some (.tup (l.map iN)) ∧ H a2 = some (.tup (r.map iN)) ∧ H a3 = some (.tup [.ref d]) ∧ H d = some (.tup st.vs) ∧ EqOk n b l r ∧
  ((CmR K CC H p dx A n off (S0 n) ∧ Apart3 A ∧ H A.wa = some (.dK []) ∧ ∀ H', ButL (adL A b l) H H' → CmR K CC H' p dx A n off (S1 n b l r st.row) → Q .non H') ∨
   (∃ row, CmR K CC H p dx A n off (S1 n b l r row) ∧ ∀ H', Same H H' → Q .non H'))

abbrev s_Completion_consider : Stmt := inClass (top 58) 4
theorem sc_Completion_consider : FnScope ["self", "beginning", "left", "right", "steps"] ["self", "beginning", "left", "right", "steps"] (defScope s_Completion_consider) := ⟨rfl, rfl, rfl, by decide +kernel, rfl, by decide +kernel, by decide +kernel⟩
theorem ok_consider {f CC fI fA fO : Addr} {fd fdI fdA fdO : FuncData} (F : Fun K "consider" "Completion.consider" s_Completion_consider f fd) (hC : CmC K CC)
    (GI : FnOk P w K mg base CX0 1 fI fdI ["self", "beginning", "word"] (spFirm K CC)) (bI : Binds K fdI ["self", "beginning", "word"] []) (mI : Meth K CC "is_struck" fI)
    (GA : FnOk P w K mg base CX0 3 fA fdA ["self", "beginning", "left", "right", "steps"] (spAdopt K CC)) (bA : Binds K fdA ["self", "beginning", "left", "right", "steps"] []) (mA : Meth K CC "adopt" fA)
    (GO : FnOk P w K mg base CX0 3 fO fdO ["self", "beginning", "first", "last", "steps"] (spOffer K CC)) (bO : Binds K fdO ["self", "beginning", "first", "last", "steps"] []) (mO : Meth K CC "offer" fO) : FnOk P w K mg base CX0 4 f fd ["self", "beginning", "left", "right", "steps"] (spConsider K CC) := by
  refine F.ok sc_Completion_consider (fun vs H Q E h => ?_) (fun cdv A0 outer s H vs Q E hr h => ?_)
  · obtain ⟨p, dx, a1, a2, a3, d, A, n, off, b, l, r, st, rfl, _⟩ := h
    rfl
  · obtain ⟨p, dx, a1, a2, a3, d, A, n, off, b, l, r, st, rfl, h1, h2, h3, hd, eq, h⟩ := h
    obtain ⟨l1, l2, l3⟩ := eq.left
    obtain ⟨r1, r2⟩ := eq.right
    have h_is_struck := hr.mono (j := 1) (by decide)
    have h_adopt := hr.mono (j := 3) (by decide)
    have h_offer := hr.mono (j := 3) (by decide)
    refine ⟨_, (pss_one (ps_if (PW.pt (pw_and (pt_val (pe_meth (pv 0) hC.c mI GI h_is_struck bI .nil pass0 (pa_cons (pv 1) (pa_cons (pv 2) pa_nil)))) (pw_and1 (pt_val (pe_meth (pv 0) hC.c mI GI h_is_struck bI .nil pass0 (pa_cons (pv 1) (pa_cons (pv 3) pa_nil))))))) (pss_one (ps_expr (pe_meth (pv 0) hC.c mA GA h_adopt bA .nil pass0 (pa_cons (pv 1) (pa_cons (pv 2) (pa_cons (pv 3) (pa_cons (pv 4) pa_nil))))))) (pss_one (ps_expr (pe_meth (pv 0) hC.c mO GO h_offer bO .nil pass0 (pa_cons (pv 1) (pa_cons (pv 2) (pa_cons (pv 3) (pa_cons (pv 4) pa_nil))))))))), ?_⟩
    rcases h with ⟨R, ap, hwa, kq⟩ | ⟨row, R, kq⟩
    · refine ⟨_, rfl, p, dx, _, rfl, R.at_, rfl, _, rfl, _, rfl, p, dx, a1, A, n, off, S0 n, b, l, rfl, R, h1, l2, l3, fun H1 s1 => ?_⟩
      rw [S0_firm l2]
      refine ⟨_, rfl, iteT ?_⟩
      refine ⟨_, rfl, p, dx, _, rfl, s1 _ _ R.at_, rfl, _, rfl, _, rfl, p, dx, a2, A, n, off, S0 n, b, r, rfl, R.same s1, s1 _ _ h2, by omega, r2, fun H2 s2 => ?_⟩
      rw [S0_firm (by omega)]
      refine ⟨_, rfl, iteT ?_⟩
      have s3 := s1.trans s2
      exact ⟨_, rfl, p, dx, _, rfl, s3 _ _ R.at_, rfl, _, rfl, _, rfl, _, rfl, _, rfl, p, dx, a1, a2, a3, d, A, n, off, b, l, r, st, rfl, R.same s3, ap, s3 _ _ hwa, s3 _ _ h1, s3 _ _ h2, s3 _ _ h3, s3 _ _ hd, eq, fun H' bu R' => kq H' (fun c o n e => bu c o n (s3 _ _ e)) R'⟩
    · refine ⟨_, rfl, p, dx, _, rfl, R.at_, rfl, _, rfl, _, rfl, p, dx, a1, A, n, off, _, b, l, rfl, R, h1, l2, l3, fun H1 s1 => ?_⟩
      rw [S1_firm eq]
      refine ⟨_, rfl, iteF ?_⟩
      obtain ⟨o1, o2, q1, q2, q3⟩ := S1_red (row := row) eq
      exact ⟨_, rfl, p, dx, _, rfl, s1 _ _ R.at_, rfl, _, rfl, _, rfl, _, rfl, _, rfl, p, dx, a1, a2, a3, A, n, off, row + 1, _, b, l, r, o1, o2, rfl, R.same s1, S1_fit eq (Nat.lt_succ_self row), s1 _ _ h1, s1 _ _ h2, by omega, by omega, l3, r2, q1, q2, q3, fun H' s2 => kq H' (s1.trans s2)⟩
end
end Ask

/-! one more sentence is taken in, the same as before -/
namespace Ask
open PySem L2
/-- the rules after the same sentence was told m times -/
def SN (n : Nat) (b : Str) (l r : List Nat) : Nat → CmS
  | 0 => S0 n
  | _ + 1 => S1 n b l r 0
def eqL (ys : List Str) (k x : Str) (s : V) : List Nat × List Nat := sidesN k (ys.idxOf x) (rkOf ys s)
/-- the tuples of the rows: a sentence, no steps -/
def RowsAt (H : Hp) (vr : List V) (ss : List Addr) : Prop := vr.length = ss.length ∧ ∀ (i : Nat) (q : Addr), ss[i]? = some q → ∃ t e : Addr, vr[i]? = some (.ref t) ∧ H t = some (.tup [.ref q, .ref e]) ∧ H e = some (.tup [])
/-- a completion that was told the sentences at ss, all the same -/
structure CmT (K : PySem.W.Frag) (CL CS CC : Addr) (H : Hp) (p : Addr) (A : CmA) (ys : List Str) (k x : Str) (s : V) (ss : List Addr) : Prop where
  cm : ∃ dx, CmR K CC H p dx A ys.length 0 (SN ys.length (bgR k) (eqL ys k x s).1 (eqL ys k x s).2 ss.length)
  let_ : ∃ t, Mde CL H A.m t ys
  rk : H A.rk = some (.dK (rkD ys))
  ro : ∃ vr, H A.ro = some (.lst vr) ∧ RowsAt H vr ss
  le : H A.le = some (.lst (List.replicate ss.length (iN 1)))
  wa : H A.wa = some (.dK [])
  fr : H A.fr = some (.lst [])
  sen : ∀ q ∈ ss, SenAt K CL CS H q ys k x s
  nd : [A.rk, A.ro, A.le, A.lo, A.st, A.pr, A.wa, A.fr].Nodup
/-- all but what stands at these places -/
def KeepA (L : List Addr) (H H' : Hp) : Prop := ∀ b o, b ∉ L → H b = some o → H' b = some o
theorem KeepA.of {L : List Addr} {H H' : Hp} (s : Same H H') : KeepA L H H' := fun b o _ e => s b o e
theorem KeepA.trans {L : List Addr} {H H1 H2 : Hp} (a : KeepA L H H1) (b : KeepA L H1 H2) : KeepA L H H2 := fun c o n e => b c o n (a c o n e)
theorem KeepA.mono {L M : List Addr} {H H1 : Hp} (a : KeepA L H H1) (h : ∀ x ∈ L, x ∈ M) : KeepA M H H1 := fun c o n e => a c o (fun z => n (h c z)) e
theorem ButL.keepA {p : Addr} {L : List Addr} {H H' : Hp} (h : ButL p H H') (m : p ∈ L) : KeepA L H H' := fun b o n e => h b o (fun z => n (z ▸ m)) e
/-- what a completion may change when it is told more -/
def CmA.own (A : CmA) (p : Addr) : List Addr := [p, A.ro, A.le, A.lo, A.st, A.pr]
/-- what stands there is a list or a completion -/
def LorC (CC : Addr) (H : Hp) (p : Addr) (n : Nat) : Addr → Prop := fun a => (∃ xs, H a = some (.lst xs)) ∨ (∃ dx A off, H a = some (.ins CC dx (fsC A n off)))
theorem CmT.own {K : PySem.W.Frag} {CL CS CC : Addr} {H : Hp} {p : Addr} {A : CmA} {ys : List Str} {k x : Str} {s : V} {ss : List Addr} (h : CmT K CL CS CC H p A ys k x s ss) : ∀ a ∈ A.own p, (∃ xs, H a = some (.lst xs)) ∨ (∃ dx A' n off, H a = some (.ins CC dx (fsC A' n off))) := by
  obtain ⟨dx, R⟩ := h.cm
  obtain ⟨vr, e, _⟩ := h.ro
  obtain ⟨v1, e1, _⟩ := R.lone
  obtain ⟨v2, e2, _⟩ := R.still
  obtain ⟨v3, e3, _⟩ := R.pairs
  intro a ha
  simp only [CmA.own, List.mem_cons, List.not_mem_nil, or_false] at ha
  rcases ha with rfl | rfl | rfl | rfl | rfl | rfl
  · exact .inr ⟨_, _, _, _, R.at_⟩
  · exact .inl ⟨_, e⟩
  · exact .inl ⟨_, h.le⟩
  · exact .inl ⟨_, e1⟩
  · exact .inl ⟨_, e2⟩
  · exact .inl ⟨_, e3⟩
theorem SenAt.keepA {K : PySem.W.Frag} {CL CS CC : Addr} {L : List Addr} {H H' : Hp} {q : Addr} {ys : List Str} {k x : Str} {s : V} (h : SenAt K CL CS H q ys k x s) (own : ∀ a ∈ L, (∃ xs, H a = some (.lst xs)) ∨ (∃ dx A' n off, H a = some (.ins CC dx (fsC A' n off)))) (kp : KeepA L H H') : SenAt K CL CS H' q ys k x s := by
  obtain ⟨dx, m, t, e, d, o, hm, ht, ho⟩ := h
  have n1 : ∀ {a : Addr} {o : HO}, H a = some o → (∀ xs, o ≠ .lst xs) → (∀ dx A' n off, o ≠ .ins CC dx (fsC A' n off)) → H' a = some o := fun {a o} e c1 c2 => kp a o (fun z => by
    rcases own a z with ⟨xs, q⟩ | ⟨dx, A', n, off, q⟩
    · rw [e] at q; exact c1 _ (Option.some.inj q)
    · rw [e] at q; exact c2 _ _ _ _ (Option.some.inj q)) e
  exact ⟨dx, m, t, n1 e (fun _ z => nomatch z) (fun _ _ _ _ z => by injection z with _ _ z; unfold fsC at z; injection z with z1 z2; injection z2 with z3; cases z3), d, o, n1 hm (fun _ z => nomatch z) (fun _ _ _ _ z => by injection z with _ _ z; unfold fsC at z; injection z with z1 z2; cases z1), n1 ht (fun _ z => nomatch z) (fun _ _ _ _ z => nomatch z), ho⟩
theorem KeepA.get {CC : Addr} {L : List Addr} {H H' : Hp} (own : ∀ a ∈ L, (∃ xs, H a = some (.lst xs)) ∨ (∃ dx A' n off, H a = some (.ins CC dx (fsC A' n off)))) (kp : KeepA L H H') {a : Addr} {o : HO} (e : H a = some o) (c1 : ∀ xs, o ≠ .lst xs) (c2 : ∀ dx A' n off, o ≠ .ins CC dx (fsC A' n off)) : H' a = some o := kp a o (fun z => by
    rcases own a z with ⟨xs, q⟩ | ⟨dx, A', n, off, q⟩
    · rw [e] at q; exact c1 _ (Option.some.inj q)
    · rw [e] at q; exact c2 _ _ _ _ (Option.some.inj q)) e
theorem Mde.keepA {CL CC : Addr} {L : List Addr} {H H' : Hp} (own : ∀ a ∈ L, (∃ xs, H a = some (.lst xs)) ∨ (∃ dx A' n off, H a = some (.ins CC dx (fsC A' n off)))) (kp : KeepA L H H') {m t : Addr} {ys : List Str} (h : Mde CL H m t ys) : Mde CL H' m t ys := by
  obtain ⟨d, o, hm, ht, ho⟩ := h
  exact ⟨d, o, kp.get own hm (fun _ z => nomatch z) (fun _ _ _ _ z => by injection z with _ _ z; unfold fsC at z; injection z with z1 z2; cases z2), kp.get own ht (fun _ z => nomatch z) (fun _ _ _ _ z => nomatch z), ho⟩
theorem RowsAt.keep {H H' : Hp} {vr : List V} {ss : List Addr} (h : RowsAt H vr ss) (k : ∀ a xs, H a = some (.tup xs) → H' a = some (.tup xs)) : RowsAt H' vr ss :=
  ⟨h.1, fun i q e => let ⟨t, e', e1, e2, e3⟩ := h.2 i q e; ⟨t, e', e1, k _ _ e2, k _ _ e3⟩⟩
theorem RowsAt.app {H : Hp} {vr : List V} {ss : List Addr} {t e q : Addr} (h : RowsAt H vr ss) (e2 : H t = some (.tup [.ref q, .ref e])) (e3 : H e = some (.tup [])) : RowsAt H (vr ++ [.ref t]) (ss ++ [q]) := by
  refine ⟨by rw [List.length_append, List.length_append, h.1]; rfl, fun i y ey => ?_⟩
  by_cases l : i < ss.length
  · rw [List.getElem?_append_left l] at ey
    obtain ⟨u, e', f1, f2, f3⟩ := h.2 i y ey
    exact ⟨u, e', by rw [List.getElem?_append_left (by rw [h.1]; exact l)]; exact f1, f2, f3⟩
  · rw [List.getElem?_append_right (by omega)] at ey
    have : i - ss.length = 0 := by
      have := (List.getElem?_eq_some_iff.mp ey).1
      simp at this
      omega
    rw [this] at ey
    cases ey
    exact ⟨t, e, by rw [List.getElem?_append_right (by rw [h.1]; omega), h.1, this]; rfl, e2, e3⟩
theorem nd_ne {l : List Addr} (h : l.Nodup) {i j : Nat} {a b : Addr} (ha : l[i]? = some a) (hb : l[j]? = some b) (ne : i ≠ j) : a ≠ b := fun z => by
  subst z
  have li := (List.getElem?_eq_some_iff.mp ha).1
  exact ne ((List.getElem?_inj li h).mp (ha.trans hb.symm))
theorem nd_last {l : List Addr} {a b : Addr} (h : (l ++ [a]).Nodup) (n : b ∉ l) : (l ++ [b]).Nodup := by
  rw [List.nodup_append] at h ⊢
  refine ⟨h.1, by simp, fun x hx y hy => ?_⟩
  rw [List.mem_singleton.mp hy]
  exact fun z => n (z ▸ hx)
theorem RulL.keep {H H' : Hp} {a : Addr} {l : List Rul} (h : RulL H a l) (ka : ∀ xs, H a = some (.lst xs) → H' a = some (.lst xs)) (kt : ∀ b xs, H b = some (.tup xs) → H' b = some (.tup xs)) : RulL H' a l := by
  obtain ⟨vs, e, n, f⟩ := h
  refine ⟨vs, ka _ e, n, fun i v o e1 e2 => ?_⟩
  have := f i v o e1 e2
  cases o with
  | none => exact this
  | some x =>
    obtain ⟨t, b, q1, q2, q3⟩ := this
    exact ⟨t, b, q1, kt _ _ q2, kt _ _ q3⟩
theorem CmR.move {K : PySem.W.Frag} {CC : Addr} {H H' : Hp} {p dx : Addr} {A A' : CmA} {n off off' : Nat} {S : CmS} (R : CmR K CC H p dx A n off S) (e1 : A'.lo = A.lo) (e2 : A'.st = A.st) (e3 : A'.pr = A.pr) (at_ : H' p = some (.ins CC dx (fsC A' n off'))) (ka : ∀ a xs, a = A.lo ∨ a = A.st ∨ a = A.pr → H a = some (.lst xs) → H' a = some (.lst xs)) (kt : ∀ b xs, H b = some (.tup xs) → H' b = some (.tup xs)) : CmR K CC H' p dx A' n off' S :=
  ⟨at_, e1 ▸ R.lone.keep (ka _ · (.inl rfl)) kt, e2 ▸ R.still.keep (ka _ · (.inr (.inl rfl))) kt, e3 ▸ R.pairs.keep (ka _ · (.inr (.inr rfl))) kt, R.l1, R.l2, R.l3, R.n12⟩
theorem ne_at {H : Hp} {a b : Addr} {o : HO} (h : H a = some o) (h' : H b = none) : a ≠ b := fun z => by rw [z, h'] at h; cases h
theorem adL_mem (A : CmA) (p : Addr) (b : Str) (l : List Nat) : adL A b l = A.st ∨ adL A b l = A.lo ∨ adL A b l = A.pr := by
  unfold adL
  split
  · split
    · exact .inl rfl
    · exact .inr (.inl rfl)
  · exact .inr (.inr rfl)
theorem eqOk_of {ys : List Str} {k x : Str} {s : V} {n : Nat} (hn : ys.length = n) (hk : k ∈ KL) (hx : x ∈ ys) (hs : SOk ys k s) (nf : k = "alike" → ∃ y, s = .str y ∧ ys.idxOf y < ys.idxOf x) : EqOk n (bgR k) (eqL ys k x s).1 (eqL ys k x s).2 := by
  subst hn
  have lx : ys.idxOf x < ys.length := List.idxOf_lt_length_of_mem hx
  unfold eqL bgR
  by_cases c : k ∈ LK
  · rw [show sidesN k (ys.idxOf x) (rkOf ys s) = ([ys.idxOf x], []) from by unfold sidesN; rw [if_pos c]]
    by_cases d : k = "still"
    · rw [if_pos d]; exact .still lx
    · rw [if_neg d]; exact .lone lx (.inl rfl)
  · have d : k ≠ "still" := fun z => c (by rw [z]; decide)
    obtain ⟨y, rfl, hy⟩ := hs.1 c
    have ly : ys.idxOf y < ys.length := List.idxOf_lt_length_of_mem hy
    rw [if_neg d, show sidesN k (ys.idxOf x) (rkOf ys (.str y)) = (if k = "alike" then ([ys.idxOf x], [ys.idxOf y]) else if k = "undone" then ([ys.idxOf x, ys.idxOf y], []) else ([ys.idxOf x, ys.idxOf y], if k = "kept" then [ys.idxOf x] else [ys.idxOf y])) from by unfold sidesN; rw [if_neg c]; rfl]
    by_cases e : k = "alike"
    · obtain ⟨y', e1, e2⟩ := nf e
      cases e1
      rw [if_pos e]
      exact .lone lx (.inr ⟨_, rfl, e2⟩)
    · rw [if_neg e]
      by_cases g : k = "undone"
      · rw [if_pos g]; exact .pair lx ly (.inl rfl)
      · rw [if_neg g]
        by_cases u : k = "kept"
        · rw [if_pos u]; exact .pair lx ly (.inr (.inl rfl))
        · rw [if_neg u]; exact .pair lx ly (.inr (.inr rfl))
section
variable {P : Program} {w : World} {K : PySem.W.Frag} {mg : Str → Option Value} {base : Heap}
def spTake (K : PySem.W.Frag) (CL CS CC : Addr) : Sp := fun vs H Q _ => ∃ (p sp : Addr) (A : CmA) (ys : List Str) (k x : Str) (s : V) (ss : List Addr), vs = [.ref p, .ref sp] ∧ CmT K CL CS CC H p A ys k x s ss ∧ SenAt K CL CS H sp ys k x s ∧ k ∈ KL ∧ x ∈ ys ∧ SOk ys k s ∧ (k = "alike" → ∃ y, s = .str y ∧ ys.idxOf y < ys.idxOf x) ∧ ss.length ≤ 900 ∧
  ∀ (H' : Hp) (fr : Addr), KeepA (A.own p) H H' → CmT K CL CS CC H' p { A with fr := fr } ys k x s (ss ++ [sp]) → Q .non H'

abbrev s_Completion_take : Stmt := inClass (top 58) 2
theorem sc_Completion_take : FnScope ["self", "sentence", "equation"] ["self", "sentence"] (defScope s_Completion_take) := ⟨rfl, rfl, rfl, by decide +kernel, rfl, by decide +kernel, by decide +kernel⟩
theorem ok_take {f CL CS CC fE fO : Addr} {fd fdE fdO : FuncData} (F : Fun K "take" "Completion.take" s_Completion_take f fd) (T : Blt mg) (hC : CmC K CC)
    (GE : FnOk P w K mg base CX0 2 fE fdE ["self", "row"] (spEqOf K CL CS CC)) (bE : Binds K fdE ["self", "row"] []) (mE : Meth K CC "equation_of" fE)
    (GO : FnOk P w K mg base CX0 4 fO fdO ["self", "beginning", "left", "right", "steps"] (spConsider K CC)) (bO : Binds K fdO ["self", "beginning", "left", "right", "steps"] []) (mO : BMeth K CC "consider" fO) : FnOk P w K mg base CX0 5 f fd ["self", "sentence"] (spTake K CL CS CC) := by
  refine F.ok sc_Completion_take (fun vs H Q E h => ?_) (fun cdv A0 outer s H vs Q E hr h => ?_)
  · obtain ⟨p, sp, A, ys, k, x, s, ss, rfl, _⟩ := h
    rfl
  · obtain ⟨p, sp, A, ys, k, x, sv, ss, rfl, hT, hS, hk, hx, hs, nf, l9, kq⟩ := h
    have h_equation_of := hr.mono (j := 2) (by decide)
    have h_consider := hr.mono (j := 4) (by decide)
    have RO := GO.raw bO (dvs := []) .nil
    have z1 : (100000 : Nat) ≤ sizeLine := by decide
    refine ⟨_, (pss_cons (ps_expr (pe_bm PySem.F.plainAttrs_list PySem.F.slot_list_append PySem.F.type_list_append mt_append (pe_fld (pv 0) rfl) (pa_cons (pe_tup (pa_cons (pv 1) (pa_cons (pe_tup pa_nil) pa_nil))) pa_nil)))
      (pss_cons (ps_expr (pe_bm PySem.F.plainAttrs_list PySem.F.slot_list_append PySem.F.type_list_append mt_append (pe_fld (pv 0) rfl) (pa_cons pe_int pa_nil)))
      (pss_cons (ps_set (i := 2) sc_Completion_take.nd rfl (Or.inl rfl) (pe_meth (pv 0) hC.c mE GE h_equation_of bE .nil pass0 (pa_cons (pe_op op_sub (pe_callB call_len_seq (by rfl) T.n_len (by decide +kernel) (pa_cons (pe_fld (pv 0) rfl) pa_nil)) pe_int) pa_nil)))
      (pss_cons (ps_expr (pe_methS (pv 0) hC.c mO RO h_consider pass0 (pv 2)))
      (pss_one (ps_fld (pv 0) (pe_lst pa_nil) rfl)))))), ?_⟩
    obtain ⟨dx, R⟩ := hT.cm
    obtain ⟨vr, hro, rows⟩ := hT.ro
    obtain ⟨tl, hM⟩ := hT.let_
    have eq := eqOk_of rfl hk hx hs nf
    have nd := hT.nd
    refine ⟨_, rfl, p, CC, dx, _, _, rfl, R.at_, hC.c, hC.a4, rfl, .inl ⟨rfl, _, SqL.of hro⟩, _, rfl, by show 0 ≤ sizeLine; omega, fun e he => ⟨by show 2 ≤ sizeLine; omega, fun t ht => ?_⟩⟩
    have s1 := Ask.Same.made1 (o := .tup []) (Same.refl H) he
    have e1 : upd H e (.tup []) e = some (.tup []) := upd_same
    have s2 := Ask.Same.made1 (o := .tup [.ref sp, .ref e]) s1 ht
    have e2 : upd (upd H e (.tup [])) t (.tup [.ref sp, .ref e]) t = some (.tup [.ref sp, .ref e]) := upd_same
    have e3 : upd (upd H e (.tup [])) t (.tup [.ref sp, .ref e]) e = some (.tup []) := (upd_ne (ne_at e1 ht)).trans e1
    have tn : H t = none := by
      cases q : H t with
      | none => rfl
      | some o => rw [s1 _ _ q] at ht; cases ht
    generalize upd (upd H e (.tup [])) t (.tup [.ref sp, .ref e]) = H2 at s2 e2 e3 ⊢
    have lr := rows.1
    have own := hT.own
    have pA : ∀ {q : Addr} {o : HO}, H q = some o → (∀ C dx fs, o ≠ .ins C dx fs) → p ≠ q := fun e n z => by rw [← z, R.at_] at e; exact n _ _ _ (Option.some.inj e).symm
    refine ⟨A.ro, vr, .ref t, rfl, rfl, s2 _ _ hro, by omega, ?_⟩
    have k3 : ∀ b o, b ≠ A.ro → H2 b = some o → upd H2 A.ro (.lst (vr ++ [.ref t])) b = some o := fun b o n e => by rw [upd_ne n]; exact e
    have r3 : upd H2 A.ro (.lst (vr ++ [.ref t])) A.ro = some (.lst (vr ++ [.ref t])) := upd_same
    generalize upd H2 A.ro (.lst (vr ++ [.ref t])) = H3 at k3 r3 ⊢
    have n1 : A.ro ≠ A.le := nd_ne nd (i := 1) (j := 2) rfl rfl (by decide)
    have pro := pA hro (fun _ _ _ z => nomatch z)
    have ple := pA hT.le (fun _ _ _ z => nomatch z)
    have hle3 := k3 _ _ n1.symm (s2 _ _ hT.le)
    try dsimp only
    refine ⟨_, rfl, p, CC, dx, _, _, rfl, k3 _ _ pro (s2 _ _ R.at_), hC.c, hC.a5, rfl, .inl ⟨rfl, _, SqL.of hle3⟩, A.le, _, _, rfl, rfl, hle3, by rw [List.length_replicate]; omega, ?_⟩
    have k4 : ∀ b o, b ≠ A.ro → b ≠ A.le → H2 b = some o → upd H3 A.le (.lst (List.replicate ss.length (iN 1) ++ [.int 1])) b = some o := fun b o n n' e => by rw [upd_ne n']; exact k3 b o n e
    have r4 : upd H3 A.le (.lst (List.replicate ss.length (iN 1) ++ [.int 1])) A.ro = some (.lst (vr ++ [.ref t])) := by rw [upd_ne n1]; exact r3
    have l4 : upd H3 A.le (.lst (List.replicate ss.length (iN 1) ++ [.int 1])) A.le = some (.lst (List.replicate (ss.length + 1) (iN 1))) := by rw [upd_same, List.replicate_succ']; rfl
    generalize upd H3 A.le (.lst (List.replicate ss.length (iN 1) ++ [.int 1])) = H4 at k4 r4 l4 ⊢
    clear k3 r3 hle3
    have kA : ∀ b o, (∀ xs, o ≠ .lst xs) → H b = some o → H4 b = some o := fun b o n e => k4 b o (fun z => by rw [z, hro] at e; exact n _ (Option.some.inj e).symm) (fun z => by rw [z, hT.le] at e; exact n _ (Option.some.inj e).symm) (s2 _ _ e)
    have tro : t ≠ A.ro := fun z => by rw [z] at tn; rw [tn] at hro; cases hro
    have tle : t ≠ A.le := fun z => by rw [z] at tn; have := hT.le; rw [tn] at this; cases this
    have e24 := k4 _ _ tro tle e2
    try dsimp only
    refine ⟨_, rfl, p, dx, _, rfl, kA _ _ (fun _ z => nomatch z) R.at_, rfl, _, rfl, p, CC, dx, _, _, rfl, kA _ _ (fun _ z => nomatch z) R.at_, hC.c, hC.a4, rfl, A.ro, _, rfl, .inl (SqL.of r4), _, _, rfl, rfl, ?_⟩
    have kO : KeepA (A.own p) H H4 := fun b o n e => k4 b o (fun z => n (by rw [z]; simp [CmA.own])) (fun z => n (by rw [z]; simp [CmA.own])) (s2 _ _ e)
    have hrow : (vr ++ [V.ref t])[ss.length]? = some (.ref t) := by rw [← lr, List.getElem?_append_right (Nat.le_refl _), Nat.sub_self]; rfl
    refine ⟨p, dx, t, sp, e, A, ys.length, 0, ss.length, ys, _, k, x, sv, ?_, kA _ _ (fun _ z => nomatch z) R.at_, kA _ _ (fun _ z => nomatch z) hT.rk, r4, hrow, e24, hS.keepA own kO, hk, hx, hs, fun H5 t' a b c d s5 q1 q2 q3 q4 q5 => ?_⟩
    · show [V.ref p, V.int (((vr ++ [V.ref t]).length : Nat) - 1)] = _
      rw [List.length_append, lr]
      show [V.ref p, V.int (((ss.length + 1 : Nat) : Int) - 1)] = _
      rw [Int.natCast_add]
      show [V.ref p, V.int ((ss.length : Int) + 1 - 1)] = _
      rw [Int.add_sub_cancel]
    try dsimp only
    refine nm_any ?_
    refine ⟨_, rfl, p, dx, _, rfl, s5 _ _ (kA _ _ (fun _ z => nomatch z) R.at_), rfl, fun m hm => ?_⟩
    have s6 := Ask.Same.upd_new (o := .met fO p) (Same.refl H5) hm
    have r6 : upd H5 m (.met fO p) m = some (.met fO p) := upd_same
    generalize upd H5 m (.met fO p) = H6 at s6 r6 ⊢
    have s56 := s5.trans s6
    have kA6 : ∀ b o, (∀ xs, o ≠ .lst xs) → H b = some o → H6 b = some o := fun b o n e => s56 _ _ (kA b o n e)
    have ap : Apart3 A := ⟨nd_ne nd (i := 3) (j := 4) rfl rfl (by decide), nd_ne nd (i := 3) (j := 5) rfl rfl (by decide), nd_ne nd (i := 4) (j := 5) rfl rfl (by decide)⟩
    have kl : ∀ a xs, a = A.lo ∨ a = A.st ∨ a = A.pr → H a = some (.lst xs) → H6 a = some (.lst xs) := fun a xs c e => s56 _ _ (k4 _ _ (by
      rcases c with rfl | rfl | rfl
      · exact nd_ne nd (i := 3) (j := 1) rfl rfl (by decide)
      · exact nd_ne nd (i := 4) (j := 1) rfl rfl (by decide)
      · exact nd_ne nd (i := 5) (j := 1) rfl rfl (by decide)) (by
      rcases c with rfl | rfl | rfl
      · exact nd_ne nd (i := 3) (j := 2) rfl rfl (by decide)
      · exact nd_ne nd (i := 4) (j := 2) rfl rfl (by decide)
      · exact nd_ne nd (i := 5) (j := 2) rfl rfl (by decide)) (s2 _ _ e))
    have R6 : CmR K CC H6 p dx A ys.length 0 _ := R.move rfl rfl rfl (kA6 _ _ (fun _ z => nomatch z) R.at_) kl (fun b xs e => kA6 _ _ (fun _ z => nomatch z) e)
    have fin : ∀ H7, (∀ c o, c ≠ A.lo → c ≠ A.st → c ≠ A.pr → H6 c = some o → H7 c = some o) → CmR K CC H7 p dx A ys.length 0 (S1 ys.length (bgR k) (eqL ys k x sv).1 (eqL ys k x sv).2 0) → ∀ fr, H7 fr = none → Q .non (upd (upd H7 fr (.lst [])) p (.ins CC dx (putF "fresh" (.ref fr) (fsC A ys.length 0)))) := fun H7 k7 R7 fr hfr => by
      have put : putF "fresh" (.ref fr) (fsC A ys.length 0) = fsC { A with fr := fr } ys.length 0 := rfl
      rw [put]
      have pf : p ≠ fr := ne_at R7.at_ hfr
      have k8 : ∀ c o, c ≠ p → H7 c = some o → upd (upd H7 fr (.lst [])) p (.ins CC dx (fsC { A with fr := fr } ys.length 0)) c = some o := fun c o n e => by rw [upd_ne n, upd_ne (ne_at e hfr)]; exact e
      have p8 : upd (upd H7 fr (.lst [])) p (.ins CC dx (fsC { A with fr := fr } ys.length 0)) p = some (.ins CC dx (fsC { A with fr := fr } ys.length 0)) := upd_same
      have f8 : upd (upd H7 fr (.lst [])) p (.ins CC dx (fsC { A with fr := fr } ys.length 0)) fr = some (.lst []) := by rw [upd_ne pf.symm, upd_same]
      generalize upd (upd H7 fr (.lst [])) p (.ins CC dx (fsC { A with fr := fr } ys.length 0)) = H8 at k8 p8 f8 ⊢
      have kA8 : KeepA (A.own p) H H8 := fun c o n e => by
        simp only [CmA.own, List.mem_cons, List.not_mem_nil, or_false, not_or] at n
        obtain ⟨c0, c1, c2, c3, c4, c5⟩ := n
        exact k8 _ _ c0 (k7 _ _ c3 c4 c5 (s56 _ _ (k4 _ _ c1 c2 (s2 _ _ e))))
      have g8 : ∀ {a : Addr} {o : HO}, H a = some o → (∀ xs, o ≠ .lst xs) → (∀ dx A' n off, o ≠ .ins CC dx (fsC A' n off)) → H8 a = some o := fun e c1 c2 => kA8.get own e c1 c2
      have t8 : ∀ a xs, H6 a = some (.tup xs) → H8 a = some (.tup xs) := fun a xs e => k8 _ _ (fun z => by have := R6.at_; rw [← z, e] at this; cases this) (k7 _ _ (fun z => by obtain ⟨v, q, _⟩ := R6.lone; rw [z, q] at e; cases e) (fun z => by obtain ⟨v, q, _⟩ := R6.still; rw [z, q] at e; cases e) (fun z => by obtain ⟨v, q, _⟩ := R6.pairs; rw [z, q] at e; cases e) e)
      have n8 : ∀ c xs, H7 c = some (.lst xs) → H8 c = some (.lst xs) := fun c xs e => k8 _ _ (fun z => by have := R7.at_; rw [← z, e] at this; cases this) e
      have ro6 := s56 _ _ r4
      have rk6 : H6 A.rk = some (.dK (rkD ys)) := kA6 _ _ (fun _ z => nomatch z) hT.rk
      have wa6 : H6 A.wa = some (.dK []) := kA6 _ _ (fun _ z => nomatch z) hT.wa
      have le6 := s56 _ _ l4
      have ro8 := n8 _ _ (k7 _ _ (nd_ne nd (i := 1) (j := 3) rfl rfl (by decide)) (nd_ne nd (i := 1) (j := 4) rfl rfl (by decide)) (nd_ne nd (i := 1) (j := 5) rfl rfl (by decide)) ro6)
      have le8 := n8 _ _ (k7 _ _ (nd_ne nd (i := 2) (j := 3) rfl rfl (by decide)) (nd_ne nd (i := 2) (j := 4) rfl rfl (by decide)) (nd_ne nd (i := 2) (j := 5) rfl rfl (by decide)) le6)
      have all6 : ∀ c ∈ [A.rk, A.ro, A.le, A.lo, A.st, A.pr, A.wa], ∃ o, H7 c = some o := fun c hc => by
        simp only [List.mem_cons, List.not_mem_nil, or_false] at hc
        rcases hc with rfl | rfl | rfl | rfl | rfl | rfl | rfl
        · exact ⟨_, k7 _ _ (nd_ne nd (i := 0) (j := 3) rfl rfl (by decide)) (nd_ne nd (i := 0) (j := 4) rfl rfl (by decide)) (nd_ne nd (i := 0) (j := 5) rfl rfl (by decide)) rk6⟩
        · exact ⟨_, k7 _ _ (nd_ne nd (i := 1) (j := 3) rfl rfl (by decide)) (nd_ne nd (i := 1) (j := 4) rfl rfl (by decide)) (nd_ne nd (i := 1) (j := 5) rfl rfl (by decide)) ro6⟩
        · exact ⟨_, k7 _ _ (nd_ne nd (i := 2) (j := 3) rfl rfl (by decide)) (nd_ne nd (i := 2) (j := 4) rfl rfl (by decide)) (nd_ne nd (i := 2) (j := 5) rfl rfl (by decide)) le6⟩
        · obtain ⟨v, q, _⟩ := R7.lone; exact ⟨_, q⟩
        · obtain ⟨v, q, _⟩ := R7.still; exact ⟨_, q⟩
        · obtain ⟨v, q, _⟩ := R7.pairs; exact ⟨_, q⟩
        · exact ⟨_, k7 _ _ (nd_ne nd (i := 6) (j := 3) rfl rfl (by decide)) (nd_ne nd (i := 6) (j := 4) rfl rfl (by decide)) (nd_ne nd (i := 6) (j := 5) rfl rfl (by decide)) wa6⟩
      refine kq H8 fr kA8 ⟨⟨dx, ?_⟩, ⟨tl, hM.keepA own kA8⟩, g8 hT.rk (fun _ z => nomatch z) (fun _ _ _ _ z => nomatch z), ⟨_, ro8, RowsAt.app ((rows.keep fun a xs e => g8 e (fun _ z => nomatch z) (fun _ _ _ _ z => nomatch z))) (t8 _ _ (s56 _ _ e24)) (t8 _ _ (s56 _ _ (k4 _ _ (fun z => ?_) (fun z => ?_) e3)))⟩, ?_, g8 hT.wa (fun _ z => nomatch z) (fun _ _ _ _ z => nomatch z), f8, ?_, ?_⟩
      · rw [List.length_append]
        exact R7.move rfl rfl rfl p8 (fun a xs _ e => n8 a xs e) (fun b xs e => k8 _ _ (fun z => by have := R7.at_; rw [← z, e] at this; cases this) e)
      · rw [z, s2 _ _ hro] at e3; cases e3
      · rw [z, s2 _ _ hT.le] at e3; cases e3
      · rw [List.length_append]; exact le8
      · intro q hq
        rcases List.mem_append.mp hq with hq | hq
        · exact (hT.sen q hq).keepA own kA8
        · rw [List.mem_singleton.mp hq]; exact hS.keepA own kA8
      · refine nd_last (l := [A.rk, A.ro, A.le, A.lo, A.st, A.pr, A.wa]) nd fun h => ?_
        obtain ⟨o, q⟩ := all6 fr h
        rw [hfr] at q
        cases q
    refine ⟨_, rfl, t', _, rfl, SqT.of (s6 _ _ q1), r6, ?_⟩
    refine ⟨p, dx, a, b, c, d, A, ys.length, 0, bgR k, _, _, ⟨ss.length, 0, 1⟩, rfl, s6 _ _ q2, s6 _ _ q3, s6 _ _ q4, s6 _ _ q5, eq, ?_⟩
    rcases Nat.eq_zero_or_pos ss.length with h0 | h0
    · refine .inl ⟨by rw [h0] at R6; exact R6, ap, kA6 _ _ (fun _ z => nomatch z) hT.wa, fun H7 bu R7 => ?_⟩
      try dsimp only
      rw [h0] at R7
      exact ⟨Nat.zero_le _, fun fr hfr => ⟨_, rfl, p, CC, dx, _, rfl, Ask.Same.upd_new (Same.refl H7) hfr _ _ R7.at_, hC.c, hC.aa, (by show 11 < 1000; decide), fin H7 (fun c o n1 n2 n3 e => bu c o (by rcases adL_mem A p (bgR k) (sidesN k (List.idxOf x ys) (rkOf ys sv)).1 with q | q | q <;> rw [q] <;> assumption) e) R7 fr hfr⟩⟩
    · obtain ⟨j, hj⟩ : ∃ j, ss.length = j + 1 := ⟨ss.length - 1, by omega⟩
      refine .inr ⟨0, by rw [hj] at R6; exact R6, fun H7 s7 => ?_⟩
      try dsimp only
      have R7 := R6.same s7
      rw [hj] at R7
      exact ⟨Nat.zero_le _, fun fr hfr => ⟨_, rfl, p, CC, dx, _, rfl, Ask.Same.upd_new (Same.refl H7) hfr _ _ R7.at_, hC.c, hC.aa, (by show 11 < 1000; decide), fin H7 (fun c o _ _ _ e => s7 _ _ e) R7 fr hfr⟩⟩
end
end Ask

/-! a completion is copied -/
namespace Ask
open PySem L2
theorem pe_no {X : Cx} {e : Expr} : PE X e (fun _ _ _ => False) := ⟨fun _ _ _ _ _ _ h => h.elim⟩
theorem free_of {H H' : Hp} {a : Addr} (s : Same H H') (h : H' a = none) : H a = none := by
  cases q : H a with
  | none => rfl
  | some o => rw [s _ _ q] at h; cases h
section
variable {P : Program} {w : World} {K : PySem.W.Frag} {mg : Str → Option Value} {base : Heap}
def spCopyC (K : PySem.W.Frag) (CL CS CC : Addr) : Sp := fun vs H Q _ => ∃ (p : Addr) (A : CmA) (ys : List Str) (k x : Str) (s : V) (ss : List Addr), vs = [.ref p] ∧ CmT K CL CS CC H p A ys k x s ss ∧ ys.Nodup ∧ 1 ≤ ys.length ∧ ss.length ≤ 900 ∧
  ∀ (H' : Hp) (q : Addr) (B : CmA), Same H H' → (∀ c ∈ B.own q, H c = none) → B.m = A.m → CmT K CL CS CC H' q B ys k x s ss → Q (.ref q) H'

abbrev s_Completion_copy : Stmt := inClass (top 58) 1
theorem sc_Completion_copy : FnScope ["self", "other", "key"] ["self"] (defScope s_Completion_copy) := ⟨rfl, rfl, rfl, by decide +kernel, rfl, by decide +kernel, by decide +kernel⟩
theorem ok_copyC {f CL CS CC fC : Addr} {fd fdC : FuncData} (F : Fun K "copy" "Completion.copy" s_Completion_copy f fd) (T : Blt mg) (hC : CmC K CC)
    (MC : Mk K CC fC) (mC : mg "Completion" = some (.ref CC)) (GC : FnOk P w K mg base CX0 1 fC fdC ["self", "letters"] (spCmI K CL CC)) (bC : Binds K fdC ["self", "letters"] []) : FnOk P w K mg base CX0 3 f fd ["self"] (spCopyC K CL CS CC) := by
  refine F.ok sc_Completion_copy (fun vs H Q E h => ?_) (fun cdv A0 outer s H vs Q E hr h => ?_)
  · obtain ⟨p, A, ys, k, x, s, ss, rfl, _⟩ := h
    rfl
  · obtain ⟨p, A, ys, k, x, sv, ss, rfl, hT, ndy, l1, l9, kq⟩ := h
    have h_C := hr.mono (j := 1) (by decide)
    have hr1 := hr.mono (j := 2) (by decide)
    have z1 : (100000 : Nat) ≤ sizeLine := by decide
    refine ⟨_, (pss_cons (ps_set (i := 1) sc_Completion_copy.nd rfl (Or.inl rfl) (pe_make MC GC hr1 (by rfl) mC bC .nil pass0 (pa_cons (pe_fld (pv 0) rfl) pa_nil)))
      (pss_cons (ps_asg (pe_tup (pa_cons (pe_callTy call_list_of (by rfl) T.n_list (by decide +kernel) (pa_cons (pe_fld (pv 0) rfl) pa_nil)) (pa_cons (pe_callTy call_list_of (by rfl) T.n_list (by decide +kernel) (pa_cons (pe_fld (pv 0) rfl) pa_nil)) pa_nil))) (pg_tup rfl (pgs_cons (pg_fld (pv 1)) (pgs_cons (pg_fld (pv 1)) pgs_nil))))
      (pss_cons (ps_asg (pe_tup (pa_cons (pe_callTy call_list_of (by rfl) T.n_list (by decide +kernel) (pa_cons (pe_fld (pv 0) rfl) pa_nil)) (pa_cons (pe_callTy call_list_of (by rfl) T.n_list (by decide +kernel) (pa_cons (pe_fld (pv 0) rfl) pa_nil)) (pa_cons (pe_callTy call_list_of (by rfl) T.n_list (by decide +kernel) (pa_cons (pe_fld (pv 0) rfl) pa_nil)) pa_nil)))) (pg_tup rfl (pgs_cons (pg_fld (pv 1)) (pgs_cons (pg_fld (pv 1)) (pgs_cons (pg_fld (pv 1)) pgs_nil)))))
      (pss_cons (ps_fld (pv 1) (pe_lock (pe_dc (own := [("key", 2)]) rfl sc_Completion_copy.nd (pi_keys (pe_fld (pv 0) rfl)) (blkOk_by (N := ["self", "other", "key"]) (sc := defScope s_Completion_copy) (by decide +kernel)) (fun _ _ _ _ _ => (pg_name (i := 2) sc_Completion_copy.nd rfl (Or.inl rfl))) (fun _ _ _ _ _ => pts_nil) (fun _ _ _ _ _ => (pv 2)) (fun _ _ _ _ _ => pe_no))) rfl)
      (pss_cons (ps_fld (pv 1) (pe_fld (pv 0) rfl) rfl)
      (pss_one (ps_ret (pv 1)))))))), ?_⟩
    obtain ⟨dx, R⟩ := hT.cm
    obtain ⟨vr, hro, rows⟩ := hT.ro
    obtain ⟨tl, hM⟩ := hT.let_
    have nd := hT.nd
    have n12 := R.n12
    refine ⟨_, rfl, p, CC, dx, _, _, rfl, R.at_, hC.c, hC.a1, rfl, fun q qd hq hqd hne => ?_⟩
    have s1 : Same H (upd (upd H qd (.own q)) q (.ins CC qd [])) := Ask.Same.made1 (Ask.Same.made1 (Same.refl H) hqd) (by rw [upd_ne hne.symm]; exact hq)
    refine ⟨q, qd, A.m, tl, ys, rfl, upd_same, hM.same s1, ndy, l1, n12, fun H1 B eB kB atB rkB roB leB loB stB prB waB frB ndB newB => ⟨rfl, ?_⟩⟩
    have sH1 : Same H H1 := fun b o e => kB b o (fun z => by rw [z, hq] at e; cases e) (s1 _ _ e)
    have R1 := R.same sH1
    have hro1 := sH1 _ _ hro
    try dsimp only
    refine nm_any ?_
    have hle1 := sH1 _ _ hT.le
    refine ⟨_, rfl, p, CC, dx, _, _, rfl, R1.at_, hC.c, hC.a4, rfl, A.ro, _, rfl, .inl (SqL.of hro1), fun l1 hl1 => ?_⟩
    have s2 := Ask.Same.upd_new (o := .lst vr) (Same.refl H1) hl1
    have e2 : upd H1 l1 (.lst vr) l1 = some (.lst vr) := upd_same
    generalize upd H1 l1 (.lst vr) = H2 at s2 e2 ⊢
    refine ⟨_, rfl, p, CC, dx, _, _, rfl, s2 _ _ R1.at_, hC.c, hC.a5, rfl, A.le, _, rfl, .inl (SqL.of (s2 _ _ hle1)), fun l2 hl2 => ⟨by show 2 ≤ sizeLine; omega, fun t1 ht1 => ?_⟩⟩
    have s3 := Ask.Same.upd_new (o := .lst (List.replicate ss.length (iN 1))) (Same.refl H2) hl2
    have e3 : upd H2 l2 (.lst (List.replicate ss.length (iN 1))) l2 = some (.lst (List.replicate ss.length (iN 1))) := upd_same
    generalize upd H2 l2 (.lst (List.replicate ss.length (iN 1))) = H3 at s3 e3 ht1 ⊢
    have s4 := Ask.Same.upd_new (o := .tup [.ref l1, .ref l2]) (Same.refl H3) ht1
    have e4 : upd H3 t1 (.tup [.ref l1, .ref l2]) t1 = some (.tup [.ref l1, .ref l2]) := upd_same
    generalize upd H3 t1 (.tup [.ref l1, .ref l2]) = H4 at s4 e4 ⊢
    have s14 := (s2.trans s3).trans s4
    refine ⟨t1, _, rfl, SqT.of e4, rfl, _, _, rfl, _, rfl, q, CC, qd, _, rfl, s14 _ _ atB, hC.c, hC.a4, by show 11 < 1000; decide, ?_⟩
    have k5 : ButL q H4 (upd H4 q (.ins CC qd (fsC { B with ro := l1 } ys.length 0))) := fun b o n e => by rw [upd_ne n]; exact e
    have p5 : upd H4 q (.ins CC qd (fsC { B with ro := l1 } ys.length 0)) q = some (.ins CC qd (fsC { B with ro := l1 } ys.length 0)) := upd_same
    rw [show putF "rows" (.ref l1) (fsC B ys.length 0) = fsC { B with ro := l1 } ys.length 0 from rfl]
    generalize upd H4 q (.ins CC qd (fsC { B with ro := l1 } ys.length 0)) = H5 at k5 p5 ⊢
    refine ⟨_, _, rfl, _, rfl, q, CC, qd, _, rfl, p5, hC.c, hC.a5, by show 11 < 1000; decide, rfl, ?_⟩
    rw [show putF "lengths" (.ref l2) (fsC { B with ro := l1 } ys.length 0) = fsC { B with ro := l1, le := l2 } ys.length 0 from rfl]
    have k6 : ButL q H4 (upd H5 q (.ins CC qd (fsC { B with ro := l1, le := l2 } ys.length 0))) := fun b o n e => by rw [upd_ne n]; exact k5 b o n e
    have p6 : upd H5 q (.ins CC qd (fsC { B with ro := l1, le := l2 } ys.length 0)) q = some (.ins CC qd (fsC { B with ro := l1, le := l2 } ys.length 0)) := upd_same
    generalize upd H5 q (.ins CC qd (fsC { B with ro := l1, le := l2 } ys.length 0)) = H6 at k6 p6 ⊢
    have nq : ∀ {b : Addr} {o : HO}, H b = some o → b ≠ q := fun e z => by rw [z, hq] at e; cases e
    have s6 : Same H H6 := fun b o e => k6 b o (nq e) (s14 _ _ (sH1 _ _ e))
    have q1 : ∀ {b : Addr} {xs : List V}, H1 b = some (.lst xs) → b ≠ q := fun e z => by rw [z, atB] at e; cases e
    have q2 : ∀ {b : Addr} {xs : List V}, H2 b = some (.lst xs) → b ≠ q := fun e z => by rw [z, s2 _ _ atB] at e; cases e
    have q3 : ∀ {b : Addr} {xs : List V}, H3 b = some (.lst xs) → b ≠ q := fun e z => by rw [z, s3 _ _ (s2 _ _ atB)] at e; cases e
    have e26 : H6 l1 = some (.lst vr) := k6 _ _ (q2 e2) (s4 _ _ (s3 _ _ e2))
    have e36 : H6 l2 = some (.lst (List.replicate ss.length (iN 1))) := k6 _ _ (q3 e3) (s4 _ _ e3)
    have l12 : l1 ≠ l2 := ne_at e2 hl2
    obtain ⟨v1, g1, g1'⟩ := id R.lone
    obtain ⟨v2, g2, g2'⟩ := id R.still
    obtain ⟨v3, g3, g3'⟩ := id R.pairs
    have k16 : ButL q H1 H6 := fun b o n e => k6 b o n (s14 _ _ e)
    try dsimp only
    refine ⟨_, rfl, p, CC, dx, _, _, rfl, s6 _ _ R.at_, hC.c, hC.a6, rfl, A.lo, _, rfl, .inl (SqL.of (s6 _ _ g1)), fun l3 hl3 => ?_⟩
    have s7 := Ask.Same.upd_new (o := .lst v1) (Same.refl H6) hl3
    have e7 : upd H6 l3 (.lst v1) l3 = some (.lst v1) := upd_same
    generalize upd H6 l3 (.lst v1) = H7 at s7 e7 ⊢
    refine ⟨_, rfl, p, CC, dx, _, _, rfl, s7 _ _ (s6 _ _ R.at_), hC.c, hC.a7, rfl, A.st, _, rfl, .inl (SqL.of (s7 _ _ (s6 _ _ g2))), fun l4 hl4 => ?_⟩
    have s8 := Ask.Same.upd_new (o := .lst v2) (Same.refl H7) hl4
    have e8 : upd H7 l4 (.lst v2) l4 = some (.lst v2) := upd_same
    generalize upd H7 l4 (.lst v2) = H8 at s8 e8 ⊢
    refine ⟨_, rfl, p, CC, dx, _, _, rfl, s8 _ _ (s7 _ _ (s6 _ _ R.at_)), hC.c, hC.a8, rfl, A.pr, _, rfl, .inl (SqL.of (s8 _ _ (s7 _ _ (s6 _ _ g3)))), fun l5 hl5 => ⟨by show 3 ≤ sizeLine; omega, fun t2 ht2 => ?_⟩⟩
    have s9 := Ask.Same.upd_new (o := .lst v3) (Same.refl H8) hl5
    have e9 : upd H8 l5 (.lst v3) l5 = some (.lst v3) := upd_same
    generalize upd H8 l5 (.lst v3) = H9 at s9 e9 ht2 ⊢
    have sa := Ask.Same.upd_new (o := .tup [.ref l3, .ref l4, .ref l5]) (Same.refl H9) ht2
    have ea : upd H9 t2 (.tup [.ref l3, .ref l4, .ref l5]) t2 = some (.tup [.ref l3, .ref l4, .ref l5]) := upd_same
    generalize upd H9 t2 (.tup [.ref l3, .ref l4, .ref l5]) = Ha at sa ea ⊢
    have s6a := ((s7.trans s8).trans s9).trans sa
    refine ⟨t2, _, rfl, SqT.of ea, rfl, _, _, rfl, _, rfl, q, CC, qd, _, rfl, s6a _ _ p6, hC.c, hC.a6, by show 11 < 1000; decide, ?_⟩
    rw [show putF "lone" (.ref l3) (fsC { B with ro := l1, le := l2 } ys.length 0) = fsC { B with ro := l1, le := l2, lo := l3 } ys.length 0 from rfl]
    have kb : ButL q Ha (upd Ha q (.ins CC qd (fsC { B with ro := l1, le := l2, lo := l3 } ys.length 0))) := fun b o n e => by rw [upd_ne n]; exact e
    have pb : upd Ha q (.ins CC qd (fsC { B with ro := l1, le := l2, lo := l3 } ys.length 0)) q = some (.ins CC qd (fsC { B with ro := l1, le := l2, lo := l3 } ys.length 0)) := upd_same
    generalize upd Ha q (.ins CC qd (fsC { B with ro := l1, le := l2, lo := l3 } ys.length 0)) = Hb at kb pb ⊢
    refine ⟨_, _, rfl, _, rfl, q, CC, qd, _, rfl, pb, hC.c, hC.a7, by show 11 < 1000; decide, ?_⟩
    rw [show putF "still" (.ref l4) (fsC { B with ro := l1, le := l2, lo := l3 } ys.length 0) = fsC { B with ro := l1, le := l2, lo := l3, st := l4 } ys.length 0 from rfl]
    have kc : ButL q Ha (upd Hb q (.ins CC qd (fsC { B with ro := l1, le := l2, lo := l3, st := l4 } ys.length 0))) := fun b o n e => by rw [upd_ne n]; exact kb b o n e
    have pc : upd Hb q (.ins CC qd (fsC { B with ro := l1, le := l2, lo := l3, st := l4 } ys.length 0)) q = some (.ins CC qd (fsC { B with ro := l1, le := l2, lo := l3, st := l4 } ys.length 0)) := upd_same
    generalize upd Hb q (.ins CC qd (fsC { B with ro := l1, le := l2, lo := l3, st := l4 } ys.length 0)) = Hc at kc pc ⊢
    refine ⟨_, _, rfl, _, rfl, q, CC, qd, _, rfl, pc, hC.c, hC.a8, by show 11 < 1000; decide, rfl, ?_⟩
    rw [show putF "pairs" (.ref l5) (fsC { B with ro := l1, le := l2, lo := l3, st := l4 } ys.length 0) = fsC { B with ro := l1, le := l2, lo := l3, st := l4, pr := l5 } ys.length 0 from rfl]
    have kd : ButL q Ha (upd Hc q (.ins CC qd (fsC { B with ro := l1, le := l2, lo := l3, st := l4, pr := l5 } ys.length 0))) := fun b o n e => by rw [upd_ne n]; exact kc b o n e
    have pd : upd Hc q (.ins CC qd (fsC { B with ro := l1, le := l2, lo := l3, st := l4, pr := l5 } ys.length 0)) q = some (.ins CC qd (fsC { B with ro := l1, le := l2, lo := l3, st := l4, pr := l5 } ys.length 0)) := upd_same
    generalize upd Hc q (.ins CC qd (fsC { B with ro := l1, le := l2, lo := l3, st := l4, pr := l5 } ys.length 0)) = Hd at kd pd ⊢
    have k6d : ButL q H6 Hd := fun b o n e => kd b o n (s6a _ _ e)
    have sHd : Same H Hd := fun b o e => k6d b o (nq e) (s6 _ _ e)
    try dsimp only
    refine ⟨A.wa, _, sHd _ _ hT.wa, trivial, fun od => ?_⟩
    have wp : p ≠ A.wa := fun z => by have := hT.wa; rw [← z, R.at_] at this; cases this
    refine ⟨_, rfl, p, CC, dx, _, _, rfl, by rw [upd_ne wp]; exact sHd _ _ R.at_, hC.c, hC.a9, rfl, A.wa, od, rfl, .inl ⟨[], upd_same, fun D hD => ?_⟩⟩
    refine turn_any (walk_keys (kvs := [])) (fun i H' => H' = upd (upd Hd A.wa (.frz od (.dK []))) D (.dK [])) rfl (fun i H' hi e => ?_) (fun j x H0 H' hj => absurd hj (Nat.not_lt_zero j)) ?_
    · have : A.wa ≠ D := ne_at upd_same hD
      rw [e, upd_ne this, upd_same]
    rintro He rfl
    have wD : A.wa ≠ D := ne_at upd_same hD
    have hDd : Hd D = none := by rw [upd_ne wD.symm] at hD; exact hD
    refine ⟨by rw [upd_ne wD, upd_same], ?_⟩
    have se : Same Hd (upd (upd (upd Hd A.wa (.frz od (.dK []))) D (.dK [])) A.wa (.dK [])) := fun b o e => by
      by_cases c : b = A.wa
      · rw [c, upd_same, ← sHd _ _ hT.wa, ← c, e]
      · rw [upd_ne c, upd_ne (ne_at e hDd), upd_ne c]; exact e
    have ee : upd (upd (upd Hd A.wa (.frz od (.dK []))) D (.dK [])) A.wa (.dK []) D = some (.dK []) := by rw [upd_ne wD.symm, upd_same]
    generalize upd (upd (upd Hd A.wa (.frz od (.dK []))) D (.dK [])) A.wa (.dK []) = He at se ee ⊢
    refine ⟨_, rfl, q, CC, qd, _, rfl, se _ _ pd, hC.c, hC.a9, by show 11 < 1000; decide, ?_⟩
    rw [show putF "waiting" (.ref D) (fsC { B with ro := l1, le := l2, lo := l3, st := l4, pr := l5 } ys.length 0) = fsC { B with ro := l1, le := l2, lo := l3, st := l4, pr := l5, wa := D } ys.length 0 from rfl]
    have kf : ButL q He (upd He q (.ins CC qd (fsC { B with ro := l1, le := l2, lo := l3, st := l4, pr := l5, wa := D } ys.length 0))) := fun b o n e => by rw [upd_ne n]; exact e
    have pf : upd He q (.ins CC qd (fsC { B with ro := l1, le := l2, lo := l3, st := l4, pr := l5, wa := D } ys.length 0)) q = some (.ins CC qd (fsC { B with ro := l1, le := l2, lo := l3, st := l4, pr := l5, wa := D } ys.length 0)) := upd_same
    generalize upd He q (.ins CC qd (fsC { B with ro := l1, le := l2, lo := l3, st := l4, pr := l5, wa := D } ys.length 0)) = Hf at kf pf ⊢
    have sHf : Same H Hf := fun b o e => kf b o (nq e) (se _ _ (sHd _ _ e))
    try dsimp only
    refine ⟨_, rfl, p, CC, dx, _, _, rfl, sHf _ _ R.at_, hC.c, hC.ab, rfl, _, rfl, q, CC, qd, _, rfl, pf, hC.c, hC.ab, by show 11 < 1000; decide, ?_⟩
    rw [show putF "offered" (iN 0) (fsC { B with ro := l1, le := l2, lo := l3, st := l4, pr := l5, wa := D } ys.length 0) = fsC { B with ro := l1, le := l2, lo := l3, st := l4, pr := l5, wa := D } ys.length 0 from rfl]
    have kg : ButL q He (upd Hf q (.ins CC qd (fsC { B with ro := l1, le := l2, lo := l3, st := l4, pr := l5, wa := D } ys.length 0))) := fun b o n e => by rw [upd_ne n]; exact kf b o n e
    have pg : upd Hf q (.ins CC qd (fsC { B with ro := l1, le := l2, lo := l3, st := l4, pr := l5, wa := D } ys.length 0)) q = some (.ins CC qd (fsC { B with ro := l1, le := l2, lo := l3, st := l4, pr := l5, wa := D } ys.length 0)) := upd_same
    generalize upd Hf q (.ins CC qd (fsC { B with ro := l1, le := l2, lo := l3, st := l4, pr := l5, wa := D } ys.length 0)) = Hg at kg pg ⊢
    have k1g : ButL q H1 Hg := fun b o n e => kg b o n (se _ _ (k6d b o n (k16 b o n e)))
    have k6g : ButL q H6 Hg := fun b o n e => kg b o n (se _ _ (k6d b o n e))
    have sHg : Same H Hg := fun b o e => k1g b o (nq e) (sH1 _ _ e)
    have kag : ButL q Ha Hg := fun b o n e => kg b o n (se _ _ (kd b o n e))
    have q1' : ∀ {b : Addr} {o : HO}, H1 b = some o → (∀ C dx fs, o ≠ .ins C dx fs) → b ≠ q := fun e n z => by rw [z, atB] at e; exact n _ _ _ (Option.some.inj e).symm
    have q6 : ∀ {b : Addr} {xs : List V}, H6 b = some (.lst xs) → b ≠ q := fun e z => by rw [z, p6] at e; cases e
    have q7 : ∀ {b : Addr} {xs : List V}, H7 b = some (.lst xs) → b ≠ q := fun e z => by rw [z, s7 _ _ p6] at e; cases e
    have q8 : ∀ {b : Addr} {xs : List V}, H8 b = some (.lst xs) → b ≠ q := fun e z => by rw [z, s8 _ _ (s7 _ _ p6)] at e; cases e
    have q9 : ∀ {b : Addr} {xs : List V}, H9 b = some (.lst xs) → b ≠ q := fun e z => by rw [z, s9 _ _ (s8 _ _ (s7 _ _ p6))] at e; cases e
    have nqrk : B.rk ≠ q := q1' rkB (fun _ _ _ z => nomatch z)
    have nqfr : B.fr ≠ q := q1' frB (fun _ _ _ z => nomatch z)
    have nql1 : l1 ≠ q := q2 e2
    have nql2 : l2 ≠ q := q6 e36
    have nql3 : l3 ≠ q := q7 e7
    have nql4 : l4 ≠ q := q8 e8
    have nql5 : l5 ≠ q := q9 e9
    have k26 : ButL q H2 H6 := fun b o n e => k6 b o n (s4 _ _ (s3 _ _ e))
    have k8d : ButL q H8 Hd := fun b o n e => kd b o n (sa _ _ (s9 _ _ e))
    have e9d : Hd l5 = some (.lst v3) := kd _ _ nql5 (sa _ _ e9)
    have hl2' : H2 l2 = none := hl2
    have Dq : D ≠ q := fun z => by rw [z, pd] at hDd; cases hDd
    refine ⟨_, rfl, kq Hg q { B with ro := l1, le := l2, lo := l3, st := l4, pr := l5, wa := D } sHg (fun c hc => ?_) eB ⟨⟨qd, pg, ⟨v1, kag _ _ nql3 (sa _ _ (s9 _ _ (s8 _ _ e7))), g1'.1, fun i v o a b => (g1'.2 i v o a b).same sHg⟩, ⟨v2, kag _ _ nql4 (sa _ _ (s9 _ _ e8)), g2'.1, fun i v o a b => (g2'.2 i v o a b).same sHg⟩, ⟨v3, kag _ _ nql5 (sa _ _ e9), g3'.1, fun i v o a b => (g3'.2 i v o a b).same sHg⟩, R.l1, R.l2, R.l3, R.n12⟩, ⟨tl, by show Mde CL Hg B.m tl ys; rw [eB]; exact hM.same sHg⟩, k1g _ _ nqrk rkB, ⟨vr, k6g _ _ nql1 e26, rows.keep fun a xs e => sHg _ _ e⟩, k6g _ _ nql2 e36, kg _ _ Dq ee, k1g _ _ nqfr frB, fun c hc => (hT.sen c hc).same sHg, ?_⟩⟩
    · simp only [CmA.own, List.mem_cons, List.not_mem_nil, or_false] at hc
      rcases hc with rfl | rfl | rfl | rfl | rfl | rfl
      · exact hq
      · exact free_of sH1 hl1
      · exact free_of (sH1.trans s2) hl2
      · exact free_of s6 hl3
      · exact free_of (s6.trans s7) hl4
      · exact free_of ((s6.trans s7).trans s8) hl5
    · simp only [List.nodup_cons, List.mem_cons, List.not_mem_nil, or_false, not_or, not_false_eq_true, List.nodup_nil, and_true]
      exact ⟨⟨(ne_at rkB hl1), (ne_at (s2 _ _ rkB) hl2'), (ne_at (k26 _ _ nqrk (s2 _ _ rkB)) hl3), (ne_at (s7 _ _ (k26 _ _ nqrk (s2 _ _ rkB))) hl4), (ne_at (s8 _ _ (s7 _ _ (k26 _ _ nqrk (s2 _ _ rkB)))) hl5), (ne_at (k8d _ _ nqrk (s8 _ _ (s7 _ _ (k26 _ _ nqrk (s2 _ _ rkB))))) hDd), (nd_ne ndB (i := 0) (j := 7) rfl rfl (by decide))⟩, ⟨(ne_at e2 hl2'), (ne_at (k26 _ _ nql1 e2) hl3), (ne_at (s7 _ _ (k26 _ _ nql1 e2)) hl4), (ne_at (s8 _ _ (s7 _ _ (k26 _ _ nql1 e2))) hl5), (ne_at (k8d _ _ nql1 (s8 _ _ (s7 _ _ (k26 _ _ nql1 e2)))) hDd), (ne_at frB hl1).symm⟩, ⟨(ne_at e36 hl3), (ne_at (s7 _ _ e36) hl4), (ne_at (s8 _ _ (s7 _ _ e36)) hl5), (ne_at (k8d _ _ nql2 (s8 _ _ (s7 _ _ e36))) hDd), (ne_at (s2 _ _ frB) hl2').symm⟩, ⟨(ne_at e7 hl4), (ne_at (s8 _ _ e7) hl5), (ne_at (k8d _ _ nql3 (s8 _ _ e7)) hDd), (ne_at (k26 _ _ nqfr (s2 _ _ frB)) hl3).symm⟩, ⟨(ne_at e8 hl5), (ne_at (k8d _ _ nql4 e8) hDd), (ne_at (s7 _ _ (k26 _ _ nqfr (s2 _ _ frB))) hl4).symm⟩, ⟨(ne_at e9d hDd), (ne_at (s8 _ _ (s7 _ _ (k26 _ _ nqfr (s2 _ _ frB)))) hl5).symm⟩, (ne_at (k8d _ _ nqfr (s8 _ _ (s7 _ _ (k26 _ _ nqfr (s2 _ _ frB))))) hDd).symm⟩
end
end Ask

/-! told sentences are taken in one by one -/
namespace Ask
open PySem L2
/-- a loop over a list or a tuple -/
theorem for_or {K : PySem.W.Frag} {tl : TE} {g : TG} {tb u : TS} {D : Ends} {σ : L2.St} {H H0 : Hp} {a : Addr} {xs : List V} (hv : ∀ Q : VK, Q (.ref a) H → tl σ H Q) (hq : SqL K H0 a xs ∨ SqT K H0 a xs) (Pv : Nat → L2.St → Hp → Prop) (h0 : Pv 0 σ H)
    (kl : ∀ i σ' H', i ≤ xs.length → Pv i σ' H' → (SqL K H0 a xs → SqL K H' a xs) ∧ (SqT K H0 a xs → SqT K H' a xs))
    (hs : ∀ i x σ' H', i < xs.length → xs[i]? = some x → Pv i σ' H' → g x σ' H' fun σ2 H2 => tb { D with nx := Pv (i + 1), ct := Pv (i + 1), bk := u D } σ2 H2) (hd : ∀ σ' H', Pv xs.length σ' H' → u D σ' H') :
    tSeq (tFor (fun σ H R => iList K tl σ H R ∨ iTup K tl σ H R) g tb) u D σ H := by
  rcases hq with hq | hq
  · refine for_any (fun Rr hR => .inl (hv _ ⟨a, rfl, ⟨_, (kl 0 _ _ (Nat.zero_le _) h0).1 hq⟩, hR⟩)) (walk_list (xs := xs)) Pv h0 (fun i σ' H' hi p => (kl i σ' H' hi p).1 hq) (fun i x σ' H1 H1' hi p y => ?_) hd
    obtain ⟨rfl, e⟩ := y
    exact hs i x σ' _ hi e p
  · refine for_any (fun Rr hR => .inr (hv _ ⟨a, rfl, ⟨_, (kl 0 _ _ (Nat.zero_le _) h0).2 hq⟩, hR⟩)) (walk_tup (xs := xs)) Pv h0 (fun i σ' H' hi p => (kl i σ' H' hi p).2 hq) (fun i x σ' H1 H1' hi p y => ?_) hd
    obtain ⟨rfl, e⟩ := y
    exact hs i x σ' _ hi e p
/-- what one may tell -/
structure TellOk (ys : List Str) (k x : Str) (s : V) : Prop where
  hk : k ∈ KL
  hx : x ∈ ys
  hs : SOk ys k s
  nf : k = "alike" → ∃ y, s = .str y ∧ ys.idxOf y < ys.idxOf x
section
variable {P : Program} {w : World} {K : PySem.W.Frag} {mg : Str → Option Value} {base : Heap}
def spToldB (K : PySem.W.Frag) (CL CS CC : Addr) : Sp := fun vs H Q _ => ∃ (p a : Addr) (A : CmA) (ys : List Str) (k x : Str) (s : V) (ss : List Addr), vs = [.ref p, .ref a] ∧ CmT K CL CS CC H p A ys k x s [] ∧ ys.Nodup ∧ 1 ≤ ys.length ∧ TellOk ys k x s ∧ (SqL K H a (ss.map V.ref) ∨ SqT K H a (ss.map V.ref)) ∧ (∀ q ∈ ss, SenAt K CL CS H q ys k x s) ∧ ss.length ≤ 900 ∧
  ∀ (H' : Hp) (q : Addr) (B : CmA), Same H H' → (∀ c ∈ B.own q, H c = none) → B.m = A.m → CmT K CL CS CC H' q B ys k x s ss → Q (.ref q) H'

abbrev s_told_behind : Stmt := top 64
theorem sc_told_behind : FnScope ["begun", "told", "work", "sentence"] ["begun", "told"] (defScope s_told_behind) := ⟨rfl, rfl, rfl, by decide +kernel, rfl, by decide +kernel, by decide +kernel⟩
theorem ok_toldB {f CL CS CC fC fT : Addr} {fd fdC fdT : FuncData} (F : Fun K "told_behind" "told_behind" s_told_behind f fd) (T : Blt mg) (hC : CmC K CC)
    (GC : FnOk P w K mg base CX0 3 fC fdC ["self"] (spCopyC K CL CS CC)) (bC : Binds K fdC ["self"] []) (mC : Meth K CC "copy" fC)
    (GT : FnOk P w K mg base CX0 5 fT fdT ["self", "sentence"] (spTake K CL CS CC)) (bT : Binds K fdT ["self", "sentence"] []) (mT : Meth K CC "take" fT) : FnOk P w K mg base CX0 6 f fd ["begun", "told"] (spToldB K CL CS CC) := by
  refine F.ok sc_told_behind (fun vs H Q E h => ?_) (fun cdv A0 outer s H vs Q E hr h => ?_)
  · obtain ⟨p, a, A, ys, k, x, s, ss, rfl, _⟩ := h
    rfl
  · obtain ⟨p, a, A, ys, k, x, sv, ss, rfl, hT, ndy, l1, tk, ha, hss, l9, kq⟩ := h
    have h_copy := hr.mono (j := 3) (by decide)
    have h_take := hr.mono (j := 5) (by decide)
    refine ⟨_, (pss_cons (ps_set (i := 2) sc_told_behind.nd rfl (Or.inl rfl) (pe_meth0 (pv 0) hC.c mC GC h_copy bC .nil pass0))
      (pss_cons (ps_for PassesOwn.never rfl (pi_or (pi_list (pv 1)) (pi_tup (pv 1))) (pg_name (i := 3) sc_told_behind.nd rfl (Or.inl rfl)) (pss_one (ps_expr (pe_meth (pv 2) hC.c mT GT h_take bT .nil pass0 (pa_cons (pv 3) pa_nil)))))
      (pss_one (ps_ret (pv 2))))), ?_⟩
    obtain ⟨dx, R⟩ := hT.cm
    refine ⟨_, rfl, p, dx, _, rfl, R.at_, rfl, p, A, ys, k, x, sv, [], rfl, hT, ndy, l1, Nat.zero_le _, fun H1 q B s1 own eB T1 => ?_⟩
    try dsimp only
    refine nm_any ?_
    refine for_or (fun Q h => ⟨_, rfl, h⟩) ha (fun i σ' H' => ∃ (o3 : Option V) (B' : CmA), σ' = [some (.ref p), some (.ref a), some (.ref q), o3] ∧ Same H H' ∧ B'.own q = B.own q ∧ B'.m = B.m ∧ CmT K CL CS CC H' q B' ys k x sv (ss.take i)) ?_ ?_ ?_ ?_
    · exact ⟨_, B, rfl, s1, rfl, rfl, by rw [List.take_zero]; exact T1⟩
    · rintro i σ' H' hi ⟨o3, B', rfl, s', _⟩
      exact ⟨fun z => Same.seq s' z, fun z => seqT_same s' z⟩
    · rintro i v σ' H' hi ev ⟨o3, B', rfl, s', eo, em, T'⟩
      rw [List.length_map] at hi
      obtain ⟨y, hy⟩ : ∃ y, ss[i]? = some y := ⟨_, List.getElem?_eq_getElem hi⟩
      rw [List.getElem?_map, hy] at ev
      cases ev
      obtain ⟨d', R'⟩ := T'.cm
      try dsimp only
      refine nm_any ?_
      refine ⟨_, rfl, q, d', _, rfl, R'.at_, rfl, _, rfl, q, y, B', ys, k, x, sv, ss.take i, rfl, T', (hss y (List.mem_of_getElem? hy)).same s', tk.hk, tk.hx, tk.hs, tk.nf, by rw [List.length_take]; omega, fun H2 fr kp T2 => ⟨some (.ref y), { B' with fr := fr }, rfl, ?_, eo, em, ?_⟩⟩
      · intro b o e
        refine kp b o (fun z => ?_) (s' _ _ e)
        have hn := own b (by rw [← eo]; exact z)
        rw [hn] at e
        cases e
      · rw [List.take_add_one, hy]
        exact T2
    · rintro σ' H' ⟨o3, B', rfl, s', eo, em, T'⟩
      rw [List.length_map, List.take_length] at T'
      exact ⟨_, rfl, kq H' q B' s' (fun c hc => own c (by rw [← eo]; exact hc)) (em.trans eB) T'⟩
end
end Ask

/-! a completion with nothing that waits is complete; a closing is made of it -/
namespace Ask
open PySem L2
/-- the attributes that a closing is given -/
structure ClC (K : PySem.W.Frag) (C : Addr) : Prop where
  c : Cls K C
  a1 : NoAttr K C "letters"
  a2 : NoAttr K C "told"
  a3 : NoAttr K C "rows"
  a4 : NoAttr K C "lengths"
  a5 : NoAttr K C "live"
  a6 : NoAttr K C "_begun"
  a7 : NoAttr K C "_work"
def liveW (ys : List Str) (S : CmS) : List Str := ys.filter fun y => (S.lo (ys.idxOf y)).isNone
def SNs (ys : List Str) (k x : Str) (s : V) (m : Nat) : CmS := SN ys.length (bgR k) (eqL ys k x s).1 (eqL ys k x s).2 m
def liveW' (zs ys : List Str) (S : CmS) : List Str := zs.filter fun y => (S.lo (ys.idxOf y)).isNone
/-- a closing of the sentences at ss, all the same -/
def ClsAt (K : PySem.W.Frag) (CL CS CC CG : Addr) (H : Hp) (g : Addr) (ys : List Str) (k x : Str) (s : V) (ss : List Addr) : Prop := ∃ (dg p tw tr tl tv : Addr) (A : CmA) (vr : List V), H g = some (.ins CG dg [("letters", .ref A.m), ("told", .ref tw), ("rows", .ref tr), ("lengths", .ref tl), ("live", .ref tv), ("_begun", .ref p), ("_work", .ref p)]) ∧
  H tw = some (.tup (ss.map V.ref)) ∧ H tr = some (.tup vr) ∧ RowsAt H vr ss ∧ H tv = some (.tup ((liveW ys (SNs ys k x s ss.length)).map V.str)) ∧ CmT K CL CS CC H p A ys k x s ss
/-- the same, its completion named -/
def ClsP (K : PySem.W.Frag) (CL CS CC CG : Addr) (H : Hp) (g : Addr) (ys : List Str) (k x : Str) (s : V) (ss : List Addr) (p : Addr) (A : CmA) : Prop := ∃ (dg tw tr tl tv : Addr) (vr : List V), H g = some (.ins CG dg [("letters", .ref A.m), ("told", .ref tw), ("rows", .ref tr), ("lengths", .ref tl), ("live", .ref tv), ("_begun", .ref p), ("_work", .ref p)]) ∧
  H tw = some (.tup (ss.map V.ref)) ∧ H tr = some (.tup vr) ∧ RowsAt H vr ss ∧ H tv = some (.tup ((liveW ys (SNs ys k x s ss.length)).map V.str)) ∧ CmT K CL CS CC H p A ys k x s ss
theorem ClsP.at {K : PySem.W.Frag} {CL CS CC CG : Addr} {H : Hp} {g p : Addr} {A : CmA} {ys : List Str} {k x : Str} {s : V} {ss : List Addr} (h : ClsP K CL CS CC CG H g ys k x s ss p A) : ClsAt K CL CS CC CG H g ys k x s ss := by
  obtain ⟨dg, tw, tr, tl, tv, vr, h⟩ := h
  exact ⟨dg, p, tw, tr, tl, tv, A, vr, h⟩
/-- a list that is none of its own is cleared -/
theorem ClsP.clear {K : PySem.W.Frag} {CL CS CC CG : Addr} {H : Hp} {g p L : Addr} {A : CmA} {ys : List Str} {k x : Str} {s : V} {ss : List Addr} {xs : List V} (h : ClsP K CL CS CC CG H g ys k x s ss p A) (e : H L = some (.lst xs)) (ne : xs ≠ []) (n : L ∉ A.own p) : ClsP K CL CS CC CG (upd H L (.lst [])) g ys k x s ss p A := by
  obtain ⟨dg, tw, tr, tl, tv, vr, h1, h2, h3, h4, h5, h6⟩ := h
  have off : ∀ {b : Addr} {o : HO}, H b = some o → (∀ zs, o ≠ .lst zs) → upd H L (.lst []) b = some o := fun q w => by rw [upd_ne (fun z => by rw [z, e] at q; exact w _ (Option.some.inj q).symm)]; exact q
  have own : ∀ {b : Addr} {o : HO}, b ∈ A.own p → H b = some o → upd H L (.lst []) b = some o := fun {b o} m q => by rw [upd_ne (fun z : b = L => n (by rw [← z]; exact m))]; exact q
  have tup : ∀ a zs, H a = some (.tup zs) → upd H L (.lst []) a = some (.tup zs) := fun a zs q => off q (fun _ z => nomatch z)
  obtain ⟨dx, R⟩ := h6.cm
  obtain ⟨t, dm, o, hm, ht, ho⟩ := h6.let_
  obtain ⟨vr', er, rw_⟩ := h6.ro
  refine ⟨dg, tw, tr, tl, tv, vr, off h1 (fun _ z => nomatch z), tup _ _ h2, tup _ _ h3, h4.keep tup, tup _ _ h5, ⟨dx, R.move rfl rfl rfl (off R.at_ (fun _ z => nomatch z)) (fun a zs c q => own ?_ q) tup⟩, ⟨t, dm, o, off hm (fun _ z => nomatch z), off ht (fun _ z => nomatch z), ho⟩, off h6.rk (fun _ z => nomatch z), ⟨vr', own (by simp [CmA.own]) er, rw_.keep tup⟩, own (by simp [CmA.own]) h6.le, off h6.wa (fun _ z => nomatch z), ?_, fun q hq => ?_, h6.nd⟩
  · rcases c with rfl | rfl | rfl <;> simp [CmA.own]
  · rw [upd_ne (fun z => by have q := h6.fr; rw [z, e] at q; injection q with q; injection q with q; exact ne q)]
    exact h6.fr
  · obtain ⟨d1, m1, t1, e1, d2, o2, e2, e3, e4⟩ := h6.sen q hq
    exact ⟨d1, m1, t1, off e1 (fun _ z => nomatch z), d2, o2, off e2 (fun _ z => nomatch z), off e3 (fun _ z => nomatch z), e4⟩
theorem CmT.mono {K : PySem.W.Frag} {CL CS CC : Addr} {H H' : Hp} {p : Addr} {A : CmA} {ys : List Str} {k x : Str} {s : V} {ss : List Addr} (h : CmT K CL CS CC H p A ys k x s ss) (kp : ∀ b o, (∀ C dx, o ≠ .ins C dx []) → H b = some o → H' b = some o) : CmT K CL CS CC H' p A ys k x s ss := by
  obtain ⟨dx, R⟩ := h.cm
  obtain ⟨t, dm, o, hm, ht, ho⟩ := h.let_
  obtain ⟨vr, e, rw_⟩ := h.ro
  have at_ := kp _ _ (fun _ _ z => by unfold fsC at z; cases z) R.at_
  refine ⟨⟨dx, R.move rfl rfl rfl at_ (fun a xs _ e => kp _ _ (fun _ _ z => nomatch z) e) (fun b xs e => kp _ _ (fun _ _ z => nomatch z) e)⟩, ⟨t, dm, o, kp _ _ (fun _ _ z => nomatch z) hm, kp _ _ (fun _ _ z => nomatch z) ht, ho⟩, kp _ _ (fun _ _ z => nomatch z) h.rk, ⟨vr, kp _ _ (fun _ _ z => nomatch z) e, rw_.keep fun a xs e => kp _ _ (fun _ _ z => nomatch z) e⟩, kp _ _ (fun _ _ z => nomatch z) h.le, kp _ _ (fun _ _ z => nomatch z) h.wa, kp _ _ (fun _ _ z => nomatch z) h.fr, fun q hq => ?_, h.nd⟩
  obtain ⟨d1, m1, t1, e1, d2, o2, e2, e3, e4⟩ := h.sen q hq
  exact ⟨d1, m1, t1, kp _ _ (fun _ _ z => nomatch z) e1, d2, o2, kp _ _ (fun _ _ z => nomatch z) e2, kp _ _ (fun _ _ z => nomatch z) e3, e4⟩
section
variable {P : Program} {w : World} {K : PySem.W.Frag} {mg : Str → Option Value} {base : Heap}
def spCompl (K : PySem.W.Frag) (CL CS CC : Addr) : Sp := fun vs H Q _ => ∃ (p : Addr) (A : CmA) (ys : List Str) (k x : Str) (s : V) (ss : List Addr), vs = [.ref p] ∧ CmT K CL CS CC H p A ys k x s ss ∧ Q (.ref p) H

abbrev s_completed : Stmt := top 59
theorem sc_completed : FnScope ["begun", "work", "queue", "_", "number", "equation", "steps", "later", "key"] ["begun"] (defScope s_completed) := ⟨rfl, rfl, rfl, by decide +kernel, rfl, by decide +kernel, by decide +kernel⟩
theorem ok_compl {f CL CS CC : Addr} {fd : FuncData} (F : Fun K "completed" "completed" s_completed f fd) (T : Blt mg) (hC : CmC K CC) : FnOk P w K mg base CX0 1 f fd ["begun"] (spCompl K CL CS CC) := by
  refine F.ok sc_completed (fun vs H Q E h => ?_) (fun cdv A0 outer s H vs Q E hr h => ?_)
  · obtain ⟨p, A, ys, k, x, s, ss, rfl, _⟩ := h
    rfl
  · obtain ⟨p, A, ys, k, x, s, ss, rfl, hT, kq⟩ := h
    refine ⟨_, (pss_cons (ps_if (pt_not (pt_truth (pe_fld (pv 0) rfl) (by intro _; rfl))) (pss_one (ps_ret (pv 0))) pss_nil)
      pss_no), ?_⟩
    obtain ⟨dx, R⟩ := hT.cm
    refine ⟨_, rfl, p, CC, dx, _, _, rfl, R.at_, hC.c, hC.a9, rfl, false, .inr (.inr ⟨[], hT.wa, rfl⟩), iteT ⟨_, rfl, kq⟩⟩
def spFew : Sp := fun vs H Q _ => ∃ (n : Nat), vs = [iN n] ∧ n ≤ 60 ∧ Q .non H

abbrev s_require_few : Stmt := top 63
theorem sc_require_few : FnScope ["many"] ["many"] (defScope s_require_few) := ⟨rfl, rfl, rfl, by decide +kernel, rfl, by decide +kernel, by decide +kernel⟩
theorem ok_few {f : Addr} {fd : FuncData} (F : Fun K "require_few" "require_few" s_require_few f fd) (mM : ∃ u, mg "MOST_SENTENCES" = some u ∧ RelV (.int 60) u) : FnOk P w K mg base CX0 1 f fd ["many"] spFew := by
  refine F.ok sc_require_few (fun vs H Q E h => ?_) (fun cdv A0 outer s H vs Q E hr h => ?_)
  · obtain ⟨n, rfl, _⟩ := h
    rfl
  · obtain ⟨n, rfl, l, kq⟩ := h
    refine ⟨_, (pss_one (ps_if (pt_cmpR op_gt (pv 0) (pe_gv (v := .int 60) rfl mM) (nomark _)) pss_no pss_nil)), ?_⟩
    refine ⟨_, rfl, _, _, rfl, rfl, _, rfl, ?_⟩
    rw [decide_eq_false (show ¬ (60 : Int) < (n : Int) by omega)]
    exact iteF kq
def spClI (K : PySem.W.Frag) (CL CS CC CG : Addr) : Sp := fun vs H Q _ => ∃ (g dg p : Addr) (A : CmA) (ys : List Str) (k x : Str) (s : V) (ss : List Addr), vs = [.ref g, .ref p] ∧ H g = some (.ins CG dg []) ∧ CmT K CL CS CC H p A ys k x s ss ∧ ss.length ≤ 900 ∧
  ∀ H', ButL g H H' → ClsP K CL CS CC CG H' g ys k x s ss p A → Q .non H'

abbrev s_Closing___init__ : Stmt := inClass (top 65) 0
theorem sc_Closing___init__ : FnScope ["self", "begun", "work", "sentence", "steps", "letter"] ["self", "begun"] (defScope s_Closing___init__) := ⟨rfl, rfl, rfl, by decide +kernel, rfl, by decide +kernel, by decide +kernel⟩
theorem ok_clI {f CL CS CC CG fC : Addr} {fd fdC : FuncData} (F : Fun K "__init__" "Closing.__init__" s_Closing___init__ f fd) (T : Blt mg) (hC : CmC K CC) (hG : ClC K CG) (hL0 : Cls K CL) (nW : NoAttr K CL "words")
    (G_completed : FnOk P w K mg base CX0 1 fC fdC ["begun"] (spCompl K CL CS CC)) (A_completed : At K mg "completed" fC fdC ["begun"]) : FnOk P w K mg base CX0 2 f fd ["self", "begun"] (spClI K CL CS CC CG) := by
  refine F.ok sc_Closing___init__ (fun vs H Q E h => ?_) (fun cdv A0 outer s H vs Q E hr h => ?_)
  · obtain ⟨g, dg, p, A, ys, k, x, s, ss, rfl, _⟩ := h
    rfl
  · obtain ⟨g, dg, p, A, ys, k, x, sv, ss, rfl, hg, hT, l9, kq⟩ := h
    have h_completed := hr.mono (j := 1) (by decide)
    have z1 : (100000 : Nat) ≤ sizeLine := by decide
    have hu := hu_of hr
    refine ⟨_, (pss_cons (ps_set (i := 2) sc_Closing___init__.nd rfl (Or.inr rfl) (pe_call G_completed (by exact h_completed) (by rfl) A_completed.m A_completed.k A_completed.b .nil pass0 (pa_cons (pv 1) pa_nil)))
      (pss_cons (ps_fld (pv 0) (pe_fld (pv 2) rfl) rfl)
      (pss_cons (ps_fld (pv 0) (pe_callTy call_tuple_of (by rfl) T.n_tuple (by decide +kernel) (pa_cons (pe_lc (own := [("sentence", 3), ("steps", 4)]) rfl sc_Closing___init__.nd (pi_list (pe_fld (pv 1) rfl)) (blkOk_by (N := ["self", "begun", "work", "sentence", "steps", "letter"]) (sc := defScope s_Closing___init__) (by decide +kernel)) (fun _ _ _ _ _ => (show PG _ _ (gTup K 2 _) from (pg_tup rfl (pgs_cons (pg_name (i := 3) sc_Closing___init__.nd rfl (Or.inl rfl)) (pgs_cons (pg_name (i := 4) sc_Closing___init__.nd rfl (Or.inl rfl)) pgs_nil))))) (fun _ _ _ _ _ => pts_nil) (fun _ _ _ _ _ => (pv 3))) pa_nil)) rfl)
      (pss_cons (ps_fld (pv 0) (pe_callTy call_tuple_of (by rfl) T.n_tuple (by decide +kernel) (pa_cons (pe_fld (pv 2) rfl) pa_nil)) rfl)
      (pss_cons (ps_fld (pv 0) (pe_callTy call_tuple_of (by rfl) T.n_tuple (by decide +kernel) (pa_cons (pe_fld (pv 2) rfl) pa_nil)) rfl)
      (pss_cons (ps_fld (pv 0) (pe_callTy call_tuple_of (by rfl) T.n_tuple (by decide +kernel) (pa_cons (pe_lc (own := [("letter", 5)]) rfl sc_Closing___init__.nd (pi_tup (pe_fld (pe_fld (pv 2) rfl) rfl)) (blkOk_by (N := ["self", "begun", "work", "sentence", "steps", "letter"]) (sc := defScope s_Closing___init__) (by decide +kernel)) (fun _ _ _ _ _ => (pg_name (i := 5) sc_Closing___init__.nd rfl (Or.inl rfl))) (fun _ _ _ _ _ => pts_one (pt_cmpR op_isN (pe_ix (show IxR _ (rIxL K) from ix_list) (show PE _ _ (tFld K _ "lone") from pe_fld (pv 2) rfl) (pe_dget hu (show PE _ _ (tFld K _ "ranks") from pe_fld (pv 2) rfl) (pv 5) (fun _ _ => rfl)) (fun _ _ => rfl)) pe_non (nomark _))) (fun _ _ _ _ _ => (pv 5))) pa_nil)) rfl)
      (pss_cons (ps_fld (pv 0) (pv 1) rfl)
      (pss_one (ps_fld (pv 0) (pv 2) rfl))))))))), ?_⟩
    obtain ⟨dx, R⟩ := id hT.cm
    obtain ⟨tm, dm, om, hm, ht, ho⟩ := id hT.let_
    obtain ⟨vr, hro, rows⟩ := id hT.ro
    have kp : ∀ {H' : Hp}, ButL g H H' → ∀ b o, (∀ C dx, o ≠ .ins C dx []) → H b = some o → H' b = some o := fun bu b o n e => bu b o (fun z => by rw [z, hg] at e; exact n _ _ (Option.some.inj e).symm) e
    refine ⟨_, rfl, p, A, ys, k, x, sv, ss, rfl, hT, ?_⟩
    try dsimp only
    refine nm_any ?_
    refine ⟨_, rfl, p, CC, dx, _, _, rfl, R.at_, hC.c, hC.a1, rfl, _, rfl, g, CG, dg, _, rfl, hg, hG.c, hG.a1, by show 0 < 1000; decide, ?_⟩
    have b1 : ButL g H (upd H g (.ins CG dg (putF "letters" (.ref A.m) []))) := fun b o n e => by rw [upd_ne n]; exact e
    have g1 : upd H g (.ins CG dg (putF "letters" (.ref A.m) [])) g = some (.ins CG dg [("letters", .ref A.m)]) := upd_same
    generalize upd H g (.ins CG dg (putF "letters" (.ref A.m) [])) = H1 at b1 g1 ⊢
    have T1 := hT.mono (kp b1)
    obtain ⟨dx1, R1⟩ := id T1.cm
    have hro1 : H1 A.ro = some (.lst vr) := kp b1 _ _ (fun _ _ z => nomatch z) hro
    have rows1 : RowsAt H1 vr ss := rows.keep fun a xs e => kp b1 _ _ (fun _ _ z => nomatch z) e
    try dsimp only
    refine ⟨_, rfl, p, CC, dx1, _, _, rfl, R1.at_, hC.c, hC.a4, rfl, A.ro, rfl, ⟨_, SqL.of hro1⟩, fun L hL => ?_⟩
    refine lc_it (walk_list (xs := vr)) (fun i H' => H' L = some (.lst ((ss.take i).map V.ref)) ∧ Same H1 H') ⟨by rw [upd_same, List.take_zero]; rfl, Ask.Same.upd_new (Same.refl _) hL⟩ (fun _ H' _ ⟨_, s'⟩ => SqL.of (s' _ _ hro1)) ?_ ?_
    · rintro i v HB' HB hi ⟨p1, p2⟩ ⟨rfl, hv⟩
      obtain ⟨q, hq⟩ : ∃ q, ss[i]? = some q := ⟨_, List.getElem?_eq_getElem (by rw [← rows.1]; exact hi)⟩
      obtain ⟨t, e, f1, f2, f3⟩ := rows1.2 i q hq
      rw [f1] at hv
      cases hv
      refine ⟨t, _, rfl, SqT.of (p2 _ _ f2), rfl, _, _, rfl, _, _, rfl, rfl, rfl, _, rfl, _, p1, by rw [List.length_map, List.length_take]; omega, ?_, Ask.Same.upd_new p2 hL⟩
      rw [upd_same, List.take_add_one, hq, List.map_append]
      rfl
    rintro H2 ⟨pL, s2⟩
    rw [rows.1, List.take_length] at pL
    have b2 : ButL g H H2 := fun b o n e => s2 _ _ (b1 b o n e)
    refine ⟨L, _, rfl, .inl ⟨SqL.of pL, fun tw htw => ?_⟩⟩
    have s3 := Ask.Same.upd_new (o := .tup (ss.map V.ref)) (Same.refl H2) htw
    have e3 : upd H2 tw (.tup (ss.map V.ref)) tw = some (.tup (ss.map V.ref)) := upd_same
    generalize upd H2 tw (.tup (ss.map V.ref)) = H3 at s3 e3 ⊢
    refine ⟨_, rfl, g, CG, dg, _, rfl, s3 _ _ (s2 _ _ g1), hG.c, hG.a2, by show 1 < 1000; decide, ?_⟩
    have b4 : ButL g H3 (upd H3 g (.ins CG dg (putF "told" (.ref tw) [("letters", .ref A.m)]))) := fun b o n e => by rw [upd_ne n]; exact e
    have g4 : upd H3 g (.ins CG dg (putF "told" (.ref tw) [("letters", .ref A.m)])) g = some (.ins CG dg [("letters", .ref A.m), ("told", .ref tw)]) := upd_same
    generalize upd H3 g (.ins CG dg (putF "told" (.ref tw) [("letters", .ref A.m)])) = H4 at b4 g4 ⊢
    have b04 : ButL g H H4 := fun b o n e => b4 b o n (s3 _ _ (b2 b o n e))
    have ng : ∀ {b : Addr} {xs : List V}, H3 b = some (.tup xs) → b ≠ g := fun e z => by rw [z, s3 _ _ (s2 _ _ g1)] at e; cases e
    have w4 := b4 _ _ (ng e3) e3
    have T4 := hT.mono (kp b04)
    obtain ⟨dx4, R4⟩ := id T4.cm
    have hro4 : H4 A.ro = some (.lst vr) := kp b04 _ _ (fun _ _ z => nomatch z) hro
    try dsimp only
    refine ⟨_, rfl, p, CC, dx4, _, _, rfl, R4.at_, hC.c, hC.a4, rfl, A.ro, vr, rfl, .inl ⟨SqL.of hro4, fun tr htr => ?_⟩⟩
    have s5 := Ask.Same.upd_new (o := .tup vr) (Same.refl H4) htr
    have e5 : upd H4 tr (.tup vr) tr = some (.tup vr) := upd_same
    generalize upd H4 tr (.tup vr) = H5 at s5 e5 ⊢
    refine ⟨_, rfl, g, CG, dg, _, rfl, s5 _ _ g4, hG.c, hG.a3, by show 2 < 1000; decide, ?_⟩
    have b6 : ButL g H5 (upd H5 g (.ins CG dg (putF "rows" (.ref tr) [("letters", .ref A.m), ("told", .ref tw)]))) := fun b o n e => by rw [upd_ne n]; exact e
    have g6 : upd H5 g (.ins CG dg (putF "rows" (.ref tr) [("letters", .ref A.m), ("told", .ref tw)])) g = some (.ins CG dg [("letters", .ref A.m), ("told", .ref tw), ("rows", .ref tr)]) := upd_same
    generalize upd H5 g (.ins CG dg (putF "rows" (.ref tr) [("letters", .ref A.m), ("told", .ref tw)])) = H6 at b6 g6 ⊢
    have ng5 : ∀ {b : Addr} {xs : List V}, H5 b = some (.tup xs) → b ≠ g := fun e z => by rw [z, s5 _ _ g4] at e; cases e
    have w6 := b6 _ _ (ng5 (s5 _ _ w4)) (s5 _ _ w4)
    have r6 := b6 _ _ (ng5 e5) e5
    have b06 : ButL g H H6 := fun b o n e => b6 b o n (s5 _ _ (b04 b o n e))
    have T6 := hT.mono (kp b06)
    obtain ⟨dx6, R6⟩ := id T6.cm
    try dsimp only
    refine ⟨_, rfl, p, CC, dx6, _, _, rfl, R6.at_, hC.c, hC.a5, rfl, A.le, _, rfl, .inl ⟨SqL.of T6.le, fun tl htl => ?_⟩⟩
    have s7 := Ask.Same.upd_new (o := .tup (List.replicate ss.length (iN 1))) (Same.refl H6) htl
    generalize upd H6 tl (.tup (List.replicate ss.length (iN 1))) = H7 at s7 ⊢
    refine ⟨_, rfl, g, CG, dg, _, rfl, s7 _ _ g6, hG.c, hG.a4, by show 3 < 1000; decide, ?_⟩
    have b8 : ButL g H7 (upd H7 g (.ins CG dg (putF "lengths" (.ref tl) [("letters", .ref A.m), ("told", .ref tw), ("rows", .ref tr)]))) := fun b o n e => by rw [upd_ne n]; exact e
    have g8 : upd H7 g (.ins CG dg (putF "lengths" (.ref tl) [("letters", .ref A.m), ("told", .ref tw), ("rows", .ref tr)])) g = some (.ins CG dg [("letters", .ref A.m), ("told", .ref tw), ("rows", .ref tr), ("lengths", .ref tl)]) := upd_same
    generalize upd H7 g (.ins CG dg (putF "lengths" (.ref tl) [("letters", .ref A.m), ("told", .ref tw), ("rows", .ref tr)])) = H8 at b8 g8 ⊢
    have ng7 : ∀ {b : Addr} {xs : List V}, H7 b = some (.tup xs) → b ≠ g := fun e z => by rw [z, s7 _ _ g6] at e; cases e
    have w8 := b8 _ _ (ng7 (s7 _ _ w6)) (s7 _ _ w6)
    have r8 := b8 _ _ (ng7 (s7 _ _ r6)) (s7 _ _ r6)
    have b08 : ButL g H H8 := fun b o n e => b8 b o n (s7 _ _ (b06 b o n e))
    have T8 := hT.mono (kp b08)
    obtain ⟨dx8, R8⟩ := id T8.cm
    obtain ⟨tm8, dm8, om8, hm8, ht8, ho8⟩ := id T8.let_
    have hSt : SqT K H8 tm8 (ys.map V.str) := .inl (.inr ⟨om8, ht8⟩)
    try dsimp only
    refine ⟨_, rfl, p, CC, dx8, _, _, rfl, R8.at_, hC.c, hC.a1, rfl, A.m, CL, dm8, _, _, rfl, hm8, hL0, nW, rfl, tm8, rfl, ⟨_, hSt⟩, fun L2 hL2 => ?_⟩
    refine lc_it (walk_tup (xs := ys.map V.str)) (fun i H' => H' L2 = some (.lst ((liveW' (ys.take i) ys (SNs ys k x sv ss.length)).map V.str)) ∧ Same H8 H') ⟨by rw [upd_same, List.take_zero]; rfl, Ask.Same.upd_new (Same.refl _) hL2⟩ (fun _ H' _ ⟨_, s'⟩ => seqT_same s' hSt) ?_ ?_
    · rintro i v HB' HB hi ⟨p1, p2⟩ ⟨rfl, hv⟩
      rw [List.length_map] at hi
      obtain ⟨y, hy⟩ : ∃ y, ys[i]? = some y := ⟨_, List.getElem?_eq_getElem hi⟩
      rw [List.getElem?_map, hy] at hv
      cases hv
      have my := List.mem_of_getElem? hy
      have ly : ys.idxOf y < ys.length := List.idxOf_lt_length_of_mem my
      have tk : liveW' (ys.take (i + 1)) ys (SNs ys k x sv ss.length) = liveW' (ys.take i) ys (SNs ys k x sv ss.length) ++ (if ((SNs ys k x sv ss.length).lo (ys.idxOf y)).isNone = true then [y] else []) := by
        unfold liveW'
        rw [List.take_add_one, hy, List.filter_append]
        congr 1
        show List.filter _ [y] = _
        cases q : ((SNs ys k x sv ss.length).lo (ys.idxOf y)).isNone with
        | true => simp [List.filter, q]
        | false => simp [List.filter, q]
      obtain ⟨us, u, o, f1, f2, f3, f4⟩ := R8.lone.get (i := ys.idxOf y) (by rw [R8.l1]; exact ly)
      have eo : (SNs ys k x sv ss.length).lo (ys.idxOf y) = o := by unfold CmS.lo; rw [show (SNs ys k x sv ss.length).lone[ys.idxOf y]? = some o from f3]; rfl
      have hrk := p2 _ _ T8.rk
      have tl9 : ((liveW' (ys.take i) ys (SNs ys k x sv ss.length)).map V.str).length < sizeLine := by
        rw [List.length_map]
        have := List.length_filter_le (fun y => ((SNs ys k x sv ss.length).lo (ys.idxOf y)).isNone) (ys.take i)
        have := R8.n12
        rw [List.length_take] at *
        unfold liveW'
        omega
      refine ⟨rfl, _, rfl, p, CC, dx8, _, _, rfl, p2 _ _ R8.at_, hC.c, hC.a6, rfl, _, rfl, p, CC, dx8, _, _, rfl, p2 _ _ R8.at_, hC.c, hC.a2, rfl, _, rfl, A.rk, _, rfl, by have := DGet.k (k := Sum.inr y) hrk; rw [rkD_get my] at this; exact this, ?_⟩
      refine ⟨A.lo, us, _, u, rfl, rfl, SqL.of (p2 _ _ f1), at_by (j := ys.idxOf y) rfl f2, rfl, _, rfl, ?_⟩
      rw [f4.non, ← eo]
      rw [tk]
      cases q : ((SNs ys k x sv ss.length).lo (ys.idxOf y)).isNone with
      | true =>
        refine iteT ⟨_, rfl, _, p1, tl9, ?_, Ask.Same.upd_new p2 hL2⟩
        rw [upd_same, List.map_append]
        rfl
      | false =>
        refine iteF ⟨?_, p2⟩
        rw [p1, if_neg (by decide), List.append_nil]
    rintro H9 ⟨pL2, s9⟩
    rw [List.length_map, List.take_length] at pL2
    have g9 := s9 _ _ g8
    refine ⟨L2, _, rfl, .inl ⟨SqL.of pL2, fun tv htv => ?_⟩⟩
    have sa := Ask.Same.upd_new (o := .tup ((liveW' ys ys (SNs ys k x sv ss.length)).map V.str)) (Same.refl H9) htv
    have ea : upd H9 tv (.tup ((liveW' ys ys (SNs ys k x sv ss.length)).map V.str)) tv = some (.tup ((liveW' ys ys (SNs ys k x sv ss.length)).map V.str)) := upd_same
    generalize upd H9 tv (.tup ((liveW' ys ys (SNs ys k x sv ss.length)).map V.str)) = Ha at sa ea ⊢
    refine ⟨_, rfl, g, CG, dg, _, rfl, sa _ _ g9, hG.c, hG.a5, by show 4 < 1000; decide, ?_⟩
    have bb : ButL g Ha (upd Ha g (.ins CG dg (putF "live" (.ref tv) [("letters", .ref A.m), ("told", .ref tw), ("rows", .ref tr), ("lengths", .ref tl)]))) := fun b o n e => by rw [upd_ne n]; exact e
    have gb : upd Ha g (.ins CG dg (putF "live" (.ref tv) [("letters", .ref A.m), ("told", .ref tw), ("rows", .ref tr), ("lengths", .ref tl)])) g = some (.ins CG dg [("letters", .ref A.m), ("told", .ref tw), ("rows", .ref tr), ("lengths", .ref tl), ("live", .ref tv)]) := upd_same
    generalize upd Ha g (.ins CG dg (putF "live" (.ref tv) [("letters", .ref A.m), ("told", .ref tw), ("rows", .ref tr), ("lengths", .ref tl)])) = Hb at bb gb ⊢
    try dsimp only
    refine ⟨_, rfl, _, rfl, g, CG, dg, _, rfl, gb, hG.c, hG.a6, by show 5 < 1000; decide, ?_⟩
    have bc : ButL g Ha (upd Hb g (.ins CG dg (putF "_begun" (.ref p) [("letters", .ref A.m), ("told", .ref tw), ("rows", .ref tr), ("lengths", .ref tl), ("live", .ref tv)]))) := fun b o n e => by rw [upd_ne n]; exact bb b o n e
    have gc : upd Hb g (.ins CG dg (putF "_begun" (.ref p) [("letters", .ref A.m), ("told", .ref tw), ("rows", .ref tr), ("lengths", .ref tl), ("live", .ref tv)])) g = some (.ins CG dg [("letters", .ref A.m), ("told", .ref tw), ("rows", .ref tr), ("lengths", .ref tl), ("live", .ref tv), ("_begun", .ref p)]) := upd_same
    generalize upd Hb g (.ins CG dg (putF "_begun" (.ref p) [("letters", .ref A.m), ("told", .ref tw), ("rows", .ref tr), ("lengths", .ref tl), ("live", .ref tv)])) = Hc at bc gc ⊢
    try dsimp only
    refine ⟨_, rfl, _, rfl, g, CG, dg, _, rfl, gc, hG.c, hG.a7, by show 6 < 1000; decide, ?_⟩
    have bd : ButL g Ha (upd Hc g (.ins CG dg (putF "_work" (.ref p) [("letters", .ref A.m), ("told", .ref tw), ("rows", .ref tr), ("lengths", .ref tl), ("live", .ref tv), ("_begun", .ref p)]))) := fun b o n e => by rw [upd_ne n]; exact bc b o n e
    have gd : upd Hc g (.ins CG dg (putF "_work" (.ref p) [("letters", .ref A.m), ("told", .ref tw), ("rows", .ref tr), ("lengths", .ref tl), ("live", .ref tv), ("_begun", .ref p)])) g = some (.ins CG dg [("letters", .ref A.m), ("told", .ref tw), ("rows", .ref tr), ("lengths", .ref tl), ("live", .ref tv), ("_begun", .ref p), ("_work", .ref p)]) := upd_same
    generalize upd Hc g (.ins CG dg (putF "_work" (.ref p) [("letters", .ref A.m), ("told", .ref tw), ("rows", .ref tr), ("lengths", .ref tl), ("live", .ref tv), ("_begun", .ref p)])) = Hd at bd gd ⊢
    have b8d : ButL g H8 Hd := fun b o n e => bd b o n (sa _ _ (s9 _ _ e))
    have b0d : ButL g H Hd := fun b o n e => b8d b o n (b08 b o n e)
    have nga : ∀ {b : Addr} {xs : List V}, Ha b = some (.tup xs) → b ≠ g := fun e z => by rw [z, sa _ _ g9] at e; cases e
    have ng8 : ∀ {b : Addr} {xs : List V}, H8 b = some (.tup xs) → b ≠ g := fun e z => by rw [z, g8] at e; cases e
    exact kq Hd b0d ⟨dg, tw, tr, tl, tv, vr, gd, b8d _ _ (ng8 w8) w8, b8d _ _ (ng8 r8) r8, rows.keep fun a xs e => kp b0d _ _ (fun _ _ z => nomatch z) e, bd _ _ (nga ea) ea, hT.mono (kp b0d)⟩
end
end Ask

/-! close(letters, told) of one sentence, told some times -/
namespace Ask
open PySem L2
theorem rulL_rep {H : Hp} {a : Addr} {n : Nat} (h : H a = some (.lst (List.replicate n .non))) : RulL H a (List.replicate n none) := by
  refine ⟨_, h, by rw [List.length_replicate, List.length_replicate], fun i v o e1 e2 => ?_⟩
  rw [List.getElem?_replicate] at e1 e2
  split at e1
  · rename_i c
    rw [if_pos c] at e2
    cases e1
    cases e2
    rfl
  · cases e1
section
variable {P : Program} {w : World} {K : PySem.W.Frag} {mg : Str → Option Value} {base : Heap}
def spClose (K : PySem.W.Frag) (CL CS CC CG : Addr) : Sp := fun vs H Q _ => ∃ (m t a : Addr) (ys : List Str) (k x : Str) (s : V) (ss : List Addr), vs = [.ref m, .ref a] ∧ Mde CL H m t ys ∧ Lts ys ∧ (SqL K H a (ss.map V.ref) ∨ SqT K H a (ss.map V.ref)) ∧ ss.length ≤ 60 ∧ TellOk ys k x s ∧ (∀ q ∈ ss, SenAt K CL CS H q ys k x s) ∧
  ∀ (H' : Hp) (g p : Addr) (A : CmA), Same H H' → ClsP K CL CS CC CG H' g ys k x s ss p A → (∀ c ∈ A.own p, H c = none) → Q (.ref g) H'

abbrev s_close : Stmt := top 62
theorem sc_close : FnScope ["letters", "told", "index", "sentence"] ["letters", "told"] (defScope s_close) := ⟨rfl, rfl, rfl, by decide +kernel, rfl, by decide +kernel, by decide +kernel⟩
theorem ok_close {f CL CS CC CG fF fE fB fC fG : Addr} {fd fdF fdE fdB fdC fdG : FuncData} (F : Fun K "close" "close" s_close f fd) (T : Blt mg) (hC : CmC K CC) (hG : ClC K CG) (hS : SnC K CS) (YS : XkC K CS) (mS : mg "Sentence" = some (.ref CS))
    (G_require_few : FnOk P w K mg base CX0 1 fF fdF ["many"] spFew) (A_require_few : At K mg "require_few" fF fdF ["many"])
    (GE : FnOk P w K mg base CX0 1 fE fdE ["self", "other"] (spEq2 CL)) (bE : Binds K fdE ["self", "other"] []) (cl : OwnNe K CL fE)
    (G_told_behind : FnOk P w K mg base CX0 6 fB fdB ["begun", "told"] (spToldB K CL CS CC)) (A_told_behind : At K mg "told_behind" fB fdB ["begun", "told"])
    (MC : Mk K CC fC) (mC : mg "Completion" = some (.ref CC)) (GC : FnOk P w K mg base CX0 1 fC fdC ["self", "letters"] (spCmI K CL CC)) (bC : Binds K fdC ["self", "letters"] [])
    (MG : Mk K CG fG) (mG : mg "Closing" = some (.ref CG)) (GG : FnOk P w K mg base CX0 2 fG fdG ["self", "begun"] (spClI K CL CS CC CG)) (bG : Binds K fdG ["self", "begun"] []) : FnOk P w K mg base CX0 7 f fd ["letters", "told"] (spClose K CL CS CC CG) := by
  refine F.ok sc_close (fun vs H Q E h => ?_) (fun cdv A0 outer s H vs Q E hr h => ?_)
  · obtain ⟨m, t, a, ys, k, x, s, ss, rfl, _⟩ := h
    rfl
  · obtain ⟨m, t, a, ys, k, x, sv, ss, rfl, hM, lts, ha, l6, tk, hss, kq⟩ := h
    have h_require_few := hr.mono (j := 1) (by decide)
    have h_told_behind := hr.mono (j := 6) (by decide)
    have hr2 := hr.mono (j := 2) (by decide)
    have hr3 := hr.mono (j := 3) (by decide)
    have z1 : (100000 : Nat) ≤ sizeLine := by decide
    refine ⟨_, (pss_cons (ps_expr (pe_call G_require_few (by exact h_require_few) (by rfl) A_require_few.m A_require_few.k A_require_few.b .nil pass0 (pa_cons (pe_callB call_len_seq (by rfl) T.n_len (by decide +kernel) (pa_cons (pv 1) pa_nil)) pa_nil)))
      (pss_cons (ps_for PassesOwn.never rfl (pi_enumA (by rfl) T.n_enumerate (pa_cons (pv 1) pa_nil)) (pg_tup rfl (pgs_cons (pg_name (i := 2) sc_close.nd rfl (Or.inl rfl)) (pgs_cons (pg_name (i := 3) sc_close.nd rfl (Or.inl rfl)) pgs_nil))) (pss_one (ps_if (PW.pt (pw_or (pt_not (pt_val (pe_callB call_isi (by rfl) T.n_isinstance (by decide +kernel) (pa_cons (pv 3) (pa_cons (pe_gv (v := .ref CS) rfl ⟨_, mS, rfl⟩) pa_nil))))) (pw_or1 (pt_cmpR (op_neI GE hr2 bE pass0 cl) (pe_fld (pv 3) rfl) (pv 0) (nomark _))))) pss_no pss_nil)))
      (pss_one (ps_ret (pe_make MG GG hr3 (by rfl) mG bG .nil pass0 (pa_cons (pe_call G_told_behind (by exact h_told_behind) (by rfl) A_told_behind.m A_told_behind.k A_told_behind.b .nil pass0 (pa_cons (pe_make MC GC hr2 (by rfl) mC bC .nil pass0 (pa_cons (pv 0) pa_nil)) (pa_cons (pv 1) pa_nil))) pa_nil)))))), ?_⟩
    refine ⟨_, rfl, a, _, rfl, ha, ss.length, by rw [List.length_map]; rfl, l6, ?_⟩
    try dsimp only
    obtain ⟨J, G, wk, hG', fits⟩ : ∃ (J : It) (G : Hp → Prop), Walk J (ss.map V.ref).length G (YPair (fun i => some (.int (i : Nat))) (fun i => (ss.map V.ref)[i]?)) ∧ (∀ H', Same H H' → G H') ∧
        ∀ (R : It → Hp → Prop), R J H → iEnumA K (tCons (tVar 1) tNil) [some (.ref m), some (.ref a), none, none] H R := by
      rcases ha with hS | hS
      · exact ⟨Ite K a, _, walk_enum, fun H' s' => s'.seq hS, fun R r => ⟨_, rfl, a, _, rfl, .inl ⟨hS, r⟩⟩⟩
      · exact ⟨IteT K a, _, walk_enumT, fun H' s' => seqT_same s' hS, fun R r => ⟨_, rfl, a, _, rfl, .inr ⟨hS, r⟩⟩⟩
    refine for_enum fits wk (fun i σ' H' => ∃ o4 o5 : Option V, σ' = [some (.ref m), some (.ref a), o4, o5] ∧ Same H H') ⟨none, none, rfl, Same.refl H⟩ (fun i σ' H' _ ⟨_, _, _, s'⟩ => hG' H' s') ?_ ?_
    · rintro i v σ' H2 H3 hi ⟨o4, o5, rfl, s2⟩ ⟨t5, x0, y0, rfl, ht5, rfl, ex, ey⟩
      cases ex
      rw [List.length_map] at hi
      obtain ⟨q, hq⟩ : ∃ q, ss[i]? = some q := ⟨_, List.getElem?_eq_getElem hi⟩
      replace ey : (ss.map V.ref)[i]? = some y0 := ey
      rw [List.getElem?_map, hq] at ey
      cases ey
      have s3 := Ask.Same.made1 (o := .tup [.int (i : Nat), .ref q]) s2 ht5
      have e3 : upd H2 t5 (.tup [.int (i : Nat), .ref q]) t5 = some (.tup [.int (i : Nat), .ref q]) := upd_same
      generalize upd H2 t5 (.tup [.int (i : Nat), .ref q]) = H4 at s3 e3 ⊢
      refine ⟨t5, _, rfl, SqT.of e3, rfl, _, _, rfl, _, _, rfl, rfl, ?_⟩
      obtain ⟨dq, mq, tq, q1, q2⟩ := (hss q (List.mem_of_getElem? hq)).same s3
      have kk : PySem.W.kitOne K (.ref CS) (.ref CS) = some true := by
        unfold PySem.W.kitOne
        rw [if_pos (by simp)]
      obtain ⟨d1, o1, f1, f2, f3⟩ := id q2
      obtain ⟨d2, o2, g1, g2, g3⟩ := id (hM.same s3)
      refine ⟨_, rfl, _, _, _, _, true, rfl, .own CS, .base (.ins q1 hS.c YS.ha YS.hn YS.ht YS.hm), kk, _, rfl, iteF ?_⟩
      refine ⟨_, rfl, q, CS, dq, _, _, rfl, q1, hS.c, hS.a1, rfl, _, rfl, mq, m, d1, d2, _, _, rfl, rfl, f1, g1, mq, tq, m, t, ys, ys, rfl, q2, hM.same s3, lts.fit, lts.fit, true, ?_, ?_⟩
      · rw [eqv_strs, decide_eq_true rfl]
      · exact ⟨_, rfl, iteF ⟨_, _, rfl, s3⟩⟩
    · rintro σ' H2 ⟨o4, o5, rfl, s2⟩
      refine ⟨_, rfl, fun p dp hp hdp hne => ?_⟩
      have sp : Same H2 (upd (upd H2 dp (.own p)) p (.ins CC dp [])) := Ask.Same.made1 (Ask.Same.made1 (Same.refl H2) hdp) (by rw [upd_ne hne.symm]; exact hp)
      refine ⟨p, dp, m, t, ys, rfl, upd_same, (hM.same s2).same sp, lts.nd, lts.l0, lts.l1, fun H3 A eA kA atA rkA roA leA loA stA prA waA frA ndA newA => ⟨rfl, ?_⟩⟩
      have s3 : Same H H3 := fun b o e => kA b o (fun z => by have := s2 _ _ e; rw [z, hp] at this; cases this) (sp _ _ (s2 _ _ e))
      have T3 : CmT K CL CS CC H3 p A ys k x sv [] := ⟨⟨dp, atA, rulL_rep loA, rulL_rep stA, rulL_rep prA, List.length_replicate, List.length_replicate, List.length_replicate, lts.l1⟩, ⟨t, by rw [eA]; exact hM.same s3⟩, rkA, ⟨[], roA, rfl, fun i q e => by cases e⟩, leA, waA, frA, (fun _ z => nomatch z), ndA⟩
      refine ⟨_, rfl, p, a, A, ys, k, x, sv, ss, rfl, T3, lts.nd, lts.l0, tk, seqA_same ha s3, fun q hq => (hss q hq).same s3, by omega, fun H4 q B s4 own eB T4 => ?_⟩
      intro g dg hg hdg hn2
      have sg : Same H4 (upd (upd H4 dg (.own g)) g (.ins CG dg [])) := Ask.Same.made1 (Ask.Same.made1 (Same.refl H4) hdg) (by rw [upd_ne hn2.symm]; exact hg)
      refine ⟨g, dg, q, B, ys, k, x, sv, ss, rfl, upd_same, T4.mono fun b o _ e => sg b o e, by omega, fun H' bu cls => ⟨rfl, kq H' g q B (fun b o e => bu b o (fun z => ?_) (sg _ _ (s4 _ _ (s3 _ _ e)))) cls (fun c hc => free_of s3 (own c hc))⟩⟩
      have := s4 _ _ (s3 _ _ e)
      rw [z, hg] at this
      cases this
end
end Ask

/-! what a closing answers: rules, kinds, least letters -/
namespace Ask
open PySem L2
theorem CmT.rng {n : Nat} {b : Str} {l r : List Nat} (e : EqOk n b l r) {m : Nat} : (∀ x o, (SN n b l r m).lo x = some o → o.2 = 0 ∧ 1 ≤ m) ∧ (∀ x o, (SN n b l r m).stl x = some o → o.2 = 0 ∧ 1 ≤ m) ∧ (∀ x y o, (SN n b l r m).pr n x y = some o → o.2 = 0 ∧ 1 ≤ m) := by
  cases m with
  | zero => exact ⟨fun x o h => (by rw [show (SN n b l r 0).lo x = none from S0_lo n x] at h; cases h), fun x o h => (by rw [show (SN n b l r 0).stl x = none from S0_st n x] at h; cases h), fun x y o h => (by rw [show (SN n b l r 0).pr n x y = none from S0_pr n x y] at h; cases h)⟩
  | succ m =>
    have ft := S1_fit (nr := 1) (row := 0) e (by decide)
    refine ⟨fun x o h => ?_, fun x o h => ?_, fun x y o h => ?_⟩
    · have := (ft.lo x o.1 o.2 h).2.2.1; omega
    · have := (ft.st x o.1 o.2 h).2; omega
    · have := (ft.pr x y o.1 o.2 h).2.2; omega
theorem RulV.row {H : Hp} {o : Rul} {v : V} (h : RulV H o v) : (o = none ∧ v = .non) ∨ ∃ (r : List Nat) (i : Nat) (t a : Addr), o = some (r, i) ∧ v = .ref t ∧ H t = some (.tup [.ref a, iN i]) := by
  cases o with
  | none => exact .inl ⟨rfl, h⟩
  | some x =>
    obtain ⟨t, a, e, h1, h2⟩ := h
    exact .inr ⟨x.1, x.2, t, a, rfl, e, h1⟩
section
variable {P : Program} {w : World} {K : PySem.W.Frag} {mg : Str → Option Value} {base : Heap}
def spLoneR (K : PySem.W.Frag) (CL CS CC CG : Addr) : Sp := fun vs H Q _ => ∃ (g : Addr) (ys : List Str) (k x : Str) (s : V) (ss : List Addr) (y : Str), vs = [.ref g, .str y] ∧ ClsAt K CL CS CC CG H g ys k x s ss ∧ y ∈ ys ∧ Q (oN' (((SNs ys k x s ss.length).lo (ys.idxOf y)).map (·.2))) H
def spStillR (K : PySem.W.Frag) (CL CS CC CG : Addr) : Sp := fun vs H Q _ => ∃ (g : Addr) (ys : List Str) (k x : Str) (s : V) (ss : List Addr) (y : Str), vs = [.ref g, .str y] ∧ ClsAt K CL CS CC CG H g ys k x s ss ∧ y ∈ ys ∧ Q (oN' (((SNs ys k x s ss.length).stl (ys.idxOf y)).map (·.2))) H
def spPairR (K : PySem.W.Frag) (CL CS CC CG : Addr) : Sp := fun vs H Q _ => ∃ (g : Addr) (ys : List Str) (k x : Str) (s : V) (ss : List Addr) (y z : Str), vs = [.ref g, .str y, .str z] ∧ ClsAt K CL CS CC CG H g ys k x s ss ∧ y ∈ ys ∧ z ∈ ys ∧ Q (oN' (((SNs ys k x s ss.length).pr ys.length (ys.idxOf y) (ys.idxOf z)).map (·.2))) H

abbrev s_Closing_lone_rule : Stmt := inClass (top 65) 2
theorem sc_Closing_lone_rule : FnScope ["self", "letter", "rule"] ["self", "letter"] (defScope s_Closing_lone_rule) := ⟨rfl, rfl, rfl, by decide +kernel, rfl, by decide +kernel, by decide +kernel⟩
theorem ok_loneR {f CL CS CC CG : Addr} {fd : FuncData} (F : Fun K "lone_rule" "Closing.lone_rule" s_Closing_lone_rule f fd) (hC : CmC K CC) (hG : ClC K CG) : FnOk P w K mg base CX0 1 f fd ["self", "letter"] (spLoneR K CL CS CC CG) := by
  refine F.ok sc_Closing_lone_rule (fun vs H Q E h => ?_) (fun cdv A0 outer s H vs Q E hr h => ?_)
  · obtain ⟨g, ys, k, x, s, ss, y, rfl, _⟩ := h
    rfl
  · obtain ⟨g, ys, k, x, sv, ss, y, rfl, ⟨dg, p, tw, tr, tl, tv, A, vr, hg, _, _, _, _, hT⟩, hy, kq⟩ := h
    have hu := hu_of hr
    obtain ⟨dx, R⟩ := hT.cm
    have ly : ys.idxOf y < ys.length := List.idxOf_lt_length_of_mem hy
    refine ⟨_, (pss_cons (ps_set (i := 2) sc_Closing_lone_rule.nd rfl (Or.inl rfl) (pe_ix ix_list (pe_fld (pe_fld (pv 0) rfl) rfl) (pe_dget hu (pe_fld (pe_fld (pv 0) rfl) rfl) (pv 1) (fun _ _ => rfl)) (fun _ _ => rfl)))
      (pss_one (ps_ret (pe_ifExp (pt_cmpR op_isN (pv 2) pe_non (nomark _)) pe_non (pe_ix ix_tup (pv 2) pe_int (fun _ _ => rfl)))))), ?_⟩
    obtain ⟨us, u, o, f1, f2, f3, f4⟩ := R.lone.get (i := ys.idxOf y) (by rw [R.l1]; exact ly)
    have eo : (SNs ys k x sv ss.length).lo (ys.idxOf y) = o := by unfold CmS.lo; rw [show (SNs ys k x sv ss.length).lone[ys.idxOf y]? = some o from f3]; rfl
    refine ⟨_, rfl, g, CG, dg, _, _, rfl, hg, hG.c, hG.a7, rfl, p, CC, dx, _, _, rfl, R.at_, hC.c, hC.a6, rfl, _, rfl, g, CG, dg, _, _, rfl, hg, hG.c, hG.a7, rfl, p, CC, dx, _, _, rfl, R.at_, hC.c, hC.a2, rfl, _, rfl, A.rk, _, rfl, by have := DGet.k (k := Sum.inr y) hT.rk; rw [rkD_get hy] at this; exact this, ?_⟩
    refine ⟨A.lo, us, _, u, rfl, rfl, SqL.of f1, at_by (j := ys.idxOf y) rfl f2, ?_⟩
    try dsimp only
    refine nm_any ?_
    rw [eo] at kq
    refine ⟨_, rfl, rfl, _, rfl, ?_⟩
    rw [f4.non]
    rcases f4.row with ⟨rfl, rfl⟩ | ⟨r, i, t, b, rfl, rfl, et⟩
    · exact iteT kq
    · exact iteF ⟨_, rfl, t, _, _, iN i, rfl, rfl, SqT.of et, at_by (j := 1) rfl rfl, kq⟩

abbrev s_Closing_still_rule : Stmt := inClass (top 65) 4
theorem sc_Closing_still_rule : FnScope ["self", "letter", "rule"] ["self", "letter"] (defScope s_Closing_still_rule) := ⟨rfl, rfl, rfl, by decide +kernel, rfl, by decide +kernel, by decide +kernel⟩
theorem ok_stillR {f CL CS CC CG : Addr} {fd : FuncData} (F : Fun K "still_rule" "Closing.still_rule" s_Closing_still_rule f fd) (hC : CmC K CC) (hG : ClC K CG) : FnOk P w K mg base CX0 1 f fd ["self", "letter"] (spStillR K CL CS CC CG) := by
  refine F.ok sc_Closing_still_rule (fun vs H Q E h => ?_) (fun cdv A0 outer s H vs Q E hr h => ?_)
  · obtain ⟨g, ys, k, x, s, ss, y, rfl, _⟩ := h
    rfl
  · obtain ⟨g, ys, k, x, sv, ss, y, rfl, ⟨dg, p, tw, tr, tl, tv, A, vr, hg, _, _, _, _, hT⟩, hy, kq⟩ := h
    have hu := hu_of hr
    obtain ⟨dx, R⟩ := hT.cm
    have ly : ys.idxOf y < ys.length := List.idxOf_lt_length_of_mem hy
    refine ⟨_, (pss_cons (ps_set (i := 2) sc_Closing_still_rule.nd rfl (Or.inl rfl) (pe_ix ix_list (pe_fld (pe_fld (pv 0) rfl) rfl) (pe_dget hu (pe_fld (pe_fld (pv 0) rfl) rfl) (pv 1) (fun _ _ => rfl)) (fun _ _ => rfl)))
      (pss_one (ps_ret (pe_ifExp (pt_cmpR op_isN (pv 2) pe_non (nomark _)) pe_non (pe_ix ix_tup (pv 2) pe_int (fun _ _ => rfl)))))), ?_⟩
    obtain ⟨us, u, o, f1, f2, f3, f4⟩ := R.still.get (i := ys.idxOf y) (by rw [R.l2]; exact ly)
    have eo : (SNs ys k x sv ss.length).stl (ys.idxOf y) = o := by unfold CmS.stl; rw [show (SNs ys k x sv ss.length).still[ys.idxOf y]? = some o from f3]; rfl
    refine ⟨_, rfl, g, CG, dg, _, _, rfl, hg, hG.c, hG.a7, rfl, p, CC, dx, _, _, rfl, R.at_, hC.c, hC.a7, rfl, _, rfl, g, CG, dg, _, _, rfl, hg, hG.c, hG.a7, rfl, p, CC, dx, _, _, rfl, R.at_, hC.c, hC.a2, rfl, _, rfl, A.rk, _, rfl, by have := DGet.k (k := Sum.inr y) hT.rk; rw [rkD_get hy] at this; exact this, ?_⟩
    refine ⟨A.st, us, _, u, rfl, rfl, SqL.of f1, at_by (j := ys.idxOf y) rfl f2, ?_⟩
    try dsimp only
    refine nm_any ?_
    rw [eo] at kq
    refine ⟨_, rfl, rfl, _, rfl, ?_⟩
    rw [f4.non]
    rcases f4.row with ⟨rfl, rfl⟩ | ⟨r, i, t, b, rfl, rfl, et⟩
    · exact iteT kq
    · exact iteF ⟨_, rfl, t, _, _, iN i, rfl, rfl, SqT.of et, at_by (j := 1) rfl rfl, kq⟩

abbrev s_Closing_pair_rule : Stmt := inClass (top 65) 3
theorem sc_Closing_pair_rule : FnScope ["self", "x", "y", "ranks", "rule"] ["self", "x", "y"] (defScope s_Closing_pair_rule) := ⟨rfl, rfl, rfl, by decide +kernel, rfl, by decide +kernel, by decide +kernel⟩
theorem ok_pairR {f CL CS CC CG : Addr} {fd : FuncData} (F : Fun K "pair_rule" "Closing.pair_rule" s_Closing_pair_rule f fd) (hC : CmC K CC) (hG : ClC K CG) : FnOk P w K mg base CX0 1 f fd ["self", "x", "y"] (spPairR K CL CS CC CG) := by
  refine F.ok sc_Closing_pair_rule (fun vs H Q E h => ?_) (fun cdv A0 outer s H vs Q E hr h => ?_)
  · obtain ⟨g, ys, k, x, s, ss, y, z, rfl, _⟩ := h
    rfl
  · obtain ⟨g, ys, k, x, sv, ss, y, z, rfl, ⟨dg, p, tw, tr, tl, tv, A, vr, hg, _, _, _, _, hT⟩, hy, hz, kq⟩ := h
    have hu := hu_of hr
    obtain ⟨dx, R⟩ := hT.cm
    have n12 := R.n12
    have ly : ys.idxOf y < ys.length := List.idxOf_lt_length_of_mem hy
    have lz : ys.idxOf z < ys.length := List.idxOf_lt_length_of_mem hz
    refine ⟨_, (pss_cons (ps_set (i := 3) sc_Closing_pair_rule.nd rfl (Or.inl rfl) (pe_fld (pe_fld (pv 0) rfl) rfl))
      (pss_cons (ps_set (i := 4) sc_Closing_pair_rule.nd rfl (Or.inl rfl) (pe_ix ix_list (pe_fld (pe_fld (pv 0) rfl) rfl) (pe_op op_add (pe_op op_mul (pe_dget hu (pv 3) (pv 1) (fun _ _ => rfl)) (pe_fld (pe_fld (pv 0) rfl) rfl)) (pe_dget hu (pv 3) (pv 2) (fun _ _ => rfl))) (fun _ _ => rfl)))
      (pss_one (ps_ret (pe_ifExp (pt_cmpR op_isN (pv 4) pe_non (nomark _)) pe_non (pe_ix ix_tup (pv 4) pe_int (fun _ _ => rfl))))))), ?_⟩
    obtain ⟨us, u, o, f1, f2, f3, f4⟩ := R.pairs.get (i := ys.idxOf y * ys.length + ys.idxOf z) (by rw [R.l3]; exact pr_lt ly lz)
    have eo : (SNs ys k x sv ss.length).pr ys.length (ys.idxOf y) (ys.idxOf z) = o := by unfold CmS.pr; rw [show (SNs ys k x sv ss.length).pairs[ys.idxOf y * ys.length + ys.idxOf z]? = some o from f3]; rfl
    have dg1 : ∀ {q : Str}, q ∈ ys → DGet H A.rk (.str q) (some (iN (ys.idxOf q))) := fun {q} hq => by have := DGet.k (k := Sum.inr q) hT.rk; rw [rkD_get hq] at this; exact this
    refine ⟨_, rfl, g, CG, dg, _, _, rfl, hg, hG.c, hG.a7, rfl, p, CC, dx, _, _, rfl, R.at_, hC.c, hC.a2, rfl, ?_⟩
    try dsimp only
    refine nm_any ?_
    refine ⟨_, rfl, g, CG, dg, _, _, rfl, hg, hG.c, hG.a7, rfl, p, CC, dx, _, _, rfl, R.at_, hC.c, hC.a8, rfl, _, rfl, _, rfl, A.rk, _, rfl, dg1 hy, _, rfl, g, CG, dg, _, _, rfl, hg, hG.c, hG.a7, rfl, p, CC, dx, _, _, rfl, R.at_, hC.c, hC.a3, rfl, _, _, rfl, rfl, mul_small (by omega), _, rfl, _, rfl, A.rk, _, rfl, dg1 hz, _, _, rfl, rfl, ?_⟩
    refine ⟨A.pr, us, _, u, rfl, rfl, SqL.of f1, at_by (j := ys.idxOf y * ys.length + ys.idxOf z) (by rw [Int.natCast_add, Int.natCast_mul]) f2, ?_⟩
    try dsimp only
    refine nm_any ?_
    rw [eo] at kq
    refine ⟨_, rfl, rfl, _, rfl, ?_⟩
    rw [f4.non]
    rcases f4.row with ⟨rfl, rfl⟩ | ⟨r, i, t, b, rfl, rfl, et⟩
    · exact iteT kq
    · exact iteF ⟨_, rfl, t, _, _, iN i, rfl, rfl, SqT.of et, at_by (j := 1) rfl rfl, kq⟩
def spKindOf (K : PySem.W.Frag) (CL CS CC CG : Addr) : Sp := fun vs H Q _ => ∃ (g : Addr) (ys : List Str) (k x : Str) (s : V) (ss : List Addr), vs = [.ref g, iN 0] ∧ ClsAt K CL CS CC CG H g ys k x s ss ∧ 1 ≤ ss.length ∧ Q (.str k) H

abbrev s_Closing_kind_of : Stmt := inClass (top 65) 5
theorem sc_Closing_kind_of : FnScope ["self", "row"] ["self", "row"] (defScope s_Closing_kind_of) := ⟨rfl, rfl, rfl, by decide +kernel, rfl, by decide +kernel, by decide +kernel⟩
theorem ok_kindOf {f CL CS CC CG : Addr} {fd : FuncData} (F : Fun K "kind_of" "Closing.kind_of" s_Closing_kind_of f fd) (hS : SnC K CS) (hG : ClC K CG) : FnOk P w K mg base CX0 1 f fd ["self", "row"] (spKindOf K CL CS CC CG) := by
  refine F.ok sc_Closing_kind_of (fun vs H Q E h => ?_) (fun cdv A0 outer s H vs Q E hr h => ?_)
  · obtain ⟨g, ys, k, x, s, ss, rfl, _⟩ := h
    rfl
  · obtain ⟨g, ys, k, x, sv, ss, rfl, ⟨dg, p, tw, tr, tl, tv, A, vr, hg, _, e2, rows, _, hT⟩, l1, kq⟩ := h
    refine ⟨_, (pss_one (ps_ret (pe_fld (pe_ix ix_tup (pe_ix ix_tup (pe_fld (pv 0) rfl) (pv 1) (fun _ _ => rfl)) pe_int (fun _ _ => rfl)) rfl))), ?_⟩
    obtain ⟨q, hq⟩ : ∃ q, ss[0]? = some q := ⟨_, List.getElem?_eq_getElem l1⟩
    obtain ⟨t, e, r1, r2, r3⟩ := rows.2 0 q hq
    obtain ⟨dq, m, tm, q1, q2⟩ := hT.sen q (List.mem_of_getElem? hq)
    exact ⟨_, rfl, g, CG, dg, _, _, rfl, hg, hG.c, hG.a3, rfl, _, rfl, tr, vr, _, .ref t, rfl, rfl, SqT.of e2, at_by (j := 0) rfl r1, t, _, _, .ref q, rfl, rfl, SqT.of r2, at_by (j := 0) rfl rfl, q, CS, dq, _, _, rfl, q1, hS.c, hS.a2, rfl, kq⟩
def spLeast (K : PySem.W.Frag) (CL CS CC CG : Addr) : Sp := fun vs H Q _ => ∃ (g : Addr) (ys : List Str) (k x : Str) (s : V) (ss : List Addr) (y : Str), vs = [.ref g, .str y] ∧ ClsAt K CL CS CC CG H g ys k x s ss ∧ y ∈ ys ∧ EqOk ys.length (bgR k) (eqL ys k x s).1 (eqL ys k x s).2 ∧ Q (if ((SNs ys k x s ss.length).lo (ys.idxOf y)).isNone then .str y else s) H

abbrev s_Closing_least : Stmt := inClass (top 65) 6
theorem sc_Closing_least : FnScope ["self", "x", "row"] ["self", "x"] (defScope s_Closing_least) := ⟨rfl, rfl, rfl, by decide +kernel, rfl, by decide +kernel, by decide +kernel⟩
theorem ok_least {f CL CS CC CG fL fH : Addr} {fd fdL fdH : FuncData} (F : Fun K "least" "Closing.least" s_Closing_least f fd) (hS : SnC K CS) (hG : ClC K CG)
    (GL : FnOk P w K mg base CX0 1 fL fdL ["self", "letter"] (spLoneR K CL CS CC CG)) (bL : Binds K fdL ["self", "letter"] []) (mL : Meth K CG "lone_rule" fL)
    (GH : FnOk P w K mg base CX0 1 fH fdH ["self", "x"] (spHas CL)) (bH : Binds K fdH ["self", "x"] []) (hH : PySem.W.findIn K (.ref CL) "__contains__" = some (some (.ref fH))) (iH : PySem.W.isFn K (.ref fH) = true) : FnOk P w K mg base CX0 2 f fd ["self", "x"] (spLeast K CL CS CC CG) := by
  refine F.ok sc_Closing_least (fun vs H Q E h => ?_) (fun cdv A0 outer s H vs Q E hr h => ?_)
  · obtain ⟨g, ys, k, x, s, ss, y, rfl, _⟩ := h
    rfl
  · obtain ⟨g, ys, k, x, sv, ss, y, rfl, hCl, hy, eq, kq⟩ := h
    have h_lone_rule := hr.mono (j := 1) (by decide)
    have hr1 := hr.mono (j := 1) (by decide)
    refine ⟨_, (pss_cons (ps_if (pt_cmpR (op_notInI (C := CL) (E := E0) GH hr1 bH pass0 hH iH) (pv 1) (pe_fld (pv 0) rfl) rfl) pss_no pss_nil)
      (pss_cons (ps_set (i := 2) sc_Closing_least.nd rfl (Or.inl rfl) (pe_meth (pv 0) hG.c mL GL h_lone_rule bL .nil pass0 (pa_cons (pv 1) pa_nil)))
      (pss_one (ps_ret (pe_ifExp (pt_cmpR op_isN (pv 2) pe_non (nomark _)) (pv 1) (pe_fld (pe_ix ix_tup (pe_ix ix_tup (pe_fld (pv 0) rfl) (pv 2) (fun _ _ => rfl)) pe_int (fun _ _ => rfl)) rfl)))))), ?_⟩
    obtain ⟨dg, p, tw, tr, tl, tv, A, vr, hg, _, e2, rows, _, hT⟩ := id hCl
    obtain ⟨tm, dm, om, hm, ht, ho⟩ := id hT.let_
    refine ⟨_, rfl, _, rfl, g, CG, dg, _, _, rfl, hg, hG.c, hG.a1, rfl, ?_⟩
    have hin : InW H (.str y) ys true := .inl ⟨rfl, by rw [inV_str, decide_eq_true hy]⟩
    refine ⟨A.m, dm, _, rfl, hm, A.m, tm, ys, .str y, true, rfl, ⟨dm, om, hm, ht, ho⟩, hin, true, rfl, _, rfl, iteF ?_⟩
    refine ⟨_, rfl, g, dg, _, rfl, hg, rfl, _, rfl, g, ys, k, x, sv, ss, y, rfl, hCl, hy, ?_⟩
    try dsimp only
    refine nm_any ?_
    refine ⟨_, rfl, rfl, _, rfl, ?_⟩
    have rg := (CmT.rng eq (m := ss.length)).1 (ys.idxOf y)
    cases q : (SNs ys k x sv ss.length).lo (ys.idxOf y) with
    | none =>
      rw [q] at kq
      exact iteT ⟨_, rfl, kq⟩
    | some o =>
      rw [q] at kq
      obtain ⟨o1, o2⟩ := o
      obtain ⟨e0, l1⟩ := rg _ q
      cases e0
      obtain ⟨q0, hq⟩ : ∃ q, ss[0]? = some q := ⟨_, List.getElem?_eq_getElem l1⟩
      obtain ⟨t, e, r1, r2, r3⟩ := rows.2 0 q0 hq
      obtain ⟨dq, m, tm, q1, q2⟩ := hT.sen q0 (List.mem_of_getElem? hq)
      exact iteF ⟨_, rfl, g, CG, dg, _, _, rfl, hg, hG.c, hG.a3, rfl, _, rfl, tr, vr, _, .ref t, rfl, rfl, SqT.of e2, at_by (j := 0) rfl r1, t, _, _, .ref q0, rfl, rfl, SqT.of r2, at_by (j := 0) rfl rfl, q0, CS, dq, _, _, rfl, q1, hS.c, hS.a4, rfl, kq⟩
end
end Ask

/-! a def with one parameter and a star parameter -/
namespace Ask
open PySem PySem.Spec PyProof.Rows L2
section
variable {P : Program} {w : World} {K : PySem.W.Frag} {mg : Str → Option Value} {base : Heap}
/-- the promise of the values as the caller gives them -/
def spStar (sp : Sp) : Sp := fun vs H Q E => ∃ ws rest, vs = ws ++ rest ∧ ws.length = 1 ∧ rest.length ≤ sizeLine ∧ ∀ p, H p = none → sp (ws ++ [V.ref p]) (upd H p (.tup rest)) Q E
theorem Fun.star1 {x qual : Str} {st : Stmt} {f : Addr} {fd : FuncData} {N : List Str} {p1 pv : Str} {k : Nat} {sp : Sp} (F : Fun K x qual st f fd) (S : FnScope N ([p1] ++ [pv]) (defScope st))
    (hb : ∀ (kV doc pm : Value) (an : Option Addr) (cdv ct : Value) (us rest : List Value), us.length = [p1].length → bindArgs (PySem.W.fnOf x qual (defArgs st) (defBody st) (defScope st) .none kV doc pm an cdv ct) ⟨us ++ rest, []⟩ = (newTuple rest >>= fun t => pure ([p1].zip us ++ [(pv, t)])))
    (hbody : ∀ (cdv : Value) (A : Around) (outer : List Env) (s : Shared) (H : Hp) (vs : List V) (Q : VK) (E : XK), Room k (A.deeper (envOfC qual (defScope st) s.heap.objs.size f cdv)) → sp vs H Q E →
      ∃ t, PSs (cxOf (L2.CX P w) P w K mg base N qual (defScope st) f cdv A outer s H E) (defBody st) t ∧ t { nx := fun _ H' => Q .non H', rt := Q } (start N vs) H) : FnR P w K mg base (L2.CX P w) (k + 1) f (spStar sp) := by
  obtain ⟨oc, od, kV, doc, pm, an, cdv, ct, osl, rfl, lk, hcd⟩ := F.ex
  exact StX.fn_star lk hcd S StX.cxUp (hb kV doc pm an cdv ct) fun A outer s H vs Q E hr hsp => hbody cdv A outer s H vs Q E hr hsp
end
end Ask

/-! live letters required -/
namespace Ask
open PySem L2
theorem for_enum1 {K : PySem.W.Frag} {ta : TA} {g : TG} {tb : TS} {D : Ends} {σ : L2.St} {H : Hp} {J : It} {n : Nat} {G : Hp → Prop} {Y : Nat → Hp → V → Hp → Prop} (f : ∀ R : It → Hp → Prop, R J H → iEnumA K ta σ H R)
    (wk : Walk J n G Y) (Pv : Nat → L2.St → Hp → Prop) (h0 : Pv 0 σ H) (hG : ∀ i σ H, i ≤ n → Pv i σ H → G H)
    (hs : ∀ i x σ H H', i < n → Pv i σ H → Y i H x H' → g x σ H' fun σ2 H2 => tb { D with nx := Pv (i + 1), ct := Pv (i + 1), bk := D.nx } σ2 H2) (hd : ∀ σ H, Pv n σ H → D.nx σ H) :
    tFor (iEnumA K ta) g tb D σ H := by
  delta tFor
  exact f _ (for_it (D := D) wk Pv h0 hG hs hd)
section
variable {P : Program} {w : World} {K : PySem.W.Frag} {mg : Str → Option Value} {base : Heap}

abbrev s_NotLive___init__ : Stmt := inClass (top 21) 0
theorem sc_NotLive___init__ : FnScope ["self", "index"] ["self", "index"] (defScope s_NotLive___init__) := ⟨rfl, rfl, rfl, by decide +kernel, rfl, by decide +kernel, by decide +kernel⟩
theorem ok_initNotLive {f fC C : Addr} {fd fdC : FuncData} (F : Fun K "__init__" "NotLive.__init__" s_NotLive___init__ f fd) (T : OexC K C) (h1 : PySem.W.findIn K (.ref C) "index" = some none)
    (GC : FnOk P w K mg base CX0 1 fC fdC ["value"] spCopy) (CP : At K mg "copied" fC fdC ["value"]) : FnOk P w K mg base CX0 2 f fd ["self", "index"] (spErr C okBad fsBad) := by
  refine F.ok sc_NotLive___init__ (fun vs H Q E h => ?_) (fun cdv A outer s H vs Q E hr h => ?_)
  · obtain ⟨a, ws, rfl, ⟨i, rfl⟩, _⟩ := h
    rfl
  · obtain ⟨a, ws, rfl, ⟨i, rfl⟩, ha, k⟩ := h
    refine ⟨_, pss_one (ps_ost (pv 0) (pe_call GC hr (by rfl) CP.m CP.k CP.b .nil pass0 (pa_cons (pv 1) pa_nil))), ?_⟩
    refine ⟨_, rfl, _, rfl, .inl ⟨i, rfl⟩, _, rfl, a, C, rfl, T, h1, .inl ⟨ha, fun dx hdx hne => ?_⟩⟩
    refine k _ dx hdx hne upd_same (by rw [upd_ne hne]; exact upd_same) fun b o hb e => ?_
    rw [upd_ne hb, upd_ne (ne_of_none e hdx)]
    exact e
/-- what is asked of live letters: all are, or the first one that is not -/
def LiveQ (CN : Addr) (H : Hp) (live ws : List Str) (Q : Hp → Prop) (E : XK) : Prop :=
  ((∀ z ∈ ws, z ∈ live) ∧ ∀ H', Same H H' → Q H') ∨ ∃ (i : Nat) (z : Str), ws[i]? = some z ∧ z ∉ live ∧ (∀ j z', j < i → ws[j]? = some z' → z' ∈ live) ∧ ∀ (H' : Hp) (d : Addr), Same H H' → H' d = some (.xd (fsBad [iN i])) → E (.ref CN) (some d) H'
def spReqL (K : PySem.W.Frag) (CL CS CC CG CN : Addr) : Sp := fun vs H Q E => ∃ (g tw : Addr) (ys : List Str) (k x : Str) (s : V) (ss : List Addr) (ws : List Str), vs = [.ref g, .ref tw] ∧ ClsAt K CL CS CC CG H g ys k x s ss ∧ H tw = some (.tup (ws.map V.str)) ∧ (∀ z ∈ ws, z ∈ ys) ∧
  LiveQ CN H (liveW ys (SNs ys k x s ss.length)) ws (Q .non) E

abbrev s_Closing_require_live : Stmt := inClass (top 65) 7
theorem sc_Closing_require_live : FnScope ["self", "word", "index", "letter"] ["self", "word"] (defScope s_Closing_require_live) := ⟨rfl, rfl, rfl, by decide +kernel, rfl, by decide +kernel, by decide +kernel⟩
theorem ok_reqL {f CL CS CC CG CN fN fH : Addr} {fd fdN fdH : FuncData} (F : Fun K "require_live" "Closing.require_live" s_Closing_require_live f fd) (T : Blt mg) (hG : ClC K CG)
    (F_NotLive : FnOk P w K mg base CX0 2 fN fdN ["self", "index"] (spErr CN okBad fsBad)) (E_NotLive : ErrAt K mg "NotLive" CN fN fdN ["self", "index"])
    (GH : FnOk P w K mg base CX0 1 fH fdH ["self", "x"] (spHas CL)) (bH : Binds K fdH ["self", "x"] []) (hH : PySem.W.findIn K (.ref CL) "__contains__" = some (some (.ref fH))) (iH : PySem.W.isFn K (.ref fH) = true) : FnR P w K mg base (L2.CX P w) 4 f (spStar (spReqL K CL CS CC CG CN)) := by
  refine Ask.Fun.star1 F (p1 := "self") (pv := "word") sc_Closing_require_live (fun kV doc pm an cdv ct => StX.bind_star1 (B := fun l => PySem.bindArgs (PySem.W.fnOf "require_live" "Closing.require_live" (defArgs s_Closing_require_live) (defBody s_Closing_require_live) (defScope s_Closing_require_live) .none kV doc pm an cdv ct) ⟨l, []⟩) (fun _ => rfl) (fun _ _ _ => rfl)) (fun cdv A0 outer s H vs Q E hr h => ?_)
  obtain ⟨g, tw, ys, k, x, sv, ss, ws, rfl, hCl, hw, hws, kq⟩ := h
  have h_NotLive := hr
  have hr1 := hr.mono (j := 1) (by decide)
  refine ⟨_, (pss_cons (ps_for (passes_of rfl) rfl (pi_enumA (by rfl) T.n_enumerate (pa_cons (pv 1) pa_nil)) (pg_tup rfl (pgs_cons (pg_name (i := 2) sc_Closing_require_live.nd rfl (Or.inl rfl)) (pgs_cons (pg_name (i := 3) sc_Closing_require_live.nd rfl (Or.inl rfl)) pgs_nil))) (pss_one (ps_if (pt_cmpR (op_notInI (C := CL) (E := E0) GH hr1 bH pass0 hH iH) (pv 3) (pe_fld (pv 0) rfl) rfl) pss_no pss_nil)))
      (pss_one (ps_for (passes_of rfl) rfl (pi_enumA (by rfl) T.n_enumerate (pa_cons (pv 1) pa_nil)) (pg_tup rfl (pgs_cons (pg_name (i := 2) sc_Closing_require_live.nd rfl (Or.inl rfl)) (pgs_cons (pg_name (i := 3) sc_Closing_require_live.nd rfl (Or.inl rfl)) pgs_nil))) (pss_one (ps_if (pt_cmpR (op_notInW (hu_of hr)) (pv 3) (pe_fld (pv 0) rfl) rfl) (pss_one (ps_raise rfl (takes_of rfl rfl rfl rfl) (pmk_oex E_NotLive.o E_NotLive.i E_NotLive.t F_NotLive (by exact h_NotLive) E_NotLive.b .nil pass0 (by rfl) E_NotLive.m (pa_cons (pv 2) pa_nil)))) pss_nil))))), ?_⟩
  obtain ⟨dg, p, tw0, tr, tl, tv, A, vr, hg, _, _, _, hlv, hT⟩ := id hCl
  obtain ⟨tm, dm, om, hm, ht, ho⟩ := id hT.let_
  have hM : Mde CL H A.m tm ys := ⟨dm, om, hm, ht, ho⟩
  have hq : SqT K H tw (ws.map V.str) := SqT.of hw
  have nw : (ws.map V.str).length = ws.length := List.length_map ..
  refine for_enum (fun R r => ⟨_, rfl, tw, _, rfl, .inr ⟨hq, r⟩⟩) walk_enumT (fun i σ' H' => ∃ o2 o3 : Option V, σ' = [some (.ref g), some (.ref tw), o2, o3] ∧ Same H H') ⟨none, none, rfl, Same.refl H⟩ (fun i σ' H' _ ⟨_, _, _, s'⟩ => seqT_same s' hq) ?_ ?_
  · rintro i e σ' H2 H3 hi ⟨o2, o3, rfl, s2⟩ ⟨t2, x0, y0, rfl, ht2, rfl, ex, ey⟩
    cases ex
    rw [nw] at hi
    obtain ⟨y, hy⟩ : ∃ y, ws[i]? = some y := ⟨_, List.getElem?_eq_getElem hi⟩
    replace ey : (ws.map V.str)[i]? = some y0 := ey
    rw [List.getElem?_map, hy] at ey
    injection ey with ey
    subst ey
    have s3 := Ask.Same.made1 (o := .tup [.int (i : Nat), .str y]) s2 ht2
    have ht3 : upd H2 t2 (.tup [.int (i : Nat), .str y]) t2 = some (.tup [.int (i : Nat), .str y]) := upd_same
    generalize upd H2 t2 (.tup [.int (i : Nat), .str y]) = H4 at s3 ht3 ⊢
    refine ⟨t2, _, rfl, SqT.of ht3, rfl, _, _, rfl, _, _, rfl, rfl, ?_⟩
    have hin : InW H4 (.str y) ys true := .inl ⟨rfl, by rw [inV_str, decide_eq_true (hws y (List.mem_of_getElem? hy))]⟩
    exact ⟨_, rfl, _, rfl, g, CG, dg, _, _, rfl, s3 _ _ hg, hG.c, hG.a1, rfl, A.m, dm, _, rfl, s3 _ _ hm, A.m, tm, ys, .str y, true, rfl, hM.same s3, hin, true, rfl, _, rfl, iteF ⟨_, _, rfl, s3⟩⟩
  rintro σ' H1 ⟨o2, o3, rfl, s1⟩
  refine for_enum1 (fun R r => ⟨_, rfl, tw, _, rfl, .inr ⟨seqT_same s1 hq, r⟩⟩) walk_enumT (fun i σ' H' => (∀ j z, j < i → ws[j]? = some z → z ∈ liveW ys (SNs ys k x sv ss.length)) ∧ ∃ o2 o3 : Option V, σ' = [some (.ref g), some (.ref tw), o2, o3] ∧ Same H H') ⟨fun j z hj => absurd hj (Nat.not_lt_zero j), _, _, rfl, s1⟩ (fun i σ' H' _ ⟨_, _, _, _, s'⟩ => seqT_same s' hq) ?_ ?_
  · rintro i e σ' H2 H3 hi ⟨al, o2, o3, rfl, s2⟩ ⟨t2, x0, y0, rfl, ht2, rfl, ex, ey⟩
    cases ex
    rw [nw] at hi
    obtain ⟨y, hy⟩ : ∃ y, ws[i]? = some y := ⟨_, List.getElem?_eq_getElem hi⟩
    replace ey : (ws.map V.str)[i]? = some y0 := ey
    rw [List.getElem?_map, hy] at ey
    injection ey with ey
    subst ey
    have s3 := Ask.Same.made1 (o := .tup [.int (i : Nat), .str y]) s2 ht2
    have ht3 : upd H2 t2 (.tup [.int (i : Nat), .str y]) t2 = some (.tup [.int (i : Nat), .str y]) := upd_same
    generalize upd H2 t2 (.tup [.int (i : Nat), .str y]) = H4 at s3 ht3 ⊢
    refine ⟨t2, _, rfl, SqT.of ht3, rfl, _, _, rfl, _, _, rfl, rfl, ?_⟩
    by_cases c : y ∈ liveW ys (SNs ys k x sv ss.length)
    · have hin : InW H4 (.str y) (liveW ys (SNs ys k x sv ss.length)) true := .inl ⟨rfl, by rw [inV_str, decide_eq_true c]⟩
      refine ⟨_, rfl, _, rfl, g, CG, dg, _, _, rfl, s3 _ _ hg, hG.c, hG.a5, rfl, tv, _, true, rfl, SqT.of (s3 _ _ hlv), hin, _, rfl, iteF ⟨fun j z hj hz => ?_, _, _, rfl, s3⟩⟩
      rcases Nat.lt_or_ge j i with lt | ge
      · exact al j z lt hz
      · have : j = i := by omega
        subst this
        rw [hy] at hz
        cases hz
        exact c
    · have hin : InW H4 (.str y) (liveW ys (SNs ys k x sv ss.length)) false := .inl ⟨rfl, by rw [inV_str, decide_eq_false c]⟩
      refine ⟨_, rfl, _, rfl, g, CG, dg, _, _, rfl, s3 _ _ hg, hG.c, hG.a5, rfl, tv, _, false, rfl, SqT.of (s3 _ _ hlv), hin, _, rfl, iteT ?_⟩
      rcases kq with ⟨all, _⟩ | ⟨i0, z, hz, nz, fst, ke⟩
      · exact absurd (all y (List.mem_of_getElem? hy)) c
      · have ei : i0 = i := by
          rcases Nat.lt_trichotomy i0 i with lt | e | gt
          · exact absurd (al i0 z lt hz) nz
          · exact e
          · exact absurd (fst i y gt hy) c
        subst ei
        exact ⟨_, rfl, err_made s3 ⟨_, rfl⟩ (by show 1 ≤ 1000; decide) (fun H' d s' e => ke H' d s' e)⟩
  · rintro σ' H2 ⟨al, o2, o3, rfl, s2⟩
    rw [nw] at al
    rcases kq with ⟨_, k0⟩ | ⟨i0, z, hz, nz, _⟩
    · exact k0 H2 s2
    · exact absurd (al i0 z (List.getElem?_eq_some_iff.mp hz).1 hz) nz
end
end Ask

/-! pairs and still letters of a closing -/
namespace Ask
open PySem L2
theorem ClsAt.same {K : PySem.W.Frag} {CL CS CC CG : Addr} {H H' : Hp} {g : Addr} {ys : List Str} {k x : Str} {s : V} {ss : List Addr} (h : ClsAt K CL CS CC CG H g ys k x s ss) (e : Same H H') : ClsAt K CL CS CC CG H' g ys k x s ss := by
  obtain ⟨dg, p, tw, tr, tl, tv, A, vr, h1, h2, h3, h4, h5, h6⟩ := h
  exact ⟨dg, p, tw, tr, tl, tv, A, vr, e _ _ h1, e _ _ h2, e _ _ h3, h4.keep (fun a xs q => e _ _ q), e _ _ h5, h6.mono fun b o _ q => e _ _ q⟩
theorem ClsAt.eqOk {ys : List Str} {k x : Str} {s : V} (tk : TellOk ys k x s) : EqOk ys.length (bgR k) (eqL ys k x s).1 (eqL ys k x s).2 := eqOk_of rfl tk.hk tk.hx tk.hs tk.nf
def kindV (o : Rul) (k : Str) : V := match o with
  | none => .non
  | some _ => .str k
section
variable {P : Program} {w : World} {K : PySem.W.Frag} {mg : Str → Option Value} {base : Heap}
def spPair (K : PySem.W.Frag) (CL CS CC CG CN : Addr) : Sp := fun vs H Q E => ∃ (g : Addr) (ys : List Str) (k x : Str) (s : V) (ss : List Addr) (y z : Str), vs = [.ref g, .str y, .str z] ∧ ClsAt K CL CS CC CG H g ys k x s ss ∧ TellOk ys k x s ∧ y ∈ ys ∧ z ∈ ys ∧
  LiveQ CN H (liveW ys (SNs ys k x s ss.length)) [y, z] (Q (kindV ((SNs ys k x s ss.length).pr ys.length (ys.idxOf y) (ys.idxOf z)) k)) E

abbrev s_Closing_pair : Stmt := inClass (top 65) 8
theorem sc_Closing_pair : FnScope ["self", "x", "y", "row"] ["self", "x", "y"] (defScope s_Closing_pair) := ⟨rfl, rfl, rfl, by decide +kernel, rfl, by decide +kernel, by decide +kernel⟩
theorem ok_pair {f CL CS CC CG CN fR fP fK : Addr} {fd fdP fdK : FuncData} (F : Fun K "pair" "Closing.pair" s_Closing_pair f fd) (hG : ClC K CG)
    (GR : FnR P w K mg base (L2.CX P w) 4 fR (spStar (spReqL K CL CS CC CG CN))) (mR : Meth K CG "require_live" fR)
    (GP : FnOk P w K mg base CX0 1 fP fdP ["self", "x", "y"] (spPairR K CL CS CC CG)) (bP : Binds K fdP ["self", "x", "y"] []) (mP : Meth K CG "pair_rule" fP)
    (GK : FnOk P w K mg base CX0 1 fK fdK ["self", "row"] (spKindOf K CL CS CC CG)) (bK : Binds K fdK ["self", "row"] []) (mK : Meth K CG "kind_of" fK) : FnOk P w K mg base (L2.CX P w) 5 f fd ["self", "x", "y"] (spPair K CL CS CC CG CN) := by
  refine F.okX sc_Closing_pair (fun vs H Q E h => ?_) (fun cdv A0 outer s H vs Q E hr h => ?_)
  · obtain ⟨g, ys, k, x, s, ss, y, z, rfl, _⟩ := h
    rfl
  · obtain ⟨g, ys, k, x, sv, ss, y, z, rfl, hCl, tk, hy, hz, kq⟩ := h
    have h_require_live := hr.mono (j := 4) (by decide)
    have h_pair_rule := hr.mono (j := 1) (by decide)
    have h_kind_of := hr.mono (j := 1) (by decide)
    have z1 : (100000 : Nat) ≤ sizeLine := by decide
    refine ⟨_, (pss_cons (ps_expr (pe_methR (pv 0) hG.c mR GR h_require_live (passes_call (E := E) (takes_of rfl rfl rfl rfl) (fun _ _ _ _ h => h)) (pa_cons (pv 1) (pa_cons (pv 2) pa_nil))))
      (pss_cons (ps_set (i := 3) sc_Closing_pair.nd rfl (Or.inl rfl) (pe_meth (pv 0) hG.c mP GP h_pair_rule bP .nil pass0 (pa_cons (pv 1) (pa_cons (pv 2) pa_nil))))
      (pss_one (ps_ret (pe_ifExp (pt_cmpR op_isN (pv 3) pe_non (nomark _)) pe_non (pe_meth (pv 0) hG.c mK GK h_kind_of bK .nil pass0 (pa_cons (pv 3) pa_nil))))))), ?_⟩
    obtain ⟨dg, p, tw0, tr, tl, tv, A, vr, hg, _⟩ := id hCl
    refine ⟨_, rfl, g, dg, _, rfl, hg, rfl, _, rfl, _, rfl, [.ref g], [.str y, .str z], rfl, rfl, by show 2 ≤ sizeLine; omega, fun tw htw => ?_⟩
    have s1 := Ask.Same.upd_new (o := .tup [.str y, .str z]) (Same.refl H) htw
    refine ⟨g, tw, ys, k, x, sv, ss, [y, z], rfl, hCl.same s1, upd_same, fun q hq => by rcases List.mem_cons.mp hq with rfl | hq; exact hy; rw [List.mem_singleton.mp hq]; exact hz, ?_⟩
    rcases kq with ⟨all, kq⟩ | ⟨i, q, hi, nq, fst, ke⟩
    · refine .inl ⟨all, fun H2 s2 => ?_⟩
      have s12 := s1.trans s2
      try dsimp only
      refine ⟨_, rfl, g, dg, _, rfl, s12 _ _ hg, rfl, _, rfl, _, rfl, g, ys, k, x, sv, ss, y, z, rfl, hCl.same s12, hy, hz, ?_⟩
      try dsimp only
      refine nm_any ?_
      refine ⟨_, rfl, rfl, _, rfl, ?_⟩
      have rg := (CmT.rng (ClsAt.eqOk tk) (m := ss.length)).2.2 (ys.idxOf y) (ys.idxOf z)
      have kq := kq H2 s12
      cases e : (SNs ys k x sv ss.length).pr ys.length (ys.idxOf y) (ys.idxOf z) with
      | none =>
        rw [e] at kq
        exact iteT kq
      | some o =>
        rw [e] at kq
        obtain ⟨o1, o2⟩ := o
        obtain ⟨e0, l1⟩ := rg _ e
        cases e0
        exact iteF ⟨_, rfl, g, dg, _, rfl, s12 _ _ hg, rfl, _, rfl, g, ys, k, x, sv, ss, rfl, hCl.same s12, l1, kq⟩
    · exact .inr ⟨i, q, hi, nq, fst, fun H2 d s2 e => ke H2 d (s1.trans s2) e⟩
def spIsStill (K : PySem.W.Frag) (CL CS CC CG CN : Addr) : Sp := fun vs H Q E => ∃ (g : Addr) (ys : List Str) (k x : Str) (s : V) (ss : List Addr) (y : Str), vs = [.ref g, .str y] ∧ ClsAt K CL CS CC CG H g ys k x s ss ∧ y ∈ ys ∧
  LiveQ CN H (liveW ys (SNs ys k x s ss.length)) [y] (Q (.bl ((SNs ys k x s ss.length).stl (ys.idxOf y)).isSome)) E

abbrev s_Closing_is_still : Stmt := inClass (top 65) 9
theorem sc_Closing_is_still : FnScope ["self", "y"] ["self", "y"] (defScope s_Closing_is_still) := ⟨rfl, rfl, rfl, by decide +kernel, rfl, by decide +kernel, by decide +kernel⟩
theorem ok_isStill {f CL CS CC CG CN fR fP : Addr} {fd fdP : FuncData} (F : Fun K "is_still" "Closing.is_still" s_Closing_is_still f fd) (hG : ClC K CG)
    (GR : FnR P w K mg base (L2.CX P w) 4 fR (spStar (spReqL K CL CS CC CG CN))) (mR : Meth K CG "require_live" fR)
    (GP : FnOk P w K mg base CX0 1 fP fdP ["self", "letter"] (spStillR K CL CS CC CG)) (bP : Binds K fdP ["self", "letter"] []) (mP : Meth K CG "still_rule" fP) : FnOk P w K mg base (L2.CX P w) 5 f fd ["self", "y"] (spIsStill K CL CS CC CG CN) := by
  refine F.okX sc_Closing_is_still (fun vs H Q E h => ?_) (fun cdv A0 outer s H vs Q E hr h => ?_)
  · obtain ⟨g, ys, k, x, s, ss, y, rfl, _⟩ := h
    rfl
  · obtain ⟨g, ys, k, x, sv, ss, y, rfl, hCl, hy, kq⟩ := h
    have h_require_live := hr.mono (j := 4) (by decide)
    have h_still_rule := hr.mono (j := 1) (by decide)
    have z1 : (100000 : Nat) ≤ sizeLine := by decide
    refine ⟨_, (pss_cons (ps_expr (pe_methR (pv 0) hG.c mR GR h_require_live (passes_call (E := E) (takes_of rfl rfl rfl rfl) (fun _ _ _ _ h => h)) (pa_cons (pv 1) pa_nil)))
      (pss_one (ps_ret (pe_cmpR op_notN (pe_meth (pv 0) hG.c mP GP h_still_rule bP .nil pass0 (pa_cons (pv 1) pa_nil)) pe_non (nomark _))))), ?_⟩
    obtain ⟨dg, p, tw0, tr, tl, tv, A, vr, hg, _⟩ := id hCl
    refine ⟨_, rfl, g, dg, _, rfl, hg, rfl, _, rfl, [.ref g], [.str y], rfl, rfl, by show 1 ≤ sizeLine; omega, fun tw htw => ?_⟩
    have s1 := Ask.Same.upd_new (o := .tup [.str y]) (Same.refl H) htw
    refine ⟨g, tw, ys, k, x, sv, ss, [y], rfl, hCl.same s1, upd_same, fun q hq => by rw [List.mem_singleton.mp hq]; exact hy, ?_⟩
    rcases kq with ⟨all, kq⟩ | ⟨i, q, hi, nq, fst, ke⟩
    · refine .inl ⟨all, fun H2 s2 => ?_⟩
      have s12 := s1.trans s2
      try dsimp only
      refine ⟨_, rfl, g, dg, _, rfl, s12 _ _ hg, rfl, _, rfl, g, ys, k, x, sv, ss, y, rfl, hCl.same s12, hy, rfl, ?_⟩
      have kq := kq H2 s12
      cases e : (SNs ys k x sv ss.length).stl (ys.idxOf y) with
      | none => rw [e] at kq; exact kq
      | some o => rw [e] at kq; exact kq
    · exact .inr ⟨i, q, hi, nq, fst, fun H2 d s2 e => ke H2 d (s1.trans s2) e⟩
end
end Ask

/-! a comprehension with two for, by two walks -/
namespace Ask
open PySem L2 PySem.Spec PyProof.Rows
section
variable {J J1 : It} {n n1 : Nat} {G G1 : Hp → Prop} {Y Y1 : Nat → Hp → V → Hp → Prop} {wi wi1 : TI} {g g1 : TG} {tt tt1 : TT} {te : TE} {vs vs1 : List Nat} {σ : L2.St} {H : Hp} {Q : VK}
/-- the inner turns, behind which M holds -/
def In2 (J1 : It) (g1 : TG) (tt1 : TT) (te : TE) (vs1 : List Nat) (D : Addr) (σ2 : L2.St) (M : Hp → Prop) (H4 : Hp) : Prop := ∃ W1 : Nat → Nat → Hp → Prop, (∃ m, W1 0 m H4) ∧ ∀ j k H, W1 j k H → (J1.stop j H ∧ M H) ∨ (J1.go j H ∧ ∃ Nx1 : Hp → Prop, (∀ H', Nx1 H' → ∃ k', k' < k ∧ W1 (j + 1) k' H') ∧
  ∀ x H', J1.yld j H x H' → g1 x (wipe σ2 vs1) H' fun σ3 H5 => wipe σ3 vs1 = wipe σ2 vs1 ∧ tt1 σ3 H5 fun b H6 => if b = true then te σ3 H6 fun y H7 => ∃ acc, H7 D = some (.lst acc) ∧ acc.length < sizeLine ∧ Nx1 (upd H7 D (.lst (acc ++ [y]))) else Nx1 H6)
theorem in2_it (w1 : Walk J1 n1 G1 Y1) {D : Addr} {σ2 : L2.St} {M : Hp → Prop} {H4 : Hp} (Pw : Nat → Hp → Prop) (h0 : Pw 0 H4) (hG : ∀ j H, j ≤ n1 → Pw j H → G1 H)
    (hs : ∀ j x H H', j < n1 → Pw j H → Y1 j H x H' → g1 x (wipe σ2 vs1) H' fun σ3 H5 => wipe σ3 vs1 = wipe σ2 vs1 ∧ tt1 σ3 H5 fun b H6 => if b = true then te σ3 H6 fun y H7 => ∃ acc, H7 D = some (.lst acc) ∧ acc.length < sizeLine ∧ Pw (j + 1) (upd H7 D (.lst (acc ++ [y]))) else Pw (j + 1) H6)
    (hd : ∀ H, Pw n1 H → M H) : In2 J1 g1 tt1 te vs1 D σ2 M H4 := by
  refine ⟨fun j k H => k = n1 - j ∧ j ≤ n1 ∧ Pw j H, ⟨n1, by simp, Nat.zero_le _, h0⟩, ?_⟩
  rintro j k H ⟨rfl, hj, p⟩
  have q := hG j H hj p
  rcases Nat.lt_or_ge j n1 with lt | ge
  · exact .inr ⟨w1.goes j H lt q, Pw (j + 1), fun H' p' => ⟨n1 - (j + 1), by omega, rfl, lt, p'⟩, fun x H' y => hs j x H H' lt p (w1.yields j H x H' lt q y)⟩
  · obtain rfl : j = n1 := by omega
    exact .inl ⟨w1.stops H q, hd H p⟩
theorem lc2_it (f : ∀ R : It → Hp → Prop, R J H → wi σ H R) (wk : Walk J n G Y)
    (h : ∀ D, H D = none → ∃ Pv : Nat → Hp → Prop, Pv 0 (upd H D (.lst [])) ∧ (∀ i H, i ≤ n → Pv i H → G H) ∧
      (∀ i x H H', i < n → Pv i H → Y i H x H' → g x (wipe σ vs) H' fun σ2 H2 => wipe σ2 vs = wipe σ vs ∧ tt σ2 H2 fun b H3 => if b = true then wi1 σ2 H3 fun J1 H4 => In2 J1 g1 tt1 te vs1 D σ2 (Pv (i + 1)) H4 else Pv (i + 1) H3) ∧ (∀ H, Pv n H → Q (.ref D) H)) :
    tLc2 wi g tt wi1 g1 tt1 te vs vs1 σ H Q := by
  delta tLc2
  refine f _ fun D hD => ?_
  obtain ⟨Pv, h0, hG, hs, hd⟩ := h D hD
  refine ⟨fun i m H => m = n - i ∧ i ≤ n ∧ Pv i H, ⟨n, by simp, Nat.zero_le _, h0⟩, ?_⟩
  rintro i m H ⟨rfl, hi, p⟩
  have q := hG i H hi p
  rcases Nat.lt_or_ge i n with lt | ge
  · exact .inr ⟨wk.goes i H lt q, Pv (i + 1), fun H' p' => ⟨n - (i + 1), by omega, rfl, lt, p'⟩, fun x H' y => hs i x H H' lt p (wk.yields i H x H' lt q y)⟩
  · obtain rfl : i = n := by omega
    exact .inl ⟨wk.stops H q, hd H p⟩
end
end Ask

/-! the closed form of a closing -/
namespace Ask
open PySem L2
def rowsOf (l : List Rul) : List Nat := l.filterMap fun o => o.map (·.2)
theorem rowsOf_app (a b : List Rul) : rowsOf (a ++ b) = rowsOf a ++ rowsOf b := List.filterMap_append
def isE (b : Bool) (o : Rul) : Bool := match o with
  | none => false
  | some (r, _) => decide (r = []) == b
/-- the four parts of the closed form -/
def partsF (S : CmS) : List (List Rul) := [(S.lone.filter (·.isSome)).filter (isE true), (S.lone.filter (·.isSome)).filter (isE false), S.still, S.pairs]
def formR (S : CmS) : List Nat := (partsF S).flatMap rowsOf
theorem rowsOf_rep (n : Nat) : rowsOf (List.replicate n none) = [] := by
  unfold rowsOf
  induction n with
  | zero => rfl
  | succ n ih => rw [List.replicate_succ, List.filterMap_cons]; exact ih
theorem rowsOf_set {n i : Nat} (h : i < n) (r : List Nat) (row : Nat) : rowsOf ((List.replicate n (none : Rul)).set i (some (r, row))) = [row] := by
  induction n generalizing i with
  | zero => exact absurd h (Nat.not_lt_zero i)
  | succ n ih =>
    rw [List.replicate_succ]
    cases i with
    | zero =>
      rw [List.set_cons_zero]
      show rowsOf ([some (r, row)] ++ List.replicate n none) = _
      rw [rowsOf_app, rowsOf_rep]
      rfl
    | succ i =>
      rw [List.set_cons_succ]
      show rowsOf ([none] ++ (List.replicate n none).set i (some (r, row))) = _
      rw [rowsOf_app, ih (by omega)]
      rfl
theorem filt_rep (n : Nat) : (List.replicate n (none : Rul)).filter (·.isSome) = [] := by
  induction n with
  | zero => rfl
  | succ n ih => rw [List.replicate_succ, List.filter_cons_of_neg (by simp)]; exact ih
theorem filt_set {n i : Nat} (h : i < n) (o : List Nat × Nat) : ((List.replicate n (none : Rul)).set i (some o)).filter (·.isSome) = [some o] := by
  induction n generalizing i with
  | zero => exact absurd h (Nat.not_lt_zero i)
  | succ n ih =>
    rw [List.replicate_succ]
    cases i with
    | zero => rw [List.set_cons_zero, List.filter_cons_of_pos (by simp), filt_rep]
    | succ i => rw [List.set_cons_succ, List.filter_cons_of_neg (by simp)]; exact ih (by omega)
theorem formR_SN {n : Nat} {b : Str} {l r : List Nat} (e : EqOk n b l r) (m : Nat) : formR (SN n b l r m) = if m = 0 then [] else [0] := by
  cases m with
  | zero =>
    show formR (S0 n) = []
    unfold formR partsF S0
    simp only [List.flatMap_cons, List.flatMap_nil, filt_rep, List.filter_nil, rowsOf_rep, List.append_nil]
    rfl
  | succ m =>
    rw [if_neg (by omega)]
    show formR (S1 n b l r 0) = [0]
    cases e with
    | pair hx hy c =>
      unfold formR partsF S1 S0
      simp only [List.flatMap_cons, List.flatMap_nil, filt_rep, List.filter_nil, rowsOf_rep, List.append_nil, rowsOf_set (pr_lt hx hy)]
      rfl
    | still hx =>
      rw [S1_still]
      unfold formR partsF S0
      simp only [List.flatMap_cons, List.flatMap_nil, filt_rep, List.filter_nil, rowsOf_rep, List.append_nil, rowsOf_set hx]
      rfl
    | lone hx c =>
      rw [S1_lone]
      unfold formR partsF S0
      simp only [List.flatMap_cons, List.flatMap_nil, filt_set hx, rowsOf_rep, List.append_nil]
      rcases c with rfl | ⟨y, rfl, hy⟩
      · rfl
      · rfl
theorem RulL.app {H : Hp} {a : Addr} {l : List Rul} {vs : List V} {v : V} {o : Rul} (e : H a = some (.lst vs)) (h : RulL H a l) (r : RulV H o v) : RulL (upd H a (.lst (vs ++ [v]))) a (l ++ [o]) := by
  obtain ⟨ws, f1, f2, f3⟩ := h
  rw [e] at f1
  cases f1
  have bu : ButL a H (upd H a (.lst (vs ++ [v]))) := fun b o n q => by rw [upd_ne n]; exact q
  refine ⟨vs ++ [v], upd_same, by rw [List.length_append, List.length_append, f2]; rfl, fun m y o' g1 g2 => ?_⟩
  by_cases c : m < vs.length
  · rw [List.getElem?_append_left c] at g1
    rw [List.getElem?_append_left (by rw [← f2]; exact c)] at g2
    exact (f3 m y o' g1 g2).but e bu
  · rw [List.getElem?_append_right (by omega)] at g1 g2
    have : m - vs.length = 0 := by
      have := (List.getElem?_eq_some_iff.mp g1).1
      simp at this
      omega
    rw [this] at g1
    rw [← f2, this] at g2
    cases g1
    cases g2
    exact r.but e bu
theorem filt_app {α : Type} (p : α → Bool) (l : List α) (i : Nat) (o : α) (h : l[i]? = some o) : (l.take (i + 1)).filter p = (l.take i).filter p ++ (if p o = true then [o] else []) := by
  rw [List.take_add_one, h, List.filter_append]
  congr 1
  show List.filter _ [o] = _
  cases q : p o with
  | true => simp [List.filter, q]
  | false => simp [List.filter, q]
theorem lo_mem {S : CmS} {o : Rul} (h : o ∈ S.lone) : ∃ x, S.lo x = o := by
  obtain ⟨i, hi⟩ := List.mem_iff_getElem?.mp h
  exact ⟨i, by unfold CmS.lo; rw [hi]; rfl⟩
theorem st_mem {S : CmS} {o : Rul} (h : o ∈ S.still) : ∃ x, S.stl x = o := by
  obtain ⟨i, hi⟩ := List.mem_iff_getElem?.mp h
  exact ⟨i, by unfold CmS.stl; rw [hi]; rfl⟩
theorem pr_mem {S : CmS} {o : Rul} {n : Nat} (h : o ∈ S.pairs) (l : S.pairs.length = n * n) : ∃ x y, S.pr n x y = o := by
  obtain ⟨i, hi⟩ := List.mem_iff_getElem?.mp h
  have li := (List.getElem?_eq_some_iff.mp hi).1
  have n0 : 0 < n := by
    rcases Nat.eq_zero_or_pos n with z | z
    · rw [l, z] at li; omega
    · exact z
  refine ⟨i / n, i % n, ?_⟩
  unfold CmS.pr
  rw [Nat.mul_comm, Nat.div_add_mod, hi]
  rfl
theorem part_row {n : Nat} {b : Str} {l r : List Nat} (e : EqOk n b l r) {m : Nat} {l0 : List Rul} (h : l0 ∈ partsF (SN n b l r m)) {q : List Nat} {row : Nat} (hm : some (q, row) ∈ l0) : row = 0 ∧ 1 ≤ m := by
  obtain ⟨g1, g2, g3⟩ := CmT.rng e (m := m)
  have ln : (SN n b l r m).pairs.length = n * n := by
    cases m with
    | zero => exact List.length_replicate
    | succ m => exact S1_len.2.2
  unfold partsF at h
  simp only [List.mem_cons, List.not_mem_nil, or_false] at h
  rcases h with rfl | rfl | rfl | rfl
  · obtain ⟨x, hx⟩ := lo_mem (List.mem_filter.mp (List.mem_filter.mp hm).1).1
    exact g1 x _ hx
  · obtain ⟨x, hx⟩ := lo_mem (List.mem_filter.mp (List.mem_filter.mp hm).1).1
    exact g1 x _ hx
  · obtain ⟨x, hx⟩ := st_mem hm
    exact g2 x _ hx
  · obtain ⟨x, y, hx⟩ := pr_mem hm ln
    exact g3 x y _ hx
theorem SN_fit {n : Nat} {b : Str} {l r : List Nat} (e : EqOk n b l r) (m : Nat) : (SN n b l r m).Fit n 1 := by
  cases m with
  | zero => exact ⟨fun x q i h => (by rw [show (SN n b l r 0).lo x = none from S0_lo n x] at h; cases h), fun x q i h => (by rw [show (SN n b l r 0).stl x = none from S0_st n x] at h; cases h), fun x y q i h => (by rw [show (SN n b l r 0).pr n x y = none from S0_pr n x y] at h; cases h)⟩
  | succ m => exact S1_fit e (by decide)
section
variable {P : Program} {w : World} {K : PySem.W.Frag} {mg : Str → Option Value} {base : Heap}
def spFormC (K : PySem.W.Frag) (CL CS CC CG : Addr) : Sp := fun vs H Q _ => ∃ (g : Addr) (ys : List Str) (k x : Str) (s : V) (ss : List Addr), vs = [.ref g] ∧ ClsAt K CL CS CC CG H g ys k x s ss ∧ TellOk ys k x s ∧ ∀ (H' : Hp) (t : Addr), Same H H' → H' t = some (.tup ((ss.take 1).map V.ref)) → Q (.ref t) H'

abbrev s_Closing_form : Stmt := inClass (top 65) 10
theorem sc_Closing_form : FnScope ["self", "work", "lone", "rules", "rule", "part"] ["self"] (defScope s_Closing_form) := ⟨rfl, rfl, rfl, by decide +kernel, rfl, by decide +kernel, by decide +kernel⟩
theorem ok_formC {f CL CS CC CG : Addr} {fd : FuncData} (F : Fun K "form" "Closing.form" s_Closing_form f fd) (T : Blt mg) (hC : CmC K CC) (hG : ClC K CG) : FnOk P w K mg base CX0 1 f fd ["self"] (spFormC K CL CS CC CG) := by
  refine F.ok sc_Closing_form (fun vs H Q E h => ?_) (fun cdv A0 outer s H vs Q E hr h => ?_)
  · obtain ⟨g, ys, k, x, s, ss, rfl, _⟩ := h
    rfl
  · obtain ⟨g, ys, k, x, sv, ss, rfl, hCl, tk, kq⟩ := h
    have z1 : (100000 : Nat) ≤ sizeLine := by decide
    refine ⟨_, (pss_cons (ps_set (i := 1) sc_Closing_form.nd rfl (Or.inl rfl) (pe_fld (pv 0) rfl))
      (pss_cons (ps_setLc (i := 2) (own := [("rule", 4)]) rfl sc_Closing_form.nd rfl rfl (sw_true rfl rfl rfl (by decide +kernel)) (pi_list (pe_fld (pv 1) rfl)) (blkOk_by (N := ["self", "work", "lone", "rules", "rule", "part"]) (sc := defScope s_Closing_form) (by decide +kernel)) (fun _ _ _ _ _ => (pg_name (i := 4) sc_Closing_form.nd rfl (Or.inl rfl))) (fun _ _ _ _ _ => pts_one (pt_cmpR op_notN (pv 4) pe_non (nomark _))) (fun _ _ _ _ _ => (pv 4)))
      (pss_cons (ps_set (i := 3) sc_Closing_form.nd rfl (Or.inl rfl) (pe_lst (pa_cons (pe_lc (own := [("rule", 4)]) rfl sc_Closing_form.nd (pi_list (pv 2)) (blkOk_by (N := ["self", "work", "lone", "rules", "rule", "part"]) (sc := defScope s_Closing_form) (by decide +kernel)) (fun _ _ _ _ _ => (pg_name (i := 4) sc_Closing_form.nd rfl (Or.inl rfl))) (fun _ _ _ _ _ => pts_one (pt_cmpR (show OpR _ _ (rEqD K) from op_eqD hr.units) (pe_ix (show IxR _ (rIxT K) from ix_tup) (pv 4) pe_int (fun _ _ => rfl)) (pe_tup pa_nil) (nomark _))) (fun _ _ _ _ _ => (pv 4))) (pa_cons (pe_lc (own := [("rule", 4)]) rfl sc_Closing_form.nd (pi_list (pv 2)) (blkOk_by (N := ["self", "work", "lone", "rules", "rule", "part"]) (sc := defScope s_Closing_form) (by decide +kernel)) (fun _ _ _ _ _ => (pg_name (i := 4) sc_Closing_form.nd rfl (Or.inl rfl))) (fun _ _ _ _ _ => pts_one (pt_cmpR (show OpR _ _ (rNeD K) from op_neD hr.units) (pe_ix (show IxR _ (rIxT K) from ix_tup) (pv 4) pe_int (fun _ _ => rfl)) (pe_tup pa_nil) (nomark _))) (fun _ _ _ _ _ => (pv 4))) (pa_cons (pe_fld (pv 1) rfl) (pa_cons (pe_fld (pv 1) rfl) pa_nil))))))
      (pss_one (ps_ret (pe_callTy call_tuple_of (by rfl) T.n_tuple (by decide +kernel) (pa_cons (pe_lc2 (own := [("part", 5), ("rule", 4)]) (vs1 := [4]) rfl sc_Closing_form.nd (pi_list (pv 3)) (blkOk_by (N := ["self", "work", "lone", "rules", "rule", "part"]) (sc := defScope s_Closing_form) (by decide +kernel)) (by decide) (fun _ _ _ _ _ => (pg_name (i := 5) sc_Closing_form.nd rfl (Or.inl rfl))) (fun _ _ _ _ _ => pts_nil) (fun _ _ _ _ _ => (show PI _ _ _ (iList K _) from pi_list (pv 5))) (fun _ _ _ _ _ => (pg_name (i := 4) sc_Closing_form.nd rfl (Or.inl rfl))) (fun _ _ _ _ _ => pts_one (pt_cmpR op_notN (pv 4) pe_non (nomark _))) (fun _ _ _ _ _ => (pe_ix (show IxR _ (rIxT K) from ix_tup) (pe_ix (show IxR _ (rIxT K) from ix_tup) (show PE _ _ (tFld K _ "rows") from pe_fld (pv 0) rfl) (pe_ix (show IxR _ (rIxT K) from ix_tup) (pv 4) pe_int (fun _ _ => rfl)) (fun _ _ => rfl)) pe_int (fun _ _ => rfl)))) pa_nil))))))), ?_⟩
    obtain ⟨dg, p, tw, tr, tl, tv, A, vr, hg, _, e2, rows, _, hT⟩ := id hCl
    obtain ⟨dx, R0⟩ := id hT.cm
    have eq := ClsAt.eqOk tk
    obtain ⟨S, hS⟩ : ∃ S, S = SN ys.length (bgR k) (eqL ys k x sv).1 (eqL ys k x sv).2 ss.length := ⟨_, rfl⟩
    have R : CmR K CC H p dx A ys.length 0 S := by rw [hS]; exact R0
    have n12 := R.n12
    have n144 : ys.length * ys.length ≤ 144 := Nat.mul_le_mul n12 n12
    have bnd : ∀ (r : List Nat) (row : Nat), some (r, row) ∈ S.lone.filter (·.isSome) → ∀ k ∈ r, k ≤ 1000 := fun r row hm k hk => by
      obtain ⟨x, hx⟩ := lo_mem (List.mem_filter.mp hm).1
      rw [hS] at hx
      have := ((SN_fit eq ss.length).lo x r row hx).2.1 k hk
      omega
    obtain ⟨v1, f1, f1', f1''⟩ := id R.lone
    refine ⟨_, rfl, g, CG, dg, _, _, rfl, hg, hG.c, hG.a7, rfl, ?_⟩
    try dsimp only
    refine nm_any ?_
    refine ⟨_, rfl, p, CC, dx, _, _, rfl, R.at_, hC.c, hC.a6, rfl, A.lo, rfl, ⟨_, SqL.of f1⟩, fun L0 hL0 => ?_⟩
    refine lc_it (walk_list (xs := v1)) (fun i H' => RulL H' L0 ((S.lone.take i).filter (·.isSome)) ∧ Same H H') ⟨⟨[], upd_same, rfl, fun i v o e => by cases e⟩, Ask.Same.upd_new (Same.refl _) hL0⟩ (fun _ H' _ ⟨_, s'⟩ => SqL.of (s' _ _ f1)) ?_ ?_
    · rintro i v HB' HB hi ⟨p1, p2⟩ ⟨rfl, hv⟩
      obtain ⟨o, ho⟩ : ∃ o, S.lone[i]? = some o := ⟨_, List.getElem?_eq_getElem (by rw [← f1']; exact hi)⟩
      have rv := (f1'' i v o hv ho).same p2
      obtain ⟨ws, q1, q2, q3⟩ := id p1
      have lw : ws.length < sizeLine := by
        have := List.length_filter_le (·.isSome) (S.lone.take i)
        have := R.l1
        rw [List.length_take] at *
        omega
      refine ⟨rfl, _, rfl, rfl, _, rfl, ?_⟩
      rw [rv.non]
      rw [filt_app (·.isSome) S.lone i o ho]
      cases o with
      | none =>
        refine iteF ⟨?_, p2⟩
        rw [if_neg (by decide), List.append_nil]
        exact p1
      | some ri =>
        refine iteT ⟨_, rfl, ws, q1, lw, ?_, Ask.Same.upd_new p2 hL0⟩
        rw [if_pos (by rfl)]
        exact RulL.app q1 p1 rv
    rintro H2 ⟨pL0, s2⟩
    rw [f1', List.take_length] at pL0
    obtain ⟨vs0, u1, u2, u3⟩ := id pL0
    try dsimp only
    refine nm_any ?_
    refine ⟨_, rfl, L0, rfl, ⟨_, SqL.of ((Same.refl H2) _ _ u1)⟩, fun L1 hL1 => ?_⟩
    refine lc_it (walk_list (xs := vs0)) (fun i H' => RulL H' L1 (((S.lone.filter (·.isSome)).take i).filter (isE true)) ∧ Same H2 H') ⟨⟨[], upd_same, rfl, fun i v o e => by cases e⟩, Ask.Same.upd_new ((Same.refl H2)) hL1⟩ (fun _ H' _ ⟨_, s'⟩ => SqL.of (s' _ _ u1)) ?_ ?_
    · rintro i v HB' HB hi ⟨p1, p2⟩ ⟨rfl, hv⟩
      obtain ⟨o, ho⟩ : ∃ o, (S.lone.filter (·.isSome))[i]? = some o := ⟨_, List.getElem?_eq_getElem (by rw [← u2]; exact hi)⟩
      have rv := (u3 i v o hv ho).same p2
      have os : o.isSome = true := (List.mem_filter.mp (List.mem_of_getElem? ho)).2
      obtain ⟨⟨r, row⟩, rfl⟩ := Option.isSome_iff_exists.mp os
      obtain ⟨t, a, rfl, et, ea⟩ := id rv
      obtain ⟨ws, q1, q2, q3⟩ := id p1
      have lw : ws.length < sizeLine := by
        have := List.length_filter_le (isE true) ((S.lone.filter (·.isSome)).take i)
        have := List.length_filter_le (·.isSome) S.lone
        have := R.l1
        rw [List.length_take] at *
        omega
      have br : ∀ k ∈ r, k ≤ 1000 := bnd _ _ (List.mem_of_getElem? ho)
      refine ⟨rfl, _, rfl, t, _, _, .ref a, rfl, rfl, SqT.of et, at_by (j := 0) rfl rfl, by show 0 ≤ sizeLine; omega, fun u hu => ?_⟩
      have s3 := Ask.Same.upd_new (o := .tup []) (Same.refl HB) hu
      refine ⟨.tuple (r.map fun k : Nat => PyData.int k), .tuple (([] : List Nat).map fun k : Nat => PyData.int k), .tup (SqT.of (s3 _ _ ea)) (dp_ints r), .tup (SqT.of upd_same) (dp_ints []), natsT_shaped br, natsT_shaped (fun k hk => by cases hk), ?_⟩
      rw [eqvT_nats]
      have tk1 := filt_app (isE true) (S.lone.filter (·.isSome)) i _ ho
      refine ⟨_, rfl, ?_⟩
      have rv3 := rv.same s3
      have q3' := s3 _ _ q1
      have p3 := p1.same s3
      have s23 := p2.trans s3
      generalize upd HB u (.tup []) = HC at rv3 q3' p3 s23 ⊢
      rw [tk1]
      by_cases c : r = []
      · rw [decide_eq_true c]
        refine iteT ⟨_, rfl, ws, q3', lw, ?_, Ask.Same.upd_new s23 hL1⟩
        rw [if_pos (by unfold isE; dsimp only; rw [decide_eq_true c]; rfl)]
        exact RulL.app q3' p3 rv3
      · rw [decide_eq_false c]
        refine iteF ⟨?_, s23⟩
        rw [if_neg (by unfold isE; dsimp only; rw [decide_eq_false c]; decide), List.append_nil]
        exact p3
    rintro H3 ⟨pL1, s3⟩
    rw [u2, List.take_length] at pL1
    replace u1 := s3 _ _ u1
    replace u3 : ∀ (i : Nat) (v : V) (o : Rul), vs0[i]? = some v → (S.lone.filter (·.isSome))[i]? = some o → RulV H3 o v := fun i v o a b => (u3 i v o a b).same s3
    refine ⟨_, rfl, L0, rfl, ⟨_, SqL.of u1⟩, fun L2 hL2 => ?_⟩
    refine lc_it (walk_list (xs := vs0)) (fun i H' => RulL H' L2 (((S.lone.filter (·.isSome)).take i).filter (isE false)) ∧ Same H3 H') ⟨⟨[], upd_same, rfl, fun i v o e => by cases e⟩, Ask.Same.upd_new ((Same.refl H3)) hL2⟩ (fun _ H' _ ⟨_, s'⟩ => SqL.of (s' _ _ u1)) ?_ ?_
    · rintro i v HB' HB hi ⟨p1, p2⟩ ⟨rfl, hv⟩
      obtain ⟨o, ho⟩ : ∃ o, (S.lone.filter (·.isSome))[i]? = some o := ⟨_, List.getElem?_eq_getElem (by rw [← u2]; exact hi)⟩
      have rv := (u3 i v o hv ho).same p2
      have os : o.isSome = true := (List.mem_filter.mp (List.mem_of_getElem? ho)).2
      obtain ⟨⟨r, row⟩, rfl⟩ := Option.isSome_iff_exists.mp os
      obtain ⟨t, a, rfl, et, ea⟩ := id rv
      obtain ⟨ws, q1, q2, q3⟩ := id p1
      have lw : ws.length < sizeLine := by
        have := List.length_filter_le (isE false) ((S.lone.filter (·.isSome)).take i)
        have := List.length_filter_le (·.isSome) S.lone
        have := R.l1
        rw [List.length_take] at *
        omega
      have br : ∀ k ∈ r, k ≤ 1000 := bnd _ _ (List.mem_of_getElem? ho)
      refine ⟨rfl, _, rfl, t, _, _, .ref a, rfl, rfl, SqT.of et, at_by (j := 0) rfl rfl, by show 0 ≤ sizeLine; omega, fun u hu => ?_⟩
      have s3' := Ask.Same.upd_new (o := .tup []) (Same.refl HB) hu
      refine ⟨.tuple (r.map fun k : Nat => PyData.int k), .tuple (([] : List Nat).map fun k : Nat => PyData.int k), .tup (SqT.of (s3' _ _ ea)) (dp_ints r), .tup (SqT.of upd_same) (dp_ints []), natsT_shaped br, natsT_shaped (fun k hk => by cases hk), ?_⟩
      rw [eqvT_nats]
      have tk1 := filt_app (isE false) (S.lone.filter (·.isSome)) i _ ho
      refine ⟨_, rfl, ?_⟩
      have rv3 := rv.same s3'
      have q3' := s3' _ _ q1
      have p3 := p1.same s3'
      have s23 := p2.trans s3'
      generalize upd HB u (.tup []) = HC at rv3 q3' p3 s23 ⊢
      rw [tk1]
      by_cases c : r = []
      · rw [decide_eq_true c]
        refine iteF ⟨?_, s23⟩
        rw [if_neg (by unfold isE; dsimp only; rw [decide_eq_true c]; decide), List.append_nil]
        exact p3
      · rw [decide_eq_false c]
        refine iteT ⟨_, rfl, ws, q3', lw, ?_, Ask.Same.upd_new s23 hL2⟩
        rw [if_pos (by unfold isE; dsimp only; rw [decide_eq_false c]; rfl)]
        exact RulL.app q3' p3 rv3
    rintro H4 ⟨pL2, s4⟩
    rw [u2, List.take_length] at pL2
    have s04 := (s2.trans s3).trans s4
    have R4 := R.same s04
    refine ⟨_, rfl, p, CC, dx, _, _, rfl, R4.at_, hC.c, hC.a7, rfl, _, rfl, p, CC, dx, _, _, rfl, R4.at_, hC.c, hC.a8, rfl, by show 4 ≤ sizeLine; omega, fun Lr hLr => ?_⟩
    have s5 := Ask.Same.upd_new (o := .lst [.ref L1, .ref L2, .ref A.st, .ref A.pr]) (Same.refl H4) hLr
    have e5 : upd H4 Lr (.lst [.ref L1, .ref L2, .ref A.st, .ref A.pr]) Lr = some (.lst ([L1, L2, A.st, A.pr].map V.ref)) := upd_same
    generalize upd H4 Lr (.lst [.ref L1, .ref L2, .ref A.st, .ref A.pr]) = H5 at s5 e5 ⊢
    have s05 := s04.trans s5
    have parts : ∀ (i : Nat) (q : Addr) (l0 : List Rul), [L1, L2, A.st, A.pr][i]? = some q → (partsF S)[i]? = some l0 → RulL H5 q l0 := fun i q l0 a b => by
      match i, a, b with
      | 0, a, b => cases a; cases b; exact (pL1.same s4).same s5
      | 1, a, b => cases a; cases b; exact pL2.same s5
      | 2, a, b => cases a; cases b; exact (R.same s05).still
      | 3, a, b => cases a; cases b; exact (R.same s05).pairs
    try dsimp only
    refine nm_any ?_
    have one : ∀ l0 ∈ partsF S, ∀ r row, some (r, row) ∈ l0 → row = 0 ∧ 1 ≤ ss.length := fun l0 h r row hm => part_row eq (by rw [hS] at h; exact h) hm
    have lens : ∀ l0 ∈ partsF S, l0.length ≤ 144 := fun l0 h => by
      have a1 := List.length_filter_le (·.isSome) S.lone
      have a2 := List.length_filter_le (isE true) (S.lone.filter (·.isSome))
      have a3 := List.length_filter_le (isE false) (S.lone.filter (·.isSome))
      have b1 := R.l1
      have b2 := R.l2
      have b3 := R.l3
      unfold partsF at h
      simp only [List.mem_cons, List.not_mem_nil, or_false] at h
      rcases h with rfl | rfl | rfl | rfl <;> omega
    refine ret_cb ?_
    refine lc2_it (fun Rr hR => ⟨_, rfl, Lr, rfl, ⟨_, SqL.of e5⟩, hR⟩) (walk_list (xs := [L1, L2, A.st, A.pr].map V.ref)) fun D hD => ⟨fun i H' => Same H5 H' ∧ H' D = some (.lst ((((partsF S).take i).flatMap rowsOf).map fun n => V.ref ((ss[n]?).getD 0))), ⟨Ask.Same.upd_new (Same.refl _) hD, upd_same⟩, fun i H' _ hh => SqL.of (hh.1 _ _ e5), ?_, ?_⟩
    · rintro i v HB' HB hi ⟨p2, p1⟩ ⟨rfl, hv⟩
      have hi4 : i < 4 := hi
      obtain ⟨q, hq⟩ : ∃ q, [L1, L2, A.st, A.pr][i]? = some q := ⟨_, List.getElem?_eq_getElem hi4⟩
      rw [List.getElem?_map, hq] at hv
      cases hv
      obtain ⟨l0, hl0⟩ : ∃ l0, (partsF S)[i]? = some l0 := ⟨_, List.getElem?_eq_getElem (by show i < 4; exact hi4)⟩
      have m0 := List.mem_of_getElem? hl0
      obtain ⟨ws, w1, w2, w3⟩ := parts i q l0 hq hl0
      have tkF : ((partsF S).take (i + 1)).flatMap rowsOf = ((partsF S).take i).flatMap rowsOf ++ rowsOf l0 := by
        rw [List.take_add_one, hl0, List.flatMap_append]
        show _ ++ [l0].flatMap rowsOf = _
        rw [List.flatMap_cons, List.flatMap_nil, List.append_nil]
      have rl : ∀ l : List Rul, (rowsOf l).length ≤ l.length := fun l => List.length_filterMap_le _ _
      have lenF : (((partsF S).take i).flatMap rowsOf).length ≤ 576 := by
        have h4 : ∀ (m : List (List Rul)), (∀ l0 ∈ m, l0.length ≤ 144) → (m.flatMap rowsOf).length ≤ 144 * m.length := fun m => by
          induction m with
          | nil => intro _; exact Nat.le_refl _
          | cons a m ih =>
            intro h
            rw [List.flatMap_cons, List.length_append, List.length_cons]
            have h1 := ih fun l0 hl => h l0 (List.mem_cons_of_mem _ hl)
            have h2 := rl a
            have h3 := h a List.mem_cons_self
            omega
        have h5 := h4 ((partsF S).take i) fun l0 hl => lens l0 (List.mem_of_mem_take hl)
        have h6 : ((partsF S).take i).length ≤ 4 := by rw [List.length_take]; exact Nat.min_le_right _ _
        omega
      refine ⟨rfl, _, rfl, q, rfl, ⟨_, SqL.of (p2 _ _ w1)⟩, ?_⟩
      refine in2_it (walk_list (xs := ws)) (fun j H' => Same H5 H' ∧ H' D = some (.lst ((((partsF S).take i).flatMap rowsOf ++ rowsOf (l0.take j)).map fun n => V.ref ((ss[n]?).getD 0)))) ⟨p2, by rw [List.take_zero]; show _ = some (HO.lst ((_ ++ []).map _)); rw [List.append_nil]; exact p1⟩ (fun _ H' _ hh => SqL.of (hh.1 _ _ w1)) ?_ ?_
      · rintro j v HC' HC hj ⟨c2, c1⟩ ⟨rfl, hv⟩
        obtain ⟨o, ho⟩ : ∃ o, l0[j]? = some o := ⟨_, List.getElem?_eq_getElem (by rw [← w2]; exact hj)⟩
        have rv := (w3 j v o hv ho).same c2
        refine ⟨rfl, _, rfl, rfl, _, rfl, ?_⟩
        rw [rv.non]
        have tko : rowsOf (l0.take (j + 1)) = rowsOf (l0.take j) ++ rowsOf [o] := by
          rw [List.take_add_one, ho, rowsOf_app]
          rfl
        rw [tko]
        cases o with
        | none =>
          refine iteF ⟨c2, ?_⟩
          show _ = some (HO.lst ((_ ++ (_ ++ [])).map _))
          rw [List.append_nil]
          exact c1
        | some ri =>
          obtain ⟨r, row⟩ := ri
          obtain ⟨e0, l1⟩ := one l0 m0 r row (List.mem_of_getElem? ho)
          subst e0
          obtain ⟨t, a, rfl, et, ea⟩ := id rv
          obtain ⟨q0, hq0⟩ : ∃ q, ss[0]? = some q := ⟨_, List.getElem?_eq_getElem l1⟩
          obtain ⟨t0, e, r1, r2, r3⟩ := rows.2 0 q0 hq0
          have c05 := s05.trans c2
          refine iteT ⟨_, rfl, g, CG, dg, _, _, rfl, c05 _ _ hg, hG.c, hG.a3, rfl, _, rfl, t, _, _, iN 0, rfl, rfl, SqT.of et, at_by (j := 1) rfl rfl, tr, vr, _, .ref t0, rfl, rfl, SqT.of (c05 _ _ e2), at_by (j := 0) rfl r1, t0, _, _, .ref q0, rfl, rfl, SqT.of (c05 _ _ r2), at_by (j := 0) rfl rfl, _, c1, ?_, Ask.Same.upd_new c2 hD, ?_⟩
          · have := lens l0 m0
            have := rl (l0.take j)
            rw [List.length_take] at this
            rw [List.length_map, List.length_append]
            omega
          · rw [upd_same, show rowsOf [some (r, 0)] = [0] from rfl]
            simp only [List.map_append, List.map_cons, List.map_nil, List.append_assoc, hq0, Option.getD_some]
      · rintro H6 ⟨s6, d6⟩
        rw [w2, List.take_length] at d6
        exact ⟨s6, by rw [tkF]; exact d6⟩
    · rintro H6 ⟨s6, d6⟩
      have fr : ((partsF S).take ([L1, L2, A.st, A.pr].map V.ref).length).flatMap rowsOf = if ss.length = 0 then [] else [0] := by
        show ((partsF S).take 4).flatMap rowsOf = _
        rw [show (partsF S).take 4 = partsF S from rfl, ← formR_SN eq ss.length, hS]
        rfl
      rw [fr] at d6
      have e1 : ((if ss.length = 0 then [] else [0]).map fun n => V.ref ((ss[n]?).getD 0)) = (ss.take 1).map V.ref := by
        cases ss with
        | nil => rfl
        | cons a r => rfl
      rw [e1] at d6
      exact ⟨D, _, rfl, .inl ⟨SqL.of d6, fun t ht => kq _ t (Ask.Same.made1 (s05.trans s6) ht) upd_same⟩⟩
end
end Ask

/-! the law's own rules, and their closed form -/
namespace Ask
open PySem L2
/-- the least letter of y by the law's rules -/
def lstV (k x : Str) (s : V) (y : Str) : V := if y = x ∧ (k = "idle" ∨ k = "alike") then s else .str y
def PK (k : Str) : Prop := k = "kept" ∨ k = "over" ∨ k = "undone"
instance (k : Str) : Decidable (PK k) := by unfold PK; exact inferInstance
def pairsD (k x : Str) (s : V) : List (List Key × V) := match s with
  | .str y => if PK k then [([Sum.inr x, Sum.inr y], .str k)] else []
  | _ => []
def stillD (k x : Str) : List V := if k = "still" then [.str x] else []
/-- the law's rules stand at R -/
structure RulesAt (H : Hp) (R : Addr) (ys : List Str) (k x : Str) (s : V) (LD LS LP : Addr) : Prop where
  at_ : H R = some (.dK [(Sum.inr "least", .ref LD), (Sum.inr "still", .ref LS), (Sum.inr "pairs", .ref LP)])
  le : ∃ kvs, H LD = some (.dK kvs) ∧ ∀ y ∈ ys, valV kvs (Sum.inr y) = some (lstV k x s y)
  st : H LS = some (.lst (stillD k x))
  pr : H LP = some (.dT (pairsD k x s))
theorem RulesAt.same {H H' : Hp} {R LD LS LP : Addr} {ys : List Str} {k x : Str} {s : V} (h : RulesAt H R ys k x s LD LS LP) (e : Same H H') : RulesAt H' R ys k x s LD LS LP :=
  ⟨e _ _ h.at_, let ⟨kvs, a, b⟩ := h.le; ⟨kvs, e _ _ a, b⟩, e _ _ h.st, e _ _ h.pr⟩
/-- tuples in a list -/
def TrsL (H : Hp) (vs : List V) (ts : List (List V)) : Prop := vs.length = ts.length ∧ ∀ (i : Nat) (v : V) (t : List V), vs[i]? = some v → ts[i]? = some t → ∃ a : Addr, v = V.ref a ∧ H a = some (.tup t)
theorem TrsL.same {H H' : Hp} {vs : List V} {ts : List (List V)} (h : TrsL H vs ts) (e : Same H H') : TrsL H' vs ts := ⟨h.1, fun i v t a b => let ⟨q, c, d⟩ := h.2 i v t a b; ⟨q, c, e _ _ d⟩⟩
theorem TrsL.nil (H : Hp) : TrsL H [] [] := ⟨rfl, fun i v t a => by cases a⟩
theorem TrsL.app {H : Hp} {vs us : List V} {ts ss : List (List V)} (h : TrsL H vs ts) (h2 : TrsL H us ss) : TrsL H (vs ++ us) (ts ++ ss) := by
  refine ⟨by rw [List.length_append, List.length_append, h.1, h2.1], fun i v t a b => ?_⟩
  by_cases c : i < vs.length
  · rw [List.getElem?_append_left c] at a
    rw [List.getElem?_append_left (by rw [← h.1]; exact c)] at b
    exact h.2 i v t a b
  · rw [List.getElem?_append_right (by omega)] at a
    rw [List.getElem?_append_right (by rw [← h.1]; omega), ← h.1] at b
    exact h2.2 _ v t a b
theorem TrsL.one {H : Hp} {a : Addr} {t : List V} (h : H a = some (.tup t)) : TrsL H [.ref a] [t] := by
  refine ⟨rfl, fun i v u e1 e2 => ?_⟩
  match i, e1, e2 with
  | 0, e1, e2 => cases e1; cases e2; exact ⟨a, rfl, h⟩
/-- a list that grows keeps the tuples -/
theorem TrsL.grow {H : Hp} {vs : List V} {ts : List (List V)} {L : Addr} {xs ys : List V} (h : TrsL H vs ts) (e : H L = some (.lst xs)) : TrsL (upd H L (.lst ys)) vs ts := ⟨h.1, fun i v t a b => by
  obtain ⟨q, c, d⟩ := h.2 i v t a b
  exact ⟨q, c, by rw [upd_ne (fun z => by rw [z, e] at d; cases d)]; exact d⟩⟩
theorem filter_one {ys : List Str} (nd : ys.Nodup) {x : Str} (hx : x ∈ ys) {p : Str → Bool} (h : ∀ y, p y = decide (y = x)) : ys.filter p = [x] := by
  induction ys with
  | nil => cases hx
  | cons y r ih =>
    rw [List.nodup_cons] at nd
    by_cases c : y = x
    · subst c
      rw [List.filter_cons_of_pos (by rw [h]; simp), List.filter_eq_nil_iff.mpr (fun z hz => by rw [h, decide_eq_true_iff]; exact fun e => nd.1 (e ▸ hz))]
    · rw [List.filter_cons_of_neg (by rw [h]; simpa using c)]
      exact ih nd.2 ((List.mem_cons.mp hx).resolve_left (fun e => c e.symm))
def liveL (ys : List Str) (k x : Str) (s : V) : List Str := ys.filter fun y => decide (lstV k x s y = .str y)
def f1 (ys : List Str) (k x : Str) (s : V) : List (List V) := (ys.filter fun y => decide (lstV k x s y = .non)).map fun y => [.str "idle", .str y, .non]
def f2 (ys : List Str) (k x : Str) (s : V) : List (List V) := (ys.filter fun y => !inV (lstV k x s y) [.non, .str y]).map fun y => [.str "alike", .str y, lstV k x s y]
def f3 (ys : List Str) (k x : Str) (s : V) : List (List V) := ((liveL ys k x s).filter fun y => inV (.str y) (stillD k x)).map fun y => [.str "still", .str y, .non]
def hasP (k x : Str) (s : V) (a b : Str) : Bool := (valV (pairsD k x s) [Sum.inr a, Sum.inr b]).isSome
def f4a (ys : List Str) (k x : Str) (s : V) (a : Str) : List (List V) := ((liveL ys k x s).filter fun b => hasP k x s a b).map fun b => [.str k, .str a, .str b]
def f4 (ys zs : List Str) (k x : Str) (s : V) : List (List V) := zs.flatMap fun a => f4a ys k x s a
theorem filter_none {α : Type} {ys : List α} {p : α → Bool} (h : ∀ y ∈ ys, p y = false) : ys.filter p = [] := List.filter_eq_nil_iff.mpr fun z hz => by rw [h z hz]; decide
theorem filter_all {α : Type} {ys : List α} {p : α → Bool} (h : ∀ y ∈ ys, p y = true) : ys.filter p = ys := List.filter_eq_self.mpr h
theorem inV_own (y : Str) : inV (.str y) [.non, .str y] = true := by
  unfold inV
  simp [eqV]
theorem inV_non (y : Str) : inV .non [.non, .str y] = true := by
  unfold inV
  simp [eqV]
theorem inV_oth {y z : Str} (h : z ≠ y) : inV (.str z) [.non, .str y] = false := by
  unfold inV
  simp [eqV, Ne.symm h]
theorem flatMap_one {β : Type} {ys : List Str} (nd : ys.Nodup) {x : Str} (hx : x ∈ ys) {f : Str → List β} {l : List β} (h1 : f x = l) (h2 : ∀ y, y ≠ x → f y = []) : ys.flatMap f = l := by
  induction ys with
  | nil => cases hx
  | cons y r ih =>
    rw [List.nodup_cons] at nd
    rw [List.flatMap_cons]
    by_cases c : y = x
    · subst c
      rw [h1, List.flatMap_eq_nil_iff.mpr (fun z hz => h2 z (fun e => nd.1 (e ▸ hz))), List.append_nil]
    · rw [h2 y c, List.nil_append]
      exact ih nd.2 ((List.mem_cons.mp hx).resolve_left (fun e => c e.symm))
theorem stD_no {k x : Str} (h : k ≠ "still") (y : Str) : inV (.str y) (stillD k x) = false := by
  unfold stillD
  rw [if_neg h]
  rfl
theorem hasP_no {k x : Str} {s : V} (h : ¬ PK k) (a b : Str) : hasP k x s a b = false := by
  unfold hasP pairsD
  cases s with
  | str y => dsimp only; rw [if_neg h]; rfl
  | _ => rfl
theorem f3_no {ys : List Str} {k x : Str} {s : V} (h : k ≠ "still") : f3 ys k x s = [] := by
  unfold f3
  rw [filter_none (p := fun y => inV (.str y) (stillD k x)) fun y _ => stD_no h y]
  rfl
theorem f4_no {ys zs : List Str} {k x : Str} {s : V} (h : ¬ PK k) : f4 ys zs k x s = [] := by
  unfold f4
  refine List.flatMap_eq_nil_iff.mpr fun a _ => ?_
  unfold f4a
  rw [filter_none (p := fun b => hasP k x s a b) fun b _ => hasP_no h a b]
  rfl
theorem law_form {ys : List Str} {k x : Str} {s : V} (nd : ys.Nodup) (tk : TellOk ys k x s) : f1 ys k x s ++ f2 ys k x s ++ f3 ys k x s ++ f4 ys (liveL ys k x s) k x s = [[.str k, .str x, s]] := by
  obtain ⟨hk, hx, hs, hn⟩ := tk
  have plain : ¬ (k = "idle" ∨ k = "alike") → ∀ y, lstV k x s y = .str y := fun h y => if_neg fun z => h z.2
  by_cases ci : k = "idle"
  · subst ci
    have es := hs.2 (by decide)
    subst es
    have lv : ∀ y, lstV "idle" x .non y = if y = x then .non else .str y := fun y => by unfold lstV; simp
    have e1 : f1 ys "idle" x .non = [[.str "idle", .str x, .non]] := by
      unfold f1
      rw [filter_one nd hx (p := fun y => decide (lstV "idle" x .non y = .non)) fun y => by rw [lv]; by_cases c : y = x <;> simp [c]]
      rfl
    have e2 : f2 ys "idle" x .non = [] := by
      unfold f2
      rw [filter_none fun y _ => by rw [lv]; by_cases c : y = x <;> simp [c, inV_own, inV_non]]
      rfl
    have e3 : f3 ys "idle" x .non = [] := f3_no (by decide)
    have e4 : f4 ys (liveL ys "idle" x .non) "idle" x .non = [] := f4_no (by decide)
    rw [e1, e2, e3, e4]
    rfl
  by_cases ca : k = "alike"
  · subst ca
    obtain ⟨z, rfl, lz⟩ := hn rfl
    have zx : z ≠ x := fun e => by rw [e] at lz; omega
    have lv : ∀ y, lstV "alike" x (.str z) y = if y = x then .str z else .str y := fun y => by unfold lstV; simp
    have e1 : f1 ys "alike" x (.str z) = [] := by
      unfold f1
      rw [filter_none fun y _ => by rw [lv]; by_cases c : y = x <;> simp [c]]
      rfl
    have e2 : f2 ys "alike" x (.str z) = [[.str "alike", .str x, .str z]] := by
      unfold f2
      rw [filter_one nd hx (p := fun y => !inV (lstV "alike" x (.str z) y) [.non, .str y]) fun y => by
        rw [lv]
        by_cases c : y = x
        · rw [if_pos c, c, inV_oth zx]; simp
        · rw [if_neg c, inV_own]; simp [c]]
      show [[V.str "alike", V.str x, lstV "alike" x (.str z) x]] = _
      rw [lv, if_pos rfl]
    have e3 : f3 ys "alike" x (.str z) = [] := f3_no (by decide)
    have e4 : f4 ys (liveL ys "alike" x (.str z)) "alike" x (.str z) = [] := f4_no (by decide)
    rw [e1, e2, e3, e4]
    rfl
  have pl := plain (fun h => h.elim ci ca)
  have e1 : f1 ys k x s = [] := by
    unfold f1
    rw [filter_none fun y _ => by rw [pl]; simp]
    rfl
  have e2 : f2 ys k x s = [] := by
    unfold f2
    rw [filter_none fun y _ => by rw [pl, inV_own]; rfl]
    rfl
  have el : liveL ys k x s = ys := filter_all fun y _ => by rw [pl]; simp
  rw [e1, e2, el, List.nil_append, List.nil_append]
  by_cases cs : k = "still"
  · subst cs
    have es := hs.2 (by decide)
    subst es
    have e3 : f3 ys "still" x .non = [[.str "still", .str x, .non]] := by
      unfold f3
      rw [el, filter_one nd hx (p := fun y => inV (.str y) (stillD "still" x)) fun y => by
        show inV (.str y) ([x].map V.str) = _
        rw [inV_str]
        simp]
      rfl
    have e4 : f4 ys ys "still" x .non = [] := f4_no (by decide)
    rw [e3, e4]
    rfl
  · have e3 : f3 ys k x s = [] := f3_no cs
    have nl : k ∉ LK := by
      intro h
      simp only [LK, List.mem_cons, List.not_mem_nil, or_false] at h
      exact h.elim ci cs
    have pk : PK k := by
      simp only [KL, List.mem_cons, List.not_mem_nil, or_false] at hk
      unfold PK
      rcases hk with h | h | h | h | h | h
      · exact absurd h ci
      · exact .inl h
      · exact absurd h cs
      · exact .inr (.inl h)
      · exact .inr (.inr h)
      · exact absurd h ca
    obtain ⟨y, rfl, hy⟩ := hs.1 nl
    have hp : ∀ a b, hasP k x (.str y) a b = decide (a = x ∧ b = y) := fun a b => by
      unfold hasP pairsD valV
      dsimp only
      rw [if_pos pk]
      by_cases c : a = x ∧ b = y
      · obtain ⟨rfl, rfl⟩ := c
        simp
      · have n : ¬ ([Sum.inr x, Sum.inr y] : List Key) = [Sum.inr a, Sum.inr b] := fun e => by
          injection e with e1 e2
          injection e2 with e2 _
          exact c ⟨(Sum.inr.inj e1).symm, (Sum.inr.inj e2).symm⟩
        rw [decide_eq_false c]
        simp [n]
    have e4 : f4 ys ys k x (.str y) = [[.str k, .str x, .str y]] := by
      unfold f4
      refine flatMap_one nd hx ?_ fun a ne => ?_
      · unfold f4a
        rw [el, filter_one nd hy (p := fun b => hasP k x (.str y) x b) fun b => by rw [hp]; simp]
        rfl
      · unfold f4a
        rw [filter_none fun b _ => by rw [hp]; simp [ne]]
        rfl
    rw [e3, e4]
    rfl
end Ask

/-! the law's triple of a sentence; the closed form by the law's rules -/
namespace Ask
open PySem L2
theorem TrsL.push {H : Hp} {vs : List V} {ts : List (List V)} {D t : Addr} {tt : List V} (h : TrsL H vs ts) (e : H D = some (.lst vs)) (ht : H t = some (.tup tt)) : TrsL (upd H D (.lst (vs ++ [.ref t]))) (vs ++ [.ref t]) (ts ++ [tt]) := (h.app (TrsL.one ht)).grow e
abbrev rkv (LD LS LP : Addr) : List (Key × V) := [(Sum.inr "least", .ref LD), (Sum.inr "still", .ref LS), (Sum.inr "pairs", .ref LP)]
theorem rkv_le (LD LS LP : Addr) : valV (rkv LD LS LP) (Sum.inr "least") = some (.ref LD) := by rw [valV_pos rfl]
theorem rkv_st (LD LS LP : Addr) : valV (rkv LD LS LP) (Sum.inr "still") = some (.ref LS) := by
  rw [valV_neg (fun q => absurd (Sum.inr.inj q) (by decide)), valV_pos rfl]
theorem rkv_pr (LD LS LP : Addr) : valV (rkv LD LS LP) (Sum.inr "pairs") = some (.ref LP) := by
  rw [valV_neg (fun q => absurd (Sum.inr.inj q) (by decide)), valV_neg (fun q => absurd (Sum.inr.inj q) (by decide)), valV_pos rfl]
theorem RulesAt.gle {H : Hp} {R LD LS LP : Addr} {ys : List Str} {k x : Str} {s : V} (h : RulesAt H R ys k x s LD LS LP) : DGet H R (.str "least") (some (.ref LD)) := by have := DGet.k (k := Sum.inr "least") h.at_; rw [rkv_le] at this; exact this
theorem RulesAt.gst {H : Hp} {R LD LS LP : Addr} {ys : List Str} {k x : Str} {s : V} (h : RulesAt H R ys k x s LD LS LP) : DGet H R (.str "still") (some (.ref LS)) := by have := DGet.k (k := Sum.inr "still") h.at_; rw [rkv_st] at this; exact this
theorem RulesAt.gpr {H : Hp} {R LD LS LP : Addr} {ys : List Str} {k x : Str} {s : V} (h : RulesAt H R ys k x s LD LS LP) : DGet H R (.str "pairs") (some (.ref LP)) := by have := DGet.k (k := Sum.inr "pairs") h.at_; rw [rkv_pr] at this; exact this
theorem RulesAt.gl {H : Hp} {R LD LS LP : Addr} {ys : List Str} {k x : Str} {s : V} (h : RulesAt H R ys k x s LD LS LP) {y : Str} (hy : y ∈ ys) : DGet H LD (.str y) (some (lstV k x s y)) := by
  obtain ⟨kvs, e, f⟩ := h.le
  have := DGet.k (k := Sum.inr y) e
  rw [f y hy] at this
  exact this
theorem RulesAt.gp {H : Hp} {R LD LS LP t : Addr} {ys : List Str} {k x : Str} {s : V} (h : RulesAt H R ys k x s LD LS LP) {y z : Str} (ht : H t = some (.tup [.str y, .str z])) : DGet H LP (.ref t) (valV (pairsD k x s) [Sum.inr y, Sum.inr z]) := DGet.t (k := [Sum.inr y, Sum.inr z]) h.pr ht
theorem lst_cases {k x : Str} {s : V} {ys : List Str} (hs : SOk ys k s) (y : Str) : lstV k x s y = .non ∨ ∃ z, lstV k x s y = .str z := by
  unfold lstV
  split
  · rcases hs.cases with rfl | ⟨z, rfl, _⟩
    · exact .inl rfl
    · exact .inr ⟨z, rfl⟩
  · exact .inr ⟨y, rfl⟩
theorem lst_scal {k x : Str} {s : V} {ys : List Str} (hs : SOk ys k s) (y z : Str) : scal (lstV k x s y) (.str z) = true := by
  rcases lst_cases (x := x) hs y with e | ⟨q, e⟩ <;> rw [e] <;> rfl
theorem lst_flat {k x : Str} {s : V} {ys : List Str} (hs : SOk ys k s) (y : Str) : flatV (lstV k x s y) = true := by
  rcases lst_cases (x := x) hs y with e | ⟨q, e⟩ <;> rw [e] <;> rfl
theorem pairs_val {k x : Str} {s : V} {a b : Str} (h : hasP k x s a b = true) : valV (pairsD k x s) [Sum.inr a, Sum.inr b] = some (.str k) := by
  unfold hasP at h
  unfold pairsD valV at *
  cases s with
  | str y =>
    dsimp only at *
    by_cases c : PK k
    · rw [if_pos c] at *
      rw [List.find?_cons] at *
      split at h
      · rename_i q; rfl
      · cases h
    · rw [if_neg c] at *
      cases h
  | _ => cases h
section
variable {P : Program} {w : World} {K : PySem.W.Frag} {mg : Str → Option Value} {base : Heap}
def spTriple (K : PySem.W.Frag) (CL CS : Addr) : Sp := fun vs H Q _ => ∃ (p : Addr) (ys : List Str) (k x : Str) (s : V), vs = [.ref p] ∧ SenAt K CL CS H p ys k x s ∧ ∀ q, H q = none → Q (.ref q) (upd H q (.tup [.str k, .str x, s]))
abbrev s__law_triple : Stmt := top 72
theorem sc__law_triple : FnScope ["_law_sentence_here"] ["_law_sentence_here"] (defScope s__law_triple) := ⟨rfl, rfl, rfl, by decide +kernel, rfl, by decide +kernel, by decide +kernel⟩
theorem ok_triple {f CL CS : Addr} {fd : FuncData} (F : Fun K "_law_triple" "_law_triple" s__law_triple f fd) (hS : SnC K CS) : FnOk P w K mg base CX0 1 f fd ["_law_sentence_here"] (spTriple K CL CS) := by
  refine F.ok sc__law_triple (fun vs H Q E h => ?_) (fun cdv A0 outer s H vs Q E hr h => ?_)
  · obtain ⟨p, ys, k, x, s, rfl, _⟩ := h
    rfl
  · obtain ⟨p, ys, k, x, sv, rfl, ⟨dx, m, t, hp, hm⟩, kq⟩ := h
    have z1 : (100000 : Nat) ≤ sizeLine := by decide
    refine ⟨_, (pss_one (ps_ret (pe_tup (pa_cons (pe_fld (pv 0) rfl) (pa_cons (pe_fld (pv 0) rfl) (pa_cons (pe_fld (pv 0) rfl) pa_nil)))))), ?_⟩
    exact ⟨_, rfl, p, CS, dx, _, _, rfl, hp, hS.c, hS.a2, rfl, _, rfl, p, CS, dx, _, _, rfl, hp, hS.c, hS.a3, rfl, _, rfl, p, CS, dx, _, _, rfl, hp, hS.c, hS.a4, rfl, by show 3 ≤ sizeLine; omega, kq⟩
def spLForm (K : PySem.W.Frag) : Sp := fun vs H Q _ => ∃ (a R LD LS LP : Addr) (ys : List Str) (k x : Str) (s : V), vs = [.ref a, .ref R] ∧ SqL K H a (ys.map V.str) ∧ ys.Nodup ∧ ys.length ≤ 100 ∧ RulesAt H R ys k x s LD LS LP ∧ TellOk ys k x s ∧
  ∀ (H' : Hp) (q t : Addr), Same H H' → H' q = some (.lst [.ref t]) → H' t = some (.tup [.str k, .str x, s]) → Q (.ref q) H'

abbrev s__law_form : Stmt := top 75
theorem sc__law_form : FnScope ["_law_letters_here", "_law_rules", "_law_least", "_law_live", "_law_found", "_law_x", "_law_y"] ["_law_letters_here", "_law_rules"] (defScope s__law_form) := ⟨rfl, rfl, rfl, by decide +kernel, rfl, by decide +kernel, by decide +kernel⟩
theorem ok_lform {f : Addr} {fd : FuncData} (F : Fun K "_law_form" "_law_form" s__law_form f fd) : FnOk P w K mg base CX0 1 f fd ["_law_letters_here", "_law_rules"] (spLForm K) := by
  refine F.ok sc__law_form (fun vs H Q E h => ?_) (fun cdv A0 outer s H vs Q E hr h => ?_)
  · obtain ⟨a, R, LD, LS, LP, ys, k, x, s, rfl, _⟩ := h
    rfl
  · obtain ⟨a, R, LD, LS, LP, ys, k, x, sv, rfl, ha, nd, l100, hR, tk, kq⟩ := h
    have z1 : (100000 : Nat) ≤ sizeLine := by decide
    have hu := hu_of hr
    refine ⟨_, (pss_cons (ps_set (i := 2) sc__law_form.nd rfl (Or.inr rfl) (pe_dget hu (pv 1) pe_str (fun _ _ => rfl)))
      (pss_cons (ps_setLc (i := 3) (own := [("_law_x", 5)]) rfl sc__law_form.nd rfl rfl (sw_true rfl rfl rfl (by decide +kernel)) (pi_list (pv 0)) (blkOk_by (N := ["_law_letters_here", "_law_rules", "_law_least", "_law_live", "_law_found", "_law_x", "_law_y"]) (sc := defScope s__law_form) (by decide +kernel)) (fun _ _ _ _ _ => (pg_name (i := 5) sc__law_form.nd rfl (Or.inl rfl))) (fun _ _ _ _ _ => pts_one (pt_cmpR (show OpR _ _ rEq from op_eq) (pe_dget hu (pv 2) (pv 5) (fun _ _ => rfl)) (pv 5) (nomark _))) (fun _ _ _ _ _ => (pv 5)))
      (pss_cons (ps_setLc (i := 4) (own := [("_law_x", 5)]) rfl sc__law_form.nd rfl rfl (sw_true rfl rfl rfl (by decide +kernel)) (pi_list (pv 0)) (blkOk_by (N := ["_law_letters_here", "_law_rules", "_law_least", "_law_live", "_law_found", "_law_x", "_law_y"]) (sc := defScope s__law_form) (by decide +kernel)) (fun _ _ _ _ _ => (pg_name (i := 5) sc__law_form.nd rfl (Or.inl rfl))) (fun _ _ _ _ _ => pts_one (pt_cmpR op_isN (pe_dget hu (pv 2) (pv 5) (fun _ _ => rfl)) pe_non (nomark _))) (fun _ _ _ _ _ => (pe_tup (pa_cons pe_str (pa_cons (pv 5) (pa_cons pe_non pa_nil))))))
      (pss_cons (ps_set (i := 4) sc__law_form.nd rfl (Or.inl rfl) (pe_op op_cat (pv 4) (pe_lc (own := [("_law_x", 5)]) rfl sc__law_form.nd (pi_list (pv 0)) (blkOk_by (N := ["_law_letters_here", "_law_rules", "_law_least", "_law_live", "_law_found", "_law_x", "_law_y"]) (sc := defScope s__law_form) (by decide +kernel)) (fun _ _ _ _ _ => (pg_name (i := 5) sc__law_form.nd rfl (Or.inl rfl))) (fun _ _ _ _ _ => pts_one (pt_cmpR (show OpR _ _ (rIn K true) from op_notIn_seq) (pe_dget hu (pv 2) (pv 5) (fun _ _ => rfl)) (pe_tup (pa_cons pe_non (pa_cons (pv 5) pa_nil))) rfl)) (fun _ _ _ _ _ => (pe_tup (pa_cons pe_str (pa_cons (pv 5) (pa_cons (pe_dget hu (pv 2) (pv 5) (fun _ _ => rfl)) pa_nil))))))))
      (pss_cons (ps_set (i := 4) sc__law_form.nd rfl (Or.inl rfl) (pe_op op_cat (pv 4) (pe_lc (own := [("_law_y", 6)]) rfl sc__law_form.nd (pi_list (pv 3)) (blkOk_by (N := ["_law_letters_here", "_law_rules", "_law_least", "_law_live", "_law_found", "_law_x", "_law_y"]) (sc := defScope s__law_form) (by decide +kernel)) (fun _ _ _ _ _ => (pg_name (i := 6) sc__law_form.nd rfl (Or.inl rfl))) (fun _ _ _ _ _ => pts_one (pt_cmpR (show OpR _ _ (rIn K false) from op_in_seq) (pv 6) (pe_dget hu (pv 1) pe_str (fun _ _ => rfl)) rfl)) (fun _ _ _ _ _ => (pe_tup (pa_cons pe_str (pa_cons (pv 6) (pa_cons pe_non pa_nil))))))))
      (pss_cons (ps_for PassesOwn.never rfl (pi_list (pv 3)) (pg_name (i := 5) sc__law_form.nd rfl (Or.inr rfl)) (pss_one (ps_set (i := 4) sc__law_form.nd rfl (Or.inl rfl) (pe_op op_cat (pv 4) (pe_lc (own := [("_law_y", 6)]) rfl sc__law_form.nd (pi_list (pv 3)) (blkOk_by (N := ["_law_letters_here", "_law_rules", "_law_least", "_law_live", "_law_found", "_law_x", "_law_y"]) (sc := defScope s__law_form) (by decide +kernel)) (fun _ _ _ _ _ => (pg_name (i := 6) sc__law_form.nd rfl (Or.inl rfl))) (fun _ _ _ _ _ => pts_one (pt_cmp (pc_din hu (pe_tup (pa_cons (pv 5) (pa_cons (pv 6) pa_nil))) (pe_dget hu (pv 1) pe_str (fun _ _ => rfl))) rfl)) (fun _ _ _ _ _ => (pe_tup (pa_cons (pe_dget hu (pe_dget hu (pv 1) pe_str (fun _ _ => rfl)) (pe_tup (pa_cons (pv 5) (pa_cons (pv 6) pa_nil))) (fun _ _ => rfl)) (pa_cons (pv 5) (pa_cons (pv 6) pa_nil))))))))))
      (pss_one (ps_ret (pv 4))))))))), ?_⟩
    have lenF : ∀ (p : Str → Bool) (zs : List Str) (i : Nat), zs.length ≤ 100 → ((zs.take i).filter p).length ≤ 100 := fun p zs i h => by
      have := List.length_filter_le p (zs.take i)
      rw [List.length_take] at this
      omega
    refine ⟨_, rfl, R, _, rfl, hR.gle, ?_⟩
    try dsimp only
    refine nm_any ?_
    refine ⟨_, rfl, a, rfl, ⟨_, ha⟩, fun L hL => ?_⟩
    refine lc_it (walk_list (xs := ys.map V.str)) (fun i H' => H' L = some (.lst (((ys.take i).filter fun y => decide (lstV k x sv y = .str y)).map V.str)) ∧ Same H H') ⟨by rw [upd_same, List.take_zero]; rfl, Ask.Same.upd_new (Same.refl _) hL⟩ (fun _ H' _ ⟨_, s'⟩ => Same.seq s' ha) ?_ ?_
    · rintro i v HB' HB hi ⟨p1, p2⟩ ⟨rfl, hv⟩
      rw [List.length_map] at hi
      obtain ⟨y, hy⟩ : ∃ y, ys[i]? = some y := ⟨_, List.getElem?_eq_getElem hi⟩
      rw [List.getElem?_map, hy] at hv
      cases hv
      have my := List.mem_of_getElem? hy
      have ll := lenF (fun y => decide (lstV k x sv y = .str y)) ys i l100
      refine ⟨rfl, _, rfl, _, rfl, LD, _, rfl, (hR.same p2).gl my, _, rfl, lst_scal tk.hs y y, _, rfl, ?_⟩
      rw [filt_app (fun y => decide (lstV k x sv y = .str y)) ys i y hy]
      by_cases c : lstV k x sv y = .str y
      · rw [decide_eq_true c]
        refine iteT ⟨_, rfl, _, p1, by rw [List.length_map]; omega, ?_, Ask.Same.upd_new p2 hL⟩
        rw [upd_same, if_pos rfl, List.map_append]
        rfl
      · rw [decide_eq_false c]
        refine iteF ⟨?_, p2⟩
        rw [if_neg (by decide), List.append_nil]
        exact p1
    rintro H2 ⟨pL, s2⟩
    rw [List.length_map, List.take_length] at pL
    have pL : H2 L = some (.lst ((liveL ys k x sv).map V.str)) := pL
    have l3 : (liveL ys k x sv).length ≤ 100 := by have := lenF (fun y => decide (lstV k x sv y = .str y)) ys ys.length l100; rw [List.take_length] at this; exact this
    have lsub : ∀ y ∈ liveL ys k x sv, y ∈ ys := fun y h => (List.mem_filter.mp h).1
    try dsimp only
    refine nm_any ?_
    refine ⟨_, rfl, a, rfl, ⟨_, Same.seq s2 ha⟩, fun F1 hF1 => ?_⟩
    refine lc_it (walk_list (xs := ys.map V.str)) (fun i H' => (∃ vs, H' F1 = some (.lst vs) ∧ TrsL H' vs (f1 (ys.take i) k x sv)) ∧ Same H2 H') ⟨⟨[], by rw [upd_same], TrsL.nil _⟩, Ask.Same.upd_new (Same.refl _) hF1⟩ (fun _ H' _ ⟨_, s'⟩ => Same.seq (s2.trans s') ha) ?_ ?_
    · rintro i v HB' HB hi ⟨⟨vs, q1, q2⟩, p2⟩ ⟨rfl, hv⟩
      rw [List.length_map] at hi
      obtain ⟨y, hy⟩ : ∃ y, ys[i]? = some y := ⟨_, List.getElem?_eq_getElem hi⟩
      rw [List.getElem?_map, hy] at hv
      cases hv
      have my := List.mem_of_getElem? hy
      have lv : vs.length ≤ 100 := by rw [q2.1]; unfold f1; rw [List.length_map]; exact lenF _ ys i l100
      have st : f1 (ys.take (i + 1)) k x sv = f1 (ys.take i) k x sv ++ (if lstV k x sv y = .non then [[.str "idle", .str y, .non]] else []) := by
        unfold f1
        rw [filt_app _ ys i y hy, List.map_append]
        by_cases c : lstV k x sv y = .non
        · rw [decide_eq_true c, if_pos rfl, if_pos c]; rfl
        · rw [decide_eq_false c, if_neg (by decide), if_neg c]; rfl
      rw [st]
      refine ⟨rfl, _, rfl, _, rfl, LD, _, rfl, ((hR.same s2).same p2).gl my, rfl, _, rfl, ?_⟩
      by_cases c : lstV k x sv y = .non
      · rw [decide_eq_true c, if_pos c]
        refine iteT ⟨_, rfl, by show 3 ≤ sizeLine; omega, fun t ht => ?_⟩
        have s3 := Ask.Same.upd_new (o := .tup [.str "idle", .str y, .non]) (Same.refl HB) ht
        refine ⟨vs, s3 _ _ q1, by omega, ⟨_, upd_same, TrsL.push (q2.same s3) (s3 _ _ q1) upd_same⟩, Ask.Same.upd_new (p2.trans s3) hF1⟩
      · rw [decide_eq_false c, if_neg c, List.append_nil]
        exact iteF ⟨⟨vs, q1, q2⟩, p2⟩
    rintro H3 ⟨⟨vs1, q1, t1⟩, s3⟩
    rw [List.length_map, List.take_length] at t1
    try dsimp only
    refine nm_any ?_
    refine ⟨_, rfl, _, rfl, a, rfl, ⟨_, Same.seq (s2.trans s3) ha⟩, fun F2 hF2 => ?_⟩
    refine lc_it (walk_list (xs := ys.map V.str)) (fun i H' => (∃ vs, H' F2 = some (.lst vs) ∧ TrsL H' vs (f2 (ys.take i) k x sv)) ∧ Same H3 H') ⟨⟨[], by rw [upd_same], TrsL.nil _⟩, Ask.Same.upd_new (Same.refl _) hF2⟩ (fun _ H' _ ⟨_, s'⟩ => Same.seq ((s2.trans s3).trans s') ha) ?_ ?_
    · rintro i v HB' HB hi ⟨⟨vs, w1, w2⟩, p2⟩ ⟨rfl, hv⟩
      rw [List.length_map] at hi
      obtain ⟨y, hy⟩ : ∃ y, ys[i]? = some y := ⟨_, List.getElem?_eq_getElem hi⟩
      rw [List.getElem?_map, hy] at hv
      cases hv
      have my := List.mem_of_getElem? hy
      have lv : vs.length ≤ 100 := by rw [w2.1]; unfold f2; rw [List.length_map]; exact lenF _ ys i l100
      have st : f2 (ys.take (i + 1)) k x sv = f2 (ys.take i) k x sv ++ (if inV (lstV k x sv y) [.non, .str y] = true then [] else [[.str "alike", .str y, lstV k x sv y]]) := by
        unfold f2
        rw [filt_app _ ys i y hy, List.map_append]
        cases c : inV (lstV k x sv y) [.non, .str y] with
        | true => rfl
        | false => rfl
      rw [st]
      have gl := ((hR.same (s2.trans s3)).same p2).gl my
      refine ⟨rfl, _, rfl, _, rfl, LD, _, rfl, gl, _, rfl, by show 2 ≤ sizeLine; omega, fun u hu => ?_⟩
      have su := Ask.Same.upd_new (o := .tup [.non, .str y]) (Same.refl HB) hu
      refine ⟨u, _, rfl, .inr (SqT.of upd_same), lst_flat tk.hs y, rfl, _, rfl, ?_⟩
      cases c : inV (lstV k x sv y) [.non, .str y] with
      | true =>
        exact iteF ⟨⟨vs, su _ _ w1, by rw [if_pos rfl, List.append_nil]; exact w2.same su⟩, p2.trans su⟩
      | false =>
        have gl2 := ((hR.same (s2.trans s3)).same (p2.trans su)).gl my
        refine iteT ⟨_, rfl, _, rfl, _, rfl, LD, _, rfl, gl2, by show 3 ≤ sizeLine; omega, fun t ht => ?_⟩
        have s4 := su.trans (Ask.Same.upd_new (o := .tup [.str "alike", .str y, lstV k x sv y]) (Same.refl _) ht)
        rw [if_neg (by decide)]
        exact ⟨vs, s4 _ _ w1, by omega, ⟨_, upd_same, TrsL.push (w2.same s4) (s4 _ _ w1) upd_same⟩, Ask.Same.upd_new (p2.trans s4) hF2⟩
    rintro H4 ⟨⟨vs2, w1, w2⟩, s4⟩
    rw [List.length_map, List.take_length] at w2
    have lv1 : vs1.length ≤ 100 := by rw [t1.1]; unfold f1; rw [List.length_map]; have := lenF (fun y => decide (lstV k x sv y = .non)) ys ys.length l100; rw [List.take_length] at this; exact this
    have lv2 : vs2.length ≤ 100 := by rw [w2.1]; unfold f2; rw [List.length_map]; have := lenF (fun y => !inV (lstV k x sv y) [.non, .str y]) ys ys.length l100; rw [List.take_length] at this; exact this
    refine ⟨F1, F2, vs1, vs2, rfl, rfl, s4 _ _ q1, w1, by omega, fun G1 hG1 => ?_⟩
    have s5 := Ask.Same.upd_new (o := .lst (vs1 ++ vs2)) (Same.refl H4) hG1
    have e5 : upd H4 G1 (.lst (vs1 ++ vs2)) G1 = some (.lst (vs1 ++ vs2)) := upd_same
    have t5 : TrsL (upd H4 G1 (.lst (vs1 ++ vs2))) (vs1 ++ vs2) (f1 ys k x sv ++ f2 ys k x sv) := ((t1.same s4).app w2).same s5
    generalize upd H4 G1 (.lst (vs1 ++ vs2)) = H5 at s5 e5 t5 ⊢
    have s05 := ((s2.trans s3).trans s4).trans s5
    have s25 := (s3.trans s4).trans s5
    try dsimp only
    refine nm_any ?_
    refine ⟨_, rfl, _, rfl, L, rfl, ⟨_, SqL.of (s25 _ _ pL)⟩, fun F3 hF3 => ?_⟩
    refine lc_it (walk_list (xs := (liveL ys k x sv).map V.str)) (fun i H' => (∃ vs, H' F3 = some (.lst vs) ∧ TrsL H' vs ((((liveL ys k x sv).take i).filter fun y => inV (.str y) (stillD k x)).map fun y => [.str "still", .str y, .non])) ∧ Same H5 H') ⟨⟨[], by rw [upd_same], TrsL.nil _⟩, Ask.Same.upd_new (Same.refl _) hF3⟩ (fun _ H' _ ⟨_, s'⟩ => SqL.of (s' _ _ (s25 _ _ pL))) ?_ ?_
    · rintro i v HB' HB hi ⟨⟨vs, u1, u2⟩, p2⟩ ⟨rfl, hv⟩
      rw [List.length_map] at hi
      obtain ⟨y, hy⟩ : ∃ y, (liveL ys k x sv)[i]? = some y := ⟨_, List.getElem?_eq_getElem hi⟩
      rw [List.getElem?_map, hy] at hv
      cases hv
      have lv : vs.length ≤ 100 := by rw [u2.1, List.length_map]; exact lenF _ _ i l3
      rw [filt_app (fun y => inV (.str y) (stillD k x)) _ i y hy, List.map_append]
      have hRB := (hR.same s05).same p2
      refine ⟨rfl, _, rfl, _, rfl, R, _, rfl, hRB.gst, LS, _, rfl, .inl (SqL.of hRB.st), rfl, by unfold stillD; split <;> rfl, _, rfl, ?_⟩
      cases c : inV (.str y) (stillD k x) with
      | true =>
        refine iteT ⟨_, rfl, by show 3 ≤ sizeLine; omega, fun t ht => ?_⟩
        have s6 := Ask.Same.upd_new (o := .tup [.str "still", .str y, .non]) (Same.refl HB) ht
        refine ⟨vs, s6 _ _ u1, by omega, ⟨_, upd_same, TrsL.push (u2.same s6) (s6 _ _ u1) upd_same⟩, Ask.Same.upd_new (p2.trans s6) hF3⟩
      | false =>
        refine iteF ⟨⟨vs, u1, ?_⟩, p2⟩
        rw [if_neg (by decide), List.map_nil, List.append_nil]
        exact u2
    rintro H6 ⟨⟨vs3, u1, u2⟩, s6⟩
    rw [List.length_map, List.take_length] at u2
    have u2 : TrsL H6 vs3 (f3 ys k x sv) := u2
    have lv3 : vs3.length ≤ 100 := by rw [u2.1]; unfold f3; rw [List.length_map]; have := lenF (fun y => inV (.str y) (stillD k x)) (liveL ys k x sv) (liveL ys k x sv).length l3; rw [List.take_length] at this; exact this
    refine ⟨G1, F3, vs1 ++ vs2, vs3, rfl, rfl, s6 _ _ e5, u1, by rw [List.length_append]; omega, fun G2 hG2 => ?_⟩
    have s7 := Ask.Same.upd_new (o := .lst (vs1 ++ vs2 ++ vs3)) (Same.refl H6) hG2
    have e7 : upd H6 G2 (.lst (vs1 ++ vs2 ++ vs3)) G2 = some (.lst (vs1 ++ vs2 ++ vs3)) := upd_same
    have t7 : TrsL (upd H6 G2 (.lst (vs1 ++ vs2 ++ vs3))) (vs1 ++ vs2 ++ vs3) (f1 ys k x sv ++ f2 ys k x sv ++ f3 ys k x sv) := ((t5.same s6).app u2).same s7
    generalize upd H6 G2 (.lst (vs1 ++ vs2 ++ vs3)) = H7 at s7 e7 t7 ⊢
    have s07 := (s05.trans s6).trans s7
    have s27 := (s25.trans s6).trans s7
    have pL7 := s27 _ _ pL
    try dsimp only
    refine nm_any ?_
    have lf4 : ∀ (i : Nat), (f4 ys ((liveL ys k x sv).take i) k x sv).length ≤ 100 * 100 := fun i => by
      have h4 : ∀ m : List Str, (f4 ys m k x sv).length ≤ 100 * m.length := fun m => by
        unfold f4
        induction m with
        | nil => exact Nat.le_refl _
        | cons b m ih =>
          rw [List.flatMap_cons, List.length_append, List.length_cons]
          have h2 : (f4a ys k x sv b).length ≤ 100 := by unfold f4a; rw [List.length_map]; have := List.length_filter_le (fun c => hasP k x sv b c) (liveL ys k x sv); omega
          omega
      have := h4 ((liveL ys k x sv).take i)
      rw [List.length_take] at this
      omega
    refine for_any (fun Rr hR => ⟨_, rfl, L, rfl, ⟨_, SqL.of pL7⟩, hR⟩) (walk_list (xs := (liveL ys k x sv).map V.str)) (fun i σ' H' => ∃ (G : Addr) (vs : List V) (o5 o6 : Option V), σ' = [some (.ref a), some (.ref R), some (.ref LD), some (.ref L), some (.ref G), o5, o6] ∧ H' G = some (.lst vs) ∧ TrsL H' vs (f1 ys k x sv ++ f2 ys k x sv ++ f3 ys k x sv ++ f4 ys ((liveL ys k x sv).take i) k x sv) ∧ Same H7 H') ⟨G2, _, _, _, rfl, e7, by rw [List.take_zero]; show TrsL H7 _ (_ ++ []); rw [List.append_nil]; exact t7, Same.refl H7⟩ (fun i σ' H' _ ⟨_, _, _, _, _, _, _, s'⟩ => SqL.of (s' _ _ pL7)) ?_ ?_
    · rintro i v σ' H8' H8 hi ⟨G, vs, o5, o6, rfl, g1, g2, s8⟩ ⟨rfl, hv⟩
      rw [List.length_map] at hi
      obtain ⟨y, hy⟩ : ∃ y, (liveL ys k x sv)[i]? = some y := ⟨_, List.getElem?_eq_getElem hi⟩
      rw [List.getElem?_map, hy] at hv
      cases hv
      try dsimp only
      refine nm_any ?_
      have s08 := s07.trans s8
      have lvs : vs.length ≤ 10300 := by
        have := lf4 i
        rw [g2.1, List.length_append, List.length_append, List.length_append, ← t1.1, ← w2.1, ← u2.1]
        omega
      have st : f4 ys ((liveL ys k x sv).take (i + 1)) k x sv = f4 ys ((liveL ys k x sv).take i) k x sv ++ f4a ys k x sv y := by
        unfold f4
        rw [List.take_add_one, hy, List.flatMap_append]
        show _ ++ [y].flatMap _ = _
        rw [List.flatMap_cons, List.flatMap_nil, List.append_nil]
      have nt : ∀ {H' : Hp}, H' L = some (.lst ((liveL ys k x sv).map V.str)) → True := fun _ => trivial
      refine ⟨_, rfl, _, rfl, L, rfl, ⟨_, SqL.of (s8 _ _ pL7)⟩, fun F4 hF4 => ?_⟩
      refine lc_it (walk_list (xs := (liveL ys k x sv).map V.str)) (fun j H' => (∃ us, H' F4 = some (.lst us) ∧ TrsL H' us ((((liveL ys k x sv).take j).filter fun b => hasP k x sv y b).map fun b => [.str k, .str y, .str b])) ∧ Same H8 H') ⟨⟨[], by rw [upd_same], TrsL.nil _⟩, Ask.Same.upd_new (Same.refl _) hF4⟩ (fun _ H' _ ⟨_, s'⟩ => SqL.of (s' _ _ (s8 _ _ pL7))) ?_ ?_
      · rintro j v HB' HB hj ⟨⟨us, c1, c2⟩, p2⟩ ⟨rfl, hv⟩
        rw [List.length_map] at hj
        obtain ⟨b, hb⟩ : ∃ b, (liveL ys k x sv)[j]? = some b := ⟨_, List.getElem?_eq_getElem hj⟩
        rw [List.getElem?_map, hb] at hv
        cases hv
        have lus : us.length ≤ 100 := by rw [c2.1, List.length_map]; exact lenF _ _ j l3
        rw [filt_app (fun b => hasP k x sv y b) _ j b hb, List.map_append]
        refine ⟨rfl, _, rfl, _, rfl, by show 2 ≤ sizeLine; omega, fun u hu => ?_⟩
        have su := Ask.Same.upd_new (o := .tup [.str y, .str b]) (Same.refl HB) hu
        have eu : upd HB u (.tup [.str y, .str b]) u = some (.tup [.str y, .str b]) := upd_same
        generalize upd HB u (.tup [.str y, .str b]) = HC at su eu ⊢
        have hRC := (hR.same s08).same (p2.trans su)
        refine ⟨_, rfl, R, _, rfl, hRC.gpr, LP, _, rfl, hRC.gp eu, _, rfl, ?_⟩
        cases c : hasP k x sv y b with
        | true =>
          have ec : (valV (pairsD k x sv) [Sum.inr y, Sum.inr b]).isSome = true := c
          rw [ec]
          refine iteT ?_
          refine ⟨_, rfl, R, _, rfl, hRC.gpr, _, rfl, _, rfl, by show 2 ≤ sizeLine; omega, fun u2 hu2 => ?_⟩
          have sv2 := Ask.Same.upd_new (o := .tup [.str y, .str b]) (Same.refl HC) hu2
          have eu2 : upd HC u2 (.tup [.str y, .str b]) u2 = some (.tup [.str y, .str b]) := upd_same
          generalize upd HC u2 (.tup [.str y, .str b]) = HD at sv2 eu2 ⊢
          have gg := (hRC.same sv2).gp eu2
          rw [pairs_val c] at gg
          refine ⟨LP, _, rfl, gg, _, rfl, _, rfl, by show 3 ≤ sizeLine; omega, fun t ht => ?_⟩
          have s6 := (su.trans sv2).trans (Ask.Same.upd_new (o := .tup [.str k, .str y, .str b]) (Same.refl _) ht)
          exact ⟨us, s6 _ _ c1, by omega, ⟨_, upd_same, TrsL.push (c2.same s6) (s6 _ _ c1) upd_same⟩, Ask.Same.upd_new (p2.trans s6) hF4⟩
        | false =>
          have ec : (valV (pairsD k x sv) [Sum.inr y, Sum.inr b]).isSome = false := c
          rw [ec]
          refine iteF ⟨⟨us, su _ _ c1, ?_⟩, p2.trans su⟩
          rw [if_neg (by decide), List.map_nil, List.append_nil]
          exact c2.same su
      rintro H9 ⟨⟨us, c1, c2⟩, s9⟩
      rw [List.length_map, List.take_length] at c2
      have c2 : TrsL H9 us (f4a ys k x sv y) := c2
      have lus : us.length ≤ 100 := by rw [c2.1]; unfold f4a; rw [List.length_map]; have := lenF (fun b => hasP k x sv y b) (liveL ys k x sv) (liveL ys k x sv).length l3; rw [List.take_length] at this; exact this
      refine ⟨G, F4, vs, us, rfl, rfl, s9 _ _ g1, c1, by omega, fun G3 hG3 => ?_⟩
      have sa := Ask.Same.upd_new (o := .lst (vs ++ us)) (Same.refl H9) hG3
      refine ⟨G3, vs ++ us, _, _, rfl, upd_same, ?_, (s8.trans s9).trans sa⟩
      rw [st, ← List.append_assoc]
      exact ((g2.same s9).app c2).same sa
    · rintro σ' H8 ⟨G, vs, o5, o6, rfl, g1, g2, s8⟩
      rw [List.length_map, List.take_length, law_form nd tk] at g2
      obtain ⟨lv, gv⟩ := g2
      match vs, lv with
      | [v], _ =>
        obtain ⟨t, rfl, ht⟩ := gv 0 v _ rfl rfl
        exact ⟨_, rfl, kq H8 G t (s07.trans s8) g1 ht⟩
end
end Ask

namespace Ask
open PySem PySem.Spec PyProof.Rows L2
/-- o.m(e, ..) within a try, what it raises wished for at the slots as they stand -/
def tMethE (C : Addr) (m : Str) (sp : Sp) (E : L2.St → XK) (ta : TE) (t : TA) : TE := fun σ H Q => ta σ H fun x H1 => ∃ (a dx : Addr) (fs : List (Str × V)), x = .ref a ∧ H1 a = some (.ins C dx fs) ∧ fs.lookup m = none ∧ t σ H1 fun vs H2 => sp (x :: vs) H2 Q (E σ)
theorem pe_methE {X : Cx} {CX : CXT} {k : Nat} {f C : Addr} {fd : FuncData} {ps : List Str} {sp : Sp} {E : L2.St → XK} {m : Str} {pos apos : Pos} {e o : Expr} {es : List Expr} {ta : TE} {t : TA} {pl : Sem Bool} (he : PE X o ta) (c : Cls X.K C) (hm : Meth X.K C m f)
    (F : FnOk X.prog X.w X.K X.mg X.base CX k f fd ps sp) (hr : Room k X.A) (hb : Binds X.K fd ps []) (hx : ∀ σ, PassesAt CX X σ (E σ)) (ha : PA X (e :: es) t)
    (hst : starEach (e :: es) X.env = (false, eval e X.env) :: starEach es X.env := by rfl) (hpl : (backTo pos (starEach es X.env)).any (·.1) = false := by rfl)
    (ht : eval (.Call (.Attribute o m apos) (e :: es) [] pos) X.env = (do
      let ov ← eval o X.env
      standAt apos.atName
      let (f, first) ← holding [ov] (getMethod ov m pl)
      callWith pos f first (backTo pos (starEach (e :: es) X.env)) (backToKw pos (keywordEach [] X.env))) := by rfl) :
    PE X (.Call (.Attribute o m apos) (e :: es) [] pos) (tMethE C m sp E ta t) := by
  refine ⟨fun pins s σ H Q I h => PySem.W.methodCall_KW (pl := pl) (thn (he.run pins s σ H _ I h) fun u s1 ⟨x, H1, I1, rx, a, dx, fs, ex, ea, l, q⟩ => ?_) ht⟩
  subst ex
  obtain rfl : u = Value.ref a := rx
  refine getmeth_ok I1 ea c hm l (PySem.W.callWith_K (first := [.ref a]) (h₀ := X.base) I.ok.mod.kin hm.kp (thn (ha.run pos pins s1 σ H1 _ I1 q) fun us s2 ⟨vs, H2, I2, r, q2⟩ => ⟨I2.kIn, ?_⟩) hst hpl)
  exact run_fnS (us := .ref a :: us) (vs := .ref a :: vs) F hr hb (hx σ) I2 (.cons rfl r) q2
/-- o.m() within a try -/
theorem pe_methE0 {X : Cx} {CX : CXT} {k : Nat} {f C : Addr} {fd : FuncData} {ps : List Str} {sp : Sp} {E : L2.St → XK} {m : Str} {pos apos : Pos} {o : Expr} {ta : TE} {pl : Sem Bool} (he : PE X o ta) (c : Cls X.K C) (hm : Meth X.K C m f)
    (F : FnOk X.prog X.w X.K X.mg X.base CX k f fd ps sp) (hr : Room k X.A) (hb : Binds X.K fd ps []) (hx : ∀ σ, PassesAt CX X σ (E σ))
    (ht : eval (.Call (.Attribute o m apos) [] [] pos) X.env = (do
      let ov ← eval o X.env
      standAt apos.atName
      let (f, first) ← holding [ov] (getMethod ov m pl)
      callWith pos f first (backTo pos (starEach [] X.env)) (backToKw pos (keywordEach [] X.env))) := by rfl) :
    PE X (.Call (.Attribute o m apos) [] [] pos) (tMethE C m sp E ta tNil) := by
  refine ⟨fun pins s σ H Q I h => PySem.W.methodCall_KW (pl := pl) (thn (he.run pins s σ H _ I h) fun u s1 ⟨x, H1, I1, rx, a, dx, fs, ex, ea, l, q⟩ => ?_) ht⟩
  subst ex
  obtain rfl : u = Value.ref a := rx
  exact getmeth_ok I1 ea c hm l (PySem.W.callWith_K0 (first := [.ref a]) I1.kIn hm.kp (run_fnS (us := [.ref a]) (vs := [.ref a]) F hr hb (hx σ) I1 (.cons rfl .nil) q))
end Ask

/-! what pair and is_still tell, or the error -/
namespace Ask
open PySem PySem.Spec PyProof.Rows L2
def tsNL (CN : Addr) (j : Nat) : Addr → Value → Option Addr → TS := fun a cls d => tRet (tTup (tCons (tC (.str "not live")) (tCons (tXf a cls d CN "index" (tVar j)) tNil)))
def wNL (K : PySem.W.Frag) (CN : Addr) (j : Nat) (D : Ends) : WX := wAs K (.ref CN) j (tsNL CN j) (fun _ _ _ _ => False) D
/-- what is told of letters of which some may not be live -/
def toldL (live ws : List Str) (v : V) : List V := match ws.findIdx? (fun z => decide (z ∉ live)) with
  | none => [.str "is", v]
  | some i => [.str "not live", iN i]
theorem told_live {CN : Addr} {H : Hp} {live ws : List Str} {v : V} {Q : Hp → Prop} {E : XK} (h1 : toldL live ws v = [.str "is", v] → ∀ H', Same H H' → Q H') (h2 : ∀ i : Nat, toldL live ws v = [.str "not live", iN i] → ∀ (H' : Hp) (d : Addr), Same H H' → H' d = some (.xd (fsBad [iN i])) → E (.ref CN) (some d) H') : LiveQ CN H live ws Q E := by
  unfold toldL at h1 h2
  cases q : ws.findIdx? (fun z => decide (z ∉ live)) with
  | none =>
    rw [q] at h1
    refine .inl ⟨fun z hz => ?_, h1 rfl⟩
    have := List.findIdx?_eq_none_iff.mp q z hz
    simpa using this
  | some i =>
    rw [q] at h2
    obtain ⟨li, hp, hb⟩ := List.findIdx?_eq_some_iff_getElem.mp q
    refine .inr ⟨i, ws[i], List.getElem?_eq_getElem li, by simpa using hp, fun j z hj hz => ?_, h2 i rfl⟩
    obtain ⟨lj, e⟩ := List.getElem?_eq_some_iff.mp hz
    have := hb j hj
    rw [e] at this
    simpa using this
section
variable {P : Program} {w : World} {K : PySem.W.Frag} {mg : Str → Option Value} {base : Heap}
def spPTold (K : PySem.W.Frag) (CL CS CC CG : Addr) : Sp := fun vs H Q _ => ∃ (g : Addr) (ys : List Str) (k x : Str) (s : V) (ss : List Addr) (y z : Str), vs = [.ref g, .str y, .str z] ∧ ClsAt K CL CS CC CG H g ys k x s ss ∧ TellOk ys k x s ∧ y ∈ ys ∧ z ∈ ys ∧
  ∀ (H' : Hp) (t : Addr), Same H H' → H' t = some (.tup (toldL (liveW ys (SNs ys k x s ss.length)) [y, z] (kindV ((SNs ys k x s ss.length).pr ys.length (ys.idxOf y) (ys.idxOf z)) k))) → Q (.ref t) H'

abbrev s__law_pair_told : Stmt := top 76
theorem sc__law_pair_told : FnScope ["_law_closing", "_law_x", "_law_y", "e"] ["_law_closing", "_law_x", "_law_y"] (defScope s__law_pair_told) := ⟨rfl, rfl, rfl, by decide +kernel, rfl, by decide +kernel, by decide +kernel⟩
theorem ok_ptold {f CL CS CC CG CN fP fN : Addr} {fd fdP fdN : FuncData} {psN : List Str} (F : Fun K "_law_pair_told" "_law_pair_told" s__law_pair_told f fd) (hG : ClC K CG)
    (GP : FnOk P w K mg base (L2.CX P w) 5 fP fdP ["self", "x", "y"] (spPair K CL CS CC CG CN)) (bP : Binds K fdP ["self", "x", "y"] []) (mP : Meth K CG "pair" fP)
    (EN : ErrAt K mg "NotLive" CN fN fdN psN) (x1 : PySem.W.findIn K (.ref CN) "index" = some none) (ee : PySem.W.exmOne K (.ref CN) (.ref CN) = some true) : FnOk P w K mg base CX0 6 f fd ["_law_closing", "_law_x", "_law_y"] (spPTold K CL CS CC CG) := by
  refine F.ok sc__law_pair_told (fun vs H Q E h => ?_) (fun cdv A0 outer s H vs Q E hr h => ?_)
  · obtain ⟨g, ys, k, x, s, ss, y, z, rfl, _⟩ := h
    rfl
  · obtain ⟨g, ys, k, x, sv, ss, y, z, rfl, hCl, tk, hy, hz, kq⟩ := h
    have z1 : (100000 : Nat) ≤ sizeLine := by decide
    refine ⟨_, (pss_one (ps_try_hands (tb := fun W => tRet (tTup (tCons (tC (.str "is")) (tCons (tMethE CG "pair" (spPair K CL CS CC CG CN) (WE W) (tVar 0) (tCons (tVar 1) (tCons (tVar 2) tNil))) tNil)))) (Wf := wNL K CN 3) rfl rfl
        (fun W pn xe tk _ => pss_one (ps_ret (by exact (pe_tup (pa_cons pe_str (pa_cons (pe_methE (pv 0) hG.c mP GP hr bP (fun σ => passAt tk σ) (by exact (pa_cons (pv 1) (pa_cons (pv 2) pa_nil)))) pa_nil))))))
        (fun D => hands_as (ts := tsNL CN 3) rfl sc__law_pair_told.nd rfl rfl ⟨rfl, by decide, Or.inl EN.m⟩
          (fun a oe cls d pn hz hf => pss_one (ps_ret (by exact (pe_tup (pa_cons pe_str (pa_cons (pe_xf EN.xf x1 hz hf (pv 3)) pa_nil))))))
          (hands_nil rfl rfl takes0)))), ?_⟩
    obtain ⟨dg, p, tw0, tr, tl, tv, A, vr, hg, _⟩ := id hCl
    refine ⟨_, rfl, g, dg, _, rfl, hg, rfl, _, rfl, _, rfl, g, ys, k, x, sv, ss, y, z, rfl, hCl, tk, hy, hz, told_live (v := kindV ((SNs ys k x sv ss.length).pr ys.length (ys.idxOf y) (ys.idxOf z)) k) (fun e H' s' => ?_) (fun i e H' d s' hd => ?_)⟩
    · exact ⟨by show 2 ≤ sizeLine; omega, fun t ht => kq _ t (Ask.Same.made1 s' ht) (by rw [upd_same, e])⟩
    · refine ⟨true, ee, fun _ a0 _ => ?_, fun q => Bool.noConfusion q⟩
      exact ⟨_, rfl, rfl, rfl, d, _, _, rfl, hd, rfl, by show 2 ≤ sizeLine; omega, fun t ht => kq _ t (Ask.Same.made1 s' ht) (by rw [upd_same, e])⟩
def spSTold (K : PySem.W.Frag) (CL CS CC CG : Addr) : Sp := fun vs H Q _ => ∃ (g : Addr) (ys : List Str) (k x : Str) (s : V) (ss : List Addr) (y : Str), vs = [.ref g, .str y] ∧ ClsAt K CL CS CC CG H g ys k x s ss ∧ y ∈ ys ∧
  ∀ (H' : Hp) (t : Addr), Same H H' → H' t = some (.tup (toldL (liveW ys (SNs ys k x s ss.length)) [y] (.bl ((SNs ys k x s ss.length).stl (ys.idxOf y)).isSome))) → Q (.ref t) H'
abbrev s__law_still_told : Stmt := top 77
theorem sc__law_still_told : FnScope ["_law_closing", "_law_y", "e"] ["_law_closing", "_law_y"] (defScope s__law_still_told) := ⟨rfl, rfl, rfl, by decide +kernel, rfl, by decide +kernel, by decide +kernel⟩
theorem ok_stold {f CL CS CC CG CN fP fN : Addr} {fd fdP fdN : FuncData} {psN : List Str} (F : Fun K "_law_still_told" "_law_still_told" s__law_still_told f fd) (hG : ClC K CG)
    (GP : FnOk P w K mg base (L2.CX P w) 5 fP fdP ["self", "y"] (spIsStill K CL CS CC CG CN)) (bP : Binds K fdP ["self", "y"] []) (mP : Meth K CG "is_still" fP)
    (EN : ErrAt K mg "NotLive" CN fN fdN psN) (x1 : PySem.W.findIn K (.ref CN) "index" = some none) (ee : PySem.W.exmOne K (.ref CN) (.ref CN) = some true) : FnOk P w K mg base CX0 6 f fd ["_law_closing", "_law_y"] (spSTold K CL CS CC CG) := by
  refine F.ok sc__law_still_told (fun vs H Q E h => ?_) (fun cdv A0 outer s H vs Q E hr h => ?_)
  · obtain ⟨g, ys, k, x, s, ss, y, rfl, _⟩ := h
    rfl
  · obtain ⟨g, ys, k, x, sv, ss, y, rfl, hCl, hy, kq⟩ := h
    have z1 : (100000 : Nat) ≤ sizeLine := by decide
    refine ⟨_, (pss_one (ps_try_hands (tb := fun W => tRet (tTup (tCons (tC (.str "is")) (tCons (tMethE CG "is_still" (spIsStill K CL CS CC CG CN) (WE W) (tVar 0) (tCons (tVar 1) tNil)) tNil)))) (Wf := wNL K CN 2) rfl rfl
        (fun W pn xe tk _ => pss_one (ps_ret (by exact (pe_tup (pa_cons pe_str (pa_cons (pe_methE (pv 0) hG.c mP GP hr bP (fun σ => passAt tk σ) (by exact (pa_cons (pv 1) pa_nil))) pa_nil))))))
        (fun D => hands_as (ts := tsNL CN 2) rfl sc__law_still_told.nd rfl rfl ⟨rfl, by decide, Or.inl EN.m⟩
          (fun a oe cls d pn hz hf => pss_one (ps_ret (by exact (pe_tup (pa_cons pe_str (pa_cons (pe_xf EN.xf x1 hz hf (pv 2)) pa_nil))))))
          (hands_nil rfl rfl takes0)))), ?_⟩
    obtain ⟨dg, p, tw0, tr, tl, tv, A, vr, hg, _⟩ := id hCl
    refine ⟨_, rfl, g, dg, _, rfl, hg, rfl, _, rfl, g, ys, k, x, sv, ss, y, rfl, hCl, hy, told_live (v := .bl ((SNs ys k x sv ss.length).stl (ys.idxOf y)).isSome) (fun e H' s' => ?_) (fun i e H' d s' hd => ?_)⟩
    · exact ⟨by show 2 ≤ sizeLine; omega, fun t ht => kq _ t (Ask.Same.made1 s' ht) (by rw [upd_same, e])⟩
    · refine ⟨true, ee, fun _ a0 _ => ?_, fun q => Bool.noConfusion q⟩
      exact ⟨_, rfl, rfl, rfl, d, _, _, rfl, hd, rfl, by show 2 ≤ sizeLine; omega, fun t ht => kq _ t (Ask.Same.made1 s' ht) (by rw [upd_same, e])⟩
end
end Ask

/-! data that repr takes: how deep, how long -/
namespace Ask
open PySem L2 PySem.Spec PyProof.Rows StrLaws
structure Dk (d : PyData) (L : Nat) : Prop where
  lay : d.canLay0 = true
  dep : d.depth ≤ 5
  sho : d.showable = true
  len : d.shown.length ≤ L
structure DkAll (ds : List PyData) (L : Nat) : Prop where
  lay : PyData.canLayAll0 ds = true
  dep : PyData.depthAll ds ≤ 5
  sho : PyData.showableAll ds = true
  len : ((PyData.shownAll ds).map (·.length)).sum + 2 * ds.length ≤ L
theorem shownAll_len : ∀ ds : List PyData, (PyData.shownAll ds).length = ds.length
  | [] => rfl
  | d :: ds => by simp only [PyData.shownAll, List.length_cons, shownAll_len ds]
theorem Dk.mono {d : PyData} {L M : Nat} (h : Dk d L) (l : L ≤ M) : Dk d M := ⟨h.lay, h.dep, h.sho, Nat.le_trans h.len l⟩
theorem DkAll.nil : DkAll [] 0 := ⟨rfl, Nat.zero_le _, rfl, Nat.le_refl _⟩
theorem DkAll.cons {d : PyData} {ds : List PyData} {L M : Nat} (h : Dk d L) (k : DkAll ds M) : DkAll (d :: ds) (L + 2 + M) := by
  refine ⟨?_, Nat.max_le.mpr ⟨h.dep, k.dep⟩, ?_, ?_⟩
  · show (PyData.canLay0 d && PyData.canLayAll0 ds) = true
    rw [h.lay, k.lay] <;> rfl
  · show (PyData.showable d && PyData.showableAll ds) = true
    rw [h.sho, k.sho] <;> rfl
  · show ((PyData.shown d :: PyData.shownAll ds).map (·.length)).sum + 2 * (ds.length + 1) ≤ _
    rw [List.map_cons, List.sum_cons]
    have := h.len
    have := k.len
    omega
theorem DkAll.each {f : PyData → Prop} {L : Nat} : ∀ {ds : List PyData}, (∀ d ∈ ds, Dk d L) → DkAll ds ((L + 2) * ds.length)
  | [], _ => DkAll.nil
  | d :: ds, h => by
    have k := (h d (List.mem_cons_self ..))
    have r := DkAll.each (f := f) (ds := ds) fun x hx => h x (List.mem_cons_of_mem _ hx)
    have := DkAll.cons k r
    rw [List.length_cons, Nat.mul_succ, Nat.add_comm _ (L + 2)]
    exact this
theorem DkAll.tup {ds : List PyData} {L : Nat} (h : DkAll ds L) (d : PyData.depthAll ds ≤ 4) : Dk (.tuple ds) (L + 3) := by
  refine ⟨h.lay, Nat.succ_le_succ d, h.sho, ?_⟩
  have := tupleText_len_le (PyData.shownAll ds)
  have e := shownAll_len ds
  have := h.len
  show (tupleText (PyData.shownAll ds)).length ≤ _
  omega
theorem DkAll.lst {ds : List PyData} {L : Nat} (h : DkAll ds L) (d : PyData.depthAll ds ≤ 4) : Dk (.list ds) (L + 3) := by
  refine ⟨h.lay, Nat.succ_le_succ d, h.sho, ?_⟩
  have := listText_len_le (PyData.shownAll ds)
  have e := shownAll_len ds
  have := h.len
  show (listText (PyData.shownAll ds)).length ≤ _
  omega
theorem Dk.nod {d : PyData} {L : Nat} (h : Dk d L) : d.hasDict = false := PyData.hasDict_of_canLay d h.lay
theorem Dk.shaped {d : PyData} {L : Nat} (h : Dk d L) : SeqAt.shaped d = true := by
  unfold SeqAt.shaped
  rw [h.lay, decide_eq_true (Nat.le_trans h.dep (by decide))] <;> rfl
theorem dk_str {z : Str} (a : ∀ c ∈ z.cps.toList, c < 128) : Dk (.str z) (10 * z.length + 10) := by
  refine ⟨?_, Nat.zero_le _, rfl, ?_⟩
  · show PyData.strOk z = true
    unfold PyData.strOk
    rw [← Array.all_toList, List.all_eq_true]
    intro c hc
    have := a c hc
    exact decide_eq_true (by omega)
  · have l := StrLaws.reprText_len z (fun c hc => by have := a c hc; omega)
    show (reprText z).length ≤ _
    omega
theorem dk_int {i : Int} (h0 : 0 ≤ i) (h1 : i < 10 ^ 40) : Dk (.int i) 40 := by
  refine ⟨rfl, Nat.zero_le _, ?_, ?_⟩
  · show decide (i.natAbs.log2 < 1920) = true
    refine decide_eq_true ?_
    by_cases z : i.natAbs = 0
    · rw [z]
      decide
    · refine (Nat.log2_lt z).mpr ?_
      have : (10 : Int) ^ 40 < (2 : Int) ^ 1920 := by decide +kernel
      have : (i.natAbs : Int) < (2 : Int) ^ 1920 := by omega
      exact_mod_cast this
  · exact toString_length_le h0 (by decide) h1
theorem dk_non : Dk .none 4 := ⟨rfl, Nat.zero_le _, rfl, by decide⟩
theorem dk_bool (b : Bool) : Dk (.bool b) 5 := by cases b <;> exact ⟨rfl, Nat.zero_le _, rfl, by decide⟩
end Ask

/-! the closing's rules are the law's rules -/
namespace Ask
open PySem L2
theorem idx_inj {ys : List Str} {x y : Str} (hx : x ∈ ys) (h : ys.idxOf x = ys.idxOf y) : y = x ∨ y ∉ ys := by
  by_cases hy : y ∈ ys
  · left
    have lx := List.idxOf_lt_length_of_mem hx
    have a := List.getElem_idxOf lx
    have ly := List.idxOf_lt_length_of_mem hy
    have b := List.getElem_idxOf ly
    rw [← a, ← b]
    congr 1
    exact h.symm
  · exact .inr hy
theorem kind_cases {k : Str} (h : k ∈ KL) : (k = "idle" ∨ k = "alike") ∨ k = "still" ∨ PK k := by
  simp only [KL, List.mem_cons, List.not_mem_nil, or_false] at h
  unfold PK
  rcases h with h | h | h | h | h | h
  · exact .inl (.inl h)
  · exact .inr (.inr (.inl h))
  · exact .inr (.inl h)
  · exact .inr (.inr (.inr (.inl h)))
  · exact .inr (.inr (.inr (.inr h)))
  · exact .inl (.inr h)
theorem PK.ne {k : Str} (h : PK k) : k ∉ LK ∧ k ≠ "alike" ∧ k ≠ "still" ∧ k ≠ "idle" := by
  rcases h with rfl | rfl | rfl <;> decide
/-- the sides by the kind -/
theorem eqL_lone {ys : List Str} {k x : Str} {s : V} (tk : TellOk ys k x s) (h : k = "idle" ∨ k = "alike") : bgR k = "found" ∧ ∃ r, eqL ys k x s = ([ys.idxOf x], r) ∧ (s = .non ∧ r = [] ∨ ∃ y, s = .str y ∧ y ∈ ys ∧ y ≠ x ∧ r = [ys.idxOf y]) := by
  rcases h with rfl | rfl
  · exact ⟨rfl, [], rfl, .inl ⟨tk.hs.2 (by decide), rfl⟩⟩
  · obtain ⟨y, rfl, l⟩ := tk.nf rfl
    have hy : y ∈ ys := by
      obtain ⟨z, e, hz⟩ := tk.hs.1 (by decide)
      cases e
      exact hz
    exact ⟨rfl, [ys.idxOf y], rfl, .inr ⟨y, rfl, hy, fun e => by rw [e] at l; omega, rfl⟩⟩
theorem eqL_still {ys : List Str} {x : Str} {s : V} : bgR "still" = "new" ∧ eqL ys "still" x s = ([ys.idxOf x], []) := ⟨rfl, rfl⟩
theorem eqL_pair {ys : List Str} {k x : Str} {s : V} (tk : TellOk ys k x s) (h : PK k) : bgR k = "found" ∧ ∃ y r, s = .str y ∧ y ∈ ys ∧ eqL ys k x s = ([ys.idxOf x, ys.idxOf y], r) := by
  obtain ⟨n1, n2, n3, n4⟩ := h.ne
  obtain ⟨y, rfl, hy⟩ := tk.hs.1 n1
  refine ⟨if_neg n3, y, (eqL ys k x (.str y)).2, rfl, hy, Prod.ext ?_ rfl⟩
  show (eqL ys k x (.str y)).1 = [ys.idxOf x, ys.idxOf y]
  unfold eqL sidesN
  rw [if_neg n1, if_neg n2]
  by_cases c : k = "undone"
  · rw [if_pos c]; rfl
  · rw [if_neg c]; rfl
section cor
variable {ys : List Str} {k x : Str} {s : V} {m : Nat}
theorem cor_lo (tk : TellOk ys k x s) {y : Str} (hy : y ∈ ys) : ((SNs ys k x s (m + 1)).lo (ys.idxOf y)).isNone = decide (lstV k x s y = .str y) ∧ (if ((SNs ys k x s (m + 1)).lo (ys.idxOf y)).isNone then .str y else s) = lstV k x s y := by
  have lx := List.idxOf_lt_length_of_mem tk.hx
  show ((S1 ys.length (bgR k) (eqL ys k x s).1 (eqL ys k x s).2 0).lo (ys.idxOf y)).isNone = _ ∧ (if ((S1 ys.length (bgR k) (eqL ys k x s).1 (eqL ys k x s).2 0).lo (ys.idxOf y)).isNone then _ else _) = _
  rcases kind_cases tk.hk with h | h | h
  · obtain ⟨e1, r, e2, e3⟩ := eqL_lone tk h
    rw [e1, e2, Sl_lo lx]
    by_cases c : y = x
    · subst c
      have lv : lstV k y s y = s := if_pos ⟨rfl, h⟩
      rw [if_pos rfl, lv]
      refine ⟨?_, rfl⟩
      rcases e3 with ⟨rfl, _⟩ | ⟨z, rfl, _, ne, _⟩
      · rfl
      · show false = _
        rw [decide_eq_false (fun e => ne (V.str.inj e))]
    · have lv : lstV k x s y = .str y := if_neg fun z => c z.1
      rw [if_neg (fun e => ((idx_inj tk.hx e).elim c (fun n => n hy))), lv]
      exact ⟨by rw [decide_eq_true rfl]; rfl, rfl⟩
  · subst h
    have lv : lstV "still" x s y = .str y := if_neg fun z => by rcases z.2 with e | e <;> exact absurd e (by decide)
    rw [lv, decide_eq_true rfl, (eqL_still (ys := ys) (x := x) (s := s)).1, (eqL_still (ys := ys) (x := x) (s := s)).2, Ss_lo]
    exact ⟨rfl, rfl⟩
  · obtain ⟨e1, z, r, _, _, e2⟩ := eqL_pair tk h
    obtain ⟨n1, n2, n3, n4⟩ := h.ne
    have lv : lstV k x s y = .str y := if_neg fun z => z.2.elim n4 n2
    rw [lv, decide_eq_true rfl, e1, e2, Sp_lo]
    exact ⟨rfl, rfl⟩
theorem cor_st (tk : TellOk ys k x s) {y : Str} (hy : y ∈ ys) : ((SNs ys k x s (m + 1)).stl (ys.idxOf y)).isSome = inV (.str y) (stillD k x) := by
  have lx := List.idxOf_lt_length_of_mem tk.hx
  show ((S1 ys.length (bgR k) (eqL ys k x s).1 (eqL ys k x s).2 0).stl (ys.idxOf y)).isSome = _
  rcases kind_cases tk.hk with h | h | h
  · obtain ⟨e1, r, e2, e3⟩ := eqL_lone tk h
    rw [e1, e2, Sl_st, stD_no (by rcases h with rfl | rfl <;> decide)]
    rfl
  · subst h
    rw [(eqL_still (ys := ys) (x := x) (s := s)).1, (eqL_still (ys := ys) (x := x) (s := s)).2, Ss_st lx]
    show _ = inV (.str y) ([x].map V.str)
    rw [inV_str]
    by_cases c : y = x
    · subst c
      rw [if_pos rfl]
      simp
    · rw [if_neg (fun e => ((idx_inj tk.hx e).elim c (fun n => n hy)))]
      simp [c]
  · obtain ⟨e1, z, r, _, _, e2⟩ := eqL_pair tk h
    rw [e1, e2, Sp_st, stD_no h.ne.2.2.1]
    rfl
theorem cor_pr (tk : TellOk ys k x s) {y z : Str} (hy : y ∈ ys) (hz : z ∈ ys) : kindV ((SNs ys k x s (m + 1)).pr ys.length (ys.idxOf y) (ys.idxOf z)) k = (valV (pairsD k x s) [Sum.inr y, Sum.inr z]).getD .non := by
  have lx := List.idxOf_lt_length_of_mem tk.hx
  have lz := List.idxOf_lt_length_of_mem hz
  show kindV ((S1 ys.length (bgR k) (eqL ys k x s).1 (eqL ys k x s).2 0).pr ys.length (ys.idxOf y) (ys.idxOf z)) k = _
  have none_ : ¬ PK k → valV (pairsD k x s) [Sum.inr y, Sum.inr z] = none := fun h => by
    have := hasP_no (x := x) (s := s) h y z
    unfold hasP at this
    exact Option.isNone_iff_eq_none.mp (by cases q : valV (pairsD k x s) [Sum.inr y, Sum.inr z] <;> simp_all)
  rcases kind_cases tk.hk with h | h | h
  · obtain ⟨e1, r, e2, e3⟩ := eqL_lone tk h
    rw [e1, e2, Sl_pr, none_ (by rcases h with rfl | rfl <;> decide)]
    rfl
  · subst h
    rw [(eqL_still (ys := ys) (x := x) (s := s)).1, (eqL_still (ys := ys) (x := x) (s := s)).2, Ss_pr, none_ (by decide)]
    rfl
  · obtain ⟨e1, q, r, rfl, hq, e2⟩ := eqL_pair tk h
    have lq := List.idxOf_lt_length_of_mem hq
    rw [e1, e2, Sp_pr lx lq lz]
    unfold pairsD valV
    dsimp only
    rw [if_pos h]
    by_cases c : y = x ∧ z = q
    · obtain ⟨rfl, rfl⟩ := c
      rw [if_pos ⟨rfl, rfl⟩]
      simp [kindV]
    · have n : ¬ ([Sum.inr x, Sum.inr q] : List Key) = [Sum.inr y, Sum.inr z] := fun e => by
        injection e with e1 e2
        injection e2 with e2 _
        exact c ⟨(Sum.inr.inj e1).symm, (Sum.inr.inj e2).symm⟩
      rw [if_neg (fun e => c ⟨(idx_inj tk.hx e.1).elim id (fun n => absurd hy n), (idx_inj hq e.2).elim id (fun n => absurd hz n)⟩)]
      simp [n, kindV]
theorem cor_live (tk : TellOk ys k x s) {y : Str} (hy : y ∈ ys) : (y ∈ liveW ys (SNs ys k x s (m + 1))) ↔ lstV k x s y = .str y := by
  unfold liveW
  rw [List.mem_filter, (cor_lo (m := m) tk hy).1]
  exact ⟨fun h => of_decide_eq_true h.2, fun h => ⟨hy, decide_eq_true h⟩⟩
end cor
/-- what the law holds that is told of a pair -/
def dueP (k x : Str) (s : V) (y z : Str) : List V := if lstV k x s y = .str y ∧ lstV k x s z = .str z then [.str "is", (valV (pairsD k x s) [Sum.inr y, Sum.inr z]).getD .non] else [.str "not live", .int (if lstV k x s y = .str y then 1 else 0)]
theorem due_pair {ys : List Str} {k x : Str} {s : V} {m : Nat} (tk : TellOk ys k x s) {y z : Str} (hy : y ∈ ys) (hz : z ∈ ys) : toldL (liveW ys (SNs ys k x s (m + 1))) [y, z] (kindV ((SNs ys k x s (m + 1)).pr ys.length (ys.idxOf y) (ys.idxOf z)) k) = dueP k x s y z := by
  have a := cor_live (m := m) tk hy
  have b := cor_live (m := m) tk hz
  rw [cor_pr tk hy hz]
  unfold toldL dueP
  by_cases c : lstV k x s y = .str y
  · have c' := a.mpr c
    by_cases d : lstV k x s z = .str z
    · have d' := b.mpr d
      simp [List.findIdx?_cons, c', d', c, d]
    · have d' : z ∉ _ := fun h => d (b.mp h)
      simp [List.findIdx?_cons, c', d', c, d]
  · have c' : y ∉ _ := fun h => c (a.mp h)
    simp [List.findIdx?_cons, c', c]
def dueS (k x : Str) (s : V) (y : Str) : List V := if lstV k x s y = .str y then [.str "is", .bl (inV (.str y) (stillD k x))] else [.str "not live", .int 0]
theorem due_still {ys : List Str} {k x : Str} {s : V} {m : Nat} (tk : TellOk ys k x s) {y : Str} (hy : y ∈ ys) : toldL (liveW ys (SNs ys k x s (m + 1))) [y] (.bl ((SNs ys k x s (m + 1)).stl (ys.idxOf y)).isSome) = dueS k x s y := by
  have a := cor_live (m := m) tk hy
  rw [cor_st tk hy]
  unfold toldL dueS
  by_cases c : lstV k x s y = .str y
  · have c' := a.mpr c
    simp [List.findIdx?_cons, c', c]
  · have c' : y ∉ _ := fun h => c (a.mp h)
    simp [List.findIdx?_cons, c', c]
end Ask

/-! whether a closing's answers are right -/
namespace Ask
open PySem L2
def dataV : V → PyData
  | .bl b => .bool b
  | .int i => .int i
  | .str z => .str z
  | _ => .none
/-- flat data that can be looked at and told -/
structure GoodV (v : V) : Prop where
  fl : v = .non ∨ (∃ b, v = .bl b) ∨ (∃ i, v = .int i) ∨ ∃ z, v = .str z
  dk : Dk (dataV v) 300
theorem GoodV.dp {v : V} (h : GoodV v) (K : PySem.W.Frag) (H : Hp) : Dp K H v (dataV v) := by
  rcases h.fl with rfl | ⟨b, rfl⟩ | ⟨i, rfl⟩ | ⟨z, rfl⟩
  · exact .non
  · exact .bl b
  · exact .int i
  · exact .str z
theorem GoodV.dep {v : V} (h : GoodV v) : (dataV v).depth = 0 := by
  rcases h.fl with rfl | ⟨b, rfl⟩ | ⟨i, rfl⟩ | ⟨z, rfl⟩ <;> rfl
theorem good_all {K : PySem.W.Frag} {H : Hp} : ∀ {t : List V}, (∀ v ∈ t, GoodV v) → DpAll K H t (t.map dataV)
  | [], _ => .nil
  | v :: t, h => .cons ((h v List.mem_cons_self).dp K H) (good_all fun w hw => h w (List.mem_cons_of_mem _ hw))
theorem good_depth : ∀ {t : List V}, (∀ v ∈ t, GoodV v) → PyData.depthAll (t.map dataV) = 0
  | [], _ => rfl
  | v :: t, h => by
    rw [List.map_cons]
    show max _ (PyData.depthAll _) = 0
    rw [good_depth (t := t) fun w hw => h w (List.mem_cons_of_mem _ hw), (h v List.mem_cons_self).dep]
    rfl
def dataT (t : List V) : PyData := .tuple (t.map dataV)
theorem good_dk {t : List V} (h : ∀ v ∈ t, GoodV v) : Dk (dataT t) (302 * t.length + 3) := by
  have := DkAll.tup (DkAll.each (f := fun d => d ∈ t.map dataV) (L := 300) (ds := t.map dataV) fun d hd => by
    obtain ⟨v, hv, rfl⟩ := List.mem_map.mp hd
    exact (h v hv).dk) (by rw [good_depth h]; decide)
  rw [List.length_map] at this
  exact this
theorem good_tup {K : PySem.W.Frag} {H : Hp} {a : Addr} {t : List V} (e : H a = some (.tup t)) (h : ∀ v ∈ t, GoodV v) : Dp K H (.ref a) (dataT t) := .tup (SqT.of e) (good_all h)
theorem good_str {z : Str} (a : Asc z) (l : z.length ≤ 20) : GoodV (.str z) := ⟨.inr (.inr (.inr ⟨z, rfl⟩)), (dk_str a).mono (by omega)⟩
theorem good_non : GoodV .non := ⟨.inl rfl, dk_non.mono (by decide)⟩
theorem good_bl (b : Bool) : GoodV (.bl b) := ⟨.inr (.inl ⟨b, rfl⟩), (dk_bool b).mono (by decide)⟩
theorem good_int {i : Int} (h0 : 0 ≤ i) (h1 : i < 1000) : GoodV (.int i) := ⟨.inr (.inr (.inl ⟨i, rfl⟩)), (dk_int h0 (Int.lt_trans h1 (by decide))).mono (by decide)⟩
theorem kl_asc {k : Str} (h : k ∈ KL) : Asc k ∧ k.length ≤ 20 := by
  simp only [KL, List.mem_cons, List.not_mem_nil, or_false] at h
  rcases h with rfl | rfl | rfl | rfl | rfl | rfl
  · exact ⟨Asc.lit (s := "idle") (by decide +kernel), by decide +kernel⟩
  · exact ⟨Asc.lit (s := "kept") (by decide +kernel), by decide +kernel⟩
  · exact ⟨Asc.lit (s := "still") (by decide +kernel), by decide +kernel⟩
  · exact ⟨Asc.lit (s := "over") (by decide +kernel), by decide +kernel⟩
  · exact ⟨Asc.lit (s := "undone") (by decide +kernel), by decide +kernel⟩
  · exact ⟨Asc.lit (s := "alike") (by decide +kernel), by decide +kernel⟩
theorem good_sen {ys : List Str} {k x : Str} {s : V} (lts : Lts ys) (tk : TellOk ys k x s) : ∀ v ∈ [V.str k, .str x, s], GoodV v := by
  have ok := fun {y : Str} (h : y ∈ ys) => lts.ok y h
  intro v hv
  simp only [List.mem_cons, List.not_mem_nil, or_false] at hv
  rcases hv with rfl | rfl | rfl
  · exact good_str (kl_asc tk.hk).1 (kl_asc tk.hk).2
  · exact good_str (ok tk.hx).2.2 (by have := (ok tk.hx).2.1; omega)
  · rcases tk.hs.cases with rfl | ⟨y, rfl, hy⟩
    · exact good_non
    · exact good_str (ok hy).2.2 (by have := (ok hy).2.1; omega)
theorem goodv_is : GoodV (.str "is") := good_str (Asc.lit (s := "is") (by decide +kernel)) (by decide +kernel)
theorem good_nl : GoodV (.str "not live") := good_str (Asc.lit (s := "not live") (by decide +kernel)) (by decide +kernel)
theorem good_dueP {ys : List Str} {k x : Str} {s : V} (tk : TellOk ys k x s) (y z : Str) : ∀ v ∈ dueP k x s y z, GoodV v := by
  intro v hv
  unfold dueP at hv
  split at hv
  · simp only [List.mem_cons, List.not_mem_nil, or_false] at hv
    rcases hv with rfl | rfl
    · exact goodv_is
    · cases q : hasP k x s y z with
      | true => rw [pairs_val q]; exact good_str (kl_asc tk.hk).1 (kl_asc tk.hk).2
      | false =>
        unfold hasP at q
        cases r : valV (pairsD k x s) [Sum.inr y, Sum.inr z] with
        | none => exact good_non
        | some w => rw [r] at q; cases q
  · simp only [List.mem_cons, List.not_mem_nil, or_false] at hv
    rcases hv with rfl | rfl
    · exact good_nl
    · split
      · exact good_int (by decide) (by decide)
      · exact good_int (by decide) (by decide)
theorem good_dueS (k x : Str) (s : V) (y : Str) : ∀ v ∈ dueS k x s y, GoodV v := by
  intro v hv
  unfold dueS at hv
  split at hv
  · simp only [List.mem_cons, List.not_mem_nil, or_false] at hv
    rcases hv with rfl | rfl
    · exact goodv_is
    · exact good_bl _
  · simp only [List.mem_cons, List.not_mem_nil, or_false] at hv
    rcases hv with rfl | rfl
    · exact good_nl
    · exact good_int (by decide) (by decide)
section
variable {P : Program} {w : World} {K : PySem.W.Frag} {mg : Str → Option Value} {base : Heap}
def spAns (K : PySem.W.Frag) (CL CS CC CG : Addr) : Sp := fun vs H Q _ => ∃ (a R g LD LS LP : Addr) (ys : List Str) (k x : Str) (s : V) (ss : List Addr), vs = [.ref a, .ref R, .ref g] ∧ SqL K H a (ys.map V.str) ∧ Lts ys ∧ RulesAt H R ys k x s LD LS LP ∧ ClsAt K CL CS CC CG H g ys k x s ss ∧ TellOk ys k x s ∧ 1 ≤ ss.length ∧
  ∀ H', Same H H' → Q (.bl true) H'

abbrev s__law_answers_right : Stmt := top 78
theorem sc__law_answers_right : FnScope ["_law_letters_here", "_law_rules", "_law_closing", "_law_least", "_law_closed", "_law_x", "_law_y", "_law_due", "_law_one"] ["_law_letters_here", "_law_rules", "_law_closing"] (defScope s__law_answers_right) := ⟨rfl, rfl, rfl, by decide +kernel, rfl, by decide +kernel, by decide +kernel⟩
theorem ok_ansR {f CL CS CC CG fT fF fP fS fO fL : Addr} {fd fdT fdF fdP fdS fdO fdL : FuncData} (F : Fun K "_law_answers_right" "_law_answers_right" s__law_answers_right f fd) (T : Blt mg) (nTu : mg "tuple" = none) (nR : mg "repr" = none) (hG : ClC K CG)
    (G__law_triple : FnOk P w K mg base CX0 1 fT fdT ["_law_sentence_here"] (spTriple K CL CS)) (A__law_triple : At K mg "_law_triple" fT fdT ["_law_sentence_here"])
    (G__law_form : FnOk P w K mg base CX0 1 fF fdF ["_law_letters_here", "_law_rules"] (spLForm K)) (A__law_form : At K mg "_law_form" fF fdF ["_law_letters_here", "_law_rules"])
    (G__law_pair_told : FnOk P w K mg base CX0 6 fP fdP ["_law_closing", "_law_x", "_law_y"] (spPTold K CL CS CC CG)) (A__law_pair_told : At K mg "_law_pair_told" fP fdP ["_law_closing", "_law_x", "_law_y"])
    (G__law_still_told : FnOk P w K mg base CX0 6 fS fdS ["_law_closing", "_law_y"] (spSTold K CL CS CC CG)) (A__law_still_told : At K mg "_law_still_told" fS fdS ["_law_closing", "_law_y"])
    (GO : FnOk P w K mg base CX0 1 fO fdO ["self"] (spFormC K CL CS CC CG)) (bO : Binds K fdO ["self"] []) (mO : Meth K CG "form" fO)
    (GL : FnOk P w K mg base CX0 2 fL fdL ["self", "x"] (spLeast K CL CS CC CG)) (bL : Binds K fdL ["self", "x"] []) (mL : Meth K CG "least" fL) : FnG P w K mg base CX0 7 f fd ["_law_letters_here", "_law_rules", "_law_closing"] (spAns K CL CS CC CG) := by
  refine FnG.mk0 F sc__law_answers_right (fun vs H Q E h => ?_) (fun cdv A0 outer s H vs Q E hg hr h => ?_)
  · obtain ⟨a, R, g, LD, LS, LP, ys, k, x, s, ss, rfl, _⟩ := h
    rfl
  · obtain ⟨a, R, g, LD, LS, LP, ys, k, x, sv, ss, rfl, ha, lts, hR, hCl, tk, l1, kq⟩ := h
    have h__law_triple := hr.mono (j := 1) (by decide)
    have h__law_form := hr.mono (j := 1) (by decide)
    have h__law_pair_told := hr.mono (j := 6) (by decide)
    have h__law_still_told := hr.mono (j := 6) (by decide)
    have h_form := hr.mono (j := 1) (by decide)
    have h_least := hr.mono (j := 2) (by decide)
    have z1 : (100000 : Nat) ≤ sizeLine := by decide
    have hu := hu_of hr
    refine ⟨_, PSs.nox (pss_cons (ps_asg (pe_tup (pa_cons (pe_dget hu (pv 1) pe_str (fun _ _ => rfl)) (pa_cons (pe_meth0 (pv 2) hG.c mO GO h_form bO .nil pass0) pa_nil))) (pg_tup rfl (pgs_cons (pg_name (i := 3) sc__law_answers_right.nd rfl (Or.inr rfl)) (pgs_cons (pg_name (i := 4) sc__law_answers_right.nd rfl (Or.inl rfl)) pgs_nil))))
      (pss_cons (ps_if (PW.pt (pw_or (pt_cmpR (op_neD hr.units) (pe_lc (own := [("_law_one", 8)]) rfl sc__law_answers_right.nd (pi_tup (pv 4)) (blkOk_by (N := ["_law_letters_here", "_law_rules", "_law_closing", "_law_least", "_law_closed", "_law_x", "_law_y", "_law_due", "_law_one"]) (sc := defScope s__law_answers_right) (by decide +kernel)) (fun _ _ _ _ _ => (pg_name (i := 8) sc__law_answers_right.nd rfl (Or.inl rfl))) (fun _ _ _ _ _ => pts_nil) (fun _ _ _ _ _ => (pe_call G__law_triple (by exact h__law_triple) (by rfl) A__law_triple.m A__law_triple.k A__law_triple.b .nil pass0 (pa_cons (pv 8) pa_nil)))) (pe_call G__law_form (by exact h__law_form) (by rfl) A__law_form.m A__law_form.k A__law_form.b .nil pass0 (pa_cons (pv 0) (pa_cons (pv 1) pa_nil))) (nomark _)) (pw_or1 (pt_not (pt_val (pe_callB call_isi (by rfl) T.n_isinstance (by decide +kernel) (pa_cons (pv 4) (pa_cons (pe_bltn (v := .ty "tuple") (u := .type "tuple") rfl nTu (by decide +kernel) rfl) pa_nil)))))))) (pss_one (ps_ret pe_bl)) pss_nil)
      (pss_cons (ps_if (pt_cmpR (op_neD hr.units) (pe_lc (own := [("_law_x", 5)]) rfl sc__law_answers_right.nd (pi_list (pv 0)) (blkOk_by (N := ["_law_letters_here", "_law_rules", "_law_closing", "_law_least", "_law_closed", "_law_x", "_law_y", "_law_due", "_law_one"]) (sc := defScope s__law_answers_right) (by decide +kernel)) (fun _ _ _ _ _ => (pg_name (i := 5) sc__law_answers_right.nd rfl (Or.inl rfl))) (fun _ _ _ _ _ => pts_one (pt_cmpR (show OpR _ _ rNe from op_ne) (pe_meth (pv 2) hG.c mL GL h_least bL .nil pass0 (pa_cons (pv 5) pa_nil)) (pe_dget hu (pv 3) (pv 5) (fun _ _ => rfl)) (nomark _))) (fun _ _ _ _ _ => (pv 5))) (pe_lst pa_nil) (nomark _)) (pss_one (ps_ret pe_bl)) pss_nil)
      (pss_cons (ps_for PassesOwn.never rfl (pi_list (pv 0)) (pg_name (i := 5) sc__law_answers_right.nd rfl (Or.inl rfl)) (pss_cons (ps_for PassesOwn.never rfl (pi_list (pv 0)) (pg_name (i := 6) sc__law_answers_right.nd rfl (Or.inl rfl)) (pss_cons (ps_set (i := 7) sc__law_answers_right.nd rfl (Or.inl rfl) (pe_tup (pa_cons pe_str (pa_cons (pe_dget1 hu (pe_dget hu (pv 1) pe_str (fun _ _ => rfl)) (pe_tup (pa_cons (pv 5) (pa_cons (pv 6) pa_nil))) ⟨rfl, rfl, rfl, rfl⟩) pa_nil))))
      (pss_cons (ps_if (PW.pt (pw_or (pt_cmpR op_ne (pe_dget hu (pv 3) (pv 5) (fun _ _ => rfl)) (pv 5) (nomark _)) (pw_or1 (pt_cmpR op_ne (pe_dget hu (pv 3) (pv 6) (fun _ _ => rfl)) (pv 6) (nomark _))))) (pss_one (ps_set (i := 7) sc__law_answers_right.nd rfl (Or.inl rfl) (pe_tup (pa_cons pe_str (pa_cons (pe_callTy call_int1 (by rfl) T.n_int (by decide +kernel) (pa_cons (pe_cmpR op_eq (pe_dget hu (pv 3) (pv 5) (fun _ _ => rfl)) (pv 5) (nomark _)) pa_nil)) pa_nil))))) pss_nil)
      (pss_one (ps_if (pt_cmpR (op_neD hr.units) (pe_call G__law_pair_told (by exact h__law_pair_told) (by rfl) A__law_pair_told.m A__law_pair_told.k A__law_pair_told.b .nil pass0 (pa_cons (pv 2) (pa_cons (pv 5) (pa_cons (pv 6) pa_nil)))) (pv 7) (nomark _)) (pss_one (ps_ret pe_bl)) pss_nil)))))
      (pss_cons (ps_set (i := 7) sc__law_answers_right.nd rfl (Or.inl rfl) (pe_ifExp (pt_cmpR op_eq (pe_dget hu (pv 3) (pv 5) (fun _ _ => rfl)) (pv 5) (nomark _)) (pe_tup (pa_cons pe_str (pa_cons (pe_cmpR op_in_seq (pv 5) (pe_dget hu (pv 1) pe_str (fun _ _ => rfl)) rfl) pa_nil))) (pe_tup (pa_cons pe_str (pa_cons pe_int pa_nil)))))
      (pss_one (ps_if (pt_cmpR op_ne (pe_callB (call_reprV hg hr.units) (by rfl) nR (by decide +kernel) (pa_cons (pe_call G__law_still_told (by exact h__law_still_told) (by rfl) A__law_still_told.m A__law_still_told.k A__law_still_told.b .nil pass0 (pa_cons (pv 2) (pa_cons (pv 5) pa_nil))) pa_nil)) (pe_callB (call_reprV hg hr.units) (by rfl) nR (by decide +kernel) (pa_cons (pv 7) pa_nil)) (nomark _)) (pss_one (ps_ret pe_bl)) pss_nil)))))
      (pss_one (ps_ret pe_bl)))))), ?_⟩
    obtain ⟨dg, p, tw0, tr, tl, tv, A, vr, hgl, _⟩ := id hCl
    obtain ⟨m, hm⟩ : ∃ m, ss.length = m + 1 := ⟨ss.length - 1, by omega⟩
    have gs := good_sen lts tk
    have dks := good_dk gs
    have lay := dks.lay
    refine ⟨_, rfl, R, _, rfl, hR.gle, _, rfl, g, dg, _, rfl, hgl, rfl, g, ys, k, x, sv, ss, rfl, hCl, tk, fun H1 tc s1 etc => ⟨by show 2 ≤ sizeLine; omega, fun tt htt => ?_⟩⟩
    have s2 := s1.trans (Ask.Same.upd_new (o := .tup [.ref LD, .ref tc]) (Same.refl H1) htt)
    have e2 : upd H1 tt (.tup [.ref LD, .ref tc]) tt = some (.tup [.ref LD, .ref tc]) := upd_same
    have etc2 := (Ask.Same.upd_new (o := .tup [.ref LD, .ref tc]) (Same.refl H1) htt) _ _ etc
    generalize upd H1 tt (.tup [.ref LD, .ref tc]) = H2 at s2 e2 etc2 ⊢
    refine ⟨tt, _, rfl, SqT.of e2, rfl, _, _, rfl, _, _, rfl, rfl, ?_⟩
    obtain ⟨q0, hq0⟩ : ∃ q, ss[0]? = some q := ⟨_, List.getElem?_eq_getElem l1⟩
    have st1 : ss.take 1 = [q0] := by rw [List.take_add_one, hq0]; rfl
    rw [st1] at etc2
    have hsen : SenAt K CL CS H q0 ys k x sv := by
      obtain ⟨_, _, _, _, _, _, _, _, _, _, _, _, _, hT⟩ := hCl
      exact hT.sen q0 (List.mem_of_getElem? hq0)
    try dsimp only
    refine seqIf_mid (fun σ' H' => ∃ o8 : Option V, σ' = [some (.ref a), some (.ref R), some (.ref g), some (.ref LD), some (.ref tc), none, none, none, o8] ∧ Same H H') (fun N hN => ?_) ?_
    · refine ⟨_, rfl, tc, rfl, ⟨_, SqT.of etc2⟩, fun D hD => ?_⟩
      refine lc_it (walk_tup (xs := [V.ref q0])) (fun i H' => (∃ us, H' D = some (.lst us) ∧ TrsL H' us (([[.str k, .str x, sv]] : List (List V)).take i)) ∧ Same H2 H') ⟨⟨[], by rw [upd_same], TrsL.nil _⟩, Ask.Same.upd_new (Same.refl _) hD⟩ (fun _ H' _ ⟨_, s'⟩ => SqT.of (s' _ _ etc2)) ?_ ?_
      · rintro i v HB' HB hi ⟨⟨us, p1, p3⟩, p2⟩ ⟨rfl, hv⟩
        match i, hi, hv, p3 with
        | 0, _, hv, p3 =>
          cases hv
          have u0 : us = [] := List.length_eq_zero_iff.mp p3.1
          subst u0
          refine ⟨rfl, _, rfl, q0, ys, k, x, sv, rfl, (hsen.same s2).same p2, fun t ht => ?_⟩
          have s3 := Ask.Same.upd_new (o := .tup [.str k, .str x, sv]) (Same.refl HB) ht
          exact ⟨[], s3 _ _ p1, by show 0 < sizeLine; omega, ⟨_, upd_same, TrsL.push (TrsL.nil _) (s3 _ _ p1) upd_same⟩, Ask.Same.upd_new (p2.trans s3) hD⟩
      rintro H3 ⟨⟨us, p1, p3⟩, p2⟩
      have p3 : TrsL H3 us [[.str k, .str x, sv]] := p3
      have s03 := s2.trans p2
      refine ⟨_, rfl, _, rfl, a, R, LD, LS, LP, ys, k, x, sv, rfl, Same.seq s03 ha, lts.nd, by have := lts.l1; omega, hR.same s03, tk, fun H4 q t4 s4 eq4 et4 => ?_⟩
      obtain ⟨v1, hu1⟩ : ∃ v, us = [v] := by
        have := p3.1
        match us, this with
        | [v], _ => exact ⟨v, rfl⟩
      subst hu1
      obtain ⟨t3, rfl, et3⟩ := p3.2 0 v1 _ rfl rfl
      have layL : PyData.canLay0 (.list [dataT [.str k, .str x, sv]]) = true := by simp only [PyData.canLay0, PyData.canLayAll0, lay, Bool.and_self]
      have sh : SeqAt.shaped (.list [dataT [.str k, .str x, sv]]) = true := by
        refine shaped_of layL ?_
        have := dks.dep
        show max (PyData.depth _) 0 + 1 ≤ 64
        omega
      refine ⟨.list [dataT [.str k, .str x, sv]], .list [dataT [.str k, .str x, sv]], .lst (SqL.of (s4 _ _ p1)) (.cons (good_tup (s4 _ _ et3) gs) .nil), .lst (SqL.of eq4) (.cons (good_tup et4 gs) .nil), sh, sh, ?_⟩
      rw [SeqAt.eqv_refl _ layL]
      exact ⟨_, rfl, iteF ⟨_, rfl, _, _, .type "tuple", .type "tuple", true, rfl, .ty "tuple", .base (.tup (s4 _ _ (p2 _ _ etc2))), kit_ty (by decide +kernel), _, rfl, iteF (hN _ _ ⟨_, rfl, s03.trans s4⟩)⟩⟩
    rintro σ' H3 ⟨o8, rfl, s3⟩
    have eqo := ClsAt.eqOk tk
    have sc2 : ∀ y, scal (lstV k x sv y) (lstV k x sv y) = true := fun y => by rcases lst_cases (x := x) tk.hs y with e | ⟨q, e⟩ <;> rw [e] <;> rfl
    refine seqIf_mid (fun σ' H' => ∃ o8 : Option V, σ' = [some (.ref a), some (.ref R), some (.ref g), some (.ref LD), some (.ref tc), none, none, none, o8] ∧ Same H H') (fun N hN => ?_) ?_
    · refine ⟨_, rfl, a, rfl, ⟨_, Same.seq s3 ha⟩, fun D hD => ?_⟩
      refine lc_it (walk_list (xs := ys.map V.str)) (fun i H' => H' D = some (.lst []) ∧ Same H3 H') ⟨upd_same, Ask.Same.upd_new (Same.refl _) hD⟩ (fun _ H' _ ⟨_, s'⟩ => Same.seq (s3.trans s') ha) ?_ ?_
      · rintro i v HB' HB hi ⟨p1, p2⟩ ⟨rfl, hv⟩
        rw [List.length_map] at hi
        obtain ⟨y, hy⟩ : ∃ y, ys[i]? = some y := ⟨_, List.getElem?_eq_getElem hi⟩
        rw [List.getElem?_map, hy] at hv
        cases hv
        have my := List.mem_of_getElem? hy
        have s3B := s3.trans p2
        refine ⟨rfl, _, rfl, g, dg, _, rfl, s3B _ _ hgl, rfl, _, rfl, g, ys, k, x, sv, ss, y, rfl, hCl.same s3B, my, eqo, ?_⟩
        rw [hm, (cor_lo (m := m) tk my).2]
        refine ⟨_, rfl, _, rfl, LD, _, rfl, (hR.same s3B).gl my, sc2 y, _, rfl, ?_⟩
        rw [decide_eq_true rfl]
        exact iteF ⟨p1, p2⟩
      rintro H4 ⟨p1, p2⟩
      refine ⟨Nat.zero_le _, fun E0' hE => ?_⟩
      have s5 := Ask.Same.upd_new (o := .lst []) (Same.refl H4) hE
      refine ⟨.list [], .list [], .lst (SqL.of (s5 _ _ p1)) .nil, .lst (SqL.of upd_same) .nil, shaped_of rfl (by decide), shaped_of rfl (by decide), ?_⟩
      rw [SeqAt.eqv_refl _ rfl]
      exact ⟨_, rfl, iteF (hN _ _ ⟨_, rfl, (s3.trans p2).trans s5⟩)⟩
    rintro σ' H4 ⟨o8', rfl, s4⟩
    refine for_any (fun Rr hR => ⟨_, rfl, a, rfl, ⟨_, Same.seq s4 ha⟩, hR⟩) (walk_list (xs := ys.map V.str)) (fun i σ' H' => ∃ o5 o6 o7 o8 : Option V, σ' = [some (.ref a), some (.ref R), some (.ref g), some (.ref LD), some (.ref tc), o5, o6, o7, o8] ∧ Same H H') ⟨_, _, _, _, rfl, s4⟩ (fun i σ' H' _ ⟨_, _, _, _, _, s'⟩ => Same.seq s' ha) ?_ ?_
    rotate_left
    · rintro σ' H5 ⟨o5, o6, o7, o8, rfl, s5⟩
      exact kq H5 s5
    rintro i v σ' H5' H5 hi ⟨o5, o6, o7, o8, rfl, s5⟩ ⟨rfl, hv⟩
    rw [List.length_map] at hi
    obtain ⟨y, hy⟩ : ∃ y, ys[i]? = some y := ⟨_, List.getElem?_eq_getElem hi⟩
    rw [List.getElem?_map, hy] at hv
    cases hv
    have my := List.mem_of_getElem? hy
    try dsimp only
    refine nm_any ?_
    refine for_any (fun Rr hR => ⟨_, rfl, a, rfl, ⟨_, Same.seq s5 ha⟩, hR⟩) (walk_list (xs := ys.map V.str)) (fun i σ' H' => ∃ o6 o7 o8 : Option V, σ' = [some (.ref a), some (.ref R), some (.ref g), some (.ref LD), some (.ref tc), some (.str y), o6, o7, o8] ∧ Same H H') ⟨_, _, _, rfl, s5⟩ (fun i σ' H' _ ⟨_, _, _, _, s'⟩ => Same.seq s' ha) ?_ ?_
    · rintro j v σ' H6' H6 hj ⟨o6, o7, o8, rfl, s6⟩ ⟨rfl, hv⟩
      rw [List.length_map] at hj
      obtain ⟨z, hz⟩ : ∃ z, ys[j]? = some z := ⟨_, List.getElem?_eq_getElem hj⟩
      rw [List.getElem?_map, hz] at hv
      cases hv
      have mz := List.mem_of_getElem? hz
      try dsimp only
      refine nm_any ?_
      have hR6 := hR.same s6
      refine ⟨_, rfl, R, _, rfl, hR6.gpr, LP, rfl, .inr ⟨_, .inl hR6.pr⟩, _, rfl, _, rfl, by show 2 ≤ sizeLine; omega, fun u hu => ?_⟩
      have s7 := s6.trans (Ask.Same.upd_new (o := .tup [.str y, .str z]) (Same.refl H6) hu)
      have e7 : upd H6 u (.tup [.str y, .str z]) u = some (.tup [.str y, .str z]) := upd_same
      generalize upd H6 u (.tup [.str y, .str z]) = H7 at s7 e7 ⊢
      have hR7 := hR.same s7
      refine ⟨_, hR7.gp e7, by show 2 ≤ sizeLine; omega, fun t1 ht1 => ?_⟩
      have s8 := s7.trans (Ask.Same.upd_new (o := .tup [.str "is", (valV (pairsD k x sv) [Sum.inr y, Sum.inr z]).getD .non]) (Same.refl H7) ht1)
      have e8 : upd H7 t1 (.tup [.str "is", (valV (pairsD k x sv) [Sum.inr y, Sum.inr z]).getD .non]) t1 = some (.tup [.str "is", (valV (pairsD k x sv) [Sum.inr y, Sum.inr z]).getD .non]) := upd_same
      generalize upd H7 t1 (.tup [.str "is", (valV (pairsD k x sv) [Sum.inr y, Sum.inr z]).getD .non]) = H8 at s8 e8 ⊢
      have hR8 := hR.same s8
      try dsimp only
      refine nm_any ?_
      refine seqIf_mid (fun σ' H' => ∃ (o8 : Option V) (td : Addr), σ' = [some (.ref a), some (.ref R), some (.ref g), some (.ref LD), some (.ref tc), some (.str y), some (.str z), some (.ref td), o8] ∧ Same H H' ∧ H' td = some (.tup (dueP k x sv y z))) (fun N hN => ?_) ?_
      · have asg : ¬ (lstV k x sv y = .str y ∧ lstV k x sv z = .str z) → ∀ (D : Ends) (σ0 : L2.St), σ0 = [some (.ref a), some (.ref R), some (.ref g), some (.ref LD), some (.ref tc), some (.str y), some (.str z), some (.ref t1), o8] → D.nx = N →
            (tAsg (tTup (tCons (tC (.str "not live")) (tCons (tCB (fun xs H Q => (∃ i, xs = [V.int i] ∧ Q (V.int i) H) ∨ ∃ k, xs = [V.bl k] ∧ Q (V.int (if k = true then 1 else 0)) H) (tCons (tOp rEq (tDGet (tVar 3) (tVar 5)) (tVar 5)) tNil)) tNil))) (gName 7)) D σ0 H8 := by
          rintro n D σ0 rfl hD
          refine ⟨_, rfl, _, rfl, LD, _, rfl, hR8.gl my, _, rfl, lst_scal tk.hs y y, .inr ⟨_, rfl, by show 2 ≤ sizeLine; omega, fun t2 ht2 => ?_⟩⟩
          have s9 := s8.trans (Ask.Same.upd_new (o := .tup [.str "not live", .int (if decide (lstV k x sv y = .str y) = true then 1 else 0)]) (Same.refl H8) ht2)
          show D.nx _ _
          rw [hD]
          refine hN _ _ ⟨_, t2, rfl, s9, ?_⟩
          rw [upd_same]
          unfold dueP
          rw [if_neg n]
          by_cases c : lstV k x sv y = .str y
          · rw [if_pos (decide_eq_true c), if_pos c]
          · rw [if_neg (by rw [decide_eq_false c]; decide), if_neg c]
        refine ⟨_, rfl, _, rfl, LD, _, rfl, hR8.gl my, _, rfl, lst_scal tk.hs y y, _, rfl, ?_⟩
        by_cases c1 : lstV k x sv y = .str y
        · rw [decide_eq_true c1]
          refine iteF ⟨_, rfl, _, rfl, LD, _, rfl, hR8.gl mz, _, rfl, lst_scal tk.hs z z, _, rfl, ?_⟩
          by_cases c2 : lstV k x sv z = .str z
          · rw [decide_eq_true c2]
            exact iteF (hN _ _ ⟨_, t1, rfl, s8, by rw [e8]; unfold dueP; rw [if_pos ⟨c1, c2⟩]⟩)
          · rw [decide_eq_false c2]
            exact iteT (asg (fun q => c2 q.2) _ _ rfl rfl)
        · rw [decide_eq_false c1]
          exact iteT (iteT (asg (fun q => c1 q.1) _ _ rfl rfl))
      rintro σ9 H9 ⟨o8', td, rfl, s9, e9⟩
      have gd := good_dueP tk y z
      have dkd := good_dk gd
      refine ⟨_, rfl, _, rfl, _, rfl, g, ys, k, x, sv, ss, y, z, rfl, hCl.same s9, tk, my, mz, fun H10 t10 s10 e10 => ?_⟩
      rw [hm, due_pair tk my mz] at e10
      refine ⟨_, rfl, dataT (dueP k x sv y z), dataT (dueP k x sv y z), good_tup e10 gd, good_tup (s10 _ _ e9) gd, dkd.shaped, dkd.shaped, ?_⟩
      rw [SeqAt.eqv_refl _ dkd.lay]
      exact ⟨_, rfl, iteF ⟨_, _, _, rfl, s9.trans s10⟩⟩
    rintro σ' H6 ⟨o6, o7, o8, rfl, s6⟩
    have hR6 := hR.same s6
    refine asg_c ?_
    refine tIf_cut (fun v H' => ∃ td : Addr, v = .ref td ∧ Same H H' ∧ H' td = some (.tup (dueS k x sv y))) (fun Q' hQ => ?_) ?_
    · refine ⟨_, rfl, _, rfl, LD, _, rfl, hR6.gl my, _, rfl, lst_scal tk.hs y y, _, rfl, ?_⟩
      by_cases c : lstV k x sv y = .str y
      · rw [decide_eq_true c]
        refine iteT ⟨_, rfl, _, rfl, R, _, rfl, hR6.gst, LS, _, rfl, .inl (SqL.of hR6.st), rfl, by unfold stillD; split <;> rfl, by show 2 ≤ sizeLine; omega, fun t2 ht2 => hQ _ _ ⟨t2, rfl, Ask.Same.made1 s6 ht2, ?_⟩⟩
        rw [upd_same]
        unfold dueS
        rw [if_pos c]
        rfl
      · rw [decide_eq_false c]
        refine iteF ⟨by show 2 ≤ sizeLine; omega, fun t2 ht2 => hQ _ _ ⟨t2, rfl, Ask.Same.made1 s6 ht2, ?_⟩⟩
        rw [upd_same]
        unfold dueS
        rw [if_neg c]
    rintro v H7 ⟨td, rfl, s7, e7⟩
    try dsimp only
    refine nm_any ?_
    have gd := good_dueS k x sv y
    have dkd := good_dk gd
    have ld : (dueS k x sv y).length = 2 := by unfold dueS; split <;> rfl
    have lsh : (dataT (dueS k x sv y)).shown.length ≤ sizeLine := by
      have := dkd.len
      rw [ld] at this
      omega
    refine ⟨_, rfl, _, rfl, g, ys, k, x, sv, ss, y, rfl, hCl.same s7, my, fun H8 t8 s8 e8 => ?_⟩
    rw [hm, due_still tk my] at e8
    refine ⟨_, dataT (dueS k x sv y), rfl, good_tup e8 gd, dkd.sho, dkd.nod, Nat.le_trans dkd.dep (by decide), lsh, _, rfl, _, dataT (dueS k x sv y), rfl, good_tup (s8 _ _ e7) gd, dkd.sho, dkd.nod, Nat.le_trans dkd.dep (by decide), lsh, rfl, _, rfl, ?_⟩
    rw [decide_eq_true rfl]
    exact iteF ⟨_, _, _, _, rfl, s7.trans s8⟩
end
end Ask

set_option maxHeartbeats 8000000
/-! the law of one told sentence: its mathematics -/
namespace Ask
open PySem L2
theorem ix_idx : ∀ {ys : List Str} {x : Str}, x ∈ ys → ixOf ys x = ys.idxOf x
  | [], _, h => by cases h
  | y :: r, x, h => by
    unfold ixOf
    by_cases c : y = x
    · subst c
      rw [List.idxOf_cons_self, if_pos rfl]
    · rw [idx_ne c, if_neg c, ix_idx ((List.mem_cons.mp h).resolve_left fun e => c e.symm)]
/-- a drawn triple in its one form is one to tell -/
theorem tell_nf {ys : List Str} {k0 x0 : Str} {s0 : V} (dr : DrOk ys k0 x0 s0) {k x : Str} {s : V} (e : nfT ys k0 x0 s0 = [.str k, .str x, s]) : TellOk ys k x s := by
  obtain ⟨k', x', s', e', hk, hx, hs⟩ := dr.nf
  rw [e'] at e
  injection e with e1 e
  injection e with e2 e
  injection e with e3 _
  cases e1
  cases e2
  cases e3
  refine ⟨hk, hx, hs, fun ea => ?_⟩
  subst ea
  obtain ⟨y, rfl, hy⟩ := hs.1 (by decide)
  refine ⟨y, rfl, ?_⟩
  obtain ⟨dk, dx, ds, dn⟩ := dr
  unfold nfT at e'
  split at e'
  · cases e'
  · rename_i n1
    split at e'
    · rename_i n2
      obtain ⟨rfl, n2⟩ := n2
      injection e' with _ e'
      injection e' with e1 e'
      injection e' with e2 _
      cases e2
      subst e1
      unfold ahead at n2
      have n2 := of_decide_eq_true n2
      rw [ix_idx dx, ix_idx hx] at n2
      exact n2
    · rename_i n2
      injection e' with e0 e'
      injection e' with e1 e'
      injection e' with e2 _
      cases e0
      cases e1
      cases e2
      have n3 : ¬ ahead ys x0 (.str y) = true := fun z => n2 ⟨rfl, z⟩
      have n4 : ¬ ixOf ys x0 < ixOf ys y := fun z => n3 (decide_eq_true z)
      rw [ix_idx hx, ix_idx hy] at n4
      have n5 : x0 ≠ y := fun z => dn ⟨rfl, by rw [z]⟩
      have n6 : ys.idxOf x0 ≠ ys.idxOf y := fun z => (idx_inj hx z).elim (fun q => n5 q.symm) (fun q => q hy)
      omega
/-- what may be told: a triple with this one form -/
def TrOk (ys : List Str) (k x : Str) (s : V) (t : List V) : Prop := ∃ (k0 x0 : Str) (s0 : V), t = [.str k0, .str x0, s0] ∧ DrOk ys k0 x0 s0 ∧ nfT ys k0 x0 s0 = [.str k, .str x, s]
theorem tr_swap {ys : List Str} {x y : Str} (tk : TellOk ys "alike" x (.str y)) : TrOk ys "alike" x (.str y) [.str "alike", .str y, .str x] := by
  obtain ⟨z, e, l⟩ := tk.nf rfl
  cases e
  obtain ⟨z, e, hy⟩ := tk.hs.1 (by decide)
  cases e
  have ne : y ≠ x := fun z => by rw [z] at l; omega
  refine ⟨"alike", y, .str x, rfl, .two (by decide) tk.hk hy tk.hx (fun z => ne z.2), ?_⟩
  unfold nfT
  rw [if_neg (fun z => absurd z.1 (by decide)), if_pos ⟨rfl, by unfold ahead; dsimp only; rw [ix_idx hy, ix_idx tk.hx]; exact decide_eq_true l⟩]
theorem tr_over {ys : List Str} {x : Str} (hx : x ∈ ys) : TrOk ys "kept" x (.str x) [.str "over", .str x, .str x] := by
  refine ⟨"over", x, .str x, rfl, .two (by decide) (by decide) hx hx (fun z => absurd z.1 (by decide)), ?_⟩
  unfold nfT
  rw [if_pos ⟨rfl, rfl⟩]
theorem merge_own : ∀ (ys : List Str) (acc : List (Key × V)) (y : Str), valV (mergeK acc (ys.map fun y => ((Sum.inr y : Key), V.str y))) (Sum.inr y) = if y ∈ ys then some (.str y) else valV acc (Sum.inr y)
  | [], acc, y => by rw [if_neg (by simp)]; rfl
  | z :: r, acc, y => by
    show valV (mergeK (putK acc (Sum.inr z) (.str z)) (r.map _)) _ = _
    rw [merge_own r _ y, valV_put]
    by_cases c : y ∈ r
    · rw [if_pos c, if_pos (List.mem_cons_of_mem _ c)]
    · rw [if_neg c]
      by_cases d : y = z
      · subst d
        rw [if_pos rfl, if_pos List.mem_cons_self]
      · rw [if_neg (fun q => d (Sum.inr.inj q)), if_neg (fun q => (List.mem_cons.mp q).elim d c)]
theorem merge_len : ∀ (more acc : List (Key × V)), (mergeK acc more).length ≤ acc.length + more.length
  | [], acc => Nat.le_refl _
  | kv :: r, acc => by
    show (mergeK (putK acc kv.1 kv.2) r).length ≤ _
    have := merge_len r (putK acc kv.1 kv.2)
    have h : (putK acc kv.1 kv.2).length ≤ acc.length + 1 := by
      unfold putK
      split
      · rw [List.length_map]; omega
      · rw [List.length_append]; exact Nat.le_refl _
    rw [List.length_cons]
    omega
/-- the least letters after the dict was changed -/
theorem put_lst {kvs : List (Key × V)} {ys : List Str} {k x : Str} {s : V} (h : ∀ y ∈ ys, valV kvs (Sum.inr y) = some (.str y)) (hk : k = "idle" ∨ k = "alike") : ∀ y ∈ ys, valV (putK kvs (Sum.inr x) s) (Sum.inr y) = some (lstV k x s y) := fun y hy => by
  rw [valV_put]
  unfold lstV
  by_cases c : y = x
  · subst c
    rw [if_pos rfl, if_pos ⟨rfl, hk⟩]
  · rw [if_neg (fun q => c (Sum.inr.inj q)), if_neg (fun q => c q.1), h y hy]
theorem own_lst {k x : Str} {s : V} (hk : ¬ (k = "idle" ∨ k = "alike")) (y : Str) : lstV k x s y = .str y := if_neg fun z => hk z.2
end Ask

set_option maxHeartbeats 8000000
/-! the law of one told sentence -/
namespace Ask
open PySem L2
theorem RulesAt.kp {H H' : Hp} {R LD LS LP p : Addr} {ys : List Str} {k x : Str} {s : V} (h : RulesAt H R ys k x s LD LS LP) (e : Kp p H H') (n1 : R ≠ p) (n2 : LD ≠ p) (n3 : LS ≠ p) (n4 : LP ≠ p) : RulesAt H' R ys k x s LD LS LP :=
  ⟨e _ _ n1 h.at_, let ⟨kvs, a, b⟩ := h.le; ⟨kvs, e _ _ n2 a, b⟩, e _ _ n3 h.st, e _ _ n4 h.pr⟩
theorem paired_app {α β : Type} {F : α → β → Prop} {a c : List α} {b d : List β} (h : Paired F a b) (h2 : Paired F c d) : Paired F (a ++ c) (b ++ d) := by
  induction h with
  | nil => exact h2
  | cons r t ih => exact .cons r ih
/-- what stands in a turn of the law once the told triples are listed -/
structure TurnF (p c : Addr) (ns : List Int) (H0 H : Hp) (q T R LD LS LP : Addr) (ys : List Str) (k x : Str) (s : V) (B m : Nat) : Prop where
  rules : RulesAt H R ys k x s LD LS LP
  go : Go p c ns H0 H B
  ltr : H q = some (.lst (ys.map V.str))
  told : ∃ (vs : List V) (ts : List (List V)), H T = some (.lst vs) ∧ TrsL H vs ts ∧ (∀ t ∈ ts, TrOk ys k x s t) ∧ 1 ≤ vs.length ∧ vs.length ≤ m
  np : R ≠ p ∧ LD ≠ p ∧ LS ≠ p ∧ LP ≠ p ∧ q ≠ p ∧ T ≠ p
  tf : H0 T = none
  tn : T ≠ LS ∧ T ≠ q
section
variable {p c : Addr} {ns : List Int} {H0 H H' : Hp} {q T R LD LS LP : Addr} {ys : List Str} {k x : Str} {s : V} {B B' m : Nat}
theorem TrsL.kp {H H' : Hp} {p : Addr} {vs : List V} {ts : List (List V)} {kvs : List (Key × V)} (h : TrsL H vs ts) (e : Kp p H H') (hp : H p = some (.dK kvs)) : TrsL H' vs ts := ⟨h.1, fun i v t a b => let ⟨z, c, d⟩ := h.2 i v t a b; ⟨z, c, e _ _ (fun w => by rw [w, hp] at d; cases d) d⟩⟩
theorem TurnF.kp (h : TurnF p c ns H0 H q T R LD LS LP ys k x s B m) (e : Kp p H H') (g : Go p c ns H0 H' B') : TurnF p c ns H0 H' q T R LD LS LP ys k x s B' m := by
  obtain ⟨n1, n2, n3, n4, n5, n6⟩ := h.np
  obtain ⟨b, l, hp, _⟩ := h.go.pen
  obtain ⟨vs, ts, e1, e2, e3⟩ := h.told
  exact ⟨h.rules.kp e n1 n2 n3 n4, g, e _ _ n5 h.ltr, ⟨vs, ts, e _ _ n6 e1, e2.kp e hp, e3⟩, h.np, h.tf, h.tn⟩
theorem TurnF.draw (h : TurnF p c ns H0 H q T R LD LS LP ys k x s B m) (g : Go p c ns H H' B') : TurnF p c ns H0 H' q T R LD LS LP ys k x s B' m := h.kp g.kp (h.go.step g)
theorem TurnF.same (h : TurnF p c ns H0 H q T R LD LS LP ys k x s B m) (e : Same H H') : TurnF p c ns H0 H' q T R LD LS LP ys k x s B m := h.kp (Kp.of e) (h.go.same e)
theorem TurnF.push {t : Addr} {tt : List V} (h : TurnF p c ns H0 H q T R LD LS LP ys k x s B m) (ht : H t = some (.tup tt)) (ok : TrOk ys k x s tt) {vs : List V} (e : H T = some (.lst vs)) : TurnF p c ns H0 (upd H T (.lst (vs ++ [.ref t]))) q T R LD LS LP ys k x s B (m + 1) := by
  obtain ⟨vs', ts, e1, e2, e3, e4, e5⟩ := h.told
  rw [e] at e1
  cases e1
  obtain ⟨n1, n2, n3, n4, n5, n6⟩ := h.np
  have off : ∀ {b : Addr} {o : HO}, H b = some o → b ≠ T → upd H T (.lst (vs ++ [.ref t])) b = some o := fun q n => by rw [upd_ne n]; exact q
  obtain ⟨kvs, l1, l2⟩ := h.rules.le
  refine ⟨⟨off h.rules.at_ (fun z => by have := h.rules.at_; rw [z, e] at this; cases this), ⟨kvs, off l1 (fun z => by rw [z, e] at l1; cases l1), l2⟩, off h.rules.st h.tn.1.symm, off h.rules.pr (fun z => by have := h.rules.pr; rw [z, e] at this; cases this)⟩, h.go.mut h.tf, off h.ltr h.tn.2.symm, ⟨_, _, upd_same, TrsL.push e2 e ht, fun u hu => ?_, by rw [List.length_append]; omega, by rw [List.length_append]; exact Nat.succ_le_succ e5⟩, h.np, h.tf, h.tn⟩
  rcases List.mem_append.mp hu with hu | hu
  · exact e3 u hu
  · rw [List.mem_singleton.mp hu]; exact ok
theorem rep_ref (n : Nat) (v : V) : (List.replicate n [v]).flatten = List.replicate n v := by
  induction n with
  | zero => rfl
  | succ n ih => rw [List.replicate_succ, List.flatten_cons, ih, List.replicate_succ]; rfl
end
theorem merge3 (LD LS LP : Addr) : mergeK [] (rkv LD LS LP) = rkv LD LS LP := by
  have e1 : putK ([] : List (Key × V)) (Sum.inr ("least" : Str)) (.ref LD) = [(Sum.inr ("least" : Str), .ref LD)] := putK_new _ rfl
  have e2 : putK ([(Sum.inr ("least" : Str), .ref LD)] : List (Key × V)) (Sum.inr ("still" : Str)) (.ref LS) = [(Sum.inr ("least" : Str), .ref LD), (Sum.inr ("still" : Str), .ref LS)] := putK_new _ rfl
  have e3 : putK ([(Sum.inr ("least" : Str), .ref LD), (Sum.inr ("still" : Str), .ref LS)] : List (Key × V)) (Sum.inr ("pairs" : Str)) (.ref LP) = rkv LD LS LP := putK_new _ rfl
  show putK (putK (putK ([] : List (Key × V)) (Sum.inr ("least" : Str)) (.ref LD)) (Sum.inr ("still" : Str)) (.ref LS)) (Sum.inr ("pairs" : Str)) (.ref LP) = _
  rw [e1, e2, e3]
section
variable {P : Program} {w : World} {K : PySem.W.Frag} {mg : Str → Option Value} {base : Heap}
def spLaw (K : PySem.W.Frag) : Sp := fun vs H Q _ => ∃ (a : Addr) (ns : List Int), vs = [.ref a] ∧ SqL K H a (ns.map V.int) ∧ ns.length ≤ 63 ∧ ∀ H', Q (.bl true) H'

abbrev s_law : Stmt := top 79
theorem sc_law : FnScope ["_law_script", "_law_pen_here", "_law_turn", "_law_letters_here", "_law_triple_here", "_law_kind", "_law_first", "_law_second", "_law_rules", "_law_least", "_law_still", "_law_pairs", "_law_told", "_law_some", "_law_given", "_law_closing", "_law_k", "_law_sentence_here", "_law_way_here", "_law_bare", "_law_x", "_law_one"] ["_law_script"] (defScope s_law) := ⟨rfl, rfl, rfl, by decide +kernel, rfl, by decide +kernel, by decide +kernel⟩
theorem ok_law {f f0 f1 f2 f3 f4 f5 f6 f7 fL fO fB fI fE fQ CL CS CC CG CN CB CM : Addr} {fd fd0 fd1 fd2 fd3 fd4 fd5 fd6 fd7 fdL fdO fdB fdI fdE fdQ : FuncData}
    (F : Fun K "law" "law" s_law f fd) (T : Blt mg) (nTu : mg "tuple" = none) (nD : mg "dict" = none) (hG : ClC K CG) (hS : SnC K CS) (hL0 : Cls K CL)
    (G__law_pen : FnOk P w K mg base CX0 1 f0 fd0 ["_law_script"] (spPen K)) (A__law_pen : At K mg "_law_pen" f0 fd0 ["_law_script"])
    (G__law_draw : FnOk P w K mg base CX0 1 f1 fd1 ["_law_pen_here", "_law_many"] spDraw) (A__law_draw : At K mg "_law_draw" f1 fd1 ["_law_pen_here", "_law_many"])
    (G__law_letters : FnOk P w K mg base CX0 3 f2 fd2 ["_law_pen_here", "_law_many"] spLettersD) (A__law_letters : At K mg "_law_letters" f2 fd2 ["_law_pen_here", "_law_many"])
    (G__law_drawn : FnOk P w K mg base CX0 3 f3 fd3 ["_law_pen_here", "_law_letters_here"] (spDrawn K)) (A__law_drawn : At K mg "_law_drawn" f3 fd3 ["_law_pen_here", "_law_letters_here"])
    (G__law_normal : FnOk P w K mg base CX0 1 f4 fd4 ["_law_letters_here", "_law_triple_here"] (spNormal K)) (A__law_normal : At K mg "_law_normal" f4 fd4 ["_law_letters_here", "_law_triple_here"])
    (G__law_sentence : FnOk P w K mg base CX0 9 f5 fd5 ["_law_letters_here", "_law_triple_here"] (spSent K CL CS)) (A__law_sentence : At K mg "_law_sentence" f5 fd5 ["_law_letters_here", "_law_triple_here"])
    (G_close : FnOk P w K mg base CX0 7 f6 fd6 ["letters", "told"] (spClose K CL CS CC CG)) (A_close : At K mg "close" f6 fd6 ["letters", "told"])
    (G__law_answers_right : FnG P w K mg base CX0 7 f7 fd7 ["_law_letters_here", "_law_rules", "_law_closing"] (spAns K CL CS CC CG)) (A__law_answers_right : At K mg "_law_answers_right" f7 fd7 ["_law_letters_here", "_law_rules", "_law_closing"])
    (ML : Mk K CL fL) (mL : mg "Letters" = some (.ref CL)) (bL : Binds K fdL ["self", "words"] []) (GL : FnOk P w K mg base (L2.CX P w) 4 fL fdL ["self", "words"] (spLet K CL CB CM))
    (GO : FnOk P w K mg base CX0 1 fO fdO ["self"] (spFormC K CL CS CC CG)) (bO : Binds K fdO ["self"] []) (mO : Meth K CG "form" fO)
    (GB : FnOk P w K mg base CX0 2 fB fdB ["self", "x"] (spLeast K CL CS CC CG)) (bB : Binds K fdB ["self", "x"] []) (mB : Meth K CG "least" fB)
    (GI : FnOk P w K mg base (L2.CX P w) 5 fI fdI ["self", "y"] (spIsStill K CL CS CC CG CN)) (bI : Binds K fdI ["self", "y"] []) (mI : Meth K CG "is_still" fI)
    (GE : FnOk P w K mg base CX0 2 fE fdE ["self", "other"] (spSEq K CL CS)) (bE : Binds K fdE ["self", "other"] []) (nE : OwnNe K CS fE)
    (GQ : FnOk P w K mg base CX0 1 fQ fdQ ["self", "other"] (spEq2 CL)) (bQ : Binds K fdQ ["self", "other"] []) (nQ : OwnNe K CL fQ) :
    FnG P w K mg base CX0 10 f fd ["_law_script"] (spLaw K) := by
  refine FnG.mk0 F sc_law (fun vs H Q E h => ?_) (fun cdv A outer s H vs Q E hg hr h => ?_)
  · obtain ⟨a, ns, rfl, _⟩ := h
    rfl
  · obtain ⟨a, ns, rfl, hA, hl, kq⟩ := h
    have h__law_pen := hr.mono (j := 1) (by decide)
    have h__law_draw := hr.mono (j := 1) (by decide)
    have h__law_letters := hr.mono (j := 3) (by decide)
    have h__law_drawn := hr.mono (j := 3) (by decide)
    have h__law_normal := hr.mono (j := 1) (by decide)
    have h__law_sentence := hr.mono (j := 9) (by decide)
    have h_close := hr.mono (j := 7) (by decide)
    have h__law_answers_right := hr.mono (j := 7) (by decide)
    have h_form := hr.mono (j := 1) (by decide)
    have h_least := hr.mono (j := 2) (by decide)
    have h_is_still := hr.mono (j := 5) (by decide)
    have h5 := hr.mono (j := 5) (by decide)
    have h2 := hr.mono (j := 2) (by decide)
    have h3 := hr.mono (j := 3) (by decide)
    have hu := hu_of hr
    have z1 : (100000 : Nat) ≤ sizeLine := by decide
    refine ⟨_, PSs.nox (pss_cons (ps_set (i := 1) sc_law.nd rfl (Or.inl rfl) (pe_call G__law_pen (by exact h__law_pen) (by rfl) A__law_pen.m A__law_pen.k A__law_pen.b .nil pass0 (pa_cons (pv 0) pa_nil)))
      (pss_cons (ps_for PassesOwn.never rfl (pi_range1 rfl T.n_range (pa_cons pe_int pa_nil)) (pg_name (i := 2) sc_law.nd rfl (Or.inl rfl)) (pss_cons (ps_set (i := 3) sc_law.nd rfl (Or.inr rfl) (pe_call G__law_letters (by exact h__law_letters) (by rfl) A__law_letters.m A__law_letters.k A__law_letters.b .nil pass0 (pa_cons (pv 1) (pa_cons (pe_op op_add pe_int (pe_call G__law_draw (by exact h__law_draw) (by rfl) A__law_draw.m A__law_draw.k A__law_draw.b .nil pass0 (pa_cons (pv 1) (pa_cons pe_int pa_nil)))) pa_nil))))
      (pss_cons (ps_set (i := 4) sc_law.nd rfl (Or.inl rfl) (pe_call G__law_drawn (by exact h__law_drawn) (by rfl) A__law_drawn.m A__law_drawn.k A__law_drawn.b .nil pass0 (pa_cons (pv 1) (pa_cons (pv 3) pa_nil))))
      (pss_cons (ps_asg (pe_call G__law_normal (by exact h__law_normal) (by rfl) A__law_normal.m A__law_normal.k A__law_normal.b .nil pass0 (pa_cons (pv 3) (pa_cons (pv 4) pa_nil))) (pg_tup rfl (pgs_cons (pg_name (i := 5) sc_law.nd rfl (Or.inl rfl)) (pgs_cons (pg_name (i := 6) sc_law.nd rfl (Or.inl rfl)) (pgs_cons (pg_name (i := 7) sc_law.nd rfl (Or.inl rfl)) pgs_nil)))))
      (pss_cons (ps_set (i := 8) sc_law.nd rfl (Or.inl rfl) (pe_disp (pps_cons pe_str (pe_callTy (call_dictP rfl) (by rfl) nD (by decide +kernel) (pa_cons (pe_lc (own := [("_law_x", 20)]) rfl sc_law.nd (pi_list (pv 3)) (blkOk_by (N := ["_law_script", "_law_pen_here", "_law_turn", "_law_letters_here", "_law_triple_here", "_law_kind", "_law_first", "_law_second", "_law_rules", "_law_least", "_law_still", "_law_pairs", "_law_told", "_law_some", "_law_given", "_law_closing", "_law_k", "_law_sentence_here", "_law_way_here", "_law_bare", "_law_x", "_law_one"]) (sc := defScope s_law) (by decide +kernel)) (fun _ _ _ _ _ => (pg_name (i := 20) sc_law.nd rfl (Or.inl rfl))) (fun _ _ _ _ _ => pts_nil) (fun _ _ _ _ _ => (pe_tup (pa_cons (pv 20) (pa_cons (pv 20) pa_nil))))) pa_nil)) (pps_cons pe_str (pe_lst pa_nil) (pps_cons pe_str pe_dnewT pps_nil))) (by rfl) (by rfl) (fun z => by cases z) (by decide)))
      (pss_cons (ps_par3 (i := 9) (j := 10) (l := 11) rfl sc_law.nd rfl rfl rfl (by decide) (by decide) (by decide) rfl rfl rfl (pa_cons (pe_dget hu (pv 8) pe_str (fun _ _ => rfl)) (pa_cons (pe_dget hu (pv 8) pe_str (fun _ _ => rfl)) (pa_cons (pe_dget hu (pv 8) pe_str (fun _ _ => rfl)) pa_nil))) (by rfl))
      (pss_cons (ps_if (pt_cmpR op_in_seq (pv 5) (pe_tup (pa_cons pe_str (pa_cons pe_str pa_nil))) rfl) (pss_one (ps_dput hu (pv 9) (pv 6) (pv 7) rfl)) (pss_one (ps_if (pt_cmpR op_eq (pv 5) pe_str (nomark _)) (pss_one (ps_expr (pe_bm PySem.F.plainAttrs_list PySem.F.slot_list_append PySem.F.type_list_append mt_append (pv 10) (pa_cons (pv 6) pa_nil)))) (pss_one (ps_dput hu (pv 11) (pe_tup (pa_cons (pv 6) (pa_cons (pv 7) pa_nil))) (pv 5) rfl)))))
      (pss_cons (ps_set (i := 12) sc_law.nd rfl (Or.inl rfl) (pe_op op_rep (pe_lst (pa_cons (pv 4) pa_nil)) (pe_op op_add pe_int (pe_call G__law_draw (by exact h__law_draw) (by rfl) A__law_draw.m A__law_draw.k A__law_draw.b .nil pass0 (pa_cons (pv 1) (pa_cons pe_int pa_nil))))))
      (pss_cons (ps_if (PW.pt (pw_and (pt_cmpR op_eq (pv 5) pe_str (nomark _)) (pw_and1 (pt_cmpR op_eq (pe_call G__law_draw (by exact h__law_draw) (by rfl) A__law_draw.m A__law_draw.k A__law_draw.b .nil pass0 (pa_cons (pv 1) (pa_cons pe_int pa_nil))) pe_int (nomark _))))) (pss_one (ps_expr (pe_bm PySem.F.plainAttrs_list PySem.F.slot_list_append PySem.F.type_list_append mt_append (pv 12) (pa_cons (pe_tup (pa_cons (pv 5) (pa_cons (pv 7) (pa_cons (pv 6) pa_nil)))) pa_nil)))) pss_nil)
      (pss_cons (ps_if (PW.pt (pw_and (pt_cmpR op_eq (pv 5) pe_str (nomark _)) (pw_and (pt_cmpR op_eq (pv 6) (pv 7) (nomark _)) (pw_and1 (pt_cmpR op_eq (pe_call G__law_draw (by exact h__law_draw) (by rfl) A__law_draw.m A__law_draw.k A__law_draw.b .nil pass0 (pa_cons (pv 1) (pa_cons pe_int pa_nil))) pe_int (nomark _)))))) (pss_one (ps_expr (pe_bm PySem.F.plainAttrs_list PySem.F.slot_list_append PySem.F.type_list_append mt_append (pv 12) (pa_cons (pe_tup (pa_cons pe_str (pa_cons (pv 6) (pa_cons (pv 7) pa_nil)))) pa_nil)))) pss_nil)
      (pss_cons (ps_setLc (i := 13) (own := [("_law_one", 21)]) rfl sc_law.nd rfl rfl (sw_true rfl rfl rfl (by decide +kernel)) (pi_list (pv 12)) (blkOk_by (N := ["_law_script", "_law_pen_here", "_law_turn", "_law_letters_here", "_law_triple_here", "_law_kind", "_law_first", "_law_second", "_law_rules", "_law_least", "_law_still", "_law_pairs", "_law_told", "_law_some", "_law_given", "_law_closing", "_law_k", "_law_sentence_here", "_law_way_here", "_law_bare", "_law_x", "_law_one"]) (sc := defScope s_law) (by decide +kernel)) (fun _ _ _ _ _ => (pg_name (i := 21) sc_law.nd rfl (Or.inl rfl))) (fun _ _ _ _ _ => pts_nil) (fun _ _ _ _ _ => (pe_call G__law_sentence (by exact h__law_sentence) (by rfl) A__law_sentence.m A__law_sentence.k A__law_sentence.b .nil pass0 (pa_cons (pv 3) (pa_cons (pv 21) pa_nil)))))
      (pss_cons (ps_set (i := 14) sc_law.nd rfl (Or.inl rfl) (pe_callTy call_list_of (by rfl) T.n_list (by decide +kernel) (pa_cons (pv 13) pa_nil)))
      (pss_cons (ps_set (i := 15) sc_law.nd rfl (Or.inl rfl) (pe_call G_close (by exact h_close) (by rfl) A_close.m A_close.k A_close.b .nil pass0 (pa_cons (pe_make ML GL h5 (by rfl) mL bL .nil passE (pa_cons (pv 3) pa_nil)) (pa_cons (pv 14) pa_nil))))
      (pss_cons (ps_expr (pe_bm0 PySem.F.plainAttrs_list PySem.F.slot_list_clear PySem.F.type_list_clear mt_clear (pv 14)))
      (pss_cons (ps_if (PW.pt (pw_or (pt_not (pt_val (pe_callG G__law_answers_right (by exact hg) (by exact h__law_answers_right) (by rfl) A__law_answers_right.m A__law_answers_right.k A__law_answers_right.b pass0 (pa_cons (pv 3) (pa_cons (pv 8) (pa_cons (pv 15) pa_nil)))))) (pw_or1 (pt_cmpR (op_neI GQ h2 bQ pass0 nQ) (pe_fld (pv 15) rfl) (pe_make ML GL h5 (by rfl) mL bL .nil passE (pa_cons (pv 3) pa_nil)) (nomark _))))) (pss_one (ps_ret pe_bl)) pss_nil)
      (pss_cons (ps_if (pt_cmpR op_ne (pe_callB call_len_seq (by rfl) T.n_len (by decide +kernel) (pa_cons (pe_fld (pv 15) rfl) pa_nil)) (pe_callB call_len_seq (by rfl) T.n_len (by decide +kernel) (pa_cons (pv 13) pa_nil)) (nomark _)) (pss_one (ps_ret pe_bl)) pss_nil)
      (pss_cons (ps_for PassesOwn.never rfl (pi_range1 rfl T.n_range (pa_cons (pe_callB call_len_seq (by rfl) T.n_len (by decide +kernel) (pa_cons (pv 13) pa_nil)) pa_nil)) (pg_name (i := 16) sc_law.nd rfl (Or.inl rfl)) (pss_cons (ps_asg (pe_ix ix_tup (pe_fld (pv 15) rfl) (pv 16) (fun _ _ => rfl)) (pg_tup rfl (pgs_cons (pg_name (i := 17) sc_law.nd rfl (Or.inl rfl)) (pgs_cons (pg_name (i := 18) sc_law.nd rfl (Or.inl rfl)) pgs_nil))))
      (pss_one (ps_if (PW.pt (pw_or (pt_cmpR (op_neI GE h3 bE pass0 nE) (pv 17) (pe_ix ix_list (pv 13) (pv 16) (fun _ _ => rfl)) (nomark _)) (pw_or (pt_cmpR (op_neD hr.units) (pv 18) (pe_tup pa_nil) (nomark _)) (pw_or1 (pt_cmpR (op_neI GE h3 bE pass0 nE) (pe_ix ix_tup (pe_fld (pv 15) rfl) (pv 16) (fun _ _ => rfl)) (pe_ix ix_list (pv 13) (pv 16) (fun _ _ => rfl)) (nomark _)))))) (pss_one (ps_ret pe_bl)) pss_nil))))
      (pss_cons (ps_set (i := 19) sc_law.nd rfl (Or.inl rfl) (pe_call G_close (by exact h_close) (by rfl) A_close.m A_close.k A_close.b .nil pass0 (pa_cons (pe_make ML GL h5 (by rfl) mL bL .nil passE (pa_cons (pv 3) pa_nil)) (pa_cons (pe_tup pa_nil) pa_nil))))
      (pss_cons (ps_if (PW.pt (pw_or (pt_cmpR (op_neD hr.units) (pe_meth0 (pv 19) hG.c mO GO h_form bO .nil pass0) (pe_tup pa_nil) (nomark _)) (pw_or (pt_cmpR (op_neD hr.units) (pe_fld (pv 19) rfl) (pe_tup pa_nil) (nomark _)) (pw_or1 (pt_not (pt_val (pe_callB call_isi (by rfl) T.n_isinstance (by decide +kernel) (pa_cons (pe_fld (pv 15) rfl) (pa_cons (pe_bltn (v := .ty "tuple") (u := .type "tuple") rfl nTu (by decide +kernel) rfl) pa_nil))))))))) (pss_one (ps_ret pe_bl)) pss_nil)
      (pss_one (ps_for PassesOwn.never rfl (pi_list (pv 3)) (pg_name (i := 20) sc_law.nd rfl (Or.inl rfl)) (pss_one (ps_if (PW.pt (pw_or (pt_cmpR op_ne (pe_meth (pv 19) hG.c mB GB h_least bB .nil pass0 (pa_cons (pv 20) pa_nil)) (pv 20) (nomark _)) (pw_or1 (pt_val (pe_meth (pv 19) hG.c mI GI h_is_still bI .nil passE (pa_cons (pv 20) pa_nil)))))) (pss_one (ps_ret pe_bl)) pss_nil)))))))))))))))))))))))
      (pss_one (ps_ret pe_bl)))), ?_⟩
    refine ⟨_, rfl, a, ns, rfl, hA, hl, fun H0 p c s0 hp0 hpen => ?_⟩
    try dsimp only
    refine nm_any ?_
    refine for_any (fun Rr hR => ⟨5, rfl, by decide, by decide, hR⟩) (walk_range (lo := 0) (n := 5)) (fun i σ' H' => ∃ o2 o3 o4 o5 o6 o7 o8 o9 o10 o11 o12 o13 o14 o15 o16 o17 o18 o19 o20 o21 : Option V, σ' = [some (.ref a), some (.ref p), o2, o3, o4, o5, o6, o7, o8, o9, o10, o11, o12, o13, o14, o15, o16, o17, o18, o19, o20, o21] ∧ Go p c ns H0 H' (1000 * i)) ⟨none, none, none, none, none, none, none, none, none, none, none, none, none, none, none, none, none, none, none, none, rfl, Go.refl hpen⟩ (fun _ _ _ _ _ => trivial) ?_ ?_
    rotate_left
    · rintro σ' H1 ⟨o2, o3, o4, o5, o6, o7, o8, o9, o10, o11, o12, o13, o14, o15, o16, o17, o18, o19, o20, o21, rfl, _⟩
      exact kq H1
    rintro i v σ' H1' H1 hi ⟨o2, o3, o4, o5, o6, o7, o8, o9, o10, o11, o12, o13, o14, o15, o16, o17, o18, o19, o20, o21, rfl, g1⟩ ⟨rfl, rfl⟩
    try dsimp only
    refine nm_any ?_
    refine ⟨_, rfl, _, rfl, p, c, ns, 5, _, rfl, g1.pen, by omega, by decide, by decide, fun H2 r g2 r0 r1 => ?_⟩
    replace g2 := g1.step g2
    refine ⟨_, _, rfl, rfl, p, c, ns, 1 + r, _, rfl, g2.pen, by omega, by omega, by omega, fun H3 q ys g3 hq0 hL len nd ok => ?_⟩
    replace g3 := g2.step g3
    have lts : Lts ys := ⟨nd, ok, by omega, by omega⟩
    try dsimp only
    refine nm_any ?_
    refine ⟨_, rfl, _, rfl, p, c, ns, _, q, ys, rfl, g3.pen, by omega, SqL.of hL, lts.l0, by have := lts.l1; omega, fun H4 tr k0 x0 sv0 g4 etr dr => ?_⟩
    have hL4 := g4.lst hL
    replace g4 := g3.step g4
    try dsimp only
    refine nm_any ?_
    refine ⟨_, rfl, _, rfl, q, tr, ys, k0, x0, sv0, rfl, SqL.of hL4, etr, dr.2.1, dr.2.2.1.1, dr.2.2.1.2, fun H5 tn s5 etn => ?_⟩
    obtain ⟨k, x, sv, enf, -, -, -⟩ := dr.nf
    have tk := tell_nf dr enf
    rw [enf] at etn
    refine ⟨tn, _, rfl, SqT.of etn, rfl, _, _, rfl, _, _, rfl, _, _, rfl, rfl, ?_⟩
    have g5 := g4.same s5
    have hL5 := s5 _ _ hL4
    have etr5 := s5 _ _ etr
    try dsimp only
    refine asg_c ?_
    intro R hR0
    have gR := g5.new (o := .dK []) hR0
    have sR := Ask.Same.upd_new (o := .dK []) (Same.refl H5) hR0
    have eR : upd H5 R (.dK []) R = some (.dK []) := upd_same
    have nRp := (gR.ne (g5.free hR0)).1
    generalize upd H5 R (.dK []) = H6 at gR sR eR ⊢
    have hL6 := sR _ _ hL5
    refine ⟨_, rfl, q, rfl, ⟨_, SqL.of hL6⟩, fun D hD => ?_⟩
    refine lc_it (walk_list (xs := ys.map V.str)) (fun i H' => (∃ ps : List Addr, H' D = some (.lst (ps.map V.ref)) ∧ ps.length ≤ 100 ∧ Paired (fun (p : Addr) (kv : Key × V) => SqT K H' p [kV kv.1, kv.2]) ps ((ys.take i).map fun y => ((Sum.inr y : Key), V.str y))) ∧ Same H6 H') ⟨⟨[], by rw [upd_same]; rfl, Nat.zero_le _, by rw [List.take_zero]; exact .nil⟩, Ask.Same.upd_new (Same.refl _) hD⟩ (fun _ H' _ ⟨_, s'⟩ => SqL.of (s' _ _ hL6)) ?_ ?_
    · rintro i v HB' HB hi ⟨⟨ps, p1, p3, p4⟩, p2⟩ ⟨rfl, hv⟩
      rw [List.length_map] at hi
      obtain ⟨y, hy⟩ : ∃ y, ys[i]? = some y := ⟨_, List.getElem?_eq_getElem hi⟩
      rw [List.getElem?_map, hy] at hv
      cases hv
      have lps : ps.length ≤ 12 := by rw [Paired.length p4, List.length_map, List.length_take]; have := lts.l1; omega
      refine ⟨rfl, _, rfl, _, rfl, by show 2 ≤ sizeLine; omega, fun t ht => ?_⟩
      have st := Ask.Same.upd_new (o := .tup [.str y, .str y]) (Same.refl HB) ht
      refine ⟨_, st _ _ p1, by rw [List.length_map]; omega, ⟨ps ++ [t], by rw [upd_same, List.map_append]; rfl, by rw [List.length_append]; show ps.length + 1 ≤ 100; omega, ?_⟩, Ask.Same.upd_new (p2.trans st) hD⟩
      rw [List.take_add_one, hy, List.map_append]
      have keep : ∀ (z : Addr) (xs : List V), SqT K HB z xs → SqT K (upd (upd HB t (.tup [.str y, .str y])) D (.lst (ps.map V.ref ++ [.ref t]))) z xs := fun z xs h => by
        rcases h with (h | ⟨o, h⟩) | h
        · exact .inl (.inl (by rw [upd_ne (fun e => by rw [e, p1] at h; cases h)]; exact st _ _ h))
        · exact .inl (.inr ⟨o, by rw [upd_ne (fun e => by rw [e, p1] at h; cases h)]; exact st _ _ h⟩)
        · exact .inr h
      refine paired_app (Paired.mapP p4 fun z kv h => keep _ _ h) (.cons ?_ .nil)
      exact SqT.of (by rw [upd_ne (fun e => by rw [e, p1] at ht; cases ht), upd_same]; rfl)
    rintro H7 ⟨⟨ps, p1, p3, p4⟩, s7⟩
    rw [List.length_map, List.take_length] at p4
    refine ⟨D, ps, _, rfl, SqL.of p1, p4, fun LD hLD => ?_⟩
    have g7 := gR.same s7
    have gLD := g7.new (o := .dK (mergeK [] (ys.map fun y => ((Sum.inr y : Key), V.str y)))) hLD
    have s8 := s7.trans (Ask.Same.upd_new (o := .dK (mergeK [] (ys.map fun y => ((Sum.inr y : Key), V.str y)))) (Same.refl H7) hLD)
    have eLD : upd H7 LD (.dK (mergeK [] (ys.map fun y => ((Sum.inr y : Key), V.str y)))) LD = some (.dK (mergeK [] (ys.map fun y => ((Sum.inr y : Key), V.str y)))) := upd_same
    have nLDp := (gLD.ne (g7.free hLD)).1
    have RLD : R ≠ LD := ne_at (s7 _ _ eR) hLD
    generalize upd H7 LD (.dK (mergeK [] (ys.map fun y => ((Sum.inr y : Key), V.str y)))) = H8 at gLD s8 eLD ⊢
    refine ⟨Nat.zero_le _, fun LS hLS => ?_⟩
    have gLS := gLD.new (o := .lst []) hLS
    have nLSp := (gLS.ne (gLD.free hLS)).1
    have sLS := Ask.Same.upd_new (o := .lst []) (Same.refl H8) hLS
    have eLS : upd H8 LS (.lst []) LS = some (.lst []) := upd_same
    generalize upd H8 LS (.lst []) = H9 at gLS sLS eLS ⊢
    intro LP hLP
    have gLP := gLS.new (o := .dT []) hLP
    have nLPp := (gLP.ne (gLS.free hLP)).1
    have sLP := Ask.Same.upd_new (o := .dT []) (Same.refl H9) hLP
    have eLP : upd H9 LP (.dT []) LP = some (.dT []) := upd_same
    generalize upd H9 LP (.dT []) = H10 at gLP sLP eLP ⊢
    have s610 := (s8.trans sLS).trans sLP
    have eLD10 := sLP _ _ (sLS _ _ eLD)
    have eLS10 := sLP _ _ eLS
    have eR10 := s610 _ _ eR
    have RLS : R ≠ LS := fun z => by rw [z, eLS10] at eR10; cases eR10
    have RLP : R ≠ LP := fun z => by rw [z, eLP] at eR10; cases eR10
    refine ⟨eR10, rkv LD LS LP, rfl, by show 3 ≤ 15; decide, ?_⟩
    rw [merge3]
    have gA : Go p c ns H0 (upd H10 R (.dK (rkv LD LS LP))) _ := gLP.mut (g5.free hR0)
    have kA : ∀ b o, b ≠ R → H10 b = some o → upd H10 R (.dK (rkv LD LS LP)) b = some o := fun b o n e => by rw [upd_ne n]; exact e
    have eA : upd H10 R (.dK (rkv LD LS LP)) R = some (.dK (rkv LD LS LP)) := upd_same
    generalize upd H10 R (.dK (rkv LD LS LP)) = HA at gA kA eA ⊢
    have hLA : HA q = some (.lst (ys.map V.str)) := kA _ _ (fun z => by rw [← z] at hR0; rw [hR0] at hL5; cases hL5) (s610 _ _ hL6)
    have etrA : HA tr = some (.tup [.str k0, .str x0, sv0]) := kA _ _ (fun z => by rw [← z] at hR0; rw [hR0] at etr5; cases etr5) (s610 _ _ (sR _ _ etr5))
    have eLDA := kA _ _ RLD.symm eLD10
    have eLSA := kA _ _ RLS.symm eLS10
    have eLPA := kA _ _ RLP.symm eLP
    dsimp only [List.set]
    refine nm_any ?_
    have gt1 : DGet HA R (.str "least") (some (.ref LD)) := by have := DGet.k (k := Sum.inr "least") eA; rw [rkv_le] at this; exact this
    have gt2 : DGet HA R (.str "still") (some (.ref LS)) := by have := DGet.k (k := Sum.inr "still") eA; rw [rkv_st] at this; exact this
    have gt3 : DGet HA R (.str "pairs") (some (.ref LP)) := by have := DGet.k (k := Sum.inr "pairs") eA; rw [rkv_pr] at this; exact this
    refine ⟨_, rfl, R, _, rfl, gt1, _, rfl, R, _, rfl, gt2, _, rfl, R, _, rfl, gt3, _, _, _, rfl, ?_⟩
    dsimp only [List.set]
    obtain ⟨B, gA⟩ : ∃ B, B ≤ 1000 * i + 400 ∧ Go p c ns H0 HA B := ⟨_, by omega, gA⟩
    obtain ⟨hB, gA⟩ := gA
    have nqp : q ≠ p := (g2.ne (g2.free hq0)).1
    have ntp : tr ≠ p := fun z => by obtain ⟨b, l, e1, _⟩ := gA.pen; rw [← z, etrA] at e1; cases e1
    refine seqIf_mid (fun σ' H' => σ' = [some (.ref a), some (.ref p), some (.int (0 + (i : Nat))), some (.ref q), some (.ref tr), some (.str k), some (.str x), some sv, some (.ref R), some (.ref LD), some (.ref LS), some (.ref LP), o12, o13, o14, o15, o16, o17, o18, o19, o20, o21] ∧ RulesAt H' R ys k x sv LD LS LP ∧ Go p c ns H0 H' B ∧ H' q = some (.lst (ys.map V.str)) ∧ H' tr = some (.tup [.str k0, .str x0, sv0])) (fun N hN => ?_) ?_
    · refine ⟨_, rfl, by show 2 ≤ sizeLine; omega, fun u hu => ?_⟩
      have su := Ask.Same.upd_new (o := .tup [.str "idle", .str "alike"]) (Same.refl HA) hu
      have gB := gA.new (o := .tup [.str "idle", .str "alike"]) hu
      refine ⟨u, _, rfl, .inr (SqT.of upd_same), rfl, rfl, _, rfl, ?_⟩
      rw [show inV (.str k) [.str "idle", .str "alike"] = decide (k ∈ (["idle", "alike"] : List Str)) from inV_str k ["idle", "alike"]]
      generalize upd HA u (.tup [.str "idle", .str "alike"]) = HB at su gB ⊢
      have hLB := su _ _ hLA
      have etrB := su _ _ etrA
      have eLDB := su _ _ eLDA
      have eLSB := su _ _ eLSA
      have eLPB := su _ _ eLPA
      have eRB := su _ _ eA
      have lmer : (mergeK [] (ys.map fun y => ((Sum.inr y : Key), V.str y))).length ≤ 12 := by
        have := merge_len (ys.map fun y => ((Sum.inr y : Key), V.str y)) []
        rw [List.length_map] at this
        have := lts.l1
        show _ ≤ 12
        simp only [List.length_nil] at *
        omega
      have vmer : ∀ y ∈ ys, valV (mergeK [] (ys.map fun y => ((Sum.inr y : Key), V.str y))) (Sum.inr y) = some (.str y) := fun y hy => by rw [merge_own, if_pos hy]
      have LDS : LD ≠ LS := fun z => by rw [z, eLSB] at eLDB; cases eLDB
      have LDP : LD ≠ LP := fun z => by rw [z, eLPB] at eLDB; cases eLDB
      have LSP : LS ≠ LP := fun z => by rw [z, eLPB] at eLSB; cases eLSB
      have qLS : q ≠ LS := ne_at (s8 _ _ hL6) hLS
      have qLP : q ≠ LP := fun z => by rw [z, eLPB] at hLB; cases hLB
      have tLP : tr ≠ LP := fun z => by rw [z, eLPB] at etrB; cases etrB
      rcases kind_cases tk.hk with hk | hk | hk
      · rw [decide_eq_true (show k ∈ (["idle", "alike"] : List Str) by rcases hk with rfl | rfl <;> decide)]
        refine iteT ⟨_, rfl, _, rfl, _, rfl, LD, _, rfl, DPut.k (k := Sum.inr x) eLDB (by omega), hN _ _ ⟨rfl, ⟨by rw [upd_ne RLD]; exact eRB, ⟨_, upd_same, put_lst vmer hk⟩, ?_, ?_⟩, gB.mut (g7.free hLD), ?_, ?_⟩⟩
        · rw [upd_ne LDS.symm, eLSB]
          unfold stillD
          rw [if_neg (by rcases hk with rfl | rfl <;> decide)]
        · rw [upd_ne LDP.symm, eLPB]
          unfold pairsD
          have np : ¬ PK k := by rcases hk with rfl | rfl <;> decide
          cases sv <;> first | rfl | (dsimp only; rw [if_neg np])
        · rw [upd_ne (fun z => by rw [← z, hLB] at eLDB; cases eLDB)]; exact hLB
        · rw [upd_ne (fun z => by rw [← z, etrB] at eLDB; cases eLDB)]; exact etrB
      · subst hk
        rw [decide_eq_false (show ¬ ("still" : Str) ∈ (["idle", "alike"] : List Str) by decide)]
        refine iteF ⟨_, rfl, rfl, _, rfl, ?_⟩
        rw [decide_eq_true rfl]
        refine iteT ⟨_, rfl, .inl ⟨rfl, _, SqL.of eLSB⟩, _, rfl, LS, [], .str x, rfl, rfl, eLSB, by show 0 < sizeLine; omega, hN _ _ ⟨rfl, ⟨by rw [upd_ne RLS]; exact eRB, ⟨_, by rw [upd_ne LDS]; exact eLDB, fun y hy => by rw [vmer y hy, own_lst (by decide)]⟩, by rw [upd_same]; rfl, ?_⟩, gB.mut (gLD.free hLS), ?_, ?_⟩⟩
        · rw [upd_ne LSP.symm, eLPB]
          have es := tk.hs.2 (by decide)
          rw [es]
          rfl
        · rw [upd_ne qLS]; exact hLB
        · rw [upd_ne (fun z => by rw [← z, etrB] at eLSB; cases eLSB)]; exact etrB
      · obtain ⟨n1, n2, n3, n4⟩ := hk.ne
        rw [decide_eq_false (show ¬ k ∈ (["idle", "alike"] : List Str) from fun z => by
          simp only [List.mem_cons, List.not_mem_nil, or_false] at z
          exact z.elim n4 n2)]
        refine iteF ⟨_, rfl, rfl, _, rfl, ?_⟩
        rw [decide_eq_false (fun z => n3 (V.str.inj z))]
        obtain ⟨y, rfl, hy⟩ := tk.hs.1 n1
        refine iteF ⟨_, rfl, _, rfl, _, rfl, _, rfl, by show 2 ≤ sizeLine; omega, fun t ht => ?_⟩
        have stt := Ask.Same.upd_new (o := .tup [.str x, .str y]) (Same.refl HB) ht
        have gC := gB.new (o := .tup [.str x, .str y]) ht
        have ett : upd HB t (.tup [.str x, .str y]) t = some (.tup [.str x, .str y]) := upd_same
        generalize upd HB t (.tup [.str x, .str y]) = HC at stt gC ett ⊢
        have ettL : t ≠ LP := fun z => by rw [z, stt _ _ eLPB] at ett; cases ett
        refine ⟨LP, _, rfl, DPut.t (k := [Sum.inr x, Sum.inr y]) (stt _ _ eLPB) ett (by show 0 < sizeLine; omega), hN _ _ ⟨rfl, ⟨by rw [upd_ne RLP]; exact stt _ _ eRB, ⟨_, by rw [upd_ne LDP]; exact stt _ _ eLDB, fun z hz => by rw [vmer z hz, own_lst (fun e => e.elim n4 n2)]⟩, ?_, ?_⟩, gC.mut (gLS.free hLP), ?_, ?_⟩⟩
        · rw [upd_ne LSP, stt _ _ eLSB]
          unfold stillD
          rw [if_neg n3]
        · rw [upd_same]
          unfold pairsD
          dsimp only
          rw [if_pos hk]
          rfl
        · rw [upd_ne qLP]; exact stt _ _ hLB
        · rw [upd_ne tLP]; exact stt _ _ etrB
    rintro σ1 HB ⟨rfl, hRB, gB, hLB, etrB⟩
    try dsimp only
    refine ⟨_, rfl, by show 1 ≤ sizeLine; omega, fun T0 hT0 => ?_⟩
    have gC := gB.new (o := .lst [.ref tr]) hT0
    have sC := Ask.Same.upd_new (o := .lst [.ref tr]) (Same.refl HB) hT0
    have eC : upd HB T0 (.lst [.ref tr]) T0 = some (.lst [.ref tr]) := upd_same
    generalize upd HB T0 (.lst [.ref tr]) = HC at gC sC eC ⊢
    refine ⟨_, rfl, p, c, ns, 3, _, rfl, gC.pen, by omega, by decide, by decide, fun HD r3 gD r30 r31 => ⟨_, _, rfl, rfl, T0, 1 + r3, [.ref tr], rfl, rfl, gD.lst eC, by omega, by omega, ?_, fun T hT => ?_⟩⟩
    · show 1 * (1 + r3).toNat ≤ sizeLine
      omega
    have hRD := (hRB.same sC).kp gD.kp nRp nLDp nLSp nLPp
    have hLD := gD.lst (sC _ _ hLB)
    have etrD := gD.tup (sC _ _ etrB)
    replace gD := gC.step gD
    obtain ⟨n, hn, n1, n3⟩ : ∃ n : Nat, (1 + r3).toNat = n ∧ 1 ≤ n ∧ n ≤ 3 := ⟨_, rfl, by omega, by omega⟩
    rw [hn, rep_ref]
    have gE := gD.new (o := .lst (List.replicate n (.ref tr))) hT
    have sE := Ask.Same.upd_new (o := .lst (List.replicate n (.ref tr))) (Same.refl HD) hT
    have eE : upd HD T (.lst (List.replicate n (.ref tr))) T = some (.lst (List.replicate n (.ref tr))) := upd_same
    generalize upd HD T (.lst (List.replicate n (.ref tr))) = HE at gE sE eE ⊢
    have fE : TurnF p c ns H0 HE q T R LD LS LP ys k x sv _ 3 := ⟨hRD.same sE, gE, sE _ _ hLD, ⟨_, List.replicate n [.str k0, .str x0, sv0], eE, ⟨by rw [List.length_replicate, List.length_replicate], fun i v t e1 e2 => by
      rw [List.getElem?_replicate] at e1 e2
      split at e1
      · rename_i cc
        rw [if_pos cc] at e2
        cases e1
        cases e2
        exact ⟨tr, rfl, sE _ _ etrD⟩
      · cases e1⟩, fun t ht => by rw [List.eq_of_mem_replicate ht]; exact ⟨k0, x0, sv0, rfl, dr, enf⟩, by rw [List.length_replicate]; exact n1, by rw [List.length_replicate]; exact n3⟩, ⟨nRp, nLDp, nLSp, nLPp, nqp, (gE.ne (gD.free hT)).1⟩, gD.free hT, ⟨(ne_at hRD.st hT).symm, (ne_at hLD hT).symm⟩⟩
    try dsimp only
    refine nm_any ?_
    dsimp only [List.set]
    clear sE eE gE hRD hLD etrD gD sC eC gC hRB gB hLB etrB
    refine seqIf_mid (fun σ' H' => σ' = [some (.ref a), some (.ref p), some (.int (0 + (i : Nat))), some (.ref q), some (.ref tr), some (.str k), some (.str x), some sv, some (.ref R), some (.ref LD), some (.ref LS), some (.ref LP), some (.ref T), o13, o14, o15, o16, o17, o18, o19, o20, o21] ∧ ∃ B', B' ≤ 1000 * i + 500 ∧ TurnF p c ns H0 H' q T R LD LS LP ys k x sv B' 4) (fun N hN => ?_) ?_
    · have up : ∀ {H' : Hp} {B' : Nat}, TurnF p c ns H0 H' q T R LD LS LP ys k x sv B' 3 → TurnF p c ns H0 H' q T R LD LS LP ys k x sv B' 4 := fun h => ⟨h.rules, h.go, h.ltr, let ⟨vs, ts, a1, a2, a3, a4, a5⟩ := h.told; ⟨vs, ts, a1, a2, a3, a4, by omega⟩, h.np, h.tf, h.tn⟩
      refine ⟨_, rfl, rfl, _, rfl, ?_⟩
      by_cases ck : k = "alike"
      · subst ck
        rw [decide_eq_true rfl]
        refine iteT ⟨_, rfl, p, c, ns, 2, _, rfl, fE.go.pen, by omega, by decide, by decide, fun HF r4 gF r40 r41 => ⟨rfl, _, rfl, ?_⟩⟩
        have fF := fE.draw gF
        refine ite2 (fun q4 => ?_) (fun _ => hN _ _ ⟨rfl, _, by omega, up fF⟩)
        obtain ⟨y, rfl, _⟩ := tk.nf rfl
        obtain ⟨vs, ts, w1, w2, w3, w4, w5⟩ := fF.told
        refine ⟨_, rfl, .inl ⟨rfl, _, SqL.of w1⟩, _, rfl, _, rfl, _, rfl, by show 3 ≤ sizeLine; omega, fun t ht => ?_⟩
        have st := Ask.Same.upd_new (o := .tup [.str "alike", .str y, .str x]) (Same.refl HF) ht
        exact ⟨T, vs, .ref t, rfl, rfl, st _ _ w1, by omega, hN _ _ ⟨rfl, _, by omega, (fF.same st).push upd_same (tr_swap tk) (st _ _ w1)⟩⟩
      · rw [decide_eq_false (fun z => ck (V.str.inj z))]
        exact iteF (iteF (hN _ _ ⟨rfl, _, by omega, up fE⟩))
    rintro σ2 HF ⟨rfl, BF, hBF, fF⟩
    refine seqIf_mid (fun σ' H' => σ' = [some (.ref a), some (.ref p), some (.int (0 + (i : Nat))), some (.ref q), some (.ref tr), some (.str k), some (.str x), some sv, some (.ref R), some (.ref LD), some (.ref LS), some (.ref LP), some (.ref T), o13, o14, o15, o16, o17, o18, o19, o20, o21] ∧ ∃ B', B' ≤ 1000 * i + 510 ∧ TurnF p c ns H0 H' q T R LD LS LP ys k x sv B' 5) (fun N hN => ?_) ?_
    · have up : ∀ {H' : Hp} {B' : Nat}, TurnF p c ns H0 H' q T R LD LS LP ys k x sv B' 4 → TurnF p c ns H0 H' q T R LD LS LP ys k x sv B' 5 := fun h => ⟨h.rules, h.go, h.ltr, let ⟨vs, ts, a1, a2, a3, a4, a5⟩ := h.told; ⟨vs, ts, a1, a2, a3, a4, by omega⟩, h.np, h.tf, h.tn⟩
      have scx : scal (.str x) sv = true := by rcases tk.hs.cases with rfl | ⟨y, rfl, _⟩ <;> rfl
      refine ⟨_, rfl, rfl, _, rfl, ?_⟩
      by_cases ck : k = "kept"
      · subst ck
        rw [decide_eq_true rfl]
        refine iteT ⟨_, rfl, _, rfl, scx, _, rfl, ?_⟩
        by_cases cx : V.str x = sv
        · subst cx
          rw [decide_eq_true rfl]
          refine iteT ⟨_, rfl, p, c, ns, 2, _, rfl, fF.go.pen, by omega, by decide, by decide, fun HG r5 gG r50 r51 => ⟨rfl, _, rfl, ?_⟩⟩
          have fG := fF.draw gG
          refine ite2 (fun q5 => ?_) (fun _ => hN _ _ ⟨rfl, _, by omega, up fG⟩)
          obtain ⟨vs, ts, w1, w2, w3, w4, w5⟩ := fG.told
          refine ⟨_, rfl, .inl ⟨rfl, _, SqL.of w1⟩, _, rfl, _, rfl, by show 3 ≤ sizeLine; omega, fun t ht => ?_⟩
          have st := Ask.Same.upd_new (o := .tup [.str "over", .str x, .str x]) (Same.refl HG) ht
          exact ⟨T, vs, .ref t, rfl, rfl, st _ _ w1, by omega, hN _ _ ⟨rfl, _, by omega, (fG.same st).push upd_same (tr_over tk.hx) (st _ _ w1)⟩⟩
        · rw [decide_eq_false cx]
          exact iteF (iteF (hN _ _ ⟨rfl, _, by omega, up fF⟩))
      · rw [decide_eq_false (fun z => ck (V.str.inj z))]
        exact iteF (iteF (hN _ _ ⟨rfl, _, by omega, up fF⟩))
    clear fF hBF HF fE HE
    rintro σ3 HG ⟨rfl, BG, hBG, fG⟩
    obtain ⟨tvs, tts, w1, w2, w3, w4, w5⟩ := fG.told
    have hLG := fG.ltr
    have gG := fG.go
    have hRG := fG.rules
    try dsimp only
    refine ⟨_, rfl, T, rfl, ⟨_, SqL.of w1⟩, fun SL hSL => ?_⟩
    refine lc_it (walk_list (xs := tvs)) (fun i H' => (∃ ss : List Addr, ss.length = i ∧ H' SL = some (.lst (ss.map V.ref)) ∧ ∀ z ∈ ss, SenAt K CL CS H' z ys k x sv) ∧ Same HG H') ⟨⟨[], rfl, by rw [upd_same]; rfl, fun _ z => by cases z⟩, Ask.Same.upd_new (Same.refl _) hSL⟩ (fun _ H' _ ⟨_, s'⟩ => SqL.of (s' _ _ w1)) ?_ ?_
    · rintro j v HB' HB hj ⟨⟨ss, p0, p1, p3⟩, p2⟩ ⟨rfl, hv⟩
      obtain ⟨t, ht⟩ : ∃ t, tts[j]? = some t := ⟨_, List.getElem?_eq_getElem (by rw [← w2.1]; exact hj)⟩
      obtain ⟨ta, rfl, eta⟩ := w2.2 j v t hv ht
      obtain ⟨k1, x1, s1, rfl, dr1, nf1⟩ := w3 t (List.mem_of_getElem? ht)
      refine ⟨rfl, _, rfl, _, rfl, q, ta, ys, k1, x1, s1, rfl, SqL.of (p2 _ _ hLG), lts, p2 _ _ eta, dr1, fun HC z k2 x2 s2 sC nf2 hz => ?_⟩
      rw [nf1] at nf2
      injection nf2 with e1 nf2
      injection nf2 with e2 nf2
      injection nf2 with e3 _
      cases e1
      cases e2
      cases e3
      refine ⟨_, sC _ _ p1, by rw [List.length_map, p0]; omega, ⟨ss ++ [z], by rw [List.length_append, p0]; rfl, by rw [upd_same, List.map_append]; rfl, fun u hu => ?_⟩, Ask.Same.upd_new (p2.trans sC) hSL⟩
      have kp : ∀ {u : Addr}, SenAt K CL CS HC u ys k x sv → SenAt K CL CS (upd HC SL (.lst (ss.map V.ref ++ [.ref z]))) u ys k x sv := fun h => by
        obtain ⟨d1, m1, t1, q1, d2, o2, q2, q3, q4⟩ := h
        have nn : ∀ {b : Addr} {o : HO}, HC b = some o → (∀ xs, o ≠ .lst xs) → upd HC SL (.lst (ss.map V.ref ++ [.ref z])) b = some o := fun e n => by rw [upd_ne (fun w => by rw [w, sC _ _ p1] at e; exact n _ (Option.some.inj e).symm)]; exact e
        exact ⟨d1, m1, t1, nn q1 (fun _ w => nomatch w), d2, o2, nn q2 (fun _ w => nomatch w), nn q3 (fun _ w => nomatch w), q4⟩
      rcases List.mem_append.mp hu with hu | hu
      · exact kp ((p3 u hu).same sC)
      · rw [List.mem_singleton.mp hu]; exact kp hz
    rintro HI ⟨⟨ss, p0, p1, p3⟩, sI⟩
    have gI := gG.same sI
    have hRI := hRG.same sI
    have hLI := sI _ _ hLG
    have ls1 : 1 ≤ ss.length := by rw [p0]; exact w4
    have ls5 : ss.length ≤ 5 := by rw [p0]; exact w5
    clear w1 w2 w3 hLG gG hRG fG sI
    try dsimp only
    refine nm_any ?_
    refine ⟨_, rfl, SL, _, rfl, .inl (SqL.of p1), fun GL_ hGL => ?_⟩
    have gJ := gI.new (o := .lst (ss.map V.ref)) hGL
    have sJ := Ask.Same.upd_new (o := .lst (ss.map V.ref)) (Same.refl HI) hGL
    have eJ : upd HI GL_ (.lst (ss.map V.ref)) GL_ = some (.lst (ss.map V.ref)) := upd_same
    have hGL0 := gI.free hGL
    generalize upd HI GL_ (.lst (ss.map V.ref)) = HJ at gJ sJ eJ ⊢
    have p3J : ∀ z ∈ ss, SenAt K CL CS HJ z ys k x sv := fun z hz => (p3 z hz).same sJ
    have p1J := sJ _ _ p1
    have hRJ := hRI.same sJ
    have hLJ := sJ _ _ hLI
    have SLG : SL ≠ GL_ := ne_at p1 hGL
    have qG : q ≠ GL_ := ne_at hLI hGL
    have RG : R ≠ GL_ := ne_at hRI.at_ hGL
    have LSG : LS ≠ GL_ := ne_at hRI.st hGL
    have LPG : LP ≠ GL_ := ne_at hRI.pr hGL
    have LDG : LD ≠ GL_ := by obtain ⟨kvs, l1, _⟩ := hRI.le; exact ne_at l1 hGL
    clear p3 p1 hRI hLI sJ hGL gI
    try dsimp only
    refine nm_any ?_
    dsimp only [List.set]
    refine ⟨_, rfl, fun m md hm hmd hne => let_made lts (.inl (SqL.of hLJ)) hm hmd hne fun HK t sK hM => ⟨rfl, _, rfl, m, t, GL_, ys, k, x, sv, ss, rfl, hM, lts, .inl (SqL.of (sK _ _ eJ)), by omega, tk, fun z hz => (p3J z hz).same sK, fun HL g pc A sL cls own => ?_⟩⟩
    have sJL := sK.trans sL
    have gL := gJ.same sJL
    have eL := sJL _ _ eJ
    have GLo : GL_ ∉ A.own pc := fun z => by have := own _ z; rw [sK _ _ eJ] at this; cases this
    have ssn : ss.map V.ref ≠ [] := fun z => by have := congrArg List.length z; rw [List.length_map] at this; simp at this; rw [this] at ls1; exact absurd ls1 (by decide)
    have cls1 := cls.clear eL ssn GLo
    have offL : ∀ {b : Addr} {o : HO}, b ≠ GL_ → HJ b = some o → upd HL GL_ (.lst []) b = some o := fun n e => by rw [upd_ne n]; exact sJL _ _ e
    try dsimp only
    refine nm_any ?_
    dsimp only [List.set]
    refine ⟨_, rfl, .inl ⟨rfl, _, SqL.of eL⟩, GL_, _, rfl, rfl, eL, ?_⟩
    have gM := gL.mut (o := .lst []) hGL0
    have hRM : RulesAt (upd HL GL_ (.lst [])) R ys k x sv LD LS LP := ⟨offL RG hRJ.at_, let ⟨kvs, l1, l2⟩ := hRJ.le; ⟨kvs, offL LDG l1, l2⟩, offL LSG hRJ.st, offL LPG hRJ.pr⟩
    have hLM := offL qG hLJ
    have p1M := offL SLG p1J
    have p3M : ∀ z ∈ ss, SenAt K CL CS (upd HL GL_ (.lst [])) z ys k x sv := fun z hz => by
      obtain ⟨_, _, _, _, _, _, _, _, _, _, _, hT⟩ := cls1
      exact hT.sen z hz
    generalize upd HL GL_ (.lst []) = HM at gM hRM hLM p1M p3M cls1 ⊢
    clear offL GLo eL sJL gL cls own sL sK eJ gJ
    try dsimp only
    obtain ⟨dg, tw, trw, tl, tv, vr, c1, c2, c3, c4, c5, c6⟩ := id cls1
    obtain ⟨tm, dm, om, cm1, cm2, cm3⟩ := id c6.let_
    have hMa : Mde CL HM A.m tm ys := ⟨dm, om, cm1, cm2, cm3⟩
    refine seqIf_mid (fun σ' H' => σ' = [some (.ref a), some (.ref p), some (.int (0 + (i : Nat))), some (.ref q), some (.ref tr), some (.str k), some (.str x), some sv, some (.ref R), some (.ref LD), some (.ref LS), some (.ref LP), some (.ref T), some (.ref SL), some (.ref GL_), some (.ref g), o16, o17, o18, o19, o20, o21] ∧ Same HM H') (fun N hN => ?_) ?_
    · refine ⟨_, rfl, _, rfl, _, rfl, q, R, g, LD, LS, LP, ys, k, x, sv, ss, rfl, SqL.of hLM, lts, hRM, cls1.at, tk, ls1, fun HN sN => ⟨_, rfl, iteF ?_⟩⟩
      refine ⟨_, rfl, g, CG, dg, _, _, rfl, sN _ _ c1, hG.c, hG.a1, rfl, _, rfl, fun m2 md2 hm2 hmd2 hne2 => let_made lts (.inl (SqL.of (sN _ _ hLM))) hm2 hmd2 hne2 fun HO t2 sO hM2 => ⟨rfl, ?_⟩⟩
      have sNO := sN.trans sO
      obtain ⟨d2, o2', g1', g2', g3'⟩ := id hM2
      refine ⟨A.m, m2, dm, d2, _, _, rfl, rfl, sNO _ _ cm1, g1', A.m, tm, m2, t2, ys, ys, rfl, hMa.same sNO, hM2, lts.fit, lts.fit, true, ?_, ?_⟩
      · rw [eqv_strs, decide_eq_true rfl]
      · exact ⟨_, rfl, iteF (hN _ _ ⟨rfl, sNO⟩)⟩
    rintro σ4 HN ⟨rfl, sN⟩
    refine seqIf_mid (fun σ' H' => σ' = [some (.ref a), some (.ref p), some (.int (0 + (i : Nat))), some (.ref q), some (.ref tr), some (.str k), some (.str x), some sv, some (.ref R), some (.ref LD), some (.ref LS), some (.ref LP), some (.ref T), some (.ref SL), some (.ref GL_), some (.ref g), o16, o17, o18, o19, o20, o21] ∧ Same HM H') (fun N hN => ?_) ?_
    · refine ⟨_, rfl, g, CG, dg, _, _, rfl, sN _ _ c1, hG.c, hG.a2, rfl, tw, _, rfl, .inr (SqT.of (sN _ _ c2)), _, rfl, SL, _, rfl, .inl (SqL.of (sN _ _ p1M)), rfl, _, rfl, ?_⟩
      rw [decide_eq_true rfl]
      exact iteF (hN _ _ ⟨rfl, sN⟩)
    clear sN HN
    rintro σ4 HN ⟨rfl, sN⟩
    refine for_any (fun Rr hR => ⟨_, rfl, SL, _, rfl, .inl (SqL.of (sN _ _ p1M)), _, rfl, by omega, by rw [List.length_map]; omega, hR⟩) (walk_range (lo := 0) (n := (((ss.map V.ref).length : Nat) : Int).toNat)) (fun j σ' H' => ∃ o16 o17 o18 : Option V, σ' = [some (.ref a), some (.ref p), some (.int (0 + (i : Nat))), some (.ref q), some (.ref tr), some (.str k), some (.str x), some sv, some (.ref R), some (.ref LD), some (.ref LS), some (.ref LP), some (.ref T), some (.ref SL), some (.ref GL_), some (.ref g), o16, o17, o18, o19, o20, o21] ∧ Same HM H') ⟨_, _, _, rfl, sN⟩ (fun _ _ _ _ _ => trivial) ?_ ?_
    · rintro j v σ' HP' HP hj ⟨o16', o17', o18', rfl, sP⟩ ⟨rfl, rfl⟩
      rw [Int.toNat_natCast, List.length_map] at hj
      try dsimp only
      refine nm_any ?_
      dsimp only [List.set]
      rw [Int.zero_add ((j : Nat) : Int)]
      obtain ⟨q0, hq0'⟩ : ∃ q0, ss[j]? = some q0 := ⟨_, List.getElem?_eq_getElem hj⟩
      obtain ⟨rt, re, r1', r2', r3'⟩ := c4.2 j q0 hq0'
      have sref : (ss.map V.ref)[j]? = some (.ref q0) := by rw [List.getElem?_map, hq0']; rfl
      have hsen := p3M q0 (List.mem_of_getElem? hq0')
      refine ⟨_, rfl, g, CG, dg, _, _, rfl, sP _ _ c1, hG.c, hG.a3, rfl, _, rfl, trw, vr, _, .ref rt, rfl, rfl, SqT.of (sP _ _ c3), at_by (j := j) rfl r1', ?_⟩
      refine ⟨rt, _, rfl, SqT.of (sP _ _ r2'), rfl, _, _, rfl, _, _, rfl, rfl, ?_⟩
      have ddq : decide (ys = ys ∧ k = k ∧ x = x ∧ sv = sv) = true := decide_eq_true ⟨rfl, rfl, rfl, rfl⟩
      obtain ⟨dq, mq, tq, sq1, sq2⟩ := id hsen
      refine ⟨_, rfl, _, rfl, _, rfl, SL, _, _, .ref q0, rfl, rfl, SqL.of (sP _ _ p1M), at_by (j := j) rfl sref, q0, q0, dq, dq, _, _, rfl, rfl, sP _ _ sq1, sP _ _ sq1, q0, _, ys, k, x, sv, rfl, hsen.same sP, tk.hs, lts.fit, .inl ⟨q0, ys, k, x, sv, rfl, hsen.same sP, tk.hs, lts.fit, true, by rw [ddq], _, rfl, iteF ?_⟩⟩
      refine ⟨_, rfl, by show 0 ≤ sizeLine; omega, fun u hu => ?_⟩
      have su := Ask.Same.upd_new (o := .tup []) (Same.refl HP) hu
      refine ⟨.tuple [], .tuple [], .tup (SqT.of (su _ _ (sP _ _ r3'))) .nil, .tup (SqT.of upd_same) .nil, shaped_of rfl (by decide), shaped_of rfl (by decide), ?_⟩
      rw [SeqAt.eqv_refl _ rfl]
      refine ⟨_, rfl, iteF ?_⟩
      have sPu := sP.trans su
      exact ⟨_, rfl, g, CG, dg, _, _, rfl, sPu _ _ c1, hG.c, hG.a2, rfl, _, rfl, tw, _, _, .ref q0, rfl, rfl, SqT.of (sPu _ _ c2), at_by (j := j) rfl sref, _, rfl, _, rfl, SL, _, _, .ref q0, rfl, rfl, SqL.of (sPu _ _ p1M), at_by (j := j) rfl sref, q0, q0, dq, dq, _, _, rfl, rfl, sPu _ _ sq1, sPu _ _ sq1, q0, _, ys, k, x, sv, rfl, hsen.same sPu, tk.hs, lts.fit, .inl ⟨q0, ys, k, x, sv, rfl, hsen.same sPu, tk.hs, lts.fit, true, by rw [ddq], _, rfl, iteF ⟨_, _, _, rfl, sPu⟩⟩⟩
    clear sN HN
    rintro σ5 HP ⟨o16', o17', o18', rfl, sP⟩
    try dsimp only
    refine ⟨_, rfl, fun m3 md3 hm3 hmd3 hne3 => let_made lts (.inl (SqL.of (sP _ _ hLM))) hm3 hmd3 hne3 fun HQ t3 sQ hM3 => ⟨rfl, by show 0 ≤ sizeLine; omega, fun u hu => ?_⟩⟩
    have su := Ask.Same.upd_new (o := .tup []) (Same.refl HQ) hu
    refine ⟨m3, t3, u, ys, k, x, sv, [], rfl, hM3.same su, lts, .inr (SqT.of upd_same), Nat.zero_le _, tk, (fun _ z => by cases z), fun HR gb pb Ab sR clsb _ => ?_⟩
    have sMR := ((sP.trans sQ).trans su).trans sR
    have cb := clsb.at
    obtain ⟨db, twb, trb, tlb, tvb, vrb, b1, b2, b3, b4, b5, b6⟩ := id clsb
    clear sP sQ su sR hM3 hu
    try dsimp only
    refine nm_any ?_
    dsimp only [List.set]
    refine seqIf_mid (fun σ' H' => σ' = [some (.ref a), some (.ref p), some (.int (0 + (i : Nat))), some (.ref q), some (.ref tr), some (.str k), some (.str x), some sv, some (.ref R), some (.ref LD), some (.ref LS), some (.ref LP), some (.ref T), some (.ref SL), some (.ref GL_), some (.ref g), o16', o17', o18', some (.ref gb), o20, o21] ∧ Same HR H') (fun N hN => ?_) ?_
    · refine ⟨_, rfl, gb, db, _, rfl, b1, rfl, gb, ys, k, x, sv, [], rfl, cb, tk, fun HS tf sS etf => ⟨by show 0 ≤ sizeLine; omega, fun u2 hu2 => ?_⟩⟩
      have su2 := Ask.Same.upd_new (o := .tup []) (Same.refl HS) hu2
      refine ⟨.tuple [], .tuple [], .tup (SqT.of (su2 _ _ etf)) .nil, .tup (SqT.of upd_same) .nil, shaped_of rfl (by decide), shaped_of rfl (by decide), ?_⟩
      rw [SeqAt.eqv_refl _ rfl]
      refine ⟨_, rfl, iteF ?_⟩
      have sR2 := sS.trans su2
      refine ⟨_, rfl, gb, CG, db, _, _, rfl, sR2 _ _ b1, hG.c, hG.a2, rfl, by show 0 ≤ sizeLine; omega, fun u3 hu3 => ?_⟩
      have su3 := Ask.Same.upd_new (o := .tup []) (Same.refl _) hu3
      refine ⟨.tuple [], .tuple [], .tup (SqT.of (su3 _ _ (sR2 _ _ b2))) .nil, .tup (SqT.of upd_same) .nil, shaped_of rfl (by decide), shaped_of rfl (by decide), ?_⟩
      rw [SeqAt.eqv_refl _ rfl]
      refine ⟨_, rfl, iteF ?_⟩
      have sR3 := sR2.trans su3
      exact ⟨_, rfl, g, CG, dg, _, _, rfl, sR3 _ _ (sMR _ _ c1), hG.c, hG.a3, rfl, _, _, .type "tuple", .type "tuple", true, rfl, .ty "tuple", .base (.tup (sR3 _ _ (sMR _ _ c3))), kit_ty (by decide +kernel), _, rfl, iteF (hN _ _ ⟨rfl, sR3⟩)⟩
    rintro σ6 HS ⟨rfl, sS⟩
    have sMS := sMR.trans sS
    have gS := gM.same sMS
    have hLS' := sMS _ _ hLM
    refine for_any1 (fun Rr hR => ⟨_, rfl, q, rfl, ⟨_, SqL.of hLS'⟩, hR⟩) (walk_list (xs := ys.map V.str)) (fun j σ' H' => ∃ o20 : Option V, σ' = [some (.ref a), some (.ref p), some (.int (0 + (i : Nat))), some (.ref q), some (.ref tr), some (.str k), some (.str x), some sv, some (.ref R), some (.ref LD), some (.ref LS), some (.ref LP), some (.ref T), some (.ref SL), some (.ref GL_), some (.ref g), o16', o17', o18', some (.ref gb), o20, o21] ∧ Same HS H') ⟨_, rfl, Same.refl HS⟩ (fun _ σ' H' _ ⟨_, _, s'⟩ => SqL.of (s' _ _ hLS')) ?_ ?_
    · rintro j v σ' HT' HT hj ⟨o20', rfl, sT⟩ ⟨rfl, hv⟩
      rw [List.length_map] at hj
      obtain ⟨y, hy⟩ : ∃ y, ys[j]? = some y := ⟨_, List.getElem?_eq_getElem hj⟩
      rw [List.getElem?_map, hy] at hv
      cases hv
      have my := List.mem_of_getElem? hy
      have sST := sS.trans sT
      try dsimp only
      refine nm_any ?_
      dsimp only [List.set]
      have l0 : (SNs ys k x sv (([] : List Addr)).length).lo (ys.idxOf y) = none := S0_lo _ _
      have st0 : (SNs ys k x sv (([] : List Addr)).length).stl (ys.idxOf y) = none := S0_st _ _
      refine ⟨_, rfl, gb, db, _, rfl, sST _ _ b1, rfl, _, rfl, gb, ys, k, x, sv, [], y, rfl, cb.same sST, my, ClsAt.eqOk tk, ?_⟩
      rw [l0, show (if Option.isNone (none : Rul) = true then V.str y else sv) = V.str y from rfl]
      refine ⟨_, rfl, rfl, _, rfl, ?_⟩
      rw [decide_eq_true rfl]
      refine iteF ?_
      refine ⟨_, rfl, gb, db, _, rfl, sST _ _ b1, rfl, _, rfl, gb, ys, k, x, sv, [], y, rfl, cb.same sST, my, .inl ⟨fun z hz => ?_, fun HU sU => ?_⟩⟩
      · rw [List.mem_singleton.mp hz]
        unfold liveW
        exact List.mem_filter.mpr ⟨my, by rw [l0]; rfl⟩
      · rw [st0]
        exact ⟨_, rfl, iteF ⟨_, rfl, sT.trans sU⟩⟩
    · rintro σ' HU ⟨o20', rfl, sU⟩
      exact ⟨_, _, _, _, _, _, _, _, _, _, _, _, _, _, _, _, _, _, _, _, rfl, (gS.same sU).mono (by omega)⟩
end
end Ask

namespace Ask
open PySem L2 PySem.Spec PyProof.Rows
theorem exm_of {K : PySem.W.Frag} {S T : Addr} {b : Bool} (h1 : PySem.W.subIn K (.ref T) (.type "BaseException") = some true) (h2 : PySem.W.isClsIn K T = true) (h3 : PySem.W.typeIn K (.ref T) = some (.type "type")) (h4 : PySem.W.subIn K (.ref S) (.ref T) = some b) :
    PySem.W.exmOne K (.ref S) (.ref T) = some b := by
  have e1 : (PySem.W.subIn K (.ref T) (.type "BaseException") == some true) = true := by rw [h1] <;> rfl
  have e2 : ((PySem.W.clsIn K T).isSome && PySem.W.typeIn K (.ref T) == some (.type "type")) = true := by
    have h2' : (PySem.W.clsIn K T).isSome = true := h2
    rw [h2', h3] <;> rfl
  show (if (PySem.W.subIn K (.ref T) (.type "BaseException") == some true) = true then (if ((PySem.W.clsIn K T).isSome && PySem.W.typeIn K (.ref T) == some (.type "type")) = true then PySem.W.subIn K (.ref S) (.ref T) else none) else none) = some b
  rw [if_pos e1, if_pos e2]
  exact h4
theorem strKeys_of {es : Array DictEntry} (h : (es.toList.all fun e => match e.key with | .str _ _ => true | _ => false) = true) : StrKeys es := fun e he => by
  have q := List.all_eq_true.mp h e (by simpa using he)
  cases k : e.key <;> rw [k] at q <;> first | exact ⟨_, _, rfl⟩ | cases q
theorem sen_binds {K : PySem.W.Frag} {d : V} {f : Addr} {fd : FuncData} (F : FunD K "__init__" "Sentence.__init__" (defArgs s_Sen_init) (defBody s_Sen_init) (defScope s_Sen_init) [d] [] f fd) : (∃ u, RelV d u ∧ Binds K fd ["self", "letters", "kind", "first", "second"] [u]) ∧ Binds K fd ["self", "letters", "kind", "first", "second"] [] := by
  constructor
  · obtain ⟨ds, r, b⟩ := F.binds1 (ps := ["self", "letters", "kind", "first", "second"]) 4 0 (by simp) rfl fun T kV doc pm an cdv ct us its hu hi => match us, hu, its, hi with | [_, _, _, _], _, [_], _ => ⟨_, rfl, rfl⟩
    obtain ⟨u, rfl, ru⟩ := vals1 r
    exact ⟨u, ru, b⟩
  · obtain ⟨ds, r, b⟩ := F.binds1 (ps := ["self", "letters", "kind", "first", "second"]) 5 1 (by simp) rfl fun T kV doc pm an cdv ct us its hu hi => match us, hu, its, hi with | [_, _, _, _, _], _, [_], _ => ⟨_, rfl, rfl⟩
    cases r
    exact b
theorem all_mk {P : Program} {w : World} {K : PySem.W.Frag} {h : Heap} {mg : Str → Option Value} {fa : Addr} (X : K.In h) (G : h.Ns mainGlobals mg) (hfa : mg "law" = some (.ref fa))
    {f0 : Addr} {od0 an0 : Option Addr} {sl0 : Array (Option Value)} {oc0 kV0 dc0 pm0 cd0 ct0 : Value}
    {f1 : Addr} {od1 an1 : Option Addr} {sl1 : Array (Option Value)} {oc1 kV1 dc1 pm1 cd1 ct1 : Value}
    {f2 : Addr} {od2 an2 : Option Addr} {sl2 : Array (Option Value)} {oc2 kV2 dc2 pm2 cd2 ct2 : Value}
    {f3 : Addr} {od3 an3 : Option Addr} {sl3 : Array (Option Value)} {oc3 kV3 dc3 pm3 cd3 ct3 : Value}
    {f4 : Addr} {od4 an4 : Option Addr} {sl4 : Array (Option Value)} {oc4 kV4 dc4 pm4 cd4 ct4 : Value}
    {f5 : Addr} {od5 an5 : Option Addr} {sl5 : Array (Option Value)} {oc5 kV5 dc5 pm5 cd5 ct5 : Value}
    {f6 : Addr} {od6 an6 : Option Addr} {sl6 : Array (Option Value)} {oc6 kV6 dc6 pm6 cd6 ct6 : Value}
    {fm : Addr} {odm anm : Option Addr} {slm : Array (Option Value)} {ocm kVm dcm pmm cdm ctm : Value}
    {fo : Addr} {odo ano : Option Addr} {slo : Array (Option Value)} {oco kVo dco pmo cdo cto : Value}
    {fp : Addr} {odp anp : Option Addr} {slp : Array (Option Value)} {ocp kVp dcp pmp cdp ctp : Value}
    {fq : Addr} {odq anq : Option Addr} {slq : Array (Option Value)} {ocq kVq dcq pmq cdq ctq : Value}
    {fr : Addr} {odr anr : Option Addr} {slr : Array (Option Value)} {ocr kVr dcr pmr cdr ctr : Value}
    {fd1 : Addr} {odd1 and1 : Option Addr} {sld1 : Array (Option Value)} {ocd1 kVd1 dcd1 pmd1 cdd1 ctd1 : Value}
    {fd2 : Addr} {odd2 and2 : Option Addr} {sld2 : Array (Option Value)} {ocd2 kVd2 dcd2 pmd2 cdd2 ctd2 : Value}
    {fd3 : Addr} {odd3 and3 : Option Addr} {sld3 : Array (Option Value)} {ocd3 kVd3 dcd3 pmd3 cdd3 ctd3 : Value}
    {fd4 : Addr} {odd4 and4 : Option Addr} {sld4 : Array (Option Value)} {ocd4 kVd4 dcd4 pmd4 cdd4 ctd4 : Value}
    {fd5 : Addr} {odd5 and5 : Option Addr} {sld5 : Array (Option Value)} {ocd5 kVd5 dcd5 pmd5 cdd5 ctd5 : Value}
    {fw1 : Addr} {odw1 anw1 : Option Addr} {slw1 : Array (Option Value)} {ocw1 kVw1 dcw1 pmw1 cdw1 ctw1 : Value}
    {fw2 : Addr} {odw2 anw2 : Option Addr} {slw2 : Array (Option Value)} {ocw2 kVw2 dcw2 pmw2 cdw2 ctw2 : Value}
    {fw3 : Addr} {odw3 anw3 : Option Addr} {slw3 : Array (Option Value)} {ocw3 kVw3 dcw3 pmw3 cdw3 ctw3 : Value}
    {fw4 : Addr} {odw4 anw4 : Option Addr} {slw4 : Array (Option Value)} {ocw4 kVw4 dcw4 pmw4 cdw4 ctw4 : Value}
    {fw5 : Addr} {odw5 anw5 : Option Addr} {slw5 : Array (Option Value)} {ocw5 kVw5 dcw5 pmw5 cdw5 ctw5 : Value}
    {f9 : Addr} {od9 an9 : Option Addr} {sl9 : Array (Option Value)} {oc9 kV9 dc9 pm9 cd9 ct9 : Value}
    {CB : Addr}
    {fB : Addr} {odB anB : Option Addr} {slB : Array (Option Value)} {ocB kVB dcB pmB cdB ctB : Value}
    {nmB qB : Str} {NB : Addr} {bsB bmB : List Value} {snB : List Str} {subB : List Value} {abB : Bool} {colB : Option Bool} {ddB : Option Addr} {m0B m1B m2B m3B m5B : Option Value}
    {CM : Addr}
    {fM : Addr} {odM anM : Option Addr} {slM : Array (Option Value)} {ocM kVM dcM pmM cdM ctM : Value}
    {nmM qM : Str} {NM : Addr} {bsM bmM : List Value} {snM : List Str} {subM : List Value} {abM : Bool} {colM : Option Bool} {ddM : Option Addr} {m0M m1M m2M m3M m5M : Option Value}
    {CT : Addr}
    {fT : Addr} {odT anT : Option Addr} {slT : Array (Option Value)} {ocT kVT dcT pmT cdT ctT : Value}
    {nmT qT : Str} {NT : Addr} {bsT bmT : List Value} {snT : List Str} {subT : List Value} {abT : Bool} {colT : Option Bool} {ddT : Option Addr} {m0T m1T m2T m3T m5T : Option Value}
    {CV : Addr}
    {fV : Addr} {odV anV : Option Addr} {slV : Array (Option Value)} {ocV kVV dcV pmV cdV ctV : Value}
    {nmV qV : Str} {NV : Addr} {bsV bmV : List Value} {snV : List Str} {subV : List Value} {abV : Bool} {colV : Option Bool} {ddV : Option Addr} {m0V m1V m2V m3V m5V : Option Value}
    {CZ : Addr}
    {CN : Addr}
    {CL : Addr}
    {fL : Addr} {odL anL : Option Addr} {slL : Array (Option Value)} {ocL kVL dcL pmL cdL ctL : Value}
    {fH : Addr} {odH anH : Option Addr} {slH : Array (Option Value)} {ocH kVH dcH pmH cdH ctH : Value}
    {fR : Addr} {odR anR : Option Addr} {slR : Array (Option Value)} {ocR kVR dcR pmR cdR ctR : Value}
    {fQ : Addr} {odQ anQ : Option Addr} {slQ : Array (Option Value)} {ocQ kVQ dcQ pmQ cdQ ctQ : Value}
    {CS : Addr}
    {fS : Addr} {odS anS : Option Addr} {slS : Array (Option Value)} {ocS kVS dcS pmS cdS ctS : Value}
    {TS : Addr} {oTS : Obj} {nTS : Nat}
    {fA : Addr} {odA anA : Option Addr} {slA : Array (Option Value)} {ocA kVA dcA pmA cdA ctA : Value}
    {CC : Addr}
    {fy0 : Addr} {ody0 any0 : Option Addr} {sly0 : Array (Option Value)} {ocy0 kVy0 dcy0 pmy0 cdy0 cty0 : Value}
    {fy1 : Addr} {ody1 any1 : Option Addr} {sly1 : Array (Option Value)} {ocy1 kVy1 dcy1 pmy1 cdy1 cty1 : Value}
    {fy2 : Addr} {ody2 any2 : Option Addr} {sly2 : Array (Option Value)} {ocy2 kVy2 dcy2 pmy2 cdy2 cty2 : Value}
    {fy3 : Addr} {ody3 any3 : Option Addr} {sly3 : Array (Option Value)} {ocy3 kVy3 dcy3 pmy3 cdy3 cty3 : Value}
    {fy4 : Addr} {ody4 any4 : Option Addr} {sly4 : Array (Option Value)} {ocy4 kVy4 dcy4 pmy4 cdy4 cty4 : Value}
    {fy5 : Addr} {ody5 any5 : Option Addr} {sly5 : Array (Option Value)} {ocy5 kVy5 dcy5 pmy5 cdy5 cty5 : Value}
    {fy6 : Addr} {ody6 any6 : Option Addr} {sly6 : Array (Option Value)} {ocy6 kVy6 dcy6 pmy6 cdy6 cty6 : Value}
    {fy7 : Addr} {ody7 any7 : Option Addr} {sly7 : Array (Option Value)} {ocy7 kVy7 dcy7 pmy7 cdy7 cty7 : Value}
    {fy8 : Addr} {ody8 any8 : Option Addr} {sly8 : Array (Option Value)} {ocy8 kVy8 dcy8 pmy8 cdy8 cty8 : Value}
    {fy9 : Addr} {ody9 any9 : Option Addr} {sly9 : Array (Option Value)} {ocy9 kVy9 dcy9 pmy9 cdy9 cty9 : Value}
    {fya : Addr} {odya anya : Option Addr} {slya : Array (Option Value)} {ocya kVya dcya pmya cdya ctya : Value}
    {fyb : Addr} {odyb anyb : Option Addr} {slyb : Array (Option Value)} {ocyb kVyb dcyb pmyb cdyb ctyb : Value}
    {fyc : Addr} {odyc anyc : Option Addr} {slyc : Array (Option Value)} {ocyc kVyc dcyc pmyc cdyc ctyc : Value}
    {fyd : Addr} {odyd anyd : Option Addr} {slyd : Array (Option Value)} {ocyd kVyd dcyd pmyd cdyd ctyd : Value}
    {fye : Addr} {odye anye : Option Addr} {slye : Array (Option Value)} {ocye kVye dcye pmye cdye ctye : Value}
    {fyf : Addr} {odyf anyf : Option Addr} {slyf : Array (Option Value)} {ocyf kVyf dcyf pmyf cdyf ctyf : Value}
    {fyg : Addr} {odyg anyg : Option Addr} {slyg : Array (Option Value)} {ocyg kVyg dcyg pmyg cdyg ctyg : Value}
    {CG : Addr}
    {fv0 : Addr} {odv0 anv0 : Option Addr} {slv0 : Array (Option Value)} {ocv0 kVv0 dcv0 pmv0 cdv0 ctv0 : Value}
    {fv1 : Addr} {odv1 anv1 : Option Addr} {slv1 : Array (Option Value)} {ocv1 kVv1 dcv1 pmv1 cdv1 ctv1 : Value}
    {fv2 : Addr} {odv2 anv2 : Option Addr} {slv2 : Array (Option Value)} {ocv2 kVv2 dcv2 pmv2 cdv2 ctv2 : Value}
    {fv3 : Addr} {odv3 anv3 : Option Addr} {slv3 : Array (Option Value)} {ocv3 kVv3 dcv3 pmv3 cdv3 ctv3 : Value}
    {fv4 : Addr} {odv4 anv4 : Option Addr} {slv4 : Array (Option Value)} {ocv4 kVv4 dcv4 pmv4 cdv4 ctv4 : Value}
    {fv5 : Addr} {odv5 anv5 : Option Addr} {slv5 : Array (Option Value)} {ocv5 kVv5 dcv5 pmv5 cdv5 ctv5 : Value}
    {fv7 : Addr} {odv7 anv7 : Option Addr} {slv7 : Array (Option Value)} {ocv7 kVv7 dcv7 pmv7 cdv7 ctv7 : Value}
    {fv8 : Addr} {odv8 anv8 : Option Addr} {slv8 : Array (Option Value)} {ocv8 kVv8 dcv8 pmv8 cdv8 ctv8 : Value}
    {fv9 : Addr} {odv9 anv9 : Option Addr} {slv9 : Array (Option Value)} {ocv9 kVv9 dcv9 pmv9 cdv9 ctv9 : Value}
    {fv6 : Addr} {odv6 anv6 : Option Addr} {slv6 : Array (Option Value)} {ocv6 kVv6 dcv6 pmv6 cdv6 ctv6 : Value}
    {gS : Tok}
    {gW : Tok}
    {gM : Tok}
    {gL : Tok}
    {T_gB : Addr} {o_gB : Obj} {j_gB : Array Value} {n_gB : Nat}
    {gX : Tok}
    {T_gK : Addr} {o_gK : Obj} {j_gK : Array Value} {n_gK : Nat}
    {T_gN : Addr} {o_gN : Obj} {j_gN : Array Value} {n_gN : Nat}
    {nmL qL : Str} {NL : Addr} {bsL bmL : List Value} {hdctL : Bool} {snL : List Str} {subL : List Value} {abL : Bool} {colL : Option Bool} {ddL : Option Addr} {m0L m1L m2L m3L m5L : Option Value} {newL : String} {oNL : Obj} {esNL : Array DictEntry} {epNL : Nat}
    {nmS qS : Str} {NS : Addr} {bsS bmS : List Value} {hdctS : Bool} {snS : List Str} {subS : List Value} {abS : Bool} {colS : Option Bool} {ddS : Option Addr} {m0S m1S m2S m3S m5S : Option Value} {newS : String} {oNS : Obj} {esNS : Array DictEntry} {epNS : Nat}
    (hn : PySem.W.specialIn K (.builtin "object.__class__") "__get__" = some (some (.builtin "getset_descriptor.__get__")))
    (ht : PySem.W.takesIn K (.builtin "object.__class__") = some true)
    (a0 : PySem.W.nsIn K mainGlobals "is_short_word" = some (some (.ref f0)))
    (l0 : K.lookup f0 = some ⟨oc0, od0, .func (PySem.W.fnOf "is_short_word" "is_short_word" (defArgs s_is_short_word) (defBody s_is_short_word) (defScope s_is_short_word) .none kV0 dc0 pm0 an0 cd0 ct0), sl0⟩)
    (c0 : PySem.W.codeIn K cd0 "is_short_word" = true)
    (k0 : PySem.W.keepIn K (.ref f0) = true)
    (a1 : PySem.W.nsIn K mainGlobals "copied" = some (some (.ref f1)))
    (l1 : K.lookup f1 = some ⟨oc1, od1, .func (PySem.W.fnOf "copied" "copied" (defArgs s_copied) (defBody s_copied) (defScope s_copied) .none kV1 dc1 pm1 an1 cd1 ct1), sl1⟩)
    (c1 : PySem.W.codeIn K cd1 "copied" = true)
    (k1 : PySem.W.keepIn K (.ref f1) = true)
    (a2 : PySem.W.nsIn K mainGlobals "is_letter" = some (some (.ref f2)))
    (l2 : K.lookup f2 = some ⟨oc2, od2, .func (PySem.W.fnOf "is_letter" "is_letter" (defArgs s_is_letter) (defBody s_is_letter) (defScope s_is_letter) .none kV2 dc2 pm2 an2 cd2 ct2), sl2⟩)
    (c2 : PySem.W.codeIn K cd2 "is_letter" = true)
    (k2 : PySem.W.keepIn K (.ref f2) = true)
    (a3 : PySem.W.nsIn K mainGlobals "_law_pen" = some (some (.ref f3)))
    (l3 : K.lookup f3 = some ⟨oc3, od3, .func (PySem.W.fnOf "_law_pen" "_law_pen" (defArgs s__law_pen) (defBody s__law_pen) (defScope s__law_pen) .none kV3 dc3 pm3 an3 cd3 ct3), sl3⟩)
    (c3 : PySem.W.codeIn K cd3 "_law_pen" = true)
    (k3 : PySem.W.keepIn K (.ref f3) = true)
    (a4 : PySem.W.nsIn K mainGlobals "_law_draw" = some (some (.ref f4)))
    (l4 : K.lookup f4 = some ⟨oc4, od4, .func (PySem.W.fnOf "_law_draw" "_law_draw" (defArgs s__law_draw) (defBody s__law_draw) (defScope s__law_draw) .none kV4 dc4 pm4 an4 cd4 ct4), sl4⟩)
    (c4 : PySem.W.codeIn K cd4 "_law_draw" = true)
    (k4 : PySem.W.keepIn K (.ref f4) = true)
    (a5 : PySem.W.nsIn K mainGlobals "_law_pick" = some (some (.ref f5)))
    (l5 : K.lookup f5 = some ⟨oc5, od5, .func (PySem.W.fnOf "_law_pick" "_law_pick" (defArgs s__law_pick) (defBody s__law_pick) (defScope s__law_pick) .none kV5 dc5 pm5 an5 cd5 ct5), sl5⟩)
    (c5 : PySem.W.codeIn K cd5 "_law_pick" = true)
    (k5 : PySem.W.keepIn K (.ref f5) = true)
    (a6 : PySem.W.nsIn K mainGlobals "_law_letters" = some (some (.ref f6)))
    (l6 : K.lookup f6 = some ⟨oc6, od6, .func (PySem.W.fnOf "_law_letters" "_law_letters" (defArgs s__law_letters) (defBody s__law_letters) (defScope s__law_letters) .none kV6 dc6 pm6 an6 cd6 ct6), sl6⟩)
    (c6 : PySem.W.codeIn K cd6 "_law_letters" = true)
    (k6 : PySem.W.keepIn K (.ref f6) = true)
    (am : PySem.W.nsIn K mainGlobals "is_due" = some (some (.ref fm)))
    (lm : K.lookup fm = some ⟨ocm, odm, .func (PySem.W.fnOf "is_due" "is_due" (defArgs s_is_due) (defBody s_is_due) (defScope s_is_due) .none kVm dcm pmm anm cdm ctm), slm⟩)
    (cm : PySem.W.codeIn K cdm "is_due" = true)
    (km : PySem.W.keepIn K (.ref fm) = true)
    (ao : PySem.W.nsIn K mainGlobals "one_form" = some (some (.ref fo)))
    (lo : K.lookup fo = some ⟨oco, odo, .func (PySem.W.fnOf "one_form" "one_form" (defArgs s_one_form) (defBody s_one_form) (defScope s_one_form) .none kVo dco pmo ano cdo cto), slo⟩)
    (co : PySem.W.codeIn K cdo "one_form" = true)
    (ko : PySem.W.keepIn K (.ref fo) = true)
    (ap : PySem.W.nsIn K mainGlobals "_law_normal" = some (some (.ref fp)))
    (lp : K.lookup fp = some ⟨ocp, odp, .func (PySem.W.fnOf "_law_normal" "_law_normal" (defArgs s__law_normal) (defBody s__law_normal) (defScope s__law_normal) .none kVp dcp pmp anp cdp ctp), slp⟩)
    (cp : PySem.W.codeIn K cdp "_law_normal" = true)
    (kp : PySem.W.keepIn K (.ref fp) = true)
    (aq : PySem.W.nsIn K mainGlobals "_law_triple" = some (some (.ref fq)))
    (lq : K.lookup fq = some ⟨ocq, odq, .func (PySem.W.fnOf "_law_triple" "_law_triple" (defArgs s__law_triple) (defBody s__law_triple) (defScope s__law_triple) .none kVq dcq pmq anq cdq ctq), slq⟩)
    (cq : PySem.W.codeIn K cdq "_law_triple" = true)
    (kq : PySem.W.keepIn K (.ref fq) = true)
    (ar : PySem.W.nsIn K mainGlobals "_law_drawn" = some (some (.ref fr)))
    (lr : K.lookup fr = some ⟨ocr, odr, .func (PySem.W.fnOf "_law_drawn" "_law_drawn" (defArgs s__law_drawn) (defBody s__law_drawn) (defScope s__law_drawn) .none kVr dcr pmr anr cdr ctr), slr⟩)
    (cr : PySem.W.codeIn K cdr "_law_drawn" = true)
    (kr : PySem.W.keepIn K (.ref fr) = true)
    (ad1 : PySem.W.nsIn K mainGlobals "_law_sentence" = some (some (.ref fd1)))
    (ld1 : K.lookup fd1 = some ⟨ocd1, odd1, .func (PySem.W.fnOf "_law_sentence" "_law_sentence" (defArgs s__law_sentence) (defBody s__law_sentence) (defScope s__law_sentence) .none kVd1 dcd1 pmd1 and1 cdd1 ctd1), sld1⟩)
    (cd1 : PySem.W.codeIn K cdd1 "_law_sentence" = true)
    (kd1 : PySem.W.keepIn K (.ref fd1) = true)
    (ad2 : PySem.W.nsIn K mainGlobals "_law_form" = some (some (.ref fd2)))
    (ld2 : K.lookup fd2 = some ⟨ocd2, odd2, .func (PySem.W.fnOf "_law_form" "_law_form" (defArgs s__law_form) (defBody s__law_form) (defScope s__law_form) .none kVd2 dcd2 pmd2 and2 cdd2 ctd2), sld2⟩)
    (cd2 : PySem.W.codeIn K cdd2 "_law_form" = true)
    (kd2 : PySem.W.keepIn K (.ref fd2) = true)
    (ad3 : PySem.W.nsIn K mainGlobals "_law_pair_told" = some (some (.ref fd3)))
    (ld3 : K.lookup fd3 = some ⟨ocd3, odd3, .func (PySem.W.fnOf "_law_pair_told" "_law_pair_told" (defArgs s__law_pair_told) (defBody s__law_pair_told) (defScope s__law_pair_told) .none kVd3 dcd3 pmd3 and3 cdd3 ctd3), sld3⟩)
    (cd3 : PySem.W.codeIn K cdd3 "_law_pair_told" = true)
    (kd3 : PySem.W.keepIn K (.ref fd3) = true)
    (ad4 : PySem.W.nsIn K mainGlobals "_law_still_told" = some (some (.ref fd4)))
    (ld4 : K.lookup fd4 = some ⟨ocd4, odd4, .func (PySem.W.fnOf "_law_still_told" "_law_still_told" (defArgs s__law_still_told) (defBody s__law_still_told) (defScope s__law_still_told) .none kVd4 dcd4 pmd4 and4 cdd4 ctd4), sld4⟩)
    (cd4 : PySem.W.codeIn K cdd4 "_law_still_told" = true)
    (kd4 : PySem.W.keepIn K (.ref fd4) = true)
    (ad5 : PySem.W.nsIn K mainGlobals "_law_answers_right" = some (some (.ref fd5)))
    (ld5 : K.lookup fd5 = some ⟨ocd5, odd5, .func (PySem.W.fnOf "_law_answers_right" "_law_answers_right" (defArgs s__law_answers_right) (defBody s__law_answers_right) (defScope s__law_answers_right) .none kVd5 dcd5 pmd5 and5 cdd5 ctd5), sld5⟩)
    (cd5 : PySem.W.codeIn K cdd5 "_law_answers_right" = true)
    (kd5 : PySem.W.keepIn K (.ref fd5) = true)
    (aw1 : PySem.W.nsIn K mainGlobals "sides_of" = some (some (.ref fw1)))
    (lw1 : K.lookup fw1 = some ⟨ocw1, odw1, .func (PySem.W.fnOf "sides_of" "sides_of" (defArgs s_sides_of) (defBody s_sides_of) (defScope s_sides_of) .none kVw1 dcw1 pmw1 anw1 cdw1 ctw1), slw1⟩)
    (cw1 : PySem.W.codeIn K cdw1 "sides_of" = true)
    (kw1 : PySem.W.keepIn K (.ref fw1) = true)
    (aw2 : PySem.W.nsIn K mainGlobals "told_behind" = some (some (.ref fw2)))
    (lw2 : K.lookup fw2 = some ⟨ocw2, odw2, .func (PySem.W.fnOf "told_behind" "told_behind" (defArgs s_told_behind) (defBody s_told_behind) (defScope s_told_behind) .none kVw2 dcw2 pmw2 anw2 cdw2 ctw2), slw2⟩)
    (cw2 : PySem.W.codeIn K cdw2 "told_behind" = true)
    (kw2 : PySem.W.keepIn K (.ref fw2) = true)
    (aw3 : PySem.W.nsIn K mainGlobals "require_few" = some (some (.ref fw3)))
    (lw3 : K.lookup fw3 = some ⟨ocw3, odw3, .func (PySem.W.fnOf "require_few" "require_few" (defArgs s_require_few) (defBody s_require_few) (defScope s_require_few) .none kVw3 dcw3 pmw3 anw3 cdw3 ctw3), slw3⟩)
    (cw3 : PySem.W.codeIn K cdw3 "require_few" = true)
    (kw3 : PySem.W.keepIn K (.ref fw3) = true)
    (aw4 : PySem.W.nsIn K mainGlobals "close" = some (some (.ref fw4)))
    (lw4 : K.lookup fw4 = some ⟨ocw4, odw4, .func (PySem.W.fnOf "close" "close" (defArgs s_close) (defBody s_close) (defScope s_close) .none kVw4 dcw4 pmw4 anw4 cdw4 ctw4), slw4⟩)
    (cw4 : PySem.W.codeIn K cdw4 "close" = true)
    (kw4 : PySem.W.keepIn K (.ref fw4) = true)
    (aw5 : PySem.W.nsIn K mainGlobals "completed" = some (some (.ref fw5)))
    (lw5 : K.lookup fw5 = some ⟨ocw5, odw5, .func (PySem.W.fnOf "completed" "completed" (defArgs s_completed) (defBody s_completed) (defScope s_completed) .none kVw5 dcw5 pmw5 anw5 cdw5 ctw5), slw5⟩)
    (cw5 : PySem.W.codeIn K cdw5 "completed" = true)
    (kw5 : PySem.W.keepIn K (.ref fw5) = true)
    (a9 : PySem.W.nsIn K mainGlobals "law" = some (some (.ref f9)))
    (l9 : K.lookup f9 = some ⟨oc9, od9, .func (PySem.W.fnOf "law" "law" (defArgs s_law) (defBody s_law) (defScope s_law) .none kV9 dc9 pm9 an9 cd9 ct9), sl9⟩)
    (c9 : PySem.W.codeIn K cd9 "law" = true)
    (k9 : PySem.W.keepIn K (.ref f9) = true)
    (aB : PySem.W.nsIn K mainGlobals "BadLetters" = some (some (.ref CB)))
    (iB : PySem.W.findIn K (.ref CB) "__init__" = some (some (.ref fB)))
    (lB : K.lookup fB = some ⟨ocB, odB, .func (PySem.W.fnOf "__init__" "BadLetters.__init__" (defArgs s_BadLetters_init) (defBody s_BadLetters_init) (defScope s_BadLetters_init) .none kVB dcB pmB anB cdB ctB), slB⟩)
    (cB : PySem.W.codeIn K cdB "BadLetters.__init__" = true)
    (kB : PySem.W.keepIn K (.ref fB) = true)
    (kcB : PySem.W.keepIn K (.ref CB) = true)
    (saB : PySem.W.findIn K (.ref CB) "__setattr__" = some (some (.builtin "object.__setattr__")))
    (xB : K.lookup CB = some (excClassObj nmB qB CB NB bsB bmB true snB subB abB colB ddB m0B m1B m2B m3B m5B "ValueError.__new__"))
    (vB : PySem.HandSPX.refsVE bmB = true)
    (gaB : PySem.W.findIn K (.ref CB) "__getattribute__" = some (some (.builtin "BaseException.__getattribute__")))
    (ggB : PySem.W.findIn K (.ref CB) "__getattr__" = some none)
    (eCB : PySem.W.subIn K (.ref CB) (.type "BaseException") = some true)
    (tCB : PySem.W.typeIn K (.ref CB) = some (.type "type"))
    (tfB : PySem.W.typeIn K (.ref fB) = some (.type "function"))
    (hCB : PySem.W.hasDictIn K CB = true)
    (nB0 : PySem.W.findIn K (.ref CB) "index" = some none)
    (aM : PySem.W.nsIn K mainGlobals "TooMany" = some (some (.ref CM)))
    (iM : PySem.W.findIn K (.ref CM) "__init__" = some (some (.ref fM)))
    (lM : K.lookup fM = some ⟨ocM, odM, .func (PySem.W.fnOf "__init__" "TooMany.__init__" (defArgs s_TooMany_init) (defBody s_TooMany_init) (defScope s_TooMany_init) .none kVM dcM pmM anM cdM ctM), slM⟩)
    (cM : PySem.W.codeIn K cdM "TooMany.__init__" = true)
    (kM : PySem.W.keepIn K (.ref fM) = true)
    (kcM : PySem.W.keepIn K (.ref CM) = true)
    (saM : PySem.W.findIn K (.ref CM) "__setattr__" = some (some (.builtin "object.__setattr__")))
    (xM : K.lookup CM = some (excClassObj nmM qM CM NM bsM bmM true snM subM abM colM ddM m0M m1M m2M m3M m5M "ValueError.__new__"))
    (vM : PySem.HandSPX.refsVE bmM = true)
    (gaM : PySem.W.findIn K (.ref CM) "__getattribute__" = some (some (.builtin "BaseException.__getattribute__")))
    (ggM : PySem.W.findIn K (.ref CM) "__getattr__" = some none)
    (eCM : PySem.W.subIn K (.ref CM) (.type "BaseException") = some true)
    (tCM : PySem.W.typeIn K (.ref CM) = some (.type "type"))
    (tfM : PySem.W.typeIn K (.ref fM) = some (.type "function"))
    (hCM : PySem.W.hasDictIn K CM = true)
    (nM0 : PySem.W.findIn K (.ref CM) "what" = some none)
    (nM1 : PySem.W.findIn K (.ref CM) "many" = some none)
    (nM2 : PySem.W.findIn K (.ref CM) "most" = some none)
    (aT : PySem.W.nsIn K mainGlobals "BadLetter" = some (some (.ref CT)))
    (iT : PySem.W.findIn K (.ref CT) "__init__" = some (some (.ref fT)))
    (lT : K.lookup fT = some ⟨ocT, odT, .func (PySem.W.fnOf "__init__" "BadLetter.__init__" (defArgs s_BadLetter_init) (defBody s_BadLetter_init) (defScope s_BadLetter_init) .none kVT dcT pmT anT cdT ctT), slT⟩)
    (cT : PySem.W.codeIn K cdT "BadLetter.__init__" = true)
    (kT : PySem.W.keepIn K (.ref fT) = true)
    (kcT : PySem.W.keepIn K (.ref CT) = true)
    (saT : PySem.W.findIn K (.ref CT) "__setattr__" = some (some (.builtin "object.__setattr__")))
    (xT : K.lookup CT = some (excClassObj nmT qT CT NT bsT bmT true snT subT abT colT ddT m0T m1T m2T m3T m5T "ValueError.__new__"))
    (vT : PySem.HandSPX.refsVE bmT = true)
    (gaT : PySem.W.findIn K (.ref CT) "__getattribute__" = some (some (.builtin "BaseException.__getattribute__")))
    (ggT : PySem.W.findIn K (.ref CT) "__getattr__" = some none)
    (eCT : PySem.W.subIn K (.ref CT) (.type "BaseException") = some true)
    (tCT : PySem.W.typeIn K (.ref CT) = some (.type "type"))
    (tfT : PySem.W.typeIn K (.ref fT) = some (.type "function"))
    (hCT : PySem.W.hasDictIn K CT = true)
    (nT0 : PySem.W.findIn K (.ref CT) "index" = some none)
    (aV : PySem.W.nsIn K mainGlobals "NotLive" = some (some (.ref CV)))
    (iV : PySem.W.findIn K (.ref CV) "__init__" = some (some (.ref fV)))
    (lV : K.lookup fV = some ⟨ocV, odV, .func (PySem.W.fnOf "__init__" "NotLive.__init__" (defArgs s_NotLive___init__) (defBody s_NotLive___init__) (defScope s_NotLive___init__) .none kVV dcV pmV anV cdV ctV), slV⟩)
    (cV : PySem.W.codeIn K cdV "NotLive.__init__" = true)
    (kV : PySem.W.keepIn K (.ref fV) = true)
    (kcV : PySem.W.keepIn K (.ref CV) = true)
    (saV : PySem.W.findIn K (.ref CV) "__setattr__" = some (some (.builtin "object.__setattr__")))
    (xV : K.lookup CV = some (excClassObj nmV qV CV NV bsV bmV true snV subV abV colV ddV m0V m1V m2V m3V m5V "ValueError.__new__"))
    (vV : PySem.HandSPX.refsVE bmV = true)
    (gaV : PySem.W.findIn K (.ref CV) "__getattribute__" = some (some (.builtin "BaseException.__getattribute__")))
    (ggV : PySem.W.findIn K (.ref CV) "__getattr__" = some none)
    (eCV : PySem.W.subIn K (.ref CV) (.type "BaseException") = some true)
    (tCV : PySem.W.typeIn K (.ref CV) = some (.type "type"))
    (tfV : PySem.W.typeIn K (.ref fV) = some (.type "function"))
    (hCV : PySem.W.hasDictIn K CV = true)
    (nV0 : PySem.W.findIn K (.ref CV) "index" = some none)
    (icV : PySem.W.isClsIn K CV = true)
    (esV : PySem.W.subIn K (.ref CV) (.ref CV) = some true)
    (haV : PySem.W.findIn K (.ref CV) "__class__" = some (some (.builtin "object.__class__")))
    (hmV : PySem.W.mroIn K CV (.type "object") = some true)
    (aZ : PySem.W.nsIn K mainGlobals "BadKind" = some (some (.ref CZ)))
    (exZ : PySem.W.excIn K CZ [Value.type "ValueError", Value.type "Exception", Value.type "BaseException", Value.type "object"] "ValueError.__new__" = true)
    (kcZ : PySem.W.keepIn K (.ref CZ) = true)
    (eCZ : PySem.W.subIn K (.ref CZ) (.type "BaseException") = some true)
    (tCZ : PySem.W.typeIn K (.ref CZ) = some (.type "type"))
    (aN : PySem.W.nsIn K mainGlobals "SaysNothing" = some (some (.ref CN)))
    (exN : PySem.W.excIn K CN [Value.type "ValueError", Value.type "Exception", Value.type "BaseException", Value.type "object"] "ValueError.__new__" = true)
    (kcN : PySem.W.keepIn K (.ref CN) = true)
    (eCN : PySem.W.subIn K (.ref CN) (.type "BaseException") = some true)
    (tCN : PySem.W.typeIn K (.ref CN) = some (.type "type"))
    (aL : PySem.W.nsIn K mainGlobals "Letters" = some (some (.ref CL)))
    (kcL : PySem.W.keepIn K (.ref CL) = true)
    (saL : PySem.W.findIn K (.ref CL) "__setattr__" = some (some (.builtin "object.__setattr__")))
    (pgL : PySem.W.plainGet K CL Str.empty = true)
    (hdL : PySem.W.hasDictIn K CL = true)
    (poL : PySem.W.plainOver K CL = true)
    (mkL : PySem.W.makesIn K CL = true)
    (nL0 : PySem.W.findIn K (.ref CL) "words" = some none)
    (icL : PySem.W.isClsIn K CL = true)
    (haL : PySem.W.findIn K (.ref CL) "__class__" = some (some (.builtin "object.__class__")))
    (hmL : PySem.W.mroIn K CL (.type "object") = some true)
    (iL : PySem.W.findIn K (.ref CL) "__init__" = some (some (.ref fL)))
    (lL : K.lookup fL = some ⟨ocL, odL, .func (PySem.W.fnOf "__init__" "Letters.__init__" (defArgs s_Letters_init) (defBody s_Letters_init) (defScope s_Letters_init) .none kVL dcL pmL anL cdL ctL), slL⟩)
    (cL : PySem.W.codeIn K cdL "Letters.__init__" = true)
    (kL : PySem.W.keepIn K (.ref fL) = true)
    (isL : PySem.W.isFn K (.ref fL) = true)
    (iH : PySem.W.findIn K (.ref CL) "__contains__" = some (some (.ref fH)))
    (lH : K.lookup fH = some ⟨ocH, odH, .func (PySem.W.fnOf "__contains__" "Letters.__contains__" (defArgs s_Has) (defBody s_Has) (defScope s_Has) .none kVH dcH pmH anH cdH ctH), slH⟩)
    (cH : PySem.W.codeIn K cdH "Letters.__contains__" = true)
    (kH : PySem.W.keepIn K (.ref fH) = true)
    (isH : PySem.W.isFn K (.ref fH) = true)
    (iR : PySem.W.findIn K (.ref CL) "rank" = some (some (.ref fR)))
    (lR : K.lookup fR = some ⟨ocR, odR, .func (PySem.W.fnOf "rank" "Letters.rank" (defArgs s_Rank) (defBody s_Rank) (defScope s_Rank) .none kVR dcR pmR anR cdR ctR), slR⟩)
    (cR : PySem.W.codeIn K cdR "Letters.rank" = true)
    (kR : PySem.W.keepIn K (.ref fR) = true)
    (isR : PySem.W.isFn K (.ref fR) = true)
    (iQ : PySem.W.findIn K (.ref CL) "__eq__" = some (some (.ref fQ)))
    (lQ : K.lookup fQ = some ⟨ocQ, odQ, .func (PySem.W.fnOf "__eq__" "Letters.__eq__" (defArgs s_Eq) (defBody s_Eq) (defScope s_Eq) .none kVQ dcQ pmQ anQ cdQ ctQ), slQ⟩)
    (cQ : PySem.W.codeIn K cdQ "Letters.__eq__" = true)
    (kQ : PySem.W.keepIn K (.ref fQ) = true)
    (isQ : PySem.W.isFn K (.ref fQ) = true)
    (aS : PySem.W.nsIn K mainGlobals "Sentence" = some (some (.ref CS)))
    (kcS : PySem.W.keepIn K (.ref CS) = true)
    (saS : PySem.W.findIn K (.ref CS) "__setattr__" = some (some (.builtin "object.__setattr__")))
    (pgS : PySem.W.plainGet K CS Str.empty = true)
    (hdS : PySem.W.hasDictIn K CS = true)
    (poS : PySem.W.plainOver K CS = true)
    (mkS : PySem.W.makesIn K CS = true)
    (nS0 : PySem.W.findIn K (.ref CS) "letters" = some none)
    (nS1 : PySem.W.findIn K (.ref CS) "kind" = some none)
    (nS2 : PySem.W.findIn K (.ref CS) "first" = some none)
    (nS3 : PySem.W.findIn K (.ref CS) "second" = some none)
    (icS : PySem.W.isClsIn K CS = true)
    (haS : PySem.W.findIn K (.ref CS) "__class__" = some (some (.builtin "object.__class__")))
    (hmS : PySem.W.mroIn K CS (.type "object") = some true)
    (iS : PySem.W.findIn K (.ref CS) "__init__" = some (some (.ref fS)))
    (lS : K.lookup fS = some ⟨ocS, odS, .func (PySem.W.fnOf "__init__" "Sentence.__init__" (defArgs s_Sen_init) (defBody s_Sen_init) (defScope s_Sen_init) (.ref TS) kVS dcS pmS anS cdS ctS), slS⟩)
    (cS : PySem.W.codeIn K cdS "Sentence.__init__" = true)
    (kS : PySem.W.keepIn K (.ref fS) = true)
    (dTS : K.lookup TS = some oTS)
    (dUS : oTS.data = .seq [Value.none].toArray nTS)
    (isS : PySem.W.isFn K (.ref fS) = true)
    (tcS : PySem.W.typeIn K (.ref CS) = some (.type "type"))
    (iA : PySem.W.findIn K (.ref CS) "__eq__" = some (some (.ref fA)))
    (lA : K.lookup fA = some ⟨ocA, odA, .func (PySem.W.fnOf "__eq__" "Sentence.__eq__" (defArgs s_SEq) (defBody s_SEq) (defScope s_SEq) .none kVA dcA pmA anA cdA ctA), slA⟩)
    (cA : PySem.W.codeIn K cdA "Sentence.__eq__" = true)
    (kA : PySem.W.keepIn K (.ref fA) = true)
    (isA : PySem.W.isFn K (.ref fA) = true)
    (aC : PySem.W.nsIn K mainGlobals "Completion" = some (some (.ref CC)))
    (kcC : PySem.W.keepIn K (.ref CC) = true)
    (saC : PySem.W.findIn K (.ref CC) "__setattr__" = some (some (.builtin "object.__setattr__")))
    (pgC : PySem.W.plainGet K CC Str.empty = true)
    (hdC : PySem.W.hasDictIn K CC = true)
    (poC : PySem.W.plainOver K CC = true)
    (mkC : PySem.W.makesIn K CC = true)
    (nC0 : PySem.W.findIn K (.ref CC) "letters" = some none)
    (nC1 : PySem.W.findIn K (.ref CC) "ranks" = some none)
    (nC2 : PySem.W.findIn K (.ref CC) "many" = some none)
    (nC3 : PySem.W.findIn K (.ref CC) "rows" = some none)
    (nC4 : PySem.W.findIn K (.ref CC) "lengths" = some none)
    (nC5 : PySem.W.findIn K (.ref CC) "lone" = some none)
    (nC6 : PySem.W.findIn K (.ref CC) "still" = some none)
    (nC7 : PySem.W.findIn K (.ref CC) "pairs" = some none)
    (nC8 : PySem.W.findIn K (.ref CC) "waiting" = some none)
    (nC9 : PySem.W.findIn K (.ref CC) "fresh" = some none)
    (nC10 : PySem.W.findIn K (.ref CC) "offered" = some none)
    (iy0 : PySem.W.findIn K (.ref CC) "__init__" = some (some (.ref fy0)))
    (ly0 : K.lookup fy0 = some ⟨ocy0, ody0, .func (PySem.W.fnOf "__init__" "Completion.__init__" (defArgs s_Completion___init__) (defBody s_Completion___init__) (defScope s_Completion___init__) .none kVy0 dcy0 pmy0 any0 cdy0 cty0), sly0⟩)
    (cy0 : PySem.W.codeIn K cdy0 "Completion.__init__" = true)
    (ky0 : PySem.W.keepIn K (.ref fy0) = true)
    (isy0 : PySem.W.isFn K (.ref fy0) = true)
    (iy1 : PySem.W.findIn K (.ref CC) "copy" = some (some (.ref fy1)))
    (ly1 : K.lookup fy1 = some ⟨ocy1, ody1, .func (PySem.W.fnOf "copy" "Completion.copy" (defArgs s_Completion_copy) (defBody s_Completion_copy) (defScope s_Completion_copy) .none kVy1 dcy1 pmy1 any1 cdy1 cty1), sly1⟩)
    (cy1 : PySem.W.codeIn K cdy1 "Completion.copy" = true)
    (ky1 : PySem.W.keepIn K (.ref fy1) = true)
    (isy1 : PySem.W.isFn K (.ref fy1) = true)
    (iy2 : PySem.W.findIn K (.ref CC) "take" = some (some (.ref fy2)))
    (ly2 : K.lookup fy2 = some ⟨ocy2, ody2, .func (PySem.W.fnOf "take" "Completion.take" (defArgs s_Completion_take) (defBody s_Completion_take) (defScope s_Completion_take) .none kVy2 dcy2 pmy2 any2 cdy2 cty2), sly2⟩)
    (cy2 : PySem.W.codeIn K cdy2 "Completion.take" = true)
    (ky2 : PySem.W.keepIn K (.ref fy2) = true)
    (isy2 : PySem.W.isFn K (.ref fy2) = true)
    (iy3 : PySem.W.findIn K (.ref CC) "equation_of" = some (some (.ref fy3)))
    (ly3 : K.lookup fy3 = some ⟨ocy3, ody3, .func (PySem.W.fnOf "equation_of" "Completion.equation_of" (defArgs s_Completion_equation_of) (defBody s_Completion_equation_of) (defScope s_Completion_equation_of) .none kVy3 dcy3 pmy3 any3 cdy3 cty3), sly3⟩)
    (cy3 : PySem.W.codeIn K cdy3 "Completion.equation_of" = true)
    (ky3 : PySem.W.keepIn K (.ref fy3) = true)
    (isy3 : PySem.W.isFn K (.ref fy3) = true)
    (iy4 : PySem.W.findIn K (.ref CC) "consider" = some (some (.ref fy4)))
    (ly4 : K.lookup fy4 = some ⟨ocy4, ody4, .func (PySem.W.fnOf "consider" "Completion.consider" (defArgs s_Completion_consider) (defBody s_Completion_consider) (defScope s_Completion_consider) .none kVy4 dcy4 pmy4 any4 cdy4 cty4), sly4⟩)
    (cy4 : PySem.W.codeIn K cdy4 "Completion.consider" = true)
    (ky4 : PySem.W.keepIn K (.ref fy4) = true)
    (isy4 : PySem.W.isFn K (.ref fy4) = true)
    (iy5 : PySem.W.findIn K (.ref CC) "offer" = some (some (.ref fy5)))
    (ly5 : K.lookup fy5 = some ⟨ocy5, ody5, .func (PySem.W.fnOf "offer" "Completion.offer" (defArgs s_Completion_offer) (defBody s_Completion_offer) (defScope s_Completion_offer) .none kVy5 dcy5 pmy5 any5 cdy5 cty5), sly5⟩)
    (cy5 : PySem.W.codeIn K cdy5 "Completion.offer" = true)
    (ky5 : PySem.W.keepIn K (.ref fy5) = true)
    (isy5 : PySem.W.isFn K (.ref fy5) = true)
    (iy6 : PySem.W.findIn K (.ref CC) "adopt" = some (some (.ref fy6)))
    (ly6 : K.lookup fy6 = some ⟨ocy6, ody6, .func (PySem.W.fnOf "adopt" "Completion.adopt" (defArgs s_Completion_adopt) (defBody s_Completion_adopt) (defScope s_Completion_adopt) .none kVy6 dcy6 pmy6 any6 cdy6 cty6), sly6⟩)
    (cy6 : PySem.W.codeIn K cdy6 "Completion.adopt" = true)
    (ky6 : PySem.W.keepIn K (.ref fy6) = true)
    (isy6 : PySem.W.isFn K (.ref fy6) = true)
    (iy7 : PySem.W.findIn K (.ref CC) "row_for" = some (some (.ref fy7)))
    (ly7 : K.lookup fy7 = some ⟨ocy7, ody7, .func (PySem.W.fnOf "row_for" "Completion.row_for" (defArgs s_Completion_row_for) (defBody s_Completion_row_for) (defScope s_Completion_row_for) .none kVy7 dcy7 pmy7 any7 cdy7 cty7), sly7⟩)
    (cy7 : PySem.W.codeIn K cdy7 "Completion.row_for" = true)
    (ky7 : PySem.W.keepIn K (.ref fy7) = true)
    (isy7 : PySem.W.isFn K (.ref fy7) = true)
    (iy8 : PySem.W.findIn K (.ref CC) "retire" = some (some (.ref fy8)))
    (ly8 : K.lookup fy8 = some ⟨ocy8, ody8, .func (PySem.W.fnOf "retire" "Completion.retire" (defArgs s_Completion_retire) (defBody s_Completion_retire) (defScope s_Completion_retire) .none kVy8 dcy8 pmy8 any8 cdy8 cty8), sly8⟩)
    (cy8 : PySem.W.codeIn K cdy8 "Completion.retire" = true)
    (ky8 : PySem.W.keepIn K (.ref fy8) = true)
    (isy8 : PySem.W.isFn K (.ref fy8) = true)
    (iy9 : PySem.W.findIn K (.ref CC) "is_least_of" = some (some (.ref fy9)))
    (ly9 : K.lookup fy9 = some ⟨ocy9, ody9, .func (PySem.W.fnOf "is_least_of" "Completion.is_least_of" (defArgs s_Completion_is_least_of) (defBody s_Completion_is_least_of) (defScope s_Completion_is_least_of) .none kVy9 dcy9 pmy9 any9 cdy9 cty9), sly9⟩)
    (cy9 : PySem.W.codeIn K cdy9 "Completion.is_least_of" = true)
    (ky9 : PySem.W.keepIn K (.ref fy9) = true)
    (isy9 : PySem.W.isFn K (.ref fy9) = true)
    (iya : PySem.W.findIn K (.ref CC) "taken_back" = some (some (.ref fya)))
    (lya : K.lookup fya = some ⟨ocya, odya, .func (PySem.W.fnOf "taken_back" "Completion.taken_back" (defArgs s_Completion_taken_back) (defBody s_Completion_taken_back) (defScope s_Completion_taken_back) .none kVya dcya pmya anya cdya ctya), slya⟩)
    (cya : PySem.W.codeIn K cdya "Completion.taken_back" = true)
    (kya : PySem.W.keepIn K (.ref fya) = true)
    (isya : PySem.W.isFn K (.ref fya) = true)
    (iyb : PySem.W.findIn K (.ref CC) "overlap_pair" = some (some (.ref fyb)))
    (lyb : K.lookup fyb = some ⟨ocyb, odyb, .func (PySem.W.fnOf "overlap_pair" "Completion.overlap_pair" (defArgs s_Completion_overlap_pair) (defBody s_Completion_overlap_pair) (defScope s_Completion_overlap_pair) .none kVyb dcyb pmyb anyb cdyb ctyb), slyb⟩)
    (cyb : PySem.W.codeIn K cdyb "Completion.overlap_pair" = true)
    (kyb : PySem.W.keepIn K (.ref fyb) = true)
    (isyb : PySem.W.isFn K (.ref fyb) = true)
    (iyc : PySem.W.findIn K (.ref CC) "overlap" = some (some (.ref fyc)))
    (lyc : K.lookup fyc = some ⟨ocyc, odyc, .func (PySem.W.fnOf "overlap" "Completion.overlap" (defArgs s_Completion_overlap) (defBody s_Completion_overlap) (defScope s_Completion_overlap) .none kVyc dcyc pmyc anyc cdyc ctyc), slyc⟩)
    (cyc : PySem.W.codeIn K cdyc "Completion.overlap" = true)
    (kyc : PySem.W.keepIn K (.ref fyc) = true)
    (isyc : PySem.W.isFn K (.ref fyc) = true)
    (iyd : PySem.W.findIn K (.ref CC) "overlap_still" = some (some (.ref fyd)))
    (lyd : K.lookup fyd = some ⟨ocyd, odyd, .func (PySem.W.fnOf "overlap_still" "Completion.overlap_still" (defArgs s_Completion_overlap_still) (defBody s_Completion_overlap_still) (defScope s_Completion_overlap_still) .none kVyd dcyd pmyd anyd cdyd ctyd), slyd⟩)
    (cyd : PySem.W.codeIn K cdyd "Completion.overlap_still" = true)
    (kyd : PySem.W.keepIn K (.ref fyd) = true)
    (isyd : PySem.W.isFn K (.ref fyd) = true)
    (iye : PySem.W.findIn K (.ref CC) "is_struck" = some (some (.ref fye)))
    (lye : K.lookup fye = some ⟨ocye, odye, .func (PySem.W.fnOf "is_struck" "Completion.is_struck" (defArgs s_Completion_is_struck) (defBody s_Completion_is_struck) (defScope s_Completion_is_struck) .none kVye dcye pmye anye cdye ctye), slye⟩)
    (cye : PySem.W.codeIn K cdye "Completion.is_struck" = true)
    (kye : PySem.W.keepIn K (.ref fye) = true)
    (isye : PySem.W.isFn K (.ref fye) = true)
    (iyf : PySem.W.findIn K (.ref CC) "reduced" = some (some (.ref fyf)))
    (lyf : K.lookup fyf = some ⟨ocyf, odyf, .func (PySem.W.fnOf "reduced" "Completion.reduced" (defArgs s_Completion_reduced) (defBody s_Completion_reduced) (defScope s_Completion_reduced) .none kVyf dcyf pmyf anyf cdyf ctyf), slyf⟩)
    (cyf : PySem.W.codeIn K cdyf "Completion.reduced" = true)
    (kyf : PySem.W.keepIn K (.ref fyf) = true)
    (isyf : PySem.W.isFn K (.ref fyf) = true)
    (iyg : PySem.W.findIn K (.ref CC) "rule_at" = some (some (.ref fyg)))
    (lyg : K.lookup fyg = some ⟨ocyg, odyg, .func (PySem.W.fnOf "rule_at" "Completion.rule_at" (defArgs s_Completion_rule_at) (defBody s_Completion_rule_at) (defScope s_Completion_rule_at) .none kVyg dcyg pmyg anyg cdyg ctyg), slyg⟩)
    (cyg : PySem.W.codeIn K cdyg "Completion.rule_at" = true)
    (kyg : PySem.W.keepIn K (.ref fyg) = true)
    (isyg : PySem.W.isFn K (.ref fyg) = true)
    (gfc : PySem.W.specialIn K (.ref fy4) "__get__" = some (some (.builtin "function.__get__")))
    (tkc : PySem.W.takesIn K (.ref fy4) = some false)
    (fiy4 : PySem.W.fnIn K fy4 = true)
    (aG : PySem.W.nsIn K mainGlobals "Closing" = some (some (.ref CG)))
    (kcG : PySem.W.keepIn K (.ref CG) = true)
    (saG : PySem.W.findIn K (.ref CG) "__setattr__" = some (some (.builtin "object.__setattr__")))
    (pgG : PySem.W.plainGet K CG Str.empty = true)
    (hdG : PySem.W.hasDictIn K CG = true)
    (poG : PySem.W.plainOver K CG = true)
    (mkG : PySem.W.makesIn K CG = true)
    (nG0 : PySem.W.findIn K (.ref CG) "letters" = some none)
    (nG1 : PySem.W.findIn K (.ref CG) "told" = some none)
    (nG2 : PySem.W.findIn K (.ref CG) "rows" = some none)
    (nG3 : PySem.W.findIn K (.ref CG) "lengths" = some none)
    (nG4 : PySem.W.findIn K (.ref CG) "live" = some none)
    (nG5 : PySem.W.findIn K (.ref CG) "_begun" = some none)
    (nG6 : PySem.W.findIn K (.ref CG) "_work" = some none)
    (iv0 : PySem.W.findIn K (.ref CG) "__init__" = some (some (.ref fv0)))
    (lv0 : K.lookup fv0 = some ⟨ocv0, odv0, .func (PySem.W.fnOf "__init__" "Closing.__init__" (defArgs s_Closing___init__) (defBody s_Closing___init__) (defScope s_Closing___init__) .none kVv0 dcv0 pmv0 anv0 cdv0 ctv0), slv0⟩)
    (cv0 : PySem.W.codeIn K cdv0 "Closing.__init__" = true)
    (kv0 : PySem.W.keepIn K (.ref fv0) = true)
    (isv0 : PySem.W.isFn K (.ref fv0) = true)
    (iv1 : PySem.W.findIn K (.ref CG) "lone_rule" = some (some (.ref fv1)))
    (lv1 : K.lookup fv1 = some ⟨ocv1, odv1, .func (PySem.W.fnOf "lone_rule" "Closing.lone_rule" (defArgs s_Closing_lone_rule) (defBody s_Closing_lone_rule) (defScope s_Closing_lone_rule) .none kVv1 dcv1 pmv1 anv1 cdv1 ctv1), slv1⟩)
    (cv1 : PySem.W.codeIn K cdv1 "Closing.lone_rule" = true)
    (kv1 : PySem.W.keepIn K (.ref fv1) = true)
    (isv1 : PySem.W.isFn K (.ref fv1) = true)
    (iv2 : PySem.W.findIn K (.ref CG) "pair_rule" = some (some (.ref fv2)))
    (lv2 : K.lookup fv2 = some ⟨ocv2, odv2, .func (PySem.W.fnOf "pair_rule" "Closing.pair_rule" (defArgs s_Closing_pair_rule) (defBody s_Closing_pair_rule) (defScope s_Closing_pair_rule) .none kVv2 dcv2 pmv2 anv2 cdv2 ctv2), slv2⟩)
    (cv2 : PySem.W.codeIn K cdv2 "Closing.pair_rule" = true)
    (kv2 : PySem.W.keepIn K (.ref fv2) = true)
    (isv2 : PySem.W.isFn K (.ref fv2) = true)
    (iv3 : PySem.W.findIn K (.ref CG) "still_rule" = some (some (.ref fv3)))
    (lv3 : K.lookup fv3 = some ⟨ocv3, odv3, .func (PySem.W.fnOf "still_rule" "Closing.still_rule" (defArgs s_Closing_still_rule) (defBody s_Closing_still_rule) (defScope s_Closing_still_rule) .none kVv3 dcv3 pmv3 anv3 cdv3 ctv3), slv3⟩)
    (cv3 : PySem.W.codeIn K cdv3 "Closing.still_rule" = true)
    (kv3 : PySem.W.keepIn K (.ref fv3) = true)
    (isv3 : PySem.W.isFn K (.ref fv3) = true)
    (iv4 : PySem.W.findIn K (.ref CG) "kind_of" = some (some (.ref fv4)))
    (lv4 : K.lookup fv4 = some ⟨ocv4, odv4, .func (PySem.W.fnOf "kind_of" "Closing.kind_of" (defArgs s_Closing_kind_of) (defBody s_Closing_kind_of) (defScope s_Closing_kind_of) .none kVv4 dcv4 pmv4 anv4 cdv4 ctv4), slv4⟩)
    (cv4 : PySem.W.codeIn K cdv4 "Closing.kind_of" = true)
    (kv4 : PySem.W.keepIn K (.ref fv4) = true)
    (isv4 : PySem.W.isFn K (.ref fv4) = true)
    (iv5 : PySem.W.findIn K (.ref CG) "least" = some (some (.ref fv5)))
    (lv5 : K.lookup fv5 = some ⟨ocv5, odv5, .func (PySem.W.fnOf "least" "Closing.least" (defArgs s_Closing_least) (defBody s_Closing_least) (defScope s_Closing_least) .none kVv5 dcv5 pmv5 anv5 cdv5 ctv5), slv5⟩)
    (cv5 : PySem.W.codeIn K cdv5 "Closing.least" = true)
    (kv5 : PySem.W.keepIn K (.ref fv5) = true)
    (isv5 : PySem.W.isFn K (.ref fv5) = true)
    (iv7 : PySem.W.findIn K (.ref CG) "pair" = some (some (.ref fv7)))
    (lv7 : K.lookup fv7 = some ⟨ocv7, odv7, .func (PySem.W.fnOf "pair" "Closing.pair" (defArgs s_Closing_pair) (defBody s_Closing_pair) (defScope s_Closing_pair) .none kVv7 dcv7 pmv7 anv7 cdv7 ctv7), slv7⟩)
    (cv7 : PySem.W.codeIn K cdv7 "Closing.pair" = true)
    (kv7 : PySem.W.keepIn K (.ref fv7) = true)
    (isv7 : PySem.W.isFn K (.ref fv7) = true)
    (iv8 : PySem.W.findIn K (.ref CG) "is_still" = some (some (.ref fv8)))
    (lv8 : K.lookup fv8 = some ⟨ocv8, odv8, .func (PySem.W.fnOf "is_still" "Closing.is_still" (defArgs s_Closing_is_still) (defBody s_Closing_is_still) (defScope s_Closing_is_still) .none kVv8 dcv8 pmv8 anv8 cdv8 ctv8), slv8⟩)
    (cv8 : PySem.W.codeIn K cdv8 "Closing.is_still" = true)
    (kv8 : PySem.W.keepIn K (.ref fv8) = true)
    (isv8 : PySem.W.isFn K (.ref fv8) = true)
    (iv9 : PySem.W.findIn K (.ref CG) "form" = some (some (.ref fv9)))
    (lv9 : K.lookup fv9 = some ⟨ocv9, odv9, .func (PySem.W.fnOf "form" "Closing.form" (defArgs s_Closing_form) (defBody s_Closing_form) (defScope s_Closing_form) .none kVv9 dcv9 pmv9 anv9 cdv9 ctv9), slv9⟩)
    (cv9 : PySem.W.codeIn K cdv9 "Closing.form" = true)
    (kv9 : PySem.W.keepIn K (.ref fv9) = true)
    (isv9 : PySem.W.isFn K (.ref fv9) = true)
    (iv6 : PySem.W.findIn K (.ref CG) "require_live" = some (some (.ref fv6)))
    (lv6 : K.lookup fv6 = some ⟨ocv6, odv6, .func (PySem.W.fnOf "require_live" "Closing.require_live" (defArgs s_Closing_require_live) (defBody s_Closing_require_live) (defScope s_Closing_require_live) .none kVv6 dcv6 pmv6 anv6 cdv6 ctv6), slv6⟩)
    (cv6 : PySem.W.codeIn K cdv6 "Closing.require_live" = true)
    (kv6 : PySem.W.keepIn K (.ref fv6) = true)
    (isv6 : PySem.W.isFn K (.ref fv6) = true)
    (g_gS : PySem.W.nsIn K mainGlobals "SMALL_LETTERS" = some (some (.str "abcdefghijklmnopqrstuvwxyz" gS)))
    (g_gW : PySem.W.nsIn K mainGlobals "WORD_SIGNS" = some (some (.str "abcdefghijklmnopqrstuvwxyz0123456789" gW)))
    (g_gM : PySem.W.nsIn K mainGlobals "MOST_SIGNS" = some (some (.int 12 gM)))
    (g_gL : PySem.W.nsIn K mainGlobals "MOST_LETTERS" = some (some (.int 12 gL)))
    (g_gB : PySem.W.nsIn K mainGlobals "BEGINNINGS" = some (some (.ref T_gB)))
    (gl_gB : K.lookup T_gB = some o_gB)
    (gc_gB : o_gB.cls = .type "tuple")
    (gd_gB : o_gB.data = .seq j_gB n_gB)
    (gs_gB : j_gB.size ≤ sizeLine)
    (gv_gB : Vals [.str newW, .str foundW] j_gB.toList)
    (g_gX : PySem.W.nsIn K mainGlobals "MOST_SENTENCES" = some (some (.int 60 gX)))
    (g_gK : PySem.W.nsIn K mainGlobals "KINDS" = some (some (.ref T_gK)))
    (gl_gK : K.lookup T_gK = some o_gK)
    (gc_gK : o_gK.cls = .type "tuple")
    (gd_gK : o_gK.data = .seq j_gK n_gK)
    (gs_gK : j_gK.size ≤ sizeLine)
    (gv_gK : Vals [.str ("idle" : Str), .str ("kept" : Str), .str ("still" : Str), .str ("over" : Str), .str ("undone" : Str), .str ("alike" : Str)] j_gK.toList)
    (g_gN : PySem.W.nsIn K mainGlobals "LONE_KINDS" = some (some (.ref T_gN)))
    (gl_gN : K.lookup T_gN = some o_gN)
    (gc_gN : o_gN.cls = .type "tuple")
    (gd_gN : o_gN.data = .seq j_gN n_gN)
    (gs_gN : j_gN.size ≤ sizeLine)
    (gv_gN : Vals [.str ("idle" : Str), .str ("still" : Str)] j_gN.toList)
    (z0 : PySem.W.nsIn K mainGlobals "int" = some none)
    (z1 : PySem.W.nsIn K mainGlobals "len" = some none)
    (z2 : PySem.W.nsIn K mainGlobals "abs" = some none)
    (z3 : PySem.W.nsIn K mainGlobals "list" = some none)
    (z4 : PySem.W.nsIn K mainGlobals "range" = some none)
    (z5 : PySem.W.nsIn K mainGlobals "min" = some none)
    (z6 : PySem.W.nsIn K mainGlobals "str" = some none)
    (z7 : PySem.W.nsIn K mainGlobals "isinstance" = some none)
    (z8 : PySem.W.nsIn K mainGlobals "all" = some none)
    (z9 : PySem.W.nsIn K mainGlobals "enumerate" = some none)
    (z10 : PySem.W.nsIn K mainGlobals "tuple" = some none)
    (z11 : PySem.W.nsIn K mainGlobals "repr" = some none)
    (z12 : PySem.W.nsIn K mainGlobals "dict" = some none)
    (z13 : PySem.W.nsIn K mainGlobals "bool" = some none)
    (z14 : PySem.W.nsIn K mainGlobals "sum" = some none)
    (z15 : PySem.W.nsIn K mainGlobals "ValueError" = some none)
    (z16 : PySem.W.nsIn K mainGlobals "sorted" = some none)
    (xL : K.lookup CL = some (excClassObj nmL qL CL NL bsL bmL hdctL snL subL abL colL ddL m0L m1L m2L m3L m5L newL))
    (vL : bmL = [.type "object"])
    (xNL : K.lookup NL = some oNL)
    (xAL : oNL.data = .dict esNL epNL)
    (xBL : StrKeys esNL)
    (xCL : nsFind esNL "__eq__" = some (.ref fQ))
    (xDL : nsFind esNL "__ne__" = none)
    (xS : K.lookup CS = some (excClassObj nmS qS CS NS bsS bmS hdctS snS subS abS colS ddS m0S m1S m2S m3S m5S newS))
    (vS : bmS = [.type "object"])
    (xNS : K.lookup NS = some oNS)
    (xAS : oNS.data = .dict esNS epNS)
    (xBS : StrKeys esNS)
    (xCS : nsFind esNS "__eq__" = some (.ref fA))
    (xDS : nsFind esNS "__ne__" = none)
    (base : Heap) (kb : K.In base) (gb : base.Ns mainGlobals mg) (s₁ : Shared) (H : Hp) (a : Addr) (ns : List Int) (e0 : Env0 P w K mg base callerA [] s₁ H) (hS : SqL K H a (ns.map V.int)) (hl : ns.length ≤ 63) :
    codeAny (model P w) callerA (.call (.ref fa) ⟨[.ref a], []⟩) (CR CX0 [] P w H s₁ (fun v _ => v = .bl true) E0) s₁ := by
  have e := hfa.symm.trans (PySem.W.mg_of X G a9)
  cases e
  have T : Blt mg := ⟨PySem.W.mg_none_of X G z0, PySem.W.mg_none_of X G z1, PySem.W.mg_none_of X G z2, PySem.W.mg_none_of X G z3, PySem.W.mg_none_of X G z4, PySem.W.mg_none_of X G z5, PySem.W.mg_none_of X G z6, PySem.W.mg_none_of X G z7, PySem.W.mg_none_of X G z8, PySem.W.mg_none_of X G z9, PySem.W.mg_none_of X G z10, PySem.W.mg_none_of X G z11⟩
  have F0 := fun_mk (st := s_is_short_word) l0 c0 k0
  have b0 := F0.binds (ps := ["value"]) fun _ _ _ _ _ _ us hl => match us, hl with | [_], _ => rfl
  have A0 : At K mg "is_short_word" f0 _ ["value"] := ⟨PySem.W.mg_of X G a0, k0, b0⟩
  have F1 := fun_mk (st := s_copied) l1 c1 k1
  have b1 := F1.binds (ps := ["value"]) fun _ _ _ _ _ _ us hl => match us, hl with | [_], _ => rfl
  have A1 : At K mg "copied" f1 _ ["value"] := ⟨PySem.W.mg_of X G a1, k1, b1⟩
  have F2 := fun_mk (st := s_is_letter) l2 c2 k2
  have b2 := F2.binds (ps := ["value"]) fun _ _ _ _ _ _ us hl => match us, hl with | [_], _ => rfl
  have A2 : At K mg "is_letter" f2 _ ["value"] := ⟨PySem.W.mg_of X G a2, k2, b2⟩
  have F3 := fun_mk (st := s__law_pen) l3 c3 k3
  have b3 := F3.binds (ps := ["_law_script"]) fun _ _ _ _ _ _ us hl => match us, hl with | [_], _ => rfl
  have A3 : At K mg "_law_pen" f3 _ ["_law_script"] := ⟨PySem.W.mg_of X G a3, k3, b3⟩
  have F4 := fun_mk (st := s__law_draw) l4 c4 k4
  have b4 := F4.binds (ps := ["_law_pen_here", "_law_many"]) fun _ _ _ _ _ _ us hl => match us, hl with | [_, _], _ => rfl
  have A4 : At K mg "_law_draw" f4 _ ["_law_pen_here", "_law_many"] := ⟨PySem.W.mg_of X G a4, k4, b4⟩
  have F5 := fun_mk (st := s__law_pick) l5 c5 k5
  have b5 := F5.binds (ps := ["_law_pen_here", "_law_options"]) fun _ _ _ _ _ _ us hl => match us, hl with | [_, _], _ => rfl
  have A5 : At K mg "_law_pick" f5 _ ["_law_pen_here", "_law_options"] := ⟨PySem.W.mg_of X G a5, k5, b5⟩
  have F6 := fun_mk (st := s__law_letters) l6 c6 k6
  have b6 := F6.binds (ps := ["_law_pen_here", "_law_many"]) fun _ _ _ _ _ _ us hl => match us, hl with | [_, _], _ => rfl
  have A6 : At K mg "_law_letters" f6 _ ["_law_pen_here", "_law_many"] := ⟨PySem.W.mg_of X G a6, k6, b6⟩
  have Fm := fun_mk (st := s_is_due) lm cm km
  have bm := Fm.binds (ps := ["letters", "value", "has_letter"]) fun _ _ _ _ _ _ us hl => match us, hl with | [_, _, _], _ => rfl
  have Am : At K mg "is_due" fm _ ["letters", "value", "has_letter"] := ⟨PySem.W.mg_of X G am, km, bm⟩
  have Fo := fun_mk (st := s_one_form) lo co ko
  have bo := Fo.binds (ps := ["letters", "kind", "first", "second"]) fun _ _ _ _ _ _ us hl => match us, hl with | [_, _, _, _], _ => rfl
  have Ao : At K mg "one_form" fo _ ["letters", "kind", "first", "second"] := ⟨PySem.W.mg_of X G ao, ko, bo⟩
  have Fp := fun_mk (st := s__law_normal) lp cp kp
  have bp := Fp.binds (ps := ["_law_letters_here", "_law_triple_here"]) fun _ _ _ _ _ _ us hl => match us, hl with | [_, _], _ => rfl
  have Ap : At K mg "_law_normal" fp _ ["_law_letters_here", "_law_triple_here"] := ⟨PySem.W.mg_of X G ap, kp, bp⟩
  have Fq := fun_mk (st := s__law_triple) lq cq kq
  have bq := Fq.binds (ps := ["_law_sentence_here"]) fun _ _ _ _ _ _ us hl => match us, hl with | [_], _ => rfl
  have Aq : At K mg "_law_triple" fq _ ["_law_sentence_here"] := ⟨PySem.W.mg_of X G aq, kq, bq⟩
  have Fr := fun_mk (st := s__law_drawn) lr cr kr
  have br := Fr.binds (ps := ["_law_pen_here", "_law_letters_here"]) fun _ _ _ _ _ _ us hl => match us, hl with | [_, _], _ => rfl
  have Ar : At K mg "_law_drawn" fr _ ["_law_pen_here", "_law_letters_here"] := ⟨PySem.W.mg_of X G ar, kr, br⟩
  have Fd1 := fun_mk (st := s__law_sentence) ld1 cd1 kd1
  have bd1 := Fd1.binds (ps := ["_law_letters_here", "_law_triple_here"]) fun _ _ _ _ _ _ us hl => match us, hl with | [_, _], _ => rfl
  have Ad1 : At K mg "_law_sentence" fd1 _ ["_law_letters_here", "_law_triple_here"] := ⟨PySem.W.mg_of X G ad1, kd1, bd1⟩
  have Fd2 := fun_mk (st := s__law_form) ld2 cd2 kd2
  have bd2 := Fd2.binds (ps := ["_law_letters_here", "_law_rules"]) fun _ _ _ _ _ _ us hl => match us, hl with | [_, _], _ => rfl
  have Ad2 : At K mg "_law_form" fd2 _ ["_law_letters_here", "_law_rules"] := ⟨PySem.W.mg_of X G ad2, kd2, bd2⟩
  have Fd3 := fun_mk (st := s__law_pair_told) ld3 cd3 kd3
  have bd3 := Fd3.binds (ps := ["_law_closing", "_law_x", "_law_y"]) fun _ _ _ _ _ _ us hl => match us, hl with | [_, _, _], _ => rfl
  have Ad3 : At K mg "_law_pair_told" fd3 _ ["_law_closing", "_law_x", "_law_y"] := ⟨PySem.W.mg_of X G ad3, kd3, bd3⟩
  have Fd4 := fun_mk (st := s__law_still_told) ld4 cd4 kd4
  have bd4 := Fd4.binds (ps := ["_law_closing", "_law_y"]) fun _ _ _ _ _ _ us hl => match us, hl with | [_, _], _ => rfl
  have Ad4 : At K mg "_law_still_told" fd4 _ ["_law_closing", "_law_y"] := ⟨PySem.W.mg_of X G ad4, kd4, bd4⟩
  have Fd5 := fun_mk (st := s__law_answers_right) ld5 cd5 kd5
  have bd5 := Fd5.binds (ps := ["_law_letters_here", "_law_rules", "_law_closing"]) fun _ _ _ _ _ _ us hl => match us, hl with | [_, _, _], _ => rfl
  have Ad5 : At K mg "_law_answers_right" fd5 _ ["_law_letters_here", "_law_rules", "_law_closing"] := ⟨PySem.W.mg_of X G ad5, kd5, bd5⟩
  have Fw1 := fun_mk (st := s_sides_of) lw1 cw1 kw1
  have bw1 := Fw1.binds (ps := ["kind", "x", "y"]) fun _ _ _ _ _ _ us hl => match us, hl with | [_, _, _], _ => rfl
  have Aw1 : At K mg "sides_of" fw1 _ ["kind", "x", "y"] := ⟨PySem.W.mg_of X G aw1, kw1, bw1⟩
  have Fw2 := fun_mk (st := s_told_behind) lw2 cw2 kw2
  have bw2 := Fw2.binds (ps := ["begun", "told"]) fun _ _ _ _ _ _ us hl => match us, hl with | [_, _], _ => rfl
  have Aw2 : At K mg "told_behind" fw2 _ ["begun", "told"] := ⟨PySem.W.mg_of X G aw2, kw2, bw2⟩
  have Fw3 := fun_mk (st := s_require_few) lw3 cw3 kw3
  have bw3 := Fw3.binds (ps := ["many"]) fun _ _ _ _ _ _ us hl => match us, hl with | [_], _ => rfl
  have Aw3 : At K mg "require_few" fw3 _ ["many"] := ⟨PySem.W.mg_of X G aw3, kw3, bw3⟩
  have Fw4 := fun_mk (st := s_close) lw4 cw4 kw4
  have bw4 := Fw4.binds (ps := ["letters", "told"]) fun _ _ _ _ _ _ us hl => match us, hl with | [_, _], _ => rfl
  have Aw4 : At K mg "close" fw4 _ ["letters", "told"] := ⟨PySem.W.mg_of X G aw4, kw4, bw4⟩
  have Fw5 := fun_mk (st := s_completed) lw5 cw5 kw5
  have bw5 := Fw5.binds (ps := ["begun"]) fun _ _ _ _ _ _ us hl => match us, hl with | [_], _ => rfl
  have Aw5 : At K mg "completed" fw5 _ ["begun"] := ⟨PySem.W.mg_of X G aw5, kw5, bw5⟩
  have F9 := fun_mk (st := s_law) l9 c9 k9
  have FB := fun_mk (st := s_BadLetters_init) lB cB kB
  have bB := FB.binds (ps := ["self", "index"]) fun _ _ _ _ _ _ us hl => match us, hl with | [_, _], _ => rfl
  have OB : OexC K CB := ⟨⟨_, _, _, _, _, _, _, _, _, _, _, _, _, _, _, xB, vB⟩, saB, eCB, tCB, kcB⟩
  have EB : ErrAt K mg "BadLetters" CB fB _ _ := ⟨PySem.W.mg_of X G aB, OB, iB, tfB, bB, ⟨gaB, ggB, eCB, hCB⟩⟩
  have FM := fun_mk (st := s_TooMany_init) lM cM kM
  have bM := FM.binds (ps := ["self", "what", "many", "most"]) fun _ _ _ _ _ _ us hl => match us, hl with | [_, _, _, _], _ => rfl
  have OM : OexC K CM := ⟨⟨_, _, _, _, _, _, _, _, _, _, _, _, _, _, _, xM, vM⟩, saM, eCM, tCM, kcM⟩
  have EM : ErrAt K mg "TooMany" CM fM _ _ := ⟨PySem.W.mg_of X G aM, OM, iM, tfM, bM, ⟨gaM, ggM, eCM, hCM⟩⟩
  have FT := fun_mk (st := s_BadLetter_init) lT cT kT
  have bT := FT.binds (ps := ["self", "index"]) fun _ _ _ _ _ _ us hl => match us, hl with | [_, _], _ => rfl
  have OT : OexC K CT := ⟨⟨_, _, _, _, _, _, _, _, _, _, _, _, _, _, _, xT, vT⟩, saT, eCT, tCT, kcT⟩
  have ET : ErrAt K mg "BadLetter" CT fT _ _ := ⟨PySem.W.mg_of X G aT, OT, iT, tfT, bT, ⟨gaT, ggT, eCT, hCT⟩⟩
  have FV := fun_mk (st := s_NotLive___init__) lV cV kV
  have bV := FV.binds (ps := ["self", "index"]) fun _ _ _ _ _ _ us hl => match us, hl with | [_, _], _ => rfl
  have OV : OexC K CV := ⟨⟨_, _, _, _, _, _, _, _, _, _, _, _, _, _, _, xV, vV⟩, saV, eCV, tCV, kcV⟩
  have EV : ErrAt K mg "NotLive" CV fV _ _ := ⟨PySem.W.mg_of X G aV, OV, iV, tfV, bV, ⟨gaV, ggV, eCV, hCV⟩⟩
  have YV : XkC K CV := ⟨icV, haV, hn, ht, hmV⟩
  have eeV := exm_of eCV icV tCV esV
  have hCL : Cls K CL := ⟨pgL, hdL, poL, saL⟩
  have YL : XkC K CL := ⟨icL, haL, hn, ht, hmL⟩
  have FL := fun_mk (st := s_Letters_init) lL cL kL
  have bL := FL.binds (ps := ["self", "words"]) fun _ _ _ _ _ _ us hl => match us, hl with | [_, _], _ => rfl
  have FH := fun_mk (st := s_Has) lH cH kH
  have bH := FH.binds (ps := ["self", "x"]) fun _ _ _ _ _ _ us hl => match us, hl with | [_, _], _ => rfl
  have FR := fun_mk (st := s_Rank) lR cR kR
  have bR := FR.binds (ps := ["self", "x"]) fun _ _ _ _ _ _ us hl => match us, hl with | [_, _], _ => rfl
  have FQ := fun_mk (st := s_Eq) lQ cQ kQ
  have bQ := FQ.binds (ps := ["self", "other"]) fun _ _ _ _ _ _ us hl => match us, hl with | [_, _], _ => rfl
  have hCS : Cls K CS := ⟨pgS, hdS, poS, saS⟩
  have YS : XkC K CS := ⟨icS, haS, hn, ht, hmS⟩
  have FS : FunD K "__init__" "Sentence.__init__" (defArgs s_Sen_init) (defBody s_Sen_init) (defScope s_Sen_init) [V.non] [] fS _ := ⟨⟨_, _, _, _, _, _, _, _, _, _, rfl, lS, cS, .inr ⟨by simp, TS, oTS, [.none], nTS, rfl, dTS, dUS, .cons rfl .nil⟩, .inl rfl⟩, kS⟩
  have FA := fun_mk (st := s_SEq) lA cA kA
  have bA := FA.binds (ps := ["self", "other"]) fun _ _ _ _ _ _ us hl => match us, hl with | [_, _], _ => rfl
  have hCC : Cls K CC := ⟨pgC, hdC, poC, saC⟩
  have Fy0 := fun_mk (st := s_Completion___init__) ly0 cy0 ky0
  have by0 := Fy0.binds (ps := ["self", "letters"]) fun _ _ _ _ _ _ us hl => match us, hl with | [_, _], _ => rfl
  have Fy1 := fun_mk (st := s_Completion_copy) ly1 cy1 ky1
  have by1 := Fy1.binds (ps := ["self"]) fun _ _ _ _ _ _ us hl => match us, hl with | [_], _ => rfl
  have Fy2 := fun_mk (st := s_Completion_take) ly2 cy2 ky2
  have by2 := Fy2.binds (ps := ["self", "sentence"]) fun _ _ _ _ _ _ us hl => match us, hl with | [_, _], _ => rfl
  have Fy3 := fun_mk (st := s_Completion_equation_of) ly3 cy3 ky3
  have by3 := Fy3.binds (ps := ["self", "row"]) fun _ _ _ _ _ _ us hl => match us, hl with | [_, _], _ => rfl
  have Fy4 := fun_mk (st := s_Completion_consider) ly4 cy4 ky4
  have by4 := Fy4.binds (ps := ["self", "beginning", "left", "right", "steps"]) fun _ _ _ _ _ _ us hl => match us, hl with | [_, _, _, _, _], _ => rfl
  have Fy5 := fun_mk (st := s_Completion_offer) ly5 cy5 ky5
  have by5 := Fy5.binds (ps := ["self", "beginning", "first", "last", "steps"]) fun _ _ _ _ _ _ us hl => match us, hl with | [_, _, _, _, _], _ => rfl
  have Fy6 := fun_mk (st := s_Completion_adopt) ly6 cy6 ky6
  have by6 := Fy6.binds (ps := ["self", "beginning", "left", "right", "steps"]) fun _ _ _ _ _ _ us hl => match us, hl with | [_, _, _, _, _], _ => rfl
  have Fy7 := fun_mk (st := s_Completion_row_for) ly7 cy7 ky7
  have by7 := Fy7.binds (ps := ["self", "beginning", "left", "right", "steps"]) fun _ _ _ _ _ _ us hl => match us, hl with | [_, _, _, _, _], _ => rfl
  have Fy8 := fun_mk (st := s_Completion_retire) ly8 cy8 ky8
  have by8 := Fy8.binds (ps := ["self", "letter"]) fun _ _ _ _ _ _ us hl => match us, hl with | [_, _], _ => rfl
  have Fy9 := fun_mk (st := s_Completion_is_least_of) ly9 cy9 ky9
  have by9 := Fy9.binds (ps := ["self", "letter", "other"]) fun _ _ _ _ _ _ us hl => match us, hl with | [_, _, _], _ => rfl
  have Fya := fun_mk (st := s_Completion_taken_back) lya cya kya
  have bya := Fya.binds (ps := ["self", "rules", "places"]) fun _ _ _ _ _ _ us hl => match us, hl with | [_, _, _], _ => rfl
  have Fyb := fun_mk (st := s_Completion_overlap_pair) lyb cyb kyb
  have byb := Fyb.binds (ps := ["self", "x", "y"]) fun _ _ _ _ _ _ us hl => match us, hl with | [_, _, _], _ => rfl
  have Fyc := fun_mk (st := s_Completion_overlap) lyc cyc kyc
  have byc := Fyc.binds (ps := ["self", "x", "y", "z", "one", "other"]) fun _ _ _ _ _ _ us hl => match us, hl with | [_, _, _, _, _, _], _ => rfl
  have Fyd := fun_mk (st := s_Completion_overlap_still) lyd cyd kyd
  have byd := Fyd.binds (ps := ["self", "letter", "other"]) fun _ _ _ _ _ _ us hl => match us, hl with | [_, _, _], _ => rfl
  have Fye := fun_mk (st := s_Completion_is_struck) lye cye kye
  have bye := Fye.binds (ps := ["self", "beginning", "word"]) fun _ _ _ _ _ _ us hl => match us, hl with | [_, _, _], _ => rfl
  have Fyf := fun_mk (st := s_Completion_reduced) lyf cyf kyf
  have byf := Fyf.binds (ps := ["self", "beginning", "word"]) fun _ _ _ _ _ _ us hl => match us, hl with | [_, _, _], _ => rfl
  have Fyg := fun_mk (st := s_Completion_rule_at) lyg cyg kyg
  have byg := Fyg.binds (ps := ["self", "beginning", "word", "place"]) fun _ _ _ _ _ _ us hl => match us, hl with | [_, _, _, _], _ => rfl
  have hCG : Cls K CG := ⟨pgG, hdG, poG, saG⟩
  have Fv0 := fun_mk (st := s_Closing___init__) lv0 cv0 kv0
  have bv0 := Fv0.binds (ps := ["self", "begun"]) fun _ _ _ _ _ _ us hl => match us, hl with | [_, _], _ => rfl
  have Fv1 := fun_mk (st := s_Closing_lone_rule) lv1 cv1 kv1
  have bv1 := Fv1.binds (ps := ["self", "letter"]) fun _ _ _ _ _ _ us hl => match us, hl with | [_, _], _ => rfl
  have Fv2 := fun_mk (st := s_Closing_pair_rule) lv2 cv2 kv2
  have bv2 := Fv2.binds (ps := ["self", "x", "y"]) fun _ _ _ _ _ _ us hl => match us, hl with | [_, _, _], _ => rfl
  have Fv3 := fun_mk (st := s_Closing_still_rule) lv3 cv3 kv3
  have bv3 := Fv3.binds (ps := ["self", "letter"]) fun _ _ _ _ _ _ us hl => match us, hl with | [_, _], _ => rfl
  have Fv4 := fun_mk (st := s_Closing_kind_of) lv4 cv4 kv4
  have bv4 := Fv4.binds (ps := ["self", "row"]) fun _ _ _ _ _ _ us hl => match us, hl with | [_, _], _ => rfl
  have Fv5 := fun_mk (st := s_Closing_least) lv5 cv5 kv5
  have bv5 := Fv5.binds (ps := ["self", "x"]) fun _ _ _ _ _ _ us hl => match us, hl with | [_, _], _ => rfl
  have Fv7 := fun_mk (st := s_Closing_pair) lv7 cv7 kv7
  have bv7 := Fv7.binds (ps := ["self", "x", "y"]) fun _ _ _ _ _ _ us hl => match us, hl with | [_, _, _], _ => rfl
  have Fv8 := fun_mk (st := s_Closing_is_still) lv8 cv8 kv8
  have bv8 := Fv8.binds (ps := ["self", "y"]) fun _ _ _ _ _ _ us hl => match us, hl with | [_, _], _ => rfl
  have Fv9 := fun_mk (st := s_Closing_form) lv9 cv9 kv9
  have bv9 := Fv9.binds (ps := ["self"]) fun _ _ _ _ _ _ us hl => match us, hl with | [_], _ => rfl
  have Fv6 := fun_mk (st := s_Closing_require_live) lv6 cv6 kv6
  subst vL
  have hqL : ocQ = .type "function" := by
    have h : (K.lookup fQ).map (·.cls) = some (.type "function") := beq_iff_eq.mp isQ
    rw [lQ] at h
    exact Option.some.inj h
  have nEL : OwnNe K CL fQ := ⟨_, _, NL, _, _, _, _, _, _, _, _, _, _, _, _, _, oNL, esNL, epNL, _, xL, xNL, xAL, xBL, xCL, xDL, lQ, hqL⟩
  subst vS
  have hqS : ocA = .type "function" := by
    have h : (K.lookup fA).map (·.cls) = some (.type "function") := beq_iff_eq.mp isA
    rw [lA] at h
    exact Option.some.inj h
  have nES : OwnNe K CS fA := ⟨_, _, NS, _, _, _, _, _, _, _, _, _, _, _, _, _, oNS, esNS, epNS, _, xS, xNS, xAS, xBS, xCS, xDS, lA, hqS⟩
  have nTu := PySem.W.mg_none_of X G z10
  have nR := PySem.W.mg_none_of X G z11
  have nD := PySem.W.mg_none_of X G z12
  have nB := PySem.W.mg_none_of X G z13
  have nSo := PySem.W.mg_none_of X G z16
  have C : Gv K mg := ⟨⟨_, PySem.W.mg_of X G g_gS, _, rfl⟩, ⟨_, PySem.W.mg_of X G g_gW, _, rfl⟩, ⟨_, PySem.W.mg_of X G g_gM, _, rfl⟩, ⟨T_gB, _, PySem.W.mg_of X G g_gB, rfl, fun H => .inr ⟨o_gB, j_gB, n_gB, gl_gB, gc_gB, gd_gB, gs_gB, gv_gB⟩⟩, ⟨_, PySem.W.mg_of X G g_gL, _, rfl⟩⟩
  have Gk : GvK K mg := ⟨⟨T_gK, _, PySem.W.mg_of X G g_gK, rfl, fun H => .inr ⟨o_gK, j_gK, n_gK, gl_gK, gc_gK, gd_gK, gs_gK, gv_gK⟩⟩, ⟨T_gN, _, PySem.W.mg_of X G g_gN, rfl, fun H => .inr ⟨o_gN, j_gN, n_gN, gl_gN, gc_gN, gd_gN, gs_gN, gv_gN⟩⟩⟩
  have hSn : SnC K CS := ⟨hCS, nS0, nS1, nS2, nS3⟩
  have hCm : CmC K CC := ⟨hCC, nC0, nC1, nC2, nC3, nC4, nC5, nC6, nC7, nC8, nC9, nC10⟩
  have hCg : ClC K CG := ⟨hCG, nG0, nG1, nG2, nG3, nG4, nG5, nG6⟩
  have mL := PySem.W.mg_of X G aL
  have mS := PySem.W.mg_of X G aS
  have mC := PySem.W.mg_of X G aC
  have mG := PySem.W.mg_of X G aG
  have EZ : Err0 K mg "BadKind" CZ := ⟨PySem.W.mg_of X G aZ, exZ, kcZ, eCZ, tCZ⟩
  have EN : Err0 K mg "SaysNothing" CN := ⟨PySem.W.mg_of X G aN, exN, kcN, eCN, tCN⟩
  have G0 := ok_short (P := P) (w := w) (base := base) F0 T C
  have G1 := ok_copied (P := P) (w := w) (base := base) F1 T nD
  have G2 := ok_is_letter (P := P) (w := w) (base := base) F2 T C G0 A0
  have G3 := ok_pen (P := P) (w := w) (base := base) F3 T
  have G4 := ok_draw (P := P) (w := w) (base := base) F4 T
  have G5 := ok_pick (P := P) (w := w) (base := base) F5 T G4 A4
  have G6 := ok_lettersD (P := P) (w := w) (base := base) F6 T G4 A4 G5 A5
  have GB := ok_badInit (P := P) (w := w) (base := base) FB OB nB0 G1 A1
  have GM := ok_manyInit (P := P) (w := w) (base := base) FM OM nM0 nM1 nM2 G1 A1
  have GT := ok_initBadLetter (P := P) (w := w) (base := base) FT OT nT0 G1 A1
  have GV := ok_initNotLive (P := P) (w := w) (base := base) FV OV nV0 G1 A1
  have GL := ok_letInit (P := P) (w := w) (base := base) FL T C hCL nL0 G2 A2 GB EB GM EM
  have GH := ok_has (P := P) (w := w) (base := base) (mg := mg) FH hCL nL0
  have GR := ok_rank (P := P) (w := w) (base := base) FR T hCL nL0 GT ET
  have GQ := ok_eq (P := P) (w := w) (base := base) FQ T hCL nL0 YL mL
  have ML : Mk K CL fL := ⟨mkL, iL, isL, kcL⟩
  have MS : Mk K CS fS := ⟨mkS, iS, isS, kcS⟩
  have MC : Mk K CC fy0 := ⟨mkC, iy0, isy0, kcC⟩
  have MG : Mk K CG fv0 := ⟨mkG, iv0, isv0, kcG⟩
  obtain ⟨⟨uS, ruS, bS0⟩, bS⟩ := sen_binds FS
  have Gm := ok_isDue (P := P) (w := w) (base := base) (mg := mg) Fm GH bH iH isH
  have Go' := ok_form (P := P) (w := w) (base := base) (mg := mg) Fo hCL ⟨iR, isR, kR⟩ bR GR
  have GS := ok_senInit (P := P) (w := w) (base := base) FS hSn Gk GH bH iH isH Gm Am Go' Ao EZ EN GT ET
  have GA := ok_seq (P := P) (w := w) (base := base) FA T hSn YS mS GQ bQ iQ isQ
  have Gp := ok_normal (P := P) (w := w) (base := base) (mg := mg) Fp
  have Gq := ok_triple (P := P) (w := w) (base := base) (mg := mg) (CL := CL) Fq hSn
  have Gr := ok_drawn (P := P) (w := w) (base := base) Fr T G4 A4 G5 A5
  have Gd1 := ok_sent (P := P) (w := w) (base := base) Fd1 ML mL bL GL MS mS bS bS0 ruS GS
  have Gd2 := ok_lform (P := P) (w := w) (base := base) (mg := mg) Fd2
  have Gw1 := ok_sides2 (P := P) (w := w) (base := base) Fw1 Gk
  have Gy0 := ok_cmI (P := P) (w := w) (base := base) Fy0 T hCm hCL nL0
  have Gye := ok_firm (P := P) (w := w) (base := base) Fye T hCm
  have Gyg := ok_ruleAt (P := P) (w := w) (base := base) Fyg T hCm
  have Gy9 := ok_leastOf (P := P) (w := w) (base := base) Fy9 T hCm
  have Gy3 := ok_eqOf (P := P) (w := w) (base := base) (CL := CL) Fy3 T hCm hSn Gw1 Aw1
  have Gyf := ok_reduced (P := P) (w := w) (base := base) Fyf T hCm Gyg byg ⟨iyg, isyg, kyg⟩
  have Gy5 := ok_offer (P := P) (w := w) (base := base) Fy5 T hCm Gyf byf ⟨iyf, isyf, kyf⟩
  have Gyc := ok_overlap (P := P) (w := w) (base := base) Fyc T
  have Gyd := ok_overStill (P := P) (w := w) (base := base) Fyd T hCm
  have Gyb := ok_overPair (P := P) (w := w) (base := base) Fyb T hCm Gyc byc ⟨iyc, isyc, kyc⟩ Gyd byd ⟨iyd, isyd, kyd⟩
  have Gy7 := ok_rowFor (P := P) (w := w) (base := base) Fy7 T
  have Gya := ok_taken (P := P) (w := w) (base := base) Fya T
  have Gy8 := ok_retire (P := P) (w := w) (base := base) Fy8 T hCm nSo Gya bya ⟨iya, isya, kya⟩ Gy9 by9 ⟨iy9, isy9, ky9⟩
  have Gy6 := ok_adopt (P := P) (w := w) (base := base) Fy6 T hCm Gy7 by7 ⟨iy7, isy7, ky7⟩ Gyb byb ⟨iyb, isyb, kyb⟩ Gyd byd ⟨iyd, isyd, kyd⟩ Gy8 by8 ⟨iy8, isy8, ky8⟩
  have Gy4 := ok_consider (P := P) (w := w) (base := base) (mg := mg) Fy4 hCm Gye bye ⟨iye, isye, kye⟩ Gy6 by6 ⟨iy6, isy6, ky6⟩ Gy5 by5 ⟨iy5, isy5, ky5⟩
  have Gy2 := ok_take (P := P) (w := w) (base := base) Fy2 T hCm Gy3 by3 ⟨iy3, isy3, ky3⟩ Gy4 by4 ⟨⟨iy4, isy4, ky4⟩, gfc, tkc, by decide, fiy4⟩
  have Gy1 := ok_copyC (P := P) (w := w) (base := base) (CS := CS) Fy1 T hCm MC mC Gy0 by0
  have Gw2 := ok_toldB (P := P) (w := w) (base := base) Fw2 T hCm Gy1 by1 ⟨iy1, isy1, ky1⟩ Gy2 by2 ⟨iy2, isy2, ky2⟩
  have Gw3 := ok_few (P := P) (w := w) (base := base) Fw3 ⟨_, PySem.W.mg_of X G g_gX, _, rfl⟩
  have Gw5 := ok_compl (P := P) (w := w) (base := base) (CL := CL) (CS := CS) Fw5 T hCm
  have Gv0 := ok_clI (P := P) (w := w) (base := base) Fv0 T hCm hCg hCL nL0 Gw5 Aw5
  have Gw4 := ok_close (P := P) (w := w) (base := base) Fw4 T hCm hCg hSn YS mS Gw3 Aw3 GQ bQ nEL Gw2 Aw2 MC mC Gy0 by0 MG mG Gv0 bv0
  have Gv1 := ok_loneR (P := P) (w := w) (base := base) (mg := mg) (CL := CL) (CS := CS) Fv1 hCm hCg
  have Gv2 := ok_pairR (P := P) (w := w) (base := base) (mg := mg) (CL := CL) (CS := CS) Fv2 hCm hCg
  have Gv3 := ok_stillR (P := P) (w := w) (base := base) (mg := mg) (CL := CL) (CS := CS) Fv3 hCm hCg
  have Gv4 := ok_kindOf (P := P) (w := w) (base := base) (mg := mg) (CL := CL) (CC := CC) Fv4 hSn hCg
  have Gv5 := ok_least (P := P) (w := w) (base := base) (mg := mg) Fv5 hSn hCg Gv1 bv1 ⟨iv1, isv1, kv1⟩ GH bH iH isH
  have Gv6 := ok_reqL (P := P) (w := w) (base := base) (CS := CS) (CC := CC) Fv6 T hCg GV EV GH bH iH isH
  have Gv7 := ok_pair (P := P) (w := w) (base := base) (mg := mg) Fv7 hCg Gv6 ⟨iv6, isv6, kv6⟩ Gv2 bv2 ⟨iv2, isv2, kv2⟩ Gv4 bv4 ⟨iv4, isv4, kv4⟩
  have Gv8 := ok_isStill (P := P) (w := w) (base := base) (mg := mg) Fv8 hCg Gv6 ⟨iv6, isv6, kv6⟩ Gv3 bv3 ⟨iv3, isv3, kv3⟩
  have Gv9 := ok_formC (P := P) (w := w) (base := base) (CL := CL) (CS := CS) Fv9 T hCm hCg
  have Gd3 := ok_ptold (P := P) (w := w) (base := base) (mg := mg) Fd3 hCg Gv7 bv7 ⟨iv7, isv7, kv7⟩ EV nV0 eeV
  have Gd4 := ok_stold (P := P) (w := w) (base := base) (mg := mg) Fd4 hCg Gv8 bv8 ⟨iv8, isv8, kv8⟩ EV nV0 eeV
  have Gd5 := ok_ansR (P := P) (w := w) (base := base) Fd5 T nTu nR hCg Gq Aq Gd2 Ad2 Gd3 Ad3 Gd4 Ad4 Gv9 bv9 ⟨iv9, isv9, kv9⟩ Gv5 bv5 ⟨iv5, isv5, kv5⟩
  have GW := ok_law (P := P) (w := w) (base := base) F9 T nTu nD hCg hSn hCL G3 A3 G4 A4 G6 A6 Gr Ar Gp Ap Gd1 Ad1 Gw4 Aw4 Gd5 Ad5 ML mL bL GL Gv9 bv9 ⟨iv9, isv9, kv9⟩ Gv5 bv5 ⟨iv5, isv5, kv5⟩ Gv8 bv8 ⟨iv8, isv8, kv8⟩ GA bA nES GQ bQ nEL
  exact GW.goes callerA [] s₁ H ⟨[.ref a], []⟩ [.ref a] [.ref a] _ _ rfl ⟨rfl, by decide, by decide⟩ e0 (.of_eq rfl) (.cons rfl .nil) ⟨a, ns, rfl, hS, hl, fun _ => rfl⟩
theorem walk {l : PySem.W.OpenLaw} {q : Program} {loose : List Str} {XP : (Str → Option Value) → Heap → Prop} {YP : World → Heap → Prop} {d : DefRec} {K : Params → PySem.W.Frag} (hn : l.most = some 63) (hdf : d.params.defaults = [])
    (hY : ∀ (w : World) (h : Heap), YP w h → (K w.params).In h)
    (F : ∀ (w : World) (mg : Str → Option Value) (fa : Addr) (h : Heap), (K w.params).In h → h.Ns mainGlobals mg → mg d.name = some (.ref fa) → ∀ (base : Heap), (K w.params).In base → base.Ns mainGlobals mg →
      ∀ (s₁ : Shared) (H : Hp) (a : Addr) (ns : List Int), Env0 l.prog w (K w.params) mg base callerA [] s₁ H → SqL (K w.params) H a (ns.map V.int) → ns.length ≤ 63 →
        codeAny (model l.prog w) callerA (.call (.ref fa) ⟨[.ref a], []⟩) (CR CX0 [] l.prog w H s₁ (fun v _ => v = .bl true) E0) s₁) :
    PySem.W.WalkO q loose XP YP l.row.toRowW d [] (fun f vs => PySem.call f vs) := by
  refine Att.attach_call hn hdf fun w s₀ s₁ mg mb fa o pm cd doc a vs ns G Y ho hd hcd hmg hobj hints hlen hg => ?_
  have KX := hY w _ Y
  exact law_at KX G.T.g G.T.b G.T.builtins G.T.nolimit hg hobj hints (Nat.le_trans hlen (by decide)) fun base H kb gb e0 hS => F w mg fa _ KX G.T.g hmg base kb gb s₁ H a ns e0 hS hlen
end Ask

open PySem PySem.W PyProof.Rows
set_option maxRecDepth 100000
set_option maxHeartbeats 0
set_option maxRecDepth 100000 in
set_option maxHeartbeats 0 in
theorem PySem.Challenge.cw_asksmore_k10_one_sentence_closed_holds : PySem.Challenge.rw_asksmore_k10_one_sentence_closed.Holds := by
  refine headK10 ?_
  k_fill
  refine Ask.walk (l := PySem.Challenge.rw_asksmore_k10_one_sentence_closed) rfl rfl (fun w h Y => PySem.W.kIn_of Y) ?F
  case F =>
    intro w mg fa h KX G hmg
    refine' Ask.all_mk KX G hmg ?hn ?ht ?a0 ?l0 ?c0 ?k0 ?a1 ?l1 ?c1 ?k1 ?a2 ?l2 ?c2 ?k2 ?a3 ?l3 ?c3 ?k3 ?a4 ?l4 ?c4 ?k4 ?a5 ?l5 ?c5 ?k5 ?a6 ?l6 ?c6 ?k6 ?am ?lm ?cm ?km ?ao ?lo ?co ?ko ?ap ?lp ?cp ?kp ?aq ?lq ?cq ?kq ?ar ?lr ?cr ?kr ?ad1 ?ld1 ?cd1 ?kd1 ?ad2 ?ld2 ?cd2 ?kd2 ?ad3 ?ld3 ?cd3 ?kd3 ?ad4 ?ld4 ?cd4 ?kd4 ?ad5 ?ld5 ?cd5 ?kd5 ?aw1 ?lw1 ?cw1 ?kw1 ?aw2 ?lw2 ?cw2 ?kw2 ?aw3 ?lw3 ?cw3 ?kw3 ?aw4 ?lw4 ?cw4 ?kw4 ?aw5 ?lw5 ?cw5 ?kw5 ?a9 ?l9 ?c9 ?k9 ?aB ?iB ?lB ?cB ?kB ?kcB ?saB ?xB ?vB ?gaB ?ggB ?eCB ?tCB ?tfB ?hCB ?nB0 ?aM ?iM ?lM ?cM ?kM ?kcM ?saM ?xM ?vM ?gaM ?ggM ?eCM ?tCM ?tfM ?hCM ?nM0 ?nM1 ?nM2 ?aT ?iT ?lT ?cT ?kT ?kcT ?saT ?xT ?vT ?gaT ?ggT ?eCT ?tCT ?tfT ?hCT ?nT0 ?aV ?iV ?lV ?cV ?kV ?kcV ?saV ?xV ?vV ?gaV ?ggV ?eCV ?tCV ?tfV ?hCV ?nV0 ?icV ?esV ?haV ?hmV ?aZ ?exZ ?kcZ ?eCZ ?tCZ ?aN ?exN ?kcN ?eCN ?tCN ?aL ?kcL ?saL ?pgL ?hdL ?poL ?mkL ?nL0 ?icL ?haL ?hmL ?iL ?lL ?cL ?kL ?isL ?iH ?lH ?cH ?kH ?isH ?iR ?lR ?cR ?kR ?isR ?iQ ?lQ ?cQ ?kQ ?isQ ?aS ?kcS ?saS ?pgS ?hdS ?poS ?mkS ?nS0 ?nS1 ?nS2 ?nS3 ?icS ?haS ?hmS ?iS ?lS ?cS ?kS ?dTS ?dUS ?isS ?tcS ?iA ?lA ?cA ?kA ?isA ?aC ?kcC ?saC ?pgC ?hdC ?poC ?mkC ?nC0 ?nC1 ?nC2 ?nC3 ?nC4 ?nC5 ?nC6 ?nC7 ?nC8 ?nC9 ?nC10 ?iy0 ?ly0 ?cy0 ?ky0 ?isy0 ?iy1 ?ly1 ?cy1 ?ky1 ?isy1 ?iy2 ?ly2 ?cy2 ?ky2 ?isy2 ?iy3 ?ly3 ?cy3 ?ky3 ?isy3 ?iy4 ?ly4 ?cy4 ?ky4 ?isy4 ?iy5 ?ly5 ?cy5 ?ky5 ?isy5 ?iy6 ?ly6 ?cy6 ?ky6 ?isy6 ?iy7 ?ly7 ?cy7 ?ky7 ?isy7 ?iy8 ?ly8 ?cy8 ?ky8 ?isy8 ?iy9 ?ly9 ?cy9 ?ky9 ?isy9 ?iya ?lya ?cya ?kya ?isya ?iyb ?lyb ?cyb ?kyb ?isyb ?iyc ?lyc ?cyc ?kyc ?isyc ?iyd ?lyd ?cyd ?kyd ?isyd ?iye ?lye ?cye ?kye ?isye ?iyf ?lyf ?cyf ?kyf ?isyf ?iyg ?lyg ?cyg ?kyg ?isyg ?gfc ?tkc ?fiy4 ?aG ?kcG ?saG ?pgG ?hdG ?poG ?mkG ?nG0 ?nG1 ?nG2 ?nG3 ?nG4 ?nG5 ?nG6 ?iv0 ?lv0 ?cv0 ?kv0 ?isv0 ?iv1 ?lv1 ?cv1 ?kv1 ?isv1 ?iv2 ?lv2 ?cv2 ?kv2 ?isv2 ?iv3 ?lv3 ?cv3 ?kv3 ?isv3 ?iv4 ?lv4 ?cv4 ?kv4 ?isv4 ?iv5 ?lv5 ?cv5 ?kv5 ?isv5 ?iv7 ?lv7 ?cv7 ?kv7 ?isv7 ?iv8 ?lv8 ?cv8 ?kv8 ?isv8 ?iv9 ?lv9 ?cv9 ?kv9 ?isv9 ?iv6 ?lv6 ?cv6 ?kv6 ?isv6 ?g_gS ?g_gW ?g_gM ?g_gL ?g_gB ?gl_gB ?gc_gB ?gd_gB ?gs_gB ?gv_gB ?g_gX ?g_gK ?gl_gK ?gc_gK ?gd_gK ?gs_gK ?gv_gK ?g_gN ?gl_gN ?gc_gN ?gd_gN ?gs_gN ?gv_gN ?z0 ?z1 ?z2 ?z3 ?z4 ?z5 ?z6 ?z7 ?z8 ?z9 ?z10 ?z11 ?z12 ?z13 ?z14 ?z15 ?z16 ?xL ?vL ?xNL ?xAL ?xBL ?xCL ?xDL ?xS ?vS ?xNS ?xAS ?xBS ?xCS ?xDS
    (case hn => k_is)
    (case ht => k_is)
    (case a0 => k_is)
    (case l0 => k_is)
    (case c0 => k_is)
    (case k0 => k_is)
    (case a1 => k_is)
    (case l1 => k_is)
    (case c1 => k_is)
    (case k1 => k_is)
    (case a2 => k_is)
    (case l2 => k_is)
    (case c2 => k_is)
    (case k2 => k_is)
    (case a3 => k_is)
    (case l3 => k_is)
    (case c3 => k_is)
    (case k3 => k_is)
    (case a4 => k_is)
    (case l4 => k_is)
    (case c4 => k_is)
    (case k4 => k_is)
    (case a5 => k_is)
    (case l5 => k_is)
    (case c5 => k_is)
    (case k5 => k_is)
    (case a6 => k_is)
    (case l6 => k_is)
    (case c6 => k_is)
    (case k6 => k_is)
    (case am => k_is)
    (case lm => k_is)
    (case cm => k_is)
    (case km => k_is)
    (case ao => k_is)
    (case lo => k_is)
    (case co => k_is)
    (case ko => k_is)
    (case ap => k_is)
    (case lp => k_is)
    (case cp => k_is)
    (case kp => k_is)
    (case aq => k_is)
    (case lq => k_is)
    (case cq => k_is)
    (case kq => k_is)
    (case ar => k_is)
    (case lr => k_is)
    (case cr => k_is)
    (case kr => k_is)
    (case ad1 => k_is)
    (case ld1 => k_is)
    (case cd1 => k_is)
    (case kd1 => k_is)
    (case ad2 => k_is)
    (case ld2 => k_is)
    (case cd2 => k_is)
    (case kd2 => k_is)
    (case ad3 => k_is)
    (case ld3 => k_is)
    (case cd3 => k_is)
    (case kd3 => k_is)
    (case ad4 => k_is)
    (case ld4 => k_is)
    (case cd4 => k_is)
    (case kd4 => k_is)
    (case ad5 => k_is)
    (case ld5 => k_is)
    (case cd5 => k_is)
    (case kd5 => k_is)
    (case aw1 => k_is)
    (case lw1 => k_is)
    (case cw1 => k_is)
    (case kw1 => k_is)
    (case aw2 => k_is)
    (case lw2 => k_is)
    (case cw2 => k_is)
    (case kw2 => k_is)
    (case aw3 => k_is)
    (case lw3 => k_is)
    (case cw3 => k_is)
    (case kw3 => k_is)
    (case aw4 => k_is)
    (case lw4 => k_is)
    (case cw4 => k_is)
    (case kw4 => k_is)
    (case aw5 => k_is)
    (case lw5 => k_is)
    (case cw5 => k_is)
    (case kw5 => k_is)
    (case a9 => k_is)
    (case l9 => k_is)
    (case c9 => k_is)
    (case k9 => k_is)
    (case aB => k_is)
    (case iB => k_is)
    (case lB => k_is)
    (case cB => k_is)
    (case kB => k_is)
    (case kcB => k_is)
    (case saB => k_is)
    (case xB => k_is)
    (case vB => rfl)
    (case gaB => k_is)
    (case ggB => k_is)
    (case eCB => k_is)
    (case tCB => k_is)
    (case tfB => k_is)
    (case hCB => k_is)
    (case nB0 => k_is)
    (case aM => k_is)
    (case iM => k_is)
    (case lM => k_is)
    (case cM => k_is)
    (case kM => k_is)
    (case kcM => k_is)
    (case saM => k_is)
    (case xM => k_is)
    (case vM => rfl)
    (case gaM => k_is)
    (case ggM => k_is)
    (case eCM => k_is)
    (case tCM => k_is)
    (case tfM => k_is)
    (case hCM => k_is)
    (case nM0 => k_is)
    (case nM1 => k_is)
    (case nM2 => k_is)
    (case aT => k_is)
    (case iT => k_is)
    (case lT => k_is)
    (case cT => k_is)
    (case kT => k_is)
    (case kcT => k_is)
    (case saT => k_is)
    (case xT => k_is)
    (case vT => rfl)
    (case gaT => k_is)
    (case ggT => k_is)
    (case eCT => k_is)
    (case tCT => k_is)
    (case tfT => k_is)
    (case hCT => k_is)
    (case nT0 => k_is)
    (case aV => k_is)
    (case iV => k_is)
    (case lV => k_is)
    (case cV => k_is)
    (case kV => k_is)
    (case kcV => k_is)
    (case saV => k_is)
    (case xV => k_is)
    (case vV => rfl)
    (case gaV => k_is)
    (case ggV => k_is)
    (case eCV => k_is)
    (case tCV => k_is)
    (case tfV => k_is)
    (case hCV => k_is)
    (case nV0 => k_is)
    (case icV => k_is)
    (case esV => k_is)
    (case haV => k_is)
    (case hmV => k_is)
    (case aZ => k_is)
    (case exZ => k_exc)
    (case kcZ => k_is)
    (case eCZ => k_is)
    (case tCZ => k_is)
    (case aN => k_is)
    (case exN => k_exc)
    (case kcN => k_is)
    (case eCN => k_is)
    (case tCN => k_is)
    (case aL => k_is)
    (case kcL => k_is)
    (case saL => k_is)
    (case pgL => k_is)
    (case hdL => k_is)
    (case poL => k_is)
    (case mkL => k_is)
    (case nL0 => k_is)
    (case icL => k_is)
    (case haL => k_is)
    (case hmL => k_is)
    (case iL => k_is)
    (case lL => k_is)
    (case cL => k_is)
    (case kL => k_is)
    (case isL => k_is)
    (case iH => k_is)
    (case lH => k_is)
    (case cH => k_is)
    (case kH => k_is)
    (case isH => k_is)
    (case iR => k_is)
    (case lR => k_is)
    (case cR => k_is)
    (case kR => k_is)
    (case isR => k_is)
    (case iQ => k_is)
    (case lQ => k_is)
    (case cQ => k_is)
    (case kQ => k_is)
    (case isQ => k_is)
    (case aS => k_is)
    (case kcS => k_is)
    (case saS => k_is)
    (case pgS => k_is)
    (case hdS => k_is)
    (case poS => k_is)
    (case mkS => k_is)
    (case nS0 => k_is)
    (case nS1 => k_is)
    (case nS2 => k_is)
    (case nS3 => k_is)
    (case icS => k_is)
    (case haS => k_is)
    (case hmS => k_is)
    (case iS => k_is)
    (case lS => k_is)
    (case cS => k_is)
    (case kS => k_is)
    (case dTS => k_is)
    (case dUS => rfl)
    (case isS => k_is)
    (case tcS => k_is)
    (case iA => k_is)
    (case lA => k_is)
    (case cA => k_is)
    (case kA => k_is)
    (case isA => k_is)
    (case aC => k_is)
    (case kcC => k_is)
    (case saC => k_is)
    (case pgC => k_is)
    (case hdC => k_is)
    (case poC => k_is)
    (case mkC => k_is)
    (case nC0 => k_is)
    (case nC1 => k_is)
    (case nC2 => k_is)
    (case nC3 => k_is)
    (case nC4 => k_is)
    (case nC5 => k_is)
    (case nC6 => k_is)
    (case nC7 => k_is)
    (case nC8 => k_is)
    (case nC9 => k_is)
    (case nC10 => k_is)
    (case iy0 => k_is)
    (case ly0 => k_is)
    (case cy0 => k_is)
    (case ky0 => k_is)
    (case isy0 => k_is)
    (case iy1 => k_is)
    (case ly1 => k_is)
    (case cy1 => k_is)
    (case ky1 => k_is)
    (case isy1 => k_is)
    (case iy2 => k_is)
    (case ly2 => k_is)
    (case cy2 => k_is)
    (case ky2 => k_is)
    (case isy2 => k_is)
    (case iy3 => k_is)
    (case ly3 => k_is)
    (case cy3 => k_is)
    (case ky3 => k_is)
    (case isy3 => k_is)
    (case iy4 => k_is)
    (case ly4 => k_is)
    (case cy4 => k_is)
    (case ky4 => k_is)
    (case isy4 => k_is)
    (case iy5 => k_is)
    (case ly5 => k_is)
    (case cy5 => k_is)
    (case ky5 => k_is)
    (case isy5 => k_is)
    (case iy6 => k_is)
    (case ly6 => k_is)
    (case cy6 => k_is)
    (case ky6 => k_is)
    (case isy6 => k_is)
    (case iy7 => k_is)
    (case ly7 => k_is)
    (case cy7 => k_is)
    (case ky7 => k_is)
    (case isy7 => k_is)
    (case iy8 => k_is)
    (case ly8 => k_is)
    (case cy8 => k_is)
    (case ky8 => k_is)
    (case isy8 => k_is)
    (case iy9 => k_is)
    (case ly9 => k_is)
    (case cy9 => k_is)
    (case ky9 => k_is)
    (case isy9 => k_is)
    (case iya => k_is)
    (case lya => k_is)
    (case cya => k_is)
    (case kya => k_is)
    (case isya => k_is)
    (case iyb => k_is)
    (case lyb => k_is)
    (case cyb => k_is)
    (case kyb => k_is)
    (case isyb => k_is)
    (case iyc => k_is)
    (case lyc => k_is)
    (case cyc => k_is)
    (case kyc => k_is)
    (case isyc => k_is)
    (case iyd => k_is)
    (case lyd => k_is)
    (case cyd => k_is)
    (case kyd => k_is)
    (case isyd => k_is)
    (case iye => k_is)
    (case lye => k_is)
    (case cye => k_is)
    (case kye => k_is)
    (case isye => k_is)
    (case iyf => k_is)
    (case lyf => k_is)
    (case cyf => k_is)
    (case kyf => k_is)
    (case isyf => k_is)
    (case iyg => k_is)
    (case lyg => k_is)
    (case cyg => k_is)
    (case kyg => k_is)
    (case isyg => k_is)
    (case gfc => k_is)
    (case tkc => k_is)
    (case fiy4 => k_is)
    (case aG => k_is)
    (case kcG => k_is)
    (case saG => k_is)
    (case pgG => k_is)
    (case hdG => k_is)
    (case poG => k_is)
    (case mkG => k_is)
    (case nG0 => k_is)
    (case nG1 => k_is)
    (case nG2 => k_is)
    (case nG3 => k_is)
    (case nG4 => k_is)
    (case nG5 => k_is)
    (case nG6 => k_is)
    (case iv0 => k_is)
    (case lv0 => k_is)
    (case cv0 => k_is)
    (case kv0 => k_is)
    (case isv0 => k_is)
    (case iv1 => k_is)
    (case lv1 => k_is)
    (case cv1 => k_is)
    (case kv1 => k_is)
    (case isv1 => k_is)
    (case iv2 => k_is)
    (case lv2 => k_is)
    (case cv2 => k_is)
    (case kv2 => k_is)
    (case isv2 => k_is)
    (case iv3 => k_is)
    (case lv3 => k_is)
    (case cv3 => k_is)
    (case kv3 => k_is)
    (case isv3 => k_is)
    (case iv4 => k_is)
    (case lv4 => k_is)
    (case cv4 => k_is)
    (case kv4 => k_is)
    (case isv4 => k_is)
    (case iv5 => k_is)
    (case lv5 => k_is)
    (case cv5 => k_is)
    (case kv5 => k_is)
    (case isv5 => k_is)
    (case iv7 => k_is)
    (case lv7 => k_is)
    (case cv7 => k_is)
    (case kv7 => k_is)
    (case isv7 => k_is)
    (case iv8 => k_is)
    (case lv8 => k_is)
    (case cv8 => k_is)
    (case kv8 => k_is)
    (case isv8 => k_is)
    (case iv9 => k_is)
    (case lv9 => k_is)
    (case cv9 => k_is)
    (case kv9 => k_is)
    (case isv9 => k_is)
    (case iv6 => k_is)
    (case lv6 => k_is)
    (case cv6 => k_is)
    (case kv6 => k_is)
    (case isv6 => k_is)
    (case g_gS => k_is)
    (case g_gW => k_is)
    (case g_gM => k_is)
    (case g_gL => k_is)
    (case g_gB => k_is)
    (case gl_gB => k_is)
    (case gc_gB => rfl)
    (case gd_gB => rfl)
    (case gs_gB => decide)
    (case gv_gB => exact .cons ⟨_, rfl⟩ (.cons ⟨_, rfl⟩ (.nil)))
    (case g_gX => k_is)
    (case g_gK => k_is)
    (case gl_gK => k_is)
    (case gc_gK => rfl)
    (case gd_gK => rfl)
    (case gs_gK => decide)
    (case gv_gK => exact .cons ⟨_, rfl⟩ (.cons ⟨_, rfl⟩ (.cons ⟨_, rfl⟩ (.cons ⟨_, rfl⟩ (.cons ⟨_, rfl⟩ (.cons ⟨_, rfl⟩ (.nil)))))))
    (case g_gN => k_is)
    (case gl_gN => k_is)
    (case gc_gN => rfl)
    (case gd_gN => rfl)
    (case gs_gN => decide)
    (case gv_gN => exact .cons ⟨_, rfl⟩ (.cons ⟨_, rfl⟩ (.nil)))
    (case z0 => k_is)
    (case z1 => k_is)
    (case z2 => k_is)
    (case z3 => k_is)
    (case z4 => k_is)
    (case z5 => k_is)
    (case z6 => k_is)
    (case z7 => k_is)
    (case z8 => k_is)
    (case z9 => k_is)
    (case z10 => k_is)
    (case z11 => k_is)
    (case z12 => k_is)
    (case z13 => k_is)
    (case z14 => k_is)
    (case z15 => k_is)
    (case z16 => k_is)
    (case xL => k_is)
    (case vL => rfl)
    (case xNL => k_is)
    (case xAL => rfl)
    (case xBL => exact Ask.strKeys_of rfl)
    (case xCL => rfl)
    (case xDL => rfl)
    (case xS => k_is)
    (case vS => rfl)
    (case xNS => k_is)
    (case xAS => rfl)
    (case xBS => exact Ask.strKeys_of rfl)
    (case xCS => rfl)
    (case xDS => rfl)
