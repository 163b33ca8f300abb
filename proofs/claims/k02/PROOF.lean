import PyProof.Rows.All
import Wide.All
import OpenK.AllK
import Wide.FinOn
import HandS.ForMost
import KE.GoesEnum
import HandS.Walk
import HandS.Exc
import HandS.WordsExc
import PyProof.ReprRoads
import HandS.ExcOwn
import HandS.TryOnly
import HandS.ExcInit
import HandS.IsInst
import HandS.Style
import HandS.Wide
import HandS.Deep
import HandS.ExcField
import HandS.Flow
import PySem.Challenge.RW_asksmore_k02_letters_refused
set_option Elab.async false
set_option linter.all false
set_option maxRecDepth 100000
set_option maxHeartbeats 4000000
/-! enumerate(t), t a tuple (or a list): the layer has it for lists alone -/
namespace PySem
open Sem (wp)
theorem ask_enum_new {v : Value} {o : Obj} {Hh : Heap → Prop} (B : Begins v o Hh) :
    Meets (Builtin.«enumerate.__new__» ⟨[.type "enumerate", v], []⟩) (fun _ R s => Hh s.heap ∧
      R (.ok (.ret (.ref (s.heap.push o).objs.size)))
        { s with heap := (s.heap.push o).push { cls := .type "enumerate", data := .fields #[.none, .bool false, .ref s.heap.objs.size, rawInt 0, .none, .none] } }) :=
  .of_wp fun prog w A R s z => by
    obtain ⟨h0, g0, d0, t0, os0⟩ := s
    obtain ⟨z1, z⟩ := z
    have subE := sub_enumerate
    have begins : ∀ {A' : Around} {E' : Value → Shared → Prop} {Q' : Value → Shared → Prop}, Q' (.ref h0.objs.size) ⟨h0.push o, g0, d0, t0, os0⟩ → wpAny (model prog w) A' (pyIter v) Q' E' ⟨h0, g0, d0, t0, os0⟩ :=
      fun q => B.iter prog w _ _ ⟨h0, g0, d0, t0, os0⟩ _ z1 q
    wp_walk using begins
    refine wpAny_stack_any fun _ => wpAny_pure ?_
    split
    · rename_i cl _ _ _ _ _
      cases (cl == Value.type "enumerate") <;> (wp_walk using begins; exact ⟨_, rfl, z⟩)
    · wp_walk using begins; exact ⟨_, rfl, z⟩
end PySem
namespace Ask
open PySem L2 PySem.Spec PyProof.Rows
/-- enumerate(v): its two new cells -/
theorem enum_made {prog : Program} {w : World} {A : Around} {E : Value → Shared → Prop} {s : Shared} {v : Value} {o : Obj} {Hh : Heap → Prop} {Q : Value → Shared → Prop} (B : Begins v o Hh) (h1 : Hh s.heap)
    (h : ∀ h', IsEnum h' (s.heap.objs.size + 1) s.heap.objs.size 0 .none → h'.get? s.heap.objs.size = some o → (∀ b u, s.heap.get? b = some u → h'.get? b = some u) → Q (.ref (s.heap.objs.size + 1)) { s with heap := h' }) :
    wpAny (model prog w) A (call (.type "enumerate") [v]) Q E s := by
  refine callType_new F.called_enumerate (by decide) (F.typeCall_enumerate_1 _) (F.newCall_enumerate_1 _) (fun obj => F.args_object_init_2 obj _) F.entry_enumerate_new (ask_enum_new B) ⟨h1, ?_⟩
  have z : (s.heap.push o).objs.size = s.heap.objs.size + 1 := Heap.size_push ..
  show _ ∧ _
  rw [z]
  have e : IsEnum ((s.heap.push o).push { cls := .type "enumerate", data := .fields #[.none, .bool false, .ref s.heap.objs.size, rawInt 0, .none, .none] }) (s.heap.objs.size + 1) s.heap.objs.size 0 .none := by
    have q := Heap.get?_push_size (s.heap.push o) (o := { cls := .type "enumerate", data := .fields #[.none, .bool false, .ref s.heap.objs.size, rawInt 0, .none, .none] }) rfl
    rw [z] at q
    exact q
  exact ⟨⟨_, e, rfl⟩, h _ e (Heap.get?_push_of_some _ (Heap.get?_push_size _ B.free)) fun b u q => Heap.get?_push_of_some _ (Heap.get?_push_of_some _ q)⟩
/-- the tuple at a, each item in a new pair with its place -/
def IteT (K : PySem.W.Frag) (a : Addr) : It :=
  ⟨fun i H => ∃ xs, SqT K H a xs ∧ i < xs.length, fun i H v H' => ∃ T x, v = .ref T ∧ H T = none ∧ H' = upd H T (.tup [.int (i : Nat), x]) ∧ ∀ xs, SqT K H a xs → xs[i]? = some x, fun i H => ∃ xs, SqT K H a xs ∧ xs.length = i⟩
theorem turn_enumT {P : Program} {w : World} {K : PySem.W.Frag} {elts : List Expr} {kk : Nat} {tpos : Pos} (a e it : Addr) (hne : e ≠ it) (hat : a ≠ it) :
    Turn P w K (.Tuple elts kk tpos) (IteT K a) [e, it] e (fun i h => (∃ old, IsEnum h e it ((i : Nat) : Int) old) ∧ h.IsTupleIter it a i) where
  mem := by simp
  obj := fun i h st b hb => by
    obtain ⟨⟨old, he⟩, o, ho, _, hd⟩ := st
    rcases (by simpa using hb : b = e ∨ b = it) with z | z
    · rw [z]; exact ⟨_, he, fun v q => nomatch q⟩
    · rw [z]; exact ⟨o, ho, fun v q => by rw [hd] at q; cases q⟩
  keep := fun i h h' st k => ⟨⟨_, k e (by simp) _ st.1.choose_spec⟩, st.2.at fun o q => k it (by simp) o q⟩
  item := by
    intro X hP hw hK hc i pins s σ H E I hf st hg
    subst hP hw hK
    obtain ⟨⟨old, he⟩, hit⟩ := st
    obtain ⟨xs, hq, hi⟩ := hg
    obtain ⟨its, rv, p, hz⟩ := I.tuple hq
    have hl := rv.length
    have hel : e < s.heap.objs.size := Heap.lt_size he
    have hil : it < s.heap.objs.size := by obtain ⟨_, q, _⟩ := hit; exact Heap.lt_size q
    have aE : a ≠ e := fun z => by
      obtain ⟨o, ho, ct, _⟩ := p
      have he2 : s.heap.get? e = some _ := he
      rw [z, he2] at ho
      have z2 := Option.some.inj ho
      rw [← z2] at ct
      injection ct with ct
      exact absurd ct (by decide)
    have Dr := Draws.tuple (prog := X.prog) (w := X.w) (A := X.A.in1) (show X.A.in1.handled = none from I.ok.hd hc) it a hat its.toArray
    refine wpAny_pyNext_enum_itemD Dr he ⟨hit, p⟩ (by simp; omega) hne (by intro z; rcases (by simpa using z : e = it ∨ e = a) with q | q; exact hne q; exact aE q.symm) fun x h' tk hx ho hs' hT hsz hk => ?_
    refine ⟨_, rfl, wpAny_letOwnedTupleGo_enum (s := { s with heap := h', toks := tk + 1 }) ho fun h'' he' sb => ?_⟩
    have hT2 : h''.get? s.heap.objs.size = some { cls := .type "tuple", data := .seq #[.int i tk, x] } := (sb.2 _ (Nat.ne_of_gt hel)).trans hT
    have hit2 : h''.IsTupleIter it a (i + 1) := hs'.1.at fun o q => (sb.2 it (Ne.symm hne)).trans q
    obtain ⟨y, hy, ry⟩ : ∃ y, xs[i]? = some y ∧ RelV y x := by
      obtain ⟨u, hu, ru⟩ := rv.get (List.getElem?_eq_getElem hi)
      have hx' : its[i]? = some x := by simpa using hx
      rw [hu] at hx'
      cases hx'
      exact ⟨_, List.getElem?_eq_getElem hi, ru⟩
    have new : ObjOk X.prog X.w (upd H s.heap.objs.size (.tup [.int (i : Nat), y])) h'' s.heap.objs.size (.tup [.int (i : Nat), y]) :=
      ⟨by show 2 ≤ sizeLine; decide, [.int i tk, x], .cons ⟨_, rfl⟩ (.cons ry .nil), ⟨_, hT2, rfl, _, rfl⟩⟩
    have I1 : Inv X pins σ (upd H s.heap.objs.size (.tup [.int (i : Nat), y])) { s with heap := h'', toks := tk + 1 } :=
      I.turnedNew (ch := [e, it]) (fun b ob hb q => (sb.2 b (fun z => hb (by simp [z]))).trans (hk b ob (fun z => hb (by simp [z])) (fun z => hb (by simp [z])) q)) hf (Nat.le_refl _) new
    refine ⟨.ref s.heap.objs.size, _, I1, rfl, ⟨_, y, rfl, I.hok.fresh (Nat.le_refl _), rfl, fun ys h2 => by rw [I.tuple_inj h2 hq]; exact hy⟩, ⟨⟨x, ?_⟩, hit2⟩, fun b hb => ?_⟩
    · have e1 : ((i + 1 : Nat) : Int) = (i : Int) + 1 := by omega
      rw [e1]
      exact he'
    · have hb' : b < s.heap.objs.size := by
        rcases (by simpa using hb : b = e ∨ b = it) with z | z
        · rw [z]; exact hel
        · rw [z]; exact hil
      rw [upd_ne (Nat.ne_of_lt hb')]
      exact (hf b hb).1
  done := by
    intro X hP hw hK hc i pins s σ H E I hf st hg
    subst hP hw hK
    obtain ⟨⟨old, he⟩, hit⟩ := st
    obtain ⟨xs, hq, hx⟩ := hg
    obtain ⟨its, rv, p, hz⟩ := I.tuple hq
    obtain ⟨f0, f1, f2, f3, f4, f5⟩ := hf it (by simp)
    have hl := rv.length
    have ei : i = its.toArray.size := by simp; omega
    subst ei
    have Dr := Draws.tuple (prog := X.prog) (w := X.w) (A := X.A.in1) (show X.A.in1.handled = none from I.ok.hd hc) it a hat its.toArray
    exact wpAny_pyNext_enum_endD Dr he ⟨hit, p⟩ fun h' eb => ⟨rfl, I.turned (t' := s.toks) (fun b o hb q => eb b o hb q) f0 f1 f3 f4 f5⟩
  self := fun A i s Q E st h => let ⟨⟨_, he⟩, _⟩ := st; wpAny_pyIter_enum he h
/-- enumerate(e), e a list or a tuple -/
def iEnumA (K : PySem.W.Frag) (ta : TA) : TI := fun σ H R => ta σ H fun vs H1 => ∃ a xs, vs = [.ref a] ∧ ((SqL K H1 a xs ∧ R (Ite K a) H1) ∨ (SqT K H1 a xs ∧ R (IteT K a) H1))
theorem pi_enumA {X : Cx} {e : Expr} {ta : TA} {p pos tpos : Pos} {elts : List Expr} {kk : Nat} (hg : Gl X "enumerate") (hm : X.mg "enumerate" = none) (ha : PA X [e] ta) (hs : starEach [e] X.env = [(false, eval e X.env)] := by rfl) :
    PI X (.Tuple elts kk tpos) (.Call (.Name "enumerate" p) [e] [] pos) (iEnumA X.K ta) := by
  refine ⟨fun pins s σ H R I h => ?_⟩
  refine Call_ (ld_blt I hg hm boot_enumerate (PyProof.Rows.callWith_type1 (thn (ha.run pos pins s σ H _ I h) fun us s1 ⟨vs, H1, I1, r1, a, xs, ex, q1⟩ => ?_) hs rfl))
  subst ex
  cases r1 with
  | cons r rr =>
    cases rr
    cases r
    have low : ∀ b : Addr, b ∈ [s1.heap.objs.size + 1, s1.heap.objs.size] → s1.heap.objs.size ≤ b := fun b hb => by
      rcases (by simpa using hb : b = s1.heap.objs.size + 1 ∨ b = s1.heap.objs.size) with z | z
      · rw [z]; exact Nat.le_add_right _ _
      · rw [z]; exact Nat.le_refl _
    rcases q1 with ⟨hq, q⟩ | ⟨hq, q⟩
    · obtain ⟨its, rv, p', hz⟩ := I1.list hq
      refine enum_made (begins_list a its.toArray) p'.isList fun h' he hit hk => wpAny_pyIter_enum he ?_
      exact ⟨s1.heap.objs.size + 1, [s1.heap.objs.size + 1, s1.heap.objs.size], _, _, H1, rfl, I1.kept (t' := s1.toks) hk, turn_enum a (s1.heap.objs.size + 1) s1.heap.objs.size, ⟨⟨.none, he⟩, ⟨_, hit, rfl, rfl⟩, Nat.succ_ne_self _⟩, fun b hb => I1.fpOk (low b hb) (I1.hok.fresh (low b hb)), q⟩
    · obtain ⟨its, rv, p', hz⟩ := I1.tuple hq
      have hal : a < s1.heap.objs.size := by obtain ⟨_, z, _⟩ := p'; exact Heap.lt_size z
      refine enum_made (begins_tuple a its.toArray) p' fun h' he hit hk => wpAny_pyIter_enum he ?_
      exact ⟨s1.heap.objs.size + 1, [s1.heap.objs.size + 1, s1.heap.objs.size], _, _, H1, rfl, I1.kept (t' := s1.toks) hk, turn_enumT a (s1.heap.objs.size + 1) s1.heap.objs.size (Nat.succ_ne_self _) (Nat.ne_of_lt hal), ⟨⟨.none, he⟩, ⟨_, hit, rfl, rfl⟩⟩, fun b hb => I1.fpOk (low b hb) (I1.hok.fresh (low b hb)), q⟩
theorem walk_enumT {K : PySem.W.Frag} {a : Addr} {xs : List V} : Walk (IteT K a) xs.length (fun H => SqT K H a xs) (YPair (fun i => some (.int (i : Nat))) (fun i => xs[i]?)) := by
  refine ⟨fun i H hi q => ⟨xs, q, hi⟩, fun H q => ⟨xs, q, rfl⟩, fun i H v H' _ q y => ?_⟩
  obtain ⟨T, x, h1, h2, h3, h4⟩ := y
  exact ⟨T, .int (i : Nat), x, h1, h2, h3, rfl, h4 xs q⟩
end Ask

/-! several clauses «except X as n» behind one try -/
namespace Ask
open PySem L2 PySem.Spec PyProof.Rows
/-- an error a that the frame of X has caught, with all that stood -/
structure Down (X : Cx) (pins : List (Addr × Obj)) (σ : L2.St) (H : Hp) (sI : Shared) (B : Heap) (a : Addr) (cls : Value) (d : Option Addr) (s : Shared) : Prop where
  fl : HandSPX.FlyingZ B (X.env :: X.outer) a (Zc cls d) s.heap
  inv : Inv X pins σ H sI
  nb : ∀ b o, sI.heap.get? b = some o → b ∉ frs X.stack → B.get? b = some o
  up : sI.heap.UpToSlots s.heap
  os : s.os = sI.os
  ag : AllBare s.gens
  na : H a = none
section
variable {X : Cx} {pins : List (Addr × Obj)} {σ : L2.St} {H : Hp} {sI s : Shared} {B : Heap} {a : Addr} {cls : Value} {d : Option Addr}
theorem Down.now (w : Down X pins σ H sI B a cls d s) : Inv X pins σ H s := w.inv.landed w.nb w.fl.1 w.up w.os w.ag
theorem Down.apart (w : Down X pins σ H sI B a cls d s) (hf : X.env.frame = some X.env.locals) : ∃ oe vs, s.heap.get? a = some oe ∧ Zc cls d oe ∧ oe.data = .fields vs ∧ a ≠ X.env.locals ∧ a ∉ X.fs := by
  obtain ⟨oe, vs, e, z, dd⟩ := w.fl.there
  have out : a ∉ frs (X.env :: X.outer) := fun hm => by
    obtain ⟨_, o2, e2, no⟩ := w.fl.2.2.1.mem hm
    rw [e] at e2
    cases e2
    exact no _ dd
  refine ⟨oe, vs, e, z, dd, fun q => out (List.mem_filterMap.mpr ⟨X.env, List.mem_cons_self, by rw [hf, q]⟩), fun hm => ?_⟩
  obtain ⟨v, hv, q⟩ := List.mem_filterMap.mp hm
  exact out (List.mem_filterMap.mpr ⟨v, List.mem_cons_of_mem _ hv, q⟩)
end
/-- what the clauses hds make of it, if W is wished for -/
def Hands (X : Cx) (D : Ends) (hds : List ExceptHandler) (W : WX) : Prop := ∀ (pins : List (Addr × Obj)) (σ : L2.St) (H : Hp) (sI s : Shared) (B : Heap) (a : Addr) (cls : Value) (d : Option Addr),
  Down X pins σ H sI B a cls d s → W cls d σ H → wpAny (model X.prog X.w) X.A (handleBy (.ref a) X.env hds) (SP X pins D) X.xe s
section
variable {X : Cx} {D : Ends} {hds : List ExceptHandler} {W : WX}
theorem hands_nil (hs : X.stack = X.env :: X.outer) (hf : X.env.frame = some X.env.locals) (tk : Takes X W) : Hands X D [] W := by
  intro pins σ H sI s B a cls d w q
  refine wpAny_handleBy_nil ?_
  obtain ⟨_, _, _, _, _, T, _, _, e, _, dd, e1, _⟩ := id w.fl
  unfold PySem.passOn
  refine wpAny_bind (wpAny_field e dd e1 ?_)
  rw [if_neg (show ¬ ((Value.ref T == Value.none) = true) from by simp)]
  have on : wpAny (model X.prog X.w) X.A (setFlight (.ref a) X.env.frame) (fun _ s4 => wpAny (model X.prog X.w) X.A (throw (.ref a) : Sem Flow) (SP X pins D) X.xe s4) X.xe s := by
    rw [hf]
    exact HandSPX.setFlight_upZ w.fl fun h4 held up4 => wpAny_throw (tk _ _ ⟨a, B, sI, pins, σ, H, cls, d, rfl, w.inv, w.nb, w.up.trans up4, .inr (.inr (by rw [hs]; exact held)), w.na, w.os, w.ag, q⟩)
  first
    | exact wpAny_bind (wpAny_pure (wpAny_bind on))
    | exact wpAny_bind on
theorem hands_as {x n : Str} {c : Value} {i : Nat} {suite : List Stmt} {b₀ : Stmt} {np pos' : Pos} {ts : Addr → Value → Option Addr → TS}
    (hf : X.env.frame = some X.env.locals) (hN : X.N.Nodup) (hi : X.N[i]? = some n) (hl : X.env.kindOf n = some .local) (hc : Names X x c)
    (su : ∀ (a : Addr) (oe : Obj) (cls : Value) (d : Option Addr) (pn : List (Addr × Obj)), Zc cls d oe → (∃ vs, oe.data = .fields vs) → PSs (X.suite a ((a, oe) :: pn)) (b₀ :: suite) (ts a cls d))
    (rest : Hands X D hds W) : Hands X D (.ExceptHandler (some (.Name x np)) (some n) (b₀ :: suite) pos' :: hds) (wAs X.K c i ts W D) := by
  intro pins σ H sI s B a cls d w q
  obtain ⟨b, hb, yes, no⟩ := q
  have J := w.now
  have ok := J.ok
  obtain ⟨oe, vs, he, hz, hd, nL, nF⟩ := w.apart hf
  have S := J.suite he hd w.na nL nF
  refine wpAny_handleBy_cons (codeAny_handlers_test ?_) (by intro z; cases z)
  have ty : PySem.W.Looks (model X.prog X.w) s.heap (typeOf (.ref a)) cls := fun A Q E s' k z => wpAny_typeOf_ref (k _ _ he) (by rw [hz.1]; exact z)
  have isIt := PySem.W.exm_one (M := model X.prog X.w) J.kIn ty hb
  have named : ∀ {Q : Value → Shared → Prop} {E : Value → Shared → Prop}, Q c s → wpAny (model X.prog X.w) (X.A.mark (some (.ref a))) (eval (.Name x np) X.env) Q E s := fun {Q E} z => by
    obtain ⟨g, dbg, m | ⟨m, bt, nn⟩⟩ := hc
    · exact ld_glob (X := X.suite a ((a, oe) :: (X.pn ++ pins))) S g m z dbg
    · exact ld_blt (X := X.suite a ((a, oe) :: (X.pn ++ pins))) S g m bt z nn dbg
  refine named (isIt.here ?_)
  cases b with
  | false => exact rest pins σ H sI s B a cls d w (no rfl)
  | true =>
    refine codeAny_handlers_suite_as (HandSPX.lands_againZ w.fl fun h4 fl4 up4 => ?_)
    have w4 : Down X pins σ H sI B a cls d { s with heap := h4 } := ⟨fl4, w.inv, w.nb, w.up.trans up4, w.os, w.ag, w.na⟩
    obtain ⟨oe4, vs4, he4, hz4, hd4, nL4, nF4⟩ := w4.apart hf
    have S4 := w4.now.suite he4 hd4 w.na nL4 nF4
    refine store_ok (X := X.suite a ((a, oe4) :: (X.pn ++ pins))) (v := .ref a) S4 hN hi (.inl hl) rfl (fun s5 S5 => ?_) (.inr hl)
    refine wpAny_mono ((su a oe4 cls d (X.pn ++ pins) hz4 ⟨_, hd4⟩).run [] s5 _ H _ S5 (yes rfl a w.na)) (fun f s6 got => ?_) (fun _ _ z => False.elim z)
    have away : ∀ {σ6 : L2.St} {H6 : Hp} {Q : Shared → Prop}, Inv (X.suite a ((a, oe4) :: (X.pn ++ pins))) [] σ6 H6 s6 → (∀ s7, Inv X pins (σ6.set i none) H6 s7 → Q s7) →
        wpAny (model X.prog X.w) X.A (do bindName X.env n .none; unbindBehindTheSuite X.env n pos') (fun _ s7 => Q s7) X.xe s6 := fun {σ6 H6 Q} S6 z => gone_ok (S6.unsuite ok) hN hi hl z
    cases f with
    | ret u => obtain ⟨v, σ6, H6, S6, r, z⟩ := got; exact away S6 fun s7 J7 => ⟨_, _, _, J7, r, z⟩
    | next => obtain ⟨σ6, H6, S6, z⟩ := got; exact away S6 fun s7 J7 => ⟨_, _, J7, z⟩
    | brk => obtain ⟨σ6, H6, S6, z⟩ := got; exact away S6 fun s7 J7 => ⟨_, _, J7, z⟩
    | cont => obtain ⟨σ6, H6, S6, z⟩ := got; exact away S6 fun s7 J7 => ⟨_, _, J7, z⟩
/-- try: body / the clauses -/
theorem ps_try_hands {body : List Stmt} {h₀ : ExceptHandler} {pos : Pos} {tb : WX → TS} {Wf : Ends → WX} (hs : X.stack = X.env :: X.outer) (hf : X.env.frame = some X.env.locals)
    (hb : ∀ (W : WX) (pn : List (Addr × Obj)) (xe : Value → Shared → Prop), Takes (X.tr pn xe) W → PassesOwn (model X.prog X.w) X.A X.env xe → PSs (X.tr pn xe) body (tb W))
    (hh : ∀ D, Hands X D (h₀ :: hds) (Wf D)) : PS X (.Try body (h₀ :: hds) [] [] pos) (fun D σ H => tb (Wf D) D σ H) := by
  refine ⟨fun pins s σ H D I h => ?_⟩
  have ok := I.ok
  have fr : X.A.frames = some (X.env :: X.outer) := by rw [ok.frames, hs]
  let after : Value → Shared → Prop := fun e s1 => wpAny (model X.prog X.w) X.A (noteFrame e X.env) (fun _ s2 => wpAny (model X.prog X.w) X.A (setFlight e none) (fun _ s3 => wpAny (model X.prog X.w) X.A (handleBy e X.env (h₀ :: hds)) (SP X pins D) X.xe s3) X.xe s2) X.xe s1
  have taken : Takes (X.tr (X.pn ++ pins) after) (Wf D) := fun u s1 xx => by
    obtain ⟨a, B, sI, pins1, σ1, H1, cls, d, rfl, J, nb, up, sky, na, os, ag, q⟩ := xx
    have sky1 : Sky B (X.env :: X.outer) a (Zc cls d) X.env.locals s1.heap := by rw [← hs]; exact sky
    exact Sky.land Zc.steady fr hf sky1 fun h3 fl3 up3 => hh D pins σ1 H1 sI { s1 with heap := h3 } B a cls d ⟨fl3, J.ofTry ok, nb, up.trans up3, os, ag, na⟩ q
  refine wpAny_Try_except (wpAny_mono ((hb (Wf D) (X.pn ++ pins) after taken PassesOwn.looking).run [] s σ H D (I.toTry _) h) (fun f s1 got => ?_) fun _ _ z => z)
  cases f with
  | ret u => obtain ⟨v, σ1, H1, J, r, z⟩ := got; exact ⟨v, σ1, H1, J.ofTry ok, r, z⟩
  | next => obtain ⟨σ1, H1, J, z⟩ := got; exact wpAny_execs_nil ⟨σ1, H1, J.ofTry ok, z⟩
  | brk => obtain ⟨σ1, H1, J, z⟩ := got; exact ⟨σ1, H1, J.ofTry ok, z⟩
  | cont => obtain ⟨σ1, H1, J, z⟩ := got; exact ⟨σ1, H1, J.ofTry ok, z⟩
end
end Ask

namespace Ask
open PySem L2 PySem.Spec PyProof.Rows
/-! ### repr of a list or tuple of data; a text times a number -/
def rRepr (K : PySem.W.Frag) : List V → Hp → VK → Prop := fun xs H Q => ∃ (a : Addr) (d : PyData), xs = [.ref a] ∧ Dp K H (.ref a) d ∧ d.showable = true ∧ d.hasDict = false ∧ d.depth ≤ 30 ∧ d.shown.length ≤ sizeLine ∧ Q (.str d.shown) H
theorem call_reprD {X : Cx} (hg : X.A.guards = some []) (hu : X.A.units + 64 < cLine) : CallR X (.builtin "repr") (rRepr X.K) := by
  intro pins s σ H xs us Q I r h
  obtain ⟨a, d, rfl, hd, sh, nd, dp, sz, q⟩ := h
  obtain ⟨u, rfl, ra⟩ := vals1 r
  obtain rfl : u = Value.ref a := ra
  obtain ⟨as, rd⟩ := Dp.reads I d _ _ hd rfl
  refine repr_of_reads' rd sh (fun z => by rw [nd] at z; cases z) hg (by omega) (fun _ _ e => e) (fun h' t tk k => ?_) sz
  exact ⟨.str d.shown, H, I.kept (t' := tk) k, ⟨t, rfl⟩, q⟩
def repS (x : Str) (n : Nat) : Str := ⟨(List.replicate n x.cps).foldl (· ++ ·) #[]⟩
theorem rep_size (x : Array Nat) : ∀ (n : Nat) (acc : Array Nat), ((List.replicate n x).foldl (· ++ ·) acc).size = acc.size + n * x.size
  | 0, acc => by simp
  | n + 1, acc => by
    rw [List.replicate_succ, List.foldl_cons, rep_size x n, Array.size_append, Nat.succ_mul]
    omega
theorem repS_len (x : Str) (n : Nat) : (repS x n).length = n * x.length := by
  show ((List.replicate n x.cps).foldl (· ++ ·) #[]).size = _
  rw [rep_size]
  show 0 + n * x.length = _
  omega
theorem op_mul_str {X : Cx} : OpR X (binaryOp .Mult) (fun x y H Q => ∃ (z : Str) (n : Int), x = .str z ∧ y = .int n ∧ 2 ≤ n ∧ n ≤ 1000 ∧ 1 ≤ z.length ∧ z.length ≤ 1000 ∧ Q (.str (repS z n.toNat)) H) := by
  intro pins s σ H x y v u Q I rx ry h
  obtain ⟨z, n, rfl, rfl, n0, n1, z0, z1, q⟩ := h
  obtain ⟨t, rfl⟩ := rx
  obtain ⟨t2, rfl⟩ := ry
  have zl : (z.length == 0) = false := by
    have : z.length ≠ 0 := by omega
    simpa using this
  have nl : (n == 1) = false := by
    have : n ≠ 1 := by omega
    simpa using this
  refine P.mul_str (by rw [decide_eq_false (by omega), decide_eq_false (by omega)]; rfl) (fun _ _ z => ?_) (fun _ _ => ?_) ?_
  · have e : (2 ^ 63 - 1) / (1000 : Int) ≤ (2 ^ 63 - 1) / n := by
      refine Int.le_ediv_of_mul_le (by omega) ?_
      have h1 : (2 ^ 63 - 1) / (1000 : Int) * n ≤ (2 ^ 63 - 1) / (1000 : Int) * 1000 := Int.mul_le_mul_of_nonneg_left n1 (by decide)
      have h2 : (2 ^ 63 - 1) / (1000 : Int) * 1000 ≤ 2 ^ 63 - 1 := by decide
      omega
    have e2 : (1000 : Int) ≤ (2 ^ 63 - 1) / (1000 : Int) := by decide
    omega
  · have e : z.length * n.toNat ≤ 1000 * 1000 := Nat.mul_le_mul z1 (by omega)
    have e2 : 1000 * 1000 ≤ sizeLine := by decide
    show decide (z.length * n.toNat > sizeLine) = false
    exact decide_eq_false (by omega)
  · rw [if_neg (by omega), if_neg (by rw [nl, zl]; exact Bool.false_ne_true)]
    refine ⟨?_, ?_⟩
    · show (repS z n.toNat).length ≤ sizeLine
      rw [repS_len]
      have e : z.length * n.toNat ≤ 1000 * 1000 := Nat.mul_le_mul z1 (by omega)
      have e2 : 1000 * 1000 ≤ sizeLine := by decide
      rw [Nat.mul_comm]
      omega
    · exact ⟨.str (repS z n.toNat), H, I.tok _, ⟨_, rfl⟩, q⟩
end Ask

namespace Ask
open PySem L2 PySem.Spec PyProof.Rows
/-! ### a def's body at one surrounding, the law's call from the outside (where it is known that no repr is under way) -/
theorem fn_run {CX : CXT} {P : Program} {w : World} {K : PySem.W.Frag} {mg : Str → Option Value} {base : Heap} {k : Nat} {f : Addr} {x qual : Str} {st : Stmt} {fd : FuncData} {N ps : List Str} {A : Around} {outer : List Env} {s : Shared} {H : Hp} {args : Args} {us : List Value} {vs : List V} {Q : VK} {E : XK}
    (F : Fun K x qual st f fd) (S : FnScope N ps (defScope st)) (hr : Room (k + 1) A) (e0 : Env0 P w K mg base A outer s H) (bind : BindsTo s fd args (ps.zip us)) (r : Vals vs us) (hl : vs.length = ps.length)
    (body : ∀ cdv : Value, Room k (A.deeper (envOfC qual (defScope st) s.heap.objs.size f cdv)) → ∃ t, PSs (cxOf CX P w K mg base N qual (defScope st) f cdv A outer s H E) (defBody st) t ∧ t { nx := fun _ H' => Q .non H', rt := Q } (start N vs) H) :
    codeAny (model P w) A (.call (.ref f) args) (CR CX outer P w H s Q E) s := by
  obtain ⟨oc, od, kV, doc, pm, an, cdv, ct, osl, rfl, lk, hcd⟩ := F.ex
  have here : ∀ b o, base.get? b = some o → s.heap.get? b = some o := fun b o e => (e0.bs b o e).1
  have inK : K.In s.heap := e0.mod.kin.keeps here
  refine codeAny_call_function hr.depth (inK _ _ lk) rfl S.co S.gen rfl (PySem.W.codeRec_of inK hcd) (bind _ _ _ _ ?_)
  refine wpAny_newFunctionEnv_cells S.kind (fun ⟨n, v⟩ hy => ?_) fun env he s1 x1 => ?_
  · rcases S.par n (List.of_mem_zip hy).1 with q | q
    · exact .inl q
    · exact .inr ⟨q, PySem.W.cellsFrom_some _ _ _ (.inl q)⟩
  subst he
  refine ⟨(e0.mod.nolimit.keeps here).keeps x1.toInCall.keep, codeAny_func ?_⟩
  obtain ⟨t, ht, hq⟩ := body cdv (hr.deeper _)
  refine wpAny_mono (ht.run [] s1 (start N vs) H _ (inv_start S hr.hd e0 hl r x1) hq) (fun fl s' got => ?_) fun _ _ z => z
  cases fl with
  | ret u => obtain ⟨v, _, H', J, rv, z⟩ := got; exact ⟨v, H', J.os, J.bare, J.base, J.hok, rv, z⟩
  | next => obtain ⟨_, H', J, z⟩ := got; exact ⟨V.non, H', J.os, J.bare, J.base, J.hok, rfl, z⟩
  | brk => obtain ⟨_, _, _, z⟩ := got; exact False.elim z
  | cont => obtain ⟨_, _, _, z⟩ := got; exact False.elim z
/-- the script's own cell, locked; nothing else is tracked -/
def lone (a : Addr) (vs : List Value) (ns : List Int) : Hp := fun b => if b = a then some (.frz { cls := .type "list", data := .seq vs.toArray } (.lst (ns.map V.int))) else none
theorem law_at {P : Program} {w : World} {K : PySem.W.Frag} {mg mb : Str → Option Value} {fa a : Addr} {s₁ : Shared} {vs : List Value} {ns : List Int}
    (inK : K.In s₁.heap) (gl : s₁.heap.Ns mainGlobals mg) (bl : s₁.heap.Ns builtinsNs mb) (bt : ∀ x : Str, x ≠ "__name__" → mb x = bootBuiltins x) (lim : s₁.heap.NoLimit) (gs : s₁.gens = #[])
    (ha : s₁.heap.get? a = some { cls := .type "list", data := .seq vs.toArray }) (hi : IntsAre vs ns) (hl : ns.length ≤ sizeLine)
    (run : ∀ (base : Heap) (H : Hp), K.In base → base.Ns mainGlobals mg → Env0 P w K mg base callerA [] s₁ H → SqL K H a (ns.map V.int) →
      codeAny (model P w) callerA (.call (.ref fa) ⟨[.ref a], []⟩) (CR CX0 [] P w H s₁ (fun v _ => v = .bl true) E0) s₁) :
    codeAny (model P w) callerA (.call (.ref fa) ⟨[.ref a], []⟩) (fun r s' => r = .ok (.ret (.bool true)) ∧ OldK s₁.heap s'.heap ∧ s'.os = s₁.os ∧ AllBare s'.gens) s₁ := by
  have nums : Vals (ns.map V.int) vs := vals_ints hi
  have from_ : ∀ H : Hp, (∀ b, H b = none ∨ ∃ o xs, H b = some (.frz o (.lst xs))) → (∀ b u, H b = some u → b = a ∧ K.lookup a = none) → SqL K H a (ns.map V.int) → HOk P w H s₁.heap →
      codeAny (model P w) callerA (.call (.ref fa) ⟨[.ref a], []⟩) (fun r s' => r = .ok (.ret (.bool true)) ∧ OldK s₁.heap s'.heap ∧ s'.os = s₁.os ∧ AllBare s'.gens) s₁ := by
    intro H frz atA sq ok
    have free : ∀ {b : Addr}, b ≠ a → H b = none := fun {b} ne => by
      cases q : H b with
      | none => rfl
      | some u => exact absurd (atA b u q).1 ne
    have nsB : ∀ {b : Addr} {m : Str → Option Value}, s₁.heap.Ns b m → (hidT s₁.heap H).Ns b m := fun {b m} ⟨o, es, ep, e, dd, z⟩ => ⟨o, es, ep, hidT_get e (free fun q => by
      rw [q, ha] at e
      cases e
      have dd' : Data.seq vs.toArray _ = Data.dict es ep := dd
      cases dd'), dd, z⟩
    have kB : K.In (hidT s₁.heap H) := fun b o e => hidT_get (inK b o e) (by
      cases q : H b with
      | none => rfl
      | some u =>
        obtain ⟨rfl, no⟩ := atA b u q
        rw [no] at e
        cases e)
    obtain ⟨mc, l1, l2⟩ := lim
    have e0 : Env0 P w K mg (hidT s₁.heap H) callerA [] s₁ H :=
      ⟨rfl, ⟨kB, nsB gl, ⟨mb, nsB bl, bt⟩, ⟨mc, nsB l1, l2⟩⟩, fun b o e => of_hidT e, Nat.le_of_eq (hidT_size _ _), trivial, (fun b hb => absurd (show b ∈ ([] : List Addr) from hb) (by simp)), ok, .of_eq gs⟩
    refine codeAny_mono (run _ H kB (nsB gl) e0 sq) fun r s' z => ?_
    match r, z with
    | .error e, z => exact False.elim z
    | .ok .next, z => exact False.elim z
    | .ok .brk, z => exact False.elim z
    | .ok .cont, z => exact False.elim z
    | .ok (.ret u), z =>
      obtain ⟨v, H', os, bare, un, ok', rv, q⟩ := z
      have q : v = .bl true := q
      subst q
      obtain rfl : u = Value.bool true := rv
      refine ⟨rfl, OldK.of_keep fun b o e => ?_, os, bare⟩
      rcases frz b with n | ⟨ob, xs, y⟩
      · exact un.keep b o e n (by intro z; exact absurd (show b ∈ ([] : List Addr) from z) (by simp)) (by simp)
      · obtain ⟨e1, _⟩ := ok b _ y
        obtain ⟨e2, _⟩ := ok' b _ (un.frzs b ob _ y)
        rw [e] at e1
        cases e1
        exact e2
  cases hk : K.lookup a with
  | none =>
    have at_ : lone a vs ns a = some (.frz { cls := .type "list", data := .seq vs.toArray } (.lst (ns.map V.int))) := if_pos rfl
    have off : ∀ {b : Addr}, b ≠ a → lone a vs ns b = none := fun {b} ne => if_neg ne
    refine from_ (lone a vs ns) (fun b => ?_) (fun b u z => ?_) (.inl (.inr ⟨_, at_⟩)) (fun b u z => ?_)
    · by_cases h : b = a
      · exact .inr ⟨_, _, by rw [h]; exact at_⟩
      · exact .inl (off h)
    · by_cases h : b = a
      · exact ⟨h, hk⟩
      · rw [off h] at z
        cases z
    · by_cases h : b = a
      · subst h
        rw [at_] at z
        cases z
        exact ⟨ha, by rw [List.length_map]; exact hl, vs, _, nums, ha⟩
      · rw [off h] at z
        cases z
  | some o =>
    have e := inK a o hk
    rw [ha] at e
    cases e
    refine from_ (fun _ => none) (fun _ => .inl rfl) (fun b u z => by cases z) (.inr ⟨_, vs.toArray, _, hk, rfl, rfl, rfl, ?_, by simpa using nums⟩) (fun b u z => by cases z)
    rw [List.size_toArray, hi.length]
    exact hl
end Ask

/-! C(e, ..), what its __init__ raises wished for at the caller's slots -/
namespace Ask
open PySem L2 PySem.Spec PyProof.Rows
def tMakeS (C : Addr) (sp : Sp) (E : L2.St → XK) (t : TA) : TE := fun σ H Q => t σ H fun vs H1 => ∀ x dx, H1 x = none → H1 dx = none → dx ≠ x →
  sp (.ref x :: vs) (upd (upd H1 dx (.own x)) x (.ins C dx [])) (fun v H2 => v = .non ∧ Q (.ref x) H2) (E σ)
theorem pe_makeS {X : Cx} {CX : CXT} {k : Nat} {f C : Addr} {fd : FuncData} {ps : List Str} {sp : Sp} {E : L2.St → XK} {x : Str} {p pos : Pos} {e : Expr} {es : List Expr} {t : TA}
    (M : Mk X.K C f) (F : FnOk X.prog X.w X.K X.mg X.base CX k f fd ps sp) (hr : Room (k + 1) X.A) (hg : Gl X x) (hm : X.mg x = some (.ref C)) (hb : Binds X.K fd ps []) (hx : ∀ σ, PassesAt CX X σ (E σ)) (ha : PA X (e :: es) t)
    (hdb : (x == ("__debug__" : Str)) = false := by decide) (he : starEach (e :: es) X.env = (false, eval e X.env) :: starEach es X.env := by rfl) (hpl : (backTo pos (starEach es X.env)).any (·.1) = false := by rfl) :
    PE X (.Call (.Name x p) (e :: es) [] pos) (tMakeS C sp E t) := by
  refine ⟨fun pins s σ H Q I h => wpAny_Call_Name_kw (ld_glob I hg hm ?_ hdb)⟩
  refine PySem.W.callWith_K (h₀ := X.base) I.ok.mod.kin M.kp (thn (ha.run pos pins s σ H _ I h) fun us s1 ⟨vs, H1, I1, r, q⟩ => ⟨I1.kIn, ?_⟩) he hpl
  have w := q (s1.heap.objs.size + 1) s1.heap.objs.size (I1.hok.fresh (Nat.le_succ _)) (I1.hok.fresh (Nat.le_refl _)) (Nat.ne_of_lt (Nat.lt_succ_self _))
  have I2 := Inv.made (C := C) I1
  have r2 : Vals (V.ref (s1.heap.objs.size + 1) :: vs) (Value.ref (s1.heap.objs.size + 1) :: us) := .cons rfl r
  have len : (Value.ref (s1.heap.objs.size + 1) :: us).length = ps.length := by
    rw [← r2.length]
    exact F.len _ _ _ _ w
  have len2 : (Value.ref (s1.heap.objs.size + 1) :: us ++ []).length = ps.length := by
    rw [List.append_nil]
    exact len
  have bound := hb _ (Value.ref (s1.heap.objs.size + 1) :: us) I2.kIn len2
  rw [List.append_nil] at bound
  refine wpAny_call (make_map (f := f) I1.kIn M.makes M.init (beq_iff_eq.mp M.fn) (codeAny_mono (F.run _ X.stack _ _ ⟨Value.ref (s1.heap.objs.size + 1) :: us, []⟩ _ _ _ (E σ) (hr.make C us []) (I2.env0.make C us []) bound r2 w) fun r s' got => ?_))
  match r, got with
  | .error e, got => exact hx σ pins _ _ e s' I2 got
  | .ok .next, got => exact False.elim got
  | .ok .brk, got => exact False.elim got
  | .ok .cont, got => exact False.elim got
  | .ok (.ret u), got =>
    obtain ⟨v, H', I3, rv, ev, z⟩ := I2.after got
    subst ev
    exact ⟨rv, ⟨V.ref (s1.heap.objs.size + 1), H', I3, rfl, z⟩⟩
end Ask

namespace Ask
open PySem L2
def top (i : Nat) : Stmt := PySem.Challenge.pw_asksmore_k02_letters_refused.main.body.getD i (.Pass ⟨0, 0, 0, 0⟩)
/-- the built-in names that the text calls -/
structure Blt (mg : Str → Option Value) : Prop where
  n_int : mg "int" = none
  n_len : mg "len" = none
  n_abs : mg "abs" = none
  n_list : mg "list" = none
  n_range : mg "range" = none
  n_min : mg "min" = none
  n_str : mg "str" = none
  n_isinstance : mg "isinstance" = none
  n_all : mg "all" = none
  n_enumerate : mg "enumerate" = none
  n_tuple : mg "tuple" = none
  n_repr : mg "repr" = none
/-- all but what stands at p is as it was -/
def Kp (p : Addr) (H H' : Hp) : Prop := ∀ b o, b ≠ p → H b = some o → H' b = some o
theorem Kp.refl (p : Addr) (H : Hp) : Kp p H H := fun _ _ _ h => h
theorem Kp.trans {p : Addr} {H H1 H2 : Hp} (a : Kp p H H1) (b : Kp p H1 H2) : Kp p H H2 := fun c o n h => b c o n (a c o n h)
theorem Kp.upd (p : Addr) (H : Hp) (o : HO) : Kp p H (upd H p o) := fun b u n h => by rw [upd_ne n]; exact h
theorem Kp.of {p : Addr} {H H' : Hp} (s : Same H H') : Kp p H H' := fun b o _ h => s b o h
theorem Kp.new {p q : Addr} {H H' : Hp} {o : HO} (k : Kp p H H') (h : H' q = none) : Kp p H (L2.upd H' q o) := fun b u n e => by
  rw [upd_ne (ne_of_none (k b u n e) h)]
  exact k b u n e
theorem kLC : ¬ ((Sum.inr ("left" : Str) : Key) = Sum.inr ("cells" : Str)) := by decide +kernel
theorem kLB : ¬ ((Sum.inr ("left" : Str) : Key) = Sum.inr ("begun" : Str)) := by decide +kernel
theorem kBC : ¬ ((Sum.inr ("begun" : Str) : Key) = Sum.inr ("cells" : Str)) := by decide +kernel
/-- what a pen holds -/
def pk (c : Addr) (b l : Int) : List (Key × V) := [(Sum.inr ("cells" : Str), .ref c), (Sum.inr ("begun" : Str), .int b), (Sum.inr ("left" : Str), .int l)]
theorem pk_cells (c : Addr) (b l : Int) : valV (pk c b l) (Sum.inr ("cells" : Str)) = some (.ref c) := valV_pos rfl
theorem pk_begun (c : Addr) (b l : Int) : valV (pk c b l) (Sum.inr ("begun" : Str)) = some (.int b) :=
  (valV_neg (fun z => kBC z.symm)).trans (valV_pos rfl)
theorem pk_left (c : Addr) (b l : Int) : valV (pk c b l) (Sum.inr ("left" : Str)) = some (.int l) :=
  (valV_neg (fun z => kLC z.symm)).trans ((valV_neg (fun z => kLB z.symm)).trans (valV_pos rfl))
theorem pk_putL (c : Addr) (b l m : Int) : putK (pk c b l) (Sum.inr ("left" : Str)) (.int m) = pk c b m := by
  unfold putK pk
  have e : (([(Sum.inr ("cells" : Str), .ref c), (Sum.inr ("begun" : Str), .int b), (Sum.inr ("left" : Str), .int l)] : List (Key × V)).any fun kv => decide (kv.1 = Sum.inr ("left" : Str))) = true := by simp
  rw [if_pos e]
  simp only [List.map_cons, List.map_nil]
  rw [if_neg (fun z => kLC z.symm), if_neg (fun z => kLB z.symm)]
  rfl
theorem pk_putB (c : Addr) (b l m : Int) : putK (pk c b l) (Sum.inr ("begun" : Str)) (.int m) = pk c m l := by
  unfold putK pk
  have e : (([(Sum.inr ("cells" : Str), .ref c), (Sum.inr ("begun" : Str), .int b), (Sum.inr ("left" : Str), .int l)] : List (Key × V)).any fun kv => decide (kv.1 = Sum.inr ("begun" : Str))) = true := by simp
  rw [if_pos e]
  simp only [List.map_cons, List.map_nil]
  rw [if_neg (fun z => kBC z.symm), if_neg kLB]
  rfl
/-- at p a pen over the cells ns at c, of which at most B were begun -/
def Pen (c : Addr) (ns : List Int) (H : Hp) (p : Addr) (B : Nat) : Prop := ∃ (b l : Int), H p = some (.dK (pk c b l)) ∧ H c = some (.lst (ns.map V.int)) ∧ ns.length ≤ 63 ∧ 0 ≤ b ∧ b ≤ (B : Int)
/-- from H0 to H all but the pen stands as it stood, and the pen is a pen -/
structure Go (p c : Addr) (ns : List Int) (H0 H : Hp) (B : Nat) : Prop where
  kp : Kp p H0 H
  pen : Pen c ns H p B
  base : ∃ A, Pen c ns H0 p A
section
variable {p c q a : Addr} {ns : List Int} {H0 H H' : Hp} {A B : Nat} {o : HO} {xs : List V} {K : PySem.W.Frag}
theorem Pen.mono (h : Pen c ns H p A) (le : A ≤ B) : Pen c ns H p B := by
  obtain ⟨b, l, h1, h2, h3, h4, h5⟩ := h
  exact ⟨b, l, h1, h2, h3, h4, by omega⟩
theorem Pen.at (h : Pen c ns H p A) : ∃ o, H p = some o := by
  obtain ⟨b, l, h1, _⟩ := h
  exact ⟨_, h1⟩
theorem Pen.upd (h : Pen c ns H p A) (h1 : q ≠ p) (h2 : q ≠ c) : Pen c ns (L2.upd H q o) p A := by
  obtain ⟨b, l, e1, e2, e3⟩ := h
  exact ⟨b, l, by rw [upd_ne h1.symm]; exact e1, by rw [upd_ne h2.symm]; exact e2, e3⟩
theorem Go.refl (h : Pen c ns H p B) : Go p c ns H H B := ⟨Kp.refl p H, h, B, h⟩
theorem Go.step (g : Go p c ns H0 H A) (g' : Go p c ns H H' B) : Go p c ns H0 H' B := ⟨g.kp.trans g'.kp, g'.pen, g.base⟩
theorem Go.mono (g : Go p c ns H0 H A) (le : A ≤ B) : Go p c ns H0 H B := ⟨g.kp, g.pen.mono le, g.base⟩
/-- fresh later is fresh before -/
theorem Go.free (g : Go p c ns H0 H B) (n : H q = none) : H0 q = none := by
  by_cases e : q = p
  · subst e
    obtain ⟨o, z⟩ := g.pen.at
    rw [z] at n
    cases n
  · cases z : H0 q with
    | none => rfl
    | some o =>
      rw [g.kp q o e z] at n
      cases n
theorem Go.ne (g : Go p c ns H0 H B) (n : H0 q = none) : q ≠ p ∧ q ≠ c := by
  obtain ⟨A, b, l, h1, h2, _⟩ := g.base
  refine ⟨fun e => ?_, fun e => ?_⟩
  · rw [e, h1] at n
    cases n
  · rw [e, h2] at n
    cases n
/-- what H0 did not know may change -/
theorem Go.mut (g : Go p c ns H0 H B) (n : H0 q = none) : Go p c ns H0 (upd H q o) B :=
  ⟨fun b u e z => by
    rw [upd_ne (ne_of_none z n)]
    exact g.kp b u e z, g.pen.upd (g.ne n).1 (g.ne n).2, g.base⟩
theorem Go.new (g : Go p c ns H0 H B) (n : H q = none) : Go p c ns H0 (upd H q o) B := g.mut (g.free n)
theorem Go.same (g : Go p c ns H0 H B) (s : Same H H') : Go p c ns H0 H' B := by
  obtain ⟨b, l, h1, h2, h3⟩ := g.pen
  exact ⟨g.kp.trans (Kp.of s), ⟨b, l, s _ _ h1, s _ _ h2, h3⟩, g.base⟩
theorem Go.at (g : Go p c ns H0 H B) (e : H0 a = some o) (d : ∀ kvs, o ≠ .dK kvs) : H a = some o := by
  obtain ⟨A, b, l, h1, _⟩ := g.base
  exact g.kp _ _ (ne_of e h1 (d _)) e
theorem Go.lst (g : Go p c ns H0 H B) (e : H0 a = some (.lst xs)) : H a = some (.lst xs) := g.at e (by intro _ z; cases z)
theorem Go.tup (g : Go p c ns H0 H B) (e : H0 a = some (.tup xs)) : H a = some (.tup xs) := g.at e (by intro _ z; cases z)
theorem Go.seq (g : Go p c ns H0 H B) (q : SqL K H0 a xs) : SqL K H a xs := by
  rcases q with (q | ⟨o, q⟩) | q
  · exact .inl (.inl (g.lst q))
  · exact .inl (.inr ⟨o, g.at q (by intro _ z; cases z)⟩)
  · exact .inr q
end

/-- x = a if c else b, its two ways met -/
theorem seqIf_cut {t : TT} {ta tb : TE} {g : TG} {u : TS} {D : Ends} {σ : L2.St} {H : Hp} (Pv : V → Hp → Prop) (h : ∀ Q' : VK, (∀ v H', Pv v H' → Q' v H') → tIf t ta tb σ H Q') (hq : ∀ v H', Pv v H' → g v σ H' (u D)) :
    tSeq (tAsg (tIf t ta tb) g) u D σ H := h _ hq
/-- if c: body, the ways past it met -/
theorem seqIfS_cut {c : TT} {t v u : TS} {D : Ends} {σ : L2.St} {H : Hp} (hn : u D σ H) (h : ∀ N : L2.St → Hp → Prop, N σ H → tIfS c t v { D with nx := N } σ H) : tSeq (tIfS c t v) u D σ H := h (u D) hn

/-! ### the draw -/
def spDraw : Sp := fun vs H Q _ => ∃ (p c : Addr) (ns : List Int) (m : Int) (B : Nat), vs = [.ref p, .int m] ∧ Pen c ns H p B ∧ B ≤ 1000000000 ∧ 0 < m ∧ m < 1073741824 ∧
  ∀ (H' : Hp) (r : Int), Go p c ns H H' (B + 1) → 0 ≤ r → r < m → Q (.int r) H'
section
variable {P : Program} {w : World} {K : PySem.W.Frag} {mg : Str → Option Value} {base : Heap}
abbrev s__law_draw : Stmt := top 18
theorem sc__law_draw : FnScope ["_law_pen_here", "_law_many", "_law_digit", "_law_place", "_law_size", "_law_told_here", "_law_blend"] ["_law_pen_here", "_law_many"] (defScope s__law_draw) := ⟨rfl, rfl, rfl, by decide +kernel, rfl, by decide +kernel, by decide +kernel⟩
theorem div_ok {i j : Int} (h : 0 < j) (h2 : j < 1073741824) : CDivW i j := wide_div (b := 30) h (by omega) (by decide) (by decide)
theorem mul_small {i j : Int} (h : -(2 ^ 64) < i ∧ i < 2 ^ 64) : CMul i j := .inl h
theorem ok_draw {f : Addr} {fd : FuncData} (F : Fun K "_law_draw" "_law_draw" s__law_draw f fd) (T : Blt mg) : FnOk P w K mg base CX0 1 f fd ["_law_pen_here", "_law_many"] spDraw := by
  refine F.ok sc__law_draw (fun vs H Q E h => ?_) (fun cdv A outer s H vs Q E hr h => ?_)
  · obtain ⟨p, c, ns, m, B, rfl, _⟩ := h
    rfl
  · obtain ⟨p, c, ns, m, B, rfl, hpen, hB, hm0, hm1, k⟩ := h
    obtain ⟨b, l, hp, hc, hl, hb0, hbB⟩ := id hpen
    have hu := hu_of hr
    refine ⟨_, (pss_cons (ps_if (pt_cmpR op_gt (pe_dget hu (pv 0) pe_str (fun _ _ => rfl)) pe_int (nomark _)) (pss_cons (ps_set (i := 2) sc__law_draw.nd rfl (Or.inl rfl) (pe_op op_mod (pe_callTy call_int1 (by rfl) T.n_int (by decide +kernel) (pa_cons (pe_dget hu (pv 0) pe_str (fun _ _ => rfl)) pa_nil)) (pv 1)))
      (pss_cons (ps_dput hu (pv 0) pe_str (pe_op op_fdivW (pe_dget hu (pv 0) pe_str (fun _ _ => rfl)) (pv 1)) rfl)
      (pss_one (ps_ret (pv 2))))) pss_nil)
      (pss_cons (ps_par (i := 3) (j := 4) rfl sc__law_draw.nd rfl rfl (by decide) rfl rfl (pa_cons (pe_dget hu (pv 0) pe_str (fun _ _ => rfl)) (pa_cons (pe_callB call_len_seq (by rfl) T.n_len (by decide +kernel) (pa_cons (pe_dget hu (pv 0) pe_str (fun _ _ => rfl)) pa_nil)) pa_nil)) (by rfl))
      (pss_cons (ps_dput hu (pv 0) pe_str (pe_op op_add (pv 3) pe_int) rfl)
      (pss_cons (ps_set (i := 5) sc__law_draw.nd rfl (Or.inl rfl) (pe_ifExp (pt_cmpR op_gt (pv 4) pe_int (nomark _)) (pe_ix ix_list (pe_dget hu (pv 0) pe_str (fun _ _ => rfl)) (pe_op op_mod (pe_callTy call_int1 (by rfl) T.n_int (by decide +kernel) (pa_cons (pv 3) pa_nil)) (pv 4)) (fun _ _ => rfl)) (pe_op op_add (pe_op op_mul pe_int (pv 3)) pe_int)))
      (pss_cons (ps_if (PW.pt (pw_and (pt_cmpR op_lt (pv 3) (pv 4) (nomark _)) (pw_and1 (pt_cmpR op_ge (pe_callB call_abs (by rfl) T.n_abs (by decide +kernel) (pa_cons (pv 5) pa_nil)) (pe_op op_pow pe_int pe_int) (nomark _))))) (pss_cons (ps_dput hu (pv 0) pe_str (pe_op op_fdivW (pe_op op_sub (pe_callB call_abs (by rfl) T.n_abs (by decide +kernel) (pa_cons (pv 5) pa_nil)) (pe_op op_pow pe_int pe_int)) (pv 1)) rfl)
      (pss_one (ps_ret (pe_op op_mod (pe_callTy call_int1 (by rfl) T.n_int (by decide +kernel) (pa_cons (pe_op op_sub (pe_callB call_abs (by rfl) T.n_abs (by decide +kernel) (pa_cons (pv 5) pa_nil)) (pe_op op_pow pe_int pe_int)) pa_nil)) (pv 1))))) pss_nil)
      (pss_cons (ps_set (i := 6) sc__law_draw.nd rfl (Or.inl rfl) (pe_op op_mod (pe_callTy call_int1 (by rfl) T.n_int (by decide +kernel) (pa_cons (pe_op op_add (pe_op op_add (pe_op op_mul (pe_op op_mod (pe_callTy call_int1 (by rfl) T.n_int (by decide +kernel) (pa_cons (pv 5) pa_nil)) pe_int) pe_int) (pe_op op_mul (pe_op op_mul pe_int (pv 3)) (pv 3))) pe_int) pa_nil)) pe_int))
      (pss_cons (ps_set (i := 6) sc__law_draw.nd rfl (Or.inl rfl) (pe_op op_mod (pe_callTy call_int1 (by rfl) T.n_int (by decide +kernel) (pa_cons (pe_op op_add (pe_op op_add (pe_op op_add (pe_op op_mul (pv 6) (pv 6)) (pe_op op_mul pe_int (pv 6))) (pe_op op_mul pe_int (pv 3))) pe_int) pa_nil)) pe_int))
      (pss_one (ps_ret (pe_op op_mod (pe_callTy call_int1 (by rfl) T.n_int (by decide +kernel) (pa_cons (pe_op op_fdivW (pe_op op_mod (pe_callTy call_int1 (by rfl) T.n_int (by decide +kernel) (pa_cons (pe_op op_mul (pv 6) (pe_op op_add (pv 6) pe_int)) pa_nil)) pe_int) pe_int) pa_nil)) (pv 1))))))))))), ?_⟩
    have gL : ∀ {H : Hp} {b l : Int}, H p = some (.dK (pk c b l)) → DGet H p (.str "left") (some (.int l)) := fun e => by
      have z := DGet.k (k := Sum.inr ("left" : Str)) e
      rw [pk_left] at z
      exact z
    have gB : ∀ {H : Hp} {b l : Int}, H p = some (.dK (pk c b l)) → DGet H p (.str "begun") (some (.int b)) := fun e => by
      have z := DGet.k (k := Sum.inr ("begun" : Str)) e
      rw [pk_begun] at z
      exact z
    have gC : ∀ {H : Hp} {b l : Int}, H p = some (.dK (pk c b l)) → DGet H p (.str "cells") (some (.ref c)) := fun e => by
      have z := DGet.k (k := Sum.inr ("cells" : Str)) e
      rw [pk_cells] at z
      exact z
    have three : ∀ b l : Int, (pk c b l).length < sizeLine := fun b l => by show 3 < sizeLine; decide
    have pL : ∀ {H : Hp} {b l : Int} (m : Int), H p = some (.dK (pk c b l)) → DPut H p (.str "left") (.int m) (upd H p (.dK (pk c b m))) := fun m e => by
      have z := DPut.k (k := Sum.inr ("left" : Str)) (v := .int m) e (three _ _)
      rw [pk_putL] at z
      exact z
    have pB : ∀ {H : Hp} {b l : Int} (m : Int), H p = some (.dK (pk c b l)) → DPut H p (.str "begun") (.int m) (upd H p (.dK (pk c m l))) := fun m e => by
      have z := DPut.k (k := Sum.inr ("begun" : Str)) (v := .int m) e (three _ _)
      rw [pk_putB] at z
      exact z
    have ncp : c ≠ p := ne_of hc hp (by intro z; cases z)
    -- if pen['left'] > 0
    refine ⟨_, rfl, p, _, rfl, gL hp, _, _, rfl, rfl, _, rfl, ?_⟩
    refine ite2 (fun h0 => ?_) (fun h0 => ?_)
    · -- digit = int(left) % many; left = left // many; return digit
      refine ⟨_, rfl, p, _, rfl, gL hp, .inl ⟨_, rfl, _, rfl, _, _, rfl, rfl, hm0, ?_⟩⟩
      refine ⟨_, rfl, p, _, rfl, gL hp, _, rfl, _, _, rfl, rfl, div_ok hm0 hm1, _, rfl, p, _, rfl, pL _ hp, ?_⟩
      refine ⟨_, rfl, ?_⟩
      refine k _ _ ⟨Kp.upd _ _ _, ⟨b, _, upd_same, by rw [upd_ne ncp]; exact hc, hl, hb0, by omega⟩, B, hpen⟩ (Int.emod_nonneg _ (by omega)) (Int.emod_lt_of_pos _ hm0)
    · -- place, size = begun, len(cells); begun = place + 1
      refine ⟨_, rfl, p, _, rfl, gB hp, _, rfl, p, _, rfl, gC hp, c, _, rfl, .inl (SqL.of hc), _, _, rfl, ?_⟩
      refine ⟨_, rfl, _, _, rfl, rfl, _, rfl, p, _, rfl, pB _ hp, ?_⟩
      have hp1 : upd H p (.dK (pk c (b + 1) l)) p = some (.dK (pk c (b + 1) l)) := upd_same
      have hc1 : upd H p (.dK (pk c (b + 1) l)) c = some (.lst (ns.map V.int)) := by rw [upd_ne ncp]; exact hc
      have k1 : Kp p H (upd H p (.dK (pk c (b + 1) l))) := Kp.upd _ _ _
      have pen1 : Pen c ns (upd H p (.dK (pk c (b + 1) l))) p (B + 1) := ⟨b + 1, l, hp1, hc1, hl, by omega, by omega⟩
      generalize upd H p (.dK (pk c (b + 1) l)) = H1 at hp1 hc1 k1 pen1 ⊢
      -- told: some int
      try dsimp only
      refine seqIf_cut (fun v H' => H' = H1 ∧ ∃ z, v = .int z) (fun Q' q' => ?_) (fun v H' hv => ?_)
      · refine ⟨_, rfl, _, _, rfl, rfl, _, rfl, ?_⟩
        refine ite2 (fun h1 => ?_) (fun h1 => ?_)
        · have h1 : (0 : Int) < ((ns.map V.int).length : Nat) := of_decide_eq_true h1
          rw [List.length_map] at h1
          have e0 : 0 ≤ b % (ns.length : Int) := Int.emod_nonneg _ (by omega)
          have e1 : b % (ns.length : Int) < (ns.length : Int) := Int.emod_lt_of_pos _ h1
          have e2 : (b % (ns.length : Int)).toNat < ns.length := by omega
          refine ⟨_, rfl, p, _, rfl, gC hp1, ?_⟩
          refine ⟨_, rfl, .inl ⟨_, rfl, _, rfl, _, _, rfl, rfl, (by rw [List.length_map]; exact h1), c, ns.map V.int, _, V.int ns[(b % (ns.length : Int)).toNat], rfl, rfl, SqL.of hc1, ?_, q' _ _ ⟨rfl, _, rfl⟩⟩⟩
          rw [List.length_map]
          refine at_of (j := (b % (ns.length : Int)).toNat) (by omega) ?_
          rw [List.getElem?_map, List.getElem?_eq_getElem e2]
          rfl
        · refine ⟨_, rfl, _, _, rfl, rfl, mul_small (by omega), _, _, rfl, rfl, q' _ _ ⟨rfl, _, rfl⟩⟩
      obtain ⟨rfl, z, rfl⟩ := hv
      refine seqIfS_cut ?_ (fun N q => ?_)
      · -- the blend
        have m0 := Int.emod_nonneg z (show (4294967279 : Int) ≠ 0 by decide)
        have m1 := Int.emod_lt_of_pos z (show (0 : Int) < 4294967279 by decide)
        refine ⟨_, rfl, .inl ⟨_, rfl, _, _, rfl, rfl, (by show (0 : Int) < _; decide), _, _, rfl, rfl, mul_small (by omega), ?_⟩⟩
        refine ⟨_, rfl, _, _, rfl, rfl, mul_small (by omega), _, rfl, _, _, rfl, rfl, mul_small (by omega), _, _, rfl, rfl, _, _, rfl, rfl, .inl ⟨_, rfl, _, _, rfl, rfl, (by show (0 : Int) < _; decide), ?_⟩⟩
        generalize hx : (z % 4294967279 * 44621 + 28657 * b * b + 1543) % 4294967291 = x
        have x0 : 0 ≤ x := by rw [← hx]; exact Int.emod_nonneg _ (by decide)
        have x1 : x < 4294967291 := by rw [← hx]; exact Int.emod_lt_of_pos _ (by decide)
        clear hx
        refine ⟨_, rfl, _, rfl, _, _, rfl, rfl, mul_small (by omega), _, rfl, _, _, rfl, rfl, mul_small (by omega), _, _, rfl, rfl, _, rfl, _, _, rfl, rfl, mul_small (by omega), _, _, rfl, rfl, _, _, rfl, rfl, .inl ⟨_, rfl, _, _, rfl, rfl, (by show (0 : Int) < _; decide), ?_⟩⟩
        generalize hy : (x * x + 66047 * x + 37 * b + 11) % 4294967231 = y
        have y0 : 0 ≤ y := by rw [← hy]; exact Int.emod_nonneg _ (by decide)
        have y1 : y < 4294967231 := by rw [← hy]; exact Int.emod_lt_of_pos _ (by decide)
        clear hy
        refine ⟨_, rfl, _, rfl, _, _, rfl, rfl, _, _, rfl, rfl, mul_small (by omega), .inl ⟨_, rfl, _, _, rfl, rfl, (by show (0 : Int) < _; decide), _, _, rfl, rfl, div_ok (by decide) (by decide), .inl ⟨_, rfl, _, rfl, _, _, rfl, rfl, hm0, ?_⟩⟩⟩
        exact k _ _ ⟨k1, pen1, B, hpen⟩ (Int.emod_nonneg _ (by omega)) (Int.emod_lt_of_pos _ hm0)
      · refine ⟨_, rfl, _, rfl, _, _, rfl, rfl, _, rfl, ?_⟩
        refine ite2 (fun h1 => ?_) (fun h1 => ?_)
        · refine ⟨_, rfl, _, rfl, _, _, rfl, rfl, (by refine ⟨by decide, by decide, by decide⟩), _, _, rfl, rfl, _, rfl, ?_⟩
          refine ite2 (fun h2 => ?_) (fun h2 => q)
          refine ⟨_, rfl, _, rfl, _, _, rfl, rfl, (by refine ⟨by decide, by decide, by decide⟩), _, _, rfl, rfl, _, rfl, _, _, rfl, rfl, div_ok hm0 hm1, _, rfl, p, _, rfl, pL _ hp1, ?_⟩
          refine ⟨_, rfl, _, rfl, _, _, rfl, rfl, (by refine ⟨by decide, by decide, by decide⟩), _, _, rfl, rfl, .inl ⟨_, rfl, _, rfl, _, _, rfl, rfl, hm0, ?_⟩⟩
          refine k _ _ ⟨k1.trans (Kp.upd _ _ _), ⟨b + 1, _, upd_same, by rw [upd_ne ncp]; exact hc1, hl, by omega, by omega⟩, B, hpen⟩ (Int.emod_nonneg _ (by omega)) (Int.emod_lt_of_pos _ hm0)
        · exact iteF q
end
end Ask

namespace Ask
open PySem L2
section
variable {P : Program} {w : World} {K : PySem.W.Frag} {mg : Str → Option Value} {base : Heap}
/-! ### the pen -/
def spPen (K : PySem.W.Frag) : Sp := fun vs H Q _ => ∃ (a : Addr) (ns : List Int), vs = [.ref a] ∧ SqL K H a (ns.map V.int) ∧ ns.length ≤ 63 ∧
  ∀ (H' : Hp) (p c : Addr), Same H H' → H p = none → Pen c ns H' p 0 → Q (.ref p) H'
abbrev s__law_pen : Stmt := top 17
theorem sc__law_pen : FnScope ["_law_script"] ["_law_script"] (defScope s__law_pen) := ⟨rfl, rfl, rfl, by decide +kernel, rfl, by decide +kernel, by decide +kernel⟩
theorem pk_made (c : Addr) (b l : Int) : mergeK [] [(Sum.inr ("cells" : Str), .ref c), (Sum.inr ("begun" : Str), .int b), (Sum.inr ("left" : Str), .int l)] = pk c b l := by
  have e1 : putK ([] : List (Key × V)) (Sum.inr ("cells" : Str)) (.ref c) = [(Sum.inr ("cells" : Str), .ref c)] := putK_new _ rfl
  have e2 : putK [((Sum.inr ("cells" : Str) : Key), V.ref c)] (Sum.inr ("begun" : Str)) (.int b) = [(Sum.inr ("cells" : Str), .ref c), (Sum.inr ("begun" : Str), .int b)] :=
    putK_new _ ((valV_neg (fun z => kBC z.symm)).trans rfl)
  have e3 : putK [((Sum.inr ("cells" : Str) : Key), V.ref c), (Sum.inr ("begun" : Str), .int b)] (Sum.inr ("left" : Str)) (.int l) = pk c b l :=
    putK_new _ ((valV_neg (fun z => kLC z.symm)).trans ((valV_neg (fun z => kLB z.symm)).trans rfl))
  unfold mergeK
  simp only [List.foldl_cons, List.foldl_nil]
  rw [e1, e2, e3]
theorem at_by {α : Type} {xs : List α} {z : Int} {j : Nat} {v : α} (e : z = (j : Int)) (h : xs[j]? = some v) : atI xs z = some v := by
  subst e
  exact atI_nat h
theorem cutV_whole (xs : List V) (n : Nat) (h : xs.length ≤ n) : cutV xs none (some (n : Int)) = xs := by
  unfold cutV
  rw [HT.sIx_none, HT.sIx_nat, List.drop_zero, Nat.sub_zero, Nat.min_eq_right h, List.take_length]
theorem ok_pen {f : Addr} {fd : FuncData} (F : Fun K "_law_pen" "_law_pen" s__law_pen f fd) (T : Blt mg) : FnOk P w K mg base CX0 1 f fd ["_law_script"] (spPen K) := by
  refine F.ok sc__law_pen (fun vs H Q E h => ?_) (fun cdv A outer s H vs Q E hr h => ?_)
  · obtain ⟨a, ns, rfl, _⟩ := h
    rfl
  · obtain ⟨a, ns, rfl, hS, hl, k⟩ := h
    refine ⟨_, (pss_one (ps_ret (pe_disp (pps_cons pe_str (pe_callTy call_list_of (by rfl) T.n_list (by decide +kernel) (pa_cons (pe_slice sl_list (pv 0) po_none (po_some pe_int)) pa_nil)) (pps_cons pe_str pe_int (pps_cons pe_str pe_int pps_nil))) (by rfl) (by rfl) (fun z => by cases z) (by decide)))), ?_⟩
    intro p hp
    have s0 : Same H (upd H p (.dK [])) := fun b o e => by rw [upd_ne (ne_of_none e hp)]; exact e
    refine ⟨_, rfl, _, rfl, a, _, rfl, s0.seq hS, fun q hq => ?_⟩
    rw [show cutV (ns.map V.int) none (some 63) = ns.map V.int from cutV_whole _ 63 (by rw [List.length_map]; exact hl)]
    refine ⟨q, _, rfl, .inl (SqL.of upd_same), fun c hc => ?_⟩
    have npq : p ≠ q := ne_of_none upd_same hq
    have hq0 : H q = none := by
      rw [upd_ne npq.symm] at hq
      exact hq
    have ncq : c ≠ q := fun e => by
      rw [e, upd_same] at hc
      cases hc
    have hc1 : upd H p (.dK []) c = none := by
      rw [upd_ne ncq] at hc
      exact hc
    have npc : p ≠ c := ne_of_none upd_same hc1
    have hc0 : H c = none := by
      rw [upd_ne npc.symm] at hc1
      exact hc1
    refine ⟨by rw [upd_ne npc, upd_ne npq, upd_same], [(Sum.inr ("cells" : Str), .ref c), (Sum.inr ("begun" : Str), .int 0), (Sum.inr ("left" : Str), .int 0)], rfl, (by show 3 ≤ 15; decide), ?_⟩
    rw [pk_made]
    refine k _ p c (fun b o e => ?_) hp ⟨0, 0, upd_same, by rw [upd_ne npc.symm, upd_same], hl, Int.le_refl _, Int.le_refl _⟩
    rw [upd_ne (ne_of_none e hp), upd_ne (ne_of_none e hc0), upd_ne (ne_of_none e hq0), upd_ne (ne_of_none e hp)]
    exact e

/-! ### the pick -/
def spPick (K : PySem.W.Frag) : Sp := fun vs H Q _ => ∃ (p c : Addr) (ns : List Int) (x : V) (B : Nat), vs = [.ref p, x] ∧ Pen c ns H p B ∧ B ≤ 1000000000 ∧
  ((∃ a xs, x = .ref a ∧ SqL K H a xs ∧ 0 < xs.length ∧ xs.length ≤ 1000 ∧ ∀ (H' : Hp) (v : V), Go p c ns H H' (B + 1) → v ∈ xs → Q v H') ∨
    (∃ z : Str, x = .str z ∧ 0 < z.length ∧ z.length ≤ 1000 ∧ ∀ (H' : Hp) (i : Nat), Go p c ns H H' (B + 1) → i ∈ z.cps.toList → Q (.str ⟨#[i]⟩) H'))
abbrev s__law_pick : Stmt := top 19
theorem sc__law_pick : FnScope ["_law_pen_here", "_law_options"] ["_law_pen_here", "_law_options"] (defScope s__law_pick) := ⟨rfl, rfl, rfl, by decide +kernel, rfl, by decide +kernel, by decide +kernel⟩
/-- a def of the text called by its name: where it stands, that it stays, how its arguments bind -/
structure At (K : PySem.W.Frag) (mg : Str → Option Value) (x : Str) (f : Addr) (fd : FuncData) (ps : List Str) : Prop where
  m : mg x = some (.ref f)
  k : PySem.W.keepIn K (.ref f) = true
  b : Binds K fd ps []
theorem ok_pick {f fD : Addr} {fd fdD : FuncData} (F : Fun K "_law_pick" "_law_pick" s__law_pick f fd) (T : Blt mg) (GD : FnOk P w K mg base CX0 1 fD fdD ["_law_pen_here", "_law_many"] spDraw) (D : At K mg "_law_draw" fD fdD ["_law_pen_here", "_law_many"]) :
    FnOk P w K mg base CX0 2 f fd ["_law_pen_here", "_law_options"] (spPick K) := by
  refine F.ok sc__law_pick (fun vs H Q E h => ?_) (fun cdv A outer s H vs Q E hr h => ?_)
  · obtain ⟨p, c, ns, x, B, rfl, _⟩ := h
    rfl
  · obtain ⟨p, c, ns, x, B, rfl, hpen, hB, h⟩ := h
    refine ⟨_, (pss_one (ps_ret (pe_ix ix_seq (pv 1) (pe_call GD hr (by rfl) D.m D.k D.b .nil pass0 (pa_cons (pv 0) (pa_cons (pe_callB call_len (by rfl) T.n_len (by decide +kernel) (pa_cons (pv 1) pa_nil)) pa_nil))) (fun _ _ => rfl)))), ?_⟩
    have sl : (1000 : Nat) ≤ sizeLine := by decide
    rcases h with ⟨a, xs, rfl, hS, h0, h1, k⟩ | ⟨z, rfl, h0, h1, k⟩
    · refine ⟨_, rfl, _, rfl, _, rfl, _, xs.length, rfl, .inl ⟨xs, hS, rfl⟩, p, c, ns, _, B, rfl, hpen, hB, by omega, by omega, fun H' r g r0 r1 => ?_⟩
      have hi : r.toNat < xs.length := by omega
      exact .inl ⟨a, xs, r, xs[r.toNat], rfl, rfl, g.seq hS, at_of (j := r.toNat) (by omega) (List.getElem?_eq_getElem hi), k H' _ g (List.getElem_mem hi)⟩
    · refine ⟨_, rfl, _, rfl, _, rfl, _, z.length, rfl, ⟨by omega, rfl⟩, p, c, ns, _, B, rfl, hpen, hB, by omega, by omega, fun H' r g r0 r1 => ?_⟩
      have hi : r.toNat < z.cps.toList.length := by
        have e : z.cps.toList.length = z.length := by simp [Str.length]
        omega
      exact .inr (.inr ⟨z, r, z.cps.toList[r.toNat], rfl, rfl, by omega, at_by (j := r.toNat) (by omega) (List.getElem?_eq_getElem hi), k H' _ g (List.getElem_mem hi)⟩)
end
end Ask

namespace Ask
open PySem L2
/-- if c: body else: other, its ways met in Mid -/
theorem seqIf_mid {c : TT} {t v u : TS} {D : Ends} {σ : L2.St} {H : Hp} (Mid : L2.St → Hp → Prop) (h : ∀ N : L2.St → Hp → Prop, (∀ σ' H', Mid σ' H' → N σ' H') → tIfS c t v { D with nx := N } σ H) (hq : ∀ σ' H', Mid σ' H' → u D σ' H') :
    tSeq (tIfS c t v) u D σ H := h (u D) hq
theorem len_sum1 : ∀ ys : List Str, (∀ y ∈ ys, y.length = 1) → (ys.map (·.length)).sum = ys.length
  | [], _ => rfl
  | y :: r, h => by
    rw [List.map_cons, List.sum_cons, List.length_cons, len_sum1 r (fun z hz => h z (List.mem_cons_of_mem _ hz)), h y (List.mem_cons_self ..)]
    omega
theorem join_len1 (ys : List Str) (h : ∀ y ∈ ys, y.length = 1) : (Txt.join (Str.ofString "") ys).length = ys.length := by
  rw [TL.join_eq]
  cases ys with
  | nil => rfl
  | cons a r =>
    rw [PyProof.Rows.len_join_cons, len_sum1 _ h]
    show _ + r.length * 0 = _
    omega
/-- all signs below 128 -/
def Asc (z : Str) : Prop := ∀ c ∈ z.cps.toList, c < 128
theorem Asc.app {a b : Str} (h : Asc a) (k : Asc b) : Asc (a ++ b) := fun c hc => by
  have e : (a ++ b).cps.toList = a.cps.toList ++ b.cps.toList := by
    rw [Str.cps_append, Array.toList_append]
  rw [e] at hc
  rcases List.mem_append.mp hc with z | z
  · exact h c z
  · exact k c z
theorem Asc.cut {a : Str} (h : Asc a) (lo hi : Option Int) : Asc (cutS a lo hi) := fun c hc => h c (List.mem_of_mem_drop (List.mem_of_mem_take hc))
theorem Asc.one {c : Nat} (h : c < 128) : Asc ⟨#[c]⟩ := fun d hd => by
  have e : d = c := by simpa using hd
  rw [e]
  exact h
theorem Asc.lit {s : String} (h : ((Str.ofString s).cps.toList.all fun c => decide (c < 128)) = true) : Asc (Str.ofString s) := fun c hc => of_decide_eq_true (List.all_eq_true.mp h c hc)
theorem Asc.joined : ∀ ys : List Str, (∀ y ∈ ys, Asc y) → Asc (Str.join (Str.ofString "") ys)
  | [], _ => fun c hc => by cases hc
  | [y], h => h y (List.mem_cons_self ..)
  | y :: z :: r, h => ((h y (List.mem_cons_self ..)).app (.lit rfl)).app (Asc.joined (z :: r) fun x hx => h x (List.mem_cons_of_mem _ hx))
theorem Asc.join (ys : List Str) (h : ∀ y ∈ ys, Asc y) : Asc (Txt.join (Str.ofString "") ys) := by
  rw [TL.join_eq]
  exact Asc.joined ys h
def small : Str := "abcdefghijklmnopqrstuvwxyz"
def signs : Str := "abcdefghijklmnopqrstuvwxyz0123456789"
theorem small_len : small.length = 26 := by decide +kernel
theorem signs_len : signs.length = 36 := by decide +kernel
theorem small_asc : Asc small := .lit (by decide +kernel)
theorem signs_asc : Asc signs := .lit (by decide +kernel)
section
variable {P : Program} {w : World} {K : PySem.W.Frag} {mg : Str → Option Value} {base : Heap}
/-- many new texts in a new list -/
def spLetters : Sp := fun vs H Q _ => ∃ (p c : Addr) (ns : List Int) (m : Int) (B : Nat), vs = [.ref p, .int m] ∧ Pen c ns H p B ∧ B ≤ 500000000 ∧ 0 ≤ m ∧ m ≤ 100 ∧
  ∀ (H' : Hp) (q : Addr) (ys : List Str), Go p c ns H H' (B + 300) → H q = none → H' q = some (.lst (ys.map V.str)) → (ys.length : Int) = m → (∀ y ∈ ys, y.length ≤ 200 ∧ Asc y) → Q (.ref q) H'
abbrev s__law_letters : Stmt := top 20
theorem sc__law_letters : FnScope ["_law_pen_here", "_law_many", "_law_small", "_law_signs", "_law_stem", "_law_at", "_law_front", "_law_choice", "_law_step", "_law_tail", "_law_found", "_law_k", "_law_sign", "_law_word"] ["_law_pen_here", "_law_many"] (defScope s__law_letters) := ⟨rfl, rfl, rfl, by decide +kernel, rfl, by decide +kernel, by decide +kernel⟩
def nLet : List Str := ["_law_pen_here", "_law_many", "_law_small", "_law_signs", "_law_stem", "_law_at", "_law_front", "_law_choice", "_law_step", "_law_tail", "_law_found", "_law_k", "_law_sign", "_law_word"]
/-- what the block of the n signs leaves -/
def Sgs (p c : Addr) (ns : List Int) (H0 : Hp) (D : Addr) (B i : Nat) (H : Hp) : Prop := ∃ ys : List Str, Go p c ns H0 H (B + i) ∧ H D = some (.lst (ys.map V.str)) ∧ ys.length = i ∧ ∀ y ∈ ys, y.length = 1 ∧ Asc y
theorem Sgs.next {p c D : Addr} {ns : List Int} {H0 H H' : Hp} {B i j : Nat} (h : Sgs p c ns H0 D B i H) (h0 : H0 D = none) (g : Go p c ns H H' (B + i + 1)) (hi : i ≤ 1000) (hj : j < 128) :
    ∃ acc, H' D = some (.lst acc) ∧ acc.length < sizeLine ∧ Sgs p c ns H0 D B (i + 1) (upd H' D (.lst (acc ++ [.str ⟨#[j]⟩]))) := by
  obtain ⟨ys, g0, hD, hl, h1⟩ := h
  refine ⟨_, g.lst hD, ?_, ys ++ [⟨#[j]⟩], ((g0.step g).mut h0).mono (by omega), ?_, ?_, ?_⟩
  · rw [List.length_map]
    exact small1000 (by omega)
  · rw [upd_same, List.map_append]
    rfl
  · rw [List.length_append, hl]
    rfl
  · intro y hy
    rcases List.mem_append.mp hy with z | z
    · exact h1 y z
    · rw [List.mem_singleton.mp z]
      exact ⟨rfl, .one hj⟩
theorem ok_letters {f fD fP : Addr} {fd fdD fdP : FuncData} (F : Fun K "_law_letters" "_law_letters" s__law_letters f fd) (T : Blt mg)
    (GD : FnOk P w K mg base CX0 1 fD fdD ["_law_pen_here", "_law_many"] spDraw) (D : At K mg "_law_draw" fD fdD ["_law_pen_here", "_law_many"])
    (GP : FnOk P w K mg base CX0 2 fP fdP ["_law_pen_here", "_law_options"] (spPick K)) (C : At K mg "_law_pick" fP fdP ["_law_pen_here", "_law_options"]) :
    FnOk P w K mg base CX0 3 f fd ["_law_pen_here", "_law_many"] spLetters := by
  refine F.ok sc__law_letters (fun vs H Q E h => ?_) (fun cdv A outer s H vs Q E hr h => ?_)
  · obtain ⟨p, c, ns, m, B, rfl, _⟩ := h
    rfl
  · obtain ⟨p, c, ns, m, B, rfl, hpen, hB, hm0, hm1, k⟩ := h
    have hr1 : Room 1 _ := hr.mono (by decide)
    refine ⟨_, (pss_cons (ps_asg (pe_tup (pa_cons pe_str (pa_cons pe_str pa_nil))) (pg_tup rfl (pgs_cons (pg_name (i := 2) sc__law_letters.nd rfl (Or.inr rfl)) (pgs_cons (pg_name (i := 3) sc__law_letters.nd rfl (Or.inr rfl)) pgs_nil))))
      (pss_cons (ps_set (i := 4) sc__law_letters.nd rfl (Or.inl rfl) (pe_join pe_str (pe_lc (own := [("_law_k", 11)]) rfl sc__law_letters.nd (pi_range1 rfl T.n_range (pa_cons (pe_callB (call_min2 rfl) (by rfl) T.n_min (by decide +kernel) (pa_cons pe_int (pa_cons (pe_call GD hr1 (by rfl) D.m D.k D.b .nil pass0 (pa_cons (pv 0) (pa_cons pe_int pa_nil))) pa_nil))) pa_nil)) (blkOk_by (N := nLet) (sc := defScope s__law_letters) (by decide +kernel)) (fun _ _ _ _ _ => (pg_name (i := 11) sc__law_letters.nd rfl (Or.inl rfl))) (fun _ _ _ _ _ => pts_nil) (fun _ _ _ _ _ => (pe_call GP (by exact hr) (by rfl) C.m C.k C.b .nil pass0 (pa_cons (pv 0) (pa_cons (pv 2) pa_nil)))))))
      (pss_cons (ps_set (i := 4) sc__law_letters.nd rfl (Or.inl rfl) (pe_op op_add_str (pv 4) (pe_join pe_str (pe_lc (own := [("_law_k", 11)]) rfl sc__law_letters.nd (pi_range1 rfl T.n_range (pa_cons (pe_op op_mul (pe_call GD hr1 (by rfl) D.m D.k D.b .nil pass0 (pa_cons (pv 0) (pa_cons pe_int pa_nil))) (pe_callB call_len_str (by rfl) T.n_len (by decide +kernel) (pa_cons (pv 4) pa_nil))) pa_nil)) (blkOk_by (N := nLet) (sc := defScope s__law_letters) (by decide +kernel)) (fun _ _ _ _ _ => (pg_name (i := 11) sc__law_letters.nd rfl (Or.inl rfl))) (fun _ _ _ _ _ => pts_nil) (fun _ _ _ _ _ => (pe_call GP (by exact hr) (by rfl) C.m C.k C.b .nil pass0 (pa_cons (pv 0) (pa_cons (pv 3) pa_nil))))))))
      (pss_cons (ps_par (i := 5) (j := 6) rfl sc__law_letters.nd rfl rfl (by decide) rfl rfl (pa_cons (pe_call GD hr1 (by rfl) D.m D.k D.b .nil pass0 (pa_cons (pv 0) (pa_cons (pe_op op_add (pe_callB call_len_str (by rfl) T.n_len (by decide +kernel) (pa_cons (pv 4) pa_nil)) pe_int) pa_nil))) (pa_cons (pe_call GD hr1 (by rfl) D.m D.k D.b .nil pass0 (pa_cons (pv 0) (pa_cons pe_int pa_nil))) pa_nil)) (by rfl))
      (pss_cons (ps_set (i := 7) sc__law_letters.nd rfl (Or.inl rfl) (pe_ifExp (pt_cmpR op_gt (pv 5) pe_int (nomark _)) (pv 3) (pv 2)))
      (pss_cons (ps_par3 (i := 8) (j := 9) (l := 10) rfl sc__law_letters.nd rfl rfl rfl (by decide) (by decide) (by decide) rfl rfl rfl (pa_cons (pe_call GP hr (by rfl) C.m C.k C.b .nil pass0 (pa_cons (pv 0) (pa_cons (pe_lst (pa_cons pe_int (pa_cons pe_int (pa_cons pe_int (pa_cons pe_int (pa_cons pe_int (pa_cons pe_int (pa_cons pe_int (pa_cons pe_int pa_nil))))))))) pa_nil))) (pa_cons (pe_slice sl_str (pv 4) (po_some (pv 5)) po_none) (pa_cons (pe_lst pa_nil) pa_nil))) (by rfl))
      (pss_cons (ps_for PassesOwn.never rfl (pi_range1 rfl T.n_range (pa_cons (pv 1) pa_nil)) (pg_name (i := 11) sc__law_letters.nd rfl (Or.inl rfl)) (pss_cons (ps_set (i := 12) sc__law_letters.nd rfl (Or.inl rfl) (pe_ix ix_str (pv 7) (pe_op op_mod (pe_callTy call_int1 (by rfl) T.n_int (by decide +kernel) (pa_cons (pe_op op_add (pv 6) (pe_op op_mul (pv 8) (pv 11))) pa_nil)) (pe_callB call_len_str (by rfl) T.n_len (by decide +kernel) (pa_cons (pv 7) pa_nil))) (fun _ _ => rfl)))
      (pss_cons (ps_set (i := 13) sc__law_letters.nd rfl (Or.inl rfl) (pe_op op_add_str (pe_op op_add_str (pe_slice sl_str (pv 4) po_none (po_some (pv 5))) (pv 12)) (pe_slice sl_str (pv 9) po_none (po_some (pe_op op_sub (pe_callB call_len_str (by rfl) T.n_len (by decide +kernel) (pa_cons (pv 9) pa_nil)) (pe_op op_mul (pv 11) (pe_callTy call_int1 (by rfl) T.n_int (by decide +kernel) (pa_cons (pe_cmpR op_lt (pv 11) pe_int (nomark _)) pa_nil))))))))
      (pss_cons (ps_if (pt_cmpR op_in_seq (pv 13) (pe_tup (pa_cons pe_str (pa_cons pe_str pa_nil))) rfl) (pss_one (ps_set (i := 13) sc__law_letters.nd rfl (Or.inl rfl) (pe_op op_add_str (pv 13) pe_str))) pss_nil)
      (pss_cons (ps_if (PW.pt (pw_and (pt_cmpR op_gt (pv 11) pe_int (nomark _)) (pw_and (pt_cmpR op_ne (pe_slice sl_str (pe_ix ix_list (pv 10) (pe_un un_neg pe_int) (fun _ _ => rfl)) po_none (po_some pe_int)) pe_str (nomark _)) (pw_and1 (pt_cmpR op_eq (pe_call GD hr1 (by rfl) D.m D.k D.b .nil pass0 (pa_cons (pv 0) (pa_cons pe_int pa_nil))) pe_int (nomark _)))))) (pss_one (ps_set (i := 13) sc__law_letters.nd rfl (Or.inl rfl) (pe_ix ix_list (pv 10) (pe_un un_neg pe_int) (fun _ _ => rfl)))) pss_nil)
      (pss_one (ps_expr (pe_bm PySem.F.plainAttrs_list PySem.F.slot_list_append PySem.F.type_list_append mt_append (pv 10) (pa_cons (pe_ifExp (PW.pt (pw_and (pt_cmpR op_notIn_seq (pv 13) (pv 10) rfl) (pw_and1 (pt_cmpR op_gt (pe_call GD hr1 (by rfl) D.m D.k D.b .nil pass0 (pa_cons (pv 0) (pa_cons pe_int pa_nil))) pe_int (nomark _))))) (pv 13) (pe_op op_add_str pe_str (pv 13))) pa_nil)))))))))
      (pss_one (ps_ret (pv 10)))))))))), ?_⟩
    have g0 := Go.refl hpen
    -- small, signs
    refine ⟨by show 2 ≤ sizeLine; decide, fun t1 ht1 => ⟨t1, _, rfl, SqT.of upd_same, rfl, _, _, rfl, _, _, rfl, rfl, ?_⟩⟩
    have g1 := g0.new (o := .tup [.str small, .str signs]) ht1
    change Go p c ns H (upd H t1 (.tup [.str "abcdefghijklmnopqrstuvwxyz", .str "abcdefghijklmnopqrstuvwxyz0123456789"])) B at g1
    generalize upd H t1 _ = H1 at g1 ⊢
    -- stem, its first sign or none
    refine ⟨⟨_, rfl⟩, _, rfl, p, c, ns, 4, B, rfl, g1.pen, by omega, by decide, by decide, fun H2 r g2 r0 r1 => ⟨1, r, rfl, _, rfl, by split <;> omega, by split <;> omega, fun L hL => ?_⟩⟩
    have g2 := g1.step g2
    have hn : ∃ n : Nat, (if r < 1 then r else 1).toNat = n ∧ n ≤ 1 := ⟨_, rfl, by split <;> omega⟩
    obtain ⟨n, en, hn⟩ := hn
    rw [en]
    have hL0 := g2.free hL
    refine lc_range (lo := 0) (n := n) (Sgs p c ns H L (B + 1)) ⟨[], g2.new hL, upd_same, rfl, by simp⟩ (fun i H3 hi hs => ?_) (fun H3 hs => ?_)
    · obtain ⟨ys, g3, _⟩ := id hs
      refine ⟨rfl, ?_⟩
      exact ⟨_, rfl, _, rfl, p, c, ns, _, B + 1 + i, rfl, g3.pen, by omega, .inr ⟨small, rfl, by rw [small_len]; decide, by rw [small_len]; decide, fun H4 j g4 hj => hs.next hL0 g4 (by omega) (small_asc j hj)⟩⟩
    · obtain ⟨ys, g3, hL3, hl3, h13⟩ := hs
      refine ⟨_, L, ys, rfl, rfl, .inl (SqL.of hL3), (by rw [len_sum1 _ (fun y hy => (h13 y hy).1)]; show ys.length + ys.length * 0 ≤ _; omega), ?_⟩
      have hstem := join_len1 ys (fun y hy => (h13 y hy).1)
      have astem := Asc.join ys (fun y hy => (h13 y hy).2)
      generalize hst : Txt.join (Str.ofString "") ys = stem at hstem astem ⊢
      rw [hl3] at hstem
      clear hst h13 hL3 hl3 ys
      -- stem, further signs
      refine ⟨_, rfl, ⟨_, rfl⟩, _, rfl, p, c, ns, 11, B + 1 + n, rfl, g3.pen, by omega, by decide, by decide, fun H4 r' g4 r0' r1' => ?_⟩
      have g4 := g3.step g4
      refine ⟨_, rfl, stem, rfl, Nat.le_trans (show stem.length ≤ 1000 by omega) (by decide), _, _, rfl, rfl, mul_small (by omega), ?_⟩
      have hn' : ∃ n' : Nat, (r' * (stem.length : Int)).toNat = n' ∧ n' ≤ 10 ∧ r' * (stem.length : Int) = (n' : Int) := by
        rw [hstem]
        have h01 : n = 0 ∨ n = 1 := by omega
        rcases h01 with e | e
        · rw [e]
          exact ⟨0, by simp, by decide, by simp⟩
        · rw [e]
          exact ⟨r'.toNat, by simp, by omega, by simp; omega⟩
      obtain ⟨n', en', hn', ei'⟩ := hn'
      refine ⟨_, rfl, by omega, by omega, fun L' hL' => ?_⟩
      rw [en']
      have hL0' := g4.free hL'
      refine lc_range (lo := 0) (n := n') (Sgs p c ns H L' (B + 3)) ⟨[], (g4.new hL').mono (by omega), upd_same, rfl, by simp⟩ (fun i H5 hi hs => ?_) (fun H5 hs => ?_)
      · obtain ⟨ys, g5, _⟩ := id hs
        refine ⟨rfl, ?_⟩
        exact ⟨_, rfl, _, rfl, p, c, ns, _, B + 3 + i, rfl, g5.pen, by omega, .inr ⟨signs, rfl, by rw [signs_len]; decide, by rw [signs_len]; decide, fun H4 j g4 hj => hs.next hL0' g4 (by omega) (signs_asc j hj)⟩⟩
      · obtain ⟨ys, g5, hL5, hl5, h15⟩ := hs
        refine ⟨_, L', ys, rfl, rfl, .inl (SqL.of hL5), (by rw [len_sum1 _ (fun y hy => (h15 y hy).1)]; show ys.length + ys.length * 0 ≤ _; omega), ?_⟩
        have hmore := join_len1 ys (fun y hy => (h15 y hy).1)
        have amore := Asc.join ys (fun y hy => (h15 y hy).2)
        generalize Txt.join (Str.ofString "") ys = more at hmore amore ⊢
        rw [hl5] at hmore
        clear hL5 h15 hl5 ys
        refine ⟨_, _, rfl, rfl, Nat.le_trans (show stem.length + more.length ≤ 1000 by omega) (by decide), ?_⟩
        have hlen : (stem ++ more).length ≤ 11 := by
          rw [Str.length_append]
          omega
        have alen := astem.app amore
        generalize stem ++ more = stem' at hlen alen ⊢
        replace g5 : Go p c ns H H5 (B + 20) := g5.mono (by omega)
        clear ei' en' hstem hmore g4 g3 g2 g1
        have z1 : (1000 : Nat) ≤ sizeLine := by decide
        -- at, front
        refine ⟨_, rfl, _, rfl, stem', rfl, by omega, _, _, rfl, rfl, p, c, ns, _, B + 20, rfl, g5.pen, by omega, by omega, by omega, fun H6 at_ g6 a0 a1 => ?_⟩
        refine ⟨_, rfl, p, c, ns, 36, B + 20 + 1, rfl, g6.pen, by omega, by decide, by decide, fun H7 fr g7 f0 f1 => ⟨_, _, rfl, ?_⟩⟩
        replace g7 : Go p c ns H H7 (B + 25) := ((g5.step g6).step g7).mono (by omega)
        clear g5 g6
        -- choice
        try dsimp only
        refine seqIf_cut (fun v H' => H' = H7 ∧ ∃ z : Str, v = .str z ∧ 0 < z.length ∧ z.length ≤ 36 ∧ Asc z) (fun Q' q' => ?_) (fun v H' hv => ?_)
        · refine ⟨_, rfl, _, _, rfl, rfl, _, rfl, ?_⟩
          refine ite2 (fun _ => ?_) (fun _ => ?_)
          · exact ⟨_, rfl, q' _ _ ⟨rfl, signs, rfl, by rw [signs_len]; decide, by rw [signs_len]; decide, signs_asc⟩⟩
          · exact ⟨_, rfl, q' _ _ ⟨rfl, small, rfl, by rw [small_len]; decide, by rw [small_len]; decide, small_asc⟩⟩
        obtain ⟨rfl, zc, rfl, zc0, zc1, azc⟩ := hv
        -- step, tail, found
        refine ⟨_, rfl, by show 8 ≤ sizeLine; decide, fun o ho => ⟨p, c, ns, _, B + 25, rfl, (g7.new ho).pen, by omega, .inl ⟨o, _, rfl, SqL.of upd_same, by show 0 < 8; decide, by show 8 ≤ 1000; decide, fun H9 v g9 hv => ?_⟩⟩⟩
        have g9 := (g7.new ho).step g9
        obtain ⟨stp, rfl, st0, st1⟩ : ∃ s : Int, v = .int s ∧ 0 ≤ s ∧ s ≤ 100 := by
          simp only [List.mem_cons, List.not_mem_nil, or_false] at hv
          rcases hv with rfl | rfl | rfl | rfl | rfl | rfl | rfl | rfl <;> exact ⟨_, rfl, by decide, by decide⟩
        refine ⟨_, rfl, _, rfl, _, rfl, _, rfl, by omega, Nat.zero_le _, fun q hq => ⟨_, _, _, rfl, ?_⟩⟩
        have htl : (cutS stem' (some at_) none).length ≤ 11 := Nat.le_trans (cutS_length _ _ _) hlen
        have atl := alen.cut (some at_) none
        generalize cutS stem' (some at_) none = tail at htl atl ⊢
        have hq0 := g9.free hq
        have g10 : Go p c ns H (upd H9 q (.lst [])) (B + 60) := (g9.new hq).mono (by omega)
        have hq1 : upd H9 q (.lst []) q = some (.lst (([] : List Str).map V.str)) := upd_same
        generalize upd H9 q (.lst []) = H10 at g10 hq1 ⊢
        clear g9 g7 hv hq ho
        -- the loop
        refine ⟨_, rfl, m, rfl, by omega, by omega, for_range (lo := 0) (n := m.toNat) (fun i σ' H' => ∃ (ys : List Str) (o1 o2 o3 : Option V),
          σ' = [some (.ref p), some (.int m), some (.str small), some (.str signs), some (.str stem'), some (.int at_), some (.int fr), some (.str zc), some (.int stp), some (.str tail), some (.ref q), o1, o2, o3] ∧
          Go p c ns H H' (B + 60 + 2 * i) ∧ H' q = some (.lst (ys.map V.str)) ∧ ys.length = i ∧ ∀ y ∈ ys, y.length ≤ 60 + i ∧ Asc y)
          ⟨[], none, none, none, rfl, g10, hq1, rfl, by simp⟩ ?_ ?_⟩
        · rintro i σ' H11 hi ⟨ys, o1, o2, o3, rfl, g, hL, hl, hb⟩
          have hi' : i ≤ 100 := by omega
          -- sign
          have zl : zc.cps.toList.length = zc.length := by simp [Str.length]
          have x0 : 0 ≤ (fr + stp * (0 + (i : Int))) % (zc.length : Int) := Int.emod_nonneg _ (by omega)
          have x1 : (fr + stp * (0 + (i : Int))) % (zc.length : Int) < (zc.length : Int) := Int.emod_lt_of_pos _ (by omega)
          have xj : ((fr + stp * (0 + (i : Int))) % (zc.length : Int)).toNat < zc.cps.toList.length := by omega
          refine ⟨_, rfl, _, rfl, _, rfl, _, rfl, _, _, rfl, rfl, mul_small (by omega), _, _, rfl, rfl, .inl ⟨_, rfl, _, rfl, zc, rfl, by omega, _, _, rfl, rfl, (by omega), zc, _, zc.cps.toList[((fr + stp * (0 + (i : Int))) % (zc.length : Int)).toNat], rfl, rfl, by omega,
            at_by (j := ((fr + stp * (0 + (i : Int))) % (zc.length : Int)).toNat) (by omega) (List.getElem?_eq_getElem xj), ?_⟩⟩
          have ach := azc _ (List.getElem_mem xj)
          generalize zc.cps.toList[((fr + stp * (0 + (i : Int))) % (zc.length : Int)).toNat] = ch at ach ⊢
          -- word
          refine ⟨_, rfl, _, rfl, _, rfl, stem', rfl, by omega, _, rfl, _, _, rfl, rfl, ?_, ?_⟩
          · have := cutS_length stem' none (some at_)
            show (cutS stem' none (some at_)).length + 1 ≤ sizeLine
            omega
          have hw1 : (cutS stem' none (some at_) ++ (⟨#[ch]⟩ : Str)).length ≤ 12 := by
            rw [Str.length_append]
            have := cutS_length stem' none (some at_)
            show (cutS stem' none (some at_)).length + 1 ≤ 12
            omega
          have aw1 := (alen.cut none (some at_)).app (Asc.one ach)
          generalize cutS stem' none (some at_) ++ (⟨#[ch]⟩ : Str) = w1 at hw1 aw1 ⊢
          refine ⟨_, rfl, _, rfl, tail, rfl, by omega, _, rfl, _, rfl, _, _, rfl, rfl, .inr ⟨_, rfl, _, _, rfl, rfl, mul_small (by omega), _, _, rfl, rfl, _, rfl, tail, rfl, by omega, _, _, rfl, rfl, ?_, ?_⟩⟩
          · have := cutS_length tail none (some ((tail.length : Int) - (0 + (i : Int)) * (if decide (0 + (i : Int) < 2) = true then 1 else 0)))
            omega
          have hw2 : (w1 ++ cutS tail none (some ((tail.length : Int) - (0 + (i : Int)) * (if decide (0 + (i : Int) < 2) = true then 1 else 0)))).length ≤ 23 := by
            rw [Str.length_append]
            have := cutS_length tail none (some ((tail.length : Int) - (0 + (i : Int)) * (if decide (0 + (i : Int) < 2) = true then 1 else 0)))
            omega
          have aw2 := aw1.app (atl.cut none (some ((tail.length : Int) - (0 + (i : Int)) * (if decide (0 + (i : Int) < 2) = true then 1 else 0))))
          generalize w1 ++ cutS tail none (some ((tail.length : Int) - (0 + (i : Int)) * (if decide (0 + (i : Int) < 2) = true then 1 else 0))) = w2 at hw2 aw2 ⊢
          -- new, found
          try dsimp only
          refine seqIf_mid (fun σ' H' => ∃ wd : Str, σ' = [some (.ref p), some (.int m), some (.str small), some (.str signs), some (.str stem'), some (.int at_), some (.int fr), some (.str zc), some (.int stp), some (.str tail), some (.ref q), some (.int (0 + (i : Int))), some (.str ⟨#[ch]⟩), some (.str wd)] ∧
            Go p c ns H H' (B + 60 + 2 * i) ∧ H' q = some (.lst (ys.map V.str)) ∧ wd.length ≤ 24 ∧ Asc wd) (fun N hN => ?_) (fun σ' H' hm => ?_)
          · refine ⟨_, rfl, by show 2 ≤ sizeLine; decide, fun t ht => ⟨t, _, rfl, .inr (SqT.of upd_same), rfl, rfl, _, rfl, ?_⟩⟩
            have gt := g.new (o := .tup [.str "new", .str "found"]) ht
            have hLt : upd H11 t (.tup [.str "new", .str "found"]) q = some (.lst (ys.map V.str)) := by rw [upd_ne (ne_of_none hL ht)]; exact hL
            refine ite2 (fun _ => ?_) (fun _ => hN _ _ ⟨w2, rfl, gt, hLt, by omega, aw2⟩)
            refine ⟨_, rfl, _, _, rfl, rfl, (by show w2.length + 1 ≤ sizeLine; omega), hN _ _ ⟨w2 ++ "0", rfl, gt, hLt, ?_, aw2.app (.lit (by decide +kernel))⟩⟩
            rw [Str.length_append]
            show w2.length + 1 ≤ 24
            omega
          obtain ⟨wd, rfl, g, hL, hwd, awd⟩ := hm
          -- the last one again
          try dsimp only
          refine seqIf_mid (fun σ' H' => ∃ wd : Str, σ' = [some (.ref p), some (.int m), some (.str small), some (.str signs), some (.str stem'), some (.int at_), some (.int fr), some (.str zc), some (.int stp), some (.str tail), some (.ref q), some (.int (0 + (i : Int))), some (.str ⟨#[ch]⟩), some (.str wd)] ∧
            Go p c ns H H' (B + 60 + 2 * i + 1) ∧ H' q = some (.lst (ys.map V.str)) ∧ wd.length ≤ 60 + i ∧ Asc wd) (fun N hN => ?_) (fun σ' H' hm => ?_)
          · have stay : ∀ H', Go p c ns H H' (B + 60 + 2 * i + 1) → H' q = some (.lst (ys.map V.str)) → N [some (.ref p), some (.int m), some (.str small), some (.str signs), some (.str stem'), some (.int at_), some (.int fr), some (.str zc), some (.int stp), some (.str tail), some (.ref q), some (.int (0 + (i : Int))), some (.str ⟨#[ch]⟩), some (.str wd)] H' :=
              fun H' g' h' => hN _ _ ⟨wd, rfl, g', h', by omega, awd⟩
            refine ⟨_, rfl, _, _, rfl, rfl, _, rfl, ite2 (fun h1 => ?_) (fun h1 => iteF (stay _ (g.mono (by omega)) hL))⟩
            have h1 : (0 : Int) < 0 + (i : Int) := of_decide_eq_true h1
            obtain ⟨ys', last, rfl⟩ : ∃ ys' last, ys = ys' ++ [last] := by
              rcases List.eq_nil_or_concat ys with e | ⟨a, b, e⟩
              · rw [e] at hl
                have : (0 : Nat) = i := hl
                omega
              · exact ⟨a, b, by rw [e]; simp⟩
            have hlast : last.length ≤ 60 + i ∧ Asc last := hb last (by simp)
            have hat : atI ((ys' ++ [last]).map V.str) (-1) = some (.str last) := by
              rw [List.map_append]
              exact atI_last _ _
            refine ⟨_, rfl, _, rfl, q, _, _, _, rfl, rfl, SqL.of hL, hat, _, rfl, last, rfl, (by have := hlast.1; omega), rfl, _, rfl, ite2 (fun _ => ?_) (fun _ => iteF (stay _ (g.mono (by omega)) hL))⟩
            refine ⟨_, rfl, p, c, ns, 5, B + 60 + 2 * i, rfl, g.pen, by omega, by decide, by decide, fun H12 r g12 _ _ => ⟨rfl, _, rfl, ?_⟩⟩
            have hL2 := g12.lst hL
            have g13 := g.step g12
            refine ite2 (fun _ => ?_) (fun _ => stay _ g13 hL2)
            exact ⟨_, rfl, _, rfl, q, _, _, _, rfl, rfl, SqL.of hL2, hat, hN _ _ ⟨last, rfl, g13, hL2, hlast⟩⟩
          obtain ⟨wd, rfl, g, hL, hwd, awd⟩ := hm
          -- found.append(..)
          have fin : ∀ (H' : Hp) (wv : Str), Go p c ns H H' (B + 60 + 2 * i + 2) → H' q = some (.lst (ys.map V.str)) → wv.length ≤ 60 + (i + 1) → Asc wv →
              ∃ (ys2 : List Str) (o1 o2 o3 : Option V), [some (V.ref p), some (.int m), some (.str small), some (.str signs), some (.str stem'), some (.int at_), some (.int fr), some (.str zc), some (.int stp), some (.str tail), some (.ref q), some (.int (0 + (i : Int))), some (.str ⟨#[ch]⟩), some (.str wd)] =
                [some (.ref p), some (.int m), some (.str small), some (.str signs), some (.str stem'), some (.int at_), some (.int fr), some (.str zc), some (.int stp), some (.str tail), some (.ref q), o1, o2, o3] ∧
              Go p c ns H (upd H' q (.lst (ys.map V.str ++ [.str wv]))) (B + 60 + 2 * (i + 1)) ∧ upd H' q (.lst (ys.map V.str ++ [.str wv])) q = some (.lst (ys2.map V.str)) ∧ ys2.length = i + 1 ∧ ∀ y ∈ ys2, y.length ≤ 60 + (i + 1) ∧ Asc y := by
            intro H' wv g' h' hv av
            refine ⟨ys ++ [wv], _, _, _, rfl, (g'.mut hq0).mono (by omega), ?_, by rw [List.length_append, hl]; rfl, ?_⟩
            · rw [upd_same, List.map_append]
              rfl
            · intro y hy
              rcases List.mem_append.mp hy with z | z
              · have := (hb y z).1
                exact ⟨by omega, (hb y z).2⟩
              · rw [List.mem_singleton.mp z]
                exact ⟨hv, av⟩
          have hflat : (ys.map V.str).all flatV = true := by
            rw [List.all_eq_true]
            intro x hx
            obtain ⟨y, _, rfl⟩ := List.mem_map.mp hx
            rfl
          have hsz : (ys.map V.str).length < sizeLine := by
            rw [List.length_map]
            omega
          have other : ∀ (H' : Hp), Go p c ns H H' (B + 60 + 2 * i + 2) → H' q = some (.lst (ys.map V.str)) → ("~" ++ wd : Str).length ≤ 60 + (i + 1) := fun _ _ _ => by
            rw [Str.length_append]
            show 1 + wd.length ≤ _
            omega
          refine ⟨_, rfl, .inl ⟨rfl, _, SqL.of hL⟩, ?_⟩
          refine ⟨_, rfl, _, rfl, q, _, rfl, .inl (SqL.of hL), rfl, hflat, _, rfl, ite2 (fun _ => ?_) (fun _ => iteF ?_)⟩
          · refine ⟨_, rfl, p, c, ns, 5, B + 60 + 2 * i + 1, rfl, g.pen, by omega, by decide, by decide, fun H12 r g12 _ _ => ⟨_, _, rfl, rfl, _, rfl, ?_⟩⟩
            have hL2 := g12.lst hL
            have g13 := g.step g12
            refine ite2 (fun _ => ?_) (fun _ => ?_)
            · exact ⟨_, rfl, q, _, _, rfl, rfl, hL2, hsz, fin _ wd g13 hL2 (by omega) awd⟩
            · exact ⟨_, rfl, _, _, rfl, rfl, (by show 1 + wd.length ≤ sizeLine; omega), q, _, _, rfl, rfl, hL2, hsz, fin _ _ g13 hL2 (other _ g13 hL2) (Asc.app (.lit (by decide +kernel)) awd)⟩
          · exact ⟨_, rfl, _, _, rfl, rfl, (by show 1 + wd.length ≤ sizeLine; omega), q, _, _, rfl, rfl, hL, hsz, fin _ _ (g.mono (by omega)) hL (other _ (g.mono (by omega)) hL) (Asc.app (.lit (by decide +kernel)) awd)⟩
        · rintro σ' H11 ⟨ys, o1, o2, o3, rfl, g, hL, hl, hb⟩
          exact ⟨_, rfl, k H11 q ys (g.mono (by omega)) hq0 hL (by omega) (fun y hy => ⟨by have := (hb y hy).1; omega, (hb y hy).2⟩)⟩
end
end Ask

namespace Ask
open PySem L2
theorem pe_gv {X : Cx} {x : Str} {v : V} {pos : Pos} (hg : Gl X x) (h : ∃ u, X.mg x = some u ∧ RelV v u) (hd : (x == ("__debug__" : Str)) = false := by decide) : PE X (.Name x pos) (tC v) := by
  obtain ⟨u, hm, r⟩ := h
  exact pe_glob hg hm r hd
theorem Same.upd_new {H H' : Hp} {p : Addr} {o : HO} (s : Same H H') (h : H p = none) : Same H (upd H' p o) := fun b u e => by
  rw [upd_ne (ne_of_none e h)]
  exact s b u e
theorem Same.made1 {H H' : Hp} {p : Addr} {o : HO} (s : Same H H') (h : H' p = none) : Same H (upd H' p o) := Ask.Same.upd_new s (s.free h)

/-! ### letters, by their signs -/
def smallL : List Nat := small.cps.toList
def signsL : List Nat := signs.cps.toList
def shortL (l : List Nat) : Bool := decide (1 ≤ l.length ∧ l.length ≤ 12) && (match l.head? with | some c => decide (c ∈ smallL) | none => false) && l.all (fun c => decide (c ∈ signsL))
def wordOf (l : List Nat) : List Nat := if l.head? = some 126 then l.drop 1 else l
def newW : Str := "new"
def foundW : Str := "found"
def goodW (z : Str) : Bool := shortL z.cps.toList && !(decide (newW = z) || decide (foundW = z))
def wordS (z : Str) : Str := ⟨(wordOf z.cps.toList).toArray⟩
def isLs (z : Str) : Bool := goodW (wordS z)
def isL : PyData → Bool
  | .str z => isLs z
  | _ => false
/-- the values that the lists of the law hold -/
def Itm (d : PyData) : Prop := d = .none ∨ d = .bool true ∨ d = .int 7 ∨ ∃ z : Str, z.length ≤ 500 ∧ Asc z ∧ (d = .str z ∨ d = .list [.str z] ∨ d = .tuple [.str z])
def isStrD : PyData → Bool
  | .str _ => true
  | _ => false
section
variable {K : PySem.W.Frag} {H : Hp} {v : V} {d : PyData}
theorem ty_list {a : Addr} {xs : List V} (h : SqL K H a xs) : TyX K H (.ref a) (.type "list") := by
  rcases h with (h | ⟨o, h⟩) | ⟨o, _, _, h, c, _⟩
  · exact .base (.lst h)
  · exact .base (.frz h)
  · exact .kList h c
theorem ty_tup {a : Addr} {xs : List V} (h : SqT K H a xs) : TyX K H (.ref a) (.type "tuple") := by
  rcases h with (h | ⟨o, h⟩) | ⟨o, _, _, h, c, _⟩
  · exact .base (.tup h)
  · exact .fTuple h
  · exact .kTuple h c
/-- isinstance(value, str) -/
theorem isi_str (h : Dp K H v d) (hi : Itm d) : ∃ t : Value, TyX K H v t ∧ PySem.W.kitOne K t (.type "str") = some (isStrD d) := by
  rcases hi with rfl | rfl | rfl | ⟨z, _, _, rfl | rfl | rfl⟩
  · cases h
    exact ⟨_, .base .non, kit_ty (by decide +kernel)⟩
  · cases h
    exact ⟨_, .base (.bl _), kit_ty (by decide +kernel)⟩
  · cases h
    exact ⟨_, .base (.int _), kit_ty (by decide +kernel)⟩
  · cases h
    exact ⟨_, .base (.str _), kit_ty (by show kitB "str" "str" = some true; decide +kernel)⟩
  · cases h with
    | lst hs _ => exact ⟨_, ty_list hs, kit_ty (by show kitB "list" "str" = some false; decide +kernel)⟩
  · cases h with
    | tup hs _ => exact ⟨_, ty_tup hs, kit_ty (by show kitB "tuple" "str" = some false; decide +kernel)⟩
end
theorem tl_len (z : Str) : z.cps.toList.length = z.length := by simp [Str.length]
/-- the constants of the package's text -/
structure Gv (K : PySem.W.Frag) (mg : Str → Option Value) : Prop where
  small : ∃ u, mg "SMALL_LETTERS" = some u ∧ RelV (.str small) u
  signs : ∃ u, mg "WORD_SIGNS" = some u ∧ RelV (.str signs) u
  most : ∃ u, mg "MOST_SIGNS" = some u ∧ RelV (.int 12) u
  begins : ∃ (t : Addr) (u : Value), mg "BEGINNINGS" = some u ∧ RelV (.ref t) u ∧ ∀ H, SqT K H t [.str newW, .str foundW]
  mostL : ∃ u, mg "MOST_LETTERS" = some u ∧ RelV (.int 12) u
section
variable {P : Program} {w : World} {K : PySem.W.Frag} {mg : Str → Option Value} {base : Heap}
/-! ### is_short_word -/
def spShort : Sp := fun vs H Q _ => ∃ z : Str, vs = [.str z] ∧ z.length ≤ 500 ∧ ∀ H', Same H H' → Q (.bl (shortL z.cps.toList)) H'
abbrev s_is_short_word : Stmt := top 5
theorem sc_is_short_word : FnScope ["value", "sign"] ["value"] (defScope s_is_short_word) := ⟨rfl, rfl, rfl, by decide +kernel, rfl, by decide +kernel, by decide +kernel⟩
theorem ok_short {f : Addr} {fd : FuncData} (F : Fun K "is_short_word" "is_short_word" s_is_short_word f fd) (T : Blt mg) (C : Gv K mg) : FnOk P w K mg base CX0 1 f fd ["value"] spShort := by
  refine F.ok sc_is_short_word (fun vs H Q E h => ?_) (fun cdv A outer s H vs Q E hr h => ?_)
  · obtain ⟨z, rfl, _⟩ := h
    rfl
  · obtain ⟨z, rfl, hz, k⟩ := h
    refine ⟨_, (pss_cons (ps_if (PW.pt (pw_or (pt_not (pt_val (pe_callB call_isi (by rfl) T.n_isinstance (by decide +kernel) (pa_cons (pv 0) (pa_cons (pe_bltn (v := .ty "str") (u := .type "str") rfl T.n_str (by decide +kernel) rfl) pa_nil))))) (pw_or1 (pt_not (pt_chain op_le op_le pe_int (pe_callB call_len_str (by rfl) T.n_len (by decide +kernel) (pa_cons (pv 0) pa_nil)) (pe_gv rfl C.most)))))) (pss_one (ps_ret pe_bl)) pss_nil)
      (pss_one (ps_ret (pe_and (pe_cmpR op_in_sign (pe_ix ix_str (pv 0) pe_int (fun _ _ => rfl)) (pe_gv rfl C.small) rfl) (pe_one (pe_callB (cr_all rfl) (by rfl) T.n_all (by decide +kernel) (pa_cons (pe_lc (own := [("sign", 1)]) rfl sc_is_short_word.nd (pi_str (pv 0)) (blkOk_by (N := ["value", "sign"]) (sc := defScope s_is_short_word) (by decide +kernel)) (fun _ _ _ _ _ => (pg_name (i := 1) sc_is_short_word.nd rfl (Or.inl rfl))) (fun _ _ _ _ _ => pts_nil) (fun _ _ _ _ _ => (pe_cmpR op_in_sign (pv 1) (pe_gv rfl C.signs) rfl))) pa_nil))))))), ?_⟩
    have z1 : (1000 : Nat) ≤ sizeLine := by decide
    have hl := tl_len z
    refine ⟨_, rfl, _, _, _, _, true, rfl, .ty _, .base (.str _), kit_ty (by decide +kernel), _, rfl, ?_⟩
    refine iteF ⟨_, rfl, z, rfl, by omega, _, _, rfl, rfl, _, rfl, ite2 (fun h1 => ?_) (fun h1 => ?_)⟩
    · have h1 : (1 : Int) ≤ (z.length : Nat) := of_decide_eq_true h1
      refine ⟨_, _, rfl, rfl, _, rfl, ite2 (fun h2 => ?_) (fun h2 => ?_)⟩
      · have h2 : ¬ ((z.length : Nat) : Int) ≤ 12 := fun q => by
          rw [decide_eq_true q] at h2
          cases h2
        have e : shortL z.cps.toList = false := by
          unfold shortL
          rw [decide_eq_false (by omega)]
          rfl
        have := k H (Same.refl H)
        rw [e] at this
        exact this
      · have h2 : ((z.length : Nat) : Int) ≤ 12 := Decidable.byContradiction fun q => h2 (by rw [decide_eq_false q]; rfl)
        obtain ⟨c, r, ec⟩ : ∃ c r, z.cps.toList = c :: r := by
          cases e : z.cps.toList with
          | nil =>
            rw [e] at hl
            have : (0 : Nat) = z.length := hl
            omega
          | cons c r => exact ⟨c, r, rfl⟩
        refine ⟨_, rfl, z, 0, c, rfl, rfl, by omega, by rw [ec]; exact at_by (j := 0) rfl rfl, c, small, rfl, rfl, _, rfl, ite2 (fun h3 => ?_) (fun h3 => ?_)⟩
        · refine ⟨_, rfl, z, rfl, fun L hL => ?_⟩
          refine lc_it walk_str (fun i H' => Same H H' ∧ H' L = some (.lst (((z.cps.toList.take i).map fun c => decide (c ∈ signsL)).map V.bl))) ⟨Ask.Same.upd_new (Same.refl H) hL, upd_same⟩ (fun _ _ _ _ => trivial) (fun i x H1 H2 hi h1 y => ?_) (fun H1 h1 => ?_)
          · obtain ⟨rfl, c', hc', rfl⟩ := y
            obtain ⟨sm, hLL⟩ := h1
            refine ⟨rfl, _, rfl, c', signs, rfl, rfl, _, hLL, ?_, Ask.Same.upd_new sm hL, ?_⟩
            · rw [List.length_map, List.length_map, List.length_take]
              omega
            · rw [upd_same]
              have hc2 : z.cps.toList[i]? = some c' := by rw [Array.getElem?_toList]; exact hc'
              rw [List.take_add_one, hc2]
              simp only [Option.toList_some, List.map_append, List.map_cons, List.map_nil]
              rfl
          · obtain ⟨sm, hLL⟩ := h1
            refine ⟨L, _, rfl, SqL.of hLL, ?_⟩
            have e0 : z.cps.toList.take z.cps.size = z.cps.toList := List.take_of_length_le (by simp)
            rw [e0]
            have e : shortL z.cps.toList = (z.cps.toList.map fun c => decide (c ∈ signsL)).all id := by
              unfold shortL
              rw [decide_eq_true (by omega), ec]
              simp only [List.head?_cons, Bool.true_and]
              rw [show decide (c ∈ smallL) = true from h3, Bool.true_and, List.all_map]
              rfl
            have := k H1 sm
            rw [e] at this
            exact this
        · have e : shortL z.cps.toList = false := by
            unfold shortL
            rw [ec]
            simp only [List.head?_cons]
            rw [show decide (c ∈ smallL) = false from (Bool.not_eq_true _).mp h3, Bool.and_false, Bool.false_and]
          have := k H (Same.refl H)
          rw [e] at this
          exact this
    · have h1 : ¬ (1 : Int) ≤ (z.length : Nat) := fun q => h1 (decide_eq_true q)
      have e : shortL z.cps.toList = false := by
        unfold shortL
        rw [decide_eq_false (by omega)]
        rfl
      refine ⟨_, rfl, ite2 (fun _ => ?_) (fun q => absurd rfl q)⟩
      have := k H (Same.refl H)
      rw [e] at this
      exact this
end
end Ask

namespace Ask
open PySem L2
theorem str_ext {a b : Str} (h : a.cps.toList = b.cps.toList) : a = b := by
  obtain ⟨a⟩ := a
  obtain ⟨b⟩ := b
  have h : a.toList = b.toList := h
  rw [Array.toList_inj.mp h]
theorem starts_tilde (z : Str) : Txt.startswith z (Str.ofString "~") = decide (z.cps.toList.head? = some 126) := by
  obtain ⟨⟨l⟩⟩ := z
  unfold Txt.startswith Builtin.Str.subAt
  have e1 : (Str.ofString "~").cps = #[126] := by decide +kernel
  have e2 : (Str.ofString "~").length = 1 := by decide +kernel
  rw [e1, e2]
  cases l with
  | nil => rfl
  | cons c r =>
    have e3 : (⟨(c :: r)⟩ : Array Nat).extract 0 (0 + 1) = #[c] := by simp
    show (decide (0 + 1 ≤ (c :: r).length) && ((⟨(c :: r)⟩ : Array Nat).extract 0 (0 + 1) == #[126])) = decide (some c = some 126)
    rw [e3, decide_eq_true (by simp), Bool.true_and]
    by_cases h : c = 126
    · subst h
      rfl
    · rw [decide_eq_false (by intro q; exact h (Option.some.inj q))]
      simpa using h
theorem cut_rest (z : Str) : cutS z (some 1) none = ⟨(z.cps.toList.drop 1).toArray⟩ := by
  unfold cutS
  rw [show (some (1 : Int)) = some ((1 : Nat) : Int) from rfl, HT.sIx_nat, HT.sIx_none]
  have hl := tl_len z
  by_cases h : z.length = 0
  · have e : z.cps.toList = [] := List.length_eq_zero_iff.mp (by omega)
    rw [e]
    simp
  · have e : min 1 z.length = 1 := by omega
    rw [e, List.take_of_length_le (by rw [List.length_drop]; omega)]
theorem cut_head (z : Str) : cutS z none (some 1) = ⟨(z.cps.toList.take 1).toArray⟩ := by
  unfold cutS
  rw [show (some (1 : Int)) = some ((1 : Nat) : Int) from rfl, HT.sIx_nat, HT.sIx_none]
  have hl := tl_len z
  by_cases h : z.length = 0
  · have e : z.cps.toList = [] := List.length_eq_zero_iff.mp (by omega)
    rw [e]
    simp
  · have e : min 1 z.length = 1 := by omega
    rw [e, List.drop_zero]
theorem head_tilde (z : Str) : decide (V.str (cutS z none (some 1)) = V.str (Str.ofString "~")) = decide (z.cps.toList.head? = some 126) := by
  rw [cut_head]
  have e1 : (Str.ofString "~").cps.toList = [126] := by decide +kernel
  refine decide_eq_decide.mpr ⟨fun h => ?_, fun h => ?_⟩
  · have h2 : (⟨(z.cps.toList.take 1).toArray⟩ : Str) = Str.ofString "~" := V.str.inj h
    have h3 : z.cps.toList.take 1 = [126] := by
      have := congrArg (fun s : Str => s.cps.toList) h2
      rw [e1] at this
      simpa using this
    cases e : z.cps.toList with
    | nil =>
      rw [e] at h3
      cases h3
    | cons c r =>
      rw [e] at h3
      simp at h3
      rw [h3]
      rfl
  · congr 1
    refine str_ext ?_
    rw [e1]
    cases e : z.cps.toList with
    | nil =>
      rw [e] at h
      cases h
    | cons c r =>
      rw [e] at h
      cases h
      simp
theorem word_tilde {z : Str} (h : decide (z.cps.toList.head? = some 126) = true) : cutS z (some 1) none = wordS z := by
  rw [cut_rest]
  unfold wordS wordOf
  rw [if_pos (of_decide_eq_true h)]
theorem word_plain {z : Str} (h : ¬ decide (z.cps.toList.head? = some 126) = true) : z = wordS z := by
  unfold wordS wordOf
  rw [if_neg fun q => h (decide_eq_true q)]
theorem word_len (z : Str) : (wordS z).length ≤ z.length := by
  unfold wordS wordOf
  have hl := tl_len z
  split
  · show (z.cps.toList.drop 1).toArray.size ≤ _
    rw [List.size_toArray, List.length_drop]
    omega
  · show z.cps.toList.toArray.size ≤ _
    rw [List.size_toArray]
    omega
theorem eq_V (a b : Str) : eqV (.str a) (.str b) = decide (a = b) := by
  show (a == b) = _
  by_cases h : a = b
  · subst h; simp
  · rw [decide_eq_false h]
    simpa using h
section
variable {P : Program} {w : World} {K : PySem.W.Frag} {mg : Str → Option Value} {base : Heap}
def spIsL (K : PySem.W.Frag) : Sp := fun vs H Q _ => ∃ (v : V) (d : PyData), vs = [v] ∧ Dp K H v d ∧ Itm d ∧ ∀ H', Same H H' → Q (.bl (isL d)) H'
theorem itm_str {d : PyData} (hi : Itm d) (h : isStrD d = true) : ∃ z : Str, d = .str z ∧ z.length ≤ 500 ∧ Asc z := by
  rcases hi with rfl | rfl | rfl | ⟨z, h1, h2, rfl | rfl | rfl⟩
  · cases h
  · cases h
  · cases h
  · exact ⟨z, rfl, h1, h2⟩
  · cases h
  · cases h
theorem not_str {d : PyData} (h : ¬ isStrD d = true) : isL d = false := by
  cases d <;> first | rfl | exact absurd rfl h
/-! ### is_letter, the package's -/
abbrev s_is_letter : Stmt := top 14
theorem sc_is_letter : FnScope ["value", "word"] ["value"] (defScope s_is_letter) := ⟨rfl, rfl, rfl, by decide +kernel, rfl, by decide +kernel, by decide +kernel⟩
theorem ok_is_letter {f fS : Addr} {fd fdS : FuncData} (F : Fun K "is_letter" "is_letter" s_is_letter f fd) (T : Blt mg) (C : Gv K mg) (GS : FnOk P w K mg base CX0 1 fS fdS ["value"] spShort) (S : At K mg "is_short_word" fS fdS ["value"]) :
    FnOk P w K mg base CX0 2 f fd ["value"] (spIsL K) := by
  refine F.ok sc_is_letter (fun vs H Q E h => ?_) (fun cdv A outer s H vs Q E hr h => ?_)
  · obtain ⟨v, d, rfl, _⟩ := h
    rfl
  · obtain ⟨v, d, rfl, hd, hi, k⟩ := h
    obtain ⟨tB, uB, mB, rB, qB⟩ := C.begins
    refine ⟨_, (pss_cons (ps_if (pt_not (pt_val (pe_callB call_isi (by rfl) T.n_isinstance (by decide +kernel) (pa_cons (pv 0) (pa_cons (pe_bltn (v := .ty "str") (u := .type "str") rfl T.n_str (by decide +kernel) rfl) pa_nil))))) (pss_one (ps_ret pe_bl)) pss_nil)
      (pss_cons (ps_set (i := 1) sc_is_letter.nd rfl (Or.inl rfl) (pe_ifExp (pt_val (pe_m1 PySem.F.slot_str_startswith PySem.F.type_str_startswith mt_startswith (pv 0) pe_str)) (pe_slice sl_str (pv 0) (po_some pe_int) po_none) (pv 0)))
      (pss_one (ps_ret (pe_and (pe_call GS hr (by rfl) S.m S.k S.b .nil pass0 (pa_cons (pv 1) pa_nil)) (pe_one (pe_cmpR op_notIn_seq (pv 1) (pe_glob rfl mB rB) rfl))))))), ?_⟩
    obtain ⟨ty, hty, hkt⟩ := isi_str hd hi
    refine ⟨_, rfl, v, _, ty, _, isStrD d, rfl, .ty _, hty, hkt, _, rfl, ite2 (fun h1 => ?_) (fun h1 => ?_)⟩
    · have h1 : ¬ isStrD d = true := by intro q; rw [q] at h1; cases h1
      have := k H (Same.refl H)
      rw [not_str h1] at this
      exact this
    · have h1 : isStrD d = true := by
        cases q : isStrD d with
        | true => rfl
        | false => rw [q] at h1; exact absurd rfl h1
      obtain ⟨z, rfl, hz, az⟩ := itm_str hi h1
      cases hd
      have z1 : (1000 : Nat) ≤ sizeLine := by decide
      try dsimp only [tNext]
      refine seqIf_cut (fun v H' => v = .str (wordS z) ∧ H' = H) (fun Q' q' => ?_) (fun v H' hv => ?_)
      · refine ⟨_, rfl, ⟨_, rfl⟩, z, _, rfl, rfl, _, rfl, ?_⟩
        rw [starts_tilde]
        refine ite2 (fun h => ?_) (fun h => ?_)
        · exact ⟨_, rfl, _, rfl, z, rfl, by omega, q' _ _ ⟨by rw [word_tilde h], rfl⟩⟩
        · exact ⟨_, rfl, q' _ _ ⟨by rw [← word_plain h], rfl⟩⟩
      · obtain ⟨rfl, rfl⟩ := hv
        have hw := word_len z
        refine ⟨_, rfl, wordS z, rfl, by omega, fun H1 s1 => ⟨_, rfl, ite2 (fun h => ?_) (fun h => ?_)⟩⟩
        · refine ⟨_, rfl, tB, _, rfl, .inr (qB H1), rfl, rfl, ?_⟩
          have e : isL (.str z) = !inV (.str (wordS z)) [.str newW, .str foundW] := by
            show goodW (wordS z) = _
            unfold goodW
            rw [h, Bool.true_and]
            unfold inV
            simp only [List.any_cons, List.any_nil, Bool.or_false, eq_V]
          have := k H1 s1
          rw [e] at this
          exact this
        · have e : isL (.str z) = false := by
            show goodW (wordS z) = _
            unfold goodW
            rw [(Bool.not_eq_true _).mp h, Bool.false_and]
          have := k H1 s1
          rw [e] at this
          exact this
end
end Ask

namespace Ask
open PySem L2
/-! ### what the library asks of data -/
theorem asc_ok {z : Str} (h : Asc z) : PyData.strOk z = true := by
  unfold PyData.strOk
  rw [← Array.all_toList, List.all_eq_true]
  intro c hc
  have := h c hc
  exact decide_eq_true (by omega)
structure Fit (d : PyData) : Prop where
  lay : d.canLay0 = true
  dep : d.depth ≤ 1
  sho : d.showable = true
  nod : d.hasDict = false
  len : d.shown.length ≤ 6000
theorem fit_str {z : Str} (h1 : z.length ≤ 500) (h2 : Asc z) : Fit (.str z) ∧ (PyData.shown (.str z)).length ≤ 5100 := by
  have l := StrLaws.reprText_len z (fun c hc => by have := h2 c hc; omega)
  have l2 : (PyData.shown (.str z)).length ≤ 5100 := by
    show (reprText z).length ≤ 5100
    omega
  exact ⟨⟨asc_ok h2, Nat.zero_le _, rfl, rfl, by omega⟩, l2⟩
theorem itm_fit {d : PyData} (h : Itm d) : Fit d := by
  rcases h with rfl | rfl | rfl | ⟨z, h1, h2, rfl | rfl | rfl⟩
  · exact ⟨rfl, by decide, rfl, rfl, by decide⟩
  · exact ⟨rfl, by decide, rfl, rfl, by decide⟩
  · exact ⟨rfl, by decide, by decide, rfl, by decide⟩
  · exact (fit_str h1 h2).1
  · obtain ⟨f, l⟩ := fit_str h1 h2
    refine ⟨?_, by show max 0 0 + 1 ≤ 1; decide, rfl, rfl, ?_⟩
    · show (PyData.canLay0 (.str z) && true) = true
      rw [f.lay] <;> rfl
    · have := listText_len_le [PyData.shown (.str z)]
      show (listText [PyData.shown (.str z)]).length ≤ 6000
      simp only [List.map_cons, List.map_nil, List.sum_cons, List.sum_nil, List.length_cons, List.length_nil] at this
      omega
  · obtain ⟨f, l⟩ := fit_str h1 h2
    refine ⟨?_, by show max 0 0 + 1 ≤ 1; decide, rfl, rfl, ?_⟩
    · show (PyData.canLay0 (.str z) && true) = true
      rw [f.lay] <;> rfl
    · have := tupleText_len_le [PyData.shown (.str z)]
      show (tupleText [PyData.shown (.str z)]).length ≤ 6000
      simp only [List.map_cons, List.map_nil, List.sum_cons, List.sum_nil, List.length_cons, List.length_nil] at this
      omega
structure FitAll (ds : List PyData) : Prop where
  lay : PyData.canLayAll0 ds = true
  dep : PyData.depthAll ds ≤ 1
  sho : PyData.showableAll ds = true
  nod : PyData.hasDictAll ds = false
  len : ((PyData.shownAll ds).map (·.length)).sum ≤ 6000 * ds.length
  cnt : (PyData.shownAll ds).length = ds.length
theorem fit_all : ∀ {ds : List PyData}, (∀ d ∈ ds, Fit d) → FitAll ds
  | [], _ => ⟨rfl, Nat.zero_le _, rfl, rfl, Nat.le_refl _, rfl⟩
  | d :: r, h => by
    have f := h d (List.mem_cons_self ..)
    have g := fit_all (ds := r) fun x hx => h x (List.mem_cons_of_mem _ hx)
    refine ⟨?_, ?_, ?_, ?_, ?_, ?_⟩
    · show (PyData.canLay0 d && PyData.canLayAll0 r) = true
      rw [f.lay, g.lay] <;> rfl
    · show max (PyData.depth d) (PyData.depthAll r) ≤ 1
      exact Nat.max_le.mpr ⟨f.dep, g.dep⟩
    · show (PyData.showable d && PyData.showableAll r) = true
      rw [f.sho, g.sho] <;> rfl
    · show (PyData.hasDict d || PyData.hasDictAll r) = false
      rw [f.nod, g.nod] <;> rfl
    · show ((PyData.shown d :: PyData.shownAll r).map (·.length)).sum ≤ 6000 * (r.length + 1)
      rw [List.map_cons, List.sum_cons]
      have := f.len
      have := g.len
      omega
    · show (PyData.shown d :: PyData.shownAll r).length = r.length + 1
      rw [List.length_cons, g.cnt]
theorem shaped_of {d : PyData} (h : d.canLay0 = true) (k : d.depth ≤ 64) : SeqAt.shaped d = true := by
  unfold SeqAt.shaped
  rw [h, decide_eq_true k] <;> rfl
theorem FitAll.shapedL {ds : List PyData} (f : FitAll ds) : SeqAt.shaped (.list ds) = true :=
  shaped_of f.lay (by show PyData.depthAll ds + 1 ≤ 64; have := f.dep; omega)
theorem FitAll.shapedT {ds : List PyData} (f : FitAll ds) : SeqAt.shaped (.tuple ds) = true :=
  shaped_of f.lay (by show PyData.depthAll ds + 1 ≤ 64; have := f.dep; omega)
theorem Fit.shaped {d : PyData} (f : Fit d) : SeqAt.shaped d = true := shaped_of f.lay (by have := f.dep; omega)
theorem dp_strs {K : PySem.W.Frag} {H : Hp} : ∀ ys : List Str, DpAll K H (ys.map V.str) (ys.map PyData.str)
  | [] => .nil
  | y :: r => .cons (.str y) (dp_strs r)
theorem fit_strs {ys : List Str} (h : ∀ y ∈ ys, y.length ≤ 500 ∧ Asc y) : FitAll (ys.map PyData.str) := fit_all fun d hd => by
  obtain ⟨y, hy, rfl⟩ := List.mem_map.mp hd
  exact (fit_str (h y hy).1 (h y hy).2).1
theorem eqv_nil : ∀ ds : List PyData, PyData.eqv (.list ds) (.list []) = ds.isEmpty
  | [] => by simp [PyData.eqv, PyData.eqvAll]
  | _ :: _ => by simp [PyData.eqv, PyData.eqvAll]
theorem asc_word {z : Str} (h : Asc z) : Asc (wordS z) := fun c hc => by
  have hc : c ∈ wordOf z.cps.toList := by simpa [wordS] using hc
  unfold wordOf at hc
  split at hc
  · exact h c (List.mem_of_mem_drop hc)
  · exact h c hc
section
variable {P : Program} {w : World} {K : PySem.W.Frag} {mg : Str → Option Value} {base : Heap}
/-! ### the law's own look -/
abbrev s__law_is_letter : Stmt := top 21
theorem sc__law_is_letter : FnScope ["_law_value", "_law_word", "_law_small", "_law_signs", "_law_sign"] ["_law_value"] (defScope s__law_is_letter) := ⟨rfl, rfl, rfl, by decide +kernel, rfl, by decide +kernel, by decide +kernel⟩
theorem ok_lawLet {f : Addr} {fd : FuncData} (F : Fun K "_law_is_letter" "_law_is_letter" s__law_is_letter f fd) (T : Blt mg) : FnOk P w K mg base CX0 1 f fd ["_law_value"] (spIsL K) := by
  refine F.ok sc__law_is_letter (fun vs H Q E h => ?_) (fun cdv A outer s H vs Q E hr h => ?_)
  · obtain ⟨v, d, rfl, _⟩ := h
    rfl
  · obtain ⟨v, d, rfl, hd, hi, k⟩ := h
    refine ⟨_, (pss_cons (ps_if (pt_not (pt_val (pe_callB call_isi (by rfl) T.n_isinstance (by decide +kernel) (pa_cons (pv 0) (pa_cons (pe_bltn (v := .ty "str") (u := .type "str") rfl T.n_str (by decide +kernel) rfl) pa_nil))))) (pss_one (ps_ret pe_bl)) pss_nil)
      (pss_cons (ps_set (i := 1) sc__law_is_letter.nd rfl (Or.inl rfl) (pe_ifExp (pt_cmpR op_eq (pe_slice sl_str (pv 0) po_none (po_some pe_int)) pe_str (nomark _)) (pe_slice sl_str (pv 0) (po_some pe_int) po_none) (pv 0)))
      (pss_cons (ps_asg (pe_tup (pa_cons pe_str (pa_cons pe_str pa_nil))) (pg_tup rfl (pgs_cons (pg_name (i := 2) sc__law_is_letter.nd rfl (Or.inl rfl)) (pgs_cons (pg_name (i := 3) sc__law_is_letter.nd rfl (Or.inr rfl)) pgs_nil))))
      (pss_cons (ps_if (PW.pt (pw_or (pt_cmpR op_in_seq (pv 1) (pe_tup (pa_cons pe_str (pa_cons pe_str (pa_cons pe_str pa_nil)))) rfl) (pw_or (pt_cmpR op_gt (pe_callB call_len_str (by rfl) T.n_len (by decide +kernel) (pa_cons (pv 1) pa_nil)) pe_int (nomark _)) (pw_or1 (pt_cmpR op_notIn_sign (pe_ix ix_str (pv 1) pe_int (fun _ _ => rfl)) (pv 2) rfl))))) (pss_one (ps_ret pe_bl)) pss_nil)
      (pss_one (ps_ret (pe_cmpR (op_eqD hr.units) (pe_lc (own := [("_law_sign", 4)]) rfl sc__law_is_letter.nd (pi_str (pv 1)) (blkOk_by (N := ["_law_value", "_law_word", "_law_small", "_law_signs", "_law_sign"]) (sc := defScope s__law_is_letter) (by decide +kernel)) (fun _ _ _ _ _ => (pg_name (i := 4) sc__law_is_letter.nd rfl (Or.inl rfl))) (fun _ _ _ _ _ => pts_one (pt_cmpR op_notIn_sign (pv 4) (pv 3) rfl)) (fun _ _ _ _ _ => (pv 4))) (pe_lst pa_nil) (nomark _)))))))), ?_⟩
    obtain ⟨ty, hty, hkt⟩ := isi_str hd hi
    refine ⟨_, rfl, v, _, ty, _, isStrD d, rfl, .ty _, hty, hkt, _, rfl, ite2 (fun h1 => ?_) (fun h1 => ?_)⟩
    · have h1 : ¬ isStrD d = true := by intro q; rw [q] at h1; cases h1
      have := k H (Same.refl H)
      rw [not_str h1] at this
      exact this
    · have h1 : isStrD d = true := by
        cases q : isStrD d with
        | true => rfl
        | false => rw [q] at h1; exact absurd rfl h1
      obtain ⟨z, rfl, hz, az⟩ := itm_str hi h1
      cases hd
      have z1 : (1000 : Nat) ≤ sizeLine := by decide
      try dsimp only [tNext]
      refine seqIf_cut (fun v H' => v = .str (wordS z) ∧ H' = H) (fun Q' q' => ?_) (fun v H' hv => ?_)
      · refine ⟨_, rfl, _, rfl, z, rfl, by omega, rfl, _, rfl, ?_⟩
        rw [head_tilde]
        refine ite2 (fun h => ?_) (fun h => ?_)
        · exact ⟨_, rfl, _, rfl, z, rfl, by omega, q' _ _ ⟨by rw [word_tilde h], rfl⟩⟩
        · exact ⟨_, rfl, q' _ _ ⟨by rw [← word_plain h], rfl⟩⟩
      obtain ⟨rfl, rfl⟩ := hv
      have hw := word_len z
      have aw := asc_word az
      have hW := tl_len (wordS z)
      have eW : isL (.str z) = goodW (wordS z) := rfl
      rw [eW] at k
      generalize wordS z = W at hw aw hW k ⊢
      clear eW h1 hty hkt ty hi
      have out : ∀ H1, Same H' H1 → goodW W = false → Q (.bl false) H1 := fun H1 s1 e => by
        have := k H1 s1
        rw [e] at this
        exact this
      refine ⟨by show 2 ≤ sizeLine; decide, fun t1 ht1 => ⟨t1, _, rfl, SqT.of upd_same, rfl, _, _, rfl, _, _, rfl, rfl, ?_⟩⟩
      have s1 : Same H' (upd H' t1 (.tup [.str "abcdefghijklmnopqrstuvwxyz", .str "abcdefghijklmnopqrstuvwxyz0123456789"])) := Ask.Same.made1 (Same.refl _) ht1
      generalize upd H' t1 _ = H1 at s1 ⊢
      refine ⟨_, rfl, by show 3 ≤ sizeLine; decide, fun t2 ht2 => ⟨t2, _, rfl, .inr (SqT.of upd_same), rfl, rfl, _, rfl, ?_⟩⟩
      have s2 : Same H' (upd H1 t2 (.tup [.str "", .str "new", .str "found"])) := Ask.Same.made1 s1 ht2
      generalize upd H1 t2 _ = H2 at s2 ⊢
      have e3 : inV (.str W) [.str "", .str "new", .str "found"] = (decide (Str.ofString "" = W) || (decide (newW = W) || decide (foundW = W))) := by
        unfold inV
        simp only [List.any_cons, List.any_nil, Bool.or_false, eq_V]
        rfl
      refine ite2 (fun h2 => iteT ?_) (fun h2 => ?_)
      · have h2 : inV (.str W) [.str "", .str "new", .str "found"] = true := h2
        rw [e3] at h2
        refine out H2 s2 ?_
        unfold goodW
        cases q : (decide (newW = W) || decide (foundW = W)) with
        | true => simp
        | false =>
          rw [q, Bool.or_false] at h2
          have e : W = Str.ofString "" := (of_decide_eq_true h2).symm
          rw [e]
          rfl
      have h2 : inV (.str W) [.str "", .str "new", .str "found"] = false := (Bool.not_eq_true _).mp h2
      rw [e3] at h2
      have n0 : ¬ Str.ofString "" = W := fun q => by rw [decide_eq_true q] at h2; simp at h2
      have n1 : (decide (newW = W) || decide (foundW = W)) = false := by
        rw [decide_eq_false n0, Bool.false_or] at h2
        exact h2
      refine ⟨_, rfl, W, rfl, by omega, _, _, rfl, rfl, _, rfl, ite2 (fun h3 => iteT ?_) (fun h3 => ?_)⟩
      · have h3 : (12 : Int) < (W.length : Nat) := of_decide_eq_true h3
        refine out H2 s2 ?_
        unfold goodW shortL
        rw [decide_eq_false (by omega)]
        rfl
      have h3 : ¬ (12 : Int) < (W.length : Nat) := fun q => h3 (decide_eq_true q)
      obtain ⟨c, r, ec⟩ : ∃ c r, W.cps.toList = c :: r := by
        cases e : W.cps.toList with
        | nil => exact absurd (str_ext (by rw [e]; rfl)) n0
        | cons c r => exact ⟨c, r, rfl⟩
      have hlen1 : 1 ≤ W.length := by
        rw [ec] at hW
        simp at hW
        omega
      refine ⟨_, rfl, W, 0, c, rfl, rfl, by omega, by rw [ec]; exact at_by (j := 0) rfl rfl, _, rfl, c, small, rfl, rfl, _, rfl, ite2 (fun h4 => ?_) (fun h4 => ?_)⟩
      · have h4 : decide (c ∈ smallL) = false := by
          cases q : decide (c ∈ smallL) with
          | false => rfl
          | true =>
            have h4 : (!decide (c ∈ smallL)) = true := h4
            rw [q] at h4
            cases h4
        refine out H2 s2 ?_
        unfold goodW shortL
        rw [ec]
        simp only [List.head?_cons]
        rw [h4, Bool.and_false, Bool.false_and, Bool.false_and]
      have h4 : decide (c ∈ smallL) = true := by
        cases q : decide (c ∈ smallL) with
        | true => rfl
        | false =>
          have h4 : ¬ (!decide (c ∈ smallL)) = true := h4
          rw [q] at h4
          exact absurd rfl h4
      refine ⟨_, rfl, W, rfl, fun L hL => ?_⟩
      have hL0 := s2.free hL
      refine lc_it walk_str (fun i H3 => Same H' H3 ∧ H3 L = some (.lst (((W.cps.toList.take i).filter fun c => !decide (c ∈ signsL)).map fun c => V.str ⟨#[c]⟩))) ⟨Ask.Same.upd_new s2 hL0, upd_same⟩ (fun _ _ _ _ => trivial) (fun i x H3 H4 hi h5 y => ?_) (fun H3 h5 => ?_)
      · obtain ⟨rfl, c', hc', rfl⟩ := y
        obtain ⟨sm, hLL⟩ := h5
        have hc2 : W.cps.toList[i]? = some c' := by rw [Array.getElem?_toList]; exact hc'
        refine ⟨rfl, _, rfl, _, rfl, c', signs, rfl, rfl, _, rfl, ?_⟩
        rw [List.take_add_one, hc2]
        simp only [Option.toList_some, List.filter_append, List.map_append]
        refine ite2 (fun h6 => ?_) (fun h6 => ?_)
        · have h6 : (!decide (c' ∈ signsL)) = true := h6
          refine ⟨_, rfl, _, hLL, ?_, Ask.Same.upd_new sm hL0, ?_⟩
          · rw [List.length_map]
            have h7 := List.length_filter_le (fun c => !decide (c ∈ signsL)) (W.cps.toList.take i)
            rw [List.length_take] at h7
            omega
          · have e7 : List.filter (fun c => !decide (c ∈ signsL)) [c'] = [c'] := by
              rw [List.filter_cons, if_pos h6, List.filter_nil]
            rw [upd_same, e7]
            rfl
        · have h6 : ¬ (!decide (c' ∈ signsL)) = true := h6
          refine ⟨sm, ?_⟩
          have e7 : List.filter (fun c => !decide (c ∈ signsL)) [c'] = [] := by
            rw [List.filter_cons, if_neg h6, List.filter_nil]
          rw [e7]
          simpa using hLL
      · obtain ⟨sm, hLL⟩ := h5
        have e0 : W.cps.toList.take W.cps.size = W.cps.toList := List.take_of_length_le (by simp)
        rw [e0] at hLL
        refine ⟨Nat.zero_le _, fun q hq => ?_⟩
        have s5 := Ask.Same.made1 (o := .lst []) sm hq
        have nqL : L ≠ q := ne_of_none hLL hq
        have hLq : upd H3 q (.lst []) L = some (.lst (((W.cps.toList.filter fun c => !decide (c ∈ signsL)).map fun c => (⟨#[c]⟩ : Str)).map V.str)) := by
          rw [upd_ne nqL, hLL, List.map_map]
          rfl
        refine ⟨_, _, .lst (SqL.of hLq) (dp_strs _), .lst (SqL.of upd_same) .nil, (fit_strs fun y hy => ?_).shapedL, by decide, ?_⟩
        · obtain ⟨c', hc', rfl⟩ := List.mem_map.mp hy
          exact ⟨by show 1 ≤ 500; decide, .one (aw c' (List.mem_filter.mp hc').1)⟩
        · rw [eqv_nil]
          have e : goodW W = (((W.cps.toList.filter fun c => !decide (c ∈ signsL)).map fun c => (⟨#[c]⟩ : Str)).map PyData.str).isEmpty := by
            unfold goodW shortL
            rw [n1, decide_eq_true (by omega)]
            simp only [Bool.true_and, Bool.not_false, Bool.and_true]
            rw [ec]
            simp only [List.head?_cons]
            rw [h4, Bool.true_and, ← ec]
            cases q : W.cps.toList.all fun c => decide (c ∈ signsL) with
            | true =>
              have e5 : (W.cps.toList.filter fun c => !decide (c ∈ signsL)) = [] := by
                rw [List.filter_eq_nil_iff]
                intro x hx
                have := List.all_eq_true.mp q x hx
                rw [this]
                simp
              rw [e5]
              rfl
            | false =>
              have e5 : (W.cps.toList.filter fun c => !decide (c ∈ signsL)) ≠ [] := fun z => by
                have z2 := List.filter_eq_nil_iff.mp z
                have : (W.cps.toList.all fun c => decide (c ∈ signsL)) = true := List.all_eq_true.mpr fun x hx => by
                  have := z2 x hx
                  simpa using this
                rw [q] at this
                cases this
              cases e6 : (W.cps.toList.filter fun c => !decide (c ∈ signsL)) with
              | nil => exact absurd e6 e5
              | cons a b => rfl
          have := k _ s5
          rw [e] at this
          exact this
end
end Ask

namespace Ask
open PySem L2
/-- an item of the law's lists, its list or tuple at a place of N -/
def ItV (N : Addr → Prop) (H : Hp) (v : V) (d : PyData) : Prop :=
  (v = .non ∧ d = .none) ∨ (v = .bl true ∧ d = .bool true) ∨ (v = .int 7 ∧ d = .int 7) ∨ ∃ z : Str, (z.length ≤ 500 ∧ Asc z) ∧
    ((v = .str z ∧ d = .str z) ∨ ∃ a, v = .ref a ∧ N a ∧ ((H a = some (.lst [.str z]) ∧ d = .list [.str z]) ∨ (H a = some (.tup [.str z]) ∧ d = .tuple [.str z])))
section
variable {K : PySem.W.Frag} {N N' : Addr → Prop} {H H' H0 : Hp} {v : V} {d : PyData} {p c q : Addr} {ns : List Int} {B : Nat} {o : HO}
theorem ItV.itm (h : ItV N H v d) : Itm d := by
  rcases h with ⟨_, e⟩ | ⟨_, e⟩ | ⟨_, e⟩ | ⟨z, ⟨h1, h2⟩, ⟨_, e⟩ | ⟨a, _, _, ⟨_, e⟩ | ⟨_, e⟩⟩⟩
  · exact .inl e
  · exact .inr (.inl e)
  · exact .inr (.inr (.inl e))
  · exact .inr (.inr (.inr ⟨z, h1, h2, .inl e⟩))
  · exact .inr (.inr (.inr ⟨z, h1, h2, .inr (.inl e)⟩))
  · exact .inr (.inr (.inr ⟨z, h1, h2, .inr (.inr e)⟩))
theorem ItV.dp (h : ItV N H v d) : Dp K H v d := by
  rcases h with ⟨e, e'⟩ | ⟨e, e'⟩ | ⟨e, e'⟩ | ⟨z, _, ⟨e, e'⟩ | ⟨a, e, _, ⟨ea, e'⟩ | ⟨ea, e'⟩⟩⟩ <;> rw [e, e']
  · exact .non
  · exact .bl _
  · exact .int _
  · exact .str _
  · exact .lst (SqL.of ea) (.cons (.str _) .nil)
  · exact .tup (SqT.of ea) (.cons (.str _) .nil)
theorem ItV.mp (h : ItV N H v d) (k : ∀ a o, N a → H a = some o → (∀ kvs, o ≠ .dK kvs) → N' a ∧ H' a = some o) : ItV N' H' v d := by
  rcases h with h | h | h | ⟨z, hz, h | ⟨a, e, n, ⟨ea, e'⟩ | ⟨ea, e'⟩⟩⟩
  · exact .inl h
  · exact .inr (.inl h)
  · exact .inr (.inr (.inl h))
  · exact .inr (.inr (.inr ⟨z, hz, .inl h⟩))
  · obtain ⟨n', ea'⟩ := k a _ n ea (by intro _ z; cases z)
    exact .inr (.inr (.inr ⟨z, hz, .inr ⟨a, e, n', .inl ⟨ea', e'⟩⟩⟩))
  · obtain ⟨n', ea'⟩ := k a _ n ea (by intro _ z; cases z)
    exact .inr (.inr (.inr ⟨z, hz, .inr ⟨a, e, n', .inr ⟨ea', e'⟩⟩⟩))
theorem ItV.go (h : ItV N H v d) (g : Go p c ns H H' B) : ItV N H' v d := h.mp fun a o n e k => ⟨n, g.at e k⟩
theorem ItV.same (h : ItV N H v d) (s : Same H H') : ItV N H' v d := h.mp fun a o n e _ => ⟨n, s a o e⟩
theorem ItV.mut (h : ItV N H v d) (n : ∀ a, N a → a ≠ q) : ItV N (upd H q o) v d := h.mp fun a u m e _ => ⟨m, by rw [upd_ne (n a m)]; exact e⟩
theorem ItV.wk (h : ItV N H v d) (n : ∀ a, N a → N' a) : ItV N' H v d := h.mp fun a u m e _ => ⟨n a m, e⟩
def ItS (N : Addr → Prop) (H : Hp) (xs : List V) : Prop := ∀ v ∈ xs, ∃ d, ItV N H v d
theorem ItS.nil : ItS N H [] := fun _ h => by cases h
theorem ItS.cons {xs : List V} (h : ∃ d, ItV N H v d) (r : ItS N H xs) : ItS N H (v :: xs) := fun x hx => by
  rcases List.mem_cons.mp hx with rfl | hx
  · exact h
  · exact r x hx
theorem ItS.app {xs ys : List V} (h : ItS N H xs) (r : ItS N H ys) : ItS N H (xs ++ ys) := fun x hx => by
  rcases List.mem_append.mp hx with hx | hx
  · exact h x hx
  · exact r x hx
theorem itStr {z : Str} (h : z.length ≤ 500 ∧ Asc z) : ∃ d, ItV N H (.str z) d := ⟨_, .inr (.inr (.inr ⟨z, h, .inl ⟨rfl, rfl⟩⟩))⟩
end
theorem asc_upper {z : Str} (h : Asc z) : Asc (Txt.upper z) ∧ (Txt.upper z).length = z.length := by
  rw [PyProof.Rows.upper_ascii h]
  refine ⟨fun c hc => ?_, by simp [Str.length]⟩
  have hc : c ∈ (z.cps.map PyProof.Rows.up1).toList := hc
  rw [Array.toList_map] at hc
  obtain ⟨b, hb, rfl⟩ := List.mem_map.mp hc
  have := h b hb
  unfold PyProof.Rows.up1
  split <;> omega
theorem asc_rep {z : Str} (h : Asc z) (n : Nat) : Asc (repS z n) := by
  have : ∀ (n : Nat) (acc : Array Nat), (∀ c ∈ acc.toList, c < 128) → ∀ c ∈ ((List.replicate n z.cps).foldl (· ++ ·) acc).toList, c < 128 := by
    intro n
    induction n with
    | zero => intro acc ha; simpa using ha
    | succ n ih =>
      intro acc ha
      rw [List.replicate_succ, List.foldl_cons]
      refine ih _ fun c hc => ?_
      rw [Array.toList_append] at hc
      rcases List.mem_append.mp hc with q | q
      · exact ha c q
      · exact h c q
  exact this n #[] (fun c hc => by cases hc)
section
variable {P : Program} {w : World} {K : PySem.W.Frag} {mg : Str → Option Value} {base : Heap}
/-! ### something wrong, or a further word -/
def spWrong (K : PySem.W.Frag) : Sp := fun vs H Q _ => ∃ (p c : Addr) (ns : List Int) (a : Addr) (ys : List Str) (B : Nat), vs = [.ref p, .ref a] ∧ Pen c ns H p B ∧ B ≤ 500000000 ∧ SqL K H a (ys.map V.str) ∧ 0 < ys.length ∧ ys.length ≤ 1000 ∧
  (∀ y ∈ ys, y.length ≤ 200 ∧ Asc y) ∧ ∀ (H' : Hp) (v : V) (d : PyData), Go p c ns H H' (B + 3) → ItV (fun a => H a = none) H' v d → Q v H'
abbrev s__law_wrong : Stmt := top 22
theorem sc__law_wrong : FnScope ["_law_pen_here", "_law_words", "_law_one", "_law_some"] ["_law_pen_here", "_law_words"] (defScope s__law_wrong) := ⟨rfl, rfl, rfl, by decide +kernel, rfl, by decide +kernel, by decide +kernel⟩
theorem ok_wrong {f fP : Addr} {fd fdP : FuncData} (F : Fun K "_law_wrong" "_law_wrong" s__law_wrong f fd) (T : Blt mg)
    (GP : FnOk P w K mg base CX0 2 fP fdP ["_law_pen_here", "_law_options"] (spPick K)) (C : At K mg "_law_pick" fP fdP ["_law_pen_here", "_law_options"]) :
    FnOk P w K mg base CX0 3 f fd ["_law_pen_here", "_law_words"] (spWrong K) := by
  refine F.ok sc__law_wrong (fun vs H Q E h => ?_) (fun cdv A outer s H vs Q E hr h => ?_)
  · obtain ⟨p, c, ns, a, ys, B, rfl, _⟩ := h
    rfl
  · obtain ⟨p, c, ns, a, ys, B, rfl, hpen, hB, hS, h0, h1, hy, k⟩ := h
    refine ⟨_, (pss_cons (ps_set (i := 2) sc__law_wrong.nd rfl (Or.inl rfl) (pe_call GP hr (by rfl) C.m C.k C.b .nil pass0 (pa_cons (pv 0) (pa_cons (pv 1) pa_nil))))
      (pss_cons (ps_set (i := 3) sc__law_wrong.nd rfl (Or.inl rfl) (pe_lst (pa_cons pe_non (pa_cons pe_bl (pa_cons pe_int (pa_cons (pe_lst (pa_cons (pv 2) pa_nil)) (pa_cons (pe_tup (pa_cons (pv 2) pa_nil)) (pa_cons pe_str (pa_cons pe_str (pa_cons pe_str (pa_cons pe_str (pa_cons pe_str (pa_cons pe_str (pa_cons (pe_op op_add_str pe_str (pv 2)) (pa_cons (pe_op op_add_str pe_str (pe_slice sl_str (pv 2) po_none (po_some pe_int))) (pa_cons pe_str pa_nil))))))))))))))))
      (pss_cons (ps_set (i := 3) sc__law_wrong.nd rfl (Or.inl rfl) (pe_op op_cat (pv 3) (pe_lst (pa_cons (pv 2) (pa_cons (pe_op op_add_str (pv 2) pe_str) (pa_cons (pe_op op_add_str (pe_slice sl_str (pv 2) po_none (po_some pe_int)) (pe_call GP hr (by rfl) C.m C.k C.b .nil pass0 (pa_cons (pv 0) (pa_cons pe_str pa_nil)))) (pa_cons (pe_upper (pv 2)) (pa_cons (pe_op op_add_str pe_str (pv 2)) (pa_cons (pe_op op_add_str (pv 2) pe_str) pa_nil)))))))))
      (pss_one (ps_ret (pe_call GP hr (by rfl) C.m C.k C.b .nil pass0 (pa_cons (pv 0) (pa_cons (pe_op op_cat (pv 3) (pe_lst (pa_cons (pe_op op_mul_str pe_str pe_int) (pa_cons (pe_op op_mul_str pe_str pe_int) (pa_cons (pe_op op_add_str pe_str (pe_op op_mul_str pe_str pe_int)) (pa_cons (pe_op op_add_str pe_str (pe_op op_mul_str pe_str pe_int)) (pa_cons pe_str (pa_cons pe_str pa_nil)))))))) pa_nil)))))))), ?_⟩
    have z1 : (1000 : Nat) ≤ sizeLine := by decide
    refine ⟨_, rfl, _, rfl, p, c, ns, _, B, rfl, hpen, by omega, .inl ⟨a, _, rfl, hS, by rw [List.length_map]; exact h0, by rw [List.length_map]; exact h1, fun H1 v g1 hv => ?_⟩⟩
    obtain ⟨one, hone, rfl⟩ := List.mem_map.mp hv
    obtain ⟨l1, a1⟩ := hy one hone
    clear hv
    -- the first list
    refine ⟨_, rfl, by show 1 ≤ sizeLine; decide, fun q1 hq1 => ?_⟩
    have f1 : upd H1 q1 (.lst [.str one]) q1 = some (.lst [.str one]) := upd_same
    have n1 := g1.free hq1
    replace g1 := g1.new (o := .lst [.str one]) hq1
    generalize upd H1 q1 (.lst [.str one]) = H2 at f1 g1 ⊢
    refine ⟨_, rfl, by show 1 ≤ sizeLine; decide, fun q2 hq2 => ?_⟩
    have f2 : upd H2 q2 (.tup [.str one]) q2 = some (.tup [.str one]) := upd_same
    replace f1 : upd H2 q2 (.tup [.str one]) q1 = some (.lst [.str one]) := by rw [upd_ne (ne_of_none f1 hq2)]; exact f1
    have n2 := g1.free hq2
    replace g1 := g1.new (o := .tup [.str one]) hq2
    generalize upd H2 q2 (.tup [.str one]) = H3 at f1 f2 g1 ⊢
    clear hq1 hq2
    refine ⟨_, rfl, _, _, rfl, rfl, (by show 2 + one.length ≤ sizeLine; omega), ?_⟩
    refine ⟨_, rfl, _, rfl, one, rfl, by omega, _, _, rfl, rfl, ?_, by show 14 ≤ sizeLine; decide, fun q3 hq3 => ?_⟩
    · have := cutS_length one none (some 3)
      show 1 + (cutS one none (some 3)).length ≤ sizeLine
      omega
    have hf : ∀ {N : Addr → Prop} {H' : Hp} {z : Str}, z.length ≤ 500 → Asc z → ∃ d, ItV N H' (.str z) d := fun h h' => itStr ⟨h, h'⟩
    have lit : ∀ {N : Addr → Prop} {H' : Hp} (z : String), ((Str.ofString z).length ≤ 500) → (((Str.ofString z).cps.toList.all fun c => decide (c < 128)) = true) → ∃ d, ItV N H' (.str (Str.ofString z)) d := fun z h h' => itStr ⟨h, .lit h'⟩
    have c3 := cutS_length one none (some 3)
    have c2 := cutS_length one none (some 2)
    obtain ⟨xs1, H4, e4, f3, t1, ln1⟩ : ∃ xs1 H4, H4 = upd H3 q3 (.lst [.non, .bl true, .int 7, .ref q1, .ref q2, .str "", .str "new", .str "found", .str "~new", .str "~found", .str "~", .str ("~~" ++ one), .str ("1" ++ cutS one none (some 3)), .str "newer"]) ∧ H4 q3 = some (.lst xs1) ∧
        (∀ H', H' q1 = some (.lst [.str one]) → H' q2 = some (.tup [.str one]) → ItS (fun a => H a = none) H' xs1) ∧ xs1.length = 14 := by
      refine ⟨_, _, rfl, upd_same, fun H' e1 e2 => ?_, rfl⟩
      refine .cons ⟨_, .inl ⟨rfl, rfl⟩⟩ (.cons ⟨_, .inr (.inl ⟨rfl, rfl⟩)⟩ (.cons ⟨_, .inr (.inr (.inl ⟨rfl, rfl⟩))⟩ (.cons ⟨_, .inr (.inr (.inr ⟨one, ⟨by omega, a1⟩, .inr ⟨q1, rfl, n1, .inl ⟨e1, rfl⟩⟩⟩))⟩ (.cons ⟨_, .inr (.inr (.inr ⟨one, ⟨by omega, a1⟩, .inr ⟨q2, rfl, n2, .inr ⟨e2, rfl⟩⟩⟩))⟩
        (.cons (lit "" (by decide) rfl) (.cons (lit "new" (by decide) rfl) (.cons (lit "found" (by decide) rfl) (.cons (lit "~new" (by decide) rfl) (.cons (lit "~found" (by decide) rfl) (.cons (lit "~" (by decide) rfl)
        (.cons (hf (by rw [Str.length_append]; show 2 + _ ≤ _; omega) (Asc.app (.lit rfl) a1)) (.cons (hf (by rw [Str.length_append]; show 1 + _ ≤ _; omega) (Asc.app (.lit rfl) (a1.cut _ _))) (.cons (lit "newer" (by decide) rfl) .nil)))))))))))))
    rw [← e4]
    replace f1 : H4 q1 = some (.lst [.str one]) := by rw [e4, upd_ne (ne_of_none f1 hq3)]; exact f1
    replace f2 : H4 q2 = some (.tup [.str one]) := by rw [e4, upd_ne (ne_of_none f2 hq3)]; exact f2
    replace g1 : Go p c ns H H4 (B + 1) := by rw [e4]; exact g1.new hq3
    clear e4 hq3
    -- the second
    refine ⟨_, rfl, _, rfl, _, rfl, _, _, rfl, rfl, (by show one.length + 12 ≤ sizeLine; omega), ?_⟩
    refine ⟨_, rfl, _, rfl, one, rfl, by omega, _, rfl, p, c, ns, _, B + 1, rfl, g1.pen, by omega, .inr ⟨_, rfl, by decide, by decide, fun H5 i g5 hi => ?_⟩⟩
    have ai : i < 128 := (Asc.lit (s := "_- A.~") rfl) i hi
    refine ⟨_, _, rfl, rfl, (by show (cutS one none (some 2)).length + 1 ≤ sizeLine; omega), ?_⟩
    have u1 := asc_upper a1
    refine ⟨_, rfl, ⟨one, rfl⟩, one, rfl, rfl, by omega, ?_⟩
    have g5' := g1.step g5
    refine ⟨_, rfl, _, _, rfl, rfl, (by show 1 + one.length ≤ sizeLine; omega), ?_⟩
    refine ⟨_, rfl, _, _, rfl, rfl, (by show one.length + 1 ≤ sizeLine; omega), (by show 6 ≤ sizeLine; decide), fun q4 hq4 => ?_⟩
    obtain ⟨xs2, H6, e6, f4, t2, ln2⟩ : ∃ xs2 H6, H6 = upd H5 q4 (.lst [.str one, .str (one ++ "abcdefghijkl"), .str (cutS one none (some 2) ++ (⟨#[i]⟩ : Str)), .str (Txt.upper one), .str (" " ++ one), .str (one ++ "\n")]) ∧ H6 q4 = some (.lst xs2) ∧
        (∀ H', ItS (fun a => H a = none) H' xs2) ∧ xs2.length = 6 := by
      refine ⟨_, _, rfl, upd_same, fun H' => ?_, rfl⟩
      refine .cons (hf (by omega) a1) (.cons (hf (by rw [Str.length_append]; show _ + 12 ≤ _; omega) (a1.app (.lit rfl))) (.cons (hf (by rw [Str.length_append]; show _ + 1 ≤ _; omega) ((a1.cut _ _).app (.one ai))) (.cons (hf (by rw [u1.2]; omega) u1.1)
        (.cons (hf (by rw [Str.length_append]; show 1 + _ ≤ _; omega) (Asc.app (.lit rfl) a1)) (.cons (hf (by rw [Str.length_append]; show _ + 1 ≤ _; omega) (a1.app (.lit rfl))) .nil)))))
    rw [← e6]
    have f3 := g5.lst f3
    have f1 := g5.lst f1
    have f2 := g5.tup f2
    have n4 := ne_of_none f3 hq4
    replace f1 : H6 q1 = some (.lst [.str one]) := by rw [e6, upd_ne (ne_of_none f1 hq4)]; exact f1
    replace f2 : H6 q2 = some (.tup [.str one]) := by rw [e6, upd_ne (ne_of_none f2 hq4)]; exact f2
    replace f3 : H6 q3 = some (.lst xs1) := by rw [e6, upd_ne (ne_of_none f3 hq4)]; exact f3
    have g6 : Go p c ns H H6 (B + 1 + 1) := by rw [e6]; exact g5'.new hq4
    clear e6 hq4 g5' g5 g1
    refine ⟨_, _, _, _, rfl, rfl, f3, f4, by omega, fun q5 hq5 => ?_⟩
    have f5 : upd H6 q5 (.lst (xs1 ++ xs2)) q5 = some (.lst (xs1 ++ xs2)) := upd_same
    replace f1 : upd H6 q5 (.lst (xs1 ++ xs2)) q1 = some (.lst [.str one]) := by rw [upd_ne (ne_of_none f1 hq5)]; exact f1
    replace f2 : upd H6 q5 (.lst (xs1 ++ xs2)) q2 = some (.tup [.str one]) := by rw [upd_ne (ne_of_none f2 hq5)]; exact f2
    have g7 := g6.new (o := .lst (xs1 ++ xs2)) hq5
    generalize upd H6 q5 (.lst (xs1 ++ xs2)) = H7 at f1 f2 f5 g7 ⊢
    clear f3 f4 g6 hq5
    -- the third, the pick
    refine ⟨_, rfl, _, rfl, _, _, rfl, rfl, by decide, by decide, by decide, by decide, _, _, rfl, rfl, by decide, by decide, by decide, by decide, ?_⟩
    refine ⟨_, _, rfl, rfl, by decide, by decide, by decide, by decide, _, _, rfl, rfl, (by rw [repS_len]; decide), ?_⟩
    refine ⟨_, _, rfl, rfl, by decide, by decide, by decide, by decide, _, _, rfl, rfl, (by rw [repS_len]; decide), (by show 6 ≤ sizeLine; decide), fun q6 hq6 => ?_⟩
    obtain ⟨xs3, H8, e8, f6, t3, ln3⟩ : ∃ xs3 H8, H8 = upd H7 q6 (.lst [.str (repS "a" (12 : Int).toNat), .str (repS "a" (13 : Int).toNat), .str ("~" ++ repS "b" (12 : Int).toNat), .str ("~" ++ repS "b" (13 : Int).toNat), .str "found0", .str "~news"]) ∧ H8 q6 = some (.lst xs3) ∧
        (∀ H', ItS (fun a => H a = none) H' xs3) ∧ xs3.length = 6 := by
      refine ⟨_, _, rfl, upd_same, fun H' => ?_, rfl⟩
      refine .cons (hf (by rw [repS_len]; decide) (asc_rep (.lit rfl) _)) (.cons (hf (by rw [repS_len]; decide) (asc_rep (.lit rfl) _)) (.cons (hf (by rw [Str.length_append, repS_len]; decide) (Asc.app (.lit rfl) (asc_rep (.lit rfl) _))) (.cons (hf (by rw [Str.length_append, repS_len]; decide) (Asc.app (.lit rfl) (asc_rep (.lit rfl) _)))
        (.cons (lit "found0" (by decide) rfl) (.cons (lit "~news" (by decide) rfl) .nil)))))
    rw [← e8]
    replace f1 : H8 q1 = some (.lst [.str one]) := by rw [e8, upd_ne (ne_of_none f1 hq6)]; exact f1
    replace f2 : H8 q2 = some (.tup [.str one]) := by rw [e8, upd_ne (ne_of_none f2 hq6)]; exact f2
    replace f5 : H8 q5 = some (.lst (xs1 ++ xs2)) := by rw [e8, upd_ne (ne_of_none f5 hq6)]; exact f5
    have g8 : Go p c ns H H8 (B + 1 + 1) := by rw [e8]; exact g7.new hq6
    clear e8 hq6 g7
    refine ⟨_, _, _, _, rfl, rfl, f5, f6, (by rw [List.length_append]; omega), fun q7 hq7 => ?_⟩
    have f7 : upd H8 q7 (.lst ((xs1 ++ xs2) ++ xs3)) q7 = some (.lst ((xs1 ++ xs2) ++ xs3)) := upd_same
    replace f1 : upd H8 q7 (.lst ((xs1 ++ xs2) ++ xs3)) q1 = some (.lst [.str one]) := by rw [upd_ne (ne_of_none f1 hq7)]; exact f1
    replace f2 : upd H8 q7 (.lst ((xs1 ++ xs2) ++ xs3)) q2 = some (.tup [.str one]) := by rw [upd_ne (ne_of_none f2 hq7)]; exact f2
    have g9 := g8.new (o := .lst ((xs1 ++ xs2) ++ xs3)) hq7
    generalize upd H8 q7 (.lst ((xs1 ++ xs2) ++ xs3)) = H9 at f1 f2 f7 g9 ⊢
    have ln : ((xs1 ++ xs2) ++ xs3).length = 26 := by rw [List.length_append, List.length_append]; omega
    refine ⟨p, c, ns, _, B + 1 + 1, rfl, g9.pen, by omega, .inl ⟨q7, _, rfl, SqL.of f7, by omega, by omega, fun H10 v g10 hv => ?_⟩⟩
    obtain ⟨d, hd⟩ := (((t1 H9 f1 f2).app (t2 H9)).app (t3 H9)) v hv
    exact k H10 v d (g9.step g10) (hd.go g10)
end
end Ask

namespace Ask
open PySem L2
/-! ### the answers, by the mirror -/
def badAt (ds : List PyData) (k : Nat) : Bool := match ds[k]? with
  | some d => !isL d || (ds.take k).any fun z => PyData.eqv z d
  | none => false
def bads (ds : List PyData) : List Nat := (List.range ds.length).filter (badAt ds)
def res (ds : List PyData) : PyData :=
  if 12 < ds.length then .tuple [.str "many", .str "letters", .int (ds.length : Nat), .int 12]
  else match bads ds with
    | k :: _ => .tuple [.str "letters", .int (k : Nat)]
    | [] => if ds.length = 0 then .tuple [.str "letters", .int 0] else .none
theorem res_many {ds : List PyData} (h : 12 < ds.length) : res ds = .tuple [.str "many", .str "letters", .int (ds.length : Nat), .int 12] := if_pos h
theorem res_none {ds : List PyData} (h : ds.length = 0) : res ds = .tuple [.str "letters", .int 0] := by
  have e : ds = [] := List.eq_nil_of_length_eq_zero h
  subst e
  rfl
theorem bads_at {ds : List PyData} {k : Nat} (h1 : k < ds.length) (h2 : badAt ds k = true) (h3 : ∀ j < k, badAt ds j = false) : ∃ r, bads ds = k :: r := by
  unfold bads
  have e : ds.length = k + (1 + (ds.length - k - 1)) := by omega
  rw [e, List.range_add, List.filter_append]
  have e1 : (List.range k).filter (badAt ds) = [] := List.filter_eq_nil_iff.mpr fun x hx => by
    rw [h3 x (List.mem_range.mp hx)]
    exact Bool.false_ne_true
  rw [e1, List.nil_append, Nat.add_comm 1, List.range_succ_eq_map, List.map_cons, List.filter_cons, if_pos (by simpa using h2)]
  exact ⟨_, rfl⟩
theorem res_at {ds : List PyData} {k : Nat} (h0 : ¬ 12 < ds.length) (h1 : k < ds.length) (h2 : badAt ds k = true) (h3 : ∀ j < k, badAt ds j = false) : res ds = .tuple [.str "letters", .int (k : Nat)] := by
  obtain ⟨r, e⟩ := bads_at h1 h2 h3
  unfold res
  rw [if_neg h0, e]
theorem res_good {ds : List PyData} (h0 : ¬ 12 < ds.length) (h1 : 0 < ds.length) (h3 : ∀ j < ds.length, badAt ds j = false) : res ds = .none := by
  have e : bads ds = [] := List.filter_eq_nil_iff.mpr fun x hx => by
    rw [h3 x (List.mem_range.mp hx)]
    exact Bool.false_ne_true
  unfold res
  rw [if_neg h0, e]
  exact if_neg (by omega)
/-- an answer of the law's -/
def Rs (H : Hp) (v : V) (d : PyData) : Prop := (v = .non ∧ d = .none) ∨ ∃ a xs ds, v = .ref a ∧ d = .tuple ds ∧ H a = some (.tup xs) ∧ ∀ (K : PySem.W.Frag) (H' : Hp), DpAll K H' xs ds
/-- the items of a list -/
def ItL (N : Addr → Prop) (H : Hp) : List V → List PyData → Prop
  | [], [] => True
  | v :: xs, d :: ds => ItV N H v d ∧ ItL N H xs ds
  | _, _ => False
section
variable {K : PySem.W.Frag} {N N' : Addr → Prop} {H H' H0 : Hp} {v : V} {d : PyData} {p c q : Addr} {ns : List Int} {B : Nat} {o : HO}
theorem Rs.dp (h : Rs H v d) : Dp K H v d := by
  rcases h with ⟨rfl, rfl⟩ | ⟨a, xs, ds, rfl, rfl, e, k⟩
  · exact .non
  · exact .tup (SqT.of e) (k K H)
theorem Rs.same (h : Rs H v d) (s : Same H H') : Rs H' v d := by
  rcases h with h | ⟨a, xs, ds, h1, h2, e, k⟩
  · exact .inl h
  · exact .inr ⟨a, xs, ds, h1, h2, s _ _ e, k⟩
theorem ItL.len : ∀ {xs : List V} {ds : List PyData}, ItL N H xs ds → xs.length = ds.length
  | [], [], _ => rfl
  | _ :: _, _ :: _, h => by rw [List.length_cons, List.length_cons, ItL.len h.2]
  | [], _ :: _, h => h.elim
  | _ :: _, [], h => h.elim
theorem ItL.mp : ∀ {xs : List V} {ds : List PyData}, ItL N H xs ds → (∀ v d, ItV N H v d → ItV N' H' v d) → ItL N' H' xs ds
  | [], [], _, _ => trivial
  | _ :: _, _ :: _, h, k => ⟨k _ _ h.1, ItL.mp h.2 k⟩
  | [], _ :: _, h, _ => h.elim
  | _ :: _, [], h, _ => h.elim
theorem ItL.dp : ∀ {xs : List V} {ds : List PyData}, ItL N H xs ds → DpAll K H xs ds
  | [], [], _ => .nil
  | _ :: _, _ :: _, h => .cons h.1.dp (ItL.dp h.2)
  | [], _ :: _, h => h.elim
  | _ :: _, [], h => h.elim
theorem ItL.itm : ∀ {xs : List V} {ds : List PyData}, ItL N H xs ds → ∀ d ∈ ds, Itm d
  | [], [], _, _, h => by cases h
  | _ :: _, _ :: _, h, d, hd => by
    rcases List.mem_cons.mp hd with rfl | hd
    · exact h.1.itm
    · exact ItL.itm h.2 d hd
  | [], _ :: _, h, _, _ => h.elim
  | _ :: _, [], h, _, _ => h.elim
theorem ItL.fit {xs : List V} {ds : List PyData} (h : ItL N H xs ds) : FitAll ds := fit_all fun d hd => itm_fit (h.itm d hd)
theorem ItL.get : ∀ {xs : List V} {ds : List PyData} (k : Nat), ItL N H xs ds → k < xs.length → ∃ v d, xs[k]? = some v ∧ ds[k]? = some d ∧ ItV N H v d
  | [], _, _, _, h => absurd h (Nat.not_lt_zero _)
  | _ :: _, [], _, h, _ => h.elim
  | v :: _, d :: _, 0, h, _ => ⟨v, d, rfl, rfl, h.1⟩
  | _ :: _, _ :: _, k + 1, h, hk => by
    obtain ⟨v, d, h1, h2, h3⟩ := ItL.get k h.2 (Nat.lt_of_succ_lt_succ hk)
    exact ⟨v, d, by simpa using h1, by simpa using h2, h3⟩
theorem ItL.take : ∀ {xs : List V} {ds : List PyData} (k : Nat), ItL N H xs ds → ItL N H (xs.take k) (ds.take k)
  | [], [], _, _ => by rw [List.take_nil, List.take_nil]; trivial
  | _ :: _, _ :: _, 0, _ => trivial
  | _ :: _, _ :: _, k + 1, h => ⟨h.1, ItL.take k h.2⟩
  | [], _ :: _, _, h => h.elim
  | _ :: _, [], _, h => h.elim
theorem ItL.set : ∀ {xs : List V} {ds : List PyData} (k : Nat), ItL N H xs ds → ItV N H v d → ItL N H (xs.set k v) (ds.set k d)
  | [], [], _, _, _ => trivial
  | _ :: _, _ :: _, 0, h, hv => ⟨hv, h.2⟩
  | _ :: _, _ :: _, k + 1, h, hv => ⟨h.1, ItL.set k h.2 hv⟩
  | [], _ :: _, _, h, _ => h.elim
  | _ :: _, [], _, h, _ => h.elim
theorem ItL.app1 : ∀ {xs : List V} {ds : List PyData}, ItL N H xs ds → ItV N H v d → ItL N H (xs ++ [v]) (ds ++ [d])
  | [], [], _, hv => ⟨hv, trivial⟩
  | _ :: _, _ :: _, h, hv => ⟨h.1, ItL.app1 h.2 hv⟩
  | [], _ :: _, h, _ => h.elim
  | _ :: _, [], h, _ => h.elim
theorem itl_strs : ∀ {ys : List Str}, (∀ y ∈ ys, y.length ≤ 500 ∧ Asc y) → ItL N H (ys.map V.str) (ys.map PyData.str)
  | [], _ => trivial
  | y :: r, h => ⟨.inr (.inr (.inr ⟨y, h y (List.mem_cons_self ..), .inl ⟨rfl, rfl⟩⟩)), itl_strs fun z hz => h z (List.mem_cons_of_mem _ hz)⟩
end
theorem ints_lay : ∀ ks : List Nat, (∀ k ∈ ks, k ≤ 1000) → PyData.canLayAll0 (ks.map fun k : Nat => PyData.int k) = true ∧ PyData.depthAll (ks.map fun k : Nat => PyData.int k) = 0
  | [], _ => ⟨rfl, rfl⟩
  | k :: r, h => by
    obtain ⟨h1, h2⟩ := ints_lay r fun z hz => h z (List.mem_cons_of_mem _ hz)
    have hk := h k (List.mem_cons_self ..)
    refine ⟨?_, ?_⟩
    · show (PyData.canLay0 (.int (k : Nat)) && PyData.canLayAll0 (r.map fun k : Nat => PyData.int k)) = true
      rw [h1, Bool.and_true]
      rfl
    · show max 0 (PyData.depthAll (r.map fun k : Nat => PyData.int k)) = 0
      rw [h2]
      rfl
theorem ints_shaped {ks : List Nat} (h : ∀ k ∈ ks, k ≤ 1000) : SeqAt.shaped (.list (ks.map fun k : Nat => PyData.int k)) = true := by
  obtain ⟨h1, h2⟩ := ints_lay ks h
  exact shaped_of h1 (by show PyData.depthAll _ + 1 ≤ 64; omega)
theorem dp_ints {K : PySem.W.Frag} {H : Hp} : ∀ ks : List Nat, DpAll K H (ks.map fun k : Nat => V.int k) (ks.map fun k : Nat => PyData.int k)
  | [] => .nil
  | k :: r => .cons (.int _) (dp_ints r)
theorem cutV_take (xs : List V) (k : Nat) (h : k ≤ xs.length) : cutV xs none (some (k : Int)) = xs.take k := by
  unfold cutV
  rw [HT.sIx_none, HT.sIx_nat, List.drop_zero, Nat.sub_zero, Nat.min_eq_left h]
end Ask

namespace Ask
open PySem L2
section
variable {P : Program} {w : World} {K : PySem.W.Frag} {mg : Str → Option Value} {base : Heap}
/-! ### what is due -/
def spDue (K : PySem.W.Frag) : Sp := fun vs H Q _ => ∃ (a : Addr) (xs : List V) (ds : List PyData) (N : Addr → Prop), vs = [.ref a] ∧ SqL K H a xs ∧ ItL N H xs ds ∧ xs.length ≤ 100 ∧ ∀ (H' : Hp) (v : V), Same H H' → Rs H' v (res ds) → Q v H'
abbrev s__law_due : Stmt := top 23
theorem sc__law_due : FnScope ["_law_words", "_law_wrong_here", "_law_k"] ["_law_words"] (defScope s__law_due) := ⟨rfl, rfl, rfl, by decide +kernel, rfl, by decide +kernel, by decide +kernel⟩
theorem ok_due {f fL : Addr} {fd fdL : FuncData} (F : Fun K "_law_due" "_law_due" s__law_due f fd) (T : Blt mg)
    (GL : FnOk P w K mg base CX0 1 fL fdL ["_law_value"] (spIsL K)) (L : At K mg "_law_is_letter" fL fdL ["_law_value"]) :
    FnOk P w K mg base CX0 2 f fd ["_law_words"] (spDue K) := by
  refine F.ok sc__law_due (fun vs H Q E h => ?_) (fun cdv A outer s H vs Q E hr h => ?_)
  · obtain ⟨a, xs, ds, N, rfl, _⟩ := h
    rfl
  · obtain ⟨a, xs, ds, N, rfl, hS, hI, hn, k⟩ := h
    have hu65 : A.units + 3 + 65 < cLine := by have := hr.un; have e : (A.deeper (PyProof.Rows.envOfC (Str.ofString "_law_due") (defScope s__law_due) s.heap.objs.size f cdv)).units = A.units + 3 := rfl; omega
    refine ⟨_, (pss_cons (ps_if (pt_cmpR op_gt (pe_callB call_len_seq (by rfl) T.n_len (by decide +kernel) (pa_cons (pv 0) pa_nil)) pe_int (nomark _)) (pss_one (ps_ret (pe_tup (pa_cons pe_str (pa_cons pe_str (pa_cons (pe_callB call_len_seq (by rfl) T.n_len (by decide +kernel) (pa_cons (pv 0) pa_nil)) (pa_cons pe_int pa_nil))))))) pss_nil)
      (pss_cons (ps_setLc (i := 1) (own := [("_law_k", 2)]) rfl sc__law_due.nd rfl rfl (sw_true rfl rfl rfl (by decide +kernel)) (pi_range1 rfl T.n_range (pa_cons (pe_callB call_len_seq (by rfl) T.n_len (by decide +kernel) (pa_cons (pv 0) pa_nil)) pa_nil)) (blkOk_by (N := ["_law_words", "_law_wrong_here", "_law_k"]) (sc := defScope s__law_due) (by decide +kernel)) (fun _ _ _ _ _ => (pg_name (i := 2) sc__law_due.nd rfl (Or.inl rfl))) (fun _ _ _ _ _ => pts_one (PW.pt (pw_or (pt_not (pt_val (pe_call GL (by exact hr) (by rfl) L.m L.k L.b .nil pass0 (pa_cons (pe_ix (show IxR _ (rIxL K) from ix_list) (pv 0) (pv 2) (fun _ _ => rfl)) pa_nil)))) (pw_or1 (pt_cmpR (show OpR _ _ (rInD K) from op_inD hu65) (pe_ix (show IxR _ (rIxL K) from ix_list) (pv 0) (pv 2) (fun _ _ => rfl)) (pe_slice (show SlR _ (rSlL K) from sl_list) (pv 0) po_none (po_some (pv 2))) rfl))))) (fun _ _ _ _ _ => (pv 2)))
      (pss_one (ps_ret (pe_ifExp (PW.pt (pw_or (pt_cmpR (op_neD hr.units) (pv 1) (pe_lst pa_nil) (nomark _)) (pw_or1 (pt_cmpR (op_eqD hr.units) (pv 0) (pe_lst pa_nil) (nomark _))))) (pe_tup (pa_cons pe_str (pa_cons (pe_ix ix_list (pe_op op_cat (pv 1) (pe_lst (pa_cons pe_int pa_nil))) pe_int (fun _ _ => rfl)) pa_nil))) pe_non))))), ?_⟩
    have hlen := hI.len
    have z1 : (1000 : Nat) ≤ sizeLine := by decide
    have fit := hI.fit
    refine ⟨_, rfl, a, xs, rfl, .inl hS, _, _, rfl, rfl, _, rfl, ite2 (fun h1 => ?_) (fun h1 => ?_)⟩
    · have h1 : (12 : Int) < (xs.length : Nat) := of_decide_eq_true h1
      refine ⟨_, rfl, a, xs, rfl, .inl hS, (by show 4 ≤ sizeLine; decide), fun q hq => k _ _ (Ask.Same.made1 (Same.refl _) hq) (.inr ⟨q, _, _, rfl, res_many (by omega), upd_same, fun K' H' => ?_⟩)⟩
      rw [← hlen]
      exact .cons (.str _) (.cons (.str _) (.cons (.int _) (.cons (.int _) .nil)))
    have h1 : ¬ 12 < ds.length := fun q => h1 (decide_eq_true (by omega))
    refine ⟨_, rfl, a, xs, rfl, .inl hS, _, rfl, by omega, by omega, fun L hL => ?_⟩
    rw [Int.toNat_natCast]
    refine lc_range (lo := 0) (n := xs.length) (fun i H3 => Same H H3 ∧ H3 L = some (.lst (((List.range i).filter (badAt ds)).map fun k : Nat => V.int k))) ⟨Ask.Same.upd_new (Same.refl _) hL, upd_same⟩ (fun i H3 hi hs => ?_) (fun H3 hs => ?_)
    · obtain ⟨s3, hL3⟩ := hs
      obtain ⟨v, d, hv, hd, hvd⟩ := (hI.mp fun v d h => h.same s3).get i hi
      have at1 : atI xs (0 + (i : Int)) = some v := at_by (j := i) (by omega) hv
      have nx : ∀ (H4 : Hp), Same H H4 → H4 L = some (.lst (((List.range i).filter (badAt ds)).map fun k : Nat => V.int k)) → ∀ b, b = badAt ds i →
          (if b = true then tVar 2 [some (.ref a), none, some (.int (0 + (i : Int)))] H4 fun y H4 => ∃ acc, H4 L = some (.lst acc) ∧ acc.length < sizeLine ∧ (Same H (upd H4 L (.lst (acc ++ [y]))) ∧ upd H4 L (.lst (acc ++ [y])) L = some (.lst (((List.range (i + 1)).filter (badAt ds)).map fun k : Nat => V.int k)))
            else (Same H H4 ∧ H4 L = some (.lst (((List.range (i + 1)).filter (badAt ds)).map fun k : Nat => V.int k)))) := by
        intro H4 s4 h4 b hb
        have e : (List.range (i + 1)).filter (badAt ds) = (List.range i).filter (badAt ds) ++ (if badAt ds i = true then [i] else []) := by
          rw [List.range_succ, List.filter_append, List.filter_cons]
          rfl
        rw [e, hb]
        refine ite2 (fun q => ?_) (fun q => ?_)
        · rw [if_pos q]
          refine ⟨_, rfl, _, h4, ?_, Ask.Same.upd_new s4 hL, ?_⟩
          · rw [List.length_map]
            have := List.length_filter_le (badAt ds) (List.range i)
            rw [List.length_range] at this
            omega
          · rw [upd_same, List.map_append, Int.zero_add]
            rfl
        · rw [if_neg q, List.append_nil]
          exact ⟨s4, h4⟩
      refine ⟨rfl, _, rfl, _, rfl, a, xs, _, v, rfl, rfl, s3.seq hS, at1, v, d, rfl, hvd.dp, hvd.itm, fun H4 s4 => ⟨_, rfl, ?_⟩⟩
      have s34 := s3.trans s4
      have e0 : badAt ds i = (!isL d || (ds.take i).any fun z => PyData.eqv z d) := by
        unfold badAt
        rw [hd]
      refine ite2 (fun q => ?_) (fun q => ?_)
      · exact nx H4 s34 (s4 _ _ hL3) _ (by rw [e0]; have q : (!isL d) = true := q; rw [q]; rfl)
      · refine ⟨_, rfl, _, rfl, a, xs, _, v, rfl, rfl, s34.seq hS, at1, _, rfl, _, rfl, _, rfl, a, xs, rfl, s34.seq hS, fun t ht => ?_⟩
        have s5 := Ask.Same.made1 (o := .lst (xs.take i)) s34 ht
        have e1 : cutV xs none (some (0 + (i : Int))) = xs.take i := by rw [Int.zero_add]; exact cutV_take _ _ (by omega)
        rw [e1]
        have hvd5 := hvd.same (Ask.Same.made1 (o := .lst (xs.take i)) s4 ht)
        have hT := (hI.mp fun v d h => h.same s5).take i
        refine ⟨d, ds.take i, hvd5.dp, .lst (SqL.of upd_same) hT.dp, (itm_fit hvd.itm).shaped, hT.fit.shapedL, _, rfl, ?_⟩
        refine nx _ s5 ?_ _ ?_
        · rw [upd_ne (ne_of_none (s4 _ _ hL3) ht)]
          exact s4 _ _ hL3
        · rw [e0]
          have q : (!isL d) = false := (Bool.not_eq_true _).mp q
          rw [q, Bool.false_or]
    · obtain ⟨s3, hL3⟩ := hs
      have hb : ∀ k ∈ bads ds, k ≤ 1000 := fun k hk => by
        have := List.mem_range.mp (List.mem_filter.mp hk).1
        omega
      rw [show (List.range xs.length).filter (badAt ds) = bads ds by rw [hlen]; rfl] at hL3
      -- the answer, if there is one
      have yes : ∀ H4, Same H H4 → H4 L = some (.lst ((bads ds).map fun k : Nat => V.int k)) → (bads ds ≠ [] ∨ ds.length = 0) →
          tTup (tCons (tC (.str "letters")) (tCons (tOp (rIxL K) (tOp rCat (tVar 1) (tLst (tCons (tC (.int 0)) tNil))) (tC (.int 0))) tNil)) [some (.ref a), some (.ref L), none] H4 Q := by
        intro H4 s4 h4 hne
        refine ⟨_, rfl, by show 1 ≤ sizeLine; decide, fun q hq => ⟨L, q, _, _, rfl, rfl, by rw [upd_ne (ne_of_none h4 hq)]; exact h4, upd_same, ?_, fun r hr => ?_⟩⟩
        · rw [List.length_map]
          have := List.length_filter_le (badAt ds) (List.range ds.length)
          rw [List.length_range] at this
          show (bads ds).length + 1 ≤ sizeLine
          have e : (bads ds).length ≤ ds.length := this
          omega
        have s5 := Ask.Same.made1 (o := .lst [.int 0]) s4 hq
        have s6 := Ask.Same.made1 (o := .lst (((bads ds).map fun k : Nat => V.int k) ++ [.int 0])) s5 hr
        obtain ⟨j, hj, hres⟩ : ∃ j : Int, (((bads ds).map fun k : Nat => V.int k) ++ [V.int 0])[0]? = some (.int j) ∧ res ds = .tuple [.str "letters", .int j] := by
          cases e : bads ds with
          | nil =>
            rcases hne with q | q
            · exact absurd e q
            · exact ⟨0, rfl, res_none q⟩
          | cons k r =>
            refine ⟨k, rfl, ?_⟩
            unfold res
            rw [if_neg h1, e]
        refine ⟨r, _, 0, _, rfl, rfl, SqL.of upd_same, at_by (j := 0) rfl hj, (by show 2 ≤ sizeLine; decide), fun t ht => k _ _ (Ask.Same.made1 s6 ht) (.inr ⟨t, _, _, rfl, hres, upd_same, fun K' H' => .cons (.str _) (.cons (.int _) .nil)⟩)⟩
      refine ⟨_, rfl, Nat.zero_le _, fun q hq => ?_⟩
      have s4 := Ask.Same.made1 (o := .lst []) s3 hq
      have hL4 : upd H3 q (.lst []) L = some (.lst ((bads ds).map fun k : Nat => V.int k)) := by rw [upd_ne (ne_of_none hL3 hq)]; exact hL3
      have hq4 : upd H3 q (.lst []) q = some (.lst []) := upd_same
      generalize upd H3 q (.lst []) = H4 at s4 hL4 hq4 ⊢
      refine ⟨.list ((bads ds).map fun k : Nat => PyData.int k), .list [], .lst (SqL.of hL4) (dp_ints _), .lst (SqL.of hq4) .nil, ints_shaped hb, by decide, _, rfl, ?_⟩
      rw [eqv_nil]
      cases e : bads ds with
      | cons k' r => exact iteT (yes H4 s4 hL4 (.inl (by rw [e]; exact List.cons_ne_nil _ _)))
      | nil =>
        refine iteF ⟨_, rfl, Nat.zero_le _, fun q' hq' => ?_⟩
        have s5 := Ask.Same.made1 (o := .lst []) s4 hq'
        have hL5 : upd H4 q' (.lst []) L = some (.lst ((bads ds).map fun k : Nat => V.int k)) := by rw [upd_ne (ne_of_none hL4 hq')]; exact hL4
        have hq5 : upd H4 q' (.lst []) q' = some (.lst []) := upd_same
        generalize upd H4 q' (.lst []) = H5 at s5 hL5 hq5 ⊢
        refine ⟨.list ds, .list [], .lst (s5.seq hS) (hI.mp fun v d h => h.same s5).dp, .lst (SqL.of hq5) .nil, fit.shapedL, by decide, _, rfl, ?_⟩
        rw [eqv_nil]
        refine ite2 (fun q => yes H5 s5 hL5 (.inr ?_)) (fun q => k H5 _ s5 (.inl ⟨rfl, ?_⟩))
        · have q : ds.isEmpty = true := q
          rw [List.isEmpty_iff] at q
          rw [q]
          rfl
        · have q : ¬ ds.length = 0 := fun z => q (by rw [List.eq_nil_of_length_eq_zero z]; rfl)
          unfold res
          rw [if_neg h1, e]
          exact if_neg q
end
end Ask

namespace Ask
open PySem L2
section
variable {P : Program} {w : World} {K : PySem.W.Frag} {mg : Str → Option Value} {base : Heap}
/-! ### copied, of a number or a text -/
def spCopy : Sp := fun vs H Q _ => ∃ x : V, vs = [x] ∧ ((∃ i, x = .int i) ∨ ∃ z, x = .str z) ∧ Q x H
abbrev s_copied : Stmt := top 6
theorem sc_copied : FnScope ["value"] ["value"] (defScope s_copied) := ⟨rfl, rfl, rfl, by decide +kernel, rfl, by decide +kernel, by decide +kernel⟩
theorem ok_copied {f : Addr} {fd : FuncData} (F : Fun K "copied" "copied" s_copied f fd) (T : Blt mg) (nD : mg "dict" = none) : FnOk P w K mg base CX0 1 f fd ["value"] spCopy := by
  refine F.ok sc_copied (fun vs H Q E h => ?_) (fun cdv A outer s H vs Q E hr h => ?_)
  · obtain ⟨x, rfl, _⟩ := h
    rfl
  · obtain ⟨x, rfl, hx, k⟩ := h
    refine ⟨_, (pss_cons (ps_if (pt_val (pe_callB call_isi (by rfl) T.n_isinstance (by decide +kernel) (pa_cons (pv 0) (pa_cons (pe_bltn (v := .ty "list") (u := .type "list") rfl T.n_list (by decide +kernel) rfl) pa_nil)))) pss_never pss_nil)
      (pss_cons (ps_if (pt_val (pe_callB call_isi (by rfl) T.n_isinstance (by decide +kernel) (pa_cons (pv 0) (pa_cons (pe_bltn (v := .ty "tuple") (u := .type "tuple") rfl T.n_tuple (by decide +kernel) rfl) pa_nil)))) pss_never pss_nil)
      (pss_cons (ps_if (pt_val (pe_callB call_isi (by rfl) T.n_isinstance (by decide +kernel) (pa_cons (pv 0) (pa_cons (pe_bltn (v := .ty "dict") (u := .type "dict") rfl nD (by decide +kernel) rfl) pa_nil)))) pss_never pss_nil)
      (pss_one (ps_ret (pv 0)))))), ?_⟩
    rcases hx with ⟨i, rfl⟩ | ⟨z, rfl⟩
    · refine ⟨_, rfl, _, _, _, _, false, rfl, .ty _, .base (.int _), kit_ty (by decide +kernel), _, rfl, iteF ?_⟩
      refine ⟨_, rfl, _, _, _, _, false, rfl, .ty _, .base (.int _), kit_ty (by decide +kernel), _, rfl, iteF ?_⟩
      refine ⟨_, rfl, _, _, _, _, false, rfl, .ty _, .base (.int _), kit_ty (by decide +kernel), _, rfl, iteF ?_⟩
      exact ⟨_, rfl, k⟩
    · refine ⟨_, rfl, _, _, _, _, false, rfl, .ty _, .base (.str _), kit_ty (by decide +kernel), _, rfl, iteF ?_⟩
      refine ⟨_, rfl, _, _, _, _, false, rfl, .ty _, .base (.str _), kit_ty (by decide +kernel), _, rfl, iteF ?_⟩
      refine ⟨_, rfl, _, _, _, _, false, rfl, .ty _, .base (.str _), kit_ty (by decide +kernel), _, rfl, iteF ?_⟩
      exact ⟨_, rfl, k⟩
/-! ### the errors -/
def spErr (C : Addr) (ok : List V → Prop) (fs : List V → List (Str × V)) : Sp := fun vs H Q _ => ∃ (a : Addr) (ws : List V), vs = .ref a :: ws ∧ ok ws ∧ H a = some (exo a C none) ∧
  ∀ (H' : Hp) (dx : Addr), H dx = none → dx ≠ a → H' a = some (exo a C (some dx)) → H' dx = some (exd dx (fs ws)) → (∀ b o, b ≠ a → H b = some o → H' b = some o) → Q .non H'
def okBad : List V → Prop := fun ws => ∃ i : Int, ws = [.int i]
def fsBad : List V → List (Str × V) := fun ws => match ws with
  | [v] => [("index", v)]
  | _ => []
def okMany : List V → Prop := fun ws => ∃ n : Int, ws = [.str "letters", .int n, .int 12]
def fsMany : List V → List (Str × V) := fun ws => match ws with
  | [v, n, m] => [("most", m), ("many", n), ("what", v)]
  | _ => []
abbrev s_BadLetters_init : Stmt := inClass (top 9) 0
theorem sc_BadLetters_init : FnScope ["self", "index"] ["self", "index"] (defScope s_BadLetters_init) := ⟨rfl, rfl, rfl, by decide +kernel, rfl, by decide +kernel, by decide +kernel⟩
abbrev s_TooMany_init : Stmt := inClass (top 10) 0
theorem sc_TooMany_init : FnScope ["self", "what", "many", "most"] ["self", "what", "many", "most"] (defScope s_TooMany_init) := ⟨rfl, rfl, rfl, by decide +kernel, rfl, by decide +kernel, by decide +kernel⟩
theorem ok_badInit {f fC C : Addr} {fd fdC : FuncData} (F : Fun K "__init__" "BadLetters.__init__" s_BadLetters_init f fd) (T : OexC K C) (h1 : PySem.W.findIn K (.ref C) "index" = some none)
    (GC : FnOk P w K mg base CX0 1 fC fdC ["value"] spCopy) (CP : At K mg "copied" fC fdC ["value"]) : FnOk P w K mg base CX0 2 f fd ["self", "index"] (spErr C okBad fsBad) := by
  refine F.ok sc_BadLetters_init (fun vs H Q E h => ?_) (fun cdv A outer s H vs Q E hr h => ?_)
  · obtain ⟨a, ws, rfl, ⟨i, rfl⟩, _⟩ := h
    rfl
  · obtain ⟨a, ws, rfl, ⟨i, rfl⟩, ha, k⟩ := h
    refine ⟨_, pss_one (ps_ost (pv 0) (pe_call GC hr (by rfl) CP.m CP.k CP.b .nil pass0 (pa_cons (pv 1) pa_nil))), ?_⟩
    refine ⟨_, rfl, _, rfl, .inl ⟨i, rfl⟩, _, rfl, a, C, rfl, T, h1, .inl ⟨ha, fun dx hdx hne => ?_⟩⟩
    refine k _ dx hdx hne upd_same (by rw [upd_ne hne]; exact upd_same) fun b o hb e => ?_
    rw [upd_ne hb, upd_ne (ne_of_none e hdx)]
    exact e
theorem ok_manyInit {f fC C : Addr} {fd fdC : FuncData} (F : Fun K "__init__" "TooMany.__init__" s_TooMany_init f fd) (T : OexC K C) (h1 : PySem.W.findIn K (.ref C) "what" = some none) (h2 : PySem.W.findIn K (.ref C) "many" = some none) (h3 : PySem.W.findIn K (.ref C) "most" = some none)
    (GC : FnOk P w K mg base CX0 1 fC fdC ["value"] spCopy) (CP : At K mg "copied" fC fdC ["value"]) : FnOk P w K mg base CX0 2 f fd ["self", "what", "many", "most"] (spErr C okMany fsMany) := by
  refine F.ok sc_TooMany_init (fun vs H Q E h => ?_) (fun cdv A outer s H vs Q E hr h => ?_)
  · obtain ⟨a, ws, rfl, ⟨i, rfl⟩, _⟩ := h
    rfl
  · obtain ⟨a, ws, rfl, ⟨i, rfl⟩, ha, k⟩ := h
    refine ⟨_, pss_cons (ps_ost (pv 0) (pe_call GC hr (by rfl) CP.m CP.k CP.b .nil pass0 (pa_cons (pv 1) pa_nil))) (pss_cons (ps_ost (pv 0) (pe_call GC hr (by rfl) CP.m CP.k CP.b .nil pass0 (pa_cons (pv 2) pa_nil))) (pss_one (ps_ost (pv 0) (pe_call GC hr (by rfl) CP.m CP.k CP.b .nil pass0 (pa_cons (pv 3) pa_nil))))), ?_⟩
    refine ⟨_, rfl, _, rfl, .inr ⟨_, rfl⟩, _, rfl, a, C, rfl, T, h1, .inl ⟨ha, fun dx hdx hne => ?_⟩⟩
    have e1 : upd (upd H dx (exd dx [("what", .str "letters")])) a (exo a C (some dx)) a = some (exo a C (some dx)) := upd_same
    have e2 : upd (upd H dx (exd dx [("what", .str "letters")])) a (exo a C (some dx)) dx = some (exd dx [("what", .str "letters")]) := by rw [upd_ne hne]; exact upd_same
    have k1 : ∀ b o, b ≠ a → H b = some o → upd (upd H dx (exd dx [("what", .str "letters")])) a (exo a C (some dx)) b = some o := fun b o hb e => by
      rw [upd_ne hb, upd_ne (ne_of_none e hdx)]
      exact e
    generalize upd (upd H dx (exd dx [("what", .str "letters")])) a (exo a C (some dx)) = H1 at e1 e2 k1 ⊢
    refine ⟨_, rfl, _, rfl, .inl ⟨_, rfl⟩, _, rfl, a, C, rfl, T, h2, .inr ⟨dx, _, e1, e2, by show 1 ≤ 900; decide, ?_⟩⟩
    refine ⟨_, rfl, _, rfl, .inl ⟨_, rfl⟩, _, rfl, a, C, rfl, T, h3, .inr ⟨dx, _, (by rw [upd_ne hne.symm]; exact e1), upd_same, by show 2 ≤ 900; decide, ?_⟩⟩
    refine k _ dx hdx hne (by rw [upd_ne hne.symm, upd_ne hne.symm]; exact e1) upd_same fun b o hb e => ?_
    have nb := ne_of_none e hdx
    rw [upd_ne nb, upd_ne nb]
    exact k1 b o hb e
end
end Ask

namespace Ask
open PySem L2
/-- an own error class of the text, its __init__ at f -/
structure ErrAt (K : PySem.W.Frag) (mg : Str → Option Value) (x : Str) (C f : Addr) (fd : FuncData) (ps : List Str) : Prop where
  m : mg x = some (.ref C)
  o : OexC K C
  i : PySem.W.findIn K (.ref C) "__init__" = some (some (.ref f))
  t : PySem.W.typeIn K (.ref f) = some (.type "function")
  b : Binds K fd ps []
  xf : XfC K C
theorem err_made {C : Addr} {ok : List V → Prop} {fs : List V → List (Str × V)} {H0 H1 : Hp} {ws : List V} {Qx : XK} (s : Same H0 H1) (hok : ok ws) (hl : ws.length ≤ 1000)
    (k : ∀ (H' : Hp) (d : Addr), Same H0 H' → H' d = some (.xd (fs ws)) → Qx (.ref C) (some d) H') :
    ws.length ≤ 1000 ∧ ∀ a, H1 a = none → spErr C ok fs (.ref a :: (ws ++ [])) (upd H1 a (exo a C none))
      (fun v H2 => v = .non ∧ ∃ (d : Addr) (fs' : List (Str × V)), H2 a = some (exo a C (some d)) ∧ H2 d = some (exd d fs') ∧ H1 d = none ∧ Qx (.ref C) (some d) (upd (del H2 a) d (.xd fs'))) (fun _ _ _ => False) := by
  refine ⟨hl, fun a ha => ⟨a, ws, by rw [List.append_nil], hok, upd_same, fun H' dx hdx hne e1 e2 kk => ?_⟩⟩
  have h1 : H1 dx = none := by
    rw [upd_ne hne] at hdx
    exact hdx
  refine ⟨rfl, dx, _, e1, e2, h1, k _ dx (fun b o e => ?_) upd_same⟩
  have e' := s b o e
  have nb : b ≠ a := ne_of_none e' ha
  rw [upd_ne (ne_of_none e' h1), del_ne nb]
  exact kk b o nb (by rw [upd_ne nb]; exact e')
theorem for_enum {K : PySem.W.Frag} {ta : TA} {g : TG} {tb u : TS} {D : Ends} {σ : L2.St} {H : Hp} {J : It} {n : Nat} {G : Hp → Prop} {Y : Nat → Hp → V → Hp → Prop} (f : ∀ R : It → Hp → Prop, R J H → iEnumA K ta σ H R)
    (wk : Walk J n G Y) (Pv : Nat → L2.St → Hp → Prop) (h0 : Pv 0 σ H) (hG : ∀ i σ H, i ≤ n → Pv i σ H → G H)
    (hs : ∀ i x σ H H', i < n → Pv i σ H → Y i H x H' → g x σ H' fun σ2 H2 => tb { D with nx := Pv (i + 1), ct := Pv (i + 1), bk := u D } σ2 H2) (hd : ∀ σ H, Pv n σ H → u D σ H) :
    tSeq (tFor (iEnumA K ta) g tb) u D σ H := by
  delta tSeq tFor
  exact f _ (for_it (D := { D with nx := u D }) wk Pv h0 hG hs hd)
theorem seqT_same {K : PySem.W.Frag} {H H' : Hp} {a : Addr} {xs : List V} (e : Same H H') (h : SqT K H a xs) : SqT K H' a xs := by
  rcases h with (h | ⟨o, h⟩) | h
  · exact .inl (.inl (e _ _ h))
  · exact .inl (.inr ⟨o, e _ _ h⟩)
  · exact .inr h
section
variable {P : Program} {w : World} {K : PySem.W.Frag} {mg : Str → Option Value} {base : Heap}
/-! ### Letters(words) -/
def spLet (K : PySem.W.Frag) (CL CB CM : Addr) : Sp := fun vs H Q E => ∃ (p dx a : Addr) (xs : List V) (ds : List PyData) (N : Addr → Prop), vs = [.ref p, .ref a] ∧ H p = some (.ins CL dx []) ∧ (SqL K H a xs ∨ SqT K H a xs) ∧ ItL N H xs ds ∧ xs.length ≤ 100 ∧
  (∀ (H' : Hp) (d : Addr) (i : Int), res ds = .tuple [.str "letters", .int i] → Same H H' → H' d = some (.xd (fsBad [.int i])) → E (.ref CB) (some d) H') ∧
  (∀ (H' : Hp) (d : Addr), 12 < ds.length → Same H H' → H' d = some (.xd (fsMany [.str "letters", .int (ds.length : Nat), .int 12])) → E (.ref CM) (some d) H') ∧
  (∀ (H' : Hp) (t : Addr), res ds = .none → H' p = some (.ins CL dx [("words", .ref t)]) → H' t = some (.tup xs) → (∀ b o, b ≠ p → H b = some o → H' b = some o) → Q .non H')
abbrev s_Letters_init : Stmt := inClass (top 15) 0
theorem sc_Letters_init : FnScope ["self", "words", "many", "kept", "index", "word"] ["self", "words"] (defScope s_Letters_init) := ⟨rfl, rfl, rfl, by decide +kernel, rfl, by decide +kernel, by decide +kernel⟩
theorem ok_letInit {f fI fB fM CL CB CM : Addr} {fd fdI fdB fdM : FuncData} (F : Fun K "__init__" "Letters.__init__" s_Letters_init f fd) (T : Blt mg) (C : Gv K mg) (hC : Cls K CL) (hA : NoAttr K CL "words")
    (GI : FnOk P w K mg base CX0 2 fI fdI ["value"] (spIsL K)) (I : At K mg "is_letter" fI fdI ["value"])
    (FB : FnOk P w K mg base CX0 2 fB fdB ["self", "index"] (spErr CB okBad fsBad)) (EB : ErrAt K mg "BadLetters" CB fB fdB ["self", "index"])
    (FM : FnOk P w K mg base CX0 2 fM fdM ["self", "what", "many", "most"] (spErr CM okMany fsMany)) (EM : ErrAt K mg "TooMany" CM fM fdM ["self", "what", "many", "most"]) :
    FnOk P w K mg base (L2.CX P w) 4 f fd ["self", "words"] (spLet K CL CB CM) := by
  refine F.okX sc_Letters_init (fun vs H Q E h => ?_) (fun cdv A outer s H vs Q E hr h => ?_)
  · obtain ⟨p, dx, a, xs, ds, N, rfl, _⟩ := h
    rfl
  · obtain ⟨p, dx, a, xs, ds, N, rfl, hp, hS, hI, hn, kB, kM, kQ⟩ := h
    have hu65 : A.units + 3 + 65 < cLine := by have := hr.un; have e : (A.deeper (PyProof.Rows.envOfC (Str.ofString "Letters.__init__") (defScope s_Letters_init) s.heap.objs.size f cdv)).units = A.units + 3 := rfl; omega
    have hr2 := hr.mono (j := 2) (by decide)
    refine ⟨_, (pss_cons (ps_set (i := 2) sc_Letters_init.nd rfl (Or.inl rfl) (pe_callB call_len_seq (by rfl) T.n_len (by decide +kernel) (pa_cons (pv 1) pa_nil)))
      (pss_cons (ps_if (pt_cmpR op_gt (pv 2) (pe_gv rfl C.mostL) (nomark _)) (pss_one (ps_raise rfl (takes_of rfl rfl rfl rfl) (pmk_oex EM.o EM.i EM.t FM hr EM.b .nil pass0 (by rfl) EM.m (pa_cons pe_str (pa_cons (pv 2) (pa_cons (pe_gv rfl C.mostL) pa_nil)))))) pss_nil)
      (pss_cons (ps_if (pt_cmpR op_eq (pv 2) pe_int (nomark _)) (pss_one (ps_raise rfl (takes_of rfl rfl rfl rfl) (pmk_oex EB.o EB.i EB.t FB hr EB.b .nil pass0 (by rfl) EB.m (pa_cons pe_int pa_nil)))) pss_nil)
      (pss_cons (ps_set (i := 3) sc_Letters_init.nd rfl (Or.inl rfl) (pe_lst pa_nil))
      (pss_cons (ps_for (passes_of rfl) rfl (pi_enumA (by rfl) T.n_enumerate (pa_cons (pv 1) pa_nil)) (pg_tup rfl (pgs_cons (pg_name (i := 4) sc_Letters_init.nd rfl (Or.inl rfl)) (pgs_cons (pg_name (i := 5) sc_Letters_init.nd rfl (Or.inl rfl)) pgs_nil))) (pss_cons (ps_if (PW.pt (pw_or (pt_not (pt_val (pe_call GI hr2 (by rfl) I.m I.k I.b .nil pass0 (pa_cons (pv 5) pa_nil)))) (pw_or1 (pt_cmpR (op_inD hu65) (pv 5) (pv 3) rfl)))) (pss_one (ps_raise rfl (takes_of rfl rfl rfl rfl) (pmk_oex EB.o EB.i EB.t FB hr EB.b .nil pass0 (by rfl) EB.m (pa_cons (pv 4) pa_nil)))) pss_nil)
      (pss_one (ps_expr (pe_bm PySem.F.plainAttrs_list PySem.F.slot_list_append PySem.F.type_list_append mt_append (pv 3) (pa_cons (pv 5) pa_nil))))))
      (pss_one (ps_fld (pv 0) (pe_callTy call_tuple_of (by rfl) T.n_tuple (by decide +kernel) (pa_cons (pv 3) pa_nil)) rfl))))))), ?_⟩
    have hlen := hI.len
    have z1 : (1000 : Nat) ≤ sizeLine := by decide
    have fit := hI.fit
    refine ⟨_, rfl, a, xs, rfl, hS, _, rfl, _, _, rfl, rfl, _, rfl, ite2 (fun h1 => ?_) (fun h1 => ?_)⟩
    · have h1 : (12 : Int) < (xs.length : Nat) := of_decide_eq_true h1
      refine ⟨_, rfl, err_made (Same.refl H) ⟨_, rfl⟩ (by show 3 ≤ 1000; decide) (fun H' d s' e => kM H' d (by omega) s' ?_)⟩
      rw [← hlen]
      exact e
    have h1 : ¬ 12 < ds.length := fun q => h1 (decide_eq_true (by omega))
    refine ⟨_, rfl, rfl, _, rfl, ite2 (fun h2 => ?_) (fun h2 => ?_)⟩
    · have h2 : V.int ((xs.length : Nat) : Int) = V.int 0 := of_decide_eq_true h2
      injection h2 with h2
      exact err_made (Same.refl H) ⟨_, rfl⟩ (by show 1 ≤ 1000; decide) (fun H' d s' e => kB H' d 0 (res_none (by omega)) s' e)
    have h2 : 0 < ds.length := by
      have : ¬ ((xs.length : Nat) : Int) = 0 := fun q => h2 (decide_eq_true (congrArg V.int q))
      omega
    refine ⟨Nat.zero_le _, fun L hL => ?_⟩
    have s1 := Ask.Same.made1 (o := .lst []) (Same.refl H) hL
    have hL1 : upd H L (.lst []) L = some (.lst (xs.take 0)) := upd_same
    generalize upd H L (.lst []) = H1 at s1 hL1 ⊢
    obtain ⟨J, G, wk, hG, fits⟩ : ∃ (J : It) (G : Hp → Prop), Walk J xs.length G (YPair (fun i => some (.int (i : Nat))) (fun i => xs[i]?)) ∧ (∀ H', Same H H' → G H') ∧
        ∀ (R : It → Hp → Prop), R J H1 → iEnumA K (tCons (tVar 1) tNil) [some (.ref p), some (.ref a), some (.int (xs.length : Nat)), some (.ref L), none, none] H1 R := by
      rcases hS with hS | hS
      · exact ⟨Ite K a, _, walk_enum, fun H' s' => s'.seq hS, fun R r => ⟨_, rfl, a, xs, rfl, .inl ⟨s1.seq hS, r⟩⟩⟩
      · exact ⟨IteT K a, _, walk_enumT, fun H' s' => seqT_same s' hS, fun R r => ⟨_, rfl, a, xs, rfl, .inr ⟨seqT_same s1 hS, r⟩⟩⟩
    refine for_enum fits wk (fun i σ' H' => ∃ o4 o5 : Option V, σ' = [some (.ref p), some (.ref a), some (.int (xs.length : Nat)), some (.ref L), o4, o5] ∧ Same H H' ∧ H' L = some (.lst (xs.take i)) ∧ ∀ j < i, badAt ds j = false)
      ⟨none, none, rfl, s1, hL1, fun j hj => absurd hj (Nat.not_lt_zero _)⟩ (fun i σ' H' _ ⟨_, _, _, s', _⟩ => hG H' s') ?_ ?_
    · rintro i x σ' H2 H3 hi ⟨o4, o5, rfl, s2, hL2, hno⟩ ⟨t, x0, y0, rfl, ht, rfl, ex, ey⟩
      cases ex
      obtain ⟨v, d, hv, hd, hvd⟩ := hI.get i hi
      replace ey : xs[i]? = some y0 := ey
      obtain rfl : v = y0 := Option.some.inj (hv.symm.trans ey)
      clear ey
      have s3 := Ask.Same.made1 (o := .tup [.int (i : Nat), v]) s2 ht
      have hL3 : upd H2 t (.tup [.int (i : Nat), v]) L = some (.lst (xs.take i)) := by rw [upd_ne (ne_of_none hL2 ht)]; exact hL2
      have ht3 : upd H2 t (.tup [.int (i : Nat), v]) t = some (.tup [.int (i : Nat), v]) := upd_same
      generalize upd H2 t (.tup [.int (i : Nat), v]) = H4 at s3 hL3 ht3 ⊢
      have e0 : badAt ds i = (!isL d || (ds.take i).any fun z => PyData.eqv z d) := by
        unfold badAt
        rw [hd]
      have bad : ∀ H5, Same H H5 → badAt ds i = true → tMkO CB (spErr CB okBad fsBad) [] (tCons (tVar 4) tNil) [some (.ref p), some (.ref a), some (.int (xs.length : Nat)), some (.ref L), some (.int (i : Nat)), some v] H5 fun cls d H' => E cls d H' := fun H5 s5 q =>
        ⟨_, rfl, err_made s5 ⟨_, rfl⟩ (by show 1 ≤ 1000; decide) (fun H' d s' e => kB H' d i (res_at h1 (by omega) q hno) s' e)⟩
      refine ⟨t, _, rfl, SqT.of ht3, rfl, _, _, rfl, _, _, rfl, rfl, ?_⟩
      have hvd4 := hvd.same s3
      refine ⟨_, rfl, v, d, rfl, hvd4.dp, hvd4.itm, fun H5 s5 => ⟨_, rfl, ?_⟩⟩
      have s35 := s3.trans s5
      have hL5 := s5 _ _ hL3
      refine ite2 (fun q => ?_) (fun q => ?_)
      · exact iteT (bad H5 s35 (by rw [e0]; have q : (!isL d) = true := q; rw [q]; rfl))
      · have q : (!isL d) = false := (Bool.not_eq_true _).mp q
        have hT := (hI.mp fun v d h => h.same s35).take i
        refine ⟨_, rfl, _, rfl, d, ds.take i, (hvd.same s35).dp, .lst (SqL.of hL5) hT.dp, (itm_fit hvd.itm).shaped, hT.fit.shapedL, _, rfl, ?_⟩
        have e1 : badAt ds i = (ds.take i).any fun z => PyData.eqv z d := by rw [e0, q, Bool.false_or]
        refine ite2 (fun q => bad H5 s35 (by rw [e1]; exact q)) (fun q => ?_)
        have q : badAt ds i = false := by rw [e1]; exact (Bool.not_eq_true _).mp q
        refine ⟨_, rfl, .inl ⟨rfl, _, SqL.of hL5⟩, _, rfl, L, _, _, rfl, rfl, hL5, ?_, ?_⟩
        · rw [List.length_take]
          omega
        · refine ⟨_, _, rfl, Ask.Same.upd_new s35 hL, ?_, fun j hj => ?_⟩
          · rw [upd_same, List.take_add_one, hv]
            rfl
          · rcases Nat.lt_succ_iff_lt_or_eq.mp hj with hj | rfl
            · exact hno j hj
            · exact q
    · rintro σ' H2 ⟨o4, o5, rfl, s2, hL2, hno⟩
      rw [List.take_length] at hL2
      refine ⟨_, rfl, L, xs, rfl, .inl ⟨SqL.of hL2, fun t ht => ?_⟩⟩
      have npt : p ≠ t := ne_of_none (s2 _ _ hp) ht
      refine ⟨_, rfl, p, CL, dx, [], rfl, (by rw [upd_ne npt]; exact s2 _ _ hp), hC, hA, (by show 0 < 1000; decide), ?_⟩
      refine kQ _ t (res_good h1 h2 (by rw [← hlen]; exact hno)) upd_same (by rw [upd_ne npt.symm]; exact upd_same) fun b o hb e => ?_
      have e' := s2 _ _ e
      rw [upd_ne hb, upd_ne (ne_of_none e' ht)]
      exact e'
end
end Ask

namespace Ask
open PySem L2
section
variable {P : Program} {w : World} {K : PySem.W.Frag} {mg : Str → Option Value} {base : Heap}
/-! ### what is told -/
def spTold (K : PySem.W.Frag) : Sp := fun vs H Q _ => ∃ (a : Addr) (xs : List V) (ds : List PyData) (N : Addr → Prop), vs = [.ref a] ∧ (SqL K H a xs ∨ SqT K H a xs) ∧ ItL N H xs ds ∧ xs.length ≤ 100 ∧
  ∀ (H' : Hp) (v : V), Same H H' → Rs H' v (res ds) → Q v H'
abbrev s__law_told : Stmt := top 24
theorem sc__law_told : FnScope ["_law_words", "_law_made", "e"] ["_law_words"] (defScope s__law_told) := ⟨rfl, rfl, rfl, by decide +kernel, rfl, by decide +kernel, by decide +kernel⟩
def tsMany (CM : Addr) : Addr → Value → Option Addr → TS := fun a cls d => tRet (tTup (tCons (tC (.str "many")) (tCons (tXf a cls d CM "what" (tVar 2)) (tCons (tXf a cls d CM "many" (tVar 2)) (tCons (tXf a cls d CM "most" (tVar 2)) tNil)))))
def tsBad (CB : Addr) : Addr → Value → Option Addr → TS := fun a cls d => tRet (tTup (tCons (tC (.str "letters")) (tCons (tXf a cls d CB "index" (tVar 2)) tNil)))
def wTold (K : PySem.W.Frag) (CB CM : Addr) (D : Ends) : WX := wAs K (.ref CM) 2 (tsMany CM) (wAs K (.ref CB) 2 (tsBad CB) (fun _ _ _ _ => False) D) D
/-- what the clauses ask of the two classes -/
structure ExB (K : PySem.W.Frag) (CB CM : Addr) : Prop where
  mm : PySem.W.exmOne K (.ref CM) (.ref CM) = some true
  bm : PySem.W.exmOne K (.ref CB) (.ref CM) = some false
  bb : PySem.W.exmOne K (.ref CB) (.ref CB) = some true
  b1 : PySem.W.findIn K (.ref CB) "index" = some none
  m1 : PySem.W.findIn K (.ref CM) "what" = some none
  m2 : PySem.W.findIn K (.ref CM) "many" = some none
  m3 : PySem.W.findIn K (.ref CM) "most" = some none
theorem ok_told {f fL fB fM CL CB CM : Addr} {fd fdL fdB fdM : FuncData} {psB psM : List Str} (F : Fun K "_law_told" "_law_told" s__law_told f fd) (T : Blt mg) (hC : Cls K CL) (hA : NoAttr K CL "words")
    (M : Mk K CL fL) (mL : mg "Letters" = some (.ref CL)) (bL : Binds K fdL ["self", "words"] []) (GL : FnOk P w K mg base (L2.CX P w) 4 fL fdL ["self", "words"] (spLet K CL CB CM))
    (EB : ErrAt K mg "BadLetters" CB fB fdB psB) (EM : ErrAt K mg "TooMany" CM fM fdM psM) (X : ExB K CB CM) : FnOk P w K mg base CX0 6 f fd ["_law_words"] (spTold K) := by
  refine F.ok sc__law_told (fun vs H Q E h => ?_) (fun cdv A outer s H vs Q E hr h => ?_)
  · obtain ⟨a, xs, ds, N, rfl, _⟩ := h
    rfl
  · obtain ⟨a, xs, ds, N, rfl, hS, hI, hn, k⟩ := h
    refine ⟨_, (pss_cons (ps_try_hands (tb := fun W => tAsg (tMakeS CL (spLet K CL CB CM) (WE W) (tCons (tVar 0) tNil)) (gName 1)) (Wf := wTold K CB CM) rfl rfl
        (fun W pn xe tk _ => pss_one (ps_set (i := 1) sc__law_told.nd rfl (Or.inl rfl) (by exact (pe_makeS M GL hr (by rfl) mL bL (fun σ => passAt tk σ) (by exact (pa_cons (pv 0) pa_nil))))))
        (fun D => hands_as (ts := tsMany CM) rfl sc__law_told.nd rfl rfl ⟨rfl, by decide, Or.inl EM.m⟩
          (fun a oe cls d pn hz hf => pss_one (ps_ret (by exact (pe_tup (pa_cons pe_str (pa_cons (pe_xf EM.xf X.m1 hz hf (pv 2)) (pa_cons (pe_xf EM.xf X.m2 hz hf (pv 2)) (pa_cons (pe_xf EM.xf X.m3 hz hf (pv 2)) pa_nil))))))))
          (hands_as (ts := tsBad CB) rfl sc__law_told.nd rfl rfl ⟨rfl, by decide, Or.inl EB.m⟩
            (fun a oe cls d pn hz hf => pss_one (ps_ret (by exact (pe_tup (pa_cons pe_str (pa_cons (pe_xf EB.xf X.b1 hz hf (pv 2)) pa_nil))))))
            (hands_nil rfl rfl takes0))))
      (pss_one (ps_ret (pe_ifExp (pt_cmpR (op_eqD hr.units) (pe_fld (pv 1) rfl) (pe_callTy call_tuple_of (by rfl) T.n_tuple (by decide +kernel) (pa_cons (pv 0) pa_nil)) (nomark _)) pe_non (pe_tup (pa_cons pe_str (pa_cons (pe_fld (pv 1) rfl) pa_nil))))))), ?_⟩
    have fit := hI.fit
    have hlen := hI.len
    refine ⟨_, rfl, fun x dx hx hdx hne => ?_⟩
    have hx1 : upd H dx (.own x) x = none := by rw [upd_ne hne.symm]; exact hx
    have sm : Same H (upd (upd H dx (.own x)) x (.ins CL dx [])) := Ask.Same.made1 (Ask.Same.made1 (Same.refl H) hdx) hx1
    refine ⟨x, dx, a, xs, ds, N, rfl, upd_same, ?_, hI.mp fun v d h => h.same sm, hn, fun H' d i hres s' e => ?_, fun H' d hlt s' e => ?_, fun H' t hres e1 e2 kk => ⟨rfl, ?_⟩⟩
    · rcases hS with hS | hS
      · exact .inl (sm.seq hS)
      · exact .inr (seqT_same sm hS)
    · refine ⟨false, X.bm, (fun q => Bool.noConfusion q), fun _ => ⟨true, X.bb, fun _ a0 _ => ?_, fun q => Bool.noConfusion q⟩⟩
      refine ⟨_, rfl, rfl, rfl, d, _, _, rfl, e, rfl, by show 2 ≤ sizeLine; decide, fun q hq => k _ _ (Ask.Same.made1 (sm.trans s') hq) (.inr ⟨q, _, _, rfl, hres, upd_same, fun K' H' => .cons (.str _) (.cons (.int _) .nil)⟩)⟩
    · refine ⟨true, X.mm, fun _ a0 _ => ?_, fun q => Bool.noConfusion q⟩
      refine ⟨_, rfl, rfl, rfl, d, _, _, rfl, e, rfl, _, rfl, rfl, rfl, d, _, _, rfl, e, rfl, _, rfl, rfl, rfl, d, _, _, rfl, e, rfl, by show 4 ≤ sizeLine; decide, fun q hq => k _ _ (Ask.Same.made1 (sm.trans s') hq) (.inr ⟨q, _, _, rfl, res_many hlt, upd_same, fun K' H' => .cons (.str _) (.cons (.str _) (.cons (.int _) (.cons (.int _) .nil)))⟩)⟩
    · have s' : Same H H' := Same.made hx hdx fun b o e hb => kk b o hb e
      have hI' := hI.mp fun v d h => h.same s'
      have ev : PyData.eqv (.tuple ds) (.tuple ds) = true := PySem.SeqAt.eqv_refl _ fit.lay
      refine ⟨_, rfl, x, CL, dx, _, .ref t, rfl, e1, hC, hA, rfl, _, rfl, ?_⟩
      rcases hS with hS | hS
      · refine ⟨a, xs, rfl, .inl ⟨s'.seq hS, fun l hl => ?_⟩⟩
        have s2 := Ask.Same.made1 (o := .tup xs) s' hl
        have e3 : upd H' l (.tup xs) t = some (.tup xs) := by rw [upd_ne (ne_of_none e2 hl)]; exact e2
        refine ⟨.tuple ds, .tuple ds, .tup (SqT.of e3) (hI.mp fun v d h => h.same s2).dp, .tup (SqT.of upd_same) (hI.mp fun v d h => h.same s2).dp, fit.shapedT, fit.shapedT, _, rfl, ?_⟩
        rw [ev]
        exact iteT (k _ _ s2 (.inl ⟨rfl, hres⟩))
      · refine ⟨a, xs, rfl, .inr ⟨seqT_same s' hS, ?_⟩⟩
        refine ⟨.tuple ds, .tuple ds, .tup (SqT.of e2) hI'.dp, .tup (seqT_same s' hS) hI'.dp, fit.shapedT, fit.shapedT, _, rfl, ?_⟩
        rw [ev]
        exact iteT (k _ _ s' (.inl ⟨rfl, hres⟩))
end
end Ask

namespace Ask
open PySem L2
abbrev s_law : Stmt := top 25
theorem sc_law : FnScope ["_law_script", "_law_pen_here", "_law_turn", "_law_many", "_law_words", "_law_k", "_law_given", "_law_word"] ["_law_script"] (defScope s_law) := ⟨rfl, rfl, rfl, by decide +kernel, rfl, by decide +kernel, by decide +kernel⟩
def nLaw : List Str := ["_law_script", "_law_pen_here", "_law_turn", "_law_many", "_law_words", "_law_k", "_law_given", "_law_word"]
theorem isL_short {N : Addr → Prop} {H : Hp} {v : V} {d : PyData} (h : ItV N H v d) (q : isL d = true) : ∃ z : Str, v = .str z ∧ d = .str z ∧ z.length ≤ 200 ∧ Asc z := by
  rcases h with ⟨_, rfl⟩ | ⟨_, rfl⟩ | ⟨_, rfl⟩ | ⟨z, ⟨h1, h2⟩, ⟨rfl, rfl⟩ | ⟨a, _, _, ⟨_, rfl⟩ | ⟨_, rfl⟩⟩⟩
  · cases q
  · cases q
  · cases q
  · refine ⟨z, rfl, rfl, ?_, h2⟩
    have q : goodW (wordS z) = true := q
    unfold goodW shortL at q
    simp only [Bool.and_eq_true, decide_eq_true_eq] at q
    have h3 := q.1.1.1.2
    have e : (wordS z).cps.toList = wordOf z.cps.toList := by simp [wordS]
    rw [e] at h3
    unfold wordOf at h3
    have l := tl_len z
    split at h3
    · rw [List.length_drop] at h3
      omega
    · omega
  · cases q
  · cases q
theorem res_lay (ds : List PyData) : (res ds).canLay0 = true ∧ (res ds).depth ≤ 64 := by
  unfold res
  split
  · exact ⟨(show (PyData.strOk "many" && (PyData.strOk "letters" && (true && (true && true)))) = true by decide +kernel), (show max 0 (max 0 (max 0 (max 0 0))) + 1 ≤ 64 by decide)⟩
  · split
    · exact ⟨(show (PyData.strOk "letters" && (true && true)) = true by decide +kernel), (show max 0 (max 0 0) + 1 ≤ 64 by decide)⟩
    · split
      · exact ⟨(show (PyData.strOk "letters" && (true && true)) = true by decide +kernel), by decide⟩
      · exact ⟨rfl, by decide⟩
section
variable {P : Program} {w : World} {K : PySem.W.Frag} {mg : Str → Option Value} {base : Heap}
theorem run_law {f a fPn fDr fPk fLt fIs fWr fDu fTo : Addr} {fd fdPn fdDr fdPk fdLt fdIs fdWr fdDu fdTo : FuncData} {A : Around} {outer : List Env} {s : Shared} {H : Hp} {ns : List Int}
    (F : Fun K "law" "law" s_law f fd) (T : Blt mg)
    (G0 : FnOk P w K mg base CX0 1 fPn fdPn ["_law_script"] (spPen K)) (A0 : At K mg "_law_pen" fPn fdPn ["_law_script"])
    (G1 : FnOk P w K mg base CX0 1 fDr fdDr ["_law_pen_here", "_law_many"] spDraw) (A1 : At K mg "_law_draw" fDr fdDr ["_law_pen_here", "_law_many"])
    (G2 : FnOk P w K mg base CX0 2 fPk fdPk ["_law_pen_here", "_law_options"] (spPick K)) (A2 : At K mg "_law_pick" fPk fdPk ["_law_pen_here", "_law_options"])
    (G3 : FnOk P w K mg base CX0 3 fLt fdLt ["_law_pen_here", "_law_many"] spLetters) (A3 : At K mg "_law_letters" fLt fdLt ["_law_pen_here", "_law_many"])
    (G4 : FnOk P w K mg base CX0 1 fIs fdIs ["_law_value"] (spIsL K)) (A4 : At K mg "_law_is_letter" fIs fdIs ["_law_value"])
    (G5 : FnOk P w K mg base CX0 3 fWr fdWr ["_law_pen_here", "_law_words"] (spWrong K)) (A5 : At K mg "_law_wrong" fWr fdWr ["_law_pen_here", "_law_words"])
    (G6 : FnOk P w K mg base CX0 2 fDu fdDu ["_law_words"] (spDue K)) (A6 : At K mg "_law_due" fDu fdDu ["_law_words"])
    (G7 : FnOk P w K mg base CX0 6 fTo fdTo ["_law_words"] (spTold K)) (A7 : At K mg "_law_told" fTo fdTo ["_law_words"])
    (hg : A.guards = some []) (hr : Room 8 A) (e0 : Env0 P w K mg base A outer s H) (bind : BindsTo s fd ⟨[.ref a], []⟩ [("_law_script", .ref a)]) (hS : SqL K H a (ns.map V.int)) (hl : ns.length ≤ 63) :
    codeAny (model P w) A (.call (.ref f) ⟨[.ref a], []⟩) (CR CX0 outer P w H s (fun v _ => v = .bl true) E0) s := by
  refine fn_run (us := [.ref a]) (vs := [.ref a]) F sc_law hr e0 bind (.cons rfl .nil) rfl fun cdv hr7 => ?_
  have h1 := hr7.mono (j := 1) (by decide)
  have h2 := hr7.mono (j := 2) (by decide)
  have h3 := hr7.mono (j := 3) (by decide)
  have h6 := hr7.mono (j := 6) (by decide)
  refine ⟨_, PSs.nox ((pss_cons (ps_set (i := 1) sc_law.nd rfl (Or.inl rfl) (pe_call G0 h1 (by rfl) A0.m A0.k A0.b .nil pass0 (pa_cons (pv 0) pa_nil)))
      (pss_cons (ps_for PassesOwn.never rfl (pi_range1 rfl T.n_range (pa_cons pe_int pa_nil)) (pg_name (i := 2) sc_law.nd rfl (Or.inl rfl)) (pss_cons (ps_set (i := 3) sc_law.nd rfl (Or.inl rfl) (pe_call G2 h2 (by rfl) A2.m A2.k A2.b .nil pass0 (pa_cons (pv 1) (pa_cons (pe_lst (pa_cons pe_int (pa_cons pe_int (pa_cons pe_int (pa_cons pe_int (pa_cons pe_int (pa_cons pe_int (pa_cons pe_int (pa_cons pe_int (pa_cons pe_int (pa_cons pe_int (pa_cons pe_int pa_nil)))))))))))) pa_nil))))
      (pss_cons (ps_set (i := 4) sc_law.nd rfl (Or.inl rfl) (pe_call G3 h3 (by rfl) A3.m A3.k A3.b .nil pass0 (pa_cons (pv 1) (pa_cons (pv 3) pa_nil))))
      (pss_cons (ps_for PassesOwn.never rfl (pi_range1 rfl T.n_range (pa_cons (pe_op op_mul (pe_call G1 h1 (by rfl) A1.m A1.k A1.b .nil pass0 (pa_cons (pv 1) (pa_cons pe_int pa_nil))) (pe_callTy call_int1 (by rfl) T.n_int (by decide +kernel) (pa_cons (pe_cmpR op_gt (pv 3) pe_int (nomark _)) pa_nil))) pa_nil)) (pg_name (i := 5) sc_law.nd rfl (Or.inl rfl)) (pss_one (ps_asg (pe_call G5 h3 (by rfl) A5.m A5.k A5.b .nil pass0 (pa_cons (pv 1) (pa_cons (pe_op op_cat (pe_lc (own := [("_law_word", 7)]) rfl sc_law.nd (pi_list (pv 4)) (blkOk_by (N := nLaw) (sc := defScope s_law) (by decide +kernel)) (fun _ _ _ _ _ => (pg_name (i := 7) sc_law.nd rfl (Or.inl rfl))) (fun _ _ _ _ _ => pts_one (pt_val (pe_call G4 (by exact h1) (by rfl) A4.m A4.k A4.b .nil pass0 (pa_cons (pv 7) pa_nil)))) (fun _ _ _ _ _ => (pv 7))) (pe_lst (pa_cons pe_str pa_nil))) pa_nil))) (pg_sub (pv 4) (pe_call G1 h1 (by rfl) A1.m A1.k A1.b .nil pass0 (pa_cons (pv 1) (pa_cons (pv 3) pa_nil))) set_list (by intro _; rfl)))))
      (pss_cons (ps_set (i := 6) sc_law.nd rfl (Or.inl rfl) (pe_callTy call_list_of (by rfl) T.n_list (by decide +kernel) (pa_cons (pv 4) pa_nil)))
      (pss_cons (ps_if (PW.pt (pw_or (pt_cmpR (op_neD hr7.units) (pe_call G7 h6 (by rfl) A7.m A7.k A7.b .nil pass0 (pa_cons (pv 6) pa_nil)) (pe_call G6 h2 (by rfl) A6.m A6.k A6.b .nil pass0 (pa_cons (pv 4) pa_nil)) (nomark _)) (pw_or1 (pt_cmpR op_ne (pe_callB (call_reprD hg hr7.units) (by rfl) T.n_repr (by decide +kernel) (pa_cons (pv 6) pa_nil)) (pe_callB (call_reprD hg hr7.units) (by rfl) T.n_repr (by decide +kernel) (pa_cons (pv 4) pa_nil)) (nomark _))))) (pss_one (ps_ret pe_bl)) pss_nil)
      (pss_one (ps_if (pt_cmpR (op_neD hr7.units) (pe_call G7 h6 (by rfl) A7.m A7.k A7.b .nil pass0 (pa_cons (pe_callTy call_tuple_of (by rfl) T.n_tuple (by decide +kernel) (pa_cons (pv 4) pa_nil)) pa_nil)) (pe_call G6 h2 (by rfl) A6.m A6.k A6.b .nil pass0 (pa_cons (pv 4) pa_nil)) (nomark _)) (pss_one (ps_ret pe_bl)) pss_nil))))))))
      (pss_one (ps_ret (pe_cmpR (op_eqD hr7.units) (pe_call G7 h6 (by rfl) A7.m A7.k A7.b .nil pass0 (pa_cons (pe_lst pa_nil) pa_nil)) (pe_tup (pa_cons pe_str (pa_cons pe_int pa_nil))) (nomark _))))))), ?_⟩
  have z1 : (1000 : Nat) ≤ sizeLine := by decide
  refine ⟨_, rfl, a, ns, rfl, hS, hl, fun H0 p c s0 hp0 hpen => ?_⟩
  refine ⟨6, rfl, by decide, by decide, for_range (lo := 0) (n := 6) (fun i σ' H' => ∃ o2 o3 o4 o5 o6 o7 : Option V, σ' = [some (.ref a), some (.ref p), o2, o3, o4, o5, o6, o7] ∧ Go p c ns H0 H' (1000 * i))
    ⟨none, none, none, none, none, none, rfl, Go.refl hpen⟩ ?_ ?_⟩
  · rintro i σ' H1 hi ⟨o2, o3, o4, o5, o6, o7, rfl, g1⟩
    -- many
    refine ⟨_, rfl, by show 11 ≤ sizeLine; decide, fun l hl => ⟨p, c, ns, _, 1000 * i, rfl, (g1.new hl).pen, by omega, .inl ⟨l, _, rfl, SqL.of upd_same, by show 0 < 11; decide, by show 11 ≤ 1000; decide, fun H2 v g2 hv => ?_⟩⟩⟩
    have g2 := (g1.new hl).step g2
    obtain ⟨m, rfl, m0, m1⟩ : ∃ m : Int, v = .int m ∧ 0 ≤ m ∧ m ≤ 100 := by
      simp only [List.mem_cons, List.not_mem_nil, or_false] at hv
      rcases hv with rfl | rfl | rfl | rfl | rfl | rfl | rfl | rfl | rfl | rfl | rfl <;> exact ⟨_, rfl, by decide, by decide⟩
    clear hv hl g1
    -- words
    refine ⟨_, rfl, _, rfl, p, c, ns, m, 1000 * i + 1, rfl, g2.pen, by omega, m0, m1, fun H3 q ys g3 hq hL hlen hys => ?_⟩
    have hq0 := g2.free hq
    have g3 := g2.step g3
    clear g2 hq
    -- the wrong ones
    refine ⟨_, rfl, p, c, ns, 3, _, rfl, g3.pen, by omega, by decide, by decide, fun H4 r g4 r0 r1 => ?_⟩
    have hL4 := g4.lst hL
    have g4 := g3.step g4
    clear g3 hL
    obtain ⟨n, en, hn, hnm⟩ : ∃ n : Nat, r * (if decide (0 < m) = true then 1 else 0) = (n : Int) ∧ n ≤ 2 ∧ (0 < n → 0 < m) := by
      by_cases q : 0 < m
      · exact ⟨r.toNat, by rw [decide_eq_true q, if_pos rfl]; omega, by omega, fun _ => q⟩
      · exact ⟨0, by rw [decide_eq_false q, if_neg Bool.false_ne_true]; simp, by decide, fun z => absurd z (by decide)⟩
    refine ⟨_, rfl, _, _, rfl, rfl, .inr ⟨_, rfl, _, _, rfl, rfl, mul_small (by omega), ?_⟩⟩
    refine ⟨_, rfl, by rw [en]; omega, by rw [en]; omega, ?_⟩
    rw [en, Int.toNat_natCast]
    refine for_range (lo := 0) (n := n) (fun k σ' H' => ∃ (xs : List V) (ds : List PyData) (o5 o6 o7 : Option V), σ' = [some (.ref a), some (.ref p), some (.int (0 + (i : Int))), some (.int m), some (.ref q), o5, o6, o7] ∧
      Go p c ns H0 H' (1000 * i + 310 + 10 * k) ∧ H' q = some (.lst xs) ∧ ItL (fun b => b ≠ q) H' xs ds ∧ (xs.length : Int) = m)
      ⟨_, _, _, _, _, rfl, g4.mono (by omega), hL4, itl_strs (fun y hy => ⟨by have := (hys y hy).1; omega, (hys y hy).2⟩), by rw [List.length_map]; exact hlen⟩ ?_ ?_
    · rintro k σ' H5 hk ⟨xs, ds, o5, o6, o7, rfl, g, hq5, hI, hm⟩
      have gl0 := Go.refl g.pen
      refine ⟨_, rfl, _, rfl, q, rfl, ⟨_, SqL.of hq5⟩, fun L hL => ?_⟩
      refine lc_it (walk_list (xs := xs)) (fun j H' => Same H5 H' ∧ ∃ zs : List Str, H' L = some (.lst (zs.map V.str)) ∧ zs.length ≤ j ∧ ∀ y ∈ zs, y.length ≤ 200 ∧ Asc y)
        ⟨Ask.Same.upd_new (Same.refl _) hL, [], upd_same, Nat.le_refl 0, by simp⟩ (fun j H' _ hh => (hh.1).seq (SqL.of hq5)) ?_ ?_
      · rintro j x H6 H7 hj ⟨s6, zs, hz, hzl, hzs⟩ ⟨rfl, hx⟩
        obtain ⟨v, d, hv, hd, hvd⟩ := hI.get j hj
        obtain rfl : v = x := Option.some.inj (hv.symm.trans hx)
        refine ⟨rfl, _, rfl, v, d, rfl, (hvd.same s6).dp, hvd.itm, fun H8 s8 => ⟨_, rfl, ?_⟩⟩
        refine ite2 (fun qq => ?_) (fun qq => ⟨s6.trans s8, zs, s8 _ _ hz, by omega, hzs⟩)
        obtain ⟨z, rfl, rfl, hz1, hz2⟩ := isL_short hvd qq
        refine ⟨_, rfl, _, s8 _ _ hz, (by rw [List.length_map]; omega), Ask.Same.upd_new (s6.trans s8) hL, zs ++ [z], ?_, ?_, ?_⟩
        · rw [upd_same, List.map_append]
          rfl
        · rw [List.length_append]
          show zs.length + 1 ≤ j + 1
          omega
        · intro y hy
          rcases List.mem_append.mp hy with z' | z'
          · exact hzs y z'
          · rw [List.mem_singleton.mp z']
            exact ⟨hz1, hz2⟩
      · rintro H6 ⟨s6, zs, hz, hzl, hzs⟩
        refine ⟨by show 1 ≤ sizeLine; decide, fun t ht => ?_⟩
        have gl6 := gl0.same s6
        have gl7 := gl6.new (o := .lst [.str "a"]) ht
        have hz7 : upd H6 t (.lst [.str "a"]) L = some (.lst (zs.map V.str)) := by rw [upd_ne (ne_of_none hz ht)]; exact hz
        have ht7 : upd H6 t (.lst [.str "a"]) t = some (.lst [.str "a"]) := upd_same
        generalize upd H6 t (.lst [.str "a"]) = H7 at gl7 hz7 ht7 ⊢
        refine ⟨L, t, _, _, rfl, rfl, hz7, ht7, (by rw [List.length_map]; show zs.length + 1 ≤ sizeLine; omega), fun u hu => ?_⟩
        have e1 : zs.map V.str ++ [V.str "a"] = (zs ++ [("a" : Str)]).map V.str := by rw [List.map_append]; rfl
        rw [e1]
        have gl8 := gl7.new (o := .lst ((zs ++ [("a" : Str)]).map V.str)) hu
        have hu8 : upd H7 u (.lst ((zs ++ [("a" : Str)]).map V.str)) u = some (.lst ((zs ++ [("a" : Str)]).map V.str)) := upd_same
        generalize upd H7 u (.lst ((zs ++ [("a" : Str)]).map V.str)) = H8 at gl8 hu8 ⊢
        have hq8 := gl8.lst hq5
        refine ⟨p, c, ns, u, zs ++ [("a" : Str)], _, rfl, (g.step gl8).pen, by omega, SqL.of hu8, (by rw [List.length_append]; show 0 < zs.length + 1; omega), (by rw [List.length_append]; show zs.length + 1 ≤ 1000; omega), ?_, fun H9 v d g9 hvd => ?_⟩
        · intro y hy
          rcases List.mem_append.mp hy with z' | z'
          · exact hzs y z'
          · rw [List.mem_singleton.mp z']
            exact ⟨by decide, .lit (by decide +kernel)⟩
        have gl9 := gl8.step g9
        refine ⟨_, rfl, _, rfl, _, rfl, p, c, ns, m, _, rfl, (g.step gl9).pen, by omega, hnm (by omega), by omega, fun H10 r' g10 r0' r1' => ?_⟩
        have gl10 := gl9.step g10
        have hq10 := gl10.lst hq5
        refine ⟨q, xs, r', r'.toNat, rfl, rfl, hq10, ?_, ?_⟩
        · unfold ixN
          rw [if_pos r0', if_pos (by omega)]
        · have hvd10 := (hvd.wk (N' := fun b => b ≠ q) (fun b hb e => by rw [e, hq8] at hb; cases hb)).go g10
          refine ⟨xs.set r'.toNat v, ds.set r'.toNat d, _, _, _, rfl, ((g.step gl10).mut hq0).mono (by omega), upd_same, ItL.set _ (hI.mp fun v d h => (h.go gl10).mut fun _ h => h) (hvd10.mut fun _ h => h), by rw [List.length_set]; exact hm⟩
    · rintro σ' H5 ⟨xs, ds, o5, o6, o7, rfl, g, hq5, hI, hm⟩
      have fit := hI.fit
      have hxd := hI.len
      have lay := res_lay ds
      have sh := shaped_of lay.1 lay.2
      have ev : PyData.eqv (res ds) (res ds) = true := PySem.SeqAt.eqv_refl _ lay.1
      have sho : PyData.showable (.list ds) = true := fit.sho
      have nod : PyData.hasDict (.list ds) = false := fit.nod
      have dep : PyData.depth (.list ds) ≤ 30 := by
        show PyData.depthAll ds + 1 ≤ 30
        have := fit.dep
        omega
      have len : (PyData.shown (.list ds)).length ≤ sizeLine := by
        have e := listText_len_le (PyData.shownAll ds)
        have e1 := fit.len
        have e2 := fit.cnt
        have z2 : (1000000 : Nat) ≤ sizeLine := by decide
        show (listText (PyData.shownAll ds)).length ≤ sizeLine
        omega
      -- given
      refine ⟨_, rfl, q, xs, rfl, .inl (SqL.of hq5), fun l hl => ?_⟩
      have s6 := Ask.Same.made1 (o := .lst xs) (Same.refl H5) hl
      have hl6 : upd H5 l (.lst xs) l = some (.lst xs) := upd_same
      generalize upd H5 l (.lst xs) = H6 at s6 hl6 ⊢
      have it : ∀ {H'}, Same H5 H' → ItL (fun b => b ≠ q) H' xs ds := fun s => hI.mp fun v d h => h.same s
      -- told(given) != due(words)
      refine ⟨_, rfl, l, xs, ds, _, rfl, .inl (SqL.of hl6), it s6, by omega, fun H7 v7 s7 r7 => ?_⟩
      have s57 := s6.trans s7
      refine ⟨_, rfl, q, xs, ds, _, rfl, SqL.of (s57 _ _ hq5), it s57, by omega, fun H8 v8 s8 r8 => ?_⟩
      have s58 := s57.trans s8
      refine ⟨res ds, res ds, (r7.same s8).dp, r8.dp, sh, sh, _, rfl, ?_⟩
      rw [ev]
      refine iteF ?_
      have hl8 := (s7.trans s8) _ _ hl6
      refine ⟨_, rfl, l, .list ds, rfl, .lst (SqL.of hl8) (it s58).dp, sho, nod, dep, len, _, rfl, q, .list ds, rfl, .lst (SqL.of (s58 _ _ hq5)) (it s58).dp, sho, nod, dep, len, rfl, _, rfl, ?_⟩
      rw [decide_eq_true rfl]
      refine iteF ?_
      -- told(tuple(words)) != due(words)
      refine ⟨_, rfl, q, xs, rfl, .inl ⟨SqL.of (s58 _ _ hq5), fun t ht => ?_⟩⟩
      have s59 := Ask.Same.made1 (o := .tup xs) s58 ht
      have ht9 : upd H8 t (.tup xs) t = some (.tup xs) := upd_same
      generalize upd H8 t (.tup xs) = H9 at s59 ht9 ⊢
      refine ⟨t, xs, ds, _, rfl, .inr (SqT.of ht9), it s59, by omega, fun Ha va sa ra => ?_⟩
      have s5a := s59.trans sa
      refine ⟨_, rfl, q, xs, ds, _, rfl, SqL.of (s5a _ _ hq5), it s5a, by omega, fun Hb vb sb rb => ?_⟩
      refine ⟨res ds, res ds, (ra.same sb).dp, rb.dp, sh, sh, _, rfl, ?_⟩
      rw [ev]
      refine iteF ?_
      exact ⟨_, _, _, _, _, _, rfl, (g.same (s5a.trans sb)).mono (by omega)⟩
  · rintro σ' H1 ⟨o2, o3, o4, o5, o6, o7, rfl, g1⟩
    have lay := res_lay []
    have sh := shaped_of lay.1 lay.2
    refine ⟨Nat.zero_le _, fun l hl => ⟨l, [], [], (fun _ => True), rfl, .inl (SqL.of upd_same), trivial, by decide, fun H2 v2 s2 r2 => ?_⟩⟩
    refine ⟨by show 2 ≤ sizeLine; decide, fun t ht => ⟨res [], .tuple [.str "letters", .int 0], (r2.same (Ask.Same.made1 (Same.refl _) ht)).dp, .tup (SqT.of upd_same) (.cons (.str _) (.cons (.int _) .nil)), sh, sh, ?_⟩⟩
    show V.bl (PyData.eqv (res []) (res [])) = V.bl true
    rw [PySem.SeqAt.eqv_refl _ lay.1]
end
end Ask

namespace Ask
open PySem L2 PySem.Spec PyProof.Rows
theorem exm_of {K : PySem.W.Frag} {S T : Addr} {b : Bool} (h1 : PySem.W.subIn K (.ref T) (.type "BaseException") = some true) (h2 : PySem.W.isClsIn K T = true) (h3 : PySem.W.typeIn K (.ref T) = some (.type "type")) (h4 : PySem.W.subIn K (.ref S) (.ref T) = some b) :
    PySem.W.exmOne K (.ref S) (.ref T) = some b := by
  have e1 : (PySem.W.subIn K (.ref T) (.type "BaseException") == some true) = true := by rw [h1] <;> rfl
  have e2 : ((PySem.W.clsIn K T).isSome && PySem.W.typeIn K (.ref T) == some (.type "type")) = true := by
    have h2' : (PySem.W.clsIn K T).isSome = true := h2
    rw [h2', h3] <;> rfl
  show (if (PySem.W.subIn K (.ref T) (.type "BaseException") == some true) = true then (if ((PySem.W.clsIn K T).isSome && PySem.W.typeIn K (.ref T) == some (.type "type")) = true then PySem.W.subIn K (.ref S) (.ref T) else none) else none) = some b
  rw [if_pos e1, if_pos e2]
  exact h4
theorem all_mk {P : Program} {w : World} {K : PySem.W.Frag} {h : Heap} {mg : Str → Option Value} {fa : Addr} (X : K.In h) (G : h.Ns mainGlobals mg) (hfa : mg "law" = some (.ref fa))
    {f0 : Addr} {od0 an0 : Option Addr} {sl0 : Array (Option Value)} {oc0 kV0 dc0 pm0 cd0 ct0 : Value}
    {f1 : Addr} {od1 an1 : Option Addr} {sl1 : Array (Option Value)} {oc1 kV1 dc1 pm1 cd1 ct1 : Value}
    {f2 : Addr} {od2 an2 : Option Addr} {sl2 : Array (Option Value)} {oc2 kV2 dc2 pm2 cd2 ct2 : Value}
    {f3 : Addr} {od3 an3 : Option Addr} {sl3 : Array (Option Value)} {oc3 kV3 dc3 pm3 cd3 ct3 : Value}
    {f4 : Addr} {od4 an4 : Option Addr} {sl4 : Array (Option Value)} {oc4 kV4 dc4 pm4 cd4 ct4 : Value}
    {f5 : Addr} {od5 an5 : Option Addr} {sl5 : Array (Option Value)} {oc5 kV5 dc5 pm5 cd5 ct5 : Value}
    {f6 : Addr} {od6 an6 : Option Addr} {sl6 : Array (Option Value)} {oc6 kV6 dc6 pm6 cd6 ct6 : Value}
    {f7 : Addr} {od7 an7 : Option Addr} {sl7 : Array (Option Value)} {oc7 kV7 dc7 pm7 cd7 ct7 : Value}
    {f8 : Addr} {od8 an8 : Option Addr} {sl8 : Array (Option Value)} {oc8 kV8 dc8 pm8 cd8 ct8 : Value}
    {f9 : Addr} {od9 an9 : Option Addr} {sl9 : Array (Option Value)} {oc9 kV9 dc9 pm9 cd9 ct9 : Value}
    {f10 : Addr} {od10 an10 : Option Addr} {sl10 : Array (Option Value)} {oc10 kV10 dc10 pm10 cd10 ct10 : Value}
    {f11 : Addr} {od11 an11 : Option Addr} {sl11 : Array (Option Value)} {oc11 kV11 dc11 pm11 cd11 ct11 : Value}
    {CB fB : Addr} {odB anB : Option Addr} {slB : Array (Option Value)} {ocB kVB dcB pmB cdB ctB : Value}
    {CM fM : Addr} {odM anM : Option Addr} {slM : Array (Option Value)} {ocM kVM dcM pmM cdM ctM : Value}
    {CL fL : Addr} {odL anL : Option Addr} {slL : Array (Option Value)} {ocL kVL dcL pmL cdL ctL : Value}
    {nmB qB : Str} {NB : Addr} {bsB bmB : List Value} {snB : List Str} {subB : List Value} {abB : Bool} {colB : Option Bool} {ddB : Option Addr} {m0B m1B m2B m3B m5B : Option Value}
    {nmM qM : Str} {NM : Addr} {bsM bmM : List Value} {snM : List Str} {subM : List Value} {abM : Bool} {colM : Option Bool} {ddM : Option Addr} {m0M m1M m2M m3M m5M : Option Value}
    {g1 g2 g3 g4 : Tok} {tT : Addr} {oT : Obj} {jT : Array Value} {nT : Nat}
    (a0 : PySem.W.nsIn K mainGlobals "is_short_word" = some (some (.ref f0)))
    (l0 : K.lookup f0 = some ⟨oc0, od0, .func (PySem.W.fnOf "is_short_word" "is_short_word" (defArgs s_is_short_word) (defBody s_is_short_word) (defScope s_is_short_word) .none kV0 dc0 pm0 an0 cd0 ct0), sl0⟩)
    (c0 : PySem.W.codeIn K cd0 "is_short_word" = true)
    (k0 : PySem.W.keepIn K (.ref f0) = true)
    (a1 : PySem.W.nsIn K mainGlobals "copied" = some (some (.ref f1)))
    (l1 : K.lookup f1 = some ⟨oc1, od1, .func (PySem.W.fnOf "copied" "copied" (defArgs s_copied) (defBody s_copied) (defScope s_copied) .none kV1 dc1 pm1 an1 cd1 ct1), sl1⟩)
    (c1 : PySem.W.codeIn K cd1 "copied" = true)
    (k1 : PySem.W.keepIn K (.ref f1) = true)
    (a2 : PySem.W.nsIn K mainGlobals "is_letter" = some (some (.ref f2)))
    (l2 : K.lookup f2 = some ⟨oc2, od2, .func (PySem.W.fnOf "is_letter" "is_letter" (defArgs s_is_letter) (defBody s_is_letter) (defScope s_is_letter) .none kV2 dc2 pm2 an2 cd2 ct2), sl2⟩)
    (c2 : PySem.W.codeIn K cd2 "is_letter" = true)
    (k2 : PySem.W.keepIn K (.ref f2) = true)
    (a3 : PySem.W.nsIn K mainGlobals "_law_pen" = some (some (.ref f3)))
    (l3 : K.lookup f3 = some ⟨oc3, od3, .func (PySem.W.fnOf "_law_pen" "_law_pen" (defArgs s__law_pen) (defBody s__law_pen) (defScope s__law_pen) .none kV3 dc3 pm3 an3 cd3 ct3), sl3⟩)
    (c3 : PySem.W.codeIn K cd3 "_law_pen" = true)
    (k3 : PySem.W.keepIn K (.ref f3) = true)
    (a4 : PySem.W.nsIn K mainGlobals "_law_draw" = some (some (.ref f4)))
    (l4 : K.lookup f4 = some ⟨oc4, od4, .func (PySem.W.fnOf "_law_draw" "_law_draw" (defArgs s__law_draw) (defBody s__law_draw) (defScope s__law_draw) .none kV4 dc4 pm4 an4 cd4 ct4), sl4⟩)
    (c4 : PySem.W.codeIn K cd4 "_law_draw" = true)
    (k4 : PySem.W.keepIn K (.ref f4) = true)
    (a5 : PySem.W.nsIn K mainGlobals "_law_pick" = some (some (.ref f5)))
    (l5 : K.lookup f5 = some ⟨oc5, od5, .func (PySem.W.fnOf "_law_pick" "_law_pick" (defArgs s__law_pick) (defBody s__law_pick) (defScope s__law_pick) .none kV5 dc5 pm5 an5 cd5 ct5), sl5⟩)
    (c5 : PySem.W.codeIn K cd5 "_law_pick" = true)
    (k5 : PySem.W.keepIn K (.ref f5) = true)
    (a6 : PySem.W.nsIn K mainGlobals "_law_letters" = some (some (.ref f6)))
    (l6 : K.lookup f6 = some ⟨oc6, od6, .func (PySem.W.fnOf "_law_letters" "_law_letters" (defArgs s__law_letters) (defBody s__law_letters) (defScope s__law_letters) .none kV6 dc6 pm6 an6 cd6 ct6), sl6⟩)
    (c6 : PySem.W.codeIn K cd6 "_law_letters" = true)
    (k6 : PySem.W.keepIn K (.ref f6) = true)
    (a7 : PySem.W.nsIn K mainGlobals "_law_is_letter" = some (some (.ref f7)))
    (l7 : K.lookup f7 = some ⟨oc7, od7, .func (PySem.W.fnOf "_law_is_letter" "_law_is_letter" (defArgs s__law_is_letter) (defBody s__law_is_letter) (defScope s__law_is_letter) .none kV7 dc7 pm7 an7 cd7 ct7), sl7⟩)
    (c7 : PySem.W.codeIn K cd7 "_law_is_letter" = true)
    (k7 : PySem.W.keepIn K (.ref f7) = true)
    (a8 : PySem.W.nsIn K mainGlobals "_law_wrong" = some (some (.ref f8)))
    (l8 : K.lookup f8 = some ⟨oc8, od8, .func (PySem.W.fnOf "_law_wrong" "_law_wrong" (defArgs s__law_wrong) (defBody s__law_wrong) (defScope s__law_wrong) .none kV8 dc8 pm8 an8 cd8 ct8), sl8⟩)
    (c8 : PySem.W.codeIn K cd8 "_law_wrong" = true)
    (k8 : PySem.W.keepIn K (.ref f8) = true)
    (a9 : PySem.W.nsIn K mainGlobals "_law_due" = some (some (.ref f9)))
    (l9 : K.lookup f9 = some ⟨oc9, od9, .func (PySem.W.fnOf "_law_due" "_law_due" (defArgs s__law_due) (defBody s__law_due) (defScope s__law_due) .none kV9 dc9 pm9 an9 cd9 ct9), sl9⟩)
    (c9 : PySem.W.codeIn K cd9 "_law_due" = true)
    (k9 : PySem.W.keepIn K (.ref f9) = true)
    (a10 : PySem.W.nsIn K mainGlobals "_law_told" = some (some (.ref f10)))
    (l10 : K.lookup f10 = some ⟨oc10, od10, .func (PySem.W.fnOf "_law_told" "_law_told" (defArgs s__law_told) (defBody s__law_told) (defScope s__law_told) .none kV10 dc10 pm10 an10 cd10 ct10), sl10⟩)
    (c10 : PySem.W.codeIn K cd10 "_law_told" = true)
    (k10 : PySem.W.keepIn K (.ref f10) = true)
    (a11 : PySem.W.nsIn K mainGlobals "law" = some (some (.ref f11)))
    (l11 : K.lookup f11 = some ⟨oc11, od11, .func (PySem.W.fnOf "law" "law" (defArgs s_law) (defBody s_law) (defScope s_law) .none kV11 dc11 pm11 an11 cd11 ct11), sl11⟩)
    (c11 : PySem.W.codeIn K cd11 "law" = true)
    (k11 : PySem.W.keepIn K (.ref f11) = true)
    (aB : PySem.W.nsIn K mainGlobals "BadLetters" = some (some (.ref CB)))
    (iB : PySem.W.findIn K (.ref CB) "__init__" = some (some (.ref fB)))
    (lB : K.lookup fB = some ⟨ocB, odB, .func (PySem.W.fnOf "__init__" "BadLetters.__init__" (defArgs s_BadLetters_init) (defBody s_BadLetters_init) (defScope s_BadLetters_init) .none kVB dcB pmB anB cdB ctB), slB⟩)
    (cB : PySem.W.codeIn K cdB "BadLetters.__init__" = true)
    (kB : PySem.W.keepIn K (.ref fB) = true)
    (kcB : PySem.W.keepIn K (.ref CB) = true)
    (saB : PySem.W.findIn K (.ref CB) "__setattr__" = some (some (.builtin "object.__setattr__")))
    (aM : PySem.W.nsIn K mainGlobals "TooMany" = some (some (.ref CM)))
    (iM : PySem.W.findIn K (.ref CM) "__init__" = some (some (.ref fM)))
    (lM : K.lookup fM = some ⟨ocM, odM, .func (PySem.W.fnOf "__init__" "TooMany.__init__" (defArgs s_TooMany_init) (defBody s_TooMany_init) (defScope s_TooMany_init) .none kVM dcM pmM anM cdM ctM), slM⟩)
    (cM : PySem.W.codeIn K cdM "TooMany.__init__" = true)
    (kM : PySem.W.keepIn K (.ref fM) = true)
    (kcM : PySem.W.keepIn K (.ref CM) = true)
    (saM : PySem.W.findIn K (.ref CM) "__setattr__" = some (some (.builtin "object.__setattr__")))
    (aL : PySem.W.nsIn K mainGlobals "Letters" = some (some (.ref CL)))
    (iL : PySem.W.findIn K (.ref CL) "__init__" = some (some (.ref fL)))
    (lL : K.lookup fL = some ⟨ocL, odL, .func (PySem.W.fnOf "__init__" "Letters.__init__" (defArgs s_Letters_init) (defBody s_Letters_init) (defScope s_Letters_init) .none kVL dcL pmL anL cdL ctL), slL⟩)
    (cL : PySem.W.codeIn K cdL "Letters.__init__" = true)
    (kL : PySem.W.keepIn K (.ref fL) = true)
    (kcL : PySem.W.keepIn K (.ref CL) = true)
    (saL : PySem.W.findIn K (.ref CL) "__setattr__" = some (some (.builtin "object.__setattr__")))
    (xB : K.lookup CB = some (excClassObj nmB qB CB NB bsB bmB true snB subB abB colB ddB m0B m1B m2B m3B m5B "ValueError.__new__"))
    (vB : PySem.HandSPX.refsVE bmB = true)
    (gaB : PySem.W.findIn K (.ref CB) "__getattribute__" = some (some (.builtin "BaseException.__getattribute__")))
    (ggB : PySem.W.findIn K (.ref CB) "__getattr__" = some none)
    (eCB : PySem.W.subIn K (.ref CB) (.type "BaseException") = some true)
    (tCB : PySem.W.typeIn K (.ref CB) = some (.type "type"))
    (tfB : PySem.W.typeIn K (.ref fB) = some (.type "function"))
    (hCB : PySem.W.hasDictIn K CB = true)
    (xM : K.lookup CM = some (excClassObj nmM qM CM NM bsM bmM true snM subM abM colM ddM m0M m1M m2M m3M m5M "ValueError.__new__"))
    (vM : PySem.HandSPX.refsVE bmM = true)
    (gaM : PySem.W.findIn K (.ref CM) "__getattribute__" = some (some (.builtin "BaseException.__getattribute__")))
    (ggM : PySem.W.findIn K (.ref CM) "__getattr__" = some none)
    (eCM : PySem.W.subIn K (.ref CM) (.type "BaseException") = some true)
    (tCM : PySem.W.typeIn K (.ref CM) = some (.type "type"))
    (tfM : PySem.W.typeIn K (.ref fM) = some (.type "function"))
    (hCM : PySem.W.hasDictIn K CM = true)
    (icB : PySem.W.isClsIn K CB = true)
    (icM : PySem.W.isClsIn K CM = true)
    (emm : PySem.W.subIn K (.ref CM) (.ref CM) = some true)
    (ebm : PySem.W.subIn K (.ref CB) (.ref CM) = some false)
    (ebb : PySem.W.subIn K (.ref CB) (.ref CB) = some true)
    (nb1 : PySem.W.findIn K (.ref CB) "index" = some none)
    (nm1 : PySem.W.findIn K (.ref CM) "what" = some none)
    (nm2 : PySem.W.findIn K (.ref CM) "many" = some none)
    (nm3 : PySem.W.findIn K (.ref CM) "most" = some none)
    (nL1 : PySem.W.findIn K (.ref CL) "words" = some none)
    (pgL : PySem.W.plainGet K CL Str.empty = true)
    (hdL : PySem.W.hasDictIn K CL = true)
    (poL : PySem.W.plainOver K CL = true)
    (mkL : PySem.W.makesIn K CL = true)
    (isL : PySem.W.isFn K (.ref fL) = true)
    (gS : PySem.W.nsIn K mainGlobals "SMALL_LETTERS" = some (some (.str "abcdefghijklmnopqrstuvwxyz" g1)))
    (gW : PySem.W.nsIn K mainGlobals "WORD_SIGNS" = some (some (.str "abcdefghijklmnopqrstuvwxyz0123456789" g2)))
    (gM : PySem.W.nsIn K mainGlobals "MOST_SIGNS" = some (some (.int 12 g3)))
    (gL : PySem.W.nsIn K mainGlobals "MOST_LETTERS" = some (some (.int 12 g4)))
    (gB : PySem.W.nsIn K mainGlobals "BEGINNINGS" = some (some (.ref tT)))
    (lT : K.lookup tT = some oT)
    (oT1 : oT.cls = .type "tuple")
    (oT2 : oT.data = .seq jT nT)
    (oT3 : jT.size ≤ sizeLine)
    (oT4 : Vals [.str newW, .str foundW] jT.toList)
    (z0 : PySem.W.nsIn K mainGlobals "int" = some none)
    (z1 : PySem.W.nsIn K mainGlobals "len" = some none)
    (z2 : PySem.W.nsIn K mainGlobals "abs" = some none)
    (z3 : PySem.W.nsIn K mainGlobals "list" = some none)
    (z4 : PySem.W.nsIn K mainGlobals "range" = some none)
    (z5 : PySem.W.nsIn K mainGlobals "min" = some none)
    (z6 : PySem.W.nsIn K mainGlobals "str" = some none)
    (z7 : PySem.W.nsIn K mainGlobals "isinstance" = some none)
    (z8 : PySem.W.nsIn K mainGlobals "all" = some none)
    (z9 : PySem.W.nsIn K mainGlobals "enumerate" = some none)
    (z10 : PySem.W.nsIn K mainGlobals "tuple" = some none)
    (z11 : PySem.W.nsIn K mainGlobals "repr" = some none)
    (z12 : PySem.W.nsIn K mainGlobals "dict" = some none)
    (base : Heap) (kb : K.In base) (gb : base.Ns mainGlobals mg) (s₁ : Shared) (H : Hp) (a : Addr) (ns : List Int) (e0 : Env0 P w K mg base callerA [] s₁ H) (hS : SqL K H a (ns.map V.int)) (hl : ns.length ≤ 63) :
    codeAny (model P w) callerA (.call (.ref fa) ⟨[.ref a], []⟩) (CR CX0 [] P w H s₁ (fun v _ => v = .bl true) E0) s₁ := by
  have e := hfa.symm.trans (PySem.W.mg_of X G a11)
  cases e
  have T : Blt mg := ⟨PySem.W.mg_none_of X G z0, PySem.W.mg_none_of X G z1, PySem.W.mg_none_of X G z2, PySem.W.mg_none_of X G z3, PySem.W.mg_none_of X G z4, PySem.W.mg_none_of X G z5, PySem.W.mg_none_of X G z6, PySem.W.mg_none_of X G z7, PySem.W.mg_none_of X G z8, PySem.W.mg_none_of X G z9, PySem.W.mg_none_of X G z10, PySem.W.mg_none_of X G z11⟩
  have nD := PySem.W.mg_none_of X G z12
  have F0 := fun_mk (st := s_is_short_word) l0 c0 k0
  have b0 := F0.binds (ps := ["value"]) fun _ _ _ _ _ _ us hl => match us, hl with | [_], _ => rfl
  have A0 : At K mg "is_short_word" f0 _ ["value"] := ⟨PySem.W.mg_of X G a0, k0, b0⟩
  have F1 := fun_mk (st := s_copied) l1 c1 k1
  have b1 := F1.binds (ps := ["value"]) fun _ _ _ _ _ _ us hl => match us, hl with | [_], _ => rfl
  have A1 : At K mg "copied" f1 _ ["value"] := ⟨PySem.W.mg_of X G a1, k1, b1⟩
  have F2 := fun_mk (st := s_is_letter) l2 c2 k2
  have b2 := F2.binds (ps := ["value"]) fun _ _ _ _ _ _ us hl => match us, hl with | [_], _ => rfl
  have A2 : At K mg "is_letter" f2 _ ["value"] := ⟨PySem.W.mg_of X G a2, k2, b2⟩
  have F3 := fun_mk (st := s__law_pen) l3 c3 k3
  have b3 := F3.binds (ps := ["_law_script"]) fun _ _ _ _ _ _ us hl => match us, hl with | [_], _ => rfl
  have A3 : At K mg "_law_pen" f3 _ ["_law_script"] := ⟨PySem.W.mg_of X G a3, k3, b3⟩
  have F4 := fun_mk (st := s__law_draw) l4 c4 k4
  have b4 := F4.binds (ps := ["_law_pen_here", "_law_many"]) fun _ _ _ _ _ _ us hl => match us, hl with | [_, _], _ => rfl
  have A4 : At K mg "_law_draw" f4 _ ["_law_pen_here", "_law_many"] := ⟨PySem.W.mg_of X G a4, k4, b4⟩
  have F5 := fun_mk (st := s__law_pick) l5 c5 k5
  have b5 := F5.binds (ps := ["_law_pen_here", "_law_options"]) fun _ _ _ _ _ _ us hl => match us, hl with | [_, _], _ => rfl
  have A5 : At K mg "_law_pick" f5 _ ["_law_pen_here", "_law_options"] := ⟨PySem.W.mg_of X G a5, k5, b5⟩
  have F6 := fun_mk (st := s__law_letters) l6 c6 k6
  have b6 := F6.binds (ps := ["_law_pen_here", "_law_many"]) fun _ _ _ _ _ _ us hl => match us, hl with | [_, _], _ => rfl
  have A6 : At K mg "_law_letters" f6 _ ["_law_pen_here", "_law_many"] := ⟨PySem.W.mg_of X G a6, k6, b6⟩
  have F7 := fun_mk (st := s__law_is_letter) l7 c7 k7
  have b7 := F7.binds (ps := ["_law_value"]) fun _ _ _ _ _ _ us hl => match us, hl with | [_], _ => rfl
  have A7 : At K mg "_law_is_letter" f7 _ ["_law_value"] := ⟨PySem.W.mg_of X G a7, k7, b7⟩
  have F8 := fun_mk (st := s__law_wrong) l8 c8 k8
  have b8 := F8.binds (ps := ["_law_pen_here", "_law_words"]) fun _ _ _ _ _ _ us hl => match us, hl with | [_, _], _ => rfl
  have A8 : At K mg "_law_wrong" f8 _ ["_law_pen_here", "_law_words"] := ⟨PySem.W.mg_of X G a8, k8, b8⟩
  have F9 := fun_mk (st := s__law_due) l9 c9 k9
  have b9 := F9.binds (ps := ["_law_words"]) fun _ _ _ _ _ _ us hl => match us, hl with | [_], _ => rfl
  have A9 : At K mg "_law_due" f9 _ ["_law_words"] := ⟨PySem.W.mg_of X G a9, k9, b9⟩
  have F10 := fun_mk (st := s__law_told) l10 c10 k10
  have b10 := F10.binds (ps := ["_law_words"]) fun _ _ _ _ _ _ us hl => match us, hl with | [_], _ => rfl
  have A10 : At K mg "_law_told" f10 _ ["_law_words"] := ⟨PySem.W.mg_of X G a10, k10, b10⟩
  have F11 := fun_mk (st := s_law) l11 c11 k11
  have FB := fun_mk (st := s_BadLetters_init) lB cB kB
  have bB := FB.binds (ps := ["self", "index"]) fun _ _ _ _ _ _ us hl => match us, hl with | [_, _], _ => rfl
  have FM := fun_mk (st := s_TooMany_init) lM cM kM
  have bM := FM.binds (ps := ["self", "what", "many", "most"]) fun _ _ _ _ _ _ us hl => match us, hl with | [_, _, _, _], _ => rfl
  have FL := fun_mk (st := s_Letters_init) lL cL kL
  have bL := FL.binds (ps := ["self", "words"]) fun _ _ _ _ _ _ us hl => match us, hl with | [_, _], _ => rfl
  have OB : OexC K CB := ⟨⟨_, _, _, _, _, _, _, _, _, _, _, _, _, _, _, xB, vB⟩, saB, eCB, tCB, kcB⟩
  have EB : ErrAt K mg "BadLetters" CB fB _ _ := ⟨PySem.W.mg_of X G aB, OB, iB, tfB, bB, ⟨gaB, ggB, eCB, hCB⟩⟩
  have OM : OexC K CM := ⟨⟨_, _, _, _, _, _, _, _, _, _, _, _, _, _, _, xM, vM⟩, saM, eCM, tCM, kcM⟩
  have EM : ErrAt K mg "TooMany" CM fM _ _ := ⟨PySem.W.mg_of X G aM, OM, iM, tfM, bM, ⟨gaM, ggM, eCM, hCM⟩⟩
  have C : Gv K mg := ⟨⟨_, PySem.W.mg_of X G gS, _, rfl⟩, ⟨_, PySem.W.mg_of X G gW, _, rfl⟩, ⟨_, PySem.W.mg_of X G gM, _, rfl⟩, ⟨tT, _, PySem.W.mg_of X G gB, rfl, fun H => .inr ⟨oT, jT, nT, lT, oT1, oT2, oT3, oT4⟩⟩, ⟨_, PySem.W.mg_of X G gL, _, rfl⟩⟩
  have hC : Cls K CL := ⟨pgL, hdL, poL, saL⟩
  have G0 := ok_short (P := P) (w := w) (base := base) F0 T C
  have G1 := ok_copied (P := P) (w := w) (base := base) F1 T nD
  have G2 := ok_is_letter (P := P) (w := w) (base := base) F2 T C G0 A0
  have G3 := ok_pen (P := P) (w := w) (base := base) F3 T
  have G4 := ok_draw (P := P) (w := w) (base := base) F4 T
  have G5 := ok_pick (P := P) (w := w) (base := base) F5 T G4 A4
  have G6 := ok_letters (P := P) (w := w) (base := base) F6 T G4 A4 G5 A5
  have G7 := ok_lawLet (P := P) (w := w) (base := base) F7 T
  have G8 := ok_wrong (P := P) (w := w) (base := base) F8 T G5 A5
  have G9 := ok_due (P := P) (w := w) (base := base) F9 T G7 A7
  have GB := ok_badInit (P := P) (w := w) (base := base) FB OB nb1 G1 A1
  have GM := ok_manyInit (P := P) (w := w) (base := base) FM OM nm1 nm2 nm3 G1 A1
  have GL := ok_letInit (P := P) (w := w) (base := base) FL T C hC nL1 G2 A2 GB EB GM EM
  have G10 := ok_told (P := P) (w := w) (base := base) F10 T hC nL1 ⟨mkL, iL, isL, kcL⟩ (PySem.W.mg_of X G aL) bL GL EB EM ⟨exm_of eCM icM tCM emm, exm_of eCM icM tCM ebm, exm_of eCB icB tCB ebb, nb1, nm1, nm2, nm3⟩
  exact run_law F11 T G3 A3 G4 A4 G5 A5 G6 A6 G7 A7 G8 A8 G9 A9 G10 A10 rfl ⟨rfl, by decide, by decide⟩ e0 (.of_eq rfl) hS hl
theorem walk {l : PySem.W.OpenLaw} {q : Program} {loose : List Str} {XP : (Str → Option Value) → Heap → Prop} {YP : World → Heap → Prop} {d : DefRec} {K : Params → PySem.W.Frag} (hn : l.most = some 63) (hdf : d.params.defaults = [])
    (hY : ∀ (w : World) (h : Heap), YP w h → (K w.params).In h)
    (F : ∀ (w : World) (mg : Str → Option Value) (fa : Addr) (h : Heap), (K w.params).In h → h.Ns mainGlobals mg → mg d.name = some (.ref fa) → ∀ (base : Heap), (K w.params).In base → base.Ns mainGlobals mg →
      ∀ (s₁ : Shared) (H : Hp) (a : Addr) (ns : List Int), Env0 l.prog w (K w.params) mg base callerA [] s₁ H → SqL (K w.params) H a (ns.map V.int) → ns.length ≤ 63 →
        codeAny (model l.prog w) callerA (.call (.ref fa) ⟨[.ref a], []⟩) (CR CX0 [] l.prog w H s₁ (fun v _ => v = .bl true) E0) s₁) :
    PySem.W.WalkO q loose XP YP l.row.toRowW d [] (fun f vs => PySem.call f vs) := by
  refine Att.attach_call hn hdf fun w s₀ s₁ mg mb fa o pm cd doc a vs ns G Y ho hd hcd hmg hobj hints hlen hg => ?_
  have KX := hY w _ Y
  exact law_at KX G.T.g G.T.b G.T.builtins G.T.nolimit hg hobj hints (Nat.le_trans hlen (by decide)) fun base H kb gb e0 hS => F w mg fa _ KX G.T.g hmg base kb gb s₁ H a ns e0 hS hlen
end Ask

open PySem PySem.W PyProof.Rows
set_option maxRecDepth 100000
set_option maxHeartbeats 0
open_top headK02 for PySem.Challenge.rw_asksmore_k02_letters_refused
set_option maxRecDepth 100000 in
set_option maxHeartbeats 0 in
theorem PySem.Challenge.cw_asksmore_k02_letters_refused_holds : PySem.Challenge.rw_asksmore_k02_letters_refused.Holds := by
  refine headK02 ?_
  k_fill
  refine Ask.walk (l := PySem.Challenge.rw_asksmore_k02_letters_refused) rfl rfl (fun w h Y => PySem.W.kIn_of Y) ?F
  case F =>
    intro w mg fa h KX G hmg
    refine' Ask.all_mk KX G hmg ?a0 ?l0 ?c0 ?k0 ?a1 ?l1 ?c1 ?k1 ?a2 ?l2 ?c2 ?k2 ?a3 ?l3 ?c3 ?k3 ?a4 ?l4 ?c4 ?k4 ?a5 ?l5 ?c5 ?k5 ?a6 ?l6 ?c6 ?k6 ?a7 ?l7 ?c7 ?k7 ?a8 ?l8 ?c8 ?k8 ?a9 ?l9 ?c9 ?k9 ?a10 ?l10 ?c10 ?k10 ?a11 ?l11 ?c11 ?k11 ?aB ?iB ?lB ?cB ?kB ?kcB ?saB ?aM ?iM ?lM ?cM ?kM ?kcM ?saM ?aL ?iL ?lL ?cL ?kL ?kcL ?saL ?xB ?vB ?gaB ?ggB ?eCB ?tCB ?tfB ?hCB ?xM ?vM ?gaM ?ggM ?eCM ?tCM ?tfM ?hCM ?icB ?icM ?emm ?ebm ?ebb ?nb1 ?nm1 ?nm2 ?nm3 ?nL1 ?pgL ?hdL ?poL ?mkL ?isL ?gS ?gW ?gM ?gL ?gB ?lT ?oT1 ?oT2 ?oT3 ?oT4 ?z0 ?z1 ?z2 ?z3 ?z4 ?z5 ?z6 ?z7 ?z8 ?z9 ?z10 ?z11 ?z12
    (case a0 => k_is)
    (case l0 => k_is)
    (case c0 => k_is)
    (case k0 => k_is)
    (case a1 => k_is)
    (case l1 => k_is)
    (case c1 => k_is)
    (case k1 => k_is)
    (case a2 => k_is)
    (case l2 => k_is)
    (case c2 => k_is)
    (case k2 => k_is)
    (case a3 => k_is)
    (case l3 => k_is)
    (case c3 => k_is)
    (case k3 => k_is)
    (case a4 => k_is)
    (case l4 => k_is)
    (case c4 => k_is)
    (case k4 => k_is)
    (case a5 => k_is)
    (case l5 => k_is)
    (case c5 => k_is)
    (case k5 => k_is)
    (case a6 => k_is)
    (case l6 => k_is)
    (case c6 => k_is)
    (case k6 => k_is)
    (case a7 => k_is)
    (case l7 => k_is)
    (case c7 => k_is)
    (case k7 => k_is)
    (case a8 => k_is)
    (case l8 => k_is)
    (case c8 => k_is)
    (case k8 => k_is)
    (case a9 => k_is)
    (case l9 => k_is)
    (case c9 => k_is)
    (case k9 => k_is)
    (case a10 => k_is)
    (case l10 => k_is)
    (case c10 => k_is)
    (case k10 => k_is)
    (case a11 => k_is)
    (case l11 => k_is)
    (case c11 => k_is)
    (case k11 => k_is)
    (case aB => k_is)
    (case iB => k_is)
    (case lB => k_is)
    (case cB => k_is)
    (case kB => k_is)
    (case kcB => k_is)
    (case saB => k_is)
    (case aM => k_is)
    (case iM => k_is)
    (case lM => k_is)
    (case cM => k_is)
    (case kM => k_is)
    (case kcM => k_is)
    (case saM => k_is)
    (case aL => k_is)
    (case iL => k_is)
    (case lL => k_is)
    (case cL => k_is)
    (case kL => k_is)
    (case kcL => k_is)
    (case saL => k_is)
    (case xB => k_is)
    (case vB => rfl)
    (case gaB => k_is)
    (case ggB => k_is)
    (case eCB => k_is)
    (case tCB => k_is)
    (case tfB => k_is)
    (case hCB => k_is)
    (case xM => k_is)
    (case vM => rfl)
    (case gaM => k_is)
    (case ggM => k_is)
    (case eCM => k_is)
    (case tCM => k_is)
    (case tfM => k_is)
    (case hCM => k_is)
    (case icB => k_is)
    (case icM => k_is)
    (case emm => first | rfl | k_is)
    (case ebm => k_is)
    (case ebb => first | rfl | k_is)
    (case nb1 => k_is)
    (case nm1 => k_is)
    (case nm2 => k_is)
    (case nm3 => k_is)
    (case nL1 => k_is)
    (case pgL => k_is)
    (case hdL => k_is)
    (case poL => k_is)
    (case mkL => k_is)
    (case isL => k_is)
    (case gS => k_is)
    (case gW => k_is)
    (case gM => k_is)
    (case gL => k_is)
    (case gB => k_is)
    (case lT => k_is)
    (case oT1 => rfl)
    (case oT2 => rfl)
    (case oT3 => decide)
    (case oT4 => exact .cons ⟨_, rfl⟩ (.cons ⟨_, rfl⟩ .nil))
    (case z0 => k_is)
    (case z1 => k_is)
    (case z2 => k_is)
    (case z3 => k_is)
    (case z4 => k_is)
    (case z5 => k_is)
    (case z6 => k_is)
    (case z7 => k_is)
    (case z8 => k_is)
    (case z9 => k_is)
    (case z10 => k_is)
    (case z11 => k_is)
    (case z12 => k_is)

#print axioms PySem.Challenge.cw_asksmore_k02_letters_refused_holds
