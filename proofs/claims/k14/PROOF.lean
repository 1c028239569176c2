import PyProof.Rows.All
import Wide.All
import OpenK.AllK
import Wide.FinOn
import HandS.Base
import HandS.Call
import HandS.List
import HandS.Comp
import HandS.Ends
import HandS.Dict
import HandS.Iter
import HandS.Words
import HandS.WordsList
import HandS.WordsDict
import HandS.Defaults
import HandS.Wide
import HandS.Style
import HandS.Evl
import HandS.Rev
import HandS.Flow
import HandS.Sort
import HandS.Zip
import KE.GoesMore
import HandS.MapObj
import HandS.RevTup
import HandS.FStr
import HandS.Text
import PySem.Challenge.RW_agewords_k14_whole_steady_wordings
import KE.KStateDown
import Lean
import HandS.More
import HandS.WordsExc
import HandS.Head0
import HandS.Head1
import HandS.Head2
import HandS.HeadEnd
import HandS.HeadHook1
import HandS.HeadHook2
set_option Elab.async false
set_option linter.all false
set_option maxRecDepth 100000
set_option maxHeartbeats 2000000
/-! A0: what is common to all proofs about agewords -/
namespace Age
open PySem PySem.Spec PyProof.Rows L2 Evl
abbrev Fn (K : PySem.W.Frag) (x qual : Str) (st : Stmt) (f : Addr) (fd : FuncData) : Prop := FunD K x qual (defArgs st) (defBody st) (defScope st) [] [] f fd
/-- a def of the module, with its promise -/
structure Cal (P : Program) (w : World) (K : PySem.W.Frag) (mg : Str → Option Value) (base : Heap) (CX : CXT) (k : Nat) (name : Str) (ps : List Str) (sp : Sp) : Prop where
  ex : ∃ (f : Addr) (fd : FuncData), FnOk P w K mg base CX k f fd ps sp ∧ mg name = some (.ref f) ∧ PySem.W.keepIn K (.ref f) = true ∧ Binds K fd ps []
/-- a method -/
structure Met (P : Program) (w : World) (K : PySem.W.Frag) (mg : Str → Option Value) (base : Heap) (CX : CXT) (k : Nat) (C : Addr) (m : Str) (ps : List Str) (sp : Sp) : Prop where
  ex : ∃ (f : Addr) (fd : FuncData), FnOk P w K mg base CX k f fd ps sp ∧ Meth K C m f ∧ Binds K fd ps []
/-- a class that is called -/
structure Mak (P : Program) (w : World) (K : PySem.W.Frag) (mg : Str → Option Value) (base : Heap) (CX : CXT) (k : Nat) (C : Addr) (ps : List Str) (sp : Sp) : Prop where
  ex : ∃ (f : Addr) (fd : FuncData), FnOk P w K mg base CX k f fd ps sp ∧ Mk K C f ∧ Binds K fd ps []
structure Bn (mg : Str → Option Value) : Prop where
  len : mg "len" = none
  list : mg "list" = none
  tuple : mg "tuple" = none
  int : mg "int" = none
  min : mg "min" = none
  max : mg "max" = none
  sum : mg "sum" = none
  range : mg "range" = none
  enumerate : mg "enumerate" = none
  reversed : mg "reversed" = none
  sorted : mg "sorted" = none
  str : mg "str" = none
  all : mg "all" = none
  isinstance : mg "isinstance" = none
  zip : mg "zip" = none
/-- the classes' facts -/
structure Tx (K : PySem.W.Frag) (mg : Str → Option Value) (cR cS cW : Addr) : Prop where
  row : Cls K cR
  span : Cls K cS
  wording : Cls K cW
  mgRow : mg "Row" = some (.ref cR)
  mgSpan : mg "Span" = some (.ref cS)
  mgWording : mg "Wording" = some (.ref cW)
  r1 : NoAttr K cR "until"
  r2 : NoAttr K cR "unit"
  r3 : NoAttr K cR "way"
  r4 : NoAttr K cR "word"
  s1 : NoAttr K cS "low"
  s2 : NoAttr K cS "high"
  s3 : NoAttr K cS "row"
  s4 : NoAttr K cS "is_fresh"
  w1 : NoAttr K cW "rows"
  w2 : NoAttr K cW "spans"
section
variable {K : PySem.W.Frag} {σ : L2.St} {H : Hp} {ta tb : TE} {x y v : V} {a C dx : Addr} {fs : List (Str × V)} {f : Str}
theorem ev_fld (ha : Ev ta σ H (.ref a)) (h : H a = some (.ins C dx fs)) (c : Cls K C) (n : NoAttr K C f) (l : fs.lookup f = some v) : Ev (tFld K ta f) σ H v := fun H1 e _ q =>
  ha H1 e _ fun H2 e2 => ⟨a, C, dx, fs, v, rfl, (e.trans e2) a _ h, c, n, l, q H2 e2⟩
theorem rv_addI {i j : Int} : RV (rI0 fun i j => .int (i + j)) (.int i) (.int j) H (.int (i + j)) := rv_I0
theorem rv_divW {i j : Int} (h : CDivW i j) : RV (rI CDivW fun i j => .int (i / j)) (.int i) (.int j) H (.int (i / j)) := rv_I h
theorem rv_mulW {i j : Int} (h : CMulW i j) : RV (rI CMulW fun i j => .int (i * j)) (.int i) (.int j) H (.int (i * j)) := rv_I h
theorem ev_isN (ha : Ev ta σ H x) : Ev (tIsN ta) σ H (.bl (decide (x = .non))) := fun H1 e _ q => ha H1 e _ fun H2 e2 => q H2 e2
theorem ev_notN (ha : Ev ta σ H x) : Ev (tNotN ta) σ H (.bl (!decide (x = .non))) := fun H1 e _ q => ha H1 e _ fun H2 e2 => q H2 e2
def rMin2 : List V → Hp → VK → Prop := fun xs H Q => ∃ i j, xs = [.int i, .int j] ∧ Q (.int (if j < i then j else i)) H
theorem ev_min2 {i j : Int} (ha : Ev ta σ H (.int i)) (hb : Ev tb σ H (.int j)) : Ev (tCB (fun xs H Q => ∃ i j, xs = [.int i, .int j] ∧ Q (.int (if j < i then j else i)) H) (tCons ta (tCons tb tNil))) σ H (.int (if j < i then j else i)) := fun H1 e Q q =>
  ha H1 e _ fun H2 e2 => hb H2 (e.trans e2) _ fun H3 e3 => ⟨i, j, rfl, q H3 (e2.trans e3)⟩
end
/-- numbers that are not too great -/
def Sm (i : Int) : Prop := -1606938044258990275541962092341162602522202993782792835301376 < i ∧ i < 1606938044258990275541962092341162602522202993782792835301376
theorem Sm.nat {i : Int} (h : Sm i) : i.natAbs < 2 ^ 200 := by
  have e : (2 : Nat) ^ 200 = 1606938044258990275541962092341162602522202993782792835301376 := by decide +kernel
  rw [e]
  unfold Sm at h
  omega
theorem Sm.div {i j : Int} (h0 : 0 < j) (h : Sm j) : CDivW i j := wide_div h0 h.nat (by decide) (by decide)
theorem Sm.mul {i j : Int} (hi : Sm i) (hj : Sm j) : CMulW i j := wide_mul hi.nat hj.nat (by decide) (by decide) (by decide)
theorem nab {a b : Str} (h : decide (a = b) = false) : a ≠ b := of_decide_eq_false h
end Age

set_option Elab.async false
set_option maxRecDepth 100000
set_option maxHeartbeats 4000000
namespace Age
open PySem PySem.Spec PyProof.Rows L2 Evl
/-! ### for i, x in enumerate(a tuple) -/
def titO (l : Addr) : Obj := { cls := .type "tuple_iterator", data := .fields #[.ref l, .int 0 0] }
def enuO (i : Addr) : Obj := { cls := .type "enumerate", data := .fields #[.none, .bool false, .ref i, rawInt 0, .none, .none] }
theorem et_new (l : Addr) (items : Array Value) :
    Meets (Builtin.«enumerate.__new__» ⟨[.type "enumerate", .ref l], []⟩) (fun _ R s => s.heap.IsTuple l items ∧
      R (.ok (.ret (.ref (s.heap.push (titO l)).objs.size))) { s with heap := (s.heap.push (titO l)).push (enuO s.heap.objs.size) }) :=
  .of_wp fun prog w A R s h => by
    obtain ⟨hp, g, d, tk, os⟩ := s
    obtain ⟨ht, h⟩ := h
    have hsub := sub_enumerate
    have it1 : ∀ {A' : Around} {E : Value → Shared → Prop} {Q : Value → Shared → Prop}, Q (.ref hp.objs.size) ⟨hp.push (titO l), g, d, tk, os⟩ → wpAny (model prog w) A' (pyIter (.ref l)) Q E ⟨hp, g, d, tk, os⟩ :=
      fun q => wpAny_pyIter_tuple (s := ⟨hp, g, d, tk, os⟩) ht q
    wp_walk using it1
    refine wpAny_stack_any fun st => wpAny_pure ?_
    split
    · rename_i c _ _ _ _ _
      cases (c == Value.type "enumerate") <;> (wp_walk using it1; exact ⟨_, rfl, h⟩)
    · wp_walk using it1
      exact ⟨_, rfl, h⟩
section
variable {prog : Program} {w : World} {A : Around} {E : Value → Shared → Prop} {s : Shared}
theorem et_call {l : Addr} {items : Array Value} {Q : Value → Shared → Prop} (ht : s.heap.IsTuple l items)
    (h : ∀ h', IsEnum h' (s.heap.objs.size + 1) s.heap.objs.size 0 .none → h'.IsTupleIter s.heap.objs.size l 0 → (∀ b o, s.heap.get? b = some o → h'.get? b = some o) → Q (.ref (s.heap.objs.size + 1)) { s with heap := h' }) :
    wpAny (model prog w) A (call (.type "enumerate") [.ref l]) Q E s := by
  refine callType_new F.called_enumerate (by decide) (F.typeCall_enumerate_1 _) (F.newCall_enumerate_1 _) (fun obj => F.args_object_init_2 obj _) F.entry_enumerate_new (et_new l items) ⟨ht, ?_⟩
  have hz : (s.heap.push (titO l)).objs.size = s.heap.objs.size + 1 := Heap.size_push ..
  show _ ∧ _
  rw [hz]
  have g1 := Heap.get?_push_size (s.heap.push (titO l)) (o := enuO s.heap.objs.size) rfl
  rw [hz] at g1
  have he : IsEnum ((s.heap.push (titO l)).push (enuO s.heap.objs.size)) (s.heap.objs.size + 1) s.heap.objs.size 0 .none := g1
  exact ⟨⟨_, g1, rfl⟩, h _ he ⟨_, Heap.get?_push_of_some _ (Heap.get?_push_size _ rfl), rfl, rfl⟩ fun b o x => Heap.get?_push_of_some _ (Heap.get?_push_of_some _ x)⟩
end
def IteT (K : PySem.W.Frag) (a : Addr) : It where
  go := fun i H => ∃ (xs : List V) (x : V), SqT K H a xs ∧ xs[i]? = some x
  yld := fun i H v H' => ∃ T x, v = .ref T ∧ H T = none ∧ H' = upd H T (.tup [.int (i : Nat), x]) ∧ ∀ xs, SqT K H a xs → xs[i]? = some x
  stop := fun i H => ∃ xs : List V, SqT K H a xs ∧ xs.length ≤ i
theorem et_turn {P : Program} {w : World} {K : PySem.W.Frag} {elts : List Expr} {kk : Nat} {tpos : Pos} (a e it : Addr) :
    Turn P w K (.Tuple elts kk tpos) (IteT K a) [e, it] e (fun i h => (∃ old, IsEnum h e it ((i : Nat) : Int) old) ∧ h.IsTupleIter it a i ∧ e ≠ it) where
  mem := List.mem_cons_self
  obj := fun i h st b hb => by
    obtain ⟨⟨old, he⟩, ⟨o, ho, hc, hd⟩, _⟩ := st
    rcases List.mem_cons.mp hb with z | z
    · subst z
      exact ⟨_, he, fun v q => nomatch q⟩
    · rw [List.mem_singleton.mp z]
      exact ⟨o, ho, fun v q => by rw [hd] at q; cases q⟩
  keep := fun i h h' st k => by
    obtain ⟨⟨old, he⟩, hi, hne⟩ := st
    exact ⟨⟨old, k e List.mem_cons_self _ he⟩, hi.at fun o q => k it (List.mem_cons_of_mem _ List.mem_cons_self) o q, hne⟩
  item := by
    intro X hP hw hK hc i pins s σ H E I hf st hg
    subst hP hw hK
    obtain ⟨⟨old, he⟩, hit, hne⟩ := st
    obtain ⟨xs, x, hq, hx⟩ := hg
    obtain ⟨its, rv, pt, hz⟩ := I.tuple hq
    obtain ⟨u, hu, ru⟩ := rv.get hx
    have hel : e < s.heap.objs.size := Heap.lt_size he
    have hil : it < s.heap.objs.size := by obtain ⟨_, q, _⟩ := hit; exact Heap.lt_size q
    obtain ⟨oa, hoa, _⟩ := id pt
    have hTa : s.heap.IsTuple a its.toArray := pt
    have hae : a ≠ it := by
      intro z
      obtain ⟨o1, h1, h2, _⟩ := hit
      obtain ⟨o2, g1, g2, _⟩ := hTa
      rw [z, h1] at g1
      have z2 := Option.some.inj g1
      rw [← z2, h2] at g2
      exact absurd g2 (by decide)
    have hea : e ∉ [it, a] := by
      intro z
      rcases List.mem_cons.mp z with z | z
      · exact hne z
      · have z := List.mem_singleton.mp z
        subst z
        obtain ⟨o2, g1, g2, _⟩ := hTa
        rw [he] at g1
        have z2 := Option.some.inj g1
        rw [← z2] at g2
        have g3 : Value.type "enumerate" = Value.type "tuple" := g2
        exact absurd g3 (by decide)
    have hlt : i < its.toArray.size := by
      rw [List.size_toArray]
      exact (List.getElem?_eq_some_iff.mp hu).1
    refine wpAny_pyNext_enum_itemD (Draws.tuple (prog := X.prog) (w := X.w) (A := X.A.in1) (show X.A.in1.handled = none from I.ok.hd hc) it a hae its.toArray) he ⟨hit, hTa⟩ hlt hne hea fun y h' tk hy ho hst hT hsz hk => ?_
    have ey : y = u := by
      have q : its.toArray[i]? = some u := by simpa using hu
      have q2 : its.toArray[i]? = some y := hy
      rw [q] at q2
      exact (Option.some.inj q2).symm
    subst ey
    refine ⟨_, rfl, wpAny_letOwnedTupleGo_enum (s := { s with heap := h', toks := tk + 1 }) ho fun h'' he' sb => ?_⟩
    have hT2 : h''.get? s.heap.objs.size = some { cls := .type "tuple", data := .seq #[.int i tk, y] } := (sb.2 _ (Nat.ne_of_gt hel)).trans hT
    have new : ObjOk X.prog X.w (upd H s.heap.objs.size (.tup [.int (i : Nat), x])) h'' s.heap.objs.size (.tup [.int (i : Nat), x]) :=
      ⟨by show 2 ≤ sizeLine; decide, [.int i tk, y], .cons ⟨_, rfl⟩ (.cons ru .nil), ⟨_, hT2, rfl, _, rfl⟩⟩
    have I1 : Inv X pins σ (upd H s.heap.objs.size (.tup [.int (i : Nat), x])) { s with heap := h'', toks := tk + 1 } :=
      I.turnedNew (ch := [e, it]) (fun b ob hb q => by
        have h1 : b ≠ e := fun z => hb (by rw [z]; exact List.mem_cons_self)
        have h2 : b ≠ it := fun z => hb (by rw [z]; exact List.mem_cons_of_mem _ List.mem_cons_self)
        exact (sb.2 b h1).trans (hk b ob h1 h2 q)) hf (Nat.le_refl _) new
    refine ⟨.ref s.heap.objs.size, _, I1, rfl, ⟨_, x, rfl, I.hok.fresh (Nat.le_refl _), rfl, fun ys hy => by rw [I.tuple_inj hy hq]; exact hx⟩, ⟨⟨y, ?_⟩, hst.1.at fun o q => (sb.2 it (Ne.symm hne)).trans q, hne⟩, fun b hb => ?_⟩
    · have e1 : ((i + 1 : Nat) : Int) = (i : Int) + 1 := Int.natCast_succ i
      rw [e1]
      exact he'
    · have hb' : b < s.heap.objs.size := by
        rcases List.mem_cons.mp hb with z | z
        · rw [z]; exact hel
        · rw [List.mem_singleton.mp z]; exact hil
      rw [upd_ne (Nat.ne_of_lt hb')]
      exact (hf b hb).1
  done := by
    intro X hP hw hK hc i pins s σ H E I hf st hg
    subst hP hw hK
    obtain ⟨⟨old, he⟩, hit, hne⟩ := st
    obtain ⟨xs, hq, hx⟩ := hg
    obtain ⟨its, rv, pt, hz⟩ := I.tuple hq
    have hTa : s.heap.IsTuple a its.toArray := pt
    obtain ⟨f0, f1, f2, f3, f4, f5⟩ := hf it (List.mem_cons_of_mem _ List.mem_cons_self)
    have hl := rv.length
    refine wpAny_pyNext_enum_endD (n := i) (P := fun _ _ => True) (fp := [it, a]) (St := fun j h => j = i ∧ h.IsTupleIter it a i ∧ h.IsTuple a its.toArray) ?_ he ⟨rfl, hit, hTa⟩ fun h' eb => ⟨rfl, I.turned (t' := s.toks) (fun b o hb q => eb b o hb q) f0 f1 f3 f4 f5⟩
    exact {
      live := fun _ _ st => let ⟨o, ho, _⟩ := st.2.1; ⟨o, ho⟩
      frame := fun _ _ _ st hk => ⟨st.1, st.2.1.at fun o e => hk it List.mem_cons_self o e, st.2.2.at fun o e => hk a (List.mem_cons_of_mem _ List.mem_cons_self) o e⟩
      item := fun j s Q E hj st _ => absurd st.1 (Nat.ne_of_lt hj)
      done := fun s Q E st hE => wpAny_nextOf_tuple_end (I.ok.hd hc) st.2.1 st.2.2 (by simp; omega) hE }
  self := fun A i s Q E st h => let ⟨⟨_, he⟩, _⟩ := st; wpAny_pyIter_enum he h
def iEnumT (K : PySem.W.Frag) (ta : TA) : TI := fun σ H R => ta σ H fun vs H1 => ∃ a xs, vs = [.ref a] ∧ SqT K H1 a xs ∧ R (IteT K a) H1
theorem pi_enumT {X : Cx} {e : Expr} {ta : TA} {p pos tpos : Pos} {elts : List Expr} {kk : Nat} (hg : Gl X "enumerate") (hm : X.mg "enumerate" = none) (ha : PA X [e] ta)
    (hs : starEach [e] X.env = [(false, eval e X.env)] := by rfl) :
    PI X (.Tuple elts kk tpos) (.Call (.Name "enumerate" p) [e] [] pos) (iEnumT X.K ta) := by
  refine ⟨fun pins s σ H R I h => ?_⟩
  refine Call_ (ld_blt I hg hm boot_enumerate (PyProof.Rows.callWith_type1 (thn (ha.run pos pins s σ H _ I h) fun us s1 q => ?_) hs rfl))
  obtain ⟨vs, H1, I1, r1, a, xs, ex, hq, q⟩ := q
  subst ex
  cases r1 with
  | cons r rr =>
    cases rr
    cases r
    obtain ⟨its, rv, pt, hz⟩ := I1.tuple hq
    have hTa : s1.heap.IsTuple a its.toArray := pt
    refine et_call hTa fun h' he hit hk => wpAny_pyIter_enum he ?_
    have I2 : Inv X pins σ H1 { s1 with heap := h' } := I1.kept (t' := s1.toks) hk
    refine ⟨s1.heap.objs.size + 1, [s1.heap.objs.size + 1, s1.heap.objs.size], _, _, H1, rfl, I2, et_turn a (s1.heap.objs.size + 1) s1.heap.objs.size, ⟨⟨.none, he⟩, hit, Nat.succ_ne_self _⟩, fun b hb => ?_, q⟩
    have hle : s1.heap.objs.size ≤ b := by
      rcases List.mem_cons.mp hb with z | z
      · rw [z]; exact Nat.le_add_right _ _
      · rw [List.mem_singleton.mp z]; exact Nat.le_refl _
    exact I1.fpOk hle (I1.hok.fresh hle)
/-- the loop by a word of the turn -/
theorem for_enumT {K : PySem.W.Frag} {a : Addr} {xs : List V} {g : TG} {tb : TS} {D : Ends} {σ : L2.St} {H : Hp} {ta : TA} (ha : EvA ta σ H [.ref a]) (hx : SqT K H a xs) (Pv : Nat → L2.St → Hp → Prop) (h0 : ∀ H1, Ex H H1 → Pv 0 σ H1)
    (hl : ∀ i σ' H', i ≤ xs.length → Pv i σ' H' → SqT K H' a xs)
    (hs : ∀ (i : Nat) x σ' H' T, xs[i]? = some x → Pv i σ' H' → H' T = none → g (.ref T) σ' (upd H' T (.tup [.int (i : Nat), x])) fun σ2 H2 => tb { D with nx := Pv (i + 1), ct := Pv (i + 1), bk := D.nx } σ2 H2)
    (hd : ∀ σ' H', Pv xs.length σ' H' → D.nx σ' H') : tFor (iEnumT K ta) g tb D σ H := ha H (Ex.refl H) _ fun H1 e1 => by
  refine ⟨a, xs, rfl, ex_t e1 hx, fun i m σ H => m = xs.length - i ∧ i ≤ xs.length ∧ Pv i σ H, ⟨xs.length, rfl, Nat.zero_le _, h0 H1 e1⟩, ?_⟩
  intro i m σ' H' ⟨hm, hi, p⟩
  have q := hl i σ' H' hi p
  by_cases hlt : i < xs.length
  · have hx : xs[i]? = some xs[i] := List.getElem?_eq_getElem hlt
    refine Or.inr ⟨⟨xs, xs[i], q, hx⟩, Pv (i + 1), fun σ2 H2 p2 => ⟨xs.length - (i + 1), by omega, rfl, hlt, p2⟩, ?_⟩
    intro v H2 ⟨T, x, ev, hT, eH, hy⟩
    subst ev eH
    exact hs i x σ' H' T (hy xs q) p hT
  · have e : i = xs.length := by omega
    subst e
    exact Or.inl ⟨⟨xs, q, Nat.le_refl _⟩, hd σ' H' p⟩
end Age

set_option Elab.async false
set_option linter.all false
set_option maxRecDepth 100000
set_option maxHeartbeats 4000000
namespace Age
open PySem PySem.Spec PyProof.Rows L2 Evl
/-! ### data -/
mutual
theorem dp_mono {K : PySem.W.Frag} {H H' : Hp} (e : Ex H H') : ∀ {v : V} {d : PyData}, Dp K H v d → Dp K H' v d
  | _, _, .non => .non
  | _, _, .bl b => .bl b
  | _, _, .int i => .int i
  | _, _, .str x => .str x
  | _, _, .lst h a => .lst (ex_l e h) (dpA_mono e a)
  | _, _, .tup h a => .tup (ex_t e h) (dpA_mono e a)
theorem dpA_mono {K : PySem.W.Frag} {H H' : Hp} (e : Ex H H') : ∀ {vs : List V} {ds : List PyData}, DpAll K H vs ds → DpAll K H' vs ds
  | _, _, .nil => .nil
  | _, _, .cons a b => .cons (dp_mono e a) (dpA_mono e b)
end
def dO : Option Int → PyData
  | none => .none
  | some i => .int i
def dL (l : Str × Option Int) : PyData := .tuple [.str l.1, dO l.2]
theorem eqv_dO (a b : Option Int) : PyData.eqv (dO a) (dO b) = decide (a = b) := by
  cases a <;> cases b <;> simp [dO, PyData.eqv, Bool.beq_eq_decide_eq]
theorem eqv_dL (a b : Str × Option Int) : PyData.eqv (dL a) (dL b) = decide (a = b) := by
  obtain ⟨w, c⟩ := a
  obtain ⟨w', c'⟩ := b
  have h : (w == w') = decide (w = w') := Bool.beq_eq_decide_eq w w'
  simp only [dL, PyData.eqv, PyData.eqvAll, Bool.and_true, eqv_dO, h, Prod.mk.injEq, Bool.decide_and]
theorem shaped_dL (a : Str × Option Int) (h : PyData.strOk a.1 = true) : SeqAt.shaped (dL a) = true := by
  obtain ⟨w, c⟩ := a
  have h : PyData.strOk w = true := h
  cases c <;> simp [h, SeqAt.shaped, dL, dO, PyData.canLay0, PyData.canLayAll0, PyData.depth, PyData.depthAll]
section
variable {K : PySem.W.Frag} {σ : L2.St} {H H' : Hp} {ta tb te : TE} {x y v z : V} {a C dx : Addr} {fs : List (Str × V)} {f : Str} {g : TG} {D : Ends} {tz : TS}
theorem rv_eqD {d e : PyData} (hx : Dp K H x d) (hy : Dp K H y e) (h1 : SeqAt.shaped d = true) (h2 : SeqAt.shaped e = true) : RV (rEqD K) x y H (.bl (PyData.eqv d e)) := fun H1 k _ q => ⟨d, e, dp_mono k hx, dp_mono k hy, h1, h2, q H1 (Ex.refl H1)⟩
theorem rv_neD {d e : PyData} (hx : Dp K H x d) (hy : Dp K H y e) (h1 : SeqAt.shaped d = true) (h2 : SeqAt.shaped e = true) : RV (rNeD K) x y H (.bl (!PyData.eqv d e)) := fun H1 k _ q => ⟨d, e, dp_mono k hx, dp_mono k hy, h1, h2, q H1 (Ex.refl H1)⟩
theorem ev_lenT {p : Addr} {xs : List V} (ha : Ev ta σ H (.ref p)) (h : SqT K H p xs) : Ev (tCB (rLenS K) (tCons ta tNil)) σ H (.int (xs.length : Int)) := fun H1 e Q q =>
  ha H1 e _ fun H2 e2 => ⟨p, xs, rfl, Or.inr (ex_t (e.trans e2) h), q H2 e2⟩
/-! ### a heap without one place -/
def wo (l : Addr) (H : Hp) : Hp := fun a => if a = l then none else H a
theorem wo_ne {l b : Addr} (h : b ≠ l) : wo l H b = H b := if_neg h
theorem wo_l {l : Addr} : wo l H l = none := if_pos rfl
theorem wo_sub {l : Addr} : Ex (wo l H) H := fun b o h => by
  by_cases e : b = l
  · rw [e, wo_l] at h; cases h
  · rw [wo_ne e] at h; exact h
theorem wo_of {l : Addr} {M : Hp} (e : Ex M H) (h : M l = none) : Ex M (wo l H) := fun b o hb => by
  rw [wo_ne (ne_of_none hb h)]
  exact e b o hb
theorem wo_mut {l : Addr} {o : HO} (e : Ex H H') : Ex (wo l H) (wo l (upd H' l o)) := fun b u hb => by
  by_cases q : b = l
  · rw [q, wo_l] at hb; cases hb
  · rw [wo_ne q] at hb
    rw [wo_ne q, upd_ne q]
    exact e b u hb
theorem wo_mono {l : Addr} (e : Ex H H') : Ex (wo l H) (wo l H') := fun b u hb => by
  by_cases q : b = l
  · rw [q, wo_l] at hb; cases hb
  · rw [wo_ne q] at hb
    rw [wo_ne q]
    exact e b u hb
theorem wo_upd {l : Addr} {o : HO} : wo l (upd H l o) = wo l H := by
  funext b
  by_cases q : b = l
  · rw [q, wo_l, wo_l]
  · rw [wo_ne q, wo_ne q, upd_ne q]
/-! ### comprehensions -/
theorem given_list {α : Type} {L : List α} {p : α → Bool} {q : α → V} {f : Nat → Bool} {u : Nat → V} (h : ∀ i a, L[i]? = some a → f i = p a ∧ u i = q a) : ∀ n, n ≤ L.length → given n f u = ((L.take n).filter p).map q
  | 0, _ => by simp [given]
  | n + 1, hn => by
    have hlt : n < L.length := hn
    have ha : L[n]? = some L[n] := List.getElem?_eq_getElem hlt
    have ih := given_list h n (Nat.le_of_lt hlt)
    obtain ⟨h1, h2⟩ := h n _ ha
    have et : L.take (n + 1) = L.take n ++ [L[n]] := by rw [List.take_add_one, ha]; rfl
    rw [et, List.filter_append, List.map_append]
    cases hp : p L[n] with
    | true =>
      rw [given_yes (by rw [h1]; exact hp), ih, h2]
      simp [hp]
    | false =>
      rw [given_no (by rw [h1]; exact hp), ih]
      simp [hp]
/-- over a tuple -/
theorem el_lcT {a : Addr} {xs : List V} {tl : TE} {j : Nat} {vs : List Nat} {t : TT} (f : Nat → Bool) (u : Nat → V) (h : Ev tl σ H (.ref a)) (hx : SqT K H a xs) (hz : xs.length ≤ 40000) (hw : ∀ x, wipe ((wipe σ vs).set j (some x)) vs = wipe σ vs)
    (ht : ∀ (i : Nat) (x : V) H1, Ex H H1 → xs[i]? = some x → EvT t ((wipe σ vs).set j (some x)) H1 (f i)) (he : ∀ (i : Nat) (x : V) H1, Ex H H1 → xs[i]? = some x → f i = true → Ev te ((wipe σ vs).set j (some x)) H1 (u i)) :
    EvL (tLc (iTup K tl) (gName j) t te vs) σ H (given xs.length f u) := fun H0 e Q q => h H0 e _ fun H1 e1 => by
  refine ⟨a, rfl, ⟨xs, ex_t (e.trans e1) hx⟩, fun Dl hD => ?_⟩
  refine lc_tup (xs := xs) (Cw H1 f u Dl) ⟨hD, Ex.new hD, upd_same⟩ (fun i H' _ p => ex_t ((e.trans e1).trans p.2.1) hx) (fun i x H' hi p => ?_) (fun H' p => ?_)
  · have hlt := (List.getElem?_eq_some_iff.mp hi).1
    exact ⟨hw x, cw_turn p (by omega) (ht i x H1 (e.trans e1) hi) (fun hf => he i x H1 (e.trans e1) hi hf)⟩
  · exact q Dl H' (fresh_back e1 p.1) (e1.trans p.2.1) p.2.2
/-- an element that makes things: what it gives, told of the heap without the list that grows -/
def EvE (te : TE) (σ : L2.St) (M : Hp) (R : V → Hp → Prop) : Prop := ∀ H1 Dl acc, Ex M H1 → M Dl = none → H1 Dl = some (.lst acc) → ∀ Q : VK, (∀ y H2, Ex H1 H2 → R y (wo Dl H2) → Q y H2) → te σ H1 Q
theorem EvE.of_ev {R : V → Hp → Prop} (h : Ev te σ H v) (r : ∀ H1, Ex H H1 → R v H1) : EvE te σ H R := fun H1 Dl acc e hD hl Q q => h H1 e Q fun H2 e2 => q v H2 e2 (r _ (wo_of (e.trans e2) hD))
/-- the list ys, item by item -/
def Each (R : Nat → V → Hp → Prop) (n : Nat) (ys : List V) (H : Hp) : Prop := ys.length = n ∧ ∀ i y, ys[i]? = some y → R i y H
theorem Each.snoc {R : Nat → V → Hp → Prop} {n : Nat} {ys : List V} (mono : ∀ i y H1 H2, Ex H1 H2 → R i y H1 → R i y H2) (h : Each R n ys H) (e : Ex H H') (r : R n y H') : Each R (n + 1) (ys ++ [y]) H' := by
  refine ⟨by rw [List.length_append, h.1]; rfl, fun i u hi => ?_⟩
  by_cases hlt : i < ys.length
  · rw [List.getElem?_append_left hlt] at hi
    exact mono i u H H' e (h.2 i u hi)
  · rw [List.getElem?_append_right (by omega)] at hi
    have h0 : i - ys.length = 0 := by
      have := (List.getElem?_eq_some_iff.mp hi).1
      simp at this
      omega
    rw [h0] at hi
    have eu : y = u := Option.some.inj hi
    have ei : i = n := by rw [← h.1]; omega
    rw [← eu, ei]
    exact r
/-- [e for .. in list or tuple], every item taken -/
theorem en_lc {isT : Bool} {a : Addr} {xs : List V} {tl : TE} {vs : List Nat} {R : Nat → V → Hp → Prop} (mono : ∀ i y H1 H2, Ex H1 H2 → R i y H1 → R i y H2) (h : Ev tl σ H (.ref a)) (hx : if isT = true then SqT K H a xs else SqL K H a xs) (hz : xs.length ≤ 40000)
    (hs : ∀ (i : Nat) (x : V) M, Ex H M → xs[i]? = some x → ∃ σ2, wipe σ2 vs = wipe σ vs ∧ (∀ H1 k, Ex M H1 → k σ2 H1 → g x (wipe σ vs) H1 k) ∧ EvE te σ2 M (R i)) :
    ∀ H1, Ex H H1 → ∀ Q : VK, (∀ p ys H2, H1 p = none → Ex H1 H2 → H2 p = some (.lst ys) → Each R xs.length ys (wo p H2) → Q (.ref p) H2) → tLc (if isT = true then iTup K tl else iList K tl) g tYes te vs σ H1 Q := fun H0 e Q q => by
  have turn : ∀ (Dl : Addr) (H1 : Hp) (i : Nat) (x : V) (H' : Hp), Ex H H1 → H1 Dl = none → xs[i]? = some x → (∃ ys, H' Dl = some (.lst ys) ∧ Ex H1 H' ∧ Each R i ys (wo Dl H')) →
      g x (wipe σ vs) H' fun σ2 H2 => wipe σ2 vs = wipe σ vs ∧ tYes σ2 H2 fun b H3 => if b = true then te σ2 H3 fun y H4 => ∃ acc, H4 Dl = some (.lst acc) ∧ acc.length < sizeLine ∧ (∃ ys, (upd H4 Dl (.lst (acc ++ [y]))) Dl = some (.lst ys) ∧ Ex H1 (upd H4 Dl (.lst (acc ++ [y]))) ∧ Each R (i + 1) ys (wo Dl (upd H4 Dl (.lst (acc ++ [y]))))) else (∃ ys, H3 Dl = some (.lst ys) ∧ Ex H1 H3 ∧ Each R (i + 1) ys (wo Dl H3)) := by
    intro Dl H1 i x H' e0 hD hi ⟨ys, p1, p2, p3⟩
    obtain ⟨σ2, w2, gk, ev⟩ := hs i x (wo Dl H') (e0.trans (wo_of p2 hD)) hi
    refine gk H' _ wo_sub ⟨w2, ?_⟩
    show te σ2 H' _
    refine ev H' Dl ys wo_sub wo_l p1 _ fun y H4 e4 r => ⟨ys, e4 Dl _ p1, ?_, ys ++ [y], upd_same, Ex.mut (p2.trans e4) hD, ?_⟩
    · have hlt := (List.getElem?_eq_some_iff.mp hi).1
      have := p3.1
      exact sz_lt (by omega)
    · rw [wo_upd]
      exact p3.snoc mono (wo_mono e4) r
  cases isT with
  | true =>
    refine h H0 e _ fun H1 e1 => ⟨a, rfl, ⟨xs, ex_t (e.trans e1) hx⟩, fun Dl hD => ?_⟩
    refine lc_tup (xs := xs) (fun i H' => ∃ ys, H' Dl = some (.lst ys) ∧ Ex H1 H' ∧ Each R i ys (wo Dl H')) ⟨[], upd_same, Ex.new hD, rfl, fun i y z => nomatch z⟩ (fun i H' _ ⟨_, _, p, _⟩ => ex_t ((e.trans e1).trans p) hx) (fun i x H' hi p => turn Dl H1 i x H' (e.trans e1) hD hi p) (fun H' ⟨ys, p1, p2, p3⟩ => q Dl ys H' (fresh_back e1 hD) (e1.trans p2) p1 p3)
  | false =>
    refine h H0 e _ fun H1 e1 => ⟨a, rfl, ⟨xs, ex_l (e.trans e1) hx⟩, fun Dl hD => ?_⟩
    refine lc_list (xs := xs) (fun i H' => ∃ ys, H' Dl = some (.lst ys) ∧ Ex H1 H' ∧ Each R i ys (wo Dl H')) ⟨[], upd_same, Ex.new hD, rfl, fun i y z => nomatch z⟩ (fun i H' _ ⟨_, _, p, _⟩ => ex_l ((e.trans e1).trans p) hx) (fun i x H' hi p => turn Dl H1 i x H' (e.trans e1) hD hi p) (fun H' ⟨ys, p1, p2, p3⟩ => q Dl ys H' (fresh_back e1 hD) (e1.trans p2) p1 p3)
end
/-! ### rules that name the written part -/
section
variable {X : Cx} {K : PySem.W.Frag} {e : Expr} {te : TE} {f : Str} {pos : Pos}
theorem pe_fldK (h : X.K = K) (he : PE X e te) (hb : attributeBase e f X.env (eval e X.env) = eval e X.env) : PE X (.Attribute e f pos) (tFld K te f) := by
  subst h
  exact pe_fld he hb
theorem ix_listK (h : X.K = K) : IxR X (rIxL K) := by subst h; exact ix_list
theorem ix_tupK (h : X.K = K) : IxR X (rIxT K) := by subst h; exact ix_tup
theorem sl_listK (h : X.K = K) : SlR X (rSlL K) := by subst h; exact sl_list
theorem op_eqDK (h : X.K = K) (hu : X.A.units + 64 < cLine) : OpR X (compareOp .Eq) (rEqD K) := by subst h; exact op_eqD hu
theorem op_neDK (h : X.K = K) (hu : X.A.units + 64 < cLine) : OpR X (compareOp .NotEq) (rNeD K) := by subst h; exact op_neD hu
theorem call_len_seqK (h : X.K = K) : CallR X (.builtin "len") (rLenS K) := by subst h; exact call_len_seq
theorem pg_tupK {es : List Expr} {k : Nat} {t : TGs} {n : Nat} (h : X.K = K) (hc : X.calm = true) (hg : PGs X es t) (hn : (assignEach es X.env).length = n := by rfl)
    (hst : (assignEach es X.env).findIdx? (·.1) = none := by rfl) : PG X (.Tuple es k pos) (gTup K n t) := by
  subst h
  exact pg_tup hc hg hn hst
end
end Age

set_option Elab.async false
set_option linter.all false
set_option maxRecDepth 100000
set_option maxHeartbeats 4000000
namespace Age
open PySem PySem.Spec PyProof.Rows L2 Evl
/-! ### sep.join(reversed(x)), x an empty list -/
section
variable {prog : Program} {w : World} {A : Around} {E : Value → Shared → Prop} {s : Shared}
theorem join_rev0 {x : Str} {t : Tok} {it l : Addr} {Q : Value → Shared → Prop} (hh : A.handled = none) (hit : s.heap.IsRevIter it l (((#[] : Array Value).size : Int) - 1)) (hl : s.heap.IsList l #[]) (hne : l ≠ it)
    (hq : ∀ (h' : Heap) (k : Nat) (t' : Tok), (∀ b o, b ≠ it → s.heap.get? b = some o → h'.get? b = some o) → Q (.str (Txt.join x []) t') { s with heap := h', toks := k }) :
    wpAny (model prog w) A (call (.builtin "str.join") [.str x t, .ref it]) Q E s := by
  refine wpAny_call (codeAny_call_builtin F.slot_str_join.plain F.entry_str_join (F.slot_str_join.check _ _ _ _ _ _ _ _ (typeIs_str _ _ _) (F.args_str_join_2 _ _) ?_))
  rw [join_tree_other]
  refine wpAny_bind (wpAny_typeOf hit.typeIs ?_)
  show wpAny _ A.in1 ((pyIter (.ref it)).tryCatch _ >>= fun it => collect it >>= fun items => joinTail x items) _ _ s
  refine wpAny_bind (wpAny_tryCatch (wpAny_pyIter_revIter hit ?_))
  refine wpAny_bind (RT.collect_rev (A := A.in1) hh hit hl hne (Nat.zero_le _) fun h' tk acc hk hi => ?_)
  have e : acc.toList = strValues [] := by
    have : acc.size = 0 := hi.1
    rw [Array.eq_empty_of_size_eq_zero this]
    rfl
  rw [e]
  have g : Gives (joinTail x (strValues [])) (joinMade x []) := gives_joinTail x [] rfl
  exact g prog w A (wants Q E) { s with heap := h', toks := tk } (post_join [] ⟨joinFit_length rfl, fun t' k => hq h' k t' hk⟩)
end
def tJoinRev0 (K : PySem.W.Frag) (to te : TE) : TE := fun σ H Q => to σ H fun x H1 => ∃ a, x = .str a ∧ te σ H1 fun y H2 => ∃ l, y = .ref l ∧ SqL K H2 l [] ∧ Q (.str (Txt.join a [])) H2
theorem pe_joinRev0 {X : Cx} {o e : Expr} {to te : TE} {apos p2 pos pos2 : Pos} (hc : X.calm = true) (ho : PE X o to) (hg2 : Gl X "reversed") (hm2 : X.mg "reversed" = none) (he : PE X e te)
    (hs : starEach [.Call (.Name "reversed" p2) [e] [] pos2] X.env = [(false, eval (.Call (.Name "reversed" p2) [e] [] pos2) X.env)] := by rfl) (hs2 : starEach [e] X.env = (false, eval e X.env) :: starEach [] X.env := by rfl)
    (hbase : attributeBase o "join" X.env (eval o X.env) = eval o X.env := by rfl) (hline : (apos.endLine == pos.line) = true := by rfl) :
    PE X (.Call (.Attribute o "join" apos) [.Call (.Name "reversed" p2) [e] [] pos2] [] pos) (tJoinRev0 X.K to te) := by
  refine ⟨fun pins s σ H Q I h => ?_⟩
  refine PySem.Call_method1 hbase hs hline (thn (ho.run pins s σ H _ I h) fun v s1 ⟨x, H1, I1, r1, q1⟩ => ?_)
  obtain ⟨a, rfl, q1⟩ := q1
  obtain ⟨t, rfl⟩ := _root_.id r1
  refine ⟨"str", _, F.plainAttrs_str, F.slot_str_join, F.type_str_join, typeIs_str _ _ _, (fun _ e => nomatch e), Calls.callWith_builtin rfl (Calls.evalArgs_plain (Calls.spliced_cons ?_))⟩
  refine Call_ (ld_blt I1 hg2 hm2 PyProof.Rows.boot_reversed (PyProof.Rows.callWith_type1 (args_cons (thn (he.run pins s1 σ H1 _ I1 q1) fun u s2 ⟨y, H2, I2, r2, q2⟩ => args_nil ?_) hs2) hs2 rfl))
  obtain ⟨l, ey, hq, q⟩ := q2
  subst ey
  obtain rfl : u = Value.ref l := r2
  obtain ⟨its, rv, p', hz⟩ := I2.list hq
  cases rv
  refine call_reversed_list p'.isList (Calls.spliced_nil ?_)
  have k0 : ∀ b o, s2.heap.get? b = some o → (s2.heap.push (revObj l (((#[] : Array Value).size : Int) - 1))).get? b = some o := fun b o e => Heap.get?_push_of_some _ e
  have I3 : Inv X pins σ H2 { s2 with heap := s2.heap.push (revObj l (((#[] : Array Value).size : Int) - 1)) } := I2.kept (t' := s2.toks) k0
  obtain ⟨f0, f1, f2, f3, f4, f5⟩ := I2.fpOk (H' := H2) (b := s2.heap.objs.size) (Nat.le_refl _) (I2.hok.fresh (Nat.le_refl _))
  have hl := p'.isList
  obtain ⟨ol, hol, _⟩ := id hl
  have hne : l ≠ s2.heap.objs.size := Nat.ne_of_lt (Heap.lt_size hol)
  refine join_rev0 (s := { s2 with heap := s2.heap.push (revObj l (((#[] : Array Value).size : Int) - 1)) }) (I2.ok.hd hc) ⟨_, Heap.get?_push_size _ rfl, rfl, rfl⟩ (hl.push _) hne fun h' tk t' hk => ?_
  have I4 : Inv X pins σ H2 { s2 with heap := h', toks := tk } := I3.turned (t' := tk) (fun b o hb e => hk b o hb e) f0 f1 f3 f4 f5
  exact ⟨.str (Txt.join a []), H2, I4, ⟨t', rfl⟩, q⟩
end Age

set_option Elab.async false
set_option linter.all false
set_option maxRecDepth 100000
set_option maxHeartbeats 2000000
namespace Age
open PySem PySem.Spec PyProof.Rows L2 Evl
def top (i : Nat) : Stmt := PySem.Challenge.pw_agewords_k14_whole_steady_wordings.main.body.getD i (.Pass ⟨0, 0, 0, 0⟩)
abbrev s_shift_of : Stmt := top 6
theorem sc_shift_of : FnScope ["unit", "way"] ["unit", "way"] (defScope s_shift_of) := ⟨rfl, rfl, rfl, by decide +kernel, rfl, by decide +kernel, by decide +kernel⟩
abbrev s_counted : Stmt := top 7
theorem sc_counted : FnScope ["number", "unit", "way"] ["number", "unit", "way"] (defScope s_counted) := ⟨rfl, rfl, rfl, by decide +kernel, rfl, by decide +kernel, by decide +kernel⟩
abbrev s_first_with : Stmt := top 8
theorem sc_first_with : FnScope ["count", "unit", "way"] ["count", "unit", "way"] (defScope s_first_with) := ⟨rfl, rfl, rfl, by decide +kernel, rfl, by decide +kernel, by decide +kernel⟩
abbrev s_decimal : Stmt := top 18
theorem sc_decimal : FnScope ["number", "chunks"] ["number"] (defScope s_decimal) := ⟨rfl, rfl, rfl, by decide +kernel, rfl, by decide +kernel, by decide +kernel⟩
abbrev s_number_or_dash : Stmt := top 19
theorem sc_number_or_dash : FnScope ["number"] ["number"] (defScope s_number_or_dash) := ⟨rfl, rfl, rfl, by decide +kernel, rfl, by decide +kernel, by decide +kernel⟩
abbrev s_row_line : Stmt := top 20
theorem sc_row_line : FnScope ["row"] ["row"] (defScope s_row_line) := ⟨rfl, rfl, rfl, by decide +kernel, rfl, by decide +kernel, by decide +kernel⟩
abbrev s_made_of : Stmt := top 21
theorem sc_made_of : FnScope ["word", "characters", "character"] ["word", "characters"] (defScope s_made_of) := ⟨rfl, rfl, rfl, by decide +kernel, rfl, by decide +kernel, by decide +kernel⟩
abbrev s_is_number : Stmt := top 22
theorem sc_is_number : FnScope ["word"] ["word"] (defScope s_is_number) := ⟨rfl, rfl, rfl, by decide +kernel, rfl, by decide +kernel, by decide +kernel⟩
abbrev s_is_row : Stmt := top 23
theorem sc_is_row : FnScope ["words", "until", "unit", "way", "word", "part"] ["words"] (defScope s_is_row) := ⟨rfl, rfl, rfl, by decide +kernel, rfl, by decide +kernel, by decide +kernel⟩
abbrev s_value_of : Stmt := top 24
theorem sc_value_of : FnScope ["word"] ["word"] (defScope s_value_of) := ⟨rfl, rfl, rfl, by decide +kernel, rfl, by decide +kernel, by decide +kernel⟩
abbrev s_until_fits : Stmt := top 25
theorem sc_until_fits : FnScope ["until", "before", "is_last"] ["until", "before", "is_last"] (defScope s_until_fits) := ⟨rfl, rfl, rfl, by decide +kernel, rfl, by decide +kernel, by decide +kernel⟩
abbrev s_read_rows : Stmt := top 26
theorem sc_read_rows : FnScope ["text", "rows", "before", "lines", "index", "line", "words", "until", "word"] ["text"] (defScope s_read_rows) := ⟨rfl, rfl, rfl, by decide +kernel, rfl, by decide +kernel, by decide +kernel⟩
abbrev s_Row_init : Stmt := inClass (top 28) 0
theorem sc_Row_init : FnScope ["self", "until", "unit", "way", "word"] ["self", "until", "unit", "way", "word"] (defScope s_Row_init) := ⟨rfl, rfl, rfl, by decide +kernel, rfl, by decide +kernel, by decide +kernel⟩
abbrev s_Row_eq : Stmt := inClass (top 28) 1
theorem sc_Row_eq : FnScope ["self", "other"] ["self", "other"] (defScope s_Row_eq) := ⟨rfl, rfl, rfl, by decide +kernel, rfl, by decide +kernel, by decide +kernel⟩
abbrev s_Span_init : Stmt := inClass (top 29) 0
theorem sc_Span_init : FnScope ["self", "low", "high", "row", "is_fresh"] ["self", "low", "high", "row", "is_fresh"] (defScope s_Span_init) := ⟨rfl, rfl, rfl, by decide +kernel, rfl, by decide +kernel, by decide +kernel⟩
abbrev s_Span_limited : Stmt := inClass (top 29) 1
theorem sc_Span_limited : FnScope ["self", "age"] ["self", "age"] (defScope s_Span_limited) := ⟨rfl, rfl, rfl, by decide +kernel, rfl, by decide +kernel, by decide +kernel⟩
abbrev s_Span_edge_after : Stmt := inClass (top 29) 2
theorem sc_Span_edge_after : FnScope ["self", "age", "count", "edge"] ["self", "age"] (defScope s_Span_edge_after) := ⟨rfl, rfl, rfl, by decide +kernel, rfl, by decide +kernel, by decide +kernel⟩
abbrev s_Span_last_edge_until : Stmt := inClass (top 29) 3
theorem sc_Span_last_edge_until : FnScope ["self", "age", "count", "edge"] ["self", "age"] (defScope s_Span_last_edge_until) := ⟨rfl, rfl, rfl, by decide +kernel, rfl, by decide +kernel, by decide +kernel⟩
abbrev s_Span_number_until : Stmt := inClass (top 29) 4
theorem sc_Span_number_until : FnScope ["self", "age", "number"] ["self", "age"] (defScope s_Span_number_until) := ⟨rfl, rfl, rfl, by decide +kernel, rfl, by decide +kernel, by decide +kernel⟩
abbrev s_Span_stretch_with : Stmt := inClass (top 29) 5
theorem sc_Span_stretch_with : FnScope ["self", "word", "count", "low", "high"] ["self", "word", "count"] (defScope s_Span_stretch_with) := ⟨rfl, rfl, rfl, by decide +kernel, rfl, by decide +kernel, by decide +kernel⟩
abbrev s_Span_edge_shared : Stmt := inClass (top 29) 6
theorem sc_Span_edge_shared : FnScope ["self", "earlier", "count", "stretch"] ["self", "earlier"] (defScope s_Span_edge_shared) := ⟨rfl, rfl, rfl, by decide +kernel, rfl, by decide +kernel, by decide +kernel⟩
abbrev s_Wording_init : Stmt := inClass (top 30) 0
theorem sc_Wording_init : FnScope ["self", "rows"] ["self", "rows"] (defScope s_Wording_init) := ⟨rfl, rfl, rfl, by decide +kernel, rfl, by decide +kernel, by decide +kernel⟩
abbrev s_Wording_eq : Stmt := inClass (top 30) 1
theorem sc_Wording_eq : FnScope ["self", "other"] ["self", "other"] (defScope s_Wording_eq) := ⟨rfl, rfl, rfl, by decide +kernel, rfl, by decide +kernel, by decide +kernel⟩
abbrev s_Wording_str : Stmt := inClass (top 30) 2
theorem sc_Wording_str : FnScope ["self", "row"] ["self"] (defScope s_Wording_str) := ⟨rfl, rfl, rfl, by decide +kernel, rfl, by decide +kernel, by decide +kernel⟩
abbrev s_Wording_read : Stmt := inClass (top 30) 3
theorem sc_Wording_read : FnScope ["cls", "text", "until", "unit", "way", "word"] ["cls", "text"] (defScope s_Wording_read) := ⟨rfl, rfl, rfl, by decide +kernel, rfl, by decide +kernel, by decide +kernel⟩
abbrev s_Wording_label : Stmt := inClass (top 30) 4
theorem sc_Wording_label : FnScope ["self", "age", "row"] ["self", "age"] (defScope s_Wording_label) := ⟨rfl, rfl, rfl, by decide +kernel, rfl, by decide +kernel, by decide +kernel⟩
abbrev s_Wording_text : Stmt := inClass (top 30) 5
theorem sc_Wording_text : FnScope ["self", "age", "word", "count"] ["self", "age"] (defScope s_Wording_text) := ⟨rfl, rfl, rfl, by decide +kernel, rfl, by decide +kernel, by decide +kernel⟩
abbrev s_Wording_later_edge : Stmt := inClass (top 30) 6
theorem sc_Wording_later_edge : FnScope ["self", "age", "span", "edge"] ["self", "age"] (defScope s_Wording_later_edge) := ⟨rfl, rfl, rfl, by decide +kernel, rfl, by decide +kernel, by decide +kernel⟩
abbrev s_Wording_last_edge : Stmt := inClass (top 30) 7
theorem sc_Wording_last_edge : FnScope ["self", "age", "span", "edge"] ["self", "age"] (defScope s_Wording_last_edge) := ⟨rfl, rfl, rfl, by decide +kernel, rfl, by decide +kernel, by decide +kernel⟩
abbrev s_Wording_edges : Stmt := inClass (top 30) 8
theorem sc_Wording_edges : FnScope ["self", "low", "high"] ["self", "low", "high"] (defScope s_Wording_edges) := ⟨rfl, rfl, rfl, by decide +kernel, rfl, by decide +kernel, by decide +kernel⟩
abbrev s_Wording_ages : Stmt := inClass (top 30) 9
theorem sc_Wording_ages : FnScope ["self", "label", "word", "count", "stretches", "span", "stretch"] ["self", "label"] (defScope s_Wording_ages) := ⟨rfl, rfl, rfl, by decide +kernel, rfl, by decide +kernel, by decide +kernel⟩
abbrev s_Wording_returns : Stmt := inClass (top 30) 10
theorem sc_Wording_returns : FnScope ["self", "index", "span", "edges", "again", "earlier", "edge"] ["self"] (defScope s_Wording_returns) := ⟨rfl, rfl, rfl, by decide +kernel, rfl, by decide +kernel, by decide +kernel⟩
abbrev s_demand_age : Stmt := top 31
theorem sc_demand_age : FnScope ["age"] ["age"] (defScope s_demand_age) := ⟨rfl, rfl, rfl, by decide +kernel, rfl, by decide +kernel, by decide +kernel⟩
abbrev s_check_untils : Stmt := top 32
theorem sc_check_untils : FnScope ["rows", "before", "index", "row", "is_last"] ["rows"] (defScope s_check_untils) := ⟨rfl, rfl, rfl, by decide +kernel, rfl, by decide +kernel, by decide +kernel⟩
abbrev s_row_of : Stmt := top 33
theorem sc_row_of : FnScope ["rows", "age", "row"] ["rows", "age"] (defScope s_row_of) := ⟨rfl, rfl, rfl, by decide +kernel, rfl, by decide +kernel, by decide +kernel⟩
abbrev s_count_in : Stmt := top 34
theorem sc_count_in : FnScope ["row", "age"] ["row", "age"] (defScope s_count_in) := ⟨rfl, rfl, rfl, by decide +kernel, rfl, by decide +kernel, by decide +kernel⟩
abbrev s_spans_of : Stmt := top 35
theorem sc_spans_of : FnScope ["rows", "spans", "low", "shown", "row", "label", "is_fresh"] ["rows"] (defScope s_spans_of) := ⟨rfl, rfl, rfl, by decide +kernel, rfl, by decide +kernel, by decide +kernel⟩
abbrev s_number_of_edges : Stmt := top 36
theorem sc_number_of_edges : FnScope ["spans", "age", "span"] ["spans", "age"] (defScope s_number_of_edges) := ⟨rfl, rfl, rfl, by decide +kernel, rfl, by decide +kernel, by decide +kernel⟩
abbrev s_joined : Stmt := top 37
theorem sc_joined : FnScope ["stretches", "found", "low", "high", "_"] ["stretches"] (defScope s_joined) := ⟨rfl, rfl, rfl, by decide +kernel, rfl, by decide +kernel, by decide +kernel⟩
abbrev s__law_pen : Stmt := top 39
theorem sc__law_pen : FnScope ["_law_script"] ["_law_script"] (defScope s__law_pen) := ⟨rfl, rfl, rfl, by decide +kernel, rfl, by decide +kernel, by decide +kernel⟩
abbrev s__law_draw : Stmt := top 40
theorem sc__law_draw : FnScope ["_law_pen_here", "_law_many", "_law_digit", "_law_at", "_law_cell", "_law_mixed"] ["_law_pen_here", "_law_many"] (defScope s__law_draw) := ⟨rfl, rfl, rfl, by decide +kernel, rfl, by decide +kernel, by decide +kernel⟩
abbrev s__law_pick : Stmt := top 41
theorem sc__law_pick : FnScope ["_law_pen_here", "_law_items"] ["_law_pen_here", "_law_items"] (defScope s__law_pick) := ⟨rfl, rfl, rfl, by decide +kernel, rfl, by decide +kernel, by decide +kernel⟩
abbrev s__law_number : Stmt := top 42
theorem sc__law_number : FnScope ["_law_pen_here"] ["_law_pen_here"] (defScope s__law_number) := ⟨rfl, rfl, rfl, by decide +kernel, rfl, by decide +kernel, by decide +kernel⟩
abbrev s__law_way : Stmt := top 43
theorem sc__law_way : FnScope ["_law_pen_here"] ["_law_pen_here"] (defScope s__law_way) := ⟨rfl, rfl, rfl, by decide +kernel, rfl, by decide +kernel, by decide +kernel⟩
abbrev s__law_rows : Stmt := top 44
theorem sc__law_rows : FnScope ["_law_pen_here", "_law_most", "_law_words", "_law_rows_here", "_law_before", "_law_many", "_law_k", "_law_unit", "_law_word", "_law_row"] ["_law_pen_here", "_law_most", "_law_words"] (defScope s__law_rows) := ⟨rfl, rfl, rfl, by decide +kernel, rfl, by decide +kernel, by decide +kernel⟩
abbrev s__law_times : Stmt := top 45
theorem sc__law_times : FnScope ["_law_rows_here", "_law_factor", "_law_found", "_law_until", "_law_unit", "_law_way_here", "_law_word"] ["_law_rows_here", "_law_factor"] (defScope s__law_times) := ⟨rfl, rfl, rfl, by decide +kernel, rfl, by decide +kernel, by decide +kernel⟩
abbrev s__law_made : Stmt := top 46
theorem sc__law_made : FnScope ["_law_rows_here", "_law_until", "_law_unit", "_law_way_here", "_law_word"] ["_law_rows_here"] (defScope s__law_made) := ⟨rfl, rfl, rfl, by decide +kernel, rfl, by decide +kernel, by decide +kernel⟩
abbrev s__law_count : Stmt := top 47
theorem sc__law_count : FnScope ["_law_unit", "_law_way_here", "_law_age"] ["_law_unit", "_law_way_here", "_law_age"] (defScope s__law_count) := ⟨rfl, rfl, rfl, by decide +kernel, rfl, by decide +kernel, by decide +kernel⟩
abbrev s__law_row_of : Stmt := top 48
theorem sc__law_row_of : FnScope ["_law_rows_here", "_law_age", "_law_k"] ["_law_rows_here", "_law_age"] (defScope s__law_row_of) := ⟨rfl, rfl, rfl, by decide +kernel, rfl, by decide +kernel, by decide +kernel⟩
abbrev s__law_label : Stmt := top 49
theorem sc__law_label : FnScope ["_law_rows_here", "_law_age", "_law_until", "_law_unit", "_law_way_here", "_law_word"] ["_law_rows_here", "_law_age"] (defScope s__law_label) := ⟨rfl, rfl, rfl, by decide +kernel, rfl, by decide +kernel, by decide +kernel⟩
abbrev s__law_first_other : Stmt := top 50
theorem sc__law_first_other : FnScope ["_law_rows_here", "_law_low", "_law_high", "_law_label_here", "_law_turn", "_law_middle"] ["_law_rows_here", "_law_low", "_law_high"] (defScope s__law_first_other) := ⟨rfl, rfl, rfl, by decide +kernel, rfl, by decide +kernel, by decide +kernel⟩
abbrev s__law_later : Stmt := top 51
theorem sc__law_later : FnScope ["_law_rows_here", "_law_age", "_law_k", "_law_until", "_law_unit", "_law_way_here", "_law_word", "_law_high"] ["_law_rows_here", "_law_age"] (defScope s__law_later) := ⟨rfl, rfl, rfl, by decide +kernel, rfl, by decide +kernel, by decide +kernel⟩
abbrev s__law_last : Stmt := top 52
theorem sc__law_last : FnScope ["_law_rows_here", "_law_age", "_law_k", "_law_low", "_law_unit", "_law_begin"] ["_law_rows_here", "_law_age"] (defScope s__law_last) := ⟨rfl, rfl, rfl, by decide +kernel, rfl, by decide +kernel, by decide +kernel⟩
abbrev s__law_last_within : Stmt := top 53
theorem sc__law_last_within : FnScope ["_law_rows_here", "_law_low", "_law_age", "_law_label_here", "_law_high", "_law_turn", "_law_middle"] ["_law_rows_here", "_law_low", "_law_age"] (defScope s__law_last_within) := ⟨rfl, rfl, rfl, by decide +kernel, rfl, by decide +kernel, by decide +kernel⟩
abbrev s__law_is_stretch_right : Stmt := top 54
theorem sc__law_is_stretch_right : FnScope ["_law_wording", "_law_rows_here", "_law_age", "_law_last_here", "_law_later_here"] ["_law_wording", "_law_rows_here", "_law_age"] (defScope s__law_is_stretch_right) := ⟨rfl, rfl, rfl, by decide +kernel, rfl, by decide +kernel, by decide +kernel⟩
abbrev s__law_is_run_right : Stmt := top 55
theorem sc__law_is_run_right : FnScope ["_law_wording", "_law_age", "_law_here", "_law_many", "_law_turn", "_law_ahead"] ["_law_wording", "_law_age"] (defScope s__law_is_run_right) := ⟨rfl, rfl, rfl, by decide +kernel, rfl, by decide +kernel, by decide +kernel⟩
abbrev s_law : Stmt := top 56
theorem sc_law : FnScope ["_law_script", "_law_pen_here", "_law_turn", "_law_rows_here", "_law_wording", "_law_asked", "_law_age", "_law_other", "_law_until", "_law_unit", "_law_way_here", "_law_word"] ["_law_script"] (defScope s_law) := ⟨rfl, rfl, rfl, by decide +kernel, rfl, by decide +kernel, by decide +kernel⟩
end Age

set_option Elab.async false
set_option linter.all false
set_option maxRecDepth 100000
set_option maxHeartbeats 2000000
namespace Age
open PySem PySem.Spec PyProof.Rows L2 Evl
/-! ### rounding -/
def shiftOf (u : Int) (w : Str) : Int := if w = "down" then 0 else if w = "up" then u - 1 else u / 2
def cnt (n u : Int) (w : Str) : Int := (n + shiftOf u w) / u
def fst (c u : Int) (w : Str) : Int := c * u - shiftOf u w
theorem shiftOf_bd {u : Int} (w : Str) (h : 0 < u) : 0 ≤ shiftOf u w ∧ shiftOf u w < u := by
  unfold shiftOf
  split
  · omega
  split
  · omega
  · omega
def spShift : Sp := fun vs H Q _ => ∃ (u : Int) (w : Str), vs = [.int u, .str w] ∧ RetV (.int (shiftOf u w)) H Q
theorem spv_shift {u : Int} {w : Str} {H : Hp} : SpV spShift [.int u, .str w] H (.int (shiftOf u w)) := fun H1 e Q q E => ⟨u, w, rfl, q⟩
def spCounted : Sp := fun vs H Q _ => ∃ (n u : Int) (w : Str), vs = [.int n, .int u, .str w] ∧ 0 < u ∧ Sm u ∧ RetV (.int (cnt n u w)) H Q
theorem spv_counted {n u : Int} {w : Str} {H : Hp} (h : 0 < u) (h2 : Sm u) : SpV spCounted [.int n, .int u, .str w] H (.int (cnt n u w)) := fun H1 e Q q E => ⟨n, u, w, rfl, h, h2, q⟩
def spFirst : Sp := fun vs H Q _ => ∃ (c u : Int) (w : Str), vs = [.int c, .int u, .str w] ∧ Sm c ∧ Sm u ∧ RetV (.int (fst c u w)) H Q
theorem spv_first {c u : Int} {w : Str} {H : Hp} (h : Sm c) (h2 : Sm u) : SpV spFirst [.int c, .int u, .str w] H (.int (fst c u w)) := fun H1 e Q q E => ⟨c, u, w, rfl, h, h2, q⟩
section
variable {P : Program} {w : World} {K : PySem.W.Frag} {mg : Str → Option Value} {base : Heap}
theorem ok_shift {f : Addr} {fd : FuncData} (F : Fn K "shift_of" "shift_of" s_shift_of f fd) : FnOk P w K mg base CX0 1 f fd ["unit", "way"] spShift := by
  refine F.ok sc_shift_of (fun vs H Q E h => ?_) (fun cdv A outer s H vs Q E hr h => ?_)
  · obtain ⟨u, w, rfl, _⟩ := h; rfl
  · obtain ⟨u, w, rfl, k⟩ := h
    refine ⟨_, PSs.nox (pss_cons (ps_if (pt_cmpR op_eq (pv 1) pe_str (nomark _)) (pss_one (ps_ret pe_int)) pss_nil) (pss_cons (ps_if (pt_cmpR op_eq (pv 1) pe_str (nomark _)) (pss_one (ps_ret (pe_op op_sub (pv 0) pe_int))) pss_nil) (pss_one (ps_ret (pe_op op_fdivW (pv 0) pe_int))))), ?_⟩
    refine q_when (et_test (ev_op (ev_var rfl) ev_c (rv_eq rfl))) (fun hb H1 e1 => ?_) (fun hb H1 e1 => ?_)
    · have e : shiftOf u w = 0 := if_pos (V.str.inj (of_decide_eq_true hb))
      rw [e] at k
      exact s_ret ev_c fun H2 e2 => k H2 (e1.trans e2)
    · have n1 : ¬ w = "down" := fun z => of_decide_eq_false hb (by rw [z])
      refine q_when (et_test (ev_op (ev_var rfl) ev_c (rv_eq rfl))) (fun hb2 H2 e2 => ?_) (fun hb2 H2 e2 => ?_)
      · have e : shiftOf u w = u - 1 := by unfold shiftOf; rw [if_neg n1, if_pos (V.str.inj (of_decide_eq_true hb2))]
        rw [e] at k
        exact s_ret (ev_op (ev_var rfl) ev_c rv_I0) fun H3 e3 => k H3 ((e1.trans e2).trans e3)
      · have n2 : ¬ w = "up" := fun z => of_decide_eq_false hb2 (by rw [z])
        have e : shiftOf u w = u / 2 := by unfold shiftOf; rw [if_neg n1, if_neg n2]
        rw [e] at k
        exact s_ret (ev_op (ev_var rfl) ev_c (rv_I ⟨by decide, by decide⟩)) fun H3 e3 => k H3 ((e1.trans e2).trans e3)
theorem ok_counted {f : Addr} {fd : FuncData} (F : Fn K "counted" "counted" s_counted f fd) (c1 : Cal P w K mg base CX0 1 "shift_of" ["unit", "way"] spShift) : FnOk P w K mg base CX0 2 f fd ["number", "unit", "way"] spCounted := by
  obtain ⟨f1, fd1, G_shift_of, m_shift_of, k_shift_of, b_shift_of⟩ := c1.ex
  refine F.ok sc_counted (fun vs H Q E h => ?_) (fun cdv A outer s H vs Q E hr h => ?_)
  · obtain ⟨n, u, w, rfl, _⟩ := h; rfl
  · obtain ⟨n, u, w, rfl, hu, hs, k⟩ := h
    refine ⟨_, PSs.nox (pss_one (ps_ret (pe_op op_fdivW (pe_op op_add (pv 0) (pe_call G_shift_of (hr.mono (by decide)) rfl m_shift_of k_shift_of b_shift_of .nil pass0 (pa_cons (pv 1) (pa_cons (pv 2) pa_nil)))) (pv 1)))), ?_⟩
    exact s_ret (ev_op (ev_op (ev_var rfl) (ev_call (ea_cons (ev_var rfl) (ea_cons (ev_var rfl) ea_nil)) spv_shift) rv_I0) (ev_var rfl) (rv_I (hs.div hu))) k
theorem ok_first {f : Addr} {fd : FuncData} (F : Fn K "first_with" "first_with" s_first_with f fd) (c1 : Cal P w K mg base CX0 1 "shift_of" ["unit", "way"] spShift) : FnOk P w K mg base CX0 2 f fd ["count", "unit", "way"] spFirst := by
  obtain ⟨f1, fd1, G_shift_of, m_shift_of, k_shift_of, b_shift_of⟩ := c1.ex
  refine F.ok sc_first_with (fun vs H Q E h => ?_) (fun cdv A outer s H vs Q E hr h => ?_)
  · obtain ⟨n, u, w, rfl, _⟩ := h; rfl
  · obtain ⟨n, u, w, rfl, h1, h2, k⟩ := h
    refine ⟨_, PSs.nox (pss_one (ps_ret (pe_op op_sub (pe_op op_mulW (pv 0) (pv 1)) (pe_call G_shift_of (hr.mono (by decide)) rfl m_shift_of k_shift_of b_shift_of .nil pass0 (pa_cons (pv 1) (pa_cons (pv 2) pa_nil)))))), ?_⟩
    exact s_ret (ev_op (ev_op (ev_var rfl) (ev_var rfl) (rv_I (h1.mul h2))) (ev_call (ea_cons (ev_var rfl) (ea_cons (ev_var rfl) ea_nil)) spv_shift) rv_I0) k
end
end Age

set_option Elab.async false
set_option linter.all false
set_option maxRecDepth 100000
set_option maxHeartbeats 2000000
namespace Age
open PySem PySem.Spec PyProof.Rows L2 Evl
/-! ### what stands in the heap -/
structure RowD where
  til : Option Int
  unit : Option Int
  way : Str
  word : Str
structure SpanD where
  low : Int
  high : Option Int
  row : RowD
  fresh : Bool
def oV : Option Int → V
  | none => .non
  | some i => .int i
def rowF (r : RowD) : List (Str × V) := [("until", oV r.til), ("unit", oV r.unit), ("way", .str r.way), ("word", .str r.word)]
def spanF (s : SpanD) (q : Addr) : List (Str × V) := [("low", .int s.low), ("high", oV s.high), ("row", .ref q), ("is_fresh", .bl s.fresh)]
def wordF (a b : Addr) : List (Str × V) := [("rows", .ref a), ("spans", .ref b)]
def RowAt (cR : Addr) (H : Hp) (p : Addr) (r : RowD) : Prop := ∃ dx, H p = some (.ins cR dx (rowF r))
def SpanAt (cR cS : Addr) (H : Hp) (p : Addr) (s : SpanD) : Prop := ∃ dx q, H p = some (.ins cS dx (spanF s q)) ∧ RowAt cR H q s.row
theorem RowAt.mono {cR : Addr} {H H' : Hp} {p : Addr} {r : RowD} (e : Ex H H') (h : RowAt cR H p r) : RowAt cR H' p r := let ⟨dx, z⟩ := h; ⟨dx, e _ _ z⟩
theorem SpanAt.mono {cR cS : Addr} {H H' : Hp} {p : Addr} {r : SpanD} (e : Ex H H') (h : SpanAt cR cS H p r) : SpanAt cR cS H' p r := let ⟨dx, q, z, y⟩ := h; ⟨dx, q, e _ _ z, y.mono e⟩
/-- ages, untils, units: not too great -/
def Ag (i : Int) : Prop := 0 ≤ i ∧ i < 1361129467683753853853498429727072845824
theorem Ag.sm {i : Int} (h : Ag i) : Sm i := by unfold Ag at h; unfold Sm; omega
structure RowOk (r : RowD) : Prop where
  un : ∀ u, r.unit = some u → 0 < u ∧ Ag u
  wd : PyData.strOk r.word = true
/-! ### rules -/
section
variable {K : PySem.W.Frag} {σ : L2.St} {H : Hp} {ta tb te : TE} {x y v z : V} {a C dx : Addr} {fs : List (Str × V)} {f : Str}
theorem ev_meth {m : Str} {sp : Sp} {dvs vs : List V} {E : XK} {t : TA} (ha : Ev ta σ H (.ref a)) (h : H a = some (.ins C dx fs)) (l : fs.lookup m = none) (ht : EvA t σ H vs) (hs : SpV sp (.ref a :: (vs ++ dvs)) H z) : Ev (tMeth C m sp dvs E ta t) σ H z := fun H1 e Q q =>
  ha H1 e _ fun H2 e2 => ⟨a, dx, fs, rfl, (e.trans e2) a _ h, l, ht H2 (e.trans e2) _ fun H3 e3 => hs H3 ((e.trans e2).trans e3) Q (fun H4 e4 => q H4 ((e2.trans e3).trans e4)) E⟩
/-- a new object -/
def EvN (te : TE) (σ : L2.St) (H : Hp) (P : Addr → Hp → Prop) : Prop := ∀ H1, Ex H H1 → ∀ Q : VK, (∀ p H2, H1 p = none → Ex H1 H2 → P p H2 → Q (.ref p) H2) → te σ H1 Q
/-- an __init__'s promise: at a new instance, the attributes fs -/
def InitTo (sp : Sp) (C : Addr) (vs : List V) (H : Hp) (fs : List (Str × V)) : Prop := ∀ H1, Ex H H1 → ∀ (p dx : Addr), H1 p = some (.ins C dx []) → (H p = none) → ∀ (Q : VK) (E : XK), (∀ H2, (∀ b o, b ≠ p → H1 b = some o → H2 b = some o) → H2 p = some (.ins C dx fs) → Q .non H2) → sp (.ref p :: vs) H1 Q E
theorem en_make {sp : Sp} {vs dvs : List V} {E : XK} {t : TA} (ht : EvA t σ H vs) (hi : InitTo sp C (vs ++ dvs) H fs) : EvN (tMake C sp dvs E t) σ H (fun p H2 => ∃ dx, H2 p = some (.ins C dx fs)) := fun H1 e Q q =>
  ht H1 e _ fun H2 e2 p dx hp hdx hne => by
    have s0 : Ex H2 (upd (upd H2 dx (.own p)) p (.ins C dx [])) := (Ex.new hdx).trans (Ex.new (by rw [upd_ne hne.symm]; exact hp))
    refine hi _ ((e.trans e2).trans s0) p dx upd_same (fresh_back (e.trans e2) hp) _ _ fun H3 k h3 => ⟨rfl, q p H3 (fresh_back e2 hp) (fun b o hb => ?_) ⟨dx, h3⟩⟩
    have e3 := e2 b o hb
    exact k b o (ne_of_none e3 hp) (s0 b o e3)
theorem s_retN {P : Addr → Hp → Prop} {D : Ends} (h : EvN te σ H P) (k : ∀ p H1, H p = none → Ex H H1 → P p H1 → D.rt (.ref p) H1) : tRet te D σ H := h H (Ex.refl H) _ k
end
section
variable {P : Program} {w : World} {K : PySem.W.Frag} {mg : Str → Option Value} {base : Heap} {cR cS cW : Addr}
/-! ### Row.__init__, Span.__init__ -/
def spRowI (cR : Addr) : Sp := fun vs H Q _ => ∃ (p dx : Addr) (r : RowD), vs = [.ref p, oV r.til, oV r.unit, .str r.way, .str r.word] ∧ H p = some (.ins cR dx []) ∧ ∀ H2, (∀ b o, b ≠ p → H b = some o → H2 b = some o) → H2 p = some (.ins cR dx (rowF r)) → Q .non H2
theorem init_row {r : RowD} {H : Hp} : InitTo (spRowI cR) cR [oV r.til, oV r.unit, .str r.way, .str r.word] H (rowF r) := fun H1 e p dx h _ Q E k => ⟨p, dx, r, rfl, h, k⟩
theorem ok_row {f : Addr} {fd : FuncData} (F : Fn K "__init__" "Row.__init__" s_Row_init f fd) (T : Tx K mg cR cS cW) : FnOk P w K mg base CX0 1 f fd ["self", "until", "unit", "way", "word"] (spRowI cR) := by
  refine F.ok sc_Row_init (fun vs H Q E h => ?_) (fun cdv A outer s H vs Q E hr h => ?_)
  · obtain ⟨p, dx, r, rfl, _⟩ := h; rfl
  · obtain ⟨p, dx, r, rfl, h, k⟩ := h
    refine ⟨_, PSs.nox (pss_cons (ps_fld (pv 0) (pv 1) rfl) (pss_cons (ps_fld (pv 0) (pv 2) rfl) (pss_cons (ps_fld (pv 0) (pv 3) rfl) (pss_one (ps_fld (pv 0) (pv 4) rfl))))), ?_⟩
    refine ⟨_, rfl, _, rfl, p, cR, dx, _, rfl, h, T.row, T.r1, (by decide), _, rfl, _, rfl, p, cR, dx, _, rfl, upd_same, T.row, T.r2, (by show 1 < 1000; decide), _, rfl, _, rfl, p, cR, dx, _, rfl, upd_same, T.row, T.r3, (by show 2 < 1000; decide), _, rfl, _, rfl, p, cR, dx, _, rfl, upd_same, T.row, T.r4, (by show 3 < 1000; decide), ?_⟩
    refine k _ (fun b o hb z => ?_) upd_same
    rw [upd_ne hb, upd_ne hb, upd_ne hb, upd_ne hb]
    exact z
def spSpanI (cS : Addr) : Sp := fun vs H Q _ => ∃ (p dx q : Addr) (s : SpanD), vs = [.ref p, .int s.low, oV s.high, .ref q, .bl s.fresh] ∧ H p = some (.ins cS dx []) ∧ ∀ H2, (∀ b o, b ≠ p → H b = some o → H2 b = some o) → H2 p = some (.ins cS dx (spanF s q)) → Q .non H2
theorem init_span {s : SpanD} {q : Addr} {H : Hp} : InitTo (spSpanI cS) cS [.int s.low, oV s.high, .ref q, .bl s.fresh] H (spanF s q) := fun H1 e p dx h _ Q E k => ⟨p, dx, q, s, rfl, h, k⟩
theorem ok_spanI {f : Addr} {fd : FuncData} (F : Fn K "__init__" "Span.__init__" s_Span_init f fd) (T : Tx K mg cR cS cW) : FnOk P w K mg base CX0 1 f fd ["self", "low", "high", "row", "is_fresh"] (spSpanI cS) := by
  refine F.ok sc_Span_init (fun vs H Q E h => ?_) (fun cdv A outer s H vs Q E hr h => ?_)
  · obtain ⟨p, dx, q, r, rfl, _⟩ := h; rfl
  · obtain ⟨p, dx, q, r, rfl, h, k⟩ := h
    refine ⟨_, PSs.nox (pss_cons (ps_fld (pv 0) (pv 1) rfl) (pss_cons (ps_fld (pv 0) (pv 2) rfl) (pss_cons (ps_fld (pv 0) (pv 3) rfl) (pss_one (ps_fld (pv 0) (pv 4) rfl))))), ?_⟩
    refine ⟨_, rfl, _, rfl, p, cS, dx, _, rfl, h, T.span, T.s1, (by decide), _, rfl, _, rfl, p, cS, dx, _, rfl, upd_same, T.span, T.s2, (by show 1 < 1000; decide), _, rfl, _, rfl, p, cS, dx, _, rfl, upd_same, T.span, T.s3, (by show 2 < 1000; decide), _, rfl, _, rfl, p, cS, dx, _, rfl, upd_same, T.span, T.s4, (by show 3 < 1000; decide), ?_⟩
    refine k _ (fun b o hb z => ?_) upd_same
    rw [upd_ne hb, upd_ne hb, upd_ne hb, upd_ne hb]
    exact z
/-! ### count_in -/
def cntO (r : RowD) (n : Int) : Option Int := r.unit.map fun u => cnt n u r.way
def spCountIn (cR : Addr) : Sp := fun vs H Q _ => ∃ (p : Addr) (r : RowD) (n : Int), vs = [.ref p, .int n] ∧ RowAt cR H p r ∧ RowOk r ∧ RetV (oV (cntO r n)) H Q
theorem spv_countIn {p : Addr} {r : RowD} {n : Int} {H : Hp} (h : RowAt cR H p r) (o : RowOk r) : SpV (spCountIn cR) [.ref p, .int n] H (oV (cntO r n)) := fun H1 e Q q E => ⟨p, r, n, rfl, h.mono e, o, q⟩
theorem ok_countIn {f : Addr} {fd : FuncData} (F : Fn K "count_in" "count_in" s_count_in f fd) (T : Tx K mg cR cS cW) (c1 : Cal P w K mg base CX0 2 "counted" ["number", "unit", "way"] spCounted) : FnOk P w K mg base CX0 3 f fd ["row", "age"] (spCountIn cR) := by
  obtain ⟨f1, fd1, G_counted, m_counted, k_counted, b_counted⟩ := c1.ex
  refine F.ok sc_count_in (fun vs H Q E h => ?_) (fun cdv A outer s H vs Q E hr h => ?_)
  · obtain ⟨p, r, n, rfl, _⟩ := h; rfl
  · obtain ⟨p, ⟨til, unit, way, word⟩, n, rfl, ⟨dx, h⟩, o, k⟩ := h
    refine ⟨_, PSs.nox (pss_one (ps_ret (pe_ifExp (pt_cmp (pc_isN (pe_fld (pv 0) rfl))) pe_non (pe_call G_counted (hr.mono (by decide)) rfl m_counted k_counted b_counted .nil pass0 (pa_cons (pv 1) (pa_cons (pe_fld (pv 0) rfl) (pa_cons (pe_fld (pv 0) rfl) pa_nil))))))), ?_⟩
    have fu : Ev (tFld K (tVar 0) "unit") (start ["row", "age"] [.ref p, .int n]) H (oV unit) := ev_fld (ev_var rfl) h T.row T.r2 rfl
    have fw : Ev (tFld K (tVar 0) "way") (start ["row", "age"] [.ref p, .int n]) H (.str way) := ev_fld (ev_var rfl) h T.row T.r3 rfl
    cases unit with
    | none => exact s_ret (ev_if (et_B (ev_isN fu)) (fun _ => ev_c) (fun z => Bool.noConfusion z)) k
    | some u =>
      have ⟨u0, u1⟩ := o.un u rfl
      exact s_ret (ev_if (et_B (ev_isN fu)) (fun z => Bool.noConfusion z) (fun _ => ev_call (ea_cons (ev_var rfl) (ea_cons fu (ea_cons fw ea_nil))) (spv_counted u0 u1.sm))) k
end
end Age

set_option Elab.async false
set_option linter.all false
set_option maxRecDepth 100000
set_option maxHeartbeats 2000000
namespace Age
open PySem PySem.Spec PyProof.Rows L2 Evl
/-! ### the methods of Span -/
def limO (s : SpanD) (age : Int) : Int := match s.high with
  | none => age
  | some h => if h < age then h else age
def edgeAfter (s : SpanD) (age : Int) : Option Int := if s.fresh = true ∧ age < s.low then some s.low else match s.row.unit with
  | none => none
  | some u => match s.high with
    | none => some (fst (cnt (if s.low > age then s.low else age) u s.row.way + 1) u s.row.way)
    | some h => if fst (cnt (if s.low > age then s.low else age) u s.row.way + 1) u s.row.way ≤ h then some (fst (cnt (if s.low > age then s.low else age) u s.row.way + 1) u s.row.way) else none
def numUntil (s : SpanD) (age : Int) : Int := match s.row.unit with
  | none => if s.fresh = true then 1 else 0
  | some u => (if s.fresh = true then 1 else 0) + cnt (limO s age) u s.row.way - cnt s.low u s.row.way
def stretchWith (s : SpanD) (word : Str) (count : Option Int) : Option (Int × Option Int) :=
  if s.row.word = word then match s.row.unit, count with
    | none, none => some (s.low, s.high)
    | some u, some c => if (if fst c u s.row.way > s.low then fst c u s.row.way else s.low) ≤ limO s (fst (c + 1) u s.row.way - 1) then some (if fst c u s.row.way > s.low then fst c u s.row.way else s.low, some (limO s (fst (c + 1) u s.row.way - 1))) else none
    | _, _ => none
  else none
structure SpanOk (s : SpanD) : Prop where
  row : RowOk s.row
  lo : Ag s.low
  hi : ∀ h, s.high = some h → Ag h
theorem cnt_bd {n u : Int} (w : Str) (hn : 0 ≤ n) (hu : 0 < u) : 0 ≤ cnt n u w ∧ cnt n u w ≤ n + u := by
  have hs := shiftOf_bd w hu
  unfold cnt
  refine ⟨Int.ediv_nonneg (by omega) (by omega), ?_⟩
  have := Int.ediv_le_self (a := n + shiftOf u w) u (by omega)
  omega
theorem et_orT {σ : L2.St} {H : Hp} {t u : TT} (h1 : EvT t σ H true) : EvT (tOr t u) σ H true := fun H1 e Q q => h1 H1 e _ fun H2 e2 => q H2 e2
def spLimited (cR cS : Addr) : Sp := fun vs H Q _ => ∃ (p : Addr) (s : SpanD) (n : Int), vs = [.ref p, .int n] ∧ SpanAt cR cS H p s ∧ RetV (.int (limO s n)) H Q
theorem spv_limited {cR cS p : Addr} {s : SpanD} {n : Int} {H : Hp} (h : SpanAt cR cS H p s) : SpV (spLimited cR cS) [.ref p, .int n] H (.int (limO s n)) := fun H1 e Q q E => ⟨p, s, n, rfl, h.mono e, q⟩
def spEdgeAfter (cR cS : Addr) : Sp := fun vs H Q _ => ∃ (p : Addr) (s : SpanD) (n : Int), vs = [.ref p, .int n] ∧ SpanAt cR cS H p s ∧ SpanOk s ∧ Ag n ∧ RetV (oV (edgeAfter s n)) H Q
theorem spv_edgeAfter {cR cS p : Addr} {s : SpanD} {n : Int} {H : Hp} (h : SpanAt cR cS H p s) (o : SpanOk s) (hn : Ag n) : SpV (spEdgeAfter cR cS) [.ref p, .int n] H (oV (edgeAfter s n)) := fun H1 e Q q E => ⟨p, s, n, rfl, h.mono e, o, hn, q⟩
def spNumUntil (cR cS : Addr) : Sp := fun vs H Q _ => ∃ (p : Addr) (s : SpanD) (n : Int), vs = [.ref p, .int n] ∧ SpanAt cR cS H p s ∧ SpanOk s ∧ Ag n ∧ RetV (.int (numUntil s n)) H Q
theorem spv_numUntil {cR cS p : Addr} {s : SpanD} {n : Int} {H : Hp} (h : SpanAt cR cS H p s) (o : SpanOk s) (hn : Ag n) : SpV (spNumUntil cR cS) [.ref p, .int n] H (.int (numUntil s n)) := fun H1 e Q q E => ⟨p, s, n, rfl, h.mono e, o, hn, q⟩
/-- what a stretch comes back as: None, or a new pair -/
def RetS (o : Option (Int × Option Int)) (H : Hp) (Q : VK) : Prop := match o with
  | none => RetV .non H Q
  | some (lo, hi) => ∀ p H2, H p = none → Ex H H2 → H2 p = some (.tup [.int lo, oV hi]) → Q (.ref p) H2
theorem RetS.mono {o : Option (Int × Option Int)} {H H' : Hp} {Q : VK} (e : Ex H H') (h : RetS o H Q) : RetS o H' Q := by
  cases o with
  | none => exact fun H2 e2 => h H2 (e.trans e2)
  | some x => exact fun p H2 hp e2 hh => h p H2 (fresh_back e hp) (e.trans e2) hh
def Cok (count : Option Int) : Prop := ∀ c, count = some c → Sm c ∧ Sm (c + 1)
def spStretch (cR cS : Addr) : Sp := fun vs H Q _ => ∃ (p : Addr) (s : SpanD) (word : Str) (count : Option Int), vs = [.ref p, .str word, oV count] ∧ SpanAt cR cS H p s ∧ SpanOk s ∧ Cok count ∧ RetS (stretchWith s word count) H Q
section
variable {P : Program} {w : World} {K : PySem.W.Frag} {mg : Str → Option Value} {base : Heap} {cR cS cW : Addr}
theorem ok_limited {f : Addr} {fd : FuncData} (F : Fn K "limited" "Span.limited" s_Span_limited f fd) (T : Tx K mg cR cS cW) (B : Bn mg) : FnOk P w K mg base CX0 1 f fd ["self", "age"] (spLimited cR cS) := by
  refine F.ok sc_Span_limited (fun vs H Q E h => ?_) (fun cdv A outer s H vs Q E hr h => ?_)
  · obtain ⟨p, s, n, rfl, _⟩ := h; rfl
  · obtain ⟨p, ⟨lo, hi, row, fr⟩, n, rfl, ⟨dx, q, h, hr2⟩, k⟩ := h
    refine ⟨_, PSs.nox (pss_one (ps_ret (pe_ifExp (pt_cmp (pc_isN (pe_fld (pv 0) rfl))) (pv 1) (pe_callB (call_min2 rfl) (by rfl) B.min (by decide +kernel) (pa_cons (pv 1) (pa_cons (pe_fld (pv 0) rfl) pa_nil)))))), ?_⟩
    have fh : Ev (tFld K (tVar 0) "high") (start ["self", "age"] [.ref p, .int n]) H (oV hi) := ev_fld (ev_var rfl) h T.span T.s2 rfl
    cases hi with
    | none => exact s_ret (ev_if (et_B (ev_isN fh)) (fun _ => ev_var rfl) (fun z => Bool.noConfusion z)) k
    | some hh => exact s_ret (ev_if (et_B (ev_isN fh)) (fun z => Bool.noConfusion z) (fun _ => ev_min2 (ev_var rfl) fh)) k
theorem ok_edgeAfter {f : Addr} {fd : FuncData} (F : Fn K "edge_after" "Span.edge_after" s_Span_edge_after f fd) (T : Tx K mg cR cS cW) (B : Bn mg) (c1 : Cal P w K mg base CX0 3 "count_in" ["row", "age"] (spCountIn cR)) (c2 : Cal P w K mg base CX0 2 "first_with" ["count", "unit", "way"] spFirst) :
    FnOk P w K mg base CX0 4 f fd ["self", "age"] (spEdgeAfter cR cS) := by
  obtain ⟨f1, fd1, G_count_in, m_count_in, k_count_in, b_count_in⟩ := c1.ex
  obtain ⟨f2, fd2, G_first_with, m_first_with, k_first_with, b_first_with⟩ := c2.ex
  refine F.ok sc_Span_edge_after (fun vs H Q E h => ?_) (fun cdv A outer s H vs Q E hr h => ?_)
  · obtain ⟨p, s, n, rfl, _⟩ := h; rfl
  · obtain ⟨p, ⟨lo, hi, ⟨til, unit, way, word⟩, fr⟩, n, rfl, ⟨dx, q, h, ⟨dy, hr2⟩⟩, o, hn, k⟩ := h
    have olo : Ag lo := o.lo
    refine ⟨_, PSs.nox (pss_cons (ps_if (PW.pt (pw_and (pt_val (pe_fld (pv 0) rfl)) (pw_and1 (pt_cmpR op_lt (pv 1) (pe_fld (pv 0) rfl) (nomark _))))) (pss_one (ps_ret (pe_fld (pv 0) rfl))) pss_nil) (pss_cons (ps_if (pt_cmp (pc_isN (pe_fld (pe_fld (pv 0) rfl) rfl))) (pss_one (ps_ret pe_non)) pss_nil) (pss_cons (ps_set (i := 2) sc_Span_edge_after.nd rfl (Or.inl rfl) (pe_call G_count_in (hr.mono (by decide)) rfl m_count_in k_count_in b_count_in .nil pass0 (pa_cons (pe_fld (pv 0) rfl) (pa_cons (pe_callB (call_max2 rfl) (by rfl) B.max (by decide +kernel) (pa_cons (pv 1) (pa_cons (pe_fld (pv 0) rfl) pa_nil))) pa_nil)))) (pss_cons (ps_set (i := 3) sc_Span_edge_after.nd rfl (Or.inl rfl) (pe_call G_first_with (hr.mono (by decide)) rfl m_first_with k_first_with b_first_with .nil pass0 (pa_cons (pe_op op_add (pv 2) pe_int) (pa_cons (pe_fld (pe_fld (pv 0) rfl) rfl) (pa_cons (pe_fld (pe_fld (pv 0) rfl) rfl) pa_nil))))) (pss_one (ps_ret (pe_ifExp (PW.pt (pw_or (pt_cmp (pc_isN (pe_fld (pv 0) rfl))) (pw_or1 (pt_cmpR op_le (pv 3) (pe_fld (pv 0) rfl) (nomark _))))) (pv 3) pe_non))))))), ?_⟩
    have vl : ∀ σ, σ[0]? = some (some (V.ref p)) → Ev (tFld K (tVar 0) "low") σ H (.int lo) := fun σ hs => ev_fld (ev_var hs) h T.span T.s1 rfl
    have vh : ∀ σ, σ[0]? = some (some (V.ref p)) → Ev (tFld K (tVar 0) "high") σ H (oV hi) := fun σ hs => ev_fld (ev_var hs) h T.span T.s2 rfl
    have vf : ∀ σ, σ[0]? = some (some (V.ref p)) → Ev (tFld K (tVar 0) "is_fresh") σ H (.bl fr) := fun σ hs => ev_fld (ev_var hs) h T.span T.s4 rfl
    have vr : ∀ σ, σ[0]? = some (some (V.ref p)) → Ev (tFld K (tVar 0) "row") σ H (.ref q) := fun σ hs => ev_fld (ev_var hs) h T.span T.s3 rfl
    have vu : ∀ σ, σ[0]? = some (some (V.ref p)) → Ev (tFld K (tFld K (tVar 0) "row") "unit") σ H (oV unit) := fun σ hs => ev_fld (vr σ hs) hr2 T.row T.r2 rfl
    have vw : ∀ σ, σ[0]? = some (some (V.ref p)) → Ev (tFld K (tFld K (tVar 0) "row") "way") σ H (.str way) := fun σ hs => ev_fld (vr σ hs) hr2 T.row T.r3 rfl
    refine q_when (et_and (et_B (vf _ rfl)) (fun _ => et_test (ev_op (ev_var rfl) (vl _ rfl) rv_I0))) (fun hb H1 e1 => ?_) (fun hb H1 e1 => ?_)
    · have hb2 := Bool.and_eq_true_iff.mp hb
      have e : edgeAfter ⟨lo, hi, ⟨til, unit, way, word⟩, fr⟩ n = some lo := if_pos ⟨hb2.1, of_decide_eq_true hb2.2⟩
      rw [e] at k
      exact s_ret ((vl _ rfl).mono e1) fun H2 e2 => k H2 (e1.trans e2)
    · have ec : ¬ (fr = true ∧ n < lo) := fun z => by rw [z.1, decide_eq_true z.2] at hb; exact Bool.noConfusion hb
      have e : edgeAfter ⟨lo, hi, ⟨til, unit, way, word⟩, fr⟩ n = _ := if_neg ec
      rw [e] at k
      cases unit with
      | none =>
        refine q_when (et_B (ev_isN ((vu _ rfl).mono e1))) (fun hb H2 e2 => ?_) (fun hb => Bool.noConfusion hb)
        exact s_ret ev_c fun H3 e3 => k H3 ((e1.trans e2).trans e3)
      | some u =>
        have ⟨u0, u1⟩ := o.row.un u rfl
        refine q_when (et_B (ev_isN ((vu _ rfl).mono e1))) (fun hb => Bool.noConfusion hb) (fun hb H2 e2 => ?_)
        have e12 := e1.trans e2
        have om : 0 ≤ (if lo > n then lo else n) ∧ (if lo > n then lo else n) < 1361129467683753853853498429727072845824 := by
          unfold Ag at hn olo
          split <;> omega
        have hc := cnt_bd way om.1 u0
        have rA : RowAt cR H q ⟨til, some u, way, word⟩ := ⟨dy, hr2⟩
        refine q_asg (ev_call (ea_cons ((vr _ rfl).mono e12) (ea_cons (ev_max2 (ev_var rfl) ((vl _ rfl).mono e12)) ea_nil)) (spv_countIn (rA.mono e12) o.row)) (fun H3 e3 => ?_)
        have e13 := e12.trans e3
        refine q_asg (ev_call (ea_cons (ev_op (ev_var rfl) ev_c rv_I0) (ea_cons ((vu _ rfl).mono e13) (ea_cons ((vw _ rfl).mono e13) ea_nil))) (spv_first (show Sm (cnt (if lo > n then lo else n) u way + 1) by unfold Sm; unfold Ag at u1; omega) u1.sm)) (fun H4 e4 => ?_)
        have e14 := e13.trans e4
        cases hi with
        | none =>
          exact s_ret (ev_if (b := true) (et_orT (et_B (ev_isN ((vh _ rfl).mono e14)))) (fun _ => ev_var rfl) (fun z => Bool.noConfusion z)) fun H5 e5 => k H5 (e14.trans e5)
        | some hh =>
          refine s_ret (ev_if (et_or (et_B (ev_isN ((vh _ rfl).mono e14))) (fun _ => et_test (ev_op (ev_var rfl) ((vh _ rfl).mono e14) rv_I0))) (fun hb => ?_) (fun hb => ?_)) fun H5 e5 => k H5 (e14.trans e5)
          · have hb' : fst (cnt (if lo > n then lo else n) u way + 1) u way ≤ hh := of_decide_eq_true hb
            show Ev _ _ _ (oV (if _ then _ else _))
            rw [if_pos hb']
            exact ev_var rfl
          · have hb' : ¬ fst (cnt (if lo > n then lo else n) u way + 1) u way ≤ hh := of_decide_eq_false hb
            show Ev _ _ _ (oV (if _ then _ else _))
            rw [if_neg hb']
            exact ev_c
theorem ok_numUntil {f : Addr} {fd : FuncData} (F : Fn K "number_until" "Span.number_until" s_Span_number_until f fd) (T : Tx K mg cR cS cW) (B : Bn mg) (c1 : Cal P w K mg base CX0 3 "count_in" ["row", "age"] (spCountIn cR)) (c2 : Met P w K mg base CX0 1 cS "limited" ["self", "age"] (spLimited cR cS)) :
    FnOk P w K mg base CX0 4 f fd ["self", "age"] (spNumUntil cR cS) := by
  obtain ⟨f1, fd1, G_count_in, m_count_in, k_count_in, b_count_in⟩ := c1.ex
  obtain ⟨f2, fd2, G_Span_limited, M_Span_limited, b_Span_limited⟩ := c2.ex
  refine F.ok sc_Span_number_until (fun vs H Q E h => ?_) (fun cdv A outer s H vs Q E hr h => ?_)
  · obtain ⟨p, s, n, rfl, _⟩ := h; rfl
  · obtain ⟨p, ⟨lo, hi, ⟨til, unit, way, word⟩, fr⟩, n, rfl, sA, o, hn, k⟩ := h
    obtain ⟨dx, q, h, ⟨dy, hr2⟩⟩ := id sA
    refine ⟨_, PSs.nox (pss_cons (ps_set (i := 2) sc_Span_number_until.nd rfl (Or.inl rfl) (pe_ifExp (pt_val (pe_fld (pv 0) rfl)) pe_int pe_int)) (pss_cons (ps_if (pt_cmp (pc_isN (pe_fld (pe_fld (pv 0) rfl) rfl))) (pss_one (ps_ret (pv 2))) pss_nil) (pss_one (ps_ret (pe_op op_sub (pe_op op_add (pv 2) (pe_call G_count_in (hr.mono (by decide)) rfl m_count_in k_count_in b_count_in .nil pass0 (pa_cons (pe_fld (pv 0) rfl) (pa_cons (pe_meth (pv 0) T.span M_Span_limited G_Span_limited (hr.mono (by decide)) b_Span_limited .nil pass0 (pa_cons (pv 1) pa_nil)) pa_nil)))) (pe_call G_count_in (hr.mono (by decide)) rfl m_count_in k_count_in b_count_in .nil pass0 (pa_cons (pe_fld (pv 0) rfl) (pa_cons (pe_fld (pv 0) rfl) pa_nil)))))))), ?_⟩
    have vl : ∀ σ, σ[0]? = some (some (V.ref p)) → Ev (tFld K (tVar 0) "low") σ H (.int lo) := fun σ hs => ev_fld (ev_var hs) h T.span T.s1 rfl
    have vf : ∀ σ, σ[0]? = some (some (V.ref p)) → Ev (tFld K (tVar 0) "is_fresh") σ H (.bl fr) := fun σ hs => ev_fld (ev_var hs) h T.span T.s4 rfl
    have vr : ∀ σ, σ[0]? = some (some (V.ref p)) → Ev (tFld K (tVar 0) "row") σ H (.ref q) := fun σ hs => ev_fld (ev_var hs) h T.span T.s3 rfl
    have vu : ∀ σ, σ[0]? = some (some (V.ref p)) → Ev (tFld K (tFld K (tVar 0) "row") "unit") σ H (oV unit) := fun σ hs => ev_fld (vr σ hs) hr2 T.row T.r2 rfl
    refine q_asg (v := .int (if fr = true then 1 else 0)) (ev_if (et_B (vf _ rfl)) (fun hb => by rw [if_pos hb]; exact ev_c) (fun hb => by rw [if_neg (by rw [hb]; decide)]; exact ev_c)) (fun H1 e1 => ?_)
    have rA : RowAt cR H q ⟨til, unit, way, word⟩ := ⟨dy, hr2⟩
    cases unit with
    | none =>
      refine q_when (et_B (ev_isN ((vu _ rfl).mono e1))) (fun hb H2 e2 => ?_) (fun hb => Bool.noConfusion hb)
      exact s_ret (ev_var rfl) fun H3 e3 => k H3 ((e1.trans e2).trans e3)
    | some u =>
      refine q_when (et_B (ev_isN ((vu _ rfl).mono e1))) (fun hb => Bool.noConfusion hb) (fun hb H2 e2 => ?_)
      have e12 := e1.trans e2
      refine s_ret (ev_op (ev_op (ev_var rfl) (ev_call (ea_cons ((vr _ rfl).mono e12) (ea_cons (ev_meth (ev_var rfl) (e12 _ _ h) rfl (ea_cons (ev_var rfl) ea_nil) (spv_limited (sA.mono e12))) ea_nil)) (spv_countIn (rA.mono e12) o.row)) rv_I0) (ev_call (ea_cons ((vr _ rfl).mono e12) (ea_cons ((vl _ rfl).mono e12) ea_nil)) (spv_countIn (rA.mono e12) o.row)) rv_I0) fun H3 e3 => k H3 (e12.trans e3)
theorem ok_stretch {f : Addr} {fd : FuncData} (F : Fn K "stretch_with" "Span.stretch_with" s_Span_stretch_with f fd) (T : Tx K mg cR cS cW) (B : Bn mg) (c1 : Cal P w K mg base CX0 2 "first_with" ["count", "unit", "way"] spFirst) (c2 : Met P w K mg base CX0 1 cS "limited" ["self", "age"] (spLimited cR cS)) :
    FnOk P w K mg base CX0 3 f fd ["self", "word", "count"] (spStretch cR cS) := by
  obtain ⟨f1, fd1, G_first_with, m_first_with, k_first_with, b_first_with⟩ := c1.ex
  obtain ⟨f2, fd2, G_Span_limited, M_Span_limited, b_Span_limited⟩ := c2.ex
  refine F.ok sc_Span_stretch_with (fun vs H Q E h => ?_) (fun cdv A outer s H vs Q E hr h => ?_)
  · obtain ⟨p, s, wd, n, rfl, _⟩ := h; rfl
  · obtain ⟨p, ⟨lo, hi, ⟨til, unit, way, word⟩, fr⟩, wd, count, rfl, sA, o, hn, k⟩ := h
    obtain ⟨dx, q, h, ⟨dy, hr2⟩⟩ := id sA
    refine ⟨_, PSs.nox (pss_cons (ps_if (PW.pt (pw_or (pt_cmpR op_ne (pe_fld (pe_fld (pv 0) rfl) rfl) (pv 1) (nomark _)) (pw_or1 (pt_cmpR op_ne (pe_cmp (pc_isN (pe_fld (pe_fld (pv 0) rfl) rfl)) rfl) (pe_cmp (pc_isN (pv 2)) rfl) (nomark _))))) (pss_one (ps_ret pe_non)) pss_nil) (pss_cons (ps_if (pt_cmp (pc_isN (pv 2))) (pss_one (ps_ret (pe_tup (pa_cons (pe_fld (pv 0) rfl) (pa_cons (pe_fld (pv 0) rfl) pa_nil))))) pss_nil) (pss_cons (ps_set (i := 3) sc_Span_stretch_with.nd rfl (Or.inl rfl) (pe_callB (call_max2 rfl) (by rfl) B.max (by decide +kernel) (pa_cons (pe_fld (pv 0) rfl) (pa_cons (pe_call G_first_with (hr.mono (by decide)) rfl m_first_with k_first_with b_first_with .nil pass0 (pa_cons (pv 2) (pa_cons (pe_fld (pe_fld (pv 0) rfl) rfl) (pa_cons (pe_fld (pe_fld (pv 0) rfl) rfl) pa_nil)))) pa_nil)))) (pss_cons (ps_set (i := 4) sc_Span_stretch_with.nd rfl (Or.inl rfl) (pe_meth (pv 0) T.span M_Span_limited G_Span_limited (hr.mono (by decide)) b_Span_limited .nil pass0 (pa_cons (pe_op op_sub (pe_call G_first_with (hr.mono (by decide)) rfl m_first_with k_first_with b_first_with .nil pass0 (pa_cons (pe_op op_add (pv 2) pe_int) (pa_cons (pe_fld (pe_fld (pv 0) rfl) rfl) (pa_cons (pe_fld (pe_fld (pv 0) rfl) rfl) pa_nil)))) pe_int) pa_nil))) (pss_one (ps_ret (pe_ifExp (pt_cmpR op_le (pv 3) (pv 4) (nomark _)) (pe_tup (pa_cons (pv 3) (pa_cons (pv 4) pa_nil))) pe_non))))))), ?_⟩
    have vl : ∀ σ, σ[0]? = some (some (V.ref p)) → Ev (tFld K (tVar 0) "low") σ H (.int lo) := fun σ hs => ev_fld (ev_var hs) h T.span T.s1 rfl
    have vh : ∀ σ, σ[0]? = some (some (V.ref p)) → Ev (tFld K (tVar 0) "high") σ H (oV hi) := fun σ hs => ev_fld (ev_var hs) h T.span T.s2 rfl
    have vr : ∀ σ, σ[0]? = some (some (V.ref p)) → Ev (tFld K (tVar 0) "row") σ H (.ref q) := fun σ hs => ev_fld (ev_var hs) h T.span T.s3 rfl
    have vu : ∀ σ, σ[0]? = some (some (V.ref p)) → Ev (tFld K (tFld K (tVar 0) "row") "unit") σ H (oV unit) := fun σ hs => ev_fld (vr σ hs) hr2 T.row T.r2 rfl
    have vw : ∀ σ, σ[0]? = some (some (V.ref p)) → Ev (tFld K (tFld K (tVar 0) "row") "way") σ H (.str way) := fun σ hs => ev_fld (vr σ hs) hr2 T.row T.r3 rfl
    have vo : ∀ σ, σ[0]? = some (some (V.ref p)) → Ev (tFld K (tFld K (tVar 0) "row") "word") σ H (.str word) := fun σ hs => ev_fld (vr σ hs) hr2 T.row T.r4 rfl
    refine q_when (et_or (et_test (ev_op (vo _ rfl) (ev_var rfl) (rv_ne rfl))) (fun _ => et_test (ev_op (ev_isN (vu _ rfl)) (ev_isN (ev_var rfl)) (rv_ne rfl)))) (fun hb H1 e1 => ?_) (fun hb H1 e1 => ?_)
    · have e : stretchWith ⟨lo, hi, ⟨til, unit, way, word⟩, fr⟩ wd count = none := by
        unfold stretchWith
        by_cases hw : word = wd
        · rw [if_pos hw]
          subst hw
          cases unit with
          | none =>
            cases count with
            | none => exact absurd hb (by simp)
            | some c => rfl
          | some u =>
            cases count with
            | none => rfl
            | some c => exact absurd hb (by simp [oV])
        · rw [if_neg hw]
      rw [e] at k
      exact s_ret ev_c fun H2 e2 => k H2 (e1.trans e2)
    · obtain ⟨hb1, hb2⟩ := Bool.or_eq_false_iff.mp hb
      have hw : word = wd := by
        have z : decide (V.str word = V.str wd) = true := by rw [Bool.not_eq_false'] at hb1; exact hb1
        exact V.str.inj (of_decide_eq_true z)
      subst hw
      cases unit with
      | none =>
        cases count with
        | some c => exact absurd hb2 (by simp [oV])
        | none =>
          refine q_when (et_B (ev_isN (ev_var rfl))) (fun hb H2 e2 => ?_) (fun hb => Bool.noConfusion hb)
          have e : stretchWith ⟨lo, hi, ⟨til, none, way, word⟩, fr⟩ word none = some (lo, hi) := if_pos rfl
          rw [e] at k
          have e12 := e1.trans e2
          exact s_retU (eu_tup (ea_cons ((vl _ rfl).mono e12) (ea_cons ((vh _ rfl).mono e12) ea_nil)) (by show 2 ≤ 100000; decide)) fun p H3 hp e3 h3 => k p H3 (fresh_back e12 hp) (e12.trans e3) h3
      | some u =>
        cases count with
        | none => exact absurd hb2 (by simp [oV])
        | some c =>
          have ⟨u0, u1⟩ := o.row.un u rfl
          have ⟨c1, c2⟩ := hn c rfl
          refine q_when (et_B (ev_isN (ev_var rfl))) (fun hb => Bool.noConfusion hb) (fun hb H2 e2 => ?_)
          have e12 := e1.trans e2
          refine q_asg (ev_max2 ((vl _ rfl).mono e12) (ev_call (ea_cons (ev_var rfl) (ea_cons ((vu _ rfl).mono e12) (ea_cons ((vw _ rfl).mono e12) ea_nil))) (spv_first c1 u1.sm))) (fun H3 e3 => ?_)
          have e13 := e12.trans e3
          refine q_asg (ev_meth (ev_var rfl) (e13 _ _ h) rfl (ea_cons (ev_op (ev_call (ea_cons (ev_op (ev_var rfl) ev_c rv_I0) (ea_cons ((vu _ rfl).mono e13) (ea_cons ((vw _ rfl).mono e13) ea_nil))) (spv_first c2 u1.sm)) ev_c rv_I0) ea_nil) (spv_limited (sA.mono e13))) (fun H4 e4 => ?_)
          have e14 := e13.trans e4
          have e : stretchWith ⟨lo, hi, ⟨til, some u, way, word⟩, fr⟩ word (some c) = _ := if_pos rfl
          rw [e] at k
          by_cases hc : (if fst c u way > lo then fst c u way else lo) ≤ limO ⟨lo, hi, ⟨til, some u, way, word⟩, fr⟩ (fst (c + 1) u way - 1)
          · have k' : RetS (if _ then _ else _) H Q := k
            rw [if_pos hc] at k'
            refine (et_test (ev_op (ev_var rfl) (ev_var rfl) rv_I0)) H4 (Ex.refl H4) _ fun H5 e5 => ?_
            rw [if_pos (decide_eq_true hc)]
            exact (eu_tup (ea_cons (ev_var rfl) (ea_cons (ev_var rfl) ea_nil)) (by show 2 ≤ 100000; decide)) H5 (Ex.refl H5) _ fun p H6 hp e6 h6 => k' p H6 (fresh_back (e14.trans e5) hp) ((e14.trans e5).trans e6) h6
          · have k' : RetS (if _ then _ else _) H Q := k
            rw [if_neg hc] at k'
            refine (et_test (ev_op (ev_var rfl) (ev_var rfl) rv_I0)) H4 (Ex.refl H4) _ fun H5 e5 => ?_
            rw [if_neg (by rw [decide_eq_false hc]; decide)]
            exact k' H5 (e14.trans e5)
end
end Age

set_option Elab.async false
set_option linter.all false
set_option maxRecDepth 100000
set_option maxHeartbeats 4000000
namespace Age
open PySem PySem.Spec PyProof.Rows L2 Evl
/-! ### the rows of a wording, its spans -/
def RowsAt (cR : Addr) (H : Hp) (xs : List V) (rows : List RowD) : Prop := xs.length = rows.length ∧ ∀ (i : Nat) (r : RowD), rows[i]? = some r → ∃ p, xs[i]? = some (V.ref p) ∧ RowAt cR H p r
def SpansAt (cR cS : Addr) (H : Hp) (xs : List V) (ss : List SpanD) : Prop := xs.length = ss.length ∧ ∀ (i : Nat) (s : SpanD), ss[i]? = some s → ∃ p, xs[i]? = some (V.ref p) ∧ SpanAt cR cS H p s
theorem RowsAt.mono {cR : Addr} {H H' : Hp} {xs : List V} {rows : List RowD} (e : Ex H H') (h : RowsAt cR H xs rows) : RowsAt cR H' xs rows := ⟨h.1, fun i r q => let ⟨p, a, b⟩ := h.2 i r q; ⟨p, a, b.mono e⟩⟩
theorem SpansAt.mono {cR cS : Addr} {H H' : Hp} {xs : List V} {ss : List SpanD} (e : Ex H H') (h : SpansAt cR cS H xs ss) : SpansAt cR cS H' xs ss := ⟨h.1, fun i r q => let ⟨p, a, b⟩ := h.2 i r q; ⟨p, a, b.mono e⟩⟩
theorem at_rel {α : Type} {xs : List V} {L : List α} {i : Nat} {x : V} (hl : xs.length = L.length) (h : xs[i]? = some x) : ∃ a, L[i]? = some a :=
  ⟨_, List.getElem?_eq_getElem (by rw [← hl]; exact (List.getElem?_eq_some_iff.mp h).1)⟩
theorem RowsAt.get {cR : Addr} {H : Hp} {xs : List V} {rows : List RowD} (h : RowsAt cR H xs rows) {i : Nat} {x : V} (hx : xs[i]? = some x) : ∃ p r, x = .ref p ∧ rows[i]? = some r ∧ RowAt cR H p r := by
  obtain ⟨r, hr⟩ := at_rel h.1 hx
  obtain ⟨p, hp, ha⟩ := h.2 i r hr
  rw [hx] at hp
  exact ⟨p, r, Option.some.inj hp, hr, ha⟩
theorem SpansAt.get {cR cS : Addr} {H : Hp} {xs : List V} {ss : List SpanD} (h : SpansAt cR cS H xs ss) {i : Nat} {x : V} (hx : xs[i]? = some x) : ∃ p r, x = .ref p ∧ ss[i]? = some r ∧ SpanAt cR cS H p r := by
  obtain ⟨r, hr⟩ := at_rel h.1 hx
  obtain ⟨p, hp, ha⟩ := h.2 i r hr
  rw [hx] at hp
  exact ⟨p, r, Option.some.inj hp, hr, ha⟩
/-- untils that rise from b on, none behind the last -/
inductive UOk : Int → List RowD → Prop
  | last {b : Int} {r : RowD} : r.til = none → UOk b [r]
  | more {b t : Int} {r : RowD} {rs : List RowD} : r.til = some t → b < t → UOk t rs → UOk b (r :: rs)
theorem UOk.ne {b : Int} {rs : List RowD} (h : UOk b rs) : rs ≠ [] := by cases h <;> simp
structure RowsOk (rows : List RowD) : Prop where
  u : UOk 0 rows
  r : ∀ r ∈ rows, RowOk r ∧ ∀ t, r.til = some t → Ag t
  n : rows.length ≤ 1000
theorem RowsOk.at_ {rows : List RowD} (h : RowsOk rows) {i : Nat} {r : RowD} (hi : rows[i]? = some r) : RowOk r ∧ ∀ t, r.til = some t → Ag t := h.r r (List.mem_of_getElem? hi)
def spansFrom : Int → Option (Str × Option Int) → List RowD → List SpanD
  | _, _, [] => []
  | low, shown, r :: rs => match r.til with
    | none => ⟨low, none, r, decide (0 < low) && !decide (some (r.word, cntO r low) = shown)⟩ :: spansFrom low shown rs
    | some t => ⟨low, some (t - 1), r, decide (0 < low) && !decide (some (r.word, cntO r low) = shown)⟩ :: spansFrom t (some (r.word, cntO r (t - 1))) rs
def WordAt (cR cS cW : Addr) (H : Hp) (p : Addr) (rows : List RowD) : Prop := ∃ dx ta tb xs ys, H p = some (.ins cW dx (wordF ta tb)) ∧ H ta = some (.tup xs) ∧ RowsAt cR H xs rows ∧ H tb = some (.tup ys) ∧ SpansAt cR cS H ys (spansFrom 0 none rows)
theorem WordAt.mono {cR cS cW : Addr} {H H' : Hp} {p : Addr} {rows : List RowD} (e : Ex H H') (h : WordAt cR cS cW H p rows) : WordAt cR cS cW H' p rows :=
  let ⟨dx, ta, tb, xs, ys, a, b, c, d, f⟩ := h; ⟨dx, ta, tb, xs, ys, e _ _ a, e _ _ b, c.mono e, e _ _ d, f.mono e⟩
section
variable {K : PySem.W.Frag} {σ : L2.St} {H : Hp} {ta te : TE} {D : Ends} {tz : TS}
theorem s_appN {l : Addr} {xs : List V} {P : Addr → Hp → Prop} (hl : H l = some (.lst xs)) (ha : Ev ta σ H (.ref l)) (h : EvN te σ H P) (hz : xs.length < 100000) (k : ∀ p H1, H p = none → Ex H H1 → P p H1 → D.nx σ (upd H1 l (.lst (xs ++ [.ref p])))) :
    tDrop (tBM K "list" rAppend ta (tCons te tNil)) D σ H := ha H (Ex.refl H) _ fun H1 e1 =>
  ⟨Or.inl ⟨rfl, xs, sq_of (e1 l _ hl)⟩, h H1 e1 _ fun p H2 hp e2 h2 => ⟨l, xs, .ref p, rfl, rfl, e2 l _ (e1 l _ hl), sz_lt hz, k p H2 (fresh_back e1 hp) (e1.trans e2) h2⟩⟩
theorem q_appN {l : Addr} {xs : List V} {P : Addr → Hp → Prop} (hl : H l = some (.lst xs)) (ha : Ev ta σ H (.ref l)) (h : EvN te σ H P) (hz : xs.length < 100000) (k : ∀ p H1, H p = none → Ex H H1 → P p H1 → tz D σ (upd H1 l (.lst (xs ++ [.ref p])))) :
    tSeq (tDrop (tBM K "list" rAppend ta (tCons te tNil))) tz D σ H := s_appN (D := { D with nx := tz D }) hl ha h hz k
end
/-! ### promises -/
def spDemand : Sp := fun vs H Q _ => ∃ n : Int, vs = [.int n] ∧ 0 ≤ n ∧ RetV .non H Q
theorem spv_demand {n : Int} {H : Hp} (h : 0 ≤ n) : SpV spDemand [.int n] H .non := fun H1 e Q q E => ⟨n, rfl, h, q⟩
def spCheck (cR : Addr) : Sp := fun vs H Q _ => ∃ (a : Addr) (xs : List V) (rows : List RowD), vs = [.ref a] ∧ H a = some (.tup xs) ∧ RowsAt cR H xs rows ∧ RowsOk rows ∧ RetV .non H Q
theorem spv_check {cR a : Addr} {xs : List V} {rows : List RowD} {H : Hp} (h : H a = some (.tup xs)) (hr : RowsAt cR H xs rows) (o : RowsOk rows) : SpV (spCheck cR) [.ref a] H .non := fun H1 e Q q E => ⟨a, xs, rows, rfl, e _ _ h, hr.mono e, o, q⟩
def spSpans (cR cS : Addr) : Sp := fun vs H Q _ => ∃ (a : Addr) (xs : List V) (rows : List RowD), vs = [.ref a] ∧ H a = some (.tup xs) ∧ RowsAt cR H xs rows ∧ RowsOk rows ∧
  ∀ p ys H2, H p = none → Ex H H2 → H2 p = some (.tup ys) → SpansAt cR cS H2 ys (spansFrom 0 none rows) → Q (.ref p) H2
section
variable {P : Program} {w : World} {K : PySem.W.Frag} {mg : Str → Option Value} {base : Heap} {cR cS cW : Addr}
theorem ok_demand {f : Addr} {fd : FuncData} (F : Fn K "demand_age" "demand_age" s_demand_age f fd) : FnOk P w K mg base CX0 1 f fd ["age"] spDemand := by
  refine F.ok sc_demand_age (fun vs H Q E h => ?_) (fun cdv A outer s H vs Q E hr h => ?_)
  · obtain ⟨n, rfl, _⟩ := h; rfl
  · obtain ⟨n, rfl, h0, k⟩ := h
    refine ⟨_, PSs.nox (pss_one (ps_if (pt_cmpR op_lt (pv 0) pe_int (nomark _)) (pss_one ps_never) pss_nil)), ?_⟩
    exact s_when (et_test (ev_op (ev_var rfl) ev_c rv_I0)) (fun hb _ _ => absurd (of_decide_eq_true hb) (by omega)) (fun hb H1 e1 => k H1 e1)
theorem ok_check {f : Addr} {fd : FuncData} (F : Fn K "check_untils" "check_untils" s_check_untils f fd) (T : Tx K mg cR cS cW) (B : Bn mg) : FnOk P w K mg base CX0 1 f fd ["rows"] (spCheck cR) := by
  refine F.ok sc_check_untils (fun vs H Q E h => ?_) (fun cdv A outer s H vs Q E hr h => ?_)
  · obtain ⟨a, xs, rows, rfl, _⟩ := h; rfl
  · obtain ⟨a, xs, rows, rfl, ha, hR, ok, k⟩ := h
    refine ⟨_, PSs.nox (pss_cons (ps_set (i := 1) sc_check_untils.nd rfl (Or.inl rfl) pe_int) (pss_one (ps_for PassesOwn.never rfl (pi_enumT (by rfl) B.enumerate (pa_cons (pv 0) pa_nil)) (pg_tup rfl (pgs_cons (pg_name (i := 2) sc_check_untils.nd rfl (Or.inl rfl)) (pgs_cons (pg_name (i := 3) sc_check_untils.nd rfl (Or.inl rfl)) pgs_nil))) (pss_cons (ps_set (i := 4) sc_check_untils.nd rfl (Or.inl rfl) (pe_cmpR op_eq (pv 2) (pe_op op_sub (pe_callB call_len_seq (by rfl) B.len (by decide +kernel) (pa_cons (pv 0) pa_nil)) pe_int) (nomark _))) (pss_cons (ps_if (pt_cmpR op_ne (pe_cmp (pc_isN (pe_fld (pv 3) rfl)) rfl) (pv 4) (nomark _)) (pss_one ps_never) pss_nil) (pss_cons (ps_if (PW.pt (pw_and (pt_not (pt_val (pv 4))) (pw_and1 (pt_cmpR op_le (pe_fld (pv 3) rfl) (pv 1) (nomark _))))) (pss_one ps_never) pss_nil) (pss_one (ps_set (i := 1) sc_check_untils.nd rfl (Or.inl rfl) (pe_fld (pv 3) rfl))))))))), ?_⟩
    refine q_asg ev_c fun H1 e1 => ?_
    refine for_enumT (xs := xs) (a := a) (ea_cons (ev_var rfl) ea_nil) (st_of (e1 _ _ ha)) (fun i σ H' => Ex H H' ∧ (i < xs.length → ∃ b v2 v3 v4, σ = [some (.ref a), some (.int b), v2, v3, v4] ∧ UOk b (rows.drop i))) (fun H2 e2 => ⟨e1.trans e2, fun _ => ⟨0, none, none, none, rfl, ok.u⟩⟩)
      (fun i σ' H' _ p => st_of (p.1 _ _ ha)) (fun i x σ' H' U hx p hU => ?_) (fun σ' H' p => k H' p.1)
    have hlt := (List.getElem?_eq_some_iff.mp hx).1
    obtain ⟨b, v2, v3, v4, rfl, hu⟩ := p.2 hlt
    obtain ⟨q, r, rfl, hri, rA⟩ := (hR.mono p.1).get hx
    obtain ⟨dx, rA⟩ := rA
    have e2 : Ex H' (upd H' U (.tup [.int (i : Nat), .ref q])) := Ex.new hU
    have fU : Ev (tFld K (tVar 3) "until") [some (.ref a), some (.int b), some (.int (i : Nat)), some (.ref q), v4] (upd H' U (.tup [.int (i : Nat), .ref q])) (oV r.til) := ev_fld (ev_var rfl) (e2 _ _ rA) T.row T.r1 rfl
    have eD : Ex H (upd H' U (.tup [.int (i : Nat), .ref q])) := p.1.trans e2
    refine ⟨U, _, rfl, st_of upd_same, rfl, _, _, rfl, _, _, rfl, rfl, ?_⟩
    refine q_asg (ev_op (ev_var rfl) (ev_op (ev_lenT (ev_var rfl) (st_of (eD _ _ ha))) ev_c rv_I0) (rv_eq rfl)) fun H2 e3 => ?_
    have fU2 : Ev (tFld K (tVar 3) "until") [some (.ref a), some (.int b), some (.int (i : Nat)), some (.ref q), some (.bl (decide (V.int (i : Nat) = V.int ((xs.length : Int) - 1))))] H2 (oV r.til) := ev_fld (ev_var rfl) (e3 _ _ (e2 _ _ rA)) T.row T.r1 rfl
    have hd : rows.drop i = r :: rows.drop (i + 1) := by
      have hl2 := (List.getElem?_eq_some_iff.mp hri)
      rw [List.drop_eq_getElem_cons hl2.1, hl2.2]
    rw [hd] at hu
    have hlen := hR.1
    generalize hrest : rows.drop (i + 1) = rest at hu
    cases hu with
    | last hn =>
      have hz : rows.drop (i + 1) = [] := hrest
      have hl3 : rows.length = i + 1 := by
        have h1 := List.length_drop (l := rows) (i := i + 1)
        rw [hz] at h1
        have h2 := (List.getElem?_eq_some_iff.mp hri).1
        simp at h1
        omega
      have hl : decide (V.int (i : Nat) = V.int ((xs.length : Int) - 1)) = true := decide_eq_true (by rw [show ((xs.length : Int) - 1) = (i : Nat) by omega])
      rw [hn, hl] at fU2
      rw [hl]
      refine q_when (et_test (ev_op (ev_isN fU2) (ev_var rfl) (rv_ne rfl))) (fun hb => Bool.noConfusion hb) (fun hb H3 e4 => ?_)
      refine q_when (et_and (b := false) (et_not (et_B (ev_var rfl))) (fun hb => Bool.noConfusion hb)) (fun hb => Bool.noConfusion hb) (fun hb H4 e5 => ?_)
      refine s_asg ((fU2.mono e4).mono e5) fun H5 e6 => ⟨(((eD.trans e3).trans e4).trans e5).trans e6, fun hlt2 => ?_⟩
      omega
    | more ht hbt hu2 =>
      rename_i t
      have hne := hu2.ne
      have hl3 : i + 1 < rows.length := by
        rcases Nat.lt_or_ge (i + 1) rows.length with h1 | h1
        · exact h1
        · exact absurd (hrest.symm.trans (List.drop_eq_nil_of_le h1)) hne
      have hl : decide (V.int (i : Nat) = V.int ((xs.length : Int) - 1)) = false := decide_eq_false (fun z => by have := V.int.inj z; omega)
      rw [ht, hl] at fU2
      rw [hl]
      refine q_when (et_test (ev_op (ev_isN fU2) (ev_var rfl) (rv_ne rfl))) (fun hb => Bool.noConfusion hb) (fun hb H3 e4 => ?_)
      refine q_when (et_and (et_not (et_B (ev_var rfl))) (fun _ => et_test (ev_op (fU2.mono e4) (ev_var rfl) rv_I0))) (fun hb => ?_) (fun hb H4 e5 => ?_)
      · have hb2 := (Bool.and_eq_true_iff.mp hb).2
        exact absurd (of_decide_eq_true hb2) (by omega)
      · refine s_asg ((fU2.mono e4).mono e5) fun H5 e6 => ⟨(((eD.trans e3).trans e4).trans e5).trans e6, fun _ => ⟨t, _, _, _, rfl, hu2⟩⟩
/-- what the name shown holds -/
def ShownAt (H : Hp) (v : V) : Option (Str × Option Int) → Prop
  | none => v = .non
  | some l => ∃ t, v = .ref t ∧ H t = some (.tup [.str l.1, oV l.2])
theorem dp_oV {K : PySem.W.Frag} {H : Hp} (o : Option Int) : Dp K H (oV o) (dO o) := by cases o <;> constructor
theorem dp_lab {K : PySem.W.Frag} {H : Hp} {t : Addr} {l : Str × Option Int} (h : H t = some (.tup [.str l.1, oV l.2])) : Dp K H (.ref t) (dL l) := .tup (st_of h) (.cons (.str _) (.cons (dp_oV _) .nil))
def dSh : Option (Str × Option Int) → PyData
  | none => .none
  | some l => dL l
theorem ShownAt.dp {K : PySem.W.Frag} {H : Hp} {v : V} {o : Option (Str × Option Int)} (h : ShownAt H v o) : Dp K H v (dSh o) := by
  cases o with
  | none => rw [show v = .non from h]; exact .non
  | some l =>
    obtain ⟨t, rfl, h⟩ := h
    exact dp_lab h
theorem ShownAt.mono {H H' : Hp} {v : V} {o : Option (Str × Option Int)} (e : Ex H H') (h : ShownAt H v o) : ShownAt H' v o := by
  cases o with
  | none => exact h
  | some l =>
    obtain ⟨t, rfl, h⟩ := h
    exact ⟨t, rfl, e _ _ h⟩
theorem eqv_sh (l : Str × Option Int) (o : Option (Str × Option Int)) : PyData.eqv (dL l) (dSh o) = decide (some l = o) := by
  cases o with
  | none => simp [dSh, dL, PyData.eqv]
  | some m => rw [show dSh (some m) = dL m from rfl, eqv_dL]; simp
theorem shaped_sh (o : Option (Str × Option Int)) (h : ∀ l, o = some l → PyData.strOk l.1 = true) : SeqAt.shaped (dSh o) = true := by
  cases o with
  | none => rfl
  | some l => exact shaped_dL l (h l rfl)
theorem SpansAt.snoc {cR cS : Addr} {H : Hp} {xs : List V} {ss : List SpanD} {p : Addr} {s : SpanD} (h : SpansAt cR cS H xs ss) (hp : SpanAt cR cS H p s) : SpansAt cR cS H (xs ++ [.ref p]) (ss ++ [s]) := by
  obtain ⟨h1, h2⟩ := h
  refine ⟨by simp [h1], fun i r hi => ?_⟩
  by_cases hlt : i < ss.length
  · rw [List.getElem?_append_left hlt] at hi
    obtain ⟨q, hq, hs⟩ := h2 i r hi
    exact ⟨q, by rw [List.getElem?_append_left (by omega)]; exact hq, hs⟩
  · rw [List.getElem?_append_right (by omega)] at hi
    have h0 : i - ss.length = 0 := by
      have := (List.getElem?_eq_some_iff.mp hi).1
      simp at this
      omega
    rw [h0] at hi
    have e : s = r := Option.some.inj hi
    subst e
    exact ⟨p, by rw [List.getElem?_append_right (by omega), h1, h0]; rfl, hp⟩
theorem spansFrom_snoc {low : Int} {shown : Option (Str × Option Int)} {r : RowD} {rs : List RowD} : spansFrom low shown (r :: rs) = ⟨low, r.til.map (· - 1), r, decide (0 < low) && !decide (some (r.word, cntO r low) = shown)⟩ :: spansFrom (r.til.getD low) (match r.til with | none => shown | some t => some (r.word, cntO r (t - 1))) rs := by
  cases h : r.til <;> simp [spansFrom, h]
theorem ok_spans {f : Addr} {fd : FuncData} (F : Fn K "spans_of" "spans_of" s_spans_of f fd) (T : Tx K mg cR cS cW) (B : Bn mg) (c1 : Cal P w K mg base CX0 3 "count_in" ["row", "age"] (spCountIn cR))
    (c2 : Mak P w K mg base CX0 1 cS ["self", "low", "high", "row", "is_fresh"] (spSpanI cS)) : FnOk P w K mg base CX0 4 f fd ["rows"] (spSpans cR cS) := by
  obtain ⟨f1, fd1, G_count_in, m_count_in, k_count_in, b_count_in⟩ := c1.ex
  obtain ⟨f2, fd2, G_Span_init, M_Span, b_Span_init⟩ := c2.ex
  refine F.ok sc_spans_of (fun vs H Q E h => ?_) (fun cdv A outer s H vs Q E hr h => ?_)
  · obtain ⟨a, xs, rows, rfl, _⟩ := h; rfl
  · obtain ⟨a, xs, rows, rfl, ha, hR, ok, k⟩ := h
    refine ⟨_, PSs.nox (pss_cons (ps_set (i := 1) sc_spans_of.nd rfl (Or.inl rfl) (pe_lst pa_nil)) (pss_cons (ps_set (i := 2) sc_spans_of.nd rfl (Or.inl rfl) pe_int) (pss_cons (ps_set (i := 3) sc_spans_of.nd rfl (Or.inl rfl) pe_non) (pss_cons (ps_for PassesOwn.never rfl (pi_tup (pv 0)) (pg_name (i := 4) sc_spans_of.nd rfl (Or.inl rfl)) (pss_cons (ps_set (i := 5) sc_spans_of.nd rfl (Or.inl rfl) (pe_tup (pa_cons (pe_fld (pv 4) rfl) (pa_cons (pe_call G_count_in (hr.mono (by decide)) rfl m_count_in k_count_in b_count_in .nil pass0 (pa_cons (pv 4) (pa_cons (pv 2) pa_nil))) pa_nil)))) (pss_cons (ps_set (i := 6) sc_spans_of.nd rfl (Or.inl rfl) (pe_and (pe_cmpR op_gt (pv 2) pe_int (nomark _)) (pe_one (pe_cmpR (op_neD hr.units) (pv 5) (pv 3) (nomark _))))) (pss_one (ps_if (pt_cmp (pc_isN (pe_fld (pv 4) rfl))) (pss_one (ps_expr (pe_bm PySem.F.plainAttrs_list PySem.F.slot_list_append PySem.F.type_list_append mt_append (pv 1) (pa_cons (pe_make M_Span G_Span_init (hr.mono (by decide)) rfl T.mgSpan b_Span_init .nil pass0 (pa_cons (pv 2) (pa_cons pe_non (pa_cons (pv 4) (pa_cons (pv 6) pa_nil))))) pa_nil)))) (pss_cons (ps_expr (pe_bm PySem.F.plainAttrs_list PySem.F.slot_list_append PySem.F.type_list_append mt_append (pv 1) (pa_cons (pe_make M_Span G_Span_init (hr.mono (by decide)) rfl T.mgSpan b_Span_init .nil pass0 (pa_cons (pv 2) (pa_cons (pe_op op_sub (pe_fld (pv 4) rfl) pe_int) (pa_cons (pv 4) (pa_cons (pv 6) pa_nil))))) pa_nil))) (pss_cons (ps_set (i := 3) sc_spans_of.nd rfl (Or.inl rfl) (pe_tup (pa_cons (pe_fld (pv 4) rfl) (pa_cons (pe_call G_count_in (hr.mono (by decide)) rfl m_count_in k_count_in b_count_in .nil pass0 (pa_cons (pv 4) (pa_cons (pe_op op_sub (pe_fld (pv 4) rfl) pe_int) pa_nil))) pa_nil)))) (pss_one (ps_set (i := 2) sc_spans_of.nd rfl (Or.inl rfl) (pe_fld (pv 4) rfl)))))))))) (pss_one (ps_ret (pe_callTy call_tuple_of (by rfl) B.tuple (by decide +kernel) (pa_cons (pv 1) pa_nil)))))))), ?_⟩
    refine q_asgL (el_lst ea_nil (by show 0 ≤ 100000; decide)) fun l H1 hl0 e1 hl => ?_
    refine q_asg ev_c fun H2 e2 => ?_
    refine q_asg ev_c fun H3 e3 => ?_
    have e13 := (e1.trans e2).trans e3
    refine q_forT (xs := xs) (a := a) (ev_var rfl) (st_of (e13 _ _ ha)) (fun i σ H' => ∃ low vsh shown done ys v4 v5 v6, σ = [some (.ref a), some (.ref l), some (.int low), some vsh, v4, v5, v6] ∧ Ex H H' ∧ H' l = some (.lst ys) ∧ SpansAt cR cS (wo l H') ys done ∧ ys.length = i ∧ ShownAt (wo l H') vsh shown ∧
        (∀ z, shown = some z → PyData.strOk z.1 = true) ∧ spansFrom 0 none rows = done ++ spansFrom low shown (rows.drop i))
      (fun H4 e4 => ⟨0, .non, none, [], [], none, none, none, rfl, e13.trans e4, e4 _ _ (e3 _ _ (e2 _ _ hl)), ⟨rfl, fun i s z => nomatch z⟩, rfl, rfl, (fun z hz => nomatch hz), rfl⟩)
      (fun i σ' H' _ p => by obtain ⟨_, _, _, _, _, _, _, _, _, e, _⟩ := p; exact st_of (e _ _ ha)) ?_ ?_
    · rintro i x σ' H' hx ⟨low, vsh, shown, done, ys, v4, v5, v6, rfl, eH, hl', hS, hyl, hsh, hso, hsp⟩
      obtain ⟨q, r, rfl, hri, rA⟩ := (hR.mono eH).get hx
      have ⟨or, ot⟩ := ok.at_ hri
      obtain ⟨dx, rA'⟩ := id rA
      have hln := ok.n
      have hlx := hR.1
      have hlt := (List.getElem?_eq_some_iff.mp hx).1
      -- the row's fields at any frame that holds it in slot 4
      have fU : ∀ σ H2, Ex H' H2 → σ[4]? = some (some (V.ref q)) → Ev (tFld K (tVar 4) "until") σ H2 (oV r.til) := fun σ H2 e hs => ev_fld (ev_var hs) (e _ _ rA') T.row T.r1 rfl
      have fW : ∀ σ H2, Ex H' H2 → σ[4]? = some (some (V.ref q)) → Ev (tFld K (tVar 4) "word") σ H2 (.str r.word) := fun σ H2 e hs => ev_fld (ev_var hs) (e _ _ rA') T.row T.r4 rfl
      show tSeq _ _ _ (List.set _ _ _) H'
      refine q_asgU (eu_tup (ea_cons (fW _ _ (Ex.refl _) rfl) (ea_cons (ev_call (ea_cons (ev_var rfl) (ea_cons (ev_var rfl) ea_nil)) (spv_countIn rA or)) ea_nil)) (by show 2 ≤ 100000; decide)) fun t H4 ht e4 hlab => ?_
      have hsh4 : ShownAt H4 vsh shown := hsh.mono (wo_sub.trans e4)
      have rvn := rv_neD (K := K) (dp_lab (l := (r.word, cntO r low)) hlab) hsh4.dp (shaped_dL _ or.wd) (shaped_sh _ hso)
      rw [eqv_sh] at rvn
      refine q_asg (ev_andV (ev_op (ev_var rfl) ev_c rv_I0) (fun _ => ev_op (ev_var rfl) (ev_var rfl) rvn)) fun H5 e5 => ?_
      have e45 := e4.trans e5
      have hsp2 := hsp
      rw [show rows.drop i = r :: rows.drop (i + 1) by
        have hl2 := (List.getElem?_eq_some_iff.mp hri)
        rw [List.drop_eq_getElem_cons hl2.1, hl2.2], spansFrom_snoc] at hsp2
      have hlenOk : ys.length < 100000 := by omega
      cases htil : r.til with
      | none =>
        rw [htil] at hsp2
        have fU' : ∀ σ H2, Ex H' H2 → σ[4]? = some (some (V.ref q)) → Ev (tFld K (tVar 4) "until") σ H2 .non := fun σ H2 e hs => by have z := fU σ H2 e hs; rw [htil] at z; exact z
        refine s_if (et_B (ev_isN (fU' _ _ e45 rfl))) (fun hb H6 e6 => ?_) (fun hb => Bool.noConfusion hb)
        have e46 := e45.trans e6
        refine s_appN (e46 _ _ hl') (ev_var rfl) (en_make (fs := spanF ⟨low, none, r, decide (0 < low) && !decide (some (r.word, cntO r low) = shown)⟩ q) (ea_cons (ev_var rfl) (ea_cons ev_c (ea_cons (ev_var rfl) (ea_cons (ev_var rfl) ea_nil)))) (init_span (s := ⟨low, none, r, _⟩))) hlenOk fun p H7 hp e7 hP => ?_
        have e47 := e46.trans e7
        have hw7 : Ex (wo l H') (wo l (upd H7 l (.lst (ys ++ [.ref p])))) := wo_mut e47
        have hl7 : H7 l = some (.lst ys) := e47 _ _ hl'
        refine ⟨low, vsh, shown, _, ys ++ [.ref p], _, _, _, rfl, (eH.trans e47).mut hl0, upd_same, ((hS.mono hw7).snoc (p := p) (s := ⟨low, none, r, decide (0 < low) && !decide (some (r.word, cntO r low) = shown)⟩) ?_), by simp [hyl], hsh.mono hw7, hso, ?_⟩
        · obtain ⟨dp, hP⟩ := hP
          have npl : p ≠ l := ne_of hP hl7 (by intro z; cases z)
          have nql : q ≠ l := ne_of rA' hl' (by intro z; cases z)
          exact ⟨dp, q, by rw [wo_upd, wo_ne npl]; exact hP, dx, by rw [wo_upd, wo_ne nql]; exact e47 _ _ rA'⟩
        · rw [hsp2, List.append_assoc]
          rfl
      | some t =>
        rw [htil] at hsp2
        have fU' : ∀ σ H2, Ex H' H2 → σ[4]? = some (some (V.ref q)) → Ev (tFld K (tVar 4) "until") σ H2 (.int t) := fun σ H2 e hs => by have z := fU σ H2 e hs; rw [htil] at z; exact z
        refine s_if (et_B (ev_isN (fU' _ _ e45 rfl))) (fun hb => Bool.noConfusion hb) (fun hb H6 e6 => ?_)
        have e46 := e45.trans e6
        refine q_appN (e46 _ _ hl') (ev_var rfl) (en_make (fs := spanF ⟨low, some (t - 1), r, decide (0 < low) && !decide (some (r.word, cntO r low) = shown)⟩ q) (ea_cons (ev_var rfl) (ea_cons (ev_op (fU' _ _ e46 rfl) ev_c rv_I0) (ea_cons (ev_var rfl) (ea_cons (ev_var rfl) ea_nil)))) (init_span (s := ⟨low, some (t - 1), r, _⟩))) hlenOk fun p H7 hp e7 hP => ?_
        have e47 := e46.trans e7
        have hl7 : H7 l = some (.lst ys) := e47 _ _ hl'
        obtain ⟨dp, hP⟩ := hP
        have npl : p ≠ l := ne_of hP hl7 (by intro z; cases z)
        have nql : q ≠ l := ne_of rA' hl' (by intro z; cases z)
        have rA8 : RowAt cR (upd H7 l (.lst (ys ++ [.ref p]))) q r := ⟨dx, by rw [upd_ne nql]; exact e47 _ _ rA'⟩
        obtain ⟨_, rA8'⟩ := id rA8
        have fU8 : ∀ σ H2, Ex (upd H7 l (.lst (ys ++ [.ref p]))) H2 → σ[4]? = some (some (V.ref q)) → Ev (tFld K (tVar 4) "until") σ H2 (.int t) := fun σ H2 e hs => by
          have z : Ev (tFld K (tVar 4) "until") σ H2 (oV r.til) := ev_fld (ev_var hs) (e _ _ rA8') T.row T.r1 rfl
          rw [htil] at z
          exact z
        refine q_asgU (eu_tup (ea_cons (ev_fld (ev_var rfl) rA8' T.row T.r4 rfl) (ea_cons (ev_call (ea_cons (ev_var rfl) (ea_cons (ev_op (fU8 _ _ (Ex.refl _) rfl) ev_c rv_I0) ea_nil)) (spv_countIn rA8 or)) ea_nil)) (by show 2 ≤ 100000; decide)) fun t2 H8 ht2 e8 hlab2 => ?_
        refine s_asg (fU8 _ _ e8 rfl) fun H9 e9 => ?_
        have e89 := e8.trans e9
        have eH9 : Ex H H9 := (Ex.mut (eH.trans e47) hl0).trans e89
        have hl9 : H9 l = some (.lst (ys ++ [.ref p])) := e89 _ _ upd_same
        have hw7 : Ex (wo l H') (wo l H9) := (wo_mut e47).trans (wo_mono e89)
        refine ⟨t, .ref t2, some (r.word, cntO r (t - 1)), _, ys ++ [.ref p], _, _, _, rfl, eH9, hl9, ((hS.mono hw7).snoc (p := p) (s := ⟨low, some (t - 1), r, decide (0 < low) && !decide (some (r.word, cntO r low) = shown)⟩) ?_), by simp [hyl], ⟨t2, rfl, ?_⟩, fun z hz => by cases hz; exact or.wd, ?_⟩
        · exact ⟨dp, q, by rw [wo_ne npl]; exact e89 _ _ (by rw [upd_ne npl]; exact hP), dx, by rw [wo_ne nql]; exact e89 _ _ (by rw [upd_ne nql]; exact e47 _ _ rA')⟩
        · have h9 : H9 t2 = some (.tup [.str r.word, oV (cntO r (t - 1))]) := e9 _ _ hlab2
          rw [wo_ne (ne_of h9 hl9 (by intro z; cases z))]
          exact h9
        · rw [hsp2, List.append_assoc]
          rfl
    · rintro σ' H' ⟨low, vsh, shown, done, ys, v4, v5, v6, rfl, eH, hl', hS, hyl, hsh, hso, hsp⟩
      have hdr : rows.drop xs.length = [] := List.drop_eq_nil_of_le (by rw [hR.1]; exact Nat.le_refl _)
      rw [hdr] at hsp
      have hsp' : spansFrom 0 none rows = done := by rw [hsp]; simp [spansFrom]
      refine ⟨_, rfl, l, ys, rfl, Or.inl ⟨sq_of hl', fun p hp => ?_⟩⟩
      refine k p ys _ (fresh_back eH hp) (eH.trans (Ex.new hp)) upd_same ?_
      rw [hsp']
      exact hS.mono (wo_sub.trans (Ex.new hp))
end
end Age

set_option Elab.async false
set_option linter.all false
set_option maxRecDepth 100000
set_option maxHeartbeats 4000000
namespace Age
open PySem PySem.Spec PyProof.Rows L2 Evl
/-! ### labels, edges, stretches -/
def hit (n : Int) (r : RowD) : Bool := match r.til with
  | none => true
  | some t => decide (n < t)
def labelOf (rows : List RowD) (n : Int) : Str × Option Int := match rows.find? (hit n) with
  | some r => (r.word, cntO r n)
  | none => ("", none)
def laterEdge (ss : List SpanD) (n : Int) : Option Int := ss.findSome? (edgeAfter · n)
def numE (ss : List SpanD) (n : Int) : Int := ((ss.filter fun s => decide (s.low ≤ n)).map (numUntil · n)).sum
theorem UOk.find {n : Int} : ∀ {b : Int} {rows : List RowD}, UOk b rows → ∃ r, rows.find? (hit n) = some r
  | b, _, .last (r := r) h => ⟨r, by simp [hit, h]⟩
  | b, _, .more (r := r) (rs := rs) (t := t) h hb hu => by
    cases hh : hit n r with
    | true => exact ⟨r, by simp [hh]⟩
    | false =>
      obtain ⟨r', h'⟩ := UOk.find (n := n) hu
      exact ⟨r', by simp [hh, h']⟩
theorem spansFrom_ok {rows : List RowD} (hr : ∀ r ∈ rows, RowOk r ∧ ∀ t, r.til = some t → Ag t) : ∀ {b : Int} {sh : Option (Str × Option Int)}, Ag b → UOk b rows → ∀ s ∈ spansFrom b sh rows, SpanOk s := by
  induction rows with
  | nil => intro b sh _ _ s hs; simp [spansFrom] at hs
  | cons r rs ih =>
    intro b sh hb hu s hs
    have hr0 := hr r List.mem_cons_self
    cases hu with
    | last h =>
      simp only [spansFrom, h] at hs
      rcases List.mem_cons.mp hs with z | z
      · subst z
        exact ⟨hr0.1, hb, fun h z => nomatch z⟩
      · simp [spansFrom] at z
    | more h hbt hu2 =>
      rename_i t
      have ht := hr0.2 t h
      simp only [spansFrom, h] at hs
      rcases List.mem_cons.mp hs with z | z
      · subst z
        refine ⟨hr0.1, hb, fun h z => ?_⟩
        have z2 : t - 1 = h := Option.some.inj z
        unfold Ag at hb ht ⊢
        omega
      · exact ih (fun r hr2 => hr r (List.mem_cons_of_mem _ hr2)) ht hu2 s z
theorem RowsOk.spans {rows : List RowD} (h : RowsOk rows) : ∀ s ∈ spansFrom 0 none rows, SpanOk s := spansFrom_ok h.r ⟨by decide, by decide⟩ h.u
theorem spansFrom_len : ∀ (rows : List RowD) (b : Int) (sh : Option (Str × Option Int)), (spansFrom b sh rows).length = rows.length
  | [], _, _ => rfl
  | r :: rs, b, sh => by
    rw [spansFrom_snoc, List.length_cons, spansFrom_len rs]
    rfl
/-! ### promises -/
def spWordI (K : PySem.W.Frag) (cR cS cW : Addr) : Sp := fun vs H Q _ => ∃ (p dx a : Addr) (xs : List V) (rows : List RowD), vs = [.ref p, .ref a] ∧ H p = some (.ins cW dx []) ∧ (SqL K H a xs ∨ H a = some (.tup xs)) ∧ RowsAt cR H xs rows ∧ RowsOk rows ∧
  ∀ H2 ta tb ys, (∀ b o, b ≠ p → H b = some o → H2 b = some o) → H2 p = some (.ins cW dx (wordF ta tb)) → H2 ta = some (.tup xs) → H2 tb = some (.tup ys) → SpansAt cR cS (wo p H2) ys (spansFrom 0 none rows) → Q .non H2
def spRowOf (cR : Addr) : Sp := fun vs H Q _ => ∃ (a : Addr) (xs : List V) (rows : List RowD) (n : Int) (i : Nat) (p : Addr), vs = [.ref a, .int n] ∧ H a = some (.tup xs) ∧ RowsAt cR H xs rows ∧ rows.length ≤ 1000 ∧
  (∃ r, rows[i]? = some r ∧ hit n r = true) ∧ (∀ (j : Nat) (r : RowD), j < i → rows[j]? = some r → hit n r = false) ∧ xs[i]? = some (V.ref p) ∧ RetV (.ref p) H Q
def spLabel (cR cS cW : Addr) : Sp := fun vs H Q _ => ∃ (p : Addr) (rows : List RowD) (n : Int), vs = [.ref p, .int n] ∧ WordAt cR cS cW H p rows ∧ RowsOk rows ∧ 0 ≤ n ∧
  ∀ t H2, H t = none → Ex H H2 → H2 t = some (.tup [.str (labelOf rows n).1, oV (labelOf rows n).2]) → Q (.ref t) H2
def spLater (cR cS cW : Addr) : Sp := fun vs H Q _ => ∃ (p : Addr) (rows : List RowD) (n : Int), vs = [.ref p, .int n] ∧ WordAt cR cS cW H p rows ∧ RowsOk rows ∧ Ag n ∧ RetV (oV (laterEdge (spansFrom 0 none rows) n)) H Q
theorem spv_later {cR cS cW p : Addr} {rows : List RowD} {n : Int} {H : Hp} (h : WordAt cR cS cW H p rows) (o : RowsOk rows) (hn : Ag n) : SpV (spLater cR cS cW) [.ref p, .int n] H (oV (laterEdge (spansFrom 0 none rows) n)) := fun H1 e Q q E => ⟨p, rows, n, rfl, h.mono e, o, hn, q⟩
def spNumE (cR cS : Addr) : Sp := fun vs H Q _ => ∃ (a : Addr) (xs : List V) (ss : List SpanD) (n : Int), vs = [.ref a, .int n] ∧ H a = some (.tup xs) ∧ SpansAt cR cS H xs ss ∧ (∀ s ∈ ss, SpanOk s) ∧ ss.length ≤ 1000 ∧ Ag n ∧ RetV (.int (numE ss n)) H Q
theorem spv_numE {cR cS a : Addr} {xs : List V} {ss : List SpanD} {n : Int} {H : Hp} (h : H a = some (.tup xs)) (hs : SpansAt cR cS H xs ss) (o : ∀ s ∈ ss, SpanOk s) (hl : ss.length ≤ 1000) (hn : Ag n) : SpV (spNumE cR cS) [.ref a, .int n] H (.int (numE ss n)) := fun H1 e Q q E => ⟨a, xs, ss, n, rfl, e _ _ h, hs.mono e, o, hl, hn, q⟩
def spEdges (cR cS cW : Addr) : Sp := fun vs H Q _ => ∃ (p : Addr) (rows : List RowD) (lo hi : Int), vs = [.ref p, .int lo, .int hi] ∧ WordAt cR cS cW H p rows ∧ RowsOk rows ∧ Ag lo ∧ Ag hi ∧ RetV (.int (numE (spansFrom 0 none rows) hi - numE (spansFrom 0 none rows) lo)) H Q
theorem spv_edges {cR cS cW p : Addr} {rows : List RowD} {lo hi : Int} {H : Hp} (h : WordAt cR cS cW H p rows) (o : RowsOk rows) (hn : Ag lo) (hm : Ag hi) : SpV (spEdges cR cS cW) [.ref p, .int lo, .int hi] H (.int (numE (spansFrom 0 none rows) hi - numE (spansFrom 0 none rows) lo)) := fun H1 e Q q E => ⟨p, rows, lo, hi, rfl, h.mono e, o, hn, hm, q⟩
theorem en_tuple {K : PySem.W.Frag} {σ : L2.St} {H : Hp} {ta : TE} {a : Addr} {xs : List V} (h : Ev ta σ H (.ref a)) (hx : SqL K H a xs ∨ H a = some (.tup xs)) : ∀ H1, Ex H H1 → ∀ Q : VK, (∀ t H2, Ex H1 H2 → H2 t = some (.tup xs) → Q (.ref t) H2) →
    tCB (fun vs H Q => ∃ p ys, vs = [V.ref p] ∧ ((SqL K H p ys ∧ ∀ l, H l = none → Q (.ref l) (upd H l (.tup ys))) ∨ (SqT K H p ys ∧ Q (.ref p) H))) (tCons ta tNil) σ H1 Q := fun H1 e Q q => h H1 e _ fun H2 e2 => by
  rcases hx with hx | hx
  · exact ⟨a, xs, rfl, Or.inl ⟨ex_l (e.trans e2) hx, fun l hl => q l _ (e2.trans (Ex.new hl)) upd_same⟩⟩
  · exact ⟨a, xs, rfl, Or.inr ⟨st_of ((e.trans e2) _ _ hx), q a H2 e2 ((e.trans e2) _ _ hx)⟩⟩
theorem ev_sum {K : PySem.W.Frag} {σ : L2.St} {H : Hp} {ta : TE} {ns : List Int} (h : EvL ta σ H (ns.map V.int)) : Ev (tCB (rSum K) (tCons ta tNil)) σ H (.int ns.sum) := fun H1 e Q q => h H1 e _ fun p H2 hp e2 h2 => ⟨p, ns, rfl, sq_of h2, q H2 e2⟩
theorem q_fld {K : PySem.W.Frag} {σ : L2.St} {H : Hp} {D : Ends} {tz : TS} {tv ta : TE} {f : Str} {Pv : V → Hp → Prop} (hv : ∀ Q : VK, (∀ y H1, Pv y H1 → Q y H1) → tv σ H Q)
    (k : ∀ y H1, Pv y H1 → ∃ a C dx fs, Ev ta σ H1 (.ref a) ∧ H1 a = some (.ins C dx fs) ∧ Cls K C ∧ NoAttr K C f ∧ fs.length < 1000 ∧ ∀ H2, Ex H1 H2 → tz D σ (upd H2 a (.ins C dx (putF f y fs)))) : tSeq (sFld K ta tv f) tz D σ H :=
  hv _ fun y H1 p => by
    obtain ⟨a, C, dx, fs, h1, h2, h3, h4, h5, h6⟩ := k y H1 p
    exact h1 H1 (Ex.refl H1) _ fun H2 e2 => ⟨a, C, dx, fs, rfl, e2 _ _ h2, h3, h4, h5, h6 H2 e2⟩
theorem s_fld {K : PySem.W.Frag} {σ : L2.St} {H : Hp} {D : Ends} {tv ta : TE} {f : Str} {Pv : V → Hp → Prop} (hv : ∀ Q : VK, (∀ y H1, Pv y H1 → Q y H1) → tv σ H Q)
    (k : ∀ y H1, Pv y H1 → ∃ a C dx fs, Ev ta σ H1 (.ref a) ∧ H1 a = some (.ins C dx fs) ∧ Cls K C ∧ NoAttr K C f ∧ fs.length < 1000 ∧ ∀ H2, Ex H1 H2 → D.nx σ (upd H2 a (.ins C dx (putF f y fs)))) : sFld K ta tv f D σ H :=
  hv _ fun y H1 p => by
    obtain ⟨a, C, dx, fs, h1, h2, h3, h4, h5, h6⟩ := k y H1 p
    exact h1 H1 (Ex.refl H1) _ fun H2 e2 => ⟨a, C, dx, fs, rfl, e2 _ _ h2, h3, h4, h5, h6 H2 e2⟩
section
variable {P : Program} {w : World} {K : PySem.W.Frag} {mg : Str → Option Value} {base : Heap} {cR cS cW : Addr}
theorem ok_wordI {f : Addr} {fd : FuncData} (F : Fn K "__init__" "Wording.__init__" s_Wording_init f fd) (T : Tx K mg cR cS cW) (B : Bn mg) (c1 : Cal P w K mg base CX0 1 "check_untils" ["rows"] (spCheck cR)) (c2 : Cal P w K mg base CX0 4 "spans_of" ["rows"] (spSpans cR cS)) :
    FnOk P w K mg base CX0 5 f fd ["self", "rows"] (spWordI K cR cS cW) := by
  obtain ⟨f1, fd1, G_check_untils, m_check_untils, k_check_untils, b_check_untils⟩ := c1.ex
  obtain ⟨f2, fd2, G_spans_of, m_spans_of, k_spans_of, b_spans_of⟩ := c2.ex
  refine F.ok sc_Wording_init (fun vs H Q E h => ?_) (fun cdv A outer s H vs Q E hr h => ?_)
  · obtain ⟨p, dx, a, xs, rows, rfl, _⟩ := h; rfl
  · obtain ⟨p, dx, a, xs, rows, rfl, hp, ha, hR, ok, k⟩ := h
    refine ⟨_, PSs.nox (pss_cons (ps_fld (pv 0) (pe_callTy call_tuple_of (by rfl) B.tuple (by decide +kernel) (pa_cons (pv 1) pa_nil)) rfl) (pss_cons (ps_expr (pe_call G_check_untils (hr.mono (by decide)) rfl m_check_untils k_check_untils b_check_untils .nil pass0 (pa_cons (pe_fld (pv 0) rfl) pa_nil))) (pss_one (ps_fld (pv 0) (pe_call G_spans_of (hr.mono (by decide)) rfl m_spans_of k_spans_of b_spans_of .nil pass0 (pa_cons (pe_fld (pv 0) rfl) pa_nil)) rfl)))), ?_⟩
    refine q_fld (Pv := fun y H1 => ∃ t, y = .ref t ∧ Ex H H1 ∧ H1 t = some (.tup xs)) (fun Q' q => en_tuple (ev_var rfl) ha H (Ex.refl H) Q' fun t H1 e1 ht => q _ _ ⟨t, rfl, e1, ht⟩) ?_
    rintro y H0 ⟨t, rfl, e0, ht0⟩
    refine ⟨p, cW, dx, _, ev_var rfl, e0 _ _ hp, T.wording, T.w1, (by decide), fun H1 e01 => ?_⟩
    have e1 := e0.trans e01
    have ht := e01 _ _ ht0
    -- the instance has its rows
    have h1p : H1 p = some (.ins cW dx []) := e1 _ _ hp
    have ntp : t ≠ p := ne_of ht h1p (by intro z; cases z)
    have hRw : RowsAt cR (wo p H) xs rows := ⟨hR.1, fun i r hi => by
      obtain ⟨q, hq, dy, hq2⟩ := hR.2 i r hi
      exact ⟨q, hq, dy, by rw [wo_ne (ne_of hq2 hp (by intro z; cases z))]; exact hq2⟩⟩
    have eM : Ex (wo p H) (upd H1 p (.ins cW dx (putF "rows" (.ref t) []))) := (wo_mut e1).trans wo_sub
    have h2p : upd H1 p (.ins cW dx (putF "rows" (.ref t) [])) p = some (.ins cW dx [("rows", .ref t)]) := upd_same
    have h2t : upd H1 p (.ins cW dx (putF "rows" (.ref t) [])) t = some (.tup xs) := by rw [upd_ne ntp]; exact ht
    generalize upd H1 p (.ins cW dx (putF "rows" (.ref t) [])) = H2 at eM h2p h2t ⊢
    have keep2 : ∀ b o, b ≠ p → H b = some o → H2 b = some o := fun b o hb z => eM b o (by rw [wo_ne hb]; exact z)
    have fr : ∀ H3, Ex H2 H3 → Ev (tFld K (tVar 0) "rows") [some (.ref p), some (.ref a)] H3 (.ref t) := fun H3 e => ev_fld (ev_var rfl) (e _ _ h2p) T.wording T.w1 rfl
    refine q_drop (ev_call (ea_cons (fr _ (Ex.refl _)) ea_nil) (spv_check h2t (hRw.mono eM) ok)) fun H3 e3 => ?_
    refine s_fld (Pv := fun y H5 => ∃ tb ys, y = .ref tb ∧ Ex H3 H5 ∧ H5 tb = some (.tup ys) ∧ SpansAt cR cS H5 ys (spansFrom 0 none rows)) (fun Q' q => (fr _ e3) H3 (Ex.refl _) _ fun H4 e4 => ⟨t, xs, rows, rfl, (e3.trans e4) _ _ h2t, (hRw.mono eM).mono (e3.trans e4), ok, fun tb ys H5 hb e5 htb hS => q _ _ ⟨tb, ys, rfl, e4.trans e5, htb, hS⟩⟩) ?_
    rintro y H50 ⟨tb, ys, rfl, e350, htb0, hS0⟩
    refine ⟨p, cW, dx, _, ev_var rfl, (e3.trans e350) _ _ h2p, T.wording, T.w2, (by show 1 < 1000; decide), fun H5 e505 => ?_⟩
    have e25 := (e3.trans e350).trans e505
    have htb := e505 _ _ htb0
    have hS := hS0.mono e505
    have ntb : tb ≠ p := ne_of htb (e25 _ _ h2p) (by intro z; cases z)
    refine k _ t tb ys (fun b o hb2 z => by rw [upd_ne hb2]; exact e25 _ _ (keep2 b o hb2 z)) upd_same (by rw [upd_ne ntp]; exact e25 _ _ h2t) (by rw [upd_ne ntb]; exact htb) ?_
    rw [wo_upd]
    refine ⟨hS.1, fun i s hi => ?_⟩
    obtain ⟨q, hq, dy, q2, hq2, dz, hq3⟩ := hS.2 i s hi
    have h5p := e25 _ _ h2p
    exact ⟨q, hq, dy, q2, by rw [wo_ne (ne_of hq2 h5p (by intro z; cases z))]; exact hq2, dz, by rw [wo_ne (ne_of hq3 h5p (by intro z; cases z))]; exact hq3⟩
theorem given_first {n i0 : Nat} {f : Nat → Bool} {u : Nat → V} (h : f i0 = true) (hlt : i0 < n) (hj : ∀ j, j < i0 → f j = false) : (given n f u)[0]? = some (u i0) := by
  induction n with
  | zero => omega
  | succ n ih =>
    by_cases e : i0 = n
    · subst e
      have h0 : ∀ m, m ≤ i0 → given m f u = [] := by
        intro m hm
        induction m with
        | zero => rfl
        | succ m ihm => rw [given_no (hj m (by omega)), ihm (by omega)]
      rw [given_yes h, h0 i0 (Nat.le_refl _)]
      rfl
    · have := ih (by omega)
      cases hf : f n with
      | true =>
        rw [given_yes hf, List.getElem?_append_left]
        · exact this
        · exact (List.getElem?_eq_some_iff.mp this).1
      | false =>
        rw [given_no hf]
        exact this
theorem ok_rowOf {f : Addr} {fd : FuncData} (F : Fn K "row_of" "row_of" s_row_of f fd) (T : Tx K mg cR cS cW) : FnOk P w K mg base CX0 1 f fd ["rows", "age"] (spRowOf cR) := by
  refine F.ok sc_row_of (fun vs H Q E h => ?_) (fun cdv A outer s H vs Q E hr h => ?_)
  · obtain ⟨a, xs, rows, n, i, p, rfl, _⟩ := h; rfl
  · obtain ⟨a, xs, rows, n, i0, p, rfl, ha, hR, hn, ⟨r0, hr0, hh⟩, hj, hx, k⟩ := h
    refine ⟨_, PSs.nox (pss_one (ps_ret (pe_ix ix_list (pe_lc (own := [("row", 2)]) rfl sc_row_of.nd (pi_tup (pv 0)) (blkOk_by (own := [("row", 2)]) (N := ["rows", "age", "row"]) (sc := defScope s_row_of) (by decide +kernel)) (fun _ _ _ _ _ => by exact (pg_name (i := 2) sc_row_of.nd rfl (Or.inl rfl))) (fun _ _ _ _ _ => by exact (pts_one (PW.pt (pw_or (pt_cmp (pc_isN (pe_fldK (K := K) (by rfl) (pv 2) rfl))) (pw_or1 (pt_cmpR op_gt (pe_fldK (K := K) (by rfl) (pv 2) rfl) (pv 1) (nomark _))))))) (fun _ _ _ _ _ => by exact (pv 2))) pe_int (fun _ _ => rfl)))), ?_⟩
    have hl := hR.1
    have hlc := el_lcT (K := K) (σ := start ["rows", "age", "row"] [.ref a, .int n]) (H := H) (a := a) (xs := xs) (tl := tVar 0) (j := 2) (vs := [2]) (t := tOr (tB (tIsN (tFld K (tVar 2) "until"))) (tTest (tOp (rI0 fun i j => .bl (decide (j < i))) (tFld K (tVar 2) "until") (tVar 1)))) (te := tVar 2)
      (fun i => ((rows[i]?).map (hit n)).getD false) (fun i => (xs[i]?).getD .non) (ev_var rfl) (st_of ha) (by omega) (fun x => rfl)
      (fun i x H1 e1 hi => ?t) (fun i x H1 e1 hi _ => by rw [hi]; exact ev_var rfl)
    case t =>
      obtain ⟨q, r, rfl, hri, dx, rA⟩ := (hR.mono e1).get hi
      have fU : Ev (tFld K (tVar 2) "until") [some (.ref a), some (.int n), some (.ref q)] H1 (oV r.til) := ev_fld (ev_var rfl) rA T.row T.r1 rfl
      show EvT _ [some (.ref a), some (.int n), some (.ref q)] H1 ((Option.map (hit n) rows[i]?).getD false)
      rw [hri]
      cases htil : r.til with
      | none =>
        rw [htil] at fU
        have e0 : hit n r = true := by unfold hit; rw [htil]
        show EvT _ _ _ (hit n r)
        rw [e0]
        exact et_orT (et_B (ev_isN fU))
      | some t =>
        rw [htil] at fU
        have e0 : hit n r = (false || decide (n < t)) := by unfold hit; rw [htil]; rfl
        show EvT _ _ _ (hit n r)
        rw [e0]
        exact et_or (et_B (ev_isN fU)) (fun _ => et_test (ev_op fU (ev_var rfl) rv_I0))
    refine s_ret (ev_opL1 hlc (fun _ _ => ev_c) fun q H1 hq e1 => rv_ixL (v := .ref p) (sq_of hq) (atI_nat (j := 0) ?_)) k
    have h1 : ((rows[i0]?).map (hit n)).getD false = true := by rw [hr0]; exact hh
    rw [given_first h1 (by have := (List.getElem?_eq_some_iff.mp hx).1; omega) (fun j hjl => by
      cases e : rows[j]? with
      | none => rfl
      | some r => exact hj j r hjl e), hx]
    rfl
theorem ok_label {f : Addr} {fd : FuncData} (F : Fn K "label" "Wording.label" s_Wording_label f fd) (T : Tx K mg cR cS cW) (c1 : Cal P w K mg base CX0 1 "demand_age" ["age"] spDemand) (c2 : Cal P w K mg base CX0 1 "row_of" ["rows", "age"] (spRowOf cR)) (c3 : Cal P w K mg base CX0 3 "count_in" ["row", "age"] (spCountIn cR)) :
    FnOk P w K mg base CX0 4 f fd ["self", "age"] (spLabel cR cS cW) := by
  obtain ⟨f1, fd1, G_demand_age, m_demand_age, k_demand_age, b_demand_age⟩ := c1.ex
  obtain ⟨f2, fd2, G_row_of, m_row_of, k_row_of, b_row_of⟩ := c2.ex
  obtain ⟨f3, fd3, G_count_in, m_count_in, k_count_in, b_count_in⟩ := c3.ex
  refine F.ok sc_Wording_label (fun vs H Q E h => ?_) (fun cdv A outer s H vs Q E hr h => ?_)
  · obtain ⟨p, rows, n, rfl, _⟩ := h; rfl
  · obtain ⟨p, rows, n, rfl, ⟨dx, ta, tb, xs, ys, hp, hta, hR, htb, hS⟩, ok, hn, k⟩ := h
    refine ⟨_, PSs.nox (pss_cons (ps_expr (pe_call G_demand_age (hr.mono (by decide)) rfl m_demand_age k_demand_age b_demand_age .nil pass0 (pa_cons (pv 1) pa_nil))) (pss_cons (ps_set (i := 2) sc_Wording_label.nd rfl (Or.inl rfl) (pe_call G_row_of (hr.mono (by decide)) rfl m_row_of k_row_of b_row_of .nil pass0 (pa_cons (pe_fld (pv 0) rfl) (pa_cons (pv 1) pa_nil)))) (pss_one (ps_ret (pe_tup (pa_cons (pe_fld (pv 2) rfl) (pa_cons (pe_call G_count_in (hr.mono (by decide)) rfl m_count_in k_count_in b_count_in .nil pass0 (pa_cons (pv 2) (pa_cons (pv 1) pa_nil))) pa_nil))))))), ?_⟩
    obtain ⟨r, hf⟩ := ok.u.find (n := n)
    have hlab : labelOf rows n = (r.word, cntO r n) := by unfold labelOf; rw [hf]
    rw [hlab] at k
    obtain ⟨hh, i0, hlt, hi0, hj⟩ := List.find?_eq_some_iff_getElem.mp hf
    have hri : rows[i0]? = some r := by rw [← hi0]; exact List.getElem?_eq_getElem hlt
    obtain ⟨q, hq, rA⟩ := hR.2 i0 r hri
    obtain ⟨dy, rA'⟩ := id rA
    refine q_drop (ev_call (ea_cons (ev_var rfl) ea_nil) (spv_demand hn)) fun H1 e1 => ?_
    refine q_asg (v := .ref q) (ev_call (ea_cons (ev_fld (ev_var rfl) (e1 _ _ hp) T.wording T.w1 rfl) (ea_cons (ev_var rfl) ea_nil)) fun H2 e2 Q' q' E' => ⟨ta, xs, rows, n, i0, q, rfl, e2 _ _ (e1 _ _ hta), (hR.mono e1).mono e2, ok.n, ⟨r, hri, hh⟩, fun j r' hjl hr' => ?_, hq, q'⟩) fun H2 e2 => ?_
    · have h1 := hj j hjl
      have h2 := (List.getElem?_eq_some_iff.mp hr').2
      rw [← h2]
      simpa using h1
    · have e12 := e1.trans e2
      exact s_retU (eu_tup (ea_cons (ev_fld (ev_var rfl) (e12 _ _ rA') T.row T.r4 rfl) (ea_cons (ev_call (ea_cons (ev_var rfl) (ea_cons (ev_var rfl) ea_nil)) (spv_countIn (rA.mono e12) (ok.at_ hri).1)) ea_nil)) (by show 2 ≤ 100000; decide)) fun t H3 ht e3 h3 => k t H3 (fresh_back e12 ht) (e12.trans e3) h3
theorem ok_later {f : Addr} {fd : FuncData} (F : Fn K "later_edge" "Wording.later_edge" s_Wording_later_edge f fd) (T : Tx K mg cR cS cW) (c1 : Cal P w K mg base CX0 1 "demand_age" ["age"] spDemand) (c2 : Met P w K mg base CX0 4 cS "edge_after" ["self", "age"] (spEdgeAfter cR cS)) :
    FnOk P w K mg base CX0 5 f fd ["self", "age"] (spLater cR cS cW) := by
  obtain ⟨f1, fd1, G_demand_age, m_demand_age, k_demand_age, b_demand_age⟩ := c1.ex
  obtain ⟨f2, fd2, G_Span_edge_after, M_Span_edge_after, b_Span_edge_after⟩ := c2.ex
  refine F.ok sc_Wording_later_edge (fun vs H Q E h => ?_) (fun cdv A outer s H vs Q E hr h => ?_)
  · obtain ⟨p, rows, n, rfl, _⟩ := h; rfl
  · obtain ⟨p, rows, n, rfl, ⟨dx, ta, tb, xs, ys, hp, hta, hR, htb, hS⟩, ok, hn, k⟩ := h
    refine ⟨_, PSs.nox (pss_cons (ps_expr (pe_call G_demand_age (hr.mono (by decide)) rfl m_demand_age k_demand_age b_demand_age .nil pass0 (pa_cons (pv 1) pa_nil))) (pss_cons (ps_for PassesOwn.never rfl (pi_tup (pe_fld (pv 0) rfl)) (pg_name (i := 2) sc_Wording_later_edge.nd rfl (Or.inl rfl)) (pss_cons (ps_set (i := 3) sc_Wording_later_edge.nd rfl (Or.inl rfl) (pe_meth (pv 2) T.span M_Span_edge_after G_Span_edge_after (hr.mono (by decide)) b_Span_edge_after .nil pass0 (pa_cons (pv 1) pa_nil))) (pss_one (ps_if (pt_cmp (pc_notN (pv 3))) (pss_one (ps_ret (pv 3))) pss_nil)))) (pss_one (ps_ret pe_non)))), ?_⟩
    refine q_drop (ev_call (ea_cons (ev_var rfl) ea_nil) (spv_demand hn.1)) fun H1 e1 => ?_
    refine q_forT (xs := ys) (a := tb) (ev_fld (ev_var rfl) (e1 _ _ hp) T.wording T.w2 rfl) (st_of (e1 _ _ htb)) (fun i σ H' => Ex H H' ∧ (∃ v2 v3, σ = [some (.ref p), some (.int n), v2, v3]) ∧ laterEdge (spansFrom 0 none rows) n = laterEdge ((spansFrom 0 none rows).drop i) n) (fun H2 e2 => ⟨e1.trans e2, ⟨none, none, rfl⟩, rfl⟩)
      (fun i σ' H' _ p => st_of (p.1 _ _ htb)) ?_ ?_
    · rintro i x σ' H' hx ⟨e, ⟨v2, v3, rfl⟩, hl⟩
      obtain ⟨q, sp, rfl, hsi, sA⟩ := (hS.mono e).get hx
      obtain ⟨dz, qr, hq, _⟩ := id sA
      have hso := ok.spans sp (List.mem_of_getElem? hsi)
      have hl2 := List.getElem?_eq_some_iff.mp hsi
      rw [List.drop_eq_getElem_cons hl2.1, hl2.2] at hl
      show tSeq _ _ _ (List.set _ _ _) H'
      refine q_asg (ev_meth (ev_var rfl) hq rfl (ea_cons (ev_var rfl) ea_nil) (spv_edgeAfter sA hso hn)) fun H2 e2 => ?_
      cases he : edgeAfter sp n with
      | none =>
        refine s_when (et_B (ev_notN (ev_var rfl))) (fun hb => Bool.noConfusion hb) (fun hb H3 e3 => ⟨(e.trans e2).trans e3, ⟨_, _, rfl⟩, ?_⟩)
        rw [hl]
        unfold laterEdge
        rw [List.findSome?_cons, he]
      | some b =>
        have hb2 : laterEdge (spansFrom 0 none rows) n = some b := by
          rw [hl]
          unfold laterEdge
          rw [List.findSome?_cons, he]
        rw [hb2] at k
        exact s_when (et_B (ev_notN (ev_var rfl))) (fun hb H3 e3 => s_ret (ev_var rfl) fun H4 e4 => k H4 (((e.trans e2).trans e3).trans e4)) (fun hb => Bool.noConfusion hb)
    · rintro σ' H' ⟨e, ⟨v2, v3, rfl⟩, hl⟩
      have hd : (spansFrom 0 none rows).drop ys.length = [] := List.drop_eq_nil_of_le (by rw [hS.1]; exact Nat.le_refl _)
      rw [hd] at hl
      have hl' : laterEdge (spansFrom 0 none rows) n = none := hl
      rw [hl'] at k
      exact s_ret ev_c fun H2 e2 => k H2 (e.trans e2)
theorem ok_numE {f : Addr} {fd : FuncData} (F : Fn K "number_of_edges" "number_of_edges" s_number_of_edges f fd) (T : Tx K mg cR cS cW) (B : Bn mg) (c2 : Met P w K mg base CX0 4 cS "number_until" ["self", "age"] (spNumUntil cR cS)) :
    FnOk P w K mg base CX0 5 f fd ["spans", "age"] (spNumE cR cS) := by
  obtain ⟨f2, fd2, G_Span_number_until, M_Span_number_until, b_Span_number_until⟩ := c2.ex
  refine F.ok sc_number_of_edges (fun vs H Q E h => ?_) (fun cdv A outer s H vs Q E hr h => ?_)
  · obtain ⟨a, xs, ss, n, rfl, _⟩ := h; rfl
  · obtain ⟨a, xs, ss, n, rfl, ha, hS, ho, hlen, hn, k⟩ := h
    refine ⟨_, PSs.nox (pss_one (ps_ret (pe_callB (cr_sum rfl) (by rfl) B.sum (by decide +kernel) (pa_cons (pe_lc (own := [("span", 2)]) rfl sc_number_of_edges.nd (pi_tup (pv 0)) (blkOk_by (own := [("span", 2)]) (N := ["spans", "age", "span"]) (sc := defScope s_number_of_edges) (by decide +kernel)) (fun _ _ _ _ _ => by exact (pg_name (i := 2) sc_number_of_edges.nd rfl (Or.inl rfl))) (fun _ _ _ _ _ => by exact (pts_one (pt_cmpR op_le (pe_fldK (K := K) (by rfl) (pv 2) rfl) (pv 1) (nomark _)))) (fun _ _ _ _ _ => by exact (pe_meth (pv 2) T.span M_Span_number_until G_Span_number_until (hr.mono (by decide)) b_Span_number_until .nil pass0 (pa_cons (pv 1) pa_nil)))) pa_nil)))), ?_⟩
    have hl := hS.1
    have hlc := el_lcT (K := K) (σ := start ["spans", "age", "span"] [.ref a, .int n]) (H := H) (a := a) (xs := xs) (tl := tVar 0) (j := 2) (vs := [2]) (t := tTest (tOp (rI0 fun i j => .bl (decide (i ≤ j))) (tFld K (tVar 2) "low") (tVar 1))) (te := tMeth cS "number_until" (spNumUntil cR cS) [] E0 (tVar 2) (tCons (tVar 1) tNil))
      (fun i => ((ss[i]?).map fun s => decide (s.low ≤ n)).getD false) (fun i => .int (((ss[i]?).map (numUntil · n)).getD 0)) (ev_var rfl) (st_of ha) (by omega) (fun x => rfl)
      (fun i x H1 e1 hi => ?t) (fun i x H1 e1 hi _ => ?e)
    case t =>
      obtain ⟨q, sp, rfl, hsi, dz, qr, hq, _⟩ := (hS.mono e1).get hi
      show EvT _ [some (.ref a), some (.int n), some (.ref q)] H1 ((Option.map (fun s : SpanD => decide (s.low ≤ n)) ss[i]?).getD false)
      rw [hsi]
      exact et_test (ev_op (ev_fld (ev_var rfl) hq T.span T.s1 rfl) (ev_var rfl) rv_I0)
    case e =>
      obtain ⟨q, sp, rfl, hsi, sA⟩ := (hS.mono e1).get hi
      obtain ⟨dz, qr, hq, _⟩ := id sA
      show Ev _ [some (.ref a), some (.int n), some (.ref q)] H1 (.int ((Option.map (numUntil · n) ss[i]?).getD 0))
      rw [hsi]
      exact ev_meth (ev_var rfl) hq rfl (ea_cons (ev_var rfl) ea_nil) (spv_numUntil sA (ho sp (List.mem_of_getElem? hsi)) hn)
    rw [given_list (L := ss) (p := fun s => decide (s.low ≤ n)) (q := fun s => .int (numUntil s n)) (fun i s hi => by rw [hi]; exact ⟨rfl, rfl⟩) xs.length (by omega), List.take_of_length_le (by omega)] at hlc
    have hm : (ss.filter fun s => decide (s.low ≤ n)).map (fun s => V.int (numUntil s n)) = ((ss.filter fun s => decide (s.low ≤ n)).map (numUntil · n)).map V.int := by
      rw [List.map_map]
      rfl
    rw [hm] at hlc
    exact s_ret (ev_sum hlc) k
theorem ok_edges {f : Addr} {fd : FuncData} (F : Fn K "edges" "Wording.edges" s_Wording_edges f fd) (T : Tx K mg cR cS cW) (c1 : Cal P w K mg base CX0 1 "demand_age" ["age"] spDemand) (c2 : Cal P w K mg base CX0 5 "number_of_edges" ["spans", "age"] (spNumE cR cS)) :
    FnOk P w K mg base CX0 6 f fd ["self", "low", "high"] (spEdges cR cS cW) := by
  obtain ⟨f1, fd1, G_demand_age, m_demand_age, k_demand_age, b_demand_age⟩ := c1.ex
  obtain ⟨f2, fd2, G_number_of_edges, m_number_of_edges, k_number_of_edges, b_number_of_edges⟩ := c2.ex
  refine F.ok sc_Wording_edges (fun vs H Q E h => ?_) (fun cdv A outer s H vs Q E hr h => ?_)
  · obtain ⟨p, rows, lo, hi, rfl, _⟩ := h; rfl
  · obtain ⟨p, rows, lo, hi, rfl, ⟨dx, ta, tb, xs, ys, hp, hta, hR, htb, hS⟩, ok, hn, hm, k⟩ := h
    refine ⟨_, PSs.nox (pss_cons (ps_expr (pe_call G_demand_age (hr.mono (by decide)) rfl m_demand_age k_demand_age b_demand_age .nil pass0 (pa_cons (pv 1) pa_nil))) (pss_cons (ps_expr (pe_call G_demand_age (hr.mono (by decide)) rfl m_demand_age k_demand_age b_demand_age .nil pass0 (pa_cons (pv 2) pa_nil))) (pss_one (ps_ret (pe_op op_sub (pe_call G_number_of_edges (hr.mono (by decide)) rfl m_number_of_edges k_number_of_edges b_number_of_edges .nil pass0 (pa_cons (pe_fld (pv 0) rfl) (pa_cons (pv 2) pa_nil))) (pe_call G_number_of_edges (hr.mono (by decide)) rfl m_number_of_edges k_number_of_edges b_number_of_edges .nil pass0 (pa_cons (pe_fld (pv 0) rfl) (pa_cons (pv 1) pa_nil)))))))), ?_⟩
    have hlen : (spansFrom 0 none rows).length ≤ 1000 := by rw [spansFrom_len]; exact ok.n
    refine q_drop (ev_call (ea_cons (ev_var rfl) ea_nil) (spv_demand hn.1)) fun H1 e1 => ?_
    refine q_drop (ev_call (ea_cons (ev_var rfl) ea_nil) (spv_demand hm.1)) fun H2 e2 => ?_
    have e12 := e1.trans e2
    exact s_ret (ev_op (ev_call (ea_cons (ev_fld (ev_var rfl) (e12 _ _ hp) T.wording T.w2 rfl) (ea_cons (ev_var rfl) ea_nil)) (spv_numE (e12 _ _ htb) (hS.mono e12) ok.spans hlen hm)) (ev_call (ea_cons (ev_fld (ev_var rfl) (e12 _ _ hp) T.wording T.w2 rfl) (ea_cons (ev_var rfl) ea_nil)) (spv_numE (e12 _ _ htb) (hS.mono e12) ok.spans hlen hn)) rv_I0) fun H3 e3 => k H3 (e12.trans e3)
end
end Age

set_option Elab.async false
set_option linter.all false
set_option maxRecDepth 100000
set_option maxHeartbeats 4000000
namespace Age
open PySem PySem.Spec PyProof.Rows L2 Evl
/-! ### the ages with a label -/
abbrev Str2 := Int × Option Int
def joinStep (acc : List Str2) (x : Str2) : List Str2 := match acc.getLast? with
  | some (lo, some h) => if h + 1 = x.1 then acc.dropLast ++ [(lo, x.2)] else acc ++ [x]
  | _ => acc ++ [x]
def joinS (xs : List Str2) : List Str2 := xs.foldl joinStep []
def agesOf (rows : List RowD) (w : Str) (c : Option Int) : List Str2 := joinS ((spansFrom 0 none rows).filterMap (stretchWith · w c))
def PairAt (H : Hp) (y : V) (p : Str2) : Prop := ∃ t, y = .ref t ∧ H t = some (.tup [.int p.1, oV p.2])
theorem PairAt.mono {H H' : Hp} {y : V} {p : Str2} (e : Ex H H') (h : PairAt H y p) : PairAt H' y p := let ⟨t, a, b⟩ := h; ⟨t, a, e _ _ b⟩
inductive PairsAt (H : Hp) : List V → List Str2 → Prop
  | nil : PairsAt H [] []
  | cons {y : V} {p : Str2} {ys : List V} {ps : List Str2} : PairAt H y p → PairsAt H ys ps → PairsAt H (y :: ys) (p :: ps)
theorem PairsAt.mono {H H' : Hp} (e : Ex H H') : ∀ {ys : List V} {ps : List Str2}, PairsAt H ys ps → PairsAt H' ys ps
  | _, _, .nil => .nil
  | _, _, .cons a b => .cons (a.mono e) (b.mono e)
theorem PairsAt.len {H : Hp} : ∀ {ys : List V} {ps : List Str2}, PairsAt H ys ps → ys.length = ps.length
  | _, _, .nil => rfl
  | _, _, .cons _ b => by rw [List.length_cons, List.length_cons, b.len]
theorem PairsAt.get {H : Hp} : ∀ {ys : List V} {ps : List Str2} {i : Nat} {y : V}, PairsAt H ys ps → ys[i]? = some y → ∃ p, ps[i]? = some p ∧ PairAt H y p
  | _, _, _, _, .nil, h => by simp at h
  | _, _, 0, y, .cons (p := p) a b, h => by
    simp at h
    subst h
    exact ⟨p, rfl, a⟩
  | _, _, i + 1, y, .cons a b, h => by
    obtain ⟨p, h1, h2⟩ := b.get (i := i) (y := y) (by simpa using h)
    exact ⟨p, by simpa using h1, h2⟩
theorem PairsAt.app {H : Hp} : ∀ {ys zs : List V} {ps qs : List Str2}, PairsAt H ys ps → PairsAt H zs qs → PairsAt H (ys ++ zs) (ps ++ qs)
  | _, _, _, _, .nil, b => b
  | _, _, _, _, .cons a c, b => .cons a (c.app b)
theorem PairsAt.dropLast {H : Hp} : ∀ {ys : List V} {ps : List Str2}, PairsAt H ys ps → PairsAt H ys.dropLast ps.dropLast
  | _, _, .nil => .nil
  | _, _, .cons a .nil => .nil
  | _, _, .cons a (.cons b c) => .cons a (PairsAt.dropLast (.cons b c))
theorem PairsAt.last {H : Hp} {ys : List V} {ps : List Str2} (h : PairsAt H ys ps) {p : Str2} (hp : ps.getLast? = some p) : ∃ t, ys[ys.length - 1]? = some (V.ref t) ∧ H t = some (.tup [.int p.1, oV p.2]) := by
  rw [List.getLast?_eq_getElem?] at hp
  have hlt := (List.getElem?_eq_some_iff.mp hp).1
  have hl := h.len
  have hy : ys[ps.length - 1]? = some ys[ps.length - 1] := List.getElem?_eq_getElem (by omega)
  obtain ⟨p', h1, t, h2, h3⟩ := h.get hy
  rw [hp] at h1
  have e := Option.some.inj h1
  subst e
  exact ⟨t, by rw [hl, hy, h2], h3⟩
theorem joinStep_last (acc : List Str2) (x : Str2) : ∃ lo, (joinStep acc x).getLast? = some (lo, x.2) := by
  unfold joinStep
  split
  · rename_i lo h _
    split
    · exact ⟨lo, by simp⟩
    · exact ⟨x.1, by simp⟩
  · exact ⟨x.1, by simp⟩
theorem joinS_snoc (xs : List Str2) (x : Str2) : joinS (xs ++ [x]) = joinStep (joinS xs) x := by
  unfold joinS
  rw [List.foldl_append]
  rfl
theorem joinS_last {xs : List Str2} {i : Nat} {x : Str2} (h : xs[i]? = some x) : ∃ lo, (joinS (xs.take (i + 1))).getLast? = some (lo, x.2) := by
  have e : xs.take (i + 1) = xs.take i ++ [x] := by rw [List.take_add_one, h]; rfl
  rw [e, joinS_snoc]
  exact joinStep_last _ _
def dP (p : Str2) : PyData := .tuple [.int p.1, dO p.2]
theorem dp_pair {K : PySem.W.Frag} {H : Hp} {y : V} {p : Str2} (h : PairAt H y p) : Dp K H y (dP p) := by
  obtain ⟨t, rfl, h⟩ := h
  exact .tup (st_of h) (.cons (.int _) (.cons (dp_oV _) .nil))
theorem dp_pairs {K : PySem.W.Frag} {H : Hp} : ∀ {ys : List V} {ps : List Str2}, PairsAt H ys ps → DpAll K H ys (ps.map dP)
  | _, _, .nil => .nil
  | _, _, .cons a b => .cons (dp_pair a) (dp_pairs b)
theorem canLay_dP (p : Str2) : (dP p).canLay0 = true := by
  obtain ⟨a, b⟩ := p
  cases b <;> simp [dP, dO, PyData.canLay0, PyData.canLayAll0]
theorem depth_dP (p : Str2) : (dP p).depth = 1 := by
  obtain ⟨a, b⟩ := p
  cases b <;> simp [dP, dO, PyData.depth, PyData.depthAll]
theorem canLay_dPs : ∀ ps : List Str2, PyData.canLayAll0 (ps.map dP) = true
  | [] => by simp [PyData.canLayAll0]
  | p :: ps => by simp [PyData.canLayAll0, canLay_dP, canLay_dPs ps]
theorem depth_dPs : ∀ ps : List Str2, PyData.depthAll (ps.map dP) ≤ 1
  | [] => by simp [PyData.depthAll]
  | p :: ps => by
    have := depth_dPs ps
    simp only [List.map_cons, PyData.depthAll, depth_dP]
    omega
theorem shaped_list (ps : List Str2) : SeqAt.shaped (.list (ps.map dP)) = true := by
  have := depth_dPs ps
  simp only [SeqAt.shaped, PyData.canLay0, canLay_dPs, PyData.depth, Bool.true_and]
  exact decide_eq_true (by omega)
theorem shaped_tupP (ps : List Str2) : SeqAt.shaped (.tuple (ps.map dP)) = true := by
  have := depth_dPs ps
  simp only [SeqAt.shaped, PyData.canLay0, canLay_dPs, PyData.depth, Bool.true_and]
  exact decide_eq_true (by omega)
theorem eqv_list_nil (ds : List PyData) : PyData.eqv (.list ds) (.list []) = ds.isEmpty := by
  cases ds <;> simp [PyData.eqv, PyData.eqvAll]
/-! ### what is left of stretches and spans -/
theorem fm_dropLast {α β : Type} {f : α → Option β} : ∀ {xs : List α} {y : β}, y ∈ (xs.filterMap f).dropLast → ∃ x ∈ xs.dropLast, f x = some y
  | [], y, h => by simp at h
  | [x], y, h => by
    cases e : f x <;> simp [e] at h
  | x :: x2 :: r, y, h => by
    have ih := fun z => fm_dropLast (f := f) (xs := x2 :: r) (y := y) z
    have el : (x :: x2 :: r).dropLast = x :: (x2 :: r).dropLast := rfl
    rw [el]
    cases e : f x with
    | none =>
      rw [List.filterMap_cons_none e] at h
      obtain ⟨z, hz, hf⟩ := ih h
      exact ⟨z, List.mem_cons_of_mem _ hz, hf⟩
    | some p =>
      rw [List.filterMap_cons_some e] at h
      cases hm : (x2 :: r).filterMap f with
      | nil => rw [hm] at h; simp at h
      | cons q qs =>
        rw [hm] at h ih
        have h' : y ∈ p :: (q :: qs).dropLast := h
        rcases List.mem_cons.mp h' with z | z
        · subst z
          exact ⟨x, List.mem_cons_self, e⟩
        · obtain ⟨z2, hz, hf⟩ := ih z
          exact ⟨z2, List.mem_cons_of_mem _ hz, hf⟩
theorem spans_high {rows : List RowD} : ∀ {b : Int} {sh : Option (Str × Option Int)}, UOk b rows → ∀ s ∈ (spansFrom b sh rows).dropLast, s.high.isSome = true := by
  induction rows with
  | nil => intro b sh _ s hs; simp [spansFrom] at hs
  | cons r rs ih =>
    intro b sh hu s hs
    cases hu with
    | last h => simp [spansFrom, h] at hs
    | more h hbt hu2 =>
      rename_i t
      simp only [spansFrom, h] at hs
      cases hm : spansFrom t (some (r.word, cntO r (t - 1))) rs with
      | nil => rw [hm] at hs; simp at hs
      | cons s2 ss =>
        rw [hm] at hs
        have hs' : s ∈ (⟨b, some (t - 1), r, decide (0 < b) && !decide (some (r.word, cntO r b) = sh)⟩ : SpanD) :: (s2 :: ss).dropLast := hs
        rcases List.mem_cons.mp hs' with z | z
        · subst z; rfl
        · exact ih hu2 s (by rw [hm]; exact z)
theorem stretch_some {s : SpanD} {w : Str} {c : Option Int} {p : Str2} (h : stretchWith s w c = some p) (hs : s.high.isSome = true) : p.2.isSome = true := by
  obtain ⟨lo, hi, ⟨til, unit, way, word⟩, fr⟩ := s
  unfold stretchWith at h
  split at h
  · cases unit <;> cases c <;> simp at h
    · rw [← h]; exact hs
    · rw [← h.2]; rfl
  · cases h
def StrAt (o : Option Str2) (y : V) (H : Hp) : Prop := match o with
  | none => y = .non
  | some p => PairAt H y p
theorem StrAt.mono {o : Option Str2} {y : V} {H H' : Hp} (e : Ex H H') (h : StrAt o y H) : StrAt o y H' := by
  cases o with
  | none => exact h
  | some p => exact PairAt.mono e h
theorem pairs_filter {α : Type} {H : Hp} {f : α → Option Str2} : ∀ (ss : List α) (ys : List V), ys.length = ss.length → (∀ (i : Nat) s y, ss[i]? = some s → ys[i]? = some y → StrAt (f s) y H) → PairsAt H (ys.filter fun y => !decide (y = .non)) (ss.filterMap f)
  | [], ys, hl, _ => by
    have : ys = [] := List.length_eq_zero_iff.mp hl
    subst this
    exact .nil
  | s :: ss, [], hl, _ => by simp at hl
  | s :: ss, y :: ys, hl, h => by
    have ih := pairs_filter ss ys (by simpa using hl) (fun i s' y' h1 h2 => h (i + 1) s' y' (by simpa using h1) (by simpa using h2))
    have h0 := h 0 s y rfl rfl
    cases e : f s with
    | none =>
      rw [e] at h0
      have hy : y = .non := h0
      subst hy
      rw [List.filterMap_cons_none e]
      exact ih
    | some p =>
      rw [e] at h0
      obtain ⟨t, rfl, ht⟩ := h0
      rw [List.filterMap_cons_some e]
      exact .cons ⟨t, rfl, ht⟩ ih
theorem eu_tuple {K : PySem.W.Frag} {σ : L2.St} {H : Hp} {ta : TE} {a : Addr} {xs : List V} (h : Ev ta σ H (.ref a)) (hx : SqL K H a xs) :
    EvU (tCB (fun vs H Q => ∃ p ys, vs = [V.ref p] ∧ ((SqL K H p ys ∧ ∀ l, H l = none → Q (.ref l) (upd H l (.tup ys))) ∨ (SqT K H p ys ∧ Q (.ref p) H))) (tCons ta tNil)) σ H xs := fun H1 e Q q => h H1 e _ fun H2 e2 =>
  ⟨a, xs, rfl, Or.inl ⟨ex_l (e.trans e2) hx, fun l hl => q l _ (fresh_back e2 hl) (e2.trans (Ex.new hl)) upd_same⟩⟩
/-- x = [e for .. in ..] -/
theorem q_asgE {K : PySem.W.Frag} {σ : L2.St} {H : Hp} {te tl : TE} {g : TG} {D : Ends} {tz : TS} {j : Nat} {isT : Bool} {a : Addr} {xs : List V} {vs : List Nat} {R : Nat → V → Hp → Prop} (mono : ∀ i y H1 H2, Ex H1 H2 → R i y H1 → R i y H2) (h : Ev tl σ H (.ref a)) (hx : if isT = true then SqT K H a xs else SqL K H a xs) (hz : xs.length ≤ 40000)
    (hs : ∀ (i : Nat) (x : V) M, Ex H M → xs[i]? = some x → ∃ σ2, wipe σ2 vs = wipe σ vs ∧ (∀ H1 k, Ex M H1 → k σ2 H1 → g x (wipe σ vs) H1 k) ∧ EvE te σ2 M (R i))
    (k : ∀ p ys H1, H p = none → Ex H H1 → H1 p = some (.lst ys) → Each R xs.length ys (wo p H1) → tz D (σ.set j (some (.ref p))) H1) : tSeq (tAsg (tLc (if isT = true then iTup K tl else iList K tl) g tYes te vs) (gName j)) tz D σ H := by
  show tLc _ _ _ _ _ σ H (fun x H1 => tz D (σ.set j (some x)) H1)
  exact en_lc mono h hx hz hs H (Ex.refl H) _ fun p ys H2 hp e2 h2 hE => k p ys H2 hp e2 h2 hE
theorem s_retCL {σ : L2.St} {H : Hp} {te : TE} {D : Ends} {sp : Sp} {E : XK} {xs : List V} (h : EvL te σ H xs) (k : ∀ p H1, H p = none → Ex H H1 → H1 p = some (.lst xs) → sp [.ref p] H1 D.rt E) : tRet (tCall sp [] E (tCons te tNil)) D σ H := h H (Ex.refl H) _ k
/-! ### promises -/
def spJoined : Sp := fun vs H Q _ => ∃ (a : Addr) (xs : List V) (ps : List Str2), vs = [.ref a] ∧ H a = some (.lst xs) ∧ PairsAt H xs ps ∧ (∀ p ∈ ps.dropLast, p.2.isSome = true) ∧ ps.length ≤ 1000 ∧
  ∀ t ys H2, H t = none → Ex H H2 → H2 t = some (.tup ys) → PairsAt H2 ys (joinS ps) → Q (.ref t) H2
def spAges (cR cS cW : Addr) : Sp := fun vs H Q _ => ∃ (p q : Addr) (rows : List RowD) (wd : Str) (c : Option Int), vs = [.ref p, .ref q] ∧ WordAt cR cS cW H p rows ∧ RowsOk rows ∧ H q = some (.tup [.str wd, oV c]) ∧ Cok c ∧
  ∀ t ys H2, H t = none → Ex H H2 → H2 t = some (.tup ys) → PairsAt H2 ys (agesOf rows wd c) → Q (.ref t) H2
section
variable {P : Program} {w : World} {K : PySem.W.Frag} {mg : Str → Option Value} {base : Heap} {cR cS cW : Addr}
theorem ok_joined {f : Addr} {fd : FuncData} (F : Fn K "joined" "joined" s_joined f fd) (B : Bn mg) : FnOk P w K mg base CX0 1 f fd ["stretches"] spJoined := by
  refine F.ok sc_joined (fun vs H Q E h => ?_) (fun cdv A outer s H vs Q E hr h => ?_)
  · obtain ⟨a, xs, ps, rfl, _⟩ := h; rfl
  · obtain ⟨a, xs, ps, rfl, ha, hP, hsm, hln, k⟩ := h
    refine ⟨_, PSs.nox (pss_cons (ps_set (i := 1) sc_joined.nd rfl (Or.inl rfl) (pe_lst pa_nil)) (pss_cons (ps_for PassesOwn.never rfl (pi_list (pv 0)) (pg_tup rfl (pgs_cons (pg_name (i := 2) sc_joined.nd rfl (Or.inl rfl)) (pgs_cons (pg_name (i := 3) sc_joined.nd rfl (Or.inl rfl)) pgs_nil))) (pss_cons (ps_if (PW.pt (pw_and (pt_cmpR (op_neD hr.units) (pv 1) (pe_lst pa_nil) (nomark _)) (pw_and1 (pt_cmpR op_eq (pe_op op_add (pe_ix ix_tup (pe_ix ix_list (pv 1) (pe_un un_neg pe_int) (fun _ _ => rfl)) pe_int (fun _ _ => rfl)) pe_int) (pv 2) (nomark _))))) (pss_one (ps_asg (pe_bm0 PySem.F.plainAttrs_list PySem.F.slot_list_pop PySem.F.type_list_pop mt_pop (pv 1)) (pg_tup rfl (pgs_cons (pg_name (i := 2) sc_joined.nd rfl (Or.inl rfl)) (pgs_cons (pg_name (i := 4) sc_joined.nd rfl (Or.inl rfl)) pgs_nil))))) pss_nil) (pss_one (ps_expr (pe_bm PySem.F.plainAttrs_list PySem.F.slot_list_append PySem.F.type_list_append mt_append (pv 1) (pa_cons (pe_tup (pa_cons (pv 2) (pa_cons (pv 3) pa_nil))) pa_nil)))))) (pss_one (ps_ret (pe_callTy call_tuple_of (by rfl) B.tuple (by decide +kernel) (pa_cons (pv 1) pa_nil)))))), ?_⟩
    refine q_asgL (el_lst ea_nil (by show 0 ≤ 100000; decide)) fun l H1 hl0 e1 hl => ?_
    refine q_forL (K := K) (xs := xs) (a := a) (ev_var rfl) (sq_of (e1 _ _ ha)) (fun i σ H' => ∃ zs v2 v3 v4, σ = [some (.ref a), some (.ref l), v2, v3, v4] ∧ Ex H H' ∧ H' l = some (.lst zs) ∧ PairsAt (wo l H') zs (joinS (ps.take i)) ∧ zs.length ≤ i)
      (fun H2 e2 => ⟨[], none, none, none, rfl, e1.trans e2, e2 _ _ hl, .nil, Nat.le_refl _⟩) (fun i σ' H' _ p => by obtain ⟨_, _, _, _, _, e, _⟩ := p; exact sq_of (e _ _ ha)) ?_ ?_
    · rintro i x σ' H' hx ⟨zs, v2, v3, v4, rfl, eH, hl', hZ, hzl⟩
      obtain ⟨⟨lo, hi⟩, hpi, t, rfl, ht⟩ := (hP.mono eH).get hx
      have hilt := (List.getElem?_eq_some_iff.mp hpi).1
      refine ⟨t, _, rfl, st_of ht, rfl, _, _, rfl, _, _, rfl, rfl, ?_⟩
      show tSeq _ _ _ [some (.ref a), some (.ref l), some (.int lo), some (oV hi), v4] H'
      have hZ' : PairsAt H' zs (joinS (ps.take i)) := hZ.mono wo_sub
      have htk : ps.take (i + 1) = ps.take i ++ [(lo, hi)] := by rw [List.take_add_one, hpi]; rfl
      have hjs : joinS (ps.take (i + 1)) = joinStep (joinS (ps.take i)) (lo, hi) := by rw [htk, joinS_snoc]
      have t1 : EvT (tTest (tOp (rNeD K) (tVar 1) (tLst tNil))) [some (.ref a), some (.ref l), some (.int lo), some (oV hi), v4] H' (!(joinS (ps.take i)).isEmpty) := by
        refine et_test (ev_opL (ev_var rfl) (el_lst ea_nil (by show 0 ≤ 100000; decide)) fun p H2 hp e2 => ?_)
        have h3 := rv_neD (K := K) (H := H2) (.lst (sq_of (e2 _ _ hl')) (dp_pairs (hZ'.mono e2))) (.lst (sq_of hp) .nil) (shaped_list _) (by rfl)
        rw [eqv_list_nil] at h3
        rw [show (joinS (ps.take i)).isEmpty = ((joinS (ps.take i)).map dP).isEmpty by cases joinS (ps.take i) <;> rfl]
        exact h3
      -- the append at the end, from any heap
      have fin : ∀ (H2 : Hp) (zs2 : List V) (acc2 : List Str2) (lo2 : Int) (w4 : Option V), Ex H H2 → H2 l = some (.lst zs2) → PairsAt (wo l H2) zs2 acc2 → zs2.length ≤ i → acc2 ++ [(lo2, hi)] = joinS (ps.take (i + 1)) →
          tDrop (tBM K "list" rAppend (tVar 1) (tCons (tTup (tCons (tVar 2) (tCons (tVar 3) tNil))) tNil)) { nx := fun σ H' => ∃ zs v2 v3 v4, σ = [some (.ref a), some (.ref l), v2, v3, v4] ∧ Ex H H' ∧ H' l = some (.lst zs) ∧ PairsAt (wo l H') zs (joinS (ps.take (i + 1))) ∧ zs.length ≤ i + 1, rt := Q } [some (.ref a), some (.ref l), some (.int lo2), some (oV hi), w4] H2 := by
        intro H2 zs2 acc2 lo2 w4 e2 h2 hz2 hl2 he
        refine s_appU h2 (ev_var rfl) (eu_tup (ea_cons (ev_var rfl) (ea_cons (ev_var rfl) ea_nil)) (by show 2 ≤ 100000; decide)) (by omega) fun p H3 hp e3 h3 => ?_
        refine ⟨zs2 ++ [.ref p], _, _, _, rfl, (e2.trans e3).mut hl0, upd_same, ?_, by simp; omega⟩
        rw [← he]
        exact (hz2.mono (wo_mut e3)).app (.cons ⟨p, rfl, by rw [wo_upd, wo_ne (ne_of h3 (e3 _ _ h2) (by intro z; cases z))]; exact h3⟩ .nil)
      cases hlast : (joinS (ps.take i)).getLast? with
      | none =>
        have h0 : joinS (ps.take i) = [] := List.getLast?_eq_none_iff.mp hlast
        refine q_when (et_and (b := false) t1 (fun hb => by rw [h0] at hb; cases hb)) (fun hb => by simp at hb) (fun hb H2 e2 => ?_)
        refine fin H2 zs (joinS (ps.take i)) lo _ (eH.trans e2) (e2 _ _ hl') (hZ.mono (wo_mono e2)) hzl ?_
        rw [hjs, h0]
        rfl
      | some pr =>
        obtain ⟨lo', hi'⟩ := pr
        have hne : (joinS (ps.take i)).isEmpty = false := by
          cases e : joinS (ps.take i) with
          | nil => rw [e] at hlast; cases hlast
          | cons a b => rfl
        obtain ⟨h', rfl⟩ : ∃ h', hi' = some h' := by
          cases i with
          | zero => simp [joinS] at hlast
          | succ j =>
            have hj : ps[j]? = some ps[j] := List.getElem?_eq_getElem (by omega)
            obtain ⟨lo2, h2⟩ := joinS_last hj
            rw [hlast] at h2
            have e2 : hi' = ps[j].2 := by
              have := Option.some.inj h2
              exact congrArg Prod.snd this
            have hm : ps[j] ∈ ps.dropLast := by
              rw [List.dropLast_eq_take]
              have : (ps.take (ps.length - 1))[j]? = some ps[j] := by rw [List.getElem?_take_of_lt (by omega)]; exact hj
              exact List.mem_of_getElem? this
            have := hsm _ hm
            rw [e2]
            exact Option.isSome_iff_exists.mp this
        obtain ⟨t', hzt, ht'⟩ := hZ'.last hlast
        have hzne : zs ≠ [] := by intro z; rw [z] at hzt; cases hzt
        have hzpos : 0 < zs.length := List.length_pos_iff.mpr hzne
        have t2 : EvT (tTest (tOp rEq (tOp (rI0 fun i j => .int (i + j)) (tOp (rIxT K) (tOp (rIxL K) (tVar 1) (tUn (rU fun i => .int (-i)) (tC (.int 1)))) (tC (.int 1))) (tC (.int 1))) (tVar 2))) [some (.ref a), some (.ref l), some (.int lo), some (oV hi), v4] H' (decide (V.int (h' + 1) = V.int lo)) :=
          et_test (ev_op (ev_op (ev_op (ev_op (ev_var rfl) (ev_un ev_c ru_neg) (rv_ixL (v := .ref t') (sq_of hl') (by
            unfold atI ixN
            rw [if_neg (by decide), if_pos (by omega)]
            show zs[((-1 : Int) + (zs.length : Int)).toNat]? = _
            rw [show ((-1 : Int) + (zs.length : Int)).toNat = zs.length - 1 by omega]
            exact hzt))) ev_c (rv_ixT (v := .int h') (st_of ht') rfl)) ev_c rv_I0) (ev_var rfl) (rv_eq rfl))
        refine q_when (et_and (b := decide (V.int (h' + 1) = V.int lo)) t1 (fun _ => t2)) (fun hb H2 e2 => ?_) (fun hb H2 e2 => ?_)
        · have hb2 := (Bool.and_eq_true_iff.mp hb).2
          have hcl : h' + 1 = lo := V.int.inj (of_decide_eq_true hb2)
          have h2l := e2 _ _ hl'
          refine ⟨_, rfl, Or.inl ⟨rfl, zs, sq_of h2l⟩, l, zs, .ref t', rfl, rfl, h2l, hzt, ?_⟩
          have ntl : t' ≠ l := ne_of ht' hl' (by intro z; cases z)
          refine ⟨t', _, rfl, st_of (by rw [upd_ne ntl]; exact e2 _ _ ht'), rfl, _, _, rfl, _, _, rfl, rfl, ?_⟩
          refine fin (upd H2 l (.lst zs.dropLast)) zs.dropLast (joinS (ps.take i)).dropLast lo' _ (Ex.mut (eH.trans e2) hl0) upd_same ?_ (by simp; omega) ?_
          · rw [wo_upd]
            exact (hZ.mono (wo_mono e2)).dropLast
          · rw [hjs]
            unfold joinStep
            rw [hlast]
            show _ = if h' + 1 = lo then _ else _
            rw [if_pos hcl]
        · have hb2 : decide (V.int (h' + 1) = V.int lo) = false := by rw [hne] at hb; simpa using hb
          have hcl : ¬ h' + 1 = lo := fun z => of_decide_eq_false hb2 (by rw [z])
          refine fin H2 zs (joinS (ps.take i)) lo _ (eH.trans e2) (e2 _ _ hl') (hZ.mono (wo_mono e2)) hzl ?_
          rw [hjs]
          unfold joinStep
          rw [hlast]
          show _ = if h' + 1 = lo then _ else _
          rw [if_neg hcl]
    · rintro σ' H' ⟨zs, v2, v3, v4, rfl, eH, hl', hZ, hzl⟩
      have hla := hP.len
      rw [List.take_of_length_le (by omega)] at hZ
      refine s_retU (eu_tuple (K := K) (ev_var rfl) (sq_of hl')) fun t H2 ht e2 h2 => k t zs H2 (fresh_back eH ht) (eH.trans e2) h2 ((hZ.mono wo_sub).mono e2)
theorem ok_ages {f : Addr} {fd : FuncData} (F : Fn K "ages" "Wording.ages" s_Wording_ages f fd) (T : Tx K mg cR cS cW) (c1 : Cal P w K mg base CX0 1 "joined" ["stretches"] spJoined) (c2 : Met P w K mg base CX0 3 cS "stretch_with" ["self", "word", "count"] (spStretch cR cS)) :
    FnOk P w K mg base CX0 4 f fd ["self", "label"] (spAges cR cS cW) := by
  obtain ⟨f1, fd1, G_joined, m_joined, k_joined, b_joined⟩ := c1.ex
  obtain ⟨f2, fd2, G_Span_stretch_with, M_Span_stretch_with, b_Span_stretch_with⟩ := c2.ex
  refine F.ok sc_Wording_ages (fun vs H Q E h => ?_) (fun cdv A outer s H vs Q E hr h => ?_)
  · obtain ⟨p, q, rows, wd, c, rfl, _⟩ := h; rfl
  · obtain ⟨p, q, rows, wd, c, rfl, ⟨dx, ta, tb, xs, ys, hp, hta, hR, htb, hS⟩, ok, hq, hc, k⟩ := h
    refine ⟨_, PSs.nox (pss_cons (ps_asg (pv 1) (pg_tup rfl (pgs_cons (pg_name (i := 2) sc_Wording_ages.nd rfl (Or.inr rfl)) (pgs_cons (pg_name (i := 3) sc_Wording_ages.nd rfl (Or.inr rfl)) pgs_nil)))) (pss_cons (ps_setLc (i := 4) (own := [("span", 5)]) rfl sc_Wording_ages.nd rfl rfl (sw_true rfl rfl rfl (by decide +kernel)) (pi_tup (pe_fld (pv 0) rfl)) (blkOk_by (own := [("span", 5)]) (N := ["self", "label", "word", "count", "stretches", "span", "stretch"]) (sc := defScope s_Wording_ages) (by decide +kernel)) (fun _ _ _ _ _ => by exact (pg_name (i := 5) sc_Wording_ages.nd rfl (Or.inl rfl))) (fun _ _ _ _ _ => by exact pts_nil) (fun _ _ _ _ _ => by exact (pe_meth (pv 5) T.span M_Span_stretch_with G_Span_stretch_with (hr.mono (by decide)) b_Span_stretch_with .nil pass0 (pa_cons (pv 2) (pa_cons (pv 3) pa_nil))))) (pss_one (ps_ret (pe_call G_joined (hr.mono (by decide)) rfl m_joined k_joined b_joined .nil pass0 (pa_cons (pe_lc (own := [("stretch", 6)]) rfl sc_Wording_ages.nd (pi_list (pv 4)) (blkOk_by (own := [("stretch", 6)]) (N := ["self", "label", "word", "count", "stretches", "span", "stretch"]) (sc := defScope s_Wording_ages) (by decide +kernel)) (fun _ _ _ _ _ => by exact (pg_name (i := 6) sc_Wording_ages.nd rfl (Or.inl rfl))) (fun _ _ _ _ _ => by exact (pts_one (pt_cmp (pc_notN (pv 6))))) (fun _ _ _ _ _ => by exact (pv 6))) pa_nil)))))), ?_⟩
    have hlen : ys.length ≤ 1000 := by rw [hS.1, spansFrom_len]; exact ok.n
    refine ⟨_, rfl, q, _, rfl, st_of hq, rfl, _, _, rfl, _, _, rfl, rfl, ?_⟩
    show tSeq _ _ _ [some (.ref p), some (.ref q), some (.str wd), some (oV c), none, none, none] H
    refine q_asgE (K := K) (isT := true) (xs := ys) (a := tb) (vs := [5]) (R := fun i y H => ∀ s, (spansFrom 0 none rows)[i]? = some s → StrAt (stretchWith s wd c) y H) (fun i y H1 H2 e h s hs => (h s hs).mono e) (ev_fld (ev_var rfl) hp T.wording T.w2 rfl) (st_of htb) (by omega) (fun i x M e hx => ?_) (fun a1 zs H1 h1 e1 hz hE => ?_)
    · obtain ⟨r, sp, rfl, hsi, sA⟩ := (hS.mono e).get hx
      obtain ⟨dz, qr, hq2, _⟩ := id sA
      refine ⟨[some (.ref p), some (.ref q), some (.str wd), some (oV c), none, some (.ref r), none], rfl, fun H1 k _ hk => hk, fun H1 Dl acc e1 hM hD Q' q' => ?_⟩
      refine ⟨_, rfl, r, dz, _, rfl, e1 _ _ hq2, rfl, _, rfl, _, rfl, r, sp, wd, c, rfl, sA.mono e1, ok.spans sp (List.mem_of_getElem? hsi), hc, ?_⟩
      have hh : ∀ y H2, Ex H1 H2 → StrAt (stretchWith sp wd c) y (wo Dl H2) → Q' y H2 := fun y H2 e2 hy => q' y H2 e2 fun s hs => by
        rw [hsi] at hs
        cases hs
        exact hy
      cases hst : stretchWith sp wd c with
      | none => exact fun H2 e2 => hh .non H2 e2 (by rw [hst]; rfl)
      | some pr => exact fun t H2 ht e2 h2 => hh (.ref t) H2 e2 (by rw [hst]; exact ⟨t, rfl, by rw [wo_ne (ne_of_none hD ht).symm]; exact h2⟩)
    · show tRet _ _ [some (.ref p), some (.ref q), some (.str wd), some (oV c), some (.ref a1), none, none] H1
      have hzl := hE.1
      have hlc := el_lcL (K := K) (σ := [some (.ref p), some (.ref q), some (.str wd), some (oV c), some (.ref a1), none, none]) (H := H1) (a := a1) (xs := zs) (tl := tVar 4) (j := 6) (vs := [6]) (t := tB (tNotN (tVar 6))) (te := tVar 6)
        (fun i => !decide ((zs[i]?).getD .non = .non)) (fun i => (zs[i]?).getD .non) (ev_var rfl) (sq_of hz) (by omega) (fun x => rfl)
        (fun i x H2 e2 hi => by rw [hi]; exact et_B (ev_notN (ev_var rfl))) (fun i x H2 e2 hi _ => by rw [hi]; exact ev_var rfl)
      rw [given_list (L := zs) (p := fun y => !decide (y = .non)) (q := fun y => y) (fun i y hi => by rw [hi]; exact ⟨rfl, rfl⟩) zs.length (Nat.le_refl _), List.take_of_length_le (Nat.le_refl _), List.map_id'] at hlc
      have hPF : PairsAt H1 (zs.filter fun y => !decide (y = .non)) ((spansFrom 0 none rows).filterMap (stretchWith · wd c)) :=
        pairs_filter _ zs (by rw [hzl, hS.1]) (fun i s y hs hy => (hE.2 i y hy s hs).mono wo_sub)
      refine s_retCL hlc fun a2 H2 h2 e2 hz2 => ?_
      refine ⟨a2, _, _, rfl, hz2, hPF.mono e2, fun pr hpr => ?_, ?_, fun t ys2 H3 ht e3 h3 hJ => k t ys2 H3 (fresh_back (e1.trans e2) ht) ((e1.trans e2).trans e3) h3 hJ⟩
      · obtain ⟨s, hs, hf⟩ := fm_dropLast hpr
        exact stretch_some hf (spans_high ok.u s hs)
      · have h1 := List.length_filterMap_le (stretchWith · wd c) (spansFrom 0 none rows)
        rw [spansFrom_len] at h1
        exact Nat.le_trans h1 ok.n
end
end Age

set_option Elab.async false
set_option linter.all false
set_option maxRecDepth 100000
set_option maxHeartbeats 4000000
namespace Age
open PySem PySem.Spec PyProof.Rows L2 Evl RT
/-! ### the last edge, labels that come back -/
def lastUntil (s : SpanD) (n : Int) : Option Int := match s.row.unit with
  | none => if s.fresh = true then some s.low else none
  | some u => if fst (cnt (limO s n) u s.row.way) u s.row.way > s.low then some (fst (cnt (limO s n) u s.row.way) u s.row.way) else if s.fresh = true then some s.low else none
def lastIn (n : Int) (s : SpanD) : Option Int := if s.low ≤ n then lastUntil s n else none
def lastEdge (ss : List SpanD) (n : Int) : Int := (ss.reverse.findSome? (lastIn n)).getD 0
def sharedFrom (s e : SpanD) (u v : Int) : Int := if cnt e.low v e.row.way > cnt s.low u s.row.way + (if s.fresh = true then 0 else 1) then cnt e.low v e.row.way else cnt s.low u s.row.way + (if s.fresh = true then 0 else 1)
def edgeShared (s e : SpanD) : Option Int := if s.row.word = e.row.word then match s.row.unit, e.row.unit with
    | none, none => if s.fresh = true then some s.low else none
    | some u, some v => match stretchWith s s.row.word (some (sharedFrom s e u v)) with
      | none => none
      | some p => if sharedFrom s e u v > cnt (e.high.getD 0) v e.row.way then none else some p.1
    | _, _ => none
  else none
def againAt (ss : List SpanD) (i : Nat) : List Int := match ss[i]? with
  | some s => (ss.take i).filterMap (edgeShared s)
  | none => []
def minL : List Int → Option Int
  | [] => none
  | x :: xs => match minL xs with
    | none => some x
    | some m => some (if m < x then m else x)
theorem minL_is : ∀ {L : List Int} {m : Int}, m ∈ L → (∀ y ∈ L, m ≤ y) → minL L = some m
  | [], _, h, _ => nomatch h
  | [x], m, h, _ => by rw [List.mem_singleton.mp h]; rfl
  | x :: y :: r, m, h, hm => by
    by_cases hr : m ∈ y :: r
    · have ih := minL_is hr fun z hz => hm z (List.mem_cons_of_mem _ hz)
      have h1 := hm x List.mem_cons_self
      unfold minL
      rw [ih]
      show some (if m < x then m else x) = some m
      split
      · rfl
      · congr 1; omega
    · have e : m = x := by
        rcases List.mem_cons.mp h with z | z
        · exact z
        · exact absurd z hr
      unfold minL
      cases hq : minL (y :: r) with
      | none => rw [e]
      | some q =>
        show some (if q < x then q else x) = some m
        have hmem : ∀ {L : List Int} {q : Int}, minL L = some q → q ∈ L := by
          intro L
          induction L with
          | nil => intro q h; cases h
          | cons a L ih =>
            intro q h
            unfold minL at h
            cases ha : minL L with
            | none => rw [ha] at h; cases h; exact List.mem_cons_self
            | some b =>
              rw [ha] at h
              have h' : (if b < a then b else a) = q := Option.some.inj h
              split at h'
              · rw [← h']; exact List.mem_cons_of_mem _ (ih ha)
              · rw [← h']; exact List.mem_cons_self
        have h2 := hm q (List.mem_cons_of_mem _ (hmem hq))
        rw [if_neg (by omega), e]
def retFrom (ss : List SpanD) : Nat → Nat → Option Int
  | 0, _ => none
  | k + 1, i => match minL (againAt ss i) with
    | some m => some m
    | none => retFrom ss k (i + 1)
def returnsOf (ss : List SpanD) : Option Int := retFrom ss ss.length 0
def spLastUntil (cR cS : Addr) : Sp := fun vs H Q _ => ∃ (p : Addr) (s : SpanD) (n : Int), vs = [.ref p, .int n] ∧ SpanAt cR cS H p s ∧ SpanOk s ∧ Ag n ∧ RetV (oV (lastUntil s n)) H Q
theorem spv_lastUntil {cR cS p : Addr} {s : SpanD} {n : Int} {H : Hp} (h : SpanAt cR cS H p s) (o : SpanOk s) (hn : Ag n) : SpV (spLastUntil cR cS) [.ref p, .int n] H (oV (lastUntil s n)) := fun H1 e Q q E => ⟨p, s, n, rfl, h.mono e, o, hn, q⟩
def spLast (cR cS cW : Addr) : Sp := fun vs H Q _ => ∃ (p : Addr) (rows : List RowD) (n : Int), vs = [.ref p, .int n] ∧ WordAt cR cS cW H p rows ∧ RowsOk rows ∧ Ag n ∧ RetV (.int (lastEdge (spansFrom 0 none rows) n)) H Q
theorem spv_last {cR cS cW p : Addr} {rows : List RowD} {n : Int} {H : Hp} (h : WordAt cR cS cW H p rows) (o : RowsOk rows) (hn : Ag n) : SpV (spLast cR cS cW) [.ref p, .int n] H (.int (lastEdge (spansFrom 0 none rows) n)) := fun H1 e Q q E => ⟨p, rows, n, rfl, h.mono e, o, hn, q⟩
def spShared (cR cS : Addr) : Sp := fun vs H Q _ => ∃ (p q : Addr) (s e : SpanD), vs = [.ref p, .ref q] ∧ SpanAt cR cS H p s ∧ SpanAt cR cS H q e ∧ SpanOk s ∧ SpanOk e ∧ e.high.isSome = true ∧ RetV (oV (edgeShared s e)) H Q
theorem spv_shared {cR cS p q : Addr} {s e : SpanD} {H : Hp} (h : SpanAt cR cS H p s) (h2 : SpanAt cR cS H q e) (o : SpanOk s) (o2 : SpanOk e) (hh : e.high.isSome = true) : SpV (spShared cR cS) [.ref p, .ref q] H (oV (edgeShared s e)) := fun H1 x Q k E => ⟨p, q, s, e, rfl, h.mono x, h2.mono x, o, o2, hh, k⟩
def spReturns (cR cS cW : Addr) : Sp := fun vs H Q _ => ∃ (p : Addr) (rows : List RowD), vs = [.ref p] ∧ WordAt cR cS cW H p rows ∧ RowsOk rows ∧ RetV (oV (returnsOf (spansFrom 0 none rows))) H Q
theorem spv_returns {cR cS cW p : Addr} {rows : List RowD} {H : Hp} (h : WordAt cR cS cW H p rows) (o : RowsOk rows) : SpV (spReturns cR cS cW) [.ref p] H (oV (returnsOf (spansFrom 0 none rows))) := fun H1 e Q q E => ⟨p, rows, rfl, h.mono e, o, q⟩
/-- x = [e for .. in ..] over a new tuple -/
theorem q_asgLcT {K : PySem.W.Frag} {σ : L2.St} {H : Hp} {te tl : TE} {g : TG} {tt : TT} {D : Ends} {tz : TS} {j : Nat} {vs : List Nat} {Pa : Addr → List V → Hp → Prop}
    (h : ∀ Q' : VK, (∀ t xs H1, Ex H H1 → H1 t = some (.tup xs) → Pa t xs H1 → Q' (.ref t) H1) → tl σ H Q')
    (k : ∀ t xs H1, Ex H H1 → H1 t = some (.tup xs) → Pa t xs H1 → tLc (iTup K (tC (.ref t))) g tt te vs σ H1 (fun x H2 => tz D (σ.set j (some x)) H2)) : tSeq (tAsg (tLc (iTup K tl) g tt te vs) (gName j)) tz D σ H :=
  h _ fun t xs H1 e h1 p => k t xs H1 e h1 p
section
variable {K : PySem.W.Frag} {σ : L2.St} {H : Hp} {ta : TE} {a C dx : Addr} {fs : List (Str × V)}
/-- a method's call, by its promise at hand -/
theorem em_meth {m : Str} {sp : Sp} {dvs vs : List V} {E : XK} {t : TA} {Q : VK} (ha : Ev ta σ H (.ref a)) (h : H a = some (.ins C dx fs)) (l : fs.lookup m = none) (ht : EvA t σ H vs) (hs : ∀ H1, Ex H H1 → sp (.ref a :: (vs ++ dvs)) H1 Q E) : tMeth C m sp dvs E ta t σ H Q :=
  ha H (Ex.refl H) _ fun H2 e2 => ⟨a, dx, fs, rfl, e2 a _ h, l, ht H2 e2 _ fun H3 e3 => hs H3 (e2.trans e3)⟩
end
/-- a loop over a tuple, from behind -/
theorem q_forRT {K : PySem.W.Frag} {σ : L2.St} {H : Hp} {tl : TE} {g : TG} {tb tz : TS} {D : Ends} {a : Addr} {xs : List V} (h : Ev tl σ H (.ref a)) (hx : SqT K H a xs) (Pv : Nat → L2.St → Hp → Prop) (h0 : ∀ H1, Ex H H1 → Pv 0 σ H1) (hq : ∀ i σ H, Pv i σ H → SqT K H a xs)
    (hs : ∀ (i : Nat) (x : V) (σ : L2.St) (H : Hp), i < xs.length → xs[xs.length - 1 - i]? = some x → Pv i σ H → g x σ H fun σ2 H2 => tb { D with nx := Pv (i + 1), ct := Pv (i + 1), bk := tz D } σ2 H2) (hd : ∀ σ H, Pv xs.length σ H → tz D σ H) : tSeq (tFor (iRevA K tl) g tb) tz D σ H :=
  h H (Ex.refl H) _ fun H1 e => ⟨a, xs, rfl, Or.inr ⟨ex_t e hx, for_ItvT (D := { D with nx := tz D }) Pv (h0 H1 e) hq hs hd⟩⟩
theorem limO_ag {s : SpanD} {n : Int} (o : SpanOk s) (hn : Ag n) : Ag (limO s n) := by
  unfold limO
  split
  · exact hn
  · rename_i h hh
    split
    · exact o.hi h hh
    · exact hn
theorem cnt_ok {n u : Int} {w : Str} (hn : Ag n) (u0 : 0 < u) (u1 : Ag u) : 0 ≤ cnt n u w ∧ cnt n u w ≤ 2722258935367507707706996859454145691648 := by
  have := cnt_bd w hn.1 u0
  unfold Ag at hn u1
  omega
theorem lt_wide {n u : Int} {w : Str} (hn : Ag n) (u0 : 0 < u) (u1 : Ag u) : Sm (cnt n u w) := by
  have := cnt_ok (w := w) hn u0 u1
  unfold Sm
  omega
section
variable {P : Program} {w : World} {K : PySem.W.Frag} {mg : Str → Option Value} {base : Heap} {cR cS cW : Addr}
theorem ok_lastUntil {f : Addr} {fd : FuncData} (F : Fn K "last_edge_until" "Span.last_edge_until" s_Span_last_edge_until f fd) (T : Tx K mg cR cS cW) (c1 : Cal P w K mg base CX0 3 "count_in" ["row", "age"] (spCountIn cR)) (c2 : Cal P w K mg base CX0 2 "first_with" ["count", "unit", "way"] spFirst) (c3 : Met P w K mg base CX0 1 cS "limited" ["self", "age"] (spLimited cR cS)) :
    FnOk P w K mg base CX0 4 f fd ["self", "age"] (spLastUntil cR cS) := by
  obtain ⟨f1, fd1, G_count_in, m_count_in, k_count_in, b_count_in⟩ := c1.ex
  obtain ⟨f2, fd2, G_first_with, m_first_with, k_first_with, b_first_with⟩ := c2.ex
  obtain ⟨f3, fd3, G_Span_limited, M_Span_limited, b_Span_limited⟩ := c3.ex
  refine F.ok sc_Span_last_edge_until (fun vs H Q E h => ?_) (fun cdv A outer s H vs Q E hr h => ?_)
  · obtain ⟨p, s, n, rfl, _⟩ := h; rfl
  · obtain ⟨p, ⟨lo, hi, ⟨til, unit, way, word⟩, fr⟩, n, rfl, sA, o, hn, k⟩ := h
    obtain ⟨dx, q, h, ⟨dy, hr2⟩⟩ := id sA
    refine ⟨_, PSs.nox (pss_cons (ps_if (pt_cmp (pc_notN (pe_fld (pe_fld (pv 0) rfl) rfl))) (pss_cons (ps_set (i := 2) sc_Span_last_edge_until.nd rfl (Or.inl rfl) (pe_call G_count_in (hr.mono (by decide)) rfl m_count_in k_count_in b_count_in .nil pass0 (pa_cons (pe_fld (pv 0) rfl) (pa_cons (pe_meth (pv 0) T.span M_Span_limited G_Span_limited (hr.mono (by decide)) b_Span_limited .nil pass0 (pa_cons (pv 1) pa_nil)) pa_nil)))) (pss_cons (ps_set (i := 3) sc_Span_last_edge_until.nd rfl (Or.inl rfl) (pe_call G_first_with (hr.mono (by decide)) rfl m_first_with k_first_with b_first_with .nil pass0 (pa_cons (pv 2) (pa_cons (pe_fld (pe_fld (pv 0) rfl) rfl) (pa_cons (pe_fld (pe_fld (pv 0) rfl) rfl) pa_nil))))) (pss_one (ps_if (pt_cmpR op_gt (pv 3) (pe_fld (pv 0) rfl) (nomark _)) (pss_one (ps_ret (pv 3))) pss_nil)))) pss_nil) (pss_one (ps_ret (pe_ifExp (pt_val (pe_fld (pv 0) rfl)) (pe_fld (pv 0) rfl) pe_non)))), ?_⟩
    have vl : ∀ σ, σ[0]? = some (some (V.ref p)) → Ev (tFld K (tVar 0) "low") σ H (.int lo) := fun σ hs => ev_fld (ev_var hs) h T.span T.s1 rfl
    have vf : ∀ σ, σ[0]? = some (some (V.ref p)) → Ev (tFld K (tVar 0) "is_fresh") σ H (.bl fr) := fun σ hs => ev_fld (ev_var hs) h T.span T.s4 rfl
    have vr : ∀ σ, σ[0]? = some (some (V.ref p)) → Ev (tFld K (tVar 0) "row") σ H (.ref q) := fun σ hs => ev_fld (ev_var hs) h T.span T.s3 rfl
    have vu : ∀ σ, σ[0]? = some (some (V.ref p)) → Ev (tFld K (tFld K (tVar 0) "row") "unit") σ H (oV unit) := fun σ hs => ev_fld (vr σ hs) hr2 T.row T.r2 rfl
    have vw : ∀ σ, σ[0]? = some (some (V.ref p)) → Ev (tFld K (tFld K (tVar 0) "row") "way") σ H (.str way) := fun σ hs => ev_fld (vr σ hs) hr2 T.row T.r3 rfl
    have rA : RowAt cR H q ⟨til, unit, way, word⟩ := ⟨dy, hr2⟩
    -- the end, whatever stands in the slots
    have fin : ∀ v2 v3 H2, Ex H H2 → Ev (tIf (tTest (tFld K (tVar 0) "is_fresh")) (tFld K (tVar 0) "low") (tC .non)) [some (.ref p), some (.int n), v2, v3] H2 (oV (if fr = true then some lo else none)) := fun v2 v3 H2 e2 =>
      ev_if (et_test ((vf _ rfl).mono e2)) (fun hb => by rw [if_pos hb]; exact (vl _ rfl).mono e2) (fun hb => by rw [if_neg (by rw [hb]; decide)]; exact ev_c)
    cases unit with
    | none =>
      refine q_when (et_B (ev_notN (vu _ rfl))) (fun hb => Bool.noConfusion hb) (fun hb H1 e1 => ?_)
      exact s_ret (fin none none H1 e1) fun H2 e2 => k H2 (e1.trans e2)
    | some u =>
      have ⟨u0, u1⟩ := o.row.un u rfl
      refine q_when (et_B (ev_notN (vu _ rfl))) (fun hb H1 e1 => ?_) (fun hb => Bool.noConfusion hb)
      have hl := limO_ag o hn
      generalize hlim : limO ⟨lo, hi, ⟨til, some u, way, word⟩, fr⟩ n = m at hl
      refine q_asg (v := .int (cnt m u way)) (ev_call (ea_cons ((vr _ rfl).mono e1) (ea_cons (by rw [← hlim]; exact ev_meth (ev_var rfl) (e1 _ _ h) rfl (ea_cons (ev_var rfl) ea_nil) (spv_limited (sA.mono e1))) ea_nil)) (spv_countIn (rA.mono e1) o.row)) (fun H2 e2 => ?_)
      have e12 := e1.trans e2
      refine q_asg (v := .int (fst (cnt m u way) u way)) (ev_call (ea_cons (ev_var rfl) (ea_cons ((vu _ rfl).mono e12) (ea_cons ((vw _ rfl).mono e12) ea_nil))) (spv_first (lt_wide hl u0 u1) u1.sm)) (fun H3 e3 => ?_)
      have e13 := e12.trans e3
      have hk : lastUntil ⟨lo, hi, ⟨til, some u, way, word⟩, fr⟩ n = if fst (cnt m u way) u way > lo then some (fst (cnt m u way) u way) else if fr = true then some lo else none := by rw [← hlim]; rfl
      rw [hk] at k
      refine s_when (et_test (ev_op (ev_var rfl) ((vl _ rfl).mono e13) rv_I0)) (fun hb H4 e4 => ?_) (fun hb H4 e4 => ?_)
      · rw [if_pos (of_decide_eq_true hb)] at k
        exact s_ret (ev_var rfl) fun H5 e5 => k H5 ((e13.trans e4).trans e5)
      · rw [if_neg (of_decide_eq_false hb)] at k
        exact s_ret (fin _ _ H4 (e13.trans e4)) fun H5 e5 => k H5 ((e13.trans e4).trans e5)
theorem ok_last {f : Addr} {fd : FuncData} (F : Fn K "last_edge" "Wording.last_edge" s_Wording_last_edge f fd) (T : Tx K mg cR cS cW) (B : Bn mg) (c1 : Cal P w K mg base CX0 1 "demand_age" ["age"] spDemand) (c2 : Met P w K mg base CX0 4 cS "last_edge_until" ["self", "age"] (spLastUntil cR cS)) :
    FnOk P w K mg base CX0 5 f fd ["self", "age"] (spLast cR cS cW) := by
  obtain ⟨f1, fd1, G_demand_age, m_demand_age, k_demand_age, b_demand_age⟩ := c1.ex
  obtain ⟨f2, fd2, G_Span_last_edge_until, M_Span_last_edge_until, b_Span_last_edge_until⟩ := c2.ex
  refine F.ok sc_Wording_last_edge (fun vs H Q E h => ?_) (fun cdv A outer s H vs Q E hr h => ?_)
  · obtain ⟨p, rows, n, rfl, _⟩ := h; rfl
  · obtain ⟨p, rows, n, rfl, ⟨dx, ta, tb, xs, ys, hp, hta, hR, htb, hS⟩, ok, hn, k⟩ := h
    refine ⟨_, PSs.nox (pss_cons (ps_expr (pe_call G_demand_age (hr.mono (by decide)) rfl m_demand_age k_demand_age b_demand_age .nil pass0 (pa_cons (pv 1) pa_nil))) (pss_cons (ps_for PassesOwn.never rfl (pi_revA rfl B.reversed (pe_fld (pv 0) rfl)) (pg_name (i := 2) sc_Wording_last_edge.nd rfl (Or.inl rfl)) (pss_cons (ps_set (i := 3) sc_Wording_last_edge.nd rfl (Or.inl rfl) (pe_ifExp (pt_cmpR op_le (pe_fld (pv 2) rfl) (pv 1) (nomark _)) (pe_meth (pv 2) T.span M_Span_last_edge_until G_Span_last_edge_until (hr.mono (by decide)) b_Span_last_edge_until .nil pass0 (pa_cons (pv 1) pa_nil)) pe_non)) (pss_one (ps_if (pt_cmp (pc_notN (pv 3))) (pss_one (ps_ret (pv 3))) pss_nil)))) (pss_one (ps_ret pe_int)))), ?_⟩
    refine q_drop (ev_call (ea_cons (ev_var rfl) ea_nil) (spv_demand hn.1)) fun H1 e1 => ?_
    have hyl := hS.1
    refine q_forRT (K := K) (xs := ys) (a := tb) (ev_fld (ev_var rfl) (e1 _ _ hp) T.wording T.w2 rfl) (st_of (e1 _ _ htb)) (fun i σ H' => Ex H H' ∧ (∃ v2 v3, σ = [some (.ref p), some (.int n), v2, v3]) ∧ lastEdge (spansFrom 0 none rows) n = lastEdge ((spansFrom 0 none rows).take (ys.length - i)) n) (fun H2 e2 => ⟨e1.trans e2, ⟨none, none, rfl⟩, by rw [List.take_of_length_le (by omega)]⟩)
      (fun i σ' H' p => st_of (p.1 _ _ htb)) ?_ ?_
    · rintro i x σ' H' hi hx ⟨e, ⟨v2, v3, rfl⟩, hl⟩
      obtain ⟨q, sp, rfl, hsi, sA⟩ := (hS.mono e).get hx
      obtain ⟨dz, qr, hq, _⟩ := id sA
      have hso := ok.spans sp (List.mem_of_getElem? hsi)
      have hstep : lastEdge ((spansFrom 0 none rows).take (ys.length - i)) n = match lastIn n sp with
          | some b => b
          | none => lastEdge ((spansFrom 0 none rows).take (ys.length - (i + 1))) n := by
        have e1 : ys.length - i = (ys.length - 1 - i) + 1 := by omega
        have e2 : ys.length - (i + 1) = ys.length - 1 - i := by omega
        rw [e1, e2, List.take_add_one, hsi]
        unfold lastEdge
        simp only [Option.toList, List.reverse_append, List.reverse_cons, List.reverse_nil, List.nil_append, List.singleton_append, List.findSome?_cons]
        cases lastIn n sp <;> rfl
      rw [hstep] at hl
      show tSeq (tAsg _ _) _ _ [some (.ref p), some (.int n), some (.ref q), v3] H'
      have hev : Ev (tIf (tTest (tOp (rI0 fun i j => .bl (decide (i ≤ j))) (tFld K (tVar 2) "low") (tVar 1))) (tMeth cS "last_edge_until" (spLastUntil cR cS) [] E0 (tVar 2) (tCons (tVar 1) tNil)) (tC .non)) [some (.ref p), some (.int n), some (.ref q), v3] H' (oV (lastIn n sp)) := by
        refine ev_if (et_test (ev_op (ev_fld (ev_var rfl) hq T.span T.s1 rfl) (ev_var rfl) rv_I0)) (fun hb => ?_) (fun hb => ?_)
        · have e : lastIn n sp = lastUntil sp n := if_pos (of_decide_eq_true hb)
          rw [e]
          exact ev_meth (ev_var rfl) hq rfl (ea_cons (ev_var rfl) ea_nil) (spv_lastUntil sA hso hn)
        · have e : lastIn n sp = none := if_neg (of_decide_eq_false hb)
          rw [e]
          exact ev_c
      refine q_asg hev fun H3 e3 => ?_
      cases he : lastIn n sp with
      | none =>
        rw [he] at hl
        exact s_when (et_B (ev_notN (ev_var rfl))) (fun hb => Bool.noConfusion hb) (fun hb H4 e4 => ⟨(e.trans e3).trans e4, ⟨_, _, rfl⟩, hl⟩)
      | some b =>
        rw [he] at hl
        rw [hl] at k
        exact s_when (et_B (ev_notN (ev_var rfl))) (fun hb H4 e4 => s_ret (ev_var rfl) fun H5 e5 => k H5 (((e.trans e3).trans e4).trans e5)) (fun hb => Bool.noConfusion hb)
    · rintro σ' H' ⟨e, ⟨v2, v3, rfl⟩, hl⟩
      rw [Nat.sub_self, List.take_zero] at hl
      have hl' : lastEdge (spansFrom 0 none rows) n = 0 := hl
      rw [hl'] at k
      exact s_ret ev_c fun H3 e3 => k H3 (e.trans e3)
end
end Age

set_option Elab.async false
set_option linter.all false
set_option maxRecDepth 100000
set_option maxHeartbeats 4000000
namespace Age
open PySem PySem.Spec PyProof.Rows L2 Evl RT
section
variable {P : Program} {w : World} {K : PySem.W.Frag} {mg : Str → Option Value} {base : Heap} {cR cS cW : Addr}
theorem shared_bd {s e : SpanD} {u v : Int} (os : SpanOk s) (oe : SpanOk e) (hu : 0 < u ∧ Ag u) (hv : 0 < v ∧ Ag v) : 0 ≤ sharedFrom s e u v ∧ sharedFrom s e u v ≤ 2722258935367507707706996859454145691649 := by
  have h1 := cnt_ok (w := s.row.way) os.lo hu.1 hu.2
  have h2 := cnt_ok (w := e.row.way) oe.lo hv.1 hv.2
  unfold sharedFrom
  split
  · omega
  · split <;> omega
theorem ok_shared {f : Addr} {fd : FuncData} (F : Fn K "edge_shared" "Span.edge_shared" s_Span_edge_shared f fd) (T : Tx K mg cR cS cW) (B : Bn mg) (c1 : Cal P w K mg base CX0 3 "count_in" ["row", "age"] (spCountIn cR)) (c2 : Met P w K mg base CX0 3 cS "stretch_with" ["self", "word", "count"] (spStretch cR cS)) :
    FnOk P w K mg base CX0 4 f fd ["self", "earlier"] (spShared cR cS) := by
  obtain ⟨f1, fd1, G_count_in, m_count_in, k_count_in, b_count_in⟩ := c1.ex
  obtain ⟨f2, fd2, G_Span_stretch_with, M_Span_stretch_with, b_Span_stretch_with⟩ := c2.ex
  refine F.ok sc_Span_edge_shared (fun vs H Q E h => ?_) (fun cdv A outer s H vs Q E hr h => ?_)
  · obtain ⟨p, q, s, e, rfl, _⟩ := h; rfl
  · obtain ⟨p, q, s, e, rfl, sA, eA, os, oe, hhi, k⟩ := h
    obtain ⟨eh, heh⟩ := Option.isSome_iff_exists.mp hhi
    obtain ⟨dx, pr, h, rA⟩ := id sA
    obtain ⟨dx2, pr2, h2, rA2⟩ := id eA
    obtain ⟨dy, hr2⟩ := id rA
    obtain ⟨dy2, hr3⟩ := id rA2
    refine ⟨_, PSs.nox (pss_cons (ps_if (PW.pt (pw_or (pt_cmpR op_ne (pe_fld (pe_fld (pv 0) rfl) rfl) (pe_fld (pe_fld (pv 1) rfl) rfl) (nomark _)) (pw_or1 (pt_cmpR op_ne (pe_cmp (pc_isN (pe_fld (pe_fld (pv 0) rfl) rfl)) rfl) (pe_cmp (pc_isN (pe_fld (pe_fld (pv 1) rfl) rfl)) rfl) (nomark _))))) (pss_one (ps_ret pe_non)) pss_nil) (pss_cons (ps_if (pt_cmp (pc_isN (pe_fld (pe_fld (pv 0) rfl) rfl))) (pss_one (ps_ret (pe_ifExp (pt_val (pe_fld (pv 0) rfl)) (pe_fld (pv 0) rfl) pe_non))) pss_nil) (pss_cons (ps_set (i := 2) sc_Span_edge_shared.nd rfl (Or.inl rfl) (pe_call G_count_in (hr.mono (by decide)) rfl m_count_in k_count_in b_count_in .nil pass0 (pa_cons (pe_fld (pv 0) rfl) (pa_cons (pe_fld (pv 0) rfl) pa_nil)))) (pss_cut (ps_if (pt_not (pt_val (pe_fld (pv 0) rfl))) (pss_one (ps_aug (i := 2) sc_Span_edge_shared.nd rfl (.inl rfl) pe_int ip_add)) pss_nil) (pss_cons (ps_set (i := 2) sc_Span_edge_shared.nd rfl (Or.inl rfl) (pe_callB (call_max2 rfl) (by rfl) B.max (by decide +kernel) (pa_cons (pv 2) (pa_cons (pe_call G_count_in (hr.mono (by decide)) rfl m_count_in k_count_in b_count_in .nil pass0 (pa_cons (pe_fld (pv 1) rfl) (pa_cons (pe_fld (pv 1) rfl) pa_nil))) pa_nil)))) (pss_cons (ps_set (i := 3) sc_Span_edge_shared.nd rfl (Or.inl rfl) (pe_meth (pv 0) T.span M_Span_stretch_with G_Span_stretch_with (hr.mono (by decide)) b_Span_stretch_with .nil pass0 (pa_cons (pe_fld (pe_fld (pv 0) rfl) rfl) (pa_cons (pv 2) pa_nil)))) (pss_cons (ps_if (PW.pt (pw_or (pt_cmp (pc_isN (pv 3))) (pw_or1 (pt_cmpR op_gt (pv 2) (pe_call G_count_in (hr.mono (by decide)) rfl m_count_in k_count_in b_count_in .nil pass0 (pa_cons (pe_fld (pv 1) rfl) (pa_cons (pe_fld (pv 1) rfl) pa_nil))) (nomark _))))) (pss_one (ps_ret pe_non)) pss_nil) (pss_one (ps_ret (pe_ix ix_tup (pv 3) pe_int (fun _ _ => rfl))))))))))), ?_⟩
    have vl : ∀ σ, σ[0]? = some (some (V.ref p)) → Ev (tFld K (tVar 0) "low") σ H (.int s.low) := fun σ hs => ev_fld (ev_var hs) h T.span T.s1 rfl
    have vf : ∀ σ, σ[0]? = some (some (V.ref p)) → Ev (tFld K (tVar 0) "is_fresh") σ H (.bl s.fresh) := fun σ hs => ev_fld (ev_var hs) h T.span T.s4 rfl
    have vr : ∀ σ, σ[0]? = some (some (V.ref p)) → Ev (tFld K (tVar 0) "row") σ H (.ref pr) := fun σ hs => ev_fld (ev_var hs) h T.span T.s3 rfl
    have vu : ∀ σ, σ[0]? = some (some (V.ref p)) → Ev (tFld K (tFld K (tVar 0) "row") "unit") σ H (oV s.row.unit) := fun σ hs => ev_fld (vr σ hs) hr2 T.row T.r2 rfl
    have vo : ∀ σ, σ[0]? = some (some (V.ref p)) → Ev (tFld K (tFld K (tVar 0) "row") "word") σ H (.str s.row.word) := fun σ hs => ev_fld (vr σ hs) hr2 T.row T.r4 rfl
    have zl : ∀ σ, σ[1]? = some (some (V.ref q)) → Ev (tFld K (tVar 1) "low") σ H (.int e.low) := fun σ hs => ev_fld (ev_var hs) h2 T.span T.s1 rfl
    have zh : ∀ σ, σ[1]? = some (some (V.ref q)) → Ev (tFld K (tVar 1) "high") σ H (oV e.high) := fun σ hs => ev_fld (ev_var hs) h2 T.span T.s2 rfl
    have zr : ∀ σ, σ[1]? = some (some (V.ref q)) → Ev (tFld K (tVar 1) "row") σ H (.ref pr2) := fun σ hs => ev_fld (ev_var hs) h2 T.span T.s3 rfl
    have zu : ∀ σ, σ[1]? = some (some (V.ref q)) → Ev (tFld K (tFld K (tVar 1) "row") "unit") σ H (oV e.row.unit) := fun σ hs => ev_fld (zr σ hs) hr3 T.row T.r2 rfl
    have zo : ∀ σ, σ[1]? = some (some (V.ref q)) → Ev (tFld K (tFld K (tVar 1) "row") "word") σ H (.str e.row.word) := fun σ hs => ev_fld (zr σ hs) hr3 T.row T.r4 rfl
    refine q_when (et_or (et_test (ev_op (vo _ rfl) (zo _ rfl) (rv_ne rfl))) (fun _ => et_test (ev_op (ev_isN (vu _ rfl)) (ev_isN (zu _ rfl)) (rv_ne rfl)))) (fun hb H1 e1 => ?_) (fun hb H1 e1 => ?_)
    · have ek : edgeShared s e = none := by
        unfold edgeShared
        by_cases hw : s.row.word = e.row.word
        · rw [if_pos hw]
          rw [hw] at hb
          cases hu : s.row.unit with
          | none =>
            cases hv : e.row.unit with
            | none => rw [hu, hv] at hb; exact absurd hb (by simp)
            | some c => rfl
          | some u =>
            cases hv : e.row.unit with
            | none => rfl
            | some c => rw [hu, hv] at hb; exact absurd hb (by simp [oV])
        · rw [if_neg hw]
      rw [ek] at k
      exact s_ret ev_c fun H2 e2 => k H2 (e1.trans e2)
    · obtain ⟨hb1, hb2⟩ := Bool.or_eq_false_iff.mp hb
      have hw : s.row.word = e.row.word := by
        have z : decide (V.str s.row.word = V.str e.row.word) = true := by rw [Bool.not_eq_false'] at hb1; exact hb1
        exact V.str.inj (of_decide_eq_true z)
      cases hu : s.row.unit with
      | none =>
        have vu1 := (vu [some (.ref p), some (.ref q), none, none] rfl).mono e1
        rw [hu] at vu1
        refine q_when (et_B (ev_isN (x := .non) vu1)) (fun hb H2 e2 => ?_) (fun hb => Bool.noConfusion hb)
        have hv : e.row.unit = none := by
          cases hv : e.row.unit with
          | none => rfl
          | some c => rw [hu, hv] at hb2; exact absurd hb2 (by simp [oV])
        have ek : edgeShared s e = if s.fresh = true then some s.low else none := by
          unfold edgeShared
          rw [if_pos hw, hu, hv]
        rw [ek] at k
        have e12 := e1.trans e2
        exact s_ret (ev_if (et_test ((vf _ rfl).mono e12)) (fun hb => by rw [if_pos hb]; exact (vl _ rfl).mono e12) (fun hb => by rw [if_neg (by rw [hb]; decide)]; exact ev_c)) fun H3 e3 => k H3 (e12.trans e3)
      | some u =>
        have vu1 := (vu [some (.ref p), some (.ref q), none, none] rfl).mono e1
        rw [hu] at vu1
        obtain ⟨v, hv⟩ : ∃ v, e.row.unit = some v := by
          cases hv : e.row.unit with
          | none => rw [hu, hv] at hb2; exact absurd hb2 (by simp [oV])
          | some c => exact ⟨c, rfl⟩
        have hu' := os.row.un u hu
        have hv' := oe.row.un v hv
        have hbd := shared_bd os oe hu' hv'
        have ek : edgeShared s e = (match stretchWith s s.row.word (some (sharedFrom s e u v)) with
            | none => none
            | some p => if sharedFrom s e u v > cnt (e.high.getD 0) v e.row.way then none else some p.1) := by
          unfold edgeShared
          rw [if_pos hw, hu, hv]
          all_goals rfl
        rw [ek, heh] at k
        have ck : ∀ n, cntO s.row n = some (cnt n u s.row.way) := fun n => by unfold cntO; rw [hu]; rfl
        have ck2 : ∀ n, cntO e.row n = some (cnt n v e.row.way) := fun n => by unfold cntO; rw [hv]; rfl
        refine q_when (et_B (ev_isN (x := .int u) vu1)) (fun hb => Bool.noConfusion hb) (fun hb H2 e2 => ?_)
        have e12 := e1.trans e2
        refine q_asg (v := .int (cnt s.low u s.row.way)) (by
          have := ev_call (E := E0) (dvs := []) (ea_cons ((vr [some (.ref p), some (.ref q), none, none] rfl).mono e12) (ea_cons ((vl [some (.ref p), some (.ref q), none, none] rfl).mono e12) ea_nil)) (spv_countIn (n := s.low) (rA.mono e12) os.row)
          rw [ck] at this
          exact this) (fun H3 e3 => ?_)
        have e13 := e12.trans e3
        refine q_cut (M := fun σ H' => Ex H H' ∧ σ = [some (.ref p), some (.ref q), some (.int (cnt s.low u s.row.way + (if s.fresh = true then 0 else 1))), none]) ?_ ?_
        · refine s_when (et_not (et_test ((vf _ rfl).mono e13))) (fun hb H4 e4 => ?_) (fun hb H4 e4 => ?_)
          · have hf : s.fresh = false := by simpa using hb
            exact s_aug (a := cnt s.low u s.row.way) (b := 1) rfl ev_c fun H5 e5 => ⟨(e13.trans e4).trans e5, by rw [hf]; rfl⟩
          · have hf : s.fresh = true := by simpa using hb
            exact ⟨e13.trans e4, by rw [if_pos hf, Int.add_zero]; rfl⟩
        · rintro σ' H4 ⟨e4, rfl⟩
          have cc : ∀ σ (n : Int) (te : TE) HH, Ex H HH → σ[1]? = some (some (V.ref q)) → Ev te σ HH (.int n) → Ev (tCall (spCountIn cR) [] E0 (tCons (tFld K (tVar 1) "row") (tCons te tNil))) σ HH (.int (cnt n v e.row.way)) := fun σ n te HH eH hs ht => by
            have := ev_call (E := E0) (dvs := []) (ea_cons ((zr σ hs).mono eH) (ea_cons ht ea_nil)) (spv_countIn (n := n) (rA2.mono eH) oe.row)
            rw [ck2] at this
            exact this
          refine q_asg (v := .int (sharedFrom s e u v)) (ev_max2 (ev_var rfl) (cc _ _ _ _ e4 rfl ((zl _ rfl).mono e4))) (fun H5 e5 => ?_)
          have e45 := e4.trans e5
          show tSeq (tAsg _ _) _ _ [some (.ref p), some (.ref q), some (.int (sharedFrom s e u v)), none] H5
          refine em_meth (ev_var rfl) (e45 _ _ h) rfl (ea_cons ((vo _ rfl).mono e45) (ea_cons (ev_var rfl) ea_nil)) fun H6 e6 => ?_
          have e46 := e45.trans e6
          refine ⟨p, s, s.row.word, some (sharedFrom s e u v), rfl, sA.mono e46, os, fun c hc => ?_, ?_⟩
          · cases hc
            unfold Sm
            omega
          · cases hst : stretchWith s s.row.word (some (sharedFrom s e u v)) with
            | none =>
              rw [hst] at k
              intro H7 e7
              dsimp only [gName]
              show tSeq (tIfS _ _ _) _ _ [some (.ref p), some (.ref q), some (.int (sharedFrom s e u v)), some .non] H7
              refine q_when (et_orT (et_B (ev_isN (x := .non) (ev_var rfl)))) (fun hb H8 e8 => s_ret ev_c fun H9 e9 => k H9 (((e46.trans e7).trans e8).trans e9)) (fun hb => Bool.noConfusion hb)
            | some st =>
              obtain ⟨lo, hi⟩ := st
              rw [hst] at k
              intro t H7 ht e7 h7
              have e47 := e46.trans e7
              have zh1 : Ev (tFld K (tVar 1) "high") [some (.ref p), some (.ref q), some (.int (sharedFrom s e u v)), some (.ref t)] H7 (.int eh) := by
                have := (zh [some (.ref p), some (.ref q), some (.int (sharedFrom s e u v)), some (.ref t)] rfl).mono e47
                rw [heh] at this
                exact this
              dsimp only [gName]
              show tSeq (tIfS _ _ _) _ _ [some (.ref p), some (.ref q), some (.int (sharedFrom s e u v)), some (.ref t)] H7
              refine q_when (et_or (et_B (ev_isN (x := .ref t) (ev_var rfl))) (fun _ => et_test (ev_op (ev_var rfl) (cc _ _ _ _ e47 rfl zh1) rv_I0))) (fun hb H8 e8 => ?_) (fun hb H8 e8 => ?_)
              · have hb' : decide (cnt eh v e.row.way < sharedFrom s e u v) = true := hb
                have k' : RetV (oV (if sharedFrom s e u v > cnt eh v e.row.way then none else some lo)) H Q := k
                rw [if_pos (of_decide_eq_true hb')] at k'
                exact s_ret ev_c fun H9 e9 => k' H9 ((e47.trans e8).trans e9)
              · have hb' : decide (cnt eh v e.row.way < sharedFrom s e u v) = false := hb
                have k' : RetV (oV (if sharedFrom s e u v > cnt eh v e.row.way then none else some lo)) H Q := k
                rw [if_neg (of_decide_eq_false hb')] at k'
                exact s_ret (ev_op (ev_var rfl) ev_c (rv_ixT (v := .int lo) (st_of (e8 _ _ h7)) rfl)) fun H9 e9 => k' H9 ((e47.trans e8).trans e9)
end
end Age

set_option Elab.async false
set_option linter.all false
set_option maxRecDepth 100000
set_option maxHeartbeats 4000000
namespace Age
open PySem PySem.Spec PyProof.Rows L2 Evl
/-! ### the source of draws: a dict at p, its numbers -/
def penD (c : Addr) (at_ left : Int) : List (Key × V) := [(.inr "cells", .ref c), (.inr "at", .int at_), (.inr "left", .int left)]
def PenAt (H : Hp) (p c : Addr) (n : Int) : Prop := ∃ (at_ left : Int) (cells : List Int), H p = some (.dK (penD c at_ left)) ∧ H c = some (.lst (cells.map V.int)) ∧ 0 ≤ at_ ∧ at_ ≤ n ∧ 0 ≤ left
theorem PenAt.mono {H H' : Hp} {p c : Addr} {n : Int} (e : Ex H H') (h : PenAt H p c n) : PenAt H' p c n := by
  obtain ⟨a, l, cs, h1, h2, h3⟩ := h
  exact ⟨a, l, cs, e _ _ h1, e _ _ h2, h3⟩
theorem PenAt.le {H : Hp} {p c : Addr} {n m : Int} (h : PenAt H p c n) (e : n ≤ m) : PenAt H p c m := by
  obtain ⟨a, l, cs, h1, h2, h3, h4, h5⟩ := h
  exact ⟨a, l, cs, h1, h2, h3, Int.le_trans h4 e, h5⟩
theorem pen_cells {c : Addr} {a l : Int} : valV (penD c a l) (Sum.inr ("cells" : Str) : Key) = some (.ref c) := rfl
theorem pen_at {c : Addr} {a l : Int} : valV (penD c a l) (Sum.inr ("at" : Str) : Key) = some (.int a) := rfl
theorem pen_left {c : Addr} {a l : Int} : valV (penD c a l) (Sum.inr ("left" : Str) : Key) = some (.int l) := rfl
theorem pen_putAt {c : Addr} {a l b : Int} : putK (penD c a l) (Sum.inr ("at" : Str) : Key) (V.int b) = penD c b l := rfl
theorem pen_putLeft {c : Addr} {a l b : Int} : putK (penD c a l) (Sum.inr ("left" : Str) : Key) (V.int b) = penD c a b := rfl
def Big : Int := 1152921504606846976
section
variable {K : PySem.W.Frag} {σ : L2.St} {H : Hp} {td ty tv : TE} {v : V} {p : Addr} {kvs : List (Key × V)} {k : Str} {D : Ends} {tz : TS}
theorem ev_dget (ha : Ev td σ H (.ref p)) (h : H p = some (.dK kvs)) (hv : valV kvs (Sum.inr k : Key) = some v) : Ev (tDGet td (tC (.str k))) σ H v := fun H1 e Q q =>
  ha H1 e _ fun H2 e2 => ⟨p, v, rfl, by rw [← hv]; exact DGet.k (k := Sum.inr k) ((e.trans e2) _ _ h), q H2 e2⟩
theorem q_dput {kvs' : List (Key × V)} (ha : Ev td σ H (.ref p)) (h : H p = some (.dK kvs)) (hl : kvs.length < 1000) (ht : Ev tv σ H v) (hp : putK kvs (Sum.inr k : Key) v = kvs') (g : ∀ H1, Ex H H1 → tz D σ (upd H1 p (.dK kvs'))) : tSeq (sDPut td (tC (.str k)) tv) tz D σ H := by
  show tv σ H _
  refine ht H (Ex.refl H) _ fun H1 e1 => ha H1 e1 _ fun H2 e2 => ?_
  refine ⟨p, upd H2 p (.dK (putK kvs (Sum.inr k : Key) v)), rfl, DPut.k (k := Sum.inr k) ((e1.trans e2) _ _ h) (small1000 (by omega)), ?_⟩
  rw [hp]
  exact g H2 (e1.trans e2)
theorem ev_int {i : Int} {t : TE} (h : Ev t σ H (.int i)) : Ev (tCB (fun xs H Q => (∃ i, xs = [.int i] ∧ Q (.int i) H) ∨ ∃ k, xs = [.bl k] ∧ Q (.int (if k then 1 else 0)) H) (tCons t tNil)) σ H (.int i) := fun H1 e Q q => h H1 e _ fun H2 e2 => Or.inl ⟨i, rfl, q H2 e2⟩
theorem ev_mod {i j : Int} {ta tb : TE} (ha : Ev ta σ H (.int i)) (hb : Ev tb σ H (.int j)) (h : 0 < j) : Ev (tOp (rI (fun _ j => 0 < j) fun i j => .int (i % j)) ta tb) σ H (.int (i % j)) := ev_op ha hb (rv_I h)
end
theorem el_listN {K : PySem.W.Frag} {σ : L2.St} {H : Hp} {ta : TE} {xs : List V} (h : EvL ta σ H xs) : EvL (tCB (rListS K) (tCons ta tNil)) σ H xs := fun H1 e Q q =>
  h H1 e _ fun p H2 hp e2 h2 => ⟨p, xs, rfl, Or.inl (sq_of h2), fun l hl => q l _ (fresh_back e2 hl) (e2.trans (Ex.new hl)) upd_same⟩
/-- what stands beside the dict, and the dict goes on -/
def Pw (p c : Addr) (n : Int) (M H : Hp) : Prop := Ex M (wo p H) ∧ PenAt H p c n
section
variable {p c a : Addr} {n m : Int} {M M' H H' H2 : Hp} {o : HO}
theorem Pw.ext (h : Pw p c n M H) (e : Ex H H') : Pw p c n M H' := ⟨h.1.trans (wo_mono e), h.2.mono e⟩
theorem Pw.le (h : Pw p c n M H) (e : n ≤ m) : Pw p c m M H := ⟨h.1, h.2.le e⟩
theorem Pw.of (h : PenAt H p c n) : Pw p c n (wo p H) H := ⟨Ex.refl _, h⟩
theorem Pw.back (h : Pw p c n M H) (e : Ex M' M) : Pw p c n M' H := ⟨e.trans h.1, h.2⟩
theorem Pw.sub (h : Pw p c n M H) : Ex M H := h.1.trans wo_sub
theorem Pw.then (h : Pw p c n M H) (h2 : Pw p c m (wo p H) H2) : Pw p c m M H2 := ⟨h.1.trans h2.1, h2.2⟩
theorem PenAt.not (h : PenAt H p c n) (ha : H a = some o) (hn : ∀ kvs, o ≠ .dK kvs) : a ≠ p := by
  obtain ⟨at_, l, cs, h1, _⟩ := h
  exact ne_of ha h1 (hn _)
/-- an object of the caller's stands behind draws -/
theorem Pw.get (h : Pw p c m (wo p H) H2) (hp : PenAt H p c n) (ha : H a = some o) (hn : ∀ kvs, o ≠ .dK kvs) : H2 a = some o :=
  h.sub _ _ (by rw [wo_ne (hp.not ha hn)]; exact ha)
/-- an object that the base does not know is changed -/
theorem Pw.mut (h : Pw p c n M H) (ha : M a = none) (hc : M c ≠ none) (hap : a ≠ p) : Pw p c n M (upd H a o) := by
  obtain ⟨e, at_, l, cs, h1, h2, h3⟩ := h
  have hca : c ≠ a := fun z => hc (by rw [z]; exact ha)
  refine ⟨fun b u hb => ?_, at_, l, cs, by rw [upd_ne hap.symm]; exact h1, by rw [upd_ne hca]; exact h2, h3⟩
  have := e b u hb
  by_cases hbp : b = p
  · rw [hbp, wo_l] at this; cases this
  · rw [wo_ne hbp] at this ⊢
    rw [upd_ne (ne_of_none hb ha)]
    exact this
theorem PenAt.cell (h : PenAt H p c n) : ∃ o, wo p H c = some o := by
  obtain ⟨at_, l, cs, h1, h2, _⟩ := h
  exact ⟨_, by rw [wo_ne (ne_of h2 h1 (by intro z; cases z))]; exact h2⟩
end
theorem dp_ints {K : PySem.W.Frag} {H : Hp} : ∀ ns : List Int, DpAll K H (ns.map V.int) (ns.map PyData.int)
  | [] => .nil
  | n :: ns => .cons (.int n) (dp_ints ns)
theorem canLay_ints : ∀ ns : List Int, PyData.canLayAll0 (ns.map PyData.int) = true
  | [] => by simp [PyData.canLayAll0]
  | p :: ps => by simp [PyData.canLayAll0, PyData.canLay0, canLay_ints ps]
theorem depth_ints : ∀ ns : List Int, PyData.depthAll (ns.map PyData.int) = 0
  | [] => by simp [PyData.depthAll]
  | p :: ps => by simp [PyData.depthAll, PyData.depth, depth_ints ps]
theorem shaped_ints (ns : List Int) : SeqAt.shaped (.list (ns.map PyData.int)) = true := by
  simp [SeqAt.shaped, PyData.canLay0, canLay_ints, PyData.depth, depth_ints]
def spDraw : Sp := fun vs H Q _ => ∃ (p c : Addr) (m n : Int), vs = [.ref p, .int m] ∧ PenAt H p c n ∧ 0 < m ∧ Sm m ∧ n < Big ∧ ∀ k H', 0 ≤ k → k < m → Pw p c (n + 1) (wo p H) H' → Q (.int k) H'
def spPick : Sp := fun vs H Q _ => ∃ (p c l : Addr) (xs : List V) (n : Int), vs = [.ref p, .ref l] ∧ PenAt H p c n ∧ H l = some (.lst xs) ∧ xs ≠ [] ∧ xs.length ≤ 1000 ∧ n < Big ∧ ∀ (i : Nat) v H', xs[i]? = some v → Pw p c (n + 1) (wo p H) H' → Q v H'
def spNumber : Sp := fun vs H Q _ => ∃ (p c : Addr) (n : Int), vs = [.ref p] ∧ PenAt H p c n ∧ n + 10 < Big ∧ ∀ k H', 0 ≤ k → k < 90 → Pw p c (n + 5) (wo p H) H' → Q (.int k) H'
def Ways (s : Str) : Prop := s = "down" ∨ s = "up" ∨ s = "near"
def spWay : Sp := fun vs H Q _ => ∃ (p c : Addr) (n : Int), vs = [.ref p] ∧ PenAt H p c n ∧ n < Big ∧ ∀ s H', Ways s → Pw p c (n + 1) (wo p H) H' → Q (.str s) H'
def spPen (K : PySem.W.Frag) : Sp := fun vs H Q _ => ∃ (a : Addr) (ns : List Int), vs = [.ref a] ∧ SqL K H a (ns.map V.int) ∧ ∀ p c H', H p = none → H c = none → Ex H (wo p H') → PenAt H' p c 0 → Q (.ref p) H'
section
variable {P : Program} {w : World} {K : PySem.W.Frag} {mg : Str → Option Value} {base : Heap}
theorem cutV_map (ns : List Int) : ∃ ms : List Int, cutV (ns.map V.int) none (some 63) = ms.map V.int := by
  unfold cutV
  rw [← List.map_drop, ← List.map_take]
  exact ⟨_, rfl⟩
theorem ok_pen {f : Addr} {fd : FuncData} (F : Fn K "_law_pen" "_law_pen" s__law_pen f fd) (B : Bn mg) : FnOk P w K mg base CX0 1 f fd ["_law_script"] (spPen K) := by
  refine F.ok sc__law_pen (fun vs H Q E h => ?_) (fun cdv A outer s H vs Q E hr h => ?_)
  · obtain ⟨a, ns, rfl, _⟩ := h; rfl
  · obtain ⟨a, ns, rfl, hS, k⟩ := h
    refine ⟨_, PSs.nox (pss_one (ps_ret (pe_disp (pps_cons pe_str (pe_callTy call_list_of (by rfl) B.list (by decide +kernel) (pa_cons (pe_slice sl_list (pv 0) po_none (po_some pe_int)) pa_nil)) (pps_cons pe_str pe_int (pps_cons pe_str pe_int pps_nil))) (by rfl) (by rfl) (fun z => by cases z) (by decide)))), ?_⟩
    intro p hp
    obtain ⟨ms, hms⟩ := cutV_map ns
    have e0 : Ex H (upd H p (.dK [])) := Ex.new hp
    simp only [tPairs]
    dsimp only [tC]
    refine el_listN (K := K) (el_sl (K := K) (ev_var rfl) eo_none (eo_some ev_c) (ex_l e0 hS)) _ (Ex.refl _) _ fun l H2 hl e2 h2 => ?_
    have hp2 : H2 p = some (.dK []) := e2 _ _ upd_same
    refine ⟨hp2, [(.inr "cells", .ref l), (.inr "at", .int 0), (.inr "left", .int 0)], rfl, by show 3 ≤ 15; decide, ?_⟩
    have nlp : l ≠ p := ne_of h2 hp2 (by intro z; cases z)
    refine k p l _ hp ((fresh_back e0 hl)) ?_ ⟨0, 0, ms, upd_same, ?_, Int.le_refl _, Int.le_refl _, Int.le_refl _⟩
    · intro b o hb
      have hbp : b ≠ p := ne_of_none hb hp
      rw [wo_ne hbp, upd_ne hbp]
      exact e2 _ _ (e0 _ _ hb)
    · rw [upd_ne nlp, h2, hms]
theorem ok_draw {f : Addr} {fd : FuncData} (F : Fn K "_law_draw" "_law_draw" s__law_draw f fd) (B : Bn mg) : FnOk P w K mg base CX0 1 f fd ["_law_pen_here", "_law_many"] spDraw := by
  refine F.ok sc__law_draw (fun vs H Q E h => ?_) (fun cdv A outer s H vs Q E hr h => ?_)
  · obtain ⟨p, c, m, n, rfl, _⟩ := h; rfl
  · obtain ⟨p, c, m, n, rfl, ⟨at_, left, cells, hp, hc, a0, an, l0⟩, hm, sm, hn, k⟩ := h
    have hu := hu_of hr
    refine ⟨_, PSs.nox (pss_cons (ps_if (pt_cmpR op_ge (pe_dget hu (pv 0) pe_str (fun _ _ => rfl)) (pv 1) (nomark _)) (pss_cons (ps_set (i := 2) sc__law_draw.nd rfl (Or.inl rfl) (pe_op op_mod (pe_callTy call_int1 (by rfl) B.int (by decide +kernel) (pa_cons (pe_dget hu (pv 0) pe_str (fun _ _ => rfl)) pa_nil)) (pv 1))) (pss_cons (ps_dput hu (pv 0) pe_str (pe_op op_fdivW (pe_dget hu (pv 0) pe_str (fun _ _ => rfl)) (pv 1)) rfl) (pss_one (ps_ret (pv 2))))) pss_nil) (pss_cons (ps_set (i := 3) sc__law_draw.nd rfl (Or.inl rfl) (pe_dget hu (pv 0) pe_str (fun _ _ => rfl))) (pss_cons (ps_dput hu (pv 0) pe_str (pe_op op_add (pv 3) pe_int) rfl) (pss_cons (ps_set (i := 4) sc__law_draw.nd rfl (Or.inl rfl) (pe_op op_add (pe_op op_mulW pe_int (pv 3)) pe_int)) (pss_cut (ps_if (pt_cmpR (op_neD hr.units) (pe_dget hu (pv 0) pe_str (fun _ _ => rfl)) (pe_lst pa_nil) (nomark _)) (pss_one (ps_set (i := 4) sc__law_draw.nd rfl (Or.inl rfl) (pe_ix ix_list (pe_dget hu (pv 0) pe_str (fun _ _ => rfl)) (pe_op op_mod (pe_callTy call_int1 (by rfl) B.int (by decide +kernel) (pa_cons (pv 3) pa_nil)) (pe_callB call_len_seq (by rfl) B.len (by decide +kernel) (pa_cons (pe_dget hu (pv 0) pe_str (fun _ _ => rfl)) pa_nil))) (fun _ _ => rfl)))) pss_nil) (pss_cons (ps_if (PW.pt (pw_and (pt_cmpR op_lt (pv 3) (pe_callB call_len_seq (by rfl) B.len (by decide +kernel) (pa_cons (pe_dget hu (pv 0) pe_str (fun _ _ => rfl)) pa_nil)) (nomark _)) (pw_and1 (pt_cmpR op_ge (pv 4) (pe_op op_pow pe_int pe_int) (nomark _))))) (pss_cons (ps_dput hu (pv 0) pe_str (pe_op op_fdivW (pe_op op_sub (pv 4) (pe_op op_pow pe_int pe_int)) (pv 1)) rfl) (pss_one (ps_ret (pe_op op_mod (pe_callTy call_int1 (by rfl) B.int (by decide +kernel) (pa_cons (pe_op op_sub (pv 4) (pe_op op_pow pe_int pe_int)) pa_nil)) (pv 1))))) pss_nil) (pss_cons (ps_set (i := 5) sc__law_draw.nd rfl (Or.inl rfl) (pe_op op_add (pe_op op_add (pe_op op_add (pe_op op_mulW (pe_op op_mod (pe_callTy call_int1 (by rfl) B.int (by decide +kernel) (pa_cons (pv 4) pa_nil)) pe_int) pe_int) (pe_op op_mulW (pe_op op_mulW pe_int (pv 3)) (pv 3))) (pe_op op_mulW pe_int (pv 3))) pe_int)) (pss_cons (ps_set (i := 5) sc__law_draw.nd rfl (Or.inl rfl) (pe_op op_mod (pe_callTy call_int1 (by rfl) B.int (by decide +kernel) (pa_cons (pv 5) pa_nil)) pe_int)) (pss_cons (ps_set (i := 5) sc__law_draw.nd rfl (Or.inl rfl) (pe_op op_mod (pe_callTy call_int1 (by rfl) B.int (by decide +kernel) (pa_cons (pe_op op_mulW (pv 5) (pe_op op_add (pv 5) pe_int)) pa_nil)) pe_int)) (pss_one (ps_ret (pe_op op_mod (pe_callTy call_int1 (by rfl) B.int (by decide +kernel) (pa_cons (pe_op op_fdivW (pe_op op_mod (pe_callTy call_int1 (by rfl) B.int (by decide +kernel) (pa_cons (pe_op op_mulW (pv 5) (pv 5)) pa_nil)) pe_int) pe_int) pa_nil)) (pv 1))))))))))))), ?_⟩
    have ncp : c ≠ p := ne_of hc hp (by intro z; cases z)
    have smA : Sm at_ := by unfold Sm; unfold Big at hn; omega
    have smA1 : Sm (40014 * at_) := by unfold Sm; unfold Big at hn; omega
    refine q_when (et_test (ev_op (ev_dget (ev_var rfl) hp pen_left) (ev_var rfl) rv_I0)) (fun hb H1 e1 => ?_) (fun hb H1 e1 => ?_)
    · refine q_asg (ev_mod (ev_int (ev_dget (ev_var rfl) (e1 _ _ hp) pen_left)) (ev_var rfl) hm) fun H2 e2 => ?_
      have e12 := e1.trans e2
      refine q_dput (ev_var rfl) (e12 _ _ hp) (by show 3 < 1000; decide) (ev_op (ev_dget (ev_var rfl) (e12 _ _ hp) pen_left) (ev_var rfl) (rv_I (sm.div hm))) pen_putLeft fun H3 e3 => ?_
      have e13 := e12.trans e3
      refine s_ret (ev_var rfl) fun H4 e4 => k _ H4 (Int.emod_nonneg _ (by omega)) (Int.emod_lt_of_pos _ hm) ⟨?_, at_, left / m, cells, e4 _ _ upd_same, e4 _ _ (by rw [upd_ne ncp]; exact e13 _ _ hc), a0, by omega, Int.ediv_nonneg l0 (by omega)⟩
      exact (wo_mut e13).trans (wo_mono e4)
    · refine q_asg (ev_dget (ev_var rfl) (e1 _ _ hp) pen_at) fun H2 e2 => ?_
      have e12 := e1.trans e2
      refine q_dput (ev_var rfl) (e12 _ _ hp) (by show 3 < 1000; decide) (ev_op (ev_var rfl) ev_c rv_I0) pen_putAt fun H3 e3 => ?_
      have e13 := e12.trans e3
      have w3 : Ex (wo p H) (wo p (upd H3 p (.dK (penD c (at_ + 1) left)))) := wo_mut e13
      have h3p : upd H3 p (.dK (penD c (at_ + 1) left)) p = some (.dK (penD c (at_ + 1) left)) := upd_same
      have h3c : upd H3 p (.dK (penD c (at_ + 1) left)) c = some (.lst (cells.map V.int)) := by rw [upd_ne ncp]; exact e13 _ _ hc
      generalize upd H3 p (.dK (penD c (at_ + 1) left)) = H4 at w3 h3p h3c ⊢
      refine q_asg (ev_op (ev_op ev_c (ev_var rfl) (rv_I (Sm.mul (by unfold Sm; omega) smA))) ev_c rv_I0) fun H5 e5 => ?_
      have fcells : ∀ σ H6, Ex H4 H6 → σ[0]? = some (some (V.ref p)) → Ev (tDGet (tVar 0) (tC (.str "cells"))) σ H6 (.ref c) := fun σ H6 e hs => ev_dget (ev_var hs) (e _ _ h3p) pen_cells
      refine q_cut (M := fun σ H6 => Ex H4 H6 ∧ ∃ cell v5, σ = [some (.ref p), some (.int m), none, some (.int at_), some (.int cell), v5]) ?_ ?_
      · have tt : EvT (tTest (tOp (rNeD K) (tDGet (tVar 0) (tC (.str "cells"))) (tLst tNil))) [some (.ref p), some (.int m), none, some (.int at_), some (.int (41 * at_ + 23)), none] H5 (!(cells.isEmpty)) := by
          refine et_test (ev_opL (fcells _ _ e5 rfl) (el_lst ea_nil (by show 0 ≤ 100000; decide)) fun q H6 hq e6 => ?_)
          have h3 := rv_neD (K := K) (H := H6) (.lst (sq_of ((e5.trans e6) _ _ h3c)) (dp_ints cells)) (.lst (sq_of hq) .nil) (shaped_ints _) (by rfl)
          rw [eqv_list_nil] at h3
          rw [show cells.isEmpty = (cells.map PyData.int).isEmpty by cases cells <;> rfl]
          exact h3
        refine s_when tt (fun hb H6 e6 => ?_) (fun hb H6 e6 => ⟨e5.trans e6, _, _, rfl⟩)
        have e46 := e5.trans e6
        have hne : 0 < cells.length := by
          cases cells with
          | nil => cases hb
          | cons x r => simp
        have hj0 := Int.emod_nonneg at_ (show (cells.length : Int) ≠ 0 by omega)
        have hj1 := Int.emod_lt_of_pos at_ (show (0 : Int) < cells.length by omega)
        refine s_asg (v := .int (cells.getD (at_ % (cells.length : Int)).toNat 0)) (ev_op (fcells _ _ e46 rfl) (ev_mod (ev_int (ev_var rfl)) (ev_is (ev_len (fcells _ _ e46 rfl) (sq_of (e46 _ _ h3c))) (by rw [List.length_map])) (by omega)) (rv_ixL (sq_of (e46 _ _ h3c)) (at_of (j := (at_ % (cells.length : Int)).toNat) (by omega) ?_))) fun H7 e7 => ⟨e46.trans e7, _, _, rfl⟩
        rw [List.getElem?_map, List.getD_eq_getElem?_getD, List.getElem?_eq_getElem (by omega)]
        rfl
      · rintro σ' H6 ⟨e46, cell, v5, rfl⟩
        have fin : ∀ {i : Int} {H7 : Hp}, Ex H4 H7 → Pw p c (n + 1) (wo p H) H7 := fun {i H7} e => ⟨w3.trans (wo_mono e), at_ + 1, left, cells, e _ _ h3p, e _ _ h3c, by omega, by omega, l0⟩
        have p10 : ∀ σ H6, Ev (tOp (rI CPow fun i j => .int (i ^ j.toNat)) (tC (.int 10)) (tC (.int 18))) σ H6 (.int (10 ^ (18 : Int).toNat)) := fun σ H6 => ev_op ev_c ev_c (rv_I ⟨by decide, by decide, by decide⟩)
        refine q_when (et_and (b := decide ((10 : Int) ^ (18 : Int).toNat ≤ cell)) (et_test (ev_op (ev_var rfl) (ev_is (ev_len (fcells _ _ e46 rfl) (sq_of (e46 _ _ h3c))) (by rw [List.length_map])) rv_I0)) (fun _ => et_test (ev_op (ev_var rfl) (p10 _ _) rv_I0))) (fun hb H7 e7 => ?_) (fun hb H7 e7 => ?_)
        · have hc2 : (10 : Int) ^ (18 : Int).toNat ≤ cell := of_decide_eq_true (Bool.and_eq_true_iff.mp hb).2
          have e47 := e46.trans e7
          refine q_dput (ev_var rfl) (e47 _ _ h3p) (by show 3 < 1000; decide) (ev_op (ev_op (ev_var rfl) (p10 _ _) rv_I0) (ev_var rfl) (rv_I (sm.div hm))) pen_putLeft fun H8 e8 => ?_
          have e48 := e47.trans e8
          refine s_ret (ev_mod (ev_int (ev_op (ev_var rfl) (p10 _ _) rv_I0)) (ev_var rfl) hm) fun H9 e9 => k _ H9 (Int.emod_nonneg _ (by omega)) (Int.emod_lt_of_pos _ hm) ⟨?_, at_ + 1, _, cells, e9 _ _ upd_same, e9 _ _ (by rw [upd_ne ncp]; exact e48 _ _ h3c), by omega, by omega, Int.ediv_nonneg (by omega) (by omega)⟩
          exact (w3.trans (wo_mut e48)).trans (wo_mono e9)
        · have e47 := e46.trans e7
          have m1 : Sm (cell % 2147483587) := by
            have h1 := Int.emod_nonneg cell (show (2147483587 : Int) ≠ 0 by decide)
            have h2 := Int.emod_lt_of_pos cell (show (0 : Int) < 2147483587 by decide)
            unfold Sm
            omega
          refine q_asg (ev_op (ev_op (ev_op (ev_op (ev_mod (ev_int (ev_var rfl)) ev_c (by decide)) ev_c (rv_I (m1.mul (by unfold Sm; omega)))) (ev_op (ev_op ev_c (ev_var rfl) (rv_I (Sm.mul (by unfold Sm; omega) smA))) (ev_var rfl) (rv_I (smA1.mul smA))) rv_I0) (ev_op ev_c (ev_var rfl) (rv_I (Sm.mul (by unfold Sm; omega) smA))) rv_I0) ev_c rv_I0) fun H8 e8 => ?_
          refine q_asg (ev_mod (ev_int (ev_var rfl)) ev_c (by decide)) fun H9 e9 => ?_
          generalize hM : (_ % 2147483629 : Int) = M
          have m2 : 0 ≤ M ∧ M < 2147483629 := by
            rw [← hM]
            exact ⟨Int.emod_nonneg _ (by decide), Int.emod_lt_of_pos _ (by decide)⟩
          refine q_asg (ev_mod (ev_int (ev_op (ev_var rfl) (ev_op (ev_var rfl) ev_c rv_I0) (rv_I (Sm.mul (by unfold Sm; omega) (by unfold Sm; omega))))) ev_c (by decide)) fun H10 e10 => ?_
          generalize hM2 : (_ % 2147483549 : Int) = M2
          have m3 : 0 ≤ M2 ∧ M2 < 2147483549 := by
            rw [← hM2]
            exact ⟨Int.emod_nonneg _ (by decide), Int.emod_lt_of_pos _ (by decide)⟩
          refine s_ret (ev_mod (ev_int (ev_op (ev_mod (ev_int (ev_op (ev_var rfl) (ev_var rfl) (rv_I (Sm.mul (by unfold Sm; omega) (by unfold Sm; omega))))) ev_c (by decide)) ev_c (rv_I (Sm.div (by decide) (by unfold Sm; omega))))) (ev_var rfl) hm) fun H11 e11 => k _ H11 (Int.emod_nonneg _ (by omega)) (Int.emod_lt_of_pos _ hm) (fin (i := 0) ((((e47.trans e8).trans e9).trans e10).trans e11))
end
end Age

set_option Elab.async false
set_option linter.all false
set_option maxRecDepth 100000
set_option maxHeartbeats 4000000
namespace Age
open PySem PySem.Spec PyProof.Rows L2 Evl RT
theorem q_forET {K : PySem.W.Frag} {a : Addr} {xs : List V} {g : TG} {tb tz : TS} {D : Ends} {σ : L2.St} {H : Hp} {ta : TA} (ha : EvA ta σ H [.ref a]) (hx : SqT K H a xs) (Pv : Nat → L2.St → Hp → Prop) (h0 : ∀ H1, Ex H H1 → Pv 0 σ H1)
    (hl : ∀ i σ' H', i ≤ xs.length → Pv i σ' H' → SqT K H' a xs)
    (hs : ∀ (i : Nat) x σ' H' T, xs[i]? = some x → Pv i σ' H' → H' T = none → g (.ref T) σ' (upd H' T (.tup [.int (i : Nat), x])) fun σ2 H2 => tb { D with nx := Pv (i + 1), ct := Pv (i + 1), bk := tz D } σ2 H2)
    (hd : ∀ σ' H', Pv xs.length σ' H' → tz D σ' H') : tSeq (tFor (iEnumT K ta) g tb) tz D σ H := for_enumT (D := { D with nx := tz D }) ha hx Pv h0 hl hs hd
theorem cutV_upto {xs : List V} {i : Nat} : cutV xs none (some (i : Int)) = xs.take i := by
  unfold cutV
  rw [HT.sIx_none, HT.sIx_nat, List.drop_zero, Nat.sub_zero]
  by_cases h : i ≤ xs.length
  · rw [Nat.min_eq_left h]
  · rw [Nat.min_eq_right (by omega), List.take_of_length_le (Nat.le_refl _), List.take_of_length_le (by omega)]
theorem notnon_filter {α : Type} (g : α → Option Int) : ∀ L : List α, (L.map fun e => oV (g e)).filter (fun y => !decide (y = .non)) = (L.filterMap g).map V.int
  | [] => rfl
  | e :: L => by
    have ih := notnon_filter g L
    cases h : g e with
    | none =>
      rw [List.map_cons, h, List.filter_cons_of_neg (by simp [oV]), List.filterMap_cons_none h]
      exact ih
    | some v =>
      rw [List.map_cons, h, List.filter_cons_of_pos (by simp [oV]), List.filterMap_cons_some h, List.map_cons, ih]
      rfl
theorem retFrom_step {ss : List SpanD} {i : Nat} (h : i < ss.length) : retFrom ss (ss.length - i) i = match minL (againAt ss i) with
    | some m => some m
    | none => retFrom ss (ss.length - (i + 1)) (i + 1) := by
  rw [show ss.length - i = (ss.length - (i + 1)) + 1 by omega]
  rfl
section
variable {P : Program} {w : World} {K : PySem.W.Frag} {mg : Str → Option Value} {base : Heap} {cR cS cW : Addr}
theorem ok_returns {f : Addr} {fd : FuncData} (F : Fn K "returns" "Wording.returns" s_Wording_returns f fd) (T : Tx K mg cR cS cW) (B : Bn mg) (c2 : Met P w K mg base CX0 4 cS "edge_shared" ["self", "earlier"] (spShared cR cS)) :
    FnOk P w K mg base CX0 5 f fd ["self"] (spReturns cR cS cW) := by
  obtain ⟨f2, fd2, G_Span_edge_shared, M_Span_edge_shared, b_Span_edge_shared⟩ := c2.ex
  refine F.ok sc_Wording_returns (fun vs H Q E h => ?_) (fun cdv A outer s H vs Q E hr h => ?_)
  · obtain ⟨p, rows, rfl, _⟩ := h; rfl
  · obtain ⟨p, rows, rfl, ⟨dx, ta, tb, xs, ys, hp, hta, hR, htb, hS⟩, ok, k⟩ := h
    refine ⟨_, PSs.nox (pss_cons (ps_for PassesOwn.never rfl (pi_enumT (by rfl) B.enumerate (pa_cons (pe_fld (pv 0) rfl) pa_nil)) (pg_tup rfl (pgs_cons (pg_name (i := 1) sc_Wording_returns.nd rfl (Or.inl rfl)) (pgs_cons (pg_name (i := 2) sc_Wording_returns.nd rfl (Or.inr rfl)) pgs_nil))) (pss_cons (ps_setLc (i := 3) (own := [("earlier", 5)]) rfl sc_Wording_returns.nd rfl rfl (sw_true rfl rfl rfl (by decide +kernel)) (pi_tup (pe_slice sl_tup (pe_fld (pv 0) rfl) po_none (po_some (pv 1)))) (blkOk_by (own := [("earlier", 5)]) (N := ["self", "index", "span", "edges", "again", "earlier", "edge"]) (sc := defScope s_Wording_returns) (by decide +kernel)) (fun _ _ _ _ _ => by exact (pg_name (i := 5) sc_Wording_returns.nd rfl (Or.inl rfl))) (fun _ _ _ _ _ => by exact pts_nil) (fun _ _ _ _ _ => by exact (pe_meth (pv 2) T.span M_Span_edge_shared G_Span_edge_shared (hr.mono (by decide)) b_Span_edge_shared .nil pass0 (pa_cons (pv 5) pa_nil)))) (pss_cons (ps_setLc (i := 4) (own := [("edge", 6)]) rfl sc_Wording_returns.nd rfl rfl (sw_true rfl rfl rfl (by decide +kernel)) (pi_list (pv 3)) (blkOk_by (own := [("edge", 6)]) (N := ["self", "index", "span", "edges", "again", "earlier", "edge"]) (sc := defScope s_Wording_returns) (by decide +kernel)) (fun _ _ _ _ _ => by exact (pg_name (i := 6) sc_Wording_returns.nd rfl (Or.inl rfl))) (fun _ _ _ _ _ => by exact (pts_one (pt_cmp (pc_notN (pv 6))))) (fun _ _ _ _ _ => by exact (pv 6))) (pss_one (ps_if (pt_cmpR (op_neD hr.units) (pv 4) (pe_lst pa_nil) (nomark _)) (pss_one (ps_ret (pe_callB (cr_min rfl) (by rfl) B.min (by decide +kernel) (pa_cons (pv 4) pa_nil)))) pss_nil))))) (pss_one (ps_ret pe_non))), ?_⟩
    have hyl := hS.1
    have hln : ys.length ≤ 1000 := by rw [hyl, spansFrom_len]; exact ok.n
    have hoks := ok.spans
    have hhi := spans_high (sh := none) ok.u
    generalize spansFrom 0 none rows = ss at hS hyl k hoks hhi
    refine q_forET (K := K) (xs := ys) (a := tb) (ea_cons (ev_fld (ev_var rfl) hp T.wording T.w2 rfl) ea_nil) (st_of htb) (fun i σ H' => Ex H H' ∧ (∃ v1 v2 v3 v4 v5 v6, σ = [some (.ref p), v1, v2, v3, v4, v5, v6]) ∧ returnsOf ss = retFrom ss (ss.length - i) i)
      (fun H1 e1 => ⟨e1, ⟨none, none, none, none, none, none, rfl⟩, rfl⟩) (fun i σ' H' _ h => st_of (h.1 _ _ htb)) ?_ ?_
    · rintro i x σ' H' U hx ⟨eH, ⟨v1, v2, v3, v4, v5, v6, rfl⟩, hret⟩ hU
      obtain ⟨q, sp, rfl, hsi, sA⟩ := (hS.mono eH).get hx
      have hlt := (List.getElem?_eq_some_iff.mp hsi).1
      have hso := hoks sp (List.mem_of_getElem? hsi)
      have e2 : Ex H' (upd H' U (.tup [.int (i : Nat), .ref q])) := Ex.new hU
      refine ⟨U, _, rfl, st_of upd_same, rfl, _, _, rfl, _, _, rfl, rfl, ?_⟩
      have eD := eH.trans e2
      have sA2 := sA.mono e2
      generalize upd H' U (.tup [.int (i : Nat), .ref q]) = H2 at e2 eD sA2
      show tSeq (tAsg _ _) _ _ [some (.ref p), some (.int (i : Nat)), some (.ref q), v3, v4, v5, v6] H2
      refine q_asgLcT (K := K) (Pa := fun t zs H1 => zs = ys.take i) (fun Q' q' => ?_) (fun t zs H3 e3 ht hz => ?_)
      · refine (ev_fld (ev_var rfl) (eD _ _ hp) T.wording T.w2 rfl) H2 (Ex.refl _) _ fun Ha ea => ⟨_, rfl, _, rfl, tb, ys, rfl, st_of ((eD.trans ea) _ _ htb), ?_, fun t ht => ?_⟩
        · rintro ⟨_, h⟩
          rw [HT.sIx_nat, Nat.min_eq_left (by omega)] at h
          omega
        · have := q' t (cutV ys none (some (i : Int))) (upd Ha t (.tup (cutV ys none (some (i : Int))))) (ea.trans (Ex.new ht)) upd_same cutV_upto
          exact this
      · subst hz
        have eK := eD.trans e3
        have hSt : ∀ (j : Nat) x, (ys.take i)[j]? = some x → ∃ qe se, x = .ref qe ∧ (ss.take i)[j]? = some se ∧ ss[j]? = some se ∧ j < i ∧ SpanAt cR cS H qe se := by
          intro j x hj
          have hji : j < i := by
            have := (List.getElem?_eq_some_iff.mp hj).1
            rw [List.length_take] at this
            omega
          rw [List.getElem?_take_of_lt hji] at hj
          obtain ⟨qe, se, a, b, c⟩ := hS.get hj
          exact ⟨qe, se, a, by rw [List.getElem?_take_of_lt hji]; exact b, b, hji, c⟩
        have hhi2 : ∀ (j : Nat) se, ss[j]? = some se → j < i → se.high.isSome = true := fun j se hj hji => by
          refine hhi se ?_
          rw [List.dropLast_eq_take]
          refine List.mem_of_getElem? (i := j) ?_
          rw [List.getElem?_take_of_lt (by omega)]
          exact hj
        have hlc := el_lcT (K := K) (σ := [some (.ref p), some (.int (i : Nat)), some (.ref q), v3, v4, v5, v6]) (H := H3) (a := t) (xs := ys.take i) (tl := tC (.ref t)) (j := 5) (vs := [5]) (t := tYes) (te := tMeth cS "edge_shared" (spShared cR cS) [] E0 (tVar 2) (tCons (tVar 5) tNil))
          (fun _ => true) (fun j => match (ss.take i)[j]? with | some se => oV (edgeShared sp se) | none => .non) ev_c (st_of ht) (by rw [List.length_take]; omega) (fun x => rfl)
          (fun j x H4 e4 hj => fun H5 e5 Q q => q H5 (Ex.refl _)) (fun j x H4 e4 hj _ => by
            obtain ⟨qe, se, rfl, h1, h2, h3, h4⟩ := hSt j x hj
            rw [h1]
            obtain ⟨dz, qr, hq, _⟩ := id sA2
            exact ev_meth (ev_var rfl) ((e3.trans e4) _ _ hq) rfl (ea_cons (ev_var rfl) ea_nil) (spv_shared (sA2.mono (e3.trans e4)) (h4.mono (eK.trans e4)) hso (hoks se (List.mem_of_getElem? h2)) (hhi2 j se h2 h3)))
        rw [given_list (L := ss.take i) (p := fun _ => true) (q := fun se => oV (edgeShared sp se)) (fun j se hj => by rw [hj]; exact ⟨rfl, rfl⟩) _ (by rw [List.length_take, List.length_take]; omega), show (ys.take i).length = (ss.take i).length by rw [List.length_take, List.length_take]; omega, List.take_of_length_le (Nat.le_refl _), List.filter_eq_self.mpr (fun _ _ => rfl)] at hlc
        refine hlc H3 (Ex.refl _) _ fun l1 H4 hl1 e4 h4 => ?_
        have eL := eK.trans e4
        show tSeq (tAsg _ _) _ _ [some (.ref p), some (.int (i : Nat)), some (.ref q), some (.ref l1), v4, v5, v6] H4
        have hlc2 := el_lcL (K := K) (σ := [some (.ref p), some (.int (i : Nat)), some (.ref q), some (.ref l1), v4, v5, v6]) (H := H4) (a := l1) (xs := (ss.take i).map fun se => oV (edgeShared sp se)) (tl := tVar 3) (j := 6) (vs := [6]) (t := tB (tNotN (tVar 6))) (te := tVar 6)
          (fun j => !decide ((((ss.take i).map fun se => oV (edgeShared sp se))[j]?).getD .non = .non)) (fun j => (((ss.take i).map fun se => oV (edgeShared sp se))[j]?).getD .non) (ev_var rfl) (sq_of h4) (by rw [List.length_map, List.length_take]; omega) (fun x => rfl)
          (fun j x H5 e5 hj => by rw [hj]; exact et_B (ev_notN (ev_var rfl))) (fun j x H5 e5 hj _ => by rw [hj]; exact ev_var rfl)
        rw [given_list (L := (ss.take i).map fun se => oV (edgeShared sp se)) (p := fun y => !decide (y = .non)) (q := fun y => y) (fun j y hj => by rw [hj]; exact ⟨rfl, rfl⟩) _ (Nat.le_refl _), List.take_of_length_le (Nat.le_refl _), List.map_id', notnon_filter] at hlc2
        have hag : againAt ss i = (ss.take i).filterMap (edgeShared sp) := by unfold againAt; rw [hsi]
        rw [← hag] at hlc2
        have hstep := retFrom_step hlt
        rw [hstep] at hret
        generalize againAt ss i = L at hlc2 hret
        refine q_asgL hlc2 fun l2 H5 hl2 e5 h5 => ?_
        have eM := eL.trans e5
        show tIfS _ _ _ _ [some (.ref p), some (.int (i : Nat)), some (.ref q), some (.ref l1), some (.ref l2), v5, v6] H5
        have tt : EvT (tTest (tOp (rNeD K) (tVar 4) (tLst tNil))) [some (.ref p), some (.int (i : Nat)), some (.ref q), some (.ref l1), some (.ref l2), v5, v6] H5 (!(L.isEmpty)) := by
          refine et_test (ev_opL (ev_var rfl) (el_lst ea_nil (by show 0 ≤ 100000; decide)) fun q H6 hq e6 => ?_)
          have h3 := rv_neD (K := K) (H := H6) (.lst (sq_of (e6 _ _ h5)) (dp_ints L)) (.lst (sq_of hq) .nil) (shaped_ints _) (by rfl)
          rw [eqv_list_nil] at h3
          rw [show L.isEmpty = (L.map PyData.int).isEmpty by cases L <;> rfl]
          exact h3
        refine s_when tt (fun hb H6 e6 => ?_) (fun hb H6 e6 => ?_)
        · have hpos : 0 < L.length := by
            cases L with
            | nil => cases hb
            | cons a b => simp
          refine ⟨_, rfl, l2, L, rfl, sq_of (e6 _ _ h5), hpos, fun m hm hmin => ?_⟩
          rw [minL_is hm hmin] at hret
          have hret' : returnsOf ss = some m := hret
          rw [hret'] at k
          exact k H6 (eM.trans e6)
        · have hz : L = [] := by
            cases L with
            | nil => rfl
            | cons a b => cases hb
          rw [hz] at hret
          exact ⟨eM.trans e6, ⟨_, _, _, _, _, _, rfl⟩, hret⟩
    · rintro σ' H' ⟨eH, ⟨v1, v2, v3, v4, v5, v6, rfl⟩, hret⟩
      rw [hyl, Nat.sub_self] at hret
      have hret' : returnsOf ss = none := hret
      rw [hret'] at k
      exact s_ret ev_c fun H2 e2 => k H2 (eH.trans e2)
end
end Age

set_option Elab.async false
set_option linter.all false
set_option maxRecDepth 100000
set_option maxHeartbeats 4000000
namespace Age
open PySem PySem.Spec PyProof.Rows L2 Evl
/-! ### lists of things, item by item -/
inductive All2 {α : Type} (R : V → α → Prop) : List V → List α → Prop
  | nil : All2 R [] []
  | cons {y : V} {a : α} {ys : List V} {as : List α} : R y a → All2 R ys as → All2 R (y :: ys) (a :: as)
section
variable {α : Type} {R R' : V → α → Prop}
theorem All2.imp (f : ∀ y a, R y a → R' y a) : ∀ {ys : List V} {as : List α}, All2 R ys as → All2 R' ys as
  | _, _, .nil => .nil
  | _, _, .cons a b => .cons (f _ _ a) (b.imp f)
theorem All2.len : ∀ {ys : List V} {as : List α}, All2 R ys as → ys.length = as.length
  | _, _, .nil => rfl
  | _, _, .cons _ b => by rw [List.length_cons, List.length_cons, b.len]
theorem All2.get : ∀ {ys : List V} {as : List α} {i : Nat} {y : V}, All2 R ys as → ys[i]? = some y → ∃ a, as[i]? = some a ∧ R y a
  | _, _, _, _, .nil, h => by simp at h
  | _, _, 0, y, .cons (a := p) a b, h => by
    simp at h
    subst h
    exact ⟨p, rfl, a⟩
  | _, _, i + 1, y, .cons a b, h => by
    obtain ⟨p, h1, h2⟩ := b.get (i := i) (y := y) (by simpa using h)
    exact ⟨p, by simpa using h1, h2⟩
theorem All2.get' {ys : List V} {as : List α} {i : Nat} {a : α} (h : All2 R ys as) (ha : as[i]? = some a) : ∃ y, ys[i]? = some y ∧ R y a := by
  have hlt := (List.getElem?_eq_some_iff.mp ha).1
  have hlt2 : i < ys.length := by rw [h.len]; exact hlt
  have hy : ys[i]? = some ys[i] := List.getElem?_eq_getElem hlt2
  obtain ⟨a', h1, h2⟩ := h.get hy
  rw [ha] at h1
  cases h1
  exact ⟨_, hy, h2⟩
theorem All2.app : ∀ {ys zs : List V} {as bs : List α}, All2 R ys as → All2 R zs bs → All2 R (ys ++ zs) (as ++ bs)
  | _, _, _, _, .nil, b => b
  | _, _, _, _, .cons a c, b => .cons a (c.app b)
theorem All2.snoc {ys : List V} {as : List α} {y : V} {a : α} (h : All2 R ys as) (r : R y a) : All2 R (ys ++ [y]) (as ++ [a]) := h.app (.cons r .nil)
theorem all2_map {β : Type} {R : V → α → Prop} (f : β → V) (g : β → α) (h : ∀ b, R (f b) (g b)) : ∀ bs : List β, All2 R (bs.map f) (bs.map g)
  | [] => .nil
  | b :: bs => .cons (h b) (all2_map f g h bs)
end
/-- a row of the law's own: a tuple -/
def DRow (H : Hp) (x : V) (r : RowD) : Prop := ∃ t, x = .ref t ∧ H t = some (.tup [oV r.til, oV r.unit, .str r.way, .str r.word])
theorem DRow.mono {H H' : Hp} {x : V} {r : RowD} (e : Ex H H') (h : DRow H x r) : DRow H' x r := let ⟨t, a, b⟩ := h; ⟨t, a, e _ _ b⟩
abbrev DRows (H : Hp) (xs : List V) (rows : List RowD) : Prop := All2 (DRow H) xs rows
theorem DRows.mono {H H' : Hp} {xs : List V} {rows : List RowD} (e : Ex H H') (h : DRows H xs rows) : DRows H' xs rows := h.imp fun _ _ => DRow.mono e
def menuW : List Str := ["now", "s", "m", "h", "d", "w"]
/-- a drawn row: its numbers and words -/
structure RowG (ws : List Str) (r : RowD) : Prop where
  un : ∀ u, r.unit = some u → 0 < u ∧ u ≤ 30
  ti : ∀ t, r.til = some t → 0 < t ∧ t ≤ 546
  wy : Ways r.way
  wd : r.word ∈ ws ∨ r.word ∈ menuW
/-- rows drawn for [] are steady: the words of the menu in order, or a row that goes on as the one before -/
def Steps (rows : List RowD) : Prop := ∀ (i : Nat) r, rows[i]? = some r → menuW[i]? = some r.word ∨ ∃ j r', i = j + 1 ∧ rows[j]? = some r' ∧ r.unit = r'.unit ∧ r.way = r'.way ∧ r.word = r'.word
structure Drawn (ws : List Str) (most : Int) (rows : List RowD) : Prop where
  u : UOk 0 rows
  g : ∀ r ∈ rows, RowG ws r
  n : (rows.length : Int) ≤ most
  s : ws = [] → Steps rows
/-- rows as far as they are drawn: their untils rise from b0 up to b -/
inductive Rise : Int → Int → List RowD → Prop
  | nil {b : Int} : Rise b b []
  | snoc {b c t : Int} {rs : List RowD} {r : RowD} : Rise b c rs → r.til = some t → c < t → Rise b t (rs ++ [r])
theorem uok_app {b c : Int} {rs : List RowD} (h : Rise b c rs) : ∀ {ls : List RowD}, UOk c ls → UOk b (rs ++ ls) := by
  induction h with
  | nil => intro ls h; exact h
  | snoc h1 ht hc ih =>
    intro ls h
    rw [List.append_assoc]
    exact ih (.more ht hc h)
def spRows : Sp := fun vs H Q _ => ∃ (p c wl : Addr) (most n : Int) (ws : List Str), vs = [.ref p, .int most, .ref wl] ∧ PenAt H p c n ∧ n + 1000 < Big ∧ 1 ≤ most ∧ most ≤ 6 ∧ H wl = some (.lst (ws.map V.str)) ∧ ws.length ≤ 100 ∧ (∀ s ∈ ws, PyData.strOk s = true) ∧
  ∀ l xs rows H', Pw p c (n + 200) (wo p H) H' → H l = none → H' l = some (.lst xs) → DRows H' xs rows → Drawn ws most rows → Q (.ref l) H'
theorem dp_strs {K : PySem.W.Frag} {H : Hp} : ∀ ns : List Str, DpAll K H (ns.map V.str) (ns.map PyData.str)
  | [] => .nil
  | n :: ns => .cons (.str n) (dp_strs ns)
theorem shaped_strs (ns : List Str) (h : ∀ s ∈ ns, PyData.strOk s = true) : SeqAt.shaped (.list (ns.map PyData.str)) = true := by
  have h1 : PyData.canLayAll0 (ns.map PyData.str) = true := by
    induction ns with
    | nil => simp [PyData.canLayAll0]
    | cons a l ih => simp [PyData.canLayAll0, PyData.canLay0, h a List.mem_cons_self, ih fun s hs => h s (List.mem_cons_of_mem _ hs)]
  have h2 : PyData.depthAll (ns.map PyData.str) = 0 := by
    clear h h1
    induction ns with
    | nil => simp [PyData.depthAll]
    | cons a l ih => simp [PyData.depthAll, PyData.depth, ih]
  simp [SeqAt.shaped, PyData.canLay0, h1, PyData.depth, h2]
section
variable {P : Program} {w : World} {K : PySem.W.Frag} {mg : Str → Option Value} {base : Heap}
theorem sz4 {n : Nat} (h : n ≤ 100000) : n ≤ sizeLine := sz_of h
theorem ok_pick {f : Addr} {fd : FuncData} (F : Fn K "_law_pick" "_law_pick" s__law_pick f fd) (B : Bn mg) (c1 : Cal P w K mg base CX0 1 "_law_draw" ["_law_pen_here", "_law_many"] spDraw) : FnOk P w K mg base CX0 2 f fd ["_law_pen_here", "_law_items"] spPick := by
  obtain ⟨f1, fd1, G__law_draw, m__law_draw, k__law_draw, b__law_draw⟩ := c1.ex
  refine F.ok sc__law_pick (fun vs H Q E h => ?_) (fun cdv A outer s H vs Q E hr h => ?_)
  · obtain ⟨p, c, l, xs, n, rfl, _⟩ := h; rfl
  · obtain ⟨p, c, l, xs, n, rfl, hp, hl, hne, hln, hn, k⟩ := h
    refine ⟨_, PSs.nox (pss_one (ps_ret (pe_ix ix_list (pv 1) (pe_call G__law_draw (hr.mono (by decide)) rfl m__law_draw k__law_draw b__law_draw .nil pass0 (pa_cons (pv 0) (pa_cons (pe_callB call_len_seq (by rfl) B.len (by decide +kernel) (pa_cons (pv 1) pa_nil)) pa_nil))) (fun _ _ => rfl)))), ?_⟩
    have hpos : 0 < xs.length := List.length_pos_iff.mpr hne
    refine ⟨_, rfl, _, rfl, _, rfl, l, xs, rfl, Or.inl (sq_of hl), p, c, (xs.length : Int), n, rfl, hp, by omega, by unfold Sm; omega, hn, fun i H1 i0 i1 P1 => ?_⟩
    have h1 : H1 l = some (.lst xs) := P1.get hp hl (by intro z; simp)
    have hi : xs[i.toNat]? = some xs[i.toNat] := List.getElem?_eq_getElem (by omega)
    exact ⟨l, xs, i, _, rfl, rfl, sq_of h1, at_of (j := i.toNat) (by omega) hi, k i.toNat _ H1 hi P1⟩
theorem ok_way {f : Addr} {fd : FuncData} (F : Fn K "_law_way" "_law_way" s__law_way f fd) (c1 : Cal P w K mg base CX0 2 "_law_pick" ["_law_pen_here", "_law_items"] spPick) : FnOk P w K mg base CX0 3 f fd ["_law_pen_here"] spWay := by
  obtain ⟨f1, fd1, G__law_pick, m__law_pick, k__law_pick, b__law_pick⟩ := c1.ex
  refine F.ok sc__law_way (fun vs H Q E h => ?_) (fun cdv A outer s H vs Q E hr h => ?_)
  · obtain ⟨p, c, n, rfl, _⟩ := h; rfl
  · obtain ⟨p, c, n, rfl, hp, hn, k⟩ := h
    refine ⟨_, PSs.nox (pss_one (ps_ret (pe_call G__law_pick (hr.mono (by decide)) rfl m__law_pick k__law_pick b__law_pick .nil pass0 (pa_cons (pv 0) (pa_cons (pe_lst (pa_cons pe_str (pa_cons pe_str (pa_cons pe_str pa_nil)))) pa_nil))))), ?_⟩
    refine ⟨_, rfl, by show 3 ≤ sizeLine; decide, fun l hl => ?_⟩
    have e1 : Ex H (upd H l (.lst [.str "down", .str "up", .str "near"])) := Ex.new hl
    refine ⟨p, c, l, _, n, rfl, hp.mono e1, upd_same, by simp, by show 3 ≤ 1000; decide, hn, fun i v H1 hv P1 => ?_⟩
    have P2 : Pw p c (n + 1) (wo p H) H1 := P1.back (wo_mono e1)
    match i, hv with
    | 0, hv => cases hv; exact k _ H1 (Or.inl rfl) P2
    | 1, hv => cases hv; exact k _ H1 (Or.inr (Or.inl rfl)) P2
    | 2, hv => cases hv; exact k _ H1 (Or.inr (Or.inr rfl)) P2
    | i + 3, hv => cases hv
theorem ok_number {f : Addr} {fd : FuncData} (F : Fn K "_law_number" "_law_number" s__law_number f fd) (c1 : Cal P w K mg base CX0 1 "_law_draw" ["_law_pen_here", "_law_many"] spDraw) (c2 : Cal P w K mg base CX0 2 "_law_pick" ["_law_pen_here", "_law_items"] spPick) : FnOk P w K mg base CX0 3 f fd ["_law_pen_here"] spNumber := by
  obtain ⟨f1, fd1, G__law_draw, m__law_draw, k__law_draw, b__law_draw⟩ := c1.ex
  obtain ⟨f2, fd2, G__law_pick, m__law_pick, k__law_pick, b__law_pick⟩ := c2.ex
  refine F.ok sc__law_number (fun vs H Q E h => ?_) (fun cdv A outer s H vs Q E hr h => ?_)
  · obtain ⟨p, c, n, rfl, _⟩ := h; rfl
  · obtain ⟨p, c, n, rfl, hp, hn, k⟩ := h
    refine ⟨_, PSs.nox (pss_one (ps_ret (pe_call G__law_pick (hr.mono (by decide)) rfl m__law_pick k__law_pick b__law_pick .nil pass0 (pa_cons (pv 0) (pa_cons (pe_lst (pa_cons (pe_call G__law_draw (hr.mono (by decide)) rfl m__law_draw k__law_draw b__law_draw .nil pass0 (pa_cons (pv 0) (pa_cons pe_int pa_nil))) (pa_cons (pe_call G__law_draw (hr.mono (by decide)) rfl m__law_draw k__law_draw b__law_draw .nil pass0 (pa_cons (pv 0) (pa_cons pe_int pa_nil))) (pa_cons (pe_call G__law_draw (hr.mono (by decide)) rfl m__law_draw k__law_draw b__law_draw .nil pass0 (pa_cons (pv 0) (pa_cons pe_int pa_nil))) (pa_cons (pe_call G__law_draw (hr.mono (by decide)) rfl m__law_draw k__law_draw b__law_draw .nil pass0 (pa_cons (pv 0) (pa_cons pe_int pa_nil))) pa_nil))))) pa_nil))))), ?_⟩
    refine ⟨_, rfl, _, rfl, p, c, 4, n, rfl, hp, by decide, by unfold Sm; omega, by omega, fun a H1 a0 a1 P1 => ?_⟩
    refine ⟨_, rfl, p, c, 20, n + 1, rfl, P1.2, by decide, by unfold Sm; omega, by omega, fun b H2 b0 b1 P2 => ?_⟩
    refine ⟨_, rfl, p, c, 20, n + 1 + 1, rfl, P2.2, by decide, by unfold Sm; omega, by omega, fun d H3 d0 d1 P3 => ?_⟩
    refine ⟨_, rfl, p, c, 90, n + 1 + 1 + 1, rfl, P3.2, by decide, by unfold Sm; omega, by omega, fun g H4 g0 g1 P4 => ?_⟩
    have P5 := ((P1.then P2).then P3).then P4
    refine ⟨by show 4 ≤ sizeLine; decide, fun l hl => ?_⟩
    have e1 : Ex H4 (upd H4 l (.lst [.int a, .int b, .int d, .int g])) := Ex.new hl
    refine ⟨p, c, l, _, n + 1 + 1 + 1 + 1, rfl, P4.2.mono e1, upd_same, by simp, by show 4 ≤ 1000; decide, by omega, fun i v H5 hv P6 => ?_⟩
    have P7 : Pw p c (n + 5) (wo p H) H5 := ((P5.ext e1).then P6).le (by omega)
    match i, hv with
    | 0, hv => cases hv; exact k _ H5 a0 (by omega) P7
    | 1, hv => cases hv; exact k _ H5 b0 (by omega) P7
    | 2, hv => cases hv; exact k _ H5 d0 (by omega) P7
    | 3, hv => cases hv; exact k _ H5 g0 (by omega) P7
    | i + 4, hv => cases hv
theorem strOk_menu : ∀ s ∈ menuW, PyData.strOk s = true := by decide +kernel
theorem ok_rows {f : Addr} {fd : FuncData} (F : Fn K "_law_rows" "_law_rows" s__law_rows f fd) (B : Bn mg) (c1 : Cal P w K mg base CX0 1 "_law_draw" ["_law_pen_here", "_law_many"] spDraw) (c2 : Cal P w K mg base CX0 2 "_law_pick" ["_law_pen_here", "_law_items"] spPick)
    (c3 : Cal P w K mg base CX0 3 "_law_number" ["_law_pen_here"] spNumber) (c4 : Cal P w K mg base CX0 3 "_law_way" ["_law_pen_here"] spWay) : FnOk P w K mg base CX0 4 f fd ["_law_pen_here", "_law_most", "_law_words"] spRows := by
  obtain ⟨f1, fd1, G__law_draw, m__law_draw, k__law_draw, b__law_draw⟩ := c1.ex
  obtain ⟨f2, fd2, G__law_pick, m__law_pick, k__law_pick, b__law_pick⟩ := c2.ex
  obtain ⟨f3, fd3, G__law_number, m__law_number, k__law_number, b__law_number⟩ := c3.ex
  obtain ⟨f4, fd4, G__law_way, m__law_way, k__law_way, b__law_way⟩ := c4.ex
  refine F.ok sc__law_rows (fun vs H Q E h => ?_) (fun cdv A outer s H vs Q E hr h => ?_)
  · obtain ⟨p, c, wl, most, n, ws, rfl, _⟩ := h; rfl
  · obtain ⟨p, c, wl, most, n, ws, rfl, hp, hn, m1, m6, hwl, hwn, hwo, k⟩ := h
    refine ⟨_, PSs.nox (pss_cons (ps_par3 (i := 3) (j := 4) (l := 5) (by rfl) sc__law_rows.nd rfl rfl rfl (by decide) (by decide) (by decide) rfl rfl rfl (pa_cons (pe_lst pa_nil) (pa_cons pe_int (pa_cons (pe_op op_add pe_int (pe_call G__law_draw (hr.mono (by decide)) rfl m__law_draw k__law_draw b__law_draw .nil pass0 (pa_cons (pv 0) (pa_cons (pv 1) pa_nil)))) pa_nil))) (by rfl)) (pss_cons (ps_for PassesOwn.never rfl (pi_range1 rfl B.range (pa_cons (pv 5) pa_nil)) (pg_name (i := 6) sc__law_rows.nd rfl (Or.inl rfl)) (pss_cons (ps_set (i := 4) sc__law_rows.nd rfl (Or.inl rfl) (pe_op op_add (pe_op op_add (pv 4) pe_int) (pe_call G__law_number (hr.mono (by decide)) rfl m__law_number k__law_number b__law_number .nil pass0 (pa_cons (pv 0) pa_nil)))) (pss_cons (ps_set (i := 7) sc__law_rows.nd rfl (Or.inl rfl) (pe_call G__law_pick (hr.mono (by decide)) rfl m__law_pick k__law_pick b__law_pick .nil pass0 (pa_cons (pv 0) (pa_cons (pe_lst (pa_cons pe_non (pa_cons pe_int (pa_cons pe_int (pa_cons pe_int (pa_cons (pe_op op_add pe_int (pe_call G__law_draw (hr.mono (by decide)) rfl m__law_draw k__law_draw b__law_draw .nil pass0 (pa_cons (pv 0) (pa_cons pe_int pa_nil)))) (pa_cons (pe_op op_add pe_int (pe_call G__law_draw (hr.mono (by decide)) rfl m__law_draw k__law_draw b__law_draw .nil pass0 (pa_cons (pv 0) (pa_cons pe_int pa_nil)))) pa_nil))))))) pa_nil)))) (pss_cons (ps_set (i := 8) sc__law_rows.nd rfl (Or.inl rfl) (pe_ifExp (pt_cmpR (op_eqD hr.units) (pv 2) (pe_lst pa_nil) (nomark _)) (pe_ix ix_list (pe_lst (pa_cons pe_str (pa_cons pe_str (pa_cons pe_str (pa_cons pe_str (pa_cons pe_str (pa_cons pe_str pa_nil))))))) (pv 6) (fun _ _ => rfl)) (pe_call G__law_pick (hr.mono (by decide)) rfl m__law_pick k__law_pick b__law_pick .nil pass0 (pa_cons (pv 0) (pa_cons (pv 2) pa_nil))))) (pss_cons (ps_set (i := 9) sc__law_rows.nd rfl (Or.inl rfl) (pe_tup (pa_cons (pe_ifExp (pt_cmpR op_eq (pv 6) (pe_op op_sub (pv 5) pe_int) (nomark _)) pe_non (pv 4)) (pa_cons (pv 7) (pa_cons (pe_call G__law_way (hr.mono (by decide)) rfl m__law_way k__law_way b__law_way .nil pass0 (pa_cons (pv 0) pa_nil)) (pa_cons (pv 8) pa_nil)))))) (pss_cons (ps_if (PW.pt (pw_and (pt_cmpR (op_eqD hr.units) (pv 2) (pe_lst pa_nil) (nomark _)) (pw_and (pt_cmpR op_gt (pv 6) pe_int (nomark _)) (pw_and1 (pt_cmpR op_eq (pe_call G__law_draw (hr.mono (by decide)) rfl m__law_draw k__law_draw b__law_draw .nil pass0 (pa_cons (pv 0) (pa_cons pe_int pa_nil))) pe_int (nomark _)))))) (pss_one (ps_set (i := 9) sc__law_rows.nd rfl (Or.inl rfl) (pe_tup (pa_cons (pe_ix ix_tup (pv 9) pe_int (fun _ _ => rfl)) (pa_cons (pe_ix ix_tup (pe_ix ix_list (pv 3) (pe_un un_neg pe_int) (fun _ _ => rfl)) pe_int (fun _ _ => rfl)) (pa_cons (pe_ix ix_tup (pe_ix ix_list (pv 3) (pe_un un_neg pe_int) (fun _ _ => rfl)) pe_int (fun _ _ => rfl)) (pa_cons (pe_ix ix_tup (pe_ix ix_list (pv 3) (pe_un un_neg pe_int) (fun _ _ => rfl)) pe_int (fun _ _ => rfl)) pa_nil))))))) pss_nil) (pss_one (ps_expr (pe_bm PySem.F.plainAttrs_list PySem.F.slot_list_append PySem.F.type_list_append mt_append (pv 3) (pa_cons (pv 9) pa_nil)))))))))) (pss_one (ps_ret (pv 3))))), ?_⟩
    -- rows, before, many = [], 0, 1 + draw(most)
    refine ⟨by show 0 ≤ sizeLine; decide, fun l hl => ?_⟩
    have e0 : Ex H (upd H l (.lst [])) := Ex.new hl
    refine ⟨_, rfl, _, rfl, p, c, most, n, rfl, hp.mono e0, by omega, by unfold Sm; omega, by omega, fun d H1 d0 d1 P1 => ?_⟩
    refine ⟨_, _, rfl, rfl, _, _, _, rfl, ?_⟩
    obtain ⟨oc, hoc⟩ := hp.cell
    obtain ⟨at0, lf0, cs0, hpd, _⟩ := id hp
    have hlp : l ≠ p := (ne_of_none hpd hl).symm
    have hMl : wo p H l = none := by rw [wo_ne hlp]; exact hl
    have hMc : wo p H c ≠ none := by rw [hoc]; exact Option.some_ne_none _
    have P1' : Pw p c (n + 1) (wo p H) H1 := P1.back (wo_mono e0)
    have hl1 : H1 l = some (.lst []) := P1.sub _ _ (by rw [wo_ne hlp]; exact upd_same)
    show tSeq _ _ _ [some (.ref p), some (.int most), some (.ref wl), some (.ref l), some (.int 0), some (.int (1 + d)), none, none, none, none] H1
    refine q_forR1 (n := 1 + d) (ea_cons (ev_var rfl) ea_nil) (by omega) (fun i σ H' => ∃ bf xs rows v6 v7 v8 v9, σ = [some (.ref p), some (.int most), some (.ref wl), some (.ref l), some (.int bf), some (.int (1 + d)), v6, v7, v8, v9] ∧ Pw p c (n + 1 + 20 * i) (wo p H) H' ∧ H' l = some (.lst xs) ∧ DRows (wo p H') xs rows ∧ rows.length = i ∧
        0 ≤ bf ∧ bf ≤ 91 * i ∧ (∀ r ∈ rows, RowG ws r) ∧ (ws = [] → Steps rows) ∧ ((i : Int) < 1 + d → Rise 0 bf rows) ∧ ((i : Int) = 1 + d → UOk 0 rows))
      (fun H2 e2 => ⟨0, [], [], none, none, none, none, rfl, by simpa using P1'.ext e2, e2 _ _ hl1, .nil, rfl, Int.le_refl _, by simp, (fun r z => nomatch z), (fun _ i r z => nomatch z), (fun _ => .nil), (fun z => by omega)⟩) ?_ ?_
    · rintro i σ' H' hi ⟨bf, xs, rows, v6, v7, v8, v9, rfl, Pi, hli, hR, hrl, b0, b1, hG, hSt, hRise, hU⟩
      have hi6 : (i : Int) ≤ 5 := by omega
      have hxl := hR.len
      -- before = before + 1 + number()
      refine ⟨_, rfl, _, _, rfl, rfl, _, rfl, p, c, _, rfl, Pi.2, by omega, fun a H2 a0 a1 P2 => ⟨_, _, rfl, rfl, ?_⟩⟩
      have hP2 := Pi.then P2
      -- unit = pick([None, 1, 2, 3, 1 + draw(8), 1 + draw(30)])
      refine ⟨_, rfl, _, rfl, p, c, 8, _, rfl, hP2.2, by decide, by unfold Sm; omega, by omega, fun u1 H3 u10 u11 P3 => ⟨_, _, rfl, rfl, ?_⟩⟩
      have hP3 := hP2.then P3
      refine ⟨_, rfl, p, c, 30, _, rfl, hP3.2, by decide, by unfold Sm; omega, by omega, fun u2 H4 u20 u21 P4 => ⟨_, _, rfl, rfl, ?_⟩⟩
      have hP4 := hP3.then P4
      refine ⟨by show 6 ≤ sizeLine; decide, fun l2 hl2 => ?_⟩
      have e5 : Ex H4 (upd H4 l2 (.lst [.non, .int 1, .int 2, .int 3, .int (1 + u1), .int (1 + u2)])) := Ex.new hl2
      refine ⟨p, c, l2, _, _, rfl, hP4.2.mono e5, upd_same, by simp, by show 6 ≤ 1000; decide, by omega, fun ju vu H5 hvu P5 => ?_⟩
      have hP5 := (hP4.ext e5).then P5
      obtain ⟨unit, rfl, hunit⟩ : ∃ unit : Option Int, vu = oV unit ∧ ∀ u, unit = some u → 0 < u ∧ u ≤ 30 := by
        match ju, hvu with
        | 0, hv => cases hv; exact ⟨none, rfl, fun u z => nomatch z⟩
        | 1, hv => cases hv; exact ⟨some 1, rfl, fun u z => by cases z; omega⟩
        | 2, hv => cases hv; exact ⟨some 2, rfl, fun u z => by cases z; omega⟩
        | 3, hv => cases hv; exact ⟨some 3, rfl, fun u z => by cases z; omega⟩
        | 4, hv => cases hv; exact ⟨some (1 + u1), rfl, fun u z => by cases z; omega⟩
        | 5, hv => cases hv; exact ⟨some (1 + u2), rfl, fun u z => by cases z; omega⟩
        | j + 6, hv => cases hv
      have hw5 : H5 wl = some (.lst (ws.map V.str)) := hP5.get hp hwl (by intro z; simp)
      have hl5 : H5 l = some (.lst xs) := ((((((Pw.of Pi.2).then P2).then P3).then P4).ext e5).then P5).sub _ _ (by rw [wo_ne hlp]; exact hli)
      have hR5 : DRows (wo p H5) xs rows := hR.mono ((((((Pw.of Pi.2).then P2).then P3).then P4).ext e5).then P5).1
      clear hR hli
      show tSeq _ _ _ [some (.ref p), some (.int most), some (.ref wl), some (.ref l), some (.int (bf + 1 + a)), some (.int (1 + d)), some (.int (i : Int)), some (oV unit), v8, v9] H5
      have tw : ∀ σ H6, Ex H5 H6 → σ[2]? = some (some (V.ref wl)) → EvT (tTest (tOp (rEqD K) (tVar 2) (tLst tNil))) σ H6 ws.isEmpty := by
        intro σ H6 e6 hs
        refine et_test (ev_opL (ev_var hs) (el_lst ea_nil (by show 0 ≤ 100000; decide)) fun q H7 hq e7 => ?_)
        have h3 := rv_eqD (K := K) (H := H7) (.lst (sq_of ((e6.trans e7) _ _ hw5)) (dp_strs ws)) (.lst (sq_of hq) .nil) (shaped_strs _ hwo) (by rfl)
        rw [eqv_list_nil] at h3
        rw [show ws.isEmpty = (ws.map PyData.str).isEmpty by cases ws <;> rfl]
        exact h3
      -- the word
      have key : ∀ Q' : VK, (∀ s H6, Pw p c (n + 1 + 20 * (i : Int) + 10) (wo p H5) H6 → ((ws = [] ∧ menuW[i]? = some s) ∨ (ws ≠ [] ∧ s ∈ ws)) → Q' (.str s) H6) →
          tIf (tTest (tOp (rEqD K) (tVar 2) (tLst tNil))) (tOp (rIxL K) (tLst (tCons (tC (.str "now")) (tCons (tC (.str "s")) (tCons (tC (.str "m")) (tCons (tC (.str "h")) (tCons (tC (.str "d")) (tCons (tC (.str "w")) tNil))))))) (tVar 6)) (tCall spPick [] E0 (tCons (tVar 0) (tCons (tVar 2) tNil)))
            [some (.ref p), some (.int most), some (.ref wl), some (.ref l), some (.int (bf + 1 + a)), some (.int (1 + d)), some (.int (i : Int)), some (oV unit), v8, v9] H5 Q' := by
        intro Q' q'
        refine tw _ H5 (Ex.refl _) rfl H5 (Ex.refl _) _ fun H6 e6 => ?_
        by_cases hws : ws = []
        · subst hws
          rw [show ([] : List Str).isEmpty = true from rfl]
          refine iteT ?_
          refine ⟨by show 6 ≤ sizeLine; decide, fun l3 hl3 => ?_⟩
          have hmi : menuW[i]? = some (menuW.getD i "") := by
            have : i < menuW.length := by show i < 6; omega
            rw [List.getD_eq_getElem?_getD, List.getElem?_eq_getElem this]
            rfl
          refine ⟨_, rfl, l3, menuW.map V.str, (i : Int), .str (menuW.getD i ""), rfl, rfl, sq_of upd_same, atI_nat (by rw [List.getElem?_map, hmi]; rfl), ?_⟩
          exact q' _ _ (((Pw.of hP5.2).ext (e6.trans (Ex.new hl3))).le (by omega)) (Or.inl ⟨rfl, hmi⟩)
        · have hwe : ws.isEmpty = false := by cases ws with | nil => exact absurd rfl hws | cons a b => rfl
          rw [hwe]
          refine iteF ?_
          refine ⟨_, rfl, _, rfl, p, c, wl, ws.map V.str, _, rfl, hP5.2.mono e6, e6 _ _ hw5, by simpa using hws, by rw [List.length_map]; omega, by omega, fun j v H7 hv P7 => ?_⟩
          rw [List.getElem?_map] at hv
          cases hj : ws[j]? with
          | none => rw [hj] at hv; cases hv
          | some s =>
            rw [hj] at hv
            cases hv
            exact q' s H7 ((P7.back (wo_mono e6)).le (by omega)) (Or.inr ⟨hws, List.mem_of_getElem? hj⟩)
      refine key _ fun s H6 P6 hs => ?_
      have hP6 := hP5.then P6
      show tSeq _ _ _ [some (.ref p), some (.int most), some (.ref wl), some (.ref l), some (.int (bf + 1 + a)), some (.int (1 + d)), some (.int (i : Int)), some (oV unit), some (.str s), v9] H6
      -- the row
      have til : ∃ til : Option Int, (∀ H7, Ev (tIf (tTest (tOp rEq (tVar 6) (tOp (rI0 fun i j => .int (i - j)) (tVar 5) (tC (.int 1))))) (tC .non) (tVar 4)) [some (.ref p), some (.int most), some (.ref wl), some (.ref l), some (.int (bf + 1 + a)), some (.int (1 + d)), some (.int (i : Int)), some (oV unit), some (.str s), v9] H7 (oV til)) ∧
          (((i : Int) = d ∧ til = none) ∨ ((i : Int) ≠ d ∧ til = some (bf + 1 + a))) := by
        by_cases hk : (i : Int) = d
        · refine ⟨none, fun H7 => ev_if (et_test (ev_op (ev_var rfl) (ev_op (ev_var rfl) ev_c rv_I0) (rv_eq rfl))) (fun _ => ev_c) (fun hb => ?_), Or.inl ⟨hk, rfl⟩⟩
          exact absurd (show V.int (i : Int) = V.int (1 + d - 1) by rw [hk]; congr 1; omega) (of_decide_eq_false hb)
        · refine ⟨some (bf + 1 + a), fun H7 => ev_if (et_test (ev_op (ev_var rfl) (ev_op (ev_var rfl) ev_c rv_I0) (rv_eq rfl))) (fun hb => ?_) (fun _ => ev_var rfl), Or.inr ⟨hk, rfl⟩⟩
          have z := V.int.inj (of_decide_eq_true hb)
          exact absurd z (by omega)
      obtain ⟨til, hev, htil⟩ := til
      refine hev H6 H6 (Ex.refl _) _ fun H7 e7 => ⟨_, rfl, _, rfl, p, c, _, rfl, hP6.2.mono e7, by omega, fun wy H8 hwy P8 => ⟨_, rfl, by show 4 ≤ sizeLine; decide, fun t ht => ?_⟩⟩
      have hP8 := (hP6.ext e7).then P8
      have P58 := (P6.ext e7).then P8
      have et : Ex H8 (upd H8 t (.tup [oV til, oV unit, .str wy, .str s])) := Ex.new ht
      have hP9 := hP8.ext et
      have P59 := P58.ext et
      have h9t : upd H8 t (.tup [oV til, oV unit, .str wy, .str s]) t = some (.tup [oV til, oV unit, .str wy, .str s]) := upd_same
      generalize upd H8 t (.tup [oV til, oV unit, .str wy, .str s]) = H9 at et hP9 P59 h9t ⊢
      have hl9 : H9 l = some (.lst xs) := P59.sub _ _ (by rw [wo_ne hlp]; exact hl5)
      have hR9 : DRows (wo p H9) xs rows := hR5.mono P59.1
      show tSeq _ _ _ [some (.ref p), some (.int most), some (.ref wl), some (.ref l), some (.int (bf + 1 + a)), some (.int (1 + d)), some (.int (i : Int)), some (oV unit), some (.str s), some (.ref t)] H9
      have hG0 : RowG ws ⟨til, unit, wy, s⟩ := by
        refine ⟨hunit, fun t2 h2 => ?_, hwy, ?_⟩
        · rcases htil with ⟨_, z⟩ | ⟨_, z⟩
          · rw [z] at h2; cases h2
          · rw [z] at h2; cases h2; omega
        · rcases hs with ⟨_, z⟩ | ⟨_, z⟩
          · exact Or.inr (List.mem_of_getElem? z)
          · exact Or.inl z
      -- what stands behind the turn
      have finP : ∀ (H10 : Hp) (t10 : Addr) (r : RowD), Pw p c (n + 1 + 20 * (i : Int) + 19) (wo p H) H10 → H10 l = some (.lst xs) → DRows (wo p H10) xs rows → H10 t10 = some (.tup [oV r.til, oV r.unit, .str r.way, .str r.word]) → r.til = til → RowG ws r →
          (ws = [] → menuW[i]? = some r.word ∨ ∃ j r', i = j + 1 ∧ rows[j]? = some r' ∧ r.unit = r'.unit ∧ r.way = r'.way ∧ r.word = r'.word) →
          ∃ bf' xs' rows' v6 v7 v8 v9, [some (V.ref p), some (.int most), some (.ref wl), some (.ref l), some (.int (bf + 1 + a)), some (.int (1 + d)), some (.int (i : Int)), some (oV unit), some (.str s), some (.ref t10)] = [some (.ref p), some (.int most), some (.ref wl), some (.ref l), some (.int bf'), some (.int (1 + d)), v6, v7, v8, v9] ∧
            Pw p c (n + 1 + 20 * ((i + 1 : Nat) : Int)) (wo p H) (upd H10 l (.lst (xs ++ [.ref t10]))) ∧ (upd H10 l (.lst (xs ++ [.ref t10]))) l = some (.lst xs') ∧ DRows (wo p (upd H10 l (.lst (xs ++ [.ref t10])))) xs' rows' ∧ rows'.length = i + 1 ∧
            0 ≤ bf' ∧ bf' ≤ 91 * ((i + 1 : Nat) : Int) ∧ (∀ r ∈ rows', RowG ws r) ∧ (ws = [] → Steps rows') ∧ (((i + 1 : Nat) : Int) < 1 + d → Rise 0 bf' rows') ∧ (((i + 1 : Nat) : Int) = 1 + d → UOk 0 rows') := by
        intro H10 t10 r hP10 h10 hR10 ht10 hrt hrG hrS
        refine ⟨bf + 1 + a, xs ++ [.ref t10], rows ++ [r], _, _, _, _, rfl, (hP10.mut hMl hMc hlp).le (by omega), upd_same, ?_, by simp [hrl], by omega, by omega, ?_, ?_, ?_, ?_⟩
        · have hmono : ∀ y r0, DRow (wo p H10) y r0 → DRow (wo p (upd H10 l (.lst (xs ++ [.ref t10])))) y r0 := by
            rintro y r0 ⟨t0, rfl, h0⟩
            have np : t0 ≠ p := fun z => by rw [z, wo_l] at h0; cases h0
            rw [wo_ne np] at h0
            exact ⟨t0, rfl, by rw [wo_ne np, upd_ne (ne_of h0 h10 (by intro z; cases z))]; exact h0⟩
          refine (hR10.imp hmono).snoc (hmono _ _ ⟨t10, rfl, ?_⟩)
          rw [wo_ne (hP10.2.not ht10 (by intro z; simp))]
          exact ht10
        · intro r0 hr0
          rcases List.mem_append.mp hr0 with z | z
          · exact hG r0 z
          · rw [List.mem_singleton.mp z]; exact hrG
        · intro hws j r0 hj
          by_cases hlt : j < rows.length
          · rw [List.getElem?_append_left hlt] at hj
            rcases hSt hws j r0 hj with z | ⟨j2, r', z1, z2, z3⟩
            · exact Or.inl z
            · exact Or.inr ⟨j2, r', z1, by rw [List.getElem?_append_left (by omega)]; exact z2, z3⟩
          · have hj2 := (List.getElem?_eq_some_iff.mp hj).1
            simp at hj2
            have ej : j = i := by omega
            rw [List.getElem?_append_right (by omega), show j - rows.length = 0 by omega] at hj
            have er : r = r0 := Option.some.inj hj
            subst er ej
            rcases hrS hws with z | ⟨j2, r', z1, z2, z3⟩
            · exact Or.inl z
            · exact Or.inr ⟨j2, r', z1, by rw [List.getElem?_append_left (by omega)]; exact z2, z3⟩
        · intro hlt
          rcases htil with ⟨z, _⟩ | ⟨_, z⟩
          · omega
          · exact .snoc (hRise hi) (hrt.trans z) (by omega)
        · intro heq
          rcases htil with ⟨_, z⟩ | ⟨z, _⟩
          · exact uok_app (hRise hi) (.last (hrt.trans z))
          · omega
      have hs0 : ws = [] → menuW[i]? = some s := fun z => by
        rcases hs with ⟨_, q⟩ | ⟨q, _⟩
        · exact q
        · exact absurd z q
      -- if words == [] and k > 0 and draw(4) == 0
      have stay : ∀ H10, Ex H9 H10 → Pw p c (n + 1 + 20 * (i : Int) + 19) (wo p H) H10 := fun H10 e => (hP9.ext e).le (by omega)
      have hw9 : H9 wl = some (.lst (ws.map V.str)) := hP9.get hp hwl (by intro z; simp)
      have tw9 : EvT (tTest (tOp (rEqD K) (tVar 2) (tLst tNil))) [some (.ref p), some (.int most), some (.ref wl), some (.ref l), some (.int (bf + 1 + a)), some (.int (1 + d)), some (.int (i : Int)), some (oV unit), some (.str s), some (.ref t)] H9 ws.isEmpty := by
        refine et_test (ev_opL (ev_var rfl) (el_lst ea_nil (by show 0 ≤ 100000; decide)) fun q H7 hq e7 => ?_)
        have h3 := rv_eqD (K := K) (H := H7) (.lst (sq_of (e7 _ _ hw9)) (dp_strs ws)) (.lst (sq_of hq) .nil) (shaped_strs _ hwo) (by rfl)
        rw [eqv_list_nil] at h3
        rw [show ws.isEmpty = (ws.map PyData.str).isEmpty by cases ws <;> rfl]
        exact h3
      have hxs : xs.length < 100000 := by omega
      have finQ := fun H10 (P10 : Pw p c (n + 1 + 20 * (i : Int) + 19) (wo p H) H10) (h10 : H10 l = some (.lst xs)) (R10 : DRows (wo p H10) xs rows) (t10 : H10 t = _) => finP H10 t ⟨til, unit, wy, s⟩ P10 h10 R10 t10 rfl hG0 (fun z => Or.inl (hs0 z))
      refine tw9 H9 (Ex.refl _) _ fun H10 e10 => ?_
      by_cases hws : ws = []
      · rw [show ws.isEmpty = true by rw [hws]; rfl]
        refine iteT ?_
        refine (et_test (b := decide ((0 : Int) < (i : Int))) (ev_op (ev_var rfl) ev_c rv_I0)) H10 (Ex.refl _) _ fun H11 e11 => ?_
        have e911 := e10.trans e11
        refine ite2 (fun hb => ?_) (fun hb => ?_)
        · have hi0 : 0 < (i : Int) := of_decide_eq_true hb
          refine ⟨_, rfl, p, c, 4, _, rfl, (hP9.ext e911).2, by decide, by unfold Sm; omega, by omega, fun kk H12 k0 k1 P12 => ⟨rfl, _, rfl, ?_⟩⟩
          have Pz : Pw p c (n + 1 + 20 * (i : Int) + 19) (wo p H) H12 := ((hP9.ext e911).then P12).le (by omega)
          have h12l : H12 l = some (.lst xs) := P12.sub _ _ (by rw [wo_ne hlp]; exact e911 _ _ hl9)
          have h12R : DRows (wo p H12) xs rows := hR9.mono ((wo_mono e911).trans P12.1)
          have h12t := P12.get (hP9.ext e911).2 (e911 _ _ h9t) (by intro z; simp)
          refine ite2 (fun hb2 => ?_) (fun hb2 => ?_)
          · obtain ⟨r', hr'⟩ : ∃ r', rows[i - 1]? = some r' := ⟨_, List.getElem?_eq_getElem (by omega)⟩
            obtain ⟨y, hy, tq, rfl, htq⟩ := h12R.get' hr'
            have htq' : H12 tq = some (.tup [oV r'.til, oV r'.unit, .str r'.way, .str r'.word]) := wo_sub _ _ htq
            have hat : atI xs (-1) = some (.ref tq) := by
              unfold atI ixN
              rw [if_neg (by decide), if_pos (by omega)]
              show xs[((-1 : Int) + (xs.length : Int)).toNat]? = _
              rw [show ((-1 : Int) + (xs.length : Int)).toNat = i - 1 by omega]
              exact hy
            have vrow : ∀ σ, σ[3]? = some (some (V.ref l)) → Ev (tOp (rIxL K) (tVar 3) (tUn (rU fun i => .int (-i)) (tC (.int 1)))) σ H12 (.ref tq) := fun σ hs => ev_op (ev_var hs) (ev_un ev_c ru_neg) (rv_ixL (sq_of h12l) hat)
            refine s_asgU (eu_tup (ea_cons (ev_op (ev_var rfl) ev_c (rv_ixT (v := oV til) (st_of h12t) rfl)) (ea_cons (ev_op (vrow _ rfl) ev_c (rv_ixT (v := oV r'.unit) (st_of htq') rfl)) (ea_cons (ev_op (vrow _ rfl) ev_c (rv_ixT (v := .str r'.way) (st_of htq') rfl)) (ea_cons (ev_op (vrow _ rfl) ev_c (rv_ixT (v := .str r'.word) (st_of htq') rfl)) ea_nil)))) (by show 4 ≤ 100000; decide)) fun t2 H13 ht2 e13 h13 => ?_
            refine s_app (e13 _ _ h12l) (ev_var rfl) (ev_var rfl) hxs fun H14 e14 => ?_
            have e1214 := e13.trans e14
            have hgr := hG r' (List.mem_of_getElem? hr')
            exact finP H14 t2 ⟨til, r'.unit, r'.way, r'.word⟩ (Pz.ext e1214) (e1214 _ _ h12l) (h12R.mono (wo_mono e1214)) (e14 _ _ h13) rfl ⟨hgr.un, hG0.ti, hgr.wy, hgr.wd⟩ (fun _ => Or.inr ⟨i - 1, r', by omega, hr', rfl, rfl, rfl⟩)
          · refine s_app h12l (ev_var rfl) (ev_var rfl) hxs fun H14 e14 => ?_
            exact finQ H14 (Pz.ext e14) (e14 _ _ h12l) (h12R.mono (wo_mono e14)) (e14 _ _ h12t)
        · refine iteF ?_
          refine s_app (e911 _ _ hl9) (ev_var rfl) (ev_var rfl) hxs fun H12 e12 => ?_
          exact finQ H12 ((stay H11 e911).ext e12) ((e911.trans e12) _ _ hl9) (hR9.mono (wo_mono (e911.trans e12))) ((e911.trans e12) _ _ h9t)
      · rw [show ws.isEmpty = false by cases ws with | nil => exact absurd rfl hws | cons a b => rfl]
        refine iteF ?_
        refine iteF ?_
        refine s_app (e10 _ _ hl9) (ev_var rfl) (ev_var rfl) hxs fun H11 e11 => ?_
        exact finQ H11 (stay H11 (e10.trans e11)) ((e10.trans e11) _ _ hl9) (hR9.mono (wo_mono (e10.trans e11))) ((e10.trans e11) _ _ h9t)
    · rintro σ' H' ⟨bf, xs, rows, v6, v7, v8, v9, rfl, Pi, hli, hR, hrl, b0, b1, hG, hSt, hRise, hU⟩
      have ed : ((1 + d).toNat : Int) = 1 + d := by omega
      refine ⟨_, rfl, ?_⟩
      exact k l xs rows H' (Pi.le (by omega)) hl hli (hR.mono wo_sub) ⟨hU ed, hG, by rw [hrl, ed]; omega, hSt⟩
end
end Age

set_option Elab.async false
set_option linter.all false
set_option maxRecDepth 100000
set_option maxHeartbeats 4000000
namespace Age
open PySem PySem.Spec PyProof.Rows L2 Evl
def timesR (f : Int) (r : RowD) : RowD := ⟨r.til.map (· * f), r.unit.map (· * f), r.way, r.word⟩
/-- numbers whose products are not too great -/
structure RowB (r : RowD) : Prop where
  un : ∀ u, r.unit = some u → Sm u
  ti : ∀ t, r.til = some t → Sm t
def spTimes : Sp := fun vs H Q _ => ∃ (l : Addr) (xs : List V) (rows : List RowD) (f : Int), vs = [.ref l, .int f] ∧ H l = some (.lst xs) ∧ DRows H xs rows ∧ (∀ r ∈ rows, RowB r) ∧ Sm f ∧ rows.length ≤ 1000 ∧
  ∀ l2 xs2 H', H l2 = none → Ex H H' → H' l2 = some (.lst xs2) → DRows H' xs2 (rows.map (timesR f)) → Q (.ref l2) H'
def spMade (cR cS cW : Addr) : Sp := fun vs H Q _ => ∃ (l : Addr) (xs : List V) (rows : List RowD), vs = [.ref l] ∧ H l = some (.lst xs) ∧ DRows H xs rows ∧ RowsOk rows ∧ ∀ p H', H p = none → Ex H H' → WordAt cR cS cW H' p rows → Q (.ref p) H'
theorem EvE.of_new {te : TE} {σ : L2.St} {M : Hp} {C : Addr} {fs : List (Str × V)} {R : V → Hp → Prop} (h : EvN te σ M (fun p H2 => ∃ dx, H2 p = some (.ins C dx fs))) (r : ∀ p H2, (∃ dx, H2 p = some (.ins C dx fs)) → R (.ref p) H2) : EvE te σ M R :=
  fun H1 Dl acc e hM hD Q q => h H1 e Q fun p H2 hp e2 ⟨dx, h2⟩ => q (.ref p) H2 e2 (r p _ ⟨dx, by rw [wo_ne (ne_of_none hD hp).symm]; exact h2⟩)
theorem s_retMk {σ : L2.St} {H : Hp} {te : TE} {D : Ends} {sp : Sp} {E : XK} {C : Addr} {Pa : V → Hp → Prop} (h : ∀ Q' : VK, (∀ y H1, Pa y H1 → Q' y H1) → te σ H Q')
    (k : ∀ y H1, Pa y H1 → ∀ x dx, H1 x = none → H1 dx = none → dx ≠ x → sp [.ref x, y] (upd (upd H1 dx (.own x)) x (.ins C dx [])) (fun v H2 => v = .non ∧ D.rt (.ref x) H2) E) : tRet (tMake C sp [] E (tCons te tNil)) D σ H := h _ fun y H1 p => k y H1 p
section
variable {P : Program} {w : World} {K : PySem.W.Frag} {mg : Str → Option Value} {base : Heap} {cR cS cW : Addr}
theorem ok_times {f : Addr} {fd : FuncData} (F : Fn K "_law_times" "_law_times" s__law_times f fd) : FnOk P w K mg base CX0 1 f fd ["_law_rows_here", "_law_factor"] spTimes := by
  refine F.ok sc__law_times (fun vs H Q E h => ?_) (fun cdv A outer s H vs Q E hr h => ?_)
  · obtain ⟨l, xs, rows, g, rfl, _⟩ := h; rfl
  · obtain ⟨a, xs, rows, g, rfl, ha, hR, hB, hg, hn, k⟩ := h
    refine ⟨_, PSs.nox (pss_cons (ps_set (i := 2) sc__law_times.nd rfl (Or.inl rfl) (pe_lst pa_nil)) (pss_cons (ps_for PassesOwn.never rfl (pi_list (pv 0)) (pg_tup rfl (pgs_cons (pg_name (i := 3) sc__law_times.nd rfl (Or.inl rfl)) (pgs_cons (pg_name (i := 4) sc__law_times.nd rfl (Or.inl rfl)) (pgs_cons (pg_name (i := 5) sc__law_times.nd rfl (Or.inl rfl)) (pgs_cons (pg_name (i := 6) sc__law_times.nd rfl (Or.inl rfl)) pgs_nil))))) (pss_one (ps_expr (pe_bm PySem.F.plainAttrs_list PySem.F.slot_list_append PySem.F.type_list_append mt_append (pv 2) (pa_cons (pe_tup (pa_cons (pe_ifExp (pt_cmp (pc_isN (pv 3))) pe_non (pe_op op_mulW (pv 3) (pv 1))) (pa_cons (pe_ifExp (pt_cmp (pc_isN (pv 4))) pe_non (pe_op op_mulW (pv 4) (pv 1))) (pa_cons (pv 5) (pa_cons (pv 6) pa_nil))))) pa_nil))))) (pss_one (ps_ret (pv 2))))), ?_⟩
    have hxl := hR.len
    refine q_asgL (el_lst ea_nil (by show 0 ≤ 100000; decide)) fun l H1 hl0 e1 hl => ?_
    refine q_forL (K := K) (xs := xs) (a := a) (ev_var rfl) (sq_of (e1 _ _ ha)) (fun i σ H' => ∃ zs v3 v4 v5 v6, σ = [some (.ref a), some (.int g), some (.ref l), v3, v4, v5, v6] ∧ Ex H H' ∧ H' l = some (.lst zs) ∧ DRows (wo l H') zs ((rows.take i).map (timesR g)) ∧ zs.length = i)
      (fun H2 e2 => ⟨[], none, none, none, none, rfl, e1.trans e2, e2 _ _ hl, .nil, rfl⟩) (fun i σ' H' _ p => by obtain ⟨_, _, _, _, _, _, e, _⟩ := p; exact sq_of (e _ _ ha)) ?_ ?_
    · rintro i x σ' H' hx ⟨zs, v3, v4, v5, v6, rfl, eH, hl', hZ, hzl⟩
      obtain ⟨r, hri, t, rfl, ht⟩ := (hR.mono eH).get hx
      have hlt := (List.getElem?_eq_some_iff.mp hri).1
      have hb := hB r (List.mem_of_getElem? hri)
      refine ⟨t, _, rfl, st_of ht, rfl, _, _, rfl, _, _, rfl, _, _, rfl, _, _, rfl, rfl, ?_⟩
      show tDrop _ _ [some (.ref a), some (.int g), some (.ref l), some (oV r.til), some (oV r.unit), some (.str r.way), some (.str r.word)] H'
      have mulO : ∀ (o : Option Int) (j : Nat), (∀ u, o = some u → Sm u) → ([some (V.ref a), some (.int g), some (.ref l), some (oV r.til), some (oV r.unit), some (.str r.way), some (.str r.word)] : L2.St)[j]? = some (some (oV o)) →
          Ev (tIf (tB (tIsN (tVar j))) (tC .non) (tOp (rI CMulW fun i j => .int (i * j)) (tVar j) (tVar 1))) [some (.ref a), some (.int g), some (.ref l), some (oV r.til), some (oV r.unit), some (.str r.way), some (.str r.word)] H' (oV (o.map (· * g))) := by
        intro o j ho hj
        cases o with
        | none => exact ev_if (et_B (ev_isN (ev_var hj))) (fun _ => ev_c) (fun z => Bool.noConfusion z)
        | some u => exact ev_if (et_B (ev_isN (ev_var hj))) (fun z => Bool.noConfusion z) (fun _ => ev_op (ev_var hj) (ev_var rfl) (rv_I ((ho u rfl).mul hg)))
      refine s_appU hl' (ev_var rfl) (eu_tup (ea_cons (mulO r.til 3 hb.ti rfl) (ea_cons (mulO r.unit 4 hb.un rfl) (ea_cons (ev_var rfl) (ea_cons (ev_var rfl) ea_nil)))) (by show 4 ≤ 100000; decide)) (by omega) fun p H2 hp e2 h2 => ?_
      refine ⟨zs ++ [.ref p], _, _, _, _, rfl, (eH.trans e2).mut hl0, upd_same, ?_, by simp [hzl]⟩
      have et : rows.take (i + 1) = rows.take i ++ [r] := by rw [List.take_add_one, hri]; rfl
      rw [et, List.map_append]
      refine (hZ.mono (wo_mut e2)).snoc ⟨p, rfl, ?_⟩
      rw [wo_upd, wo_ne (ne_of h2 (e2 _ _ hl') (by intro z; cases z))]
      exact h2
    · rintro σ' H' ⟨zs, v3, v4, v5, v6, rfl, eH, hl', hZ, hzl⟩
      rw [List.take_of_length_le (by omega)] at hZ
      exact s_ret (ev_var rfl) fun H2 e2 => k l zs H2 hl0 (eH.trans e2) (e2 _ _ hl') ((hZ.mono wo_sub).mono e2)
theorem ok_made {f : Addr} {fd : FuncData} (F : Fn K "_law_made" "_law_made" s__law_made f fd) (T : Tx K mg cR cS cW) (c1 : Mak P w K mg base CX0 1 cR ["self", "until", "unit", "way", "word"] (spRowI cR)) (c2 : Mak P w K mg base CX0 5 cW ["self", "rows"] (spWordI K cR cS cW)) :
    FnOk P w K mg base CX0 7 f fd ["_law_rows_here"] (spMade cR cS cW) := by
  obtain ⟨f1, fd1, G_Row_init, M_Row, b_Row_init⟩ := c1.ex
  obtain ⟨f2, fd2, G_Wording_init, M_Wording, b_Wording_init⟩ := c2.ex
  refine F.ok sc__law_made (fun vs H Q E h => ?_) (fun cdv A outer s H vs Q E hr h => ?_)
  · obtain ⟨l, xs, rows, rfl, _⟩ := h; rfl
  · obtain ⟨l, xs, rows, rfl, hl, hR, ok, k⟩ := h
    refine ⟨_, PSs.nox (pss_one (ps_ret (pe_make M_Wording G_Wording_init (hr.mono (by decide)) rfl T.mgWording b_Wording_init .nil pass0 (pa_cons (pe_lc (own := [("_law_until", 1), ("_law_unit", 2), ("_law_way_here", 3), ("_law_word", 4)]) rfl sc__law_made.nd (pi_list (pv 0)) (blkOk_by (own := [("_law_until", 1), ("_law_unit", 2), ("_law_way_here", 3), ("_law_word", 4)]) (N := ["_law_rows_here", "_law_until", "_law_unit", "_law_way_here", "_law_word"]) (sc := defScope s__law_made) (by decide +kernel)) (fun _ _ _ _ _ => by exact (pg_tupK (K := K) (n := 4) (by rfl) rfl (pgs_cons (pg_name (i := 1) sc__law_made.nd rfl (Or.inl rfl)) (pgs_cons (pg_name (i := 2) sc__law_made.nd rfl (Or.inl rfl)) (pgs_cons (pg_name (i := 3) sc__law_made.nd rfl (Or.inl rfl)) (pgs_cons (pg_name (i := 4) sc__law_made.nd rfl (Or.inl rfl)) pgs_nil)))))) (fun _ _ _ _ _ => by exact pts_nil) (fun _ _ _ _ _ => by exact (pe_make M_Row G_Row_init (hr.mono (by decide)) rfl T.mgRow b_Row_init .nil pass0 (pa_cons (pv 1) (pa_cons (pv 2) (pa_cons (pv 3) (pa_cons (pv 4) pa_nil))))))) pa_nil)))), ?_⟩
    have hxl := hR.len
    have hn := ok.n
    have hlc := en_lc (K := K) (isT := false) (σ := [some (.ref l), none, none, none, none]) (H := H) (xs := xs) (a := l) (tl := tVar 0) (vs := [1, 2, 3, 4]) (g := gTup K 4 (gCons (gName 1) (gCons (gName 2) (gCons (gName 3) (gCons (gName 4) gNil))))) (te := tMake cR (spRowI cR) [] E0 (tCons (tVar 1) (tCons (tVar 2) (tCons (tVar 3) (tCons (tVar 4) tNil)))))
      (R := fun i y H => ∀ r, rows[i]? = some r → ∃ q, y = .ref q ∧ RowAt cR H q r) (fun i y H1 H2 e h r hr => let ⟨q, a, b⟩ := h r hr; ⟨q, a, b.mono e⟩) (ev_var rfl) (sq_of hl) (by omega) (fun i x M e hx => ?hs) H (Ex.refl H)
    case hs =>
      obtain ⟨r, hri, t, rfl, ht⟩ := (hR.mono e).get hx
      refine ⟨[some (.ref l), some (oV r.til), some (oV r.unit), some (.str r.way), some (.str r.word)], rfl, fun H1 kk e1 hk => ⟨t, _, rfl, st_of (e1 _ _ ht), rfl, _, _, rfl, _, _, rfl, _, _, rfl, _, _, rfl, rfl, hk⟩, ?_⟩
      refine EvE.of_new (en_make (fs := rowF r) (ea_cons (ev_var rfl) (ea_cons (ev_var rfl) (ea_cons (ev_var rfl) (ea_cons (ev_var rfl) ea_nil)))) (init_row (r := r))) fun p H2 hp r' hr' => ?_
      rw [hri] at hr'
      cases hr'
      exact ⟨p, rfl, hp⟩
    refine s_retMk (Pa := fun y H1 => ∃ a1 ys, y = .ref a1 ∧ Ex H H1 ∧ H1 a1 = some (.lst ys) ∧ Each (fun i y H => ∀ r, rows[i]? = some r → ∃ q, y = .ref q ∧ RowAt cR H q r) xs.length ys (wo a1 H1)) (fun Q' q => hlc Q' fun a1 ys H1 _ e1 h1 hE => q _ _ ⟨a1, ys, rfl, e1, h1, hE⟩) ?_
    rintro y H1 ⟨a1, ys, rfl, e1, h1, hE⟩ x dx hx hdx hne
    have hRA : RowsAt cR H1 ys rows := by
      refine ⟨by rw [hE.1, hxl], fun i r hi => ?_⟩
      obtain ⟨y, hy⟩ : ∃ y, ys[i]? = some y := ⟨_, List.getElem?_eq_getElem (by have := (List.getElem?_eq_some_iff.mp hi).1; rw [hE.1, hxl]; exact this)⟩
      obtain ⟨q, rfl, hq⟩ := hE.2 i y hy r hi
      exact ⟨q, hy, hq.mono wo_sub⟩
    have e2 : Ex H1 (upd (upd H1 dx (.own x)) x (.ins cW dx [])) := (Ex.new hdx).trans (Ex.new (by rw [upd_ne hne.symm]; exact hx))
    refine ⟨x, dx, a1, ys, rows, rfl, upd_same, Or.inl (sq_of (e2 _ _ h1)), hRA.mono e2, ok, fun H3 ta tb zs keep h3 hta htb hS => ⟨rfl, ?_⟩⟩
    have e3 : Ex H1 H3 := fun b o hb => keep b o (ne_of_none hb hx) (e2 b o hb)
    exact k x H3 (fresh_back e1 hx) (e1.trans e3) ⟨dx, ta, tb, ys, zs, h3, hta, hRA.mono e3, htb, hS.mono wo_sub⟩
end
end Age

set_option Elab.async false
set_option linter.all false
set_option maxHeartbeats 2000000
namespace Age
open PySem
/-! ### counts -/
theorem cnt_ge {n u c : Int} {w : Str} (h : 0 < u) : c ≤ cnt n u w ↔ fst c u w ≤ n := by
  unfold cnt fst
  rw [Int.le_ediv_iff_mul_le h]
  omega
theorem cnt_mono {n m u : Int} {w : Str} (h : 0 < u) (hnm : n ≤ m) : cnt n u w ≤ cnt m u w := by
  rw [cnt_ge h]
  exact Int.le_trans ((cnt_ge h).mp (Int.le_refl _)) hnm
theorem cnt_succ {n u : Int} {w : Str} (h : 0 < u) : cnt (n + 1) u w ≤ cnt n u w + 1 := by
  have h1 : fst (cnt (n + 1) u w) u w ≤ n + 1 := (cnt_ge h).mp (Int.le_refl _)
  have h2 : ¬ fst (cnt n u w + 1) u w ≤ n := fun z => by have := (cnt_ge h).mpr z; omega
  have h3 : fst (cnt n u w + 1 + 1) u w = fst (cnt n u w + 1) u w + u := by
    unfold fst
    rw [Int.add_mul (cnt n u w + 1) 1 u, Int.one_mul]
    omega
  rcases Int.lt_or_le (cnt n u w + 1) (cnt (n + 1) u w) with h4 | h4
  · have h5 := (cnt_ge (w := w) (n := n + 1) h).mp (show cnt n u w + 1 + 1 ≤ cnt (n + 1) u w by omega)
    rw [h3] at h5
    omega
  · exact h4
/-! ### spans in a row -/
def Seg (s : SpanD) (n : Int) : Prop := s.low ≤ n ∧ ∀ h, s.high = some h → n ≤ h
inductive Chain : Int → List SpanD → Prop
  | last {b : Int} {s : SpanD} : s.low = b → s.high = none → Chain b [s]
  | more {b h : Int} {s : SpanD} {ss : List SpanD} : s.low = b → s.high = some h → b ≤ h → Chain (h + 1) ss → Chain b (s :: ss)
abbrev Lab := Str × Option Int
def EdgeF (lab : Int → Lab) (b : Int) : Prop := 0 < b ∧ lab b ≠ lab (b - 1)
structure Fit1 (lab : Int → Lab) (s : SpanD) : Prop where
  lb : ∀ n, Seg s n → lab n = (s.row.word, cntO s.row n)
  fr : s.fresh = true ↔ EdgeF lab s.low
  un : ∀ u, s.row.unit = some u → 0 < u
  lo : 0 ≤ s.low
  ne : Seg s s.low
def Fit (lab : Int → Lab) (ss : List SpanD) : Prop := ∀ s ∈ ss, Fit1 lab s
theorem RowOk.un' {r : RowD} (h : RowOk r) : ∀ u, r.unit = some u → 0 < u := fun u hu => (h.un u hu).1
theorem labelOf_cons {r : RowD} {rs : List RowD} {n : Int} : labelOf (r :: rs) n = if hit n r = true then (r.word, cntO r n) else labelOf rs n := by
  unfold labelOf
  cases h : hit n r <;> simp [h]
theorem fit_from {lab : Int → Lab} : ∀ {rs : List RowD} {b : Int} {sh : Option Lab}, UOk b rs → 0 ≤ b → (∀ r ∈ rs, RowOk r) → (∀ n, b ≤ n → lab n = labelOf rs n) → (0 < b → sh = some (lab (b - 1))) → Fit lab (spansFrom b sh rs) ∧ Chain b (spansFrom b sh rs) := by
  intro rs
  induction rs with
  | nil => intro b sh hu; cases hu
  | cons r rs ih =>
    intro b sh hu hb hr hl hs
    have hr0 := hr r List.mem_cons_self
    have key : hit b r = true → ∀ (hi : Option Int), (∀ h, hi = some h → b ≤ h) → (∀ n, Seg ⟨b, hi, r, decide (0 < b) && !decide (some (r.word, cntO r b) = sh)⟩ n → hit n r = true) → Fit1 lab ⟨b, hi, r, decide (0 < b) && !decide (some (r.word, cntO r b) = sh)⟩ := by
      intro hb0 hi hne hseg
      have hlb : lab b = (r.word, cntO r b) := by rw [hl b (Int.le_refl _), labelOf_cons, if_pos hb0]
      refine ⟨fun n hn => ?_, ?_, hr0.un', hb, ⟨Int.le_refl _, hne⟩⟩
      · rw [hl n hn.1, labelOf_cons, if_pos (hseg n hn)]
      · show (decide (0 < b) && !decide (some (r.word, cntO r b) = sh)) = true ↔ EdgeF lab b
        unfold EdgeF
        by_cases h0 : 0 < b
        · rw [hs h0, hlb]
          simp [h0]
        · simp [h0]
    cases hu with
    | last ht =>
      have hh : ∀ n, hit n r = true := fun n => by unfold hit; rw [ht]
      simp only [spansFrom, ht]
      refine ⟨fun s hs2 => ?_, .last rfl rfl⟩
      rcases List.mem_cons.mp hs2 with z | z
      · subst z
        exact key (hh b) none (fun h z => nomatch z) (fun n _ => hh n)
      · simp at z
    | more ht hbt hu2 =>
      rename_i t
      have hh : ∀ n, n < t → hit n r = true := fun n hn => by unfold hit; rw [ht]; exact decide_eq_true hn
      have hh2 : ∀ n, t ≤ n → ¬ hit n r = true := fun n hn => by unfold hit; rw [ht]; simp; omega
      simp only [spansFrom, ht]
      have ih2 := ih (sh := some (r.word, cntO r (t - 1))) hu2 (by omega) (fun r2 h2 => hr r2 (List.mem_cons_of_mem _ h2)) (fun n hn => by rw [hl n (by omega), labelOf_cons, if_neg (hh2 n hn)]) (fun _ => by rw [hl (t - 1) (by omega), labelOf_cons, if_pos (hh _ (by omega))])
      refine ⟨fun s hs2 => ?_, ?_⟩
      · rcases List.mem_cons.mp hs2 with z | z
        · subst z
          exact key (hh b hbt) (some (t - 1)) (fun h z => by cases z; omega) (fun n hn => hh n (by have := hn.2 (t - 1) rfl; omega))
        · exact ih2.1 s z
      · refine .more (h := t - 1) rfl rfl (by omega) ?_
        rw [show t - 1 + 1 = t by omega]
        exact ih2.2
theorem RowsOk.fit {rows : List RowD} (h : RowsOk rows) : Fit (labelOf rows) (spansFrom 0 none rows) ∧ Chain 0 (spansFrom 0 none rows) :=
  fit_from h.u (Int.le_refl _) (fun r hr => (h.r r hr).1) (fun _ _ => rfl) (fun z => absurd z (by decide))
/-! ### edges within a span -/
section
variable {lab : Int → Lab} {s : SpanD}
theorem cntO_some {r : RowD} {u n : Int} (h : r.unit = some u) : cntO r n = some (cnt n u r.way) := by unfold cntO; rw [h]; rfl
theorem cntO_none {r : RowD} {n : Int} (h : r.unit = none) : cntO r n = none := by unfold cntO; rw [h]; rfl
theorem seg_pred {n : Int} (h : Seg s n) (hl : s.low < n) : Seg s (n - 1) := ⟨by omega, fun x hx => by have := h.2 x hx; omega⟩
theorem edge_in (F : Fit1 lab s) {n : Int} (h : Seg s n) (hl : s.low < n) : EdgeF lab n ↔ cntO s.row n ≠ cntO s.row (n - 1) := by
  have h1 := F.lb n h
  have h2 := F.lb (n - 1) (seg_pred h hl)
  have h0 := F.lo
  unfold EdgeF
  rw [h1, h2]
  constructor
  · rintro ⟨_, z⟩ e
    exact z (by rw [e])
  · intro z
    exact ⟨by omega, fun e => z (congrArg Prod.snd e)⟩
theorem edge_none (F : Fit1 lab s) (hu : s.row.unit = none) {n : Int} (h : Seg s n) (hl : s.low < n) : ¬ EdgeF lab n := by
  rw [edge_in F h hl, cntO_none hu, cntO_none hu]
  simp
theorem edge_some (F : Fit1 lab s) {u : Int} (hu : s.row.unit = some u) {n : Int} (h : Seg s n) (hl : s.low < n) : EdgeF lab n ↔ cnt n u s.row.way = cnt (n - 1) u s.row.way + 1 := by
  rw [edge_in F h hl, cntO_some hu, cntO_some hu]
  have u0 := F.un u hu
  have h1 := cnt_mono (w := s.row.way) u0 (show n - 1 ≤ n by omega)
  have h2 := cnt_succ (w := s.row.way) (n := n - 1) u0
  rw [show n - 1 + 1 = n by omega] at h2
  constructor
  · intro z
    have z2 : cnt n u s.row.way ≠ cnt (n - 1) u s.row.way := fun e => z (by rw [e])
    omega
  · intro z e
    have := Option.some.inj e
    omega
/-- the next edge of a span -/
theorem edgeAfter_spec (F : Fit1 lab s) (n : Int) : match edgeAfter s n with
    | none => ∀ b, n < b → Seg s b → ¬ EdgeF lab b
    | some e => n < e ∧ Seg s e ∧ EdgeF lab e ∧ ∀ b, n < b → b < e → Seg s b → ¬ EdgeF lab b := by
  by_cases hf : s.fresh = true ∧ n < s.low
  · have e : edgeAfter s n = some s.low := if_pos hf
    rw [e]
    exact ⟨hf.2, F.ne, F.fr.mp hf.1, fun b h1 h2 h3 => absurd h3.1 (by omega)⟩
  · have e : edgeAfter s n = _ := if_neg hf
    rw [e]
    have low0 : ∀ b, n < b → Seg s b → b = s.low → ¬ EdgeF lab b := fun b h1 h2 h3 h4 => hf ⟨F.fr.mpr (by rw [← h3]; exact h4), by omega⟩
    cases hu : s.row.unit with
    | none =>
      intro b h1 h2
      by_cases hb : b = s.low
      · exact low0 b h1 h2 hb
      · exact edge_none F hu h2 (by have := h2.1; omega)
    | some u =>
      have u0 := F.un u hu
      generalize hm : (if s.low > n then s.low else n) = m
      have m1 : n ≤ m ∧ s.low ≤ m ∧ (m = n ∨ m = s.low) := by
        rw [← hm]
        split <;> omega
      have he1 : ¬ fst (cnt m u s.row.way + 1) u s.row.way ≤ m := fun z => by have := (cnt_ge u0).mpr z; omega
      have flat : ∀ b, m ≤ b → b < fst (cnt m u s.row.way + 1) u s.row.way → cnt b u s.row.way = cnt m u s.row.way := by
        intro b h1 h2
        have h3 := cnt_mono (w := s.row.way) u0 h1
        have h4 : ¬ cnt m u s.row.way + 1 ≤ cnt b u s.row.way := fun z => by have := (cnt_ge u0).mp z; omega
        omega
      have noE : ∀ b, n < b → Seg s b → b < fst (cnt m u s.row.way + 1) u s.row.way → ¬ EdgeF lab b := by
        intro b h1 h2 h3
        by_cases hb : b = s.low
        · exact low0 b h1 h2 hb
        · have hb2 : s.low < b := by have := h2.1; omega
          rw [edge_some F hu h2 hb2, flat b (by omega) h3, flat (b - 1) (by omega) (by omega)]
          omega
      have isE : Seg s (fst (cnt m u s.row.way + 1) u s.row.way) → EdgeF lab (fst (cnt m u s.row.way + 1) u s.row.way) := by
        intro h1
        rw [edge_some F hu h1 (by omega), flat (fst (cnt m u s.row.way + 1) u s.row.way - 1) (by omega) (by omega)]
        have h2 : cnt m u s.row.way + 1 ≤ cnt (fst (cnt m u s.row.way + 1) u s.row.way) u s.row.way := (cnt_ge u0).mpr (Int.le_refl _)
        have h3 := cnt_succ (w := s.row.way) (n := fst (cnt m u s.row.way + 1) u s.row.way - 1) u0
        rw [show fst (cnt m u s.row.way + 1) u s.row.way - 1 + 1 = fst (cnt m u s.row.way + 1) u s.row.way by omega, flat (fst (cnt m u s.row.way + 1) u s.row.way - 1) (by omega) (by omega)] at h3
        omega
      cases hh : s.high with
      | none =>
        have sg : Seg s (fst (cnt m u s.row.way + 1) u s.row.way) := ⟨by omega, fun x hx => by rw [hh] at hx; cases hx⟩
        exact ⟨by omega, sg, isE sg, fun b h1 h2 h3 => noE b h1 h3 h2⟩
      | some h =>
        by_cases hle : fst (cnt m u s.row.way + 1) u s.row.way ≤ h
        · show match (if _ then _ else _ : Option Int) with | none => _ | some e => _
          rw [if_pos hle]
          have sg : Seg s (fst (cnt m u s.row.way + 1) u s.row.way) := ⟨by omega, fun x hx => by rw [hh] at hx; cases hx; exact hle⟩
          exact ⟨by omega, sg, isE sg, fun b h1 h2 h3 => noE b h1 h3 h2⟩
        · show match (if _ then _ else _ : Option Int) with | none => _ | some e => _
          rw [if_neg hle]
          exact fun b h1 h2 => noE b h1 h2 (by have := h2.2 h hh; omega)
end
theorem Chain.cover : ∀ {ss : List SpanD} {b0 : Int}, Chain b0 ss → ∀ n, b0 ≤ n → ∃ s ∈ ss, Seg s n
  | _, _, .last (s := s) h1 h2, n, hn => ⟨s, List.mem_cons_self, by omega, fun h z => by rw [h2] at z; cases z⟩
  | _, _, .more (s := s) (h := h) h1 h2 h3 h4, n, hn => by
    by_cases hle : n ≤ h
    · exact ⟨s, List.mem_cons_self, by omega, fun x z => by rw [h2] at z; cases z; exact hle⟩
    · obtain ⟨s2, h5, h6⟩ := h4.cover n (by omega)
      exact ⟨s2, List.mem_cons_of_mem _ h5, h6⟩
theorem Chain.low : ∀ {ss : List SpanD} {b0 : Int}, Chain b0 ss → ∀ s ∈ ss, b0 ≤ s.low
  | _, _, .last h1 h2, s, hs => by rw [List.mem_singleton.mp hs]; omega
  | _, _, .more h1 h2 h3 h4, s, hs => by
    rcases List.mem_cons.mp hs with z | z
    · rw [z]; omega
    · have := h4.low s z
      omega
/-- later_edge: the least edge above, or none -/
theorem later_spec {lab : Int → Lab} (n : Int) : ∀ {ss : List SpanD} {b0 : Int}, Chain b0 ss → Fit lab ss → match laterEdge ss n with
    | none => ∀ b, n < b → b0 ≤ b → ¬ EdgeF lab b
    | some e => n < e ∧ b0 ≤ e ∧ EdgeF lab e ∧ ∀ b, n < b → b < e → b0 ≤ b → ¬ EdgeF lab b := by
  intro ss
  induction ss with
  | nil => intro b0 hc; cases hc
  | cons s ss ih =>
    intro b0 hc F
    have h1 := edgeAfter_spec (F s List.mem_cons_self) n
    have hl := hc.low s List.mem_cons_self
    unfold laterEdge
    rw [List.findSome?_cons]
    cases he : edgeAfter s n with
    | some e =>
      rw [he] at h1
      obtain ⟨a1, a2, a3, a4⟩ := h1
      refine ⟨a1, by have := a2.1; omega, a3, fun b b1 b2 b3 => a4 b b1 b2 ?_⟩
      have hs : s.low = b0 := by cases hc <;> assumption
      exact ⟨by omega, fun x hx => by have := a2.2 x hx; omega⟩
    | none =>
      rw [he] at h1
      cases hc with
      | last h2 h3 => exact fun b b1 b2 => h1 b b1 ⟨by omega, fun x hx => by rw [h3] at hx; cases hx⟩
      | more h2 h3 h4 h5 =>
        rename_i h
        have ih2 := ih h5 (fun s2 hs2 => F s2 (List.mem_cons_of_mem _ hs2))
        have hA : ∀ b, n < b → b0 ≤ b → b ≤ h → ¬ EdgeF lab b := fun b b1 b2 b3 => h1 b b1 ⟨by omega, fun x hx => by rw [h3] at hx; cases hx; exact b3⟩
        show match laterEdge ss n with | none => _ | some e => _
        cases hl2 : laterEdge ss n with
        | none =>
          rw [hl2] at ih2
          intro b b1 b2
          by_cases hb : b ≤ h
          · exact hA b b1 b2 hb
          · exact ih2 b b1 (by omega)
        | some e =>
          rw [hl2] at ih2
          obtain ⟨a1, a2, a3, a4⟩ := ih2
          refine ⟨a1, by omega, a3, fun b b1 b2 b3 => ?_⟩
          by_cases hb : b ≤ h
          · exact hA b b1 b3 hb
          · exact a4 b b1 b2 (by omega)
/-! ### how many edges -/
theorem numE_cons (s : SpanD) (ss : List SpanD) (n : Int) : numE (s :: ss) n = (if s.low ≤ n then numUntil s n else 0) + numE ss n := by
  unfold numE
  by_cases h : s.low ≤ n
  · rw [List.filter_cons_of_pos (by simpa using h), if_pos h]; rfl
  · rw [List.filter_cons_of_neg (by simpa using h), if_neg h, Int.zero_add]
theorem numE_below : ∀ {ss : List SpanD} {b0 n : Int}, (∀ s ∈ ss, b0 ≤ s.low) → n < b0 → numE ss n = 0
  | [], _, _, _, _ => rfl
  | s :: ss, b0, n, h, hn => by
    rw [numE_cons, if_neg (by have := h s List.mem_cons_self; omega), numE_below (fun s2 h2 => h s2 (List.mem_cons_of_mem _ h2)) hn]
    rfl
open Classical in
noncomputable def eI (lab : Int → Lab) (n : Int) : Int := if EdgeF lab n then 1 else 0
theorem numUntil_low {lab : Int → Lab} {s : SpanD} (F : Fit1 lab s) : numUntil s s.low = eI lab s.low := by
  have hl : limO s s.low = s.low := by
    unfold limO
    cases h : s.high with
    | none => rfl
    | some x => show (if _ then _ else _) = _; rw [if_neg (by have := F.ne.2 x h; omega)]
  have hfr : (if s.fresh = true then (1 : Int) else 0) = eI lab s.low := by
    unfold eI
    by_cases h : s.fresh = true
    · rw [if_pos h, if_pos (F.fr.mp h)]
    · rw [if_neg h, if_neg (fun z => h (F.fr.mpr z))]
  unfold numUntil
  cases hu : s.row.unit with
  | none => exact hfr
  | some u =>
    show (if s.fresh = true then (1 : Int) else 0) + cnt (limO s s.low) u s.row.way - cnt s.low u s.row.way = _
    rw [hl, hfr]
    omega
theorem numUntil_step {lab : Int → Lab} {s : SpanD} (F : Fit1 lab s) {n : Int} (h : Seg s n) (hl : s.low < n) : numUntil s n - numUntil s (n - 1) = eI lab n := by
  have l1 : ∀ m, Seg s m → limO s m = m := fun m hm => by
    unfold limO
    cases h2 : s.high with
    | none => rfl
    | some x => show (if _ then _ else _) = _; rw [if_neg (by have := hm.2 x h2; omega)]
  unfold numUntil
  cases hu : s.row.unit with
  | none =>
    show (if s.fresh = true then (1 : Int) else 0) - (if s.fresh = true then (1 : Int) else 0) = _
    unfold eI
    rw [if_neg (edge_none F hu h hl)]
    omega
  | some u =>
    show (if s.fresh = true then (1 : Int) else 0) + cnt (limO s n) u s.row.way - cnt s.low u s.row.way - ((if s.fresh = true then (1 : Int) else 0) + cnt (limO s (n - 1)) u s.row.way - cnt s.low u s.row.way) = _
    rw [l1 n h, l1 _ (seg_pred h hl)]
    have u0 := F.un u hu
    have h1 := cnt_mono (w := s.row.way) u0 (show n - 1 ≤ n by omega)
    have h2 := cnt_succ (w := s.row.way) (n := n - 1) u0
    rw [show n - 1 + 1 = n by omega] at h2
    unfold eI
    by_cases he : EdgeF lab n
    · rw [if_pos he]
      have := (edge_some F hu h hl).mp he
      omega
    · rw [if_neg he]
      have : ¬ cnt n u s.row.way = cnt (n - 1) u s.row.way + 1 := fun z => he ((edge_some F hu h hl).mpr z)
      omega
theorem numUntil_past {s : SpanD} {x n : Int} (hx : s.high = some x) (h : x < n) : numUntil s n = numUntil s (n - 1) := by
  have l1 : ∀ m, x ≤ m → limO s m = x := fun m hm => by
    unfold limO
    rw [hx]
    show (if _ then _ else _) = _
    split <;> omega
  unfold numUntil
  rw [l1 n (by omega), l1 (n - 1) (by omega)]
theorem numE_step {lab : Int → Lab} (n : Int) : ∀ {ss : List SpanD} {b0 : Int}, Chain b0 ss → Fit lab ss → b0 ≤ n → numE ss n - numE ss (n - 1) = eI lab n := by
  intro ss
  induction ss with
  | nil => intro b0 hc; cases hc
  | cons s ss ih =>
    intro b0 hc F hb
    have F1 := F s List.mem_cons_self
    have hs : s.low = b0 := by cases hc <;> assumption
    rw [numE_cons, numE_cons]
    have zero : ∀ m h, Chain (h + 1) ss → m ≤ h → numE ss m = 0 := fun m h hc2 hm => numE_below hc2.low (by omega)
    rw [if_pos (by omega : s.low ≤ n)]
    by_cases he : n = s.low
    · rw [if_neg (by omega : ¬ s.low ≤ n - 1), he, numUntil_low F1]
      have : numE ss s.low = 0 ∧ numE ss (s.low - 1) = 0 := by
        cases hc with
        | last h1 h2 => exact ⟨rfl, rfl⟩
        | more h1 h2 h3 h4 => exact ⟨zero _ _ h4 (by omega), zero _ _ h4 (by omega)⟩
      omega
    · rw [if_pos (by omega : s.low ≤ n - 1)]
      cases hc with
      | last h1 h2 =>
        have := numUntil_step F1 (n := n) ⟨by omega, fun x hx => by rw [h2] at hx; cases hx⟩ (by omega)
        show numUntil s n + 0 - (numUntil s (n - 1) + 0) = _
        omega
      | more h1 h2 h3 h4 =>
        rename_i h
        by_cases hle : n ≤ h
        · have := numUntil_step F1 (n := n) ⟨by omega, fun x hx => by rw [h2] at hx; cases hx; exact hle⟩ (by omega)
          have z1 := zero n h h4 hle
          have z2 := zero (n - 1) h h4 (by omega)
          omega
        · have h5 := numUntil_past h2 (show h < n by omega)
          have h6 := ih h4 (fun s2 hs2 => F s2 (List.mem_cons_of_mem _ hs2)) (by omega)
          omega
theorem numE_zero {lab : Int → Lab} {ss : List SpanD} (hc : Chain 0 ss) (F : Fit lab ss) : numE ss 0 = 0 := by
  have h1 := numE_step (lab := lab) 0 hc F (Int.le_refl _)
  have h2 : numE ss (0 - 1) = 0 := numE_below hc.low (by decide)
  have h3 : eI lab 0 = 0 := if_neg (fun z => absurd z.1 (by decide))
  omega
theorem numE_flat {lab : Int → Lab} {ss : List SpanD} (hc : Chain 0 ss) (F : Fit lab ss) {x : Int} (hx : 0 ≤ x) : ∀ (k : Nat), (∀ b, x < b → b ≤ x + k → ¬ EdgeF lab b) → numE ss (x + k) = numE ss x
  | 0, _ => by simp
  | k + 1, h => by
    have ih := numE_flat hc F hx k (fun b h1 h2 => h b h1 (by omega))
    have h1 := numE_step (lab := lab) (x + ((k + 1 : Nat) : Int)) hc F (by omega)
    have h2 : eI lab (x + ((k + 1 : Nat) : Int)) = 0 := if_neg (h _ (by omega) (by omega))
    rw [show x + ((k + 1 : Nat) : Int) - 1 = x + k by omega] at h1
    omega
theorem lab_flat {lab : Int → Lab} {x : Int} (hx : 0 ≤ x) : ∀ (k : Nat), (∀ b, x < b → b ≤ x + k → ¬ EdgeF lab b) → lab (x + k) = lab x
  | 0, _ => by simp
  | k + 1, h => by
    have ih := lab_flat hx k (fun b h1 h2 => h b h1 (by omega))
    have h1 : ¬ EdgeF lab (x + ((k + 1 : Nat) : Int)) := h _ (by omega) (by omega)
    unfold EdgeF at h1
    rw [show x + ((k + 1 : Nat) : Int) - 1 = x + k by omega, ih] at h1
    exact Classical.byContradiction fun z => h1 ⟨by omega, z⟩
end Age

set_option Elab.async false
set_option linter.all false
set_option maxHeartbeats 2000000
namespace Age
open PySem
def InP (p : Str2) (n : Int) : Prop := p.1 ≤ n ∧ ∀ h, p.2 = some h → n ≤ h
section
variable {lab : Int → Lab} {s : SpanD}
theorem stretch_spec (F : Fit1 lab s) (w : Str) (c : Option Int) : match stretchWith s w c with
    | none => ∀ n, Seg s n → lab n ≠ (w, c)
    | some p => InP p p.1 ∧ Seg s p.1 ∧ (∀ h, p.2 = some h → Seg s h) ∧ ∀ n, InP p n ↔ Seg s n ∧ lab n = (w, c) := by
  unfold stretchWith
  by_cases hw : s.row.word = w
  · rw [if_pos hw]
    cases hu : s.row.unit with
    | none =>
      cases c with
      | none =>
        refine ⟨F.ne, F.ne, fun h hh => ⟨F.ne.2 h hh, fun x hx => by have hh : s.high = some h := hh; rw [hh] at hx; cases hx; exact Int.le_refl _⟩, fun n => ⟨fun h => ⟨h, ?_⟩, fun h => h.1⟩⟩
        rw [F.lb n h, hw, cntO_none hu]
      | some c =>
        intro n hn e
        rw [F.lb n hn, cntO_none hu] at e
        cases congrArg Prod.snd e
    | some u =>
      cases c with
      | none =>
        intro n hn e
        rw [F.lb n hn, cntO_some hu] at e
        cases congrArg Prod.snd e
      | some c =>
        have u0 := F.un u hu
        show match (if (if fst c u s.row.way > s.low then fst c u s.row.way else s.low) ≤ limO s (fst (c + 1) u s.row.way - 1) then some (if fst c u s.row.way > s.low then fst c u s.row.way else s.low, some (limO s (fst (c + 1) u s.row.way - 1))) else none : Option Str2) with | none => _ | some p => _
        generalize hlo : (if fst c u s.row.way > s.low then fst c u s.row.way else s.low) = lo
        have lo1 : ∀ n, lo ≤ n ↔ fst c u s.row.way ≤ n ∧ s.low ≤ n := fun n => by rw [← hlo]; split <;> omega
        generalize hhi : limO s (fst (c + 1) u s.row.way - 1) = hi
        have hi1 : ∀ n, n ≤ hi ↔ n < fst (c + 1) u s.row.way ∧ ∀ h, s.high = some h → n ≤ h := fun n => by
          rw [← hhi]
          unfold limO
          cases hh : s.high with
          | none =>
            show n ≤ fst (c + 1) u s.row.way - 1 ↔ _
            exact ⟨fun z => ⟨by omega, fun h q => nomatch q⟩, fun z => by have := z.1; omega⟩
          | some x =>
            show n ≤ (if x < fst (c + 1) u s.row.way - 1 then x else fst (c + 1) u s.row.way - 1) ↔ _
            split
            · exact ⟨fun z => ⟨by omega, fun h q => by cases q; exact z⟩, fun z => z.2 x rfl⟩
            · exact ⟨fun z => ⟨by omega, fun h q => by cases q; omega⟩, fun z => by have := z.1; omega⟩
        have iff : ∀ n, (lo ≤ n ∧ n ≤ hi) ↔ Seg s n ∧ lab n = (w, some c) := fun n => by
          constructor
          · rintro ⟨a, b⟩
            have a' := (lo1 n).mp a
            have b' := (hi1 n).mp b
            have sg : Seg s n := ⟨a'.2, b'.2⟩
            refine ⟨sg, ?_⟩
            have c1 := (cnt_ge (w := s.row.way) (n := n) u0).mpr a'.1
            have c2 : ¬ c + 1 ≤ cnt n u s.row.way := fun z => by have := (cnt_ge u0).mp z; omega
            rw [F.lb n sg, hw, cntO_some hu, show cnt n u s.row.way = c by omega]
          · rintro ⟨sg, e⟩
            rw [F.lb n sg, cntO_some hu] at e
            have e2 : cnt n u s.row.way = c := Option.some.inj (congrArg Prod.snd e)
            refine ⟨(lo1 n).mpr ⟨(cnt_ge u0).mp (by omega), sg.1⟩, (hi1 n).mpr ⟨?_, sg.2⟩⟩
            have : ¬ fst (c + 1) u s.row.way ≤ n := fun z => by have := (cnt_ge u0).mpr z; omega
            omega
        by_cases hle : lo ≤ hi
        · rw [if_pos hle]
          refine ⟨⟨Int.le_refl _, fun h z => by cases z; exact hle⟩, ((iff lo).mp ⟨Int.le_refl _, hle⟩).1, fun h z => by cases z; exact ((iff hi).mp ⟨hle, Int.le_refl _⟩).1, fun n => ?_⟩
          rw [← iff n]
          exact ⟨fun z => ⟨z.1, z.2 hi rfl⟩, fun z => ⟨z.1, fun h q => by cases q; exact z.2⟩⟩
        · rw [if_neg hle]
          intro n hn e
          have := (iff n).mpr ⟨hn, e⟩
          omega
  · rw [if_neg hw]
    intro n hn e
    rw [F.lb n hn] at e
    exact hw (congrArg Prod.fst e)
end
def Asc (ps : List Str2) : Prop := ps.Pairwise fun p q => ∃ h, p.2 = some h ∧ h < q.1
def Gap (ps : List Str2) : Prop := ps.Pairwise fun p q => ∃ h, p.2 = some h ∧ h + 1 < q.1
theorem raw_spec {lab : Int → Lab} (w : Str) (c : Option Int) : ∀ {ss : List SpanD} {b0 : Int}, Chain b0 ss → Fit lab ss → Asc (ss.filterMap (stretchWith · w c)) ∧ (∀ p ∈ ss.filterMap (stretchWith · w c), InP p p.1 ∧ b0 ≤ p.1) ∧
    ∀ n, (∃ p ∈ ss.filterMap (stretchWith · w c), InP p n) ↔ b0 ≤ n ∧ lab n = (w, c) := by
  intro ss
  induction ss with
  | nil => intro b0 hc; cases hc
  | cons s ss ih =>
    intro b0 hc F
    have F1 := F s List.mem_cons_self
    have hs : s.low = b0 := by cases hc <;> assumption
    have sp := stretch_spec F1 w c
    cases hc with
    | last h1 h2 =>
      have sg : ∀ n, Seg s n ↔ b0 ≤ n := fun n => ⟨fun z => by have := z.1; omega, fun z => ⟨by omega, fun h q => by rw [h2] at q; cases q⟩⟩
      cases hst : stretchWith s w c with
      | none =>
        rw [hst] at sp
        simp only [List.filterMap_cons, hst, List.filterMap_nil]
        refine ⟨.nil, (fun p z => nomatch z), fun n => ⟨fun ⟨p, z, _⟩ => (nomatch z), fun z => absurd z.2 (sp n ((sg n).mpr z.1))⟩⟩
      | some p =>
        rw [hst] at sp
        obtain ⟨s1, s2, s3, s4⟩ := sp
        simp only [List.filterMap_cons, hst, List.filterMap_nil]
        refine ⟨List.pairwise_singleton _ _, fun q hq => by rw [List.mem_singleton.mp hq]; exact ⟨s1, (sg _).mp s2⟩, fun n => ⟨fun ⟨q, hq, hi⟩ => ?_, fun z => ⟨p, List.mem_cons_self, (s4 n).mpr ⟨(sg n).mpr z.1, z.2⟩⟩⟩⟩
        rw [List.mem_singleton.mp hq] at hi
        have := (s4 n).mp hi
        exact ⟨(sg n).mp this.1, this.2⟩
    | more h1 h2 h3 h4 =>
      rename_i h
      obtain ⟨i1, i2, i3⟩ := ih h4 (fun s2 hs2 => F s2 (List.mem_cons_of_mem _ hs2))
      have sg : ∀ n, Seg s n ↔ b0 ≤ n ∧ n ≤ h := fun n => ⟨fun z => ⟨by have := z.1; omega, z.2 h h2⟩, fun z => ⟨by omega, fun x q => by rw [h2] at q; cases q; exact z.2⟩⟩
      cases hst : stretchWith s w c with
      | none =>
        rw [hst] at sp
        rw [List.filterMap_cons_none (f := (stretchWith · w c)) hst]
        refine ⟨i1, fun p hp => ⟨(i2 p hp).1, by have := (i2 p hp).2; omega⟩, fun n => ?_⟩
        rw [i3 n]
        exact ⟨fun z => ⟨by omega, z.2⟩, fun z => ⟨by
          rcases Int.lt_or_le h n with q | q
          · omega
          · exact absurd z.2 (sp n ((sg n).mpr ⟨z.1, q⟩)), z.2⟩⟩
      | some p =>
        rw [hst] at sp
        obtain ⟨s1, s2, s3, s4⟩ := sp
        rw [List.filterMap_cons_some (f := (stretchWith · w c)) hst]
        obtain ⟨ph, hph⟩ : ∃ ph, p.2 = some ph := by
          cases hp2 : p.2 with
          | some x => exact ⟨x, rfl⟩
          | none =>
            have hin : InP p (h + 1 + p.1.toNat) := ⟨by have := ((sg _).mp s2).1; have := ((sg _).mp s2).2; omega, fun x q => by rw [hp2] at q; cases q⟩
            have := ((sg _).mp ((s4 _).mp hin).1).2
            omega
        have hphh : ph ≤ h := ((sg _).mp (s3 ph hph)).2
        refine ⟨List.pairwise_cons.mpr ⟨fun q hq => ⟨ph, hph, by have := (i2 q hq).2; omega⟩, i1⟩, fun q hq => ?_, fun n => ?_⟩
        · rcases List.mem_cons.mp hq with z | z
          · rw [z]; exact ⟨s1, ((sg _).mp s2).1⟩
          · exact ⟨(i2 q z).1, by have := (i2 q z).2; omega⟩
        · constructor
          · rintro ⟨q, hq, hi⟩
            rcases List.mem_cons.mp hq with z | z
            · rw [z] at hi
              have := (s4 n).mp hi
              exact ⟨((sg n).mp this.1).1, this.2⟩
            · have := (i3 n).mp ⟨q, z, hi⟩
              exact ⟨by omega, this.2⟩
          · rintro ⟨z1, z2⟩
            rcases Int.lt_or_le h n with q | q
            · obtain ⟨r, hr, hi⟩ := (i3 n).mpr ⟨by omega, z2⟩
              exact ⟨r, List.mem_cons_of_mem _ hr, hi⟩
            · exact ⟨p, List.mem_cons_self, (s4 n).mpr ⟨(sg n).mpr ⟨z1, q⟩, z2⟩⟩
theorem join_spec : ∀ (rest acc : List Str2), Gap acc → (∀ p ∈ acc, InP p p.1) → (∀ p ∈ acc, ∀ q ∈ rest, ∃ h, p.2 = some h ∧ h < q.1) → Asc rest → (∀ p ∈ rest, InP p p.1) →
    Gap (rest.foldl joinStep acc) ∧ (∀ p ∈ rest.foldl joinStep acc, InP p p.1) ∧ ∀ n, (∃ p ∈ rest.foldl joinStep acc, InP p n) ↔ (∃ p ∈ acc, InP p n) ∨ ∃ p ∈ rest, InP p n := by
  intro rest
  induction rest with
  | nil => intro acc h1 h2 _ _ _; exact ⟨h1, h2, fun n => ⟨Or.inl, fun z => z.elim id fun ⟨p, hp, _⟩ => nomatch hp⟩⟩
  | cons x rest ih =>
    intro acc h1 h2 h3 h4 h5
    obtain ⟨h4a, h4b⟩ := List.pairwise_cons.mp h4
    have h5x := h5 x List.mem_cons_self
    -- what the step gives
    have step : Gap (joinStep acc x) ∧ (∀ p ∈ joinStep acc x, InP p p.1) ∧ (∀ p ∈ joinStep acc x, ∀ q ∈ rest, ∃ h, p.2 = some h ∧ h < q.1) ∧ ∀ n, (∃ p ∈ joinStep acc x, InP p n) ↔ (∃ p ∈ acc, InP p n) ∨ InP x n := by
      have plain : (∀ p ∈ acc, ∃ h, p.2 = some h ∧ h + 1 < x.1) → Gap (acc ++ [x]) ∧ (∀ p ∈ acc ++ [x], InP p p.1) ∧ (∀ p ∈ acc ++ [x], ∀ q ∈ rest, ∃ h, p.2 = some h ∧ h < q.1) ∧ ∀ n, (∃ p ∈ acc ++ [x], InP p n) ↔ (∃ p ∈ acc, InP p n) ∨ InP x n := by
        intro hg
        refine ⟨List.pairwise_append.mpr ⟨h1, List.pairwise_singleton _ _, fun p hp q hq => by rw [List.mem_singleton.mp hq]; exact hg p hp⟩, fun p hp => ?_, fun p hp q hq => ?_, fun n => ?_⟩
        · rcases List.mem_append.mp hp with z | z
          · exact h2 p z
          · rw [List.mem_singleton.mp z]; exact h5x
        · rcases List.mem_append.mp hp with z | z
          · exact h3 p z q (List.mem_cons_of_mem _ hq)
          · rw [List.mem_singleton.mp z]; exact h4a q hq
        · constructor
          · rintro ⟨p, hp, hi⟩
            rcases List.mem_append.mp hp with z | z
            · exact Or.inl ⟨p, z, hi⟩
            · rw [List.mem_singleton.mp z] at hi; exact Or.inr hi
          · rintro (⟨p, hp, hi⟩ | hi)
            · exact ⟨p, List.mem_append_left _ hp, hi⟩
            · exact ⟨x, List.mem_append_right _ List.mem_cons_self, hi⟩
      rcases List.eq_nil_or_concat acc with z | ⟨init, l, z⟩
      · subst z
        exact plain fun p hp => nomatch hp
      · rw [List.concat_eq_append] at z
        subst z
        obtain ⟨lo, hi⟩ := l
        obtain ⟨h, hh, hlt⟩ := h3 (lo, hi) (List.mem_append_right _ List.mem_cons_self) x List.mem_cons_self
        have hh : hi = some h := hh
        subst hh
        have hlh : lo ≤ h := (h2 (lo, some h) (List.mem_append_right _ List.mem_cons_self)).2 h rfl
        obtain ⟨g1, g2, g3⟩ := List.pairwise_append.mp h1
        have gi : ∀ p ∈ init, ∃ h', p.2 = some h' ∧ h' + 1 < lo := fun p hp => g3 p hp (lo, some h) List.mem_cons_self
        have ej : joinStep (init ++ [(lo, some h)]) x = if h + 1 = x.1 then init ++ [(lo, x.2)] else init ++ [(lo, some h)] ++ [x] := by
          unfold joinStep
          rw [List.getLast?_append]
          simp
        rw [ej]
        by_cases hc : h + 1 = x.1
        · rw [if_pos hc]
          refine ⟨List.pairwise_append.mpr ⟨g1, List.pairwise_singleton _ _, fun p hp q hq => by rw [List.mem_singleton.mp hq]; exact gi p hp⟩, fun p hp => ?_, fun p hp q hq => ?_, fun n => ?_⟩
          · rcases List.mem_append.mp hp with z | z
            · exact h2 p (List.mem_append_left _ z)
            · rw [List.mem_singleton.mp z]
              exact ⟨Int.le_refl _, fun y hy => by have := h5x.2 y hy; show lo ≤ y; omega⟩
          · rcases List.mem_append.mp hp with z | z
            · exact h3 p (List.mem_append_left _ z) q (List.mem_cons_of_mem _ hq)
            · rw [List.mem_singleton.mp z]; exact h4a q hq
          · constructor
            · rintro ⟨p, hp, hi⟩
              rcases List.mem_append.mp hp with z | z
              · exact Or.inl ⟨p, List.mem_append_left _ z, hi⟩
              · rw [List.mem_singleton.mp z] at hi
                rcases Int.lt_or_le h n with q | q
                · exact Or.inr ⟨by omega, hi.2⟩
                · exact Or.inl ⟨(lo, some h), List.mem_append_right _ List.mem_cons_self, hi.1, fun y hy => by cases hy; exact q⟩
            · rintro (⟨p, hp, hi⟩ | hi)
              · rcases List.mem_append.mp hp with z | z
                · exact ⟨p, List.mem_append_left _ z, hi⟩
                · rw [List.mem_singleton.mp z] at hi
                  refine ⟨(lo, x.2), List.mem_append_right _ List.mem_cons_self, hi.1, fun y hy => ?_⟩
                  have := hi.2 h rfl
                  have := h5x.2 y hy
                  omega
              · exact ⟨(lo, x.2), List.mem_append_right _ List.mem_cons_self, by have := hi.1; show lo ≤ n; omega, hi.2⟩
        · rw [if_neg hc]
          refine plain fun p hp => ?_
          rcases List.mem_append.mp hp with z | z
          · obtain ⟨h', a, b⟩ := gi p z
            exact ⟨h', a, by omega⟩
          · rw [List.mem_singleton.mp z]
            exact ⟨h, rfl, by omega⟩
    obtain ⟨s1, s2, s3, s4⟩ := step
    obtain ⟨t1, t2, t3⟩ := ih (joinStep acc x) s1 s2 s3 h4b (fun p hp => h5 p (List.mem_cons_of_mem _ hp))
    refine ⟨t1, t2, fun n => ?_⟩
    show (∃ p ∈ rest.foldl joinStep (joinStep acc x), InP p n) ↔ _
    rw [t3 n, s4 n]
    constructor
    · rintro ((z | z) | ⟨p, hp, hi⟩)
      · exact Or.inl z
      · exact Or.inr ⟨x, List.mem_cons_self, z⟩
      · exact Or.inr ⟨p, List.mem_cons_of_mem _ hp, hi⟩
    · rintro (z | ⟨p, hp, hi⟩)
      · exact Or.inl (Or.inl z)
      · rcases List.mem_cons.mp hp with q | q
        · rw [q] at hi; exact Or.inl (Or.inr hi)
        · exact Or.inr ⟨p, q, hi⟩
/-- ages: the stretches of a label -/
theorem ages_spec {rows : List RowD} (ok : RowsOk rows) (w : Str) (c : Option Int) : Gap (agesOf rows w c) ∧ (∀ p ∈ agesOf rows w c, InP p p.1) ∧ ∀ n, (∃ p ∈ agesOf rows w c, InP p n) ↔ 0 ≤ n ∧ labelOf rows n = (w, c) := by
  obtain ⟨F, hc⟩ := ok.fit
  obtain ⟨r1, r2, r3⟩ := raw_spec w c hc F
  obtain ⟨j1, j2, j3⟩ := join_spec _ [] .nil (fun p z => nomatch z) (fun p z => nomatch z) r1 (fun p hp => (r2 p hp).1)
  refine ⟨j1, j2, fun n => ?_⟩
  show (∃ p ∈ ((spansFrom 0 none rows).filterMap (stretchWith · w c)).foldl joinStep [], InP p n) ↔ _
  rw [j3 n, r3 n]
  exact ⟨fun z => z.elim (fun ⟨p, hp, _⟩ => nomatch hp) id, Or.inr⟩
theorem pw_cases {α : Type} {R : α → α → Prop} : ∀ {xs : List α}, xs.Pairwise R → ∀ {a b : α}, a ∈ xs → b ∈ xs → a = b ∨ R a b ∨ R b a
  | [], _, a, b, ha, _ => nomatch ha
  | x :: xs, h, a, b, ha, hb => by
    obtain ⟨h1, h2⟩ := List.pairwise_cons.mp h
    rcases List.mem_cons.mp ha with z | z
    · rcases List.mem_cons.mp hb with q | q
      · exact Or.inl (z.trans q.symm)
      · rw [z]; exact Or.inr (Or.inl (h1 b q))
    · rcases List.mem_cons.mp hb with q | q
      · rw [q]; exact Or.inr (Or.inr (h1 a z))
      · exact pw_cases h2 z q
/-- a stretch of a label begins and ends where the label does -/
theorem ages_ends {rows : List RowD} (ok : RowsOk rows) {w : Str} {c : Option Int} {p : Str2} (hp : p ∈ agesOf rows w c) : 0 ≤ p.1 ∧ (∀ n, InP p n → labelOf rows n = (w, c)) ∧ (0 < p.1 → EdgeF (labelOf rows) p.1) ∧ ∀ h, p.2 = some h → EdgeF (labelOf rows) (h + 1) := by
  obtain ⟨g, ne, un⟩ := ages_spec ok w c
  have h0 := (un p.1).mp ⟨p, hp, ne p hp⟩
  have inl : ∀ n, InP p n → labelOf rows n = (w, c) := fun n hn => ((un n).mp ⟨p, hp, hn⟩).2
  refine ⟨h0.1, inl, fun hpos => ⟨hpos, fun e => ?_⟩, fun h hh => ?_⟩
  · obtain ⟨q, hq, hi⟩ := (un (p.1 - 1)).mpr ⟨by omega, by rw [← e]; exact h0.2⟩
    rcases pw_cases g hp hq with z | ⟨h, z1, z2⟩ | ⟨h, z1, z2⟩
    · rw [← z] at hi; have := hi.1; omega
    · have := hi.1; have := (ne p hp).2 h z1; omega
    · have := hi.2 h z1; omega
  · have hph := (ne p hp).2 h hh
    refine ⟨by omega, fun e => ?_⟩
    have hl : labelOf rows h = (w, c) := inl h ⟨hph, fun x hx => by rw [hh] at hx; cases hx; exact Int.le_refl _⟩
    rw [show h + 1 - 1 = h by omega, hl] at e
    obtain ⟨q, hq, hi⟩ := (un (h + 1)).mpr ⟨by omega, e⟩
    rcases pw_cases g hp hq with z | ⟨x, z1, z2⟩ | ⟨x, z1, z2⟩
    · rw [← z] at hi; have := hi.2 h hh; omega
    · rw [hh] at z1; cases z1; have := hi.1; omega
    · have := hi.2 x z1; have := (ne p hp).1; omega
end Age

set_option Elab.async false
set_option linter.all false
set_option maxRecDepth 100000
set_option maxHeartbeats 4000000
namespace Age
open PySem PySem.Spec PyProof.Rows L2 Evl RT
/-! ### labels as the law itself counts them -/
theorem near_cnt {n u : Int} (hu : 0 < u) : (2 * n + u) / (2 * u) = (n + u / 2) / u := by
  rw [← Int.ediv_ediv_of_nonneg (show (0 : Int) ≤ 2 by decide)]
  congr 1
  omega
def spLcount : Sp := fun vs H Q _ => ∃ (u : Int) (w : Str) (n : Int), vs = [.int u, .str w, .int n] ∧ 0 < u ∧ Ag u ∧ Sm n ∧ RetV (.int (cnt n u w)) H Q
theorem spv_lcount {u n : Int} {w : Str} {H : Hp} (h : 0 < u) (h2 : Ag u) (h3 : Sm n) : SpV spLcount [.int u, .str w, .int n] H (.int (cnt n u w)) := fun H1 e Q q E => ⟨u, w, n, rfl, h, h2, h3, q⟩
/-- rows of the law's, such as they are -/
structure LRows (H : Hp) (l : Addr) (rows : List RowD) : Prop where
  ex : ∃ xs, H l = some (.lst xs) ∧ DRows H xs rows
theorem LRows.mono {H H' : Hp} {l : Addr} {rows : List RowD} (e : Ex H H') (h : LRows H l rows) : LRows H' l rows := by
  obtain ⟨xs, a, b⟩ := h.ex
  exact ⟨xs, e _ _ a, b.mono e⟩
/-- the row of an age, by its place -/
structure RowNo (rows : List RowD) (n : Int) (i : Nat) (r : RowD) : Prop where
  at_ : rows[i]? = some r
  hit : hit n r = true
  no : ∀ (j : Nat) r', j < i → rows[j]? = some r' → Age.hit n r' = false
theorem RowNo.label : ∀ {rows : List RowD} {n : Int} {i : Nat} {r : RowD}, RowNo rows n i r → labelOf rows n = (r.word, cntO r n)
  | [], _, _, _, h => by have := h.at_; simp at this
  | x :: rows, n, 0, r, h => by
    have e : x = r := by have := h.at_; simpa using this
    subst e
    rw [labelOf_cons, if_pos h.hit]
  | x :: rows, n, i + 1, r, h => by
    have h0 := h.no 0 x (Nat.succ_pos _) rfl
    rw [labelOf_cons, if_neg (by rw [h0]; decide)]
    exact RowNo.label (i := i) ⟨by simpa using h.at_, h.hit, fun j r' hj hr => h.no (j + 1) r' (Nat.succ_lt_succ hj) (by simpa using hr)⟩
def spLrow : Sp := fun vs H Q _ => ∃ (l : Addr) (rows : List RowD) (n : Int), vs = [.ref l, .int n] ∧ LRows H l rows ∧ UOk 0 rows ∧ rows.length ≤ 1000 ∧ ∀ i r H', Ex H H' → RowNo rows n i r → Q (.int (i : Nat)) H'
def spLlabel : Sp := fun vs H Q _ => ∃ (l : Addr) (rows : List RowD) (n : Int), vs = [.ref l, .int n] ∧ LRows H l rows ∧ RowsOk rows ∧ Sm n ∧ ∀ t H2, H t = none → Ex H H2 → H2 t = some (.tup [.str (labelOf rows n).1, oV (labelOf rows n).2]) → Q (.ref t) H2
section
variable {P : Program} {w : World} {K : PySem.W.Frag} {mg : Str → Option Value} {base : Heap} {cR cS cW : Addr}
theorem ok_lcount {f : Addr} {fd : FuncData} (F : Fn K "_law_count" "_law_count" s__law_count f fd) : FnOk P w K mg base CX0 1 f fd ["_law_unit", "_law_way_here", "_law_age"] spLcount := by
  refine F.ok sc__law_count (fun vs H Q E h => ?_) (fun cdv A outer s H vs Q E hr h => ?_)
  · obtain ⟨u, w, n, rfl, _⟩ := h; rfl
  · obtain ⟨u, w, n, rfl, hu, hs, hn, k⟩ := h
    refine ⟨_, PSs.nox (pss_cons (ps_if (pt_cmpR op_eq (pv 1) pe_str (nomark _)) (pss_one (ps_ret (pe_op op_fdivW (pv 2) (pv 0)))) pss_nil) (pss_one (ps_ret (pe_ifExp (pt_cmpR op_eq (pv 1) pe_str (nomark _)) (pe_op op_fdivW (pe_op op_sub (pe_op op_add (pv 2) (pv 0)) pe_int) (pv 0)) (pe_op op_fdivW (pe_op op_add (pe_op op_mulW pe_int (pv 2)) (pv 0)) (pe_op op_mulW pe_int (pv 0))))))), ?_⟩
    have hsm : Sm (2 * u) := by unfold Ag at hs; unfold Sm; omega
    refine q_when (et_test (ev_op (ev_var rfl) ev_c (rv_eq rfl))) (fun hb H1 e1 => ?_) (fun hb H1 e1 => ?_)
    · have e : cnt n u w = n / u := by unfold cnt shiftOf; rw [if_pos (V.str.inj (of_decide_eq_true hb)), Int.add_zero]
      rw [e] at k
      exact s_ret (ev_op (ev_var rfl) (ev_var rfl) (rv_I (hs.sm.div hu))) fun H2 e2 => k H2 (e1.trans e2)
    · have n1 : ¬ w = "down" := fun z => of_decide_eq_false hb (by rw [z])
      refine s_ret (ev_if (et_test (ev_op (ev_var rfl) ev_c (rv_eq rfl))) (fun hb2 => ?_) (fun hb2 => ?_)) fun H2 e2 => k H2 (e1.trans e2)
      · have e : cnt n u w = (n + u - 1) / u := by unfold cnt shiftOf; rw [if_neg n1, if_pos (V.str.inj (of_decide_eq_true hb2))]; congr 1; omega
        rw [e]
        exact ev_op (ev_op (ev_op (ev_var rfl) (ev_var rfl) rv_I0) ev_c rv_I0) (ev_var rfl) (rv_I (hs.sm.div hu))
      · have n2 : ¬ w = "up" := fun z => of_decide_eq_false hb2 (by rw [z])
        have e : cnt n u w = (2 * n + u) / (2 * u) := by unfold cnt shiftOf; rw [if_neg n1, if_neg n2, near_cnt hu]
        rw [e]
        exact ev_op (ev_op (ev_op ev_c (ev_var rfl) (rv_I (Sm.mul (by unfold Sm; omega) hn))) (ev_var rfl) rv_I0) (ev_op ev_c (ev_var rfl) (rv_I (Sm.mul (by unfold Sm; omega) hs.sm))) (rv_I (hsm.div (by omega)))
theorem ok_lrow {f : Addr} {fd : FuncData} (F : Fn K "_law_row_of" "_law_row_of" s__law_row_of f fd) (B : Bn mg) : FnOk P w K mg base CX0 1 f fd ["_law_rows_here", "_law_age"] spLrow := by
  refine F.ok sc__law_row_of (fun vs H Q E h => ?_) (fun cdv A outer s H vs Q E hr h => ?_)
  · obtain ⟨l, rows, n, rfl, _⟩ := h; rfl
  · obtain ⟨l, rows, n, rfl, hL, hu, hn, k⟩ := h
    refine ⟨_, PSs.nox (pss_cons (ps_for PassesOwn.never rfl (pi_range1 rfl B.range (pa_cons (pe_callB call_len_seq (by rfl) B.len (by decide +kernel) (pa_cons (pv 0) pa_nil)) pa_nil)) (pg_name (i := 2) sc__law_row_of.nd rfl (Or.inl rfl)) (pss_one (ps_if (PW.pt (pw_or (pt_cmp (pc_isN (pe_ix ix_tup (pe_ix ix_list (pv 0) (pv 2) (fun _ _ => rfl)) pe_int (fun _ _ => rfl)))) (pw_or1 (pt_cmpR op_lt (pv 1) (pe_ix ix_tup (pe_ix ix_list (pv 0) (pv 2) (fun _ _ => rfl)) pe_int (fun _ _ => rfl)) (nomark _))))) (pss_one (ps_ret (pv 2))) pss_nil))) (pss_one (ps_ret pe_non))), ?_⟩
    obtain ⟨xs, hl, hD⟩ := hL.ex
    have hxl := hD.len
    refine q_forR1 (n := (xs.length : Int)) (ea_cons (ev_len (ev_var rfl) (sq_of hl)) ea_nil) (by omega) (fun i σ H' => (∃ v2, σ = [some (.ref l), some (.int n), v2]) ∧ Ex H H' ∧ ∀ (j : Nat) r', j < i → rows[j]? = some r' → hit n r' = false)
      (fun H1 e1 => ⟨⟨none, rfl⟩, e1, fun j r' hj => absurd hj (Nat.not_lt_zero _)⟩) ?_ ?_
    · rintro i σ' H' hi ⟨⟨v2, rfl⟩, e, hno⟩
      have hilt : i < rows.length := by omega
      have hri : rows[i]? = some rows[i] := List.getElem?_eq_getElem hilt
      generalize rows[i] = r at hri
      obtain ⟨y, hy, t, rfl, ht⟩ := (hD.mono e).get' hri
      show tIfS _ _ _ _ [some (.ref l), some (.int n), some (.int (i : Int))] H'
      have htil : ∀ HH, Ex H' HH → Ev (tOp (rIxT K) (tOp (rIxL K) (tVar 0) (tVar 2)) (tC (.int 0))) [some (.ref l), some (.int n), some (.int (i : Int))] HH (oV r.til) := fun HH eH =>
        ev_op (ev_op (ev_var rfl) (ev_var rfl) (rv_ixL (v := .ref t) (sq_of ((e.trans eH) _ _ hl)) (atI_nat hy))) ev_c (rv_ixT (v := oV r.til) (st_of (eH _ _ ht)) rfl)
      have hret : hit n r = true → ∀ HH, Ex H' HH → tRet (tVar 2) { nx := fun σ H' => (∃ v2, σ = [some (.ref l), some (.int n), v2]) ∧ Ex H H' ∧ ∀ (j : Nat) r', j < i + 1 → rows[j]? = some r' → hit n r' = false, rt := Q } [some (.ref l), some (.int n), some (.int (i : Int))] HH := fun hh HH eH =>
        s_ret (ev_var rfl) fun H2 e2 => k i r H2 ((e.trans eH).trans e2) ⟨hri, hh, hno⟩
      have hgo : hit n r = false → ∀ (j : Nat) r', j < i + 1 → rows[j]? = some r' → hit n r' = false := fun hh j r' hj hr' => by
        rcases Nat.lt_or_ge j i with z | z
        · exact hno j r' z hr'
        · have : j = i := by omega
          subst this
          rw [hri] at hr'
          cases hr'
          exact hh
      cases hti : r.til with
      | none =>
        have h0 := htil H' (Ex.refl _)
        rw [hti] at h0
        refine s_when (et_orT (et_B (ev_isN (x := .non) h0))) (fun _ HH eH => hret (by unfold hit; rw [hti]) HH eH) (fun hb => Bool.noConfusion hb)
      | some tv =>
        have h0 : ∀ HH, Ex H' HH → Ev _ _ HH (.int tv) := fun HH eH => by
          have := htil HH eH
          rw [hti] at this
          exact this
        have hhit : hit n r = decide (n < tv) := by unfold hit; rw [hti]
        refine s_when (et_or (et_B (ev_isN (x := .int tv) (h0 H' (Ex.refl _)))) (fun _ => et_test (ev_op (ev_var rfl) (h0 H' (Ex.refl _)) rv_I0))) (fun hb HH eH => ?_) (fun hb HH eH => ?_)
        · have hb' : decide (n < tv) = true := hb
          exact hret (by rw [hhit]; exact hb') HH eH
        · have hb' : decide (n < tv) = false := hb
          exact ⟨⟨_, rfl⟩, e.trans eH, hgo (by rw [hhit]; exact hb')⟩
    · rintro σ' H' ⟨⟨v2, rfl⟩, e, hno⟩
      exfalso
      obtain ⟨r, hf⟩ := hu.find (n := n)
      have hm := List.mem_of_find?_eq_some hf
      have hh := List.find?_some hf
      obtain ⟨j, hj⟩ := List.mem_iff_getElem?.mp hm
      have hjl := (List.getElem?_eq_some_iff.mp hj).1
      have := hno j r (by omega) hj
      rw [hh] at this
      cases this
theorem ok_llabel {f : Addr} {fd : FuncData} (F : Fn K "_law_label" "_law_label" s__law_label f fd) (c1 : Cal P w K mg base CX0 1 "_law_row_of" ["_law_rows_here", "_law_age"] spLrow) (c2 : Cal P w K mg base CX0 1 "_law_count" ["_law_unit", "_law_way_here", "_law_age"] spLcount) : FnOk P w K mg base CX0 2 f fd ["_law_rows_here", "_law_age"] spLlabel := by
  obtain ⟨f1, fd1, G__law_row_of, m__law_row_of, k__law_row_of, b__law_row_of⟩ := c1.ex
  obtain ⟨f2, fd2, G__law_count, m__law_count, k__law_count, b__law_count⟩ := c2.ex
  refine F.ok sc__law_label (fun vs H Q E h => ?_) (fun cdv A outer s H vs Q E hr h => ?_)
  · obtain ⟨l, rows, n, rfl, _⟩ := h; rfl
  · obtain ⟨l, rows, n, rfl, hL, ok, hsn, k⟩ := h
    refine ⟨_, PSs.nox (pss_cons (ps_asg (pe_ix ix_list (pv 0) (pe_call G__law_row_of (hr.mono (by decide)) rfl m__law_row_of k__law_row_of b__law_row_of .nil pass0 (pa_cons (pv 0) (pa_cons (pv 1) pa_nil))) (fun _ _ => rfl)) (pg_tup rfl (pgs_cons (pg_name (i := 2) sc__law_label.nd rfl (Or.inl rfl)) (pgs_cons (pg_name (i := 3) sc__law_label.nd rfl (Or.inl rfl)) (pgs_cons (pg_name (i := 4) sc__law_label.nd rfl (Or.inl rfl)) (pgs_cons (pg_name (i := 5) sc__law_label.nd rfl (Or.inl rfl)) pgs_nil)))))) (pss_one (ps_ret (pe_tup (pa_cons (pv 5) (pa_cons (pe_ifExp (pt_cmp (pc_isN (pv 3))) pe_non (pe_call G__law_count (hr.mono (by decide)) rfl m__law_count k__law_count b__law_count .nil pass0 (pa_cons (pv 3) (pa_cons (pv 4) (pa_cons (pv 1) pa_nil))))) pa_nil)))))), ?_⟩
    obtain ⟨xs, hl, hD⟩ := hL.ex
    refine ⟨_, rfl, _, rfl, _, rfl, l, rows, n, rfl, hL, ok.u, ok.n, fun i r H1 e1 hN => ?_⟩
    obtain ⟨y, hy, t, rfl, ht⟩ := (hD.mono e1).get' hN.at_
    refine ⟨l, xs, (i : Int), _, rfl, rfl, sq_of (e1 _ _ hl), atI_nat hy, t, _, rfl, st_of ht, rfl, _, _, rfl, _, _, rfl, _, _, rfl, _, _, rfl, rfl, ?_⟩
    dsimp only
    show tRet _ _ [some (.ref l), some (.int n), some (oV r.til), some (oV r.unit), some (.str r.way), some (.str r.word)] H1
    have hlab := hN.label
    rw [hlab] at k
    have hc : Ev (tIf (tB (tIsN (tVar 3))) (tC .non) (tCall spLcount [] E0 (tCons (tVar 3) (tCons (tVar 4) (tCons (tVar 1) tNil))))) [some (.ref l), some (.int n), some (oV r.til), some (oV r.unit), some (.str r.way), some (.str r.word)] H1 (oV (cntO r n)) := by
      cases hu : r.unit with
      | none =>
        rw [cntO_none hu]
        exact ev_if (et_B (ev_isN (x := .non) (ev_var rfl))) (fun _ => ev_c) (fun z => Bool.noConfusion z)
      | some u =>
        rw [cntO_some hu]
        have ⟨u0, u1⟩ := (ok.r r (List.mem_of_getElem? hN.at_)).1.un u hu
        exact ev_if (et_B (ev_isN (x := .int u) (ev_var rfl))) (fun z => Bool.noConfusion z) (fun _ => ev_call (ea_cons (ev_var rfl) (ea_cons (ev_var rfl) (ea_cons (ev_var rfl) ea_nil))) (spv_lcount u0 u1 hsn))
    exact s_retU (eu_tup (ea_cons (ev_var rfl) (ea_cons hc ea_nil)) (by show 2 ≤ 100000; decide)) fun t2 H2 ht2 e2 h2 => k t2 H2 (fresh_back e1 ht2) (e1.trans e2) h2
end
end Age

set_option Elab.async false
set_option linter.all false
set_option maxHeartbeats 2000000
namespace Age
open PySem
/-! ### the next edge and the last one, told by what they are -/
structure NextE (lab : Int → Lab) (n b : Int) : Prop where
  gt : n < b
  ed : EdgeF lab b
  no : ∀ x, n < x → x < b → ¬ EdgeF lab x
def NextO (lab : Int → Lab) (n : Int) : Option Int → Prop
  | none => ∀ x, n < x → ¬ EdgeF lab x
  | some b => NextE lab n b
structure LastE (lab : Int → Lab) (n b : Int) : Prop where
  lo : 0 ≤ b
  le : b ≤ n
  ed : 0 < b → EdgeF lab b
  no : ∀ x, b < x → x ≤ n → ¬ EdgeF lab x
section
variable {lab : Int → Lab} {n : Int}
theorem NextO.uniq {a b : Option Int} (ha : NextO lab n a) (hb : NextO lab n b) : a = b := by
  cases a with
  | none =>
    cases b with
    | none => rfl
    | some y => exact absurd (NextE.ed hb) (ha y (NextE.gt hb))
  | some x =>
    cases b with
    | none => exact absurd (NextE.ed ha) (hb x (NextE.gt ha))
    | some y =>
      have h1 : NextE lab n x := ha
      have h2 : NextE lab n y := hb
      rcases Int.lt_trichotomy x y with z | z | z
      · exact absurd h1.ed (h2.no x h1.gt z)
      · rw [z]
      · exact absurd h2.ed (h1.no y h2.gt z)
theorem LastE.uniq {a b : Int} (ha : LastE lab n a) (hb : LastE lab n b) : a = b := by
  rcases Int.lt_trichotomy a b with z | z | z
  · exact absurd (hb.ed (by have := ha.lo; omega)) (ha.no b z hb.le)
  · exact z
  · exact absurd (ha.ed (by have := hb.lo; omega)) (hb.no a z ha.le)
theorem flat {x y : Int} (hx : 0 ≤ x) (h : ∀ b, x < b → b ≤ y → ¬ EdgeF lab b) (hxy : x ≤ y) : lab y = lab x := by
  have := lab_flat (lab := lab) hx (y - x).toNat (fun b b1 b2 => h b b1 (by omega))
  rw [show x + ((y - x).toNat : Int) = y by omega] at this
  exact this
theorem flat_no {x y : Int} (h : ∀ z, x ≤ z → z ≤ y → lab z = lab x) : ∀ b, x < b → b ≤ y → ¬ EdgeF lab b := fun b h1 h2 e => e.2 (by rw [h b (by omega) h2, h (b - 1) (by omega) (by omega)])
end
theorem later_next {rows : List RowD} (ok : RowsOk rows) {n : Int} (hn : 0 ≤ n) : NextO (labelOf rows) n (laterEdge (spansFrom 0 none rows) n) := by
  obtain ⟨F, hc⟩ := ok.fit
  have := later_spec n hc F
  cases hq : laterEdge (spansFrom 0 none rows) n with
  | none =>
    rw [hq] at this
    exact fun x hx => this x hx (by omega)
  | some b =>
    rw [hq] at this
    exact ⟨this.1, this.2.2.1, fun x h1 h2 => this.2.2.2 x h1 h2 (by omega)⟩
/-! ### the last edge of a span -/
section
variable {lab : Int → Lab} {s : SpanD}
theorem cnt_fst {c u m : Int} {w : Str} (hu : 0 < u) (hm : cnt m u w = c) : cnt (fst c u w) u w = c ∧ fst c u w ≤ m ∧ cnt (fst c u w - 1) u w < c := by
  have h1 : fst c u w ≤ m := (cnt_ge hu).mp (by omega)
  have h2 : c ≤ cnt (fst c u w) u w := (cnt_ge hu).mpr (Int.le_refl _)
  have h3 := cnt_mono (w := w) hu h1
  refine ⟨by omega, h1, ?_⟩
  rcases Int.lt_or_le (cnt (fst c u w - 1) u w) c with z | z
  · exact z
  · have := (cnt_ge hu).mp z
    omega
theorem lastUntil_spec (F : Fit1 lab s) {n : Int} (hn : s.low ≤ n) : match lastUntil s n with
    | none => ∀ x, Seg s x → x ≤ n → ¬ EdgeF lab x
    | some e => Seg s e ∧ e ≤ n ∧ EdgeF lab e ∧ ∀ x, e < x → x ≤ n → Seg s x → ¬ EdgeF lab x := by
  have hlow : (∀ x, Seg s x → x ≤ n → s.low < x → ¬ EdgeF lab x) → match (if s.fresh = true then some s.low else none : Option Int) with
    | none => ∀ x, Seg s x → x ≤ n → ¬ EdgeF lab x
    | some e => Seg s e ∧ e ≤ n ∧ EdgeF lab e ∧ ∀ x, e < x → x ≤ n → Seg s x → ¬ EdgeF lab x := by
    intro h
    by_cases hf : s.fresh = true
    · rw [if_pos hf]
      exact ⟨F.ne, hn, F.fr.mp hf, fun x h1 h2 h3 => h x h3 h2 h1⟩
    · rw [if_neg hf]
      intro x h1 h2 h3
      by_cases hx : x = s.low
      · rw [hx] at h3
        exact hf (F.fr.mpr h3)
      · exact h x h1 h2 (by have := h1.1; omega) h3
  cases hu : s.row.unit with
  | none =>
    have e : lastUntil s n = if s.fresh = true then some s.low else none := by unfold lastUntil; rw [hu]
    rw [e]
    exact hlow fun x h1 _ h3 => edge_none F hu h1 h3
  | some u =>
    have u0 := F.un u hu
    have e : lastUntil s n = if fst (cnt (limO s n) u s.row.way) u s.row.way > s.low then some (fst (cnt (limO s n) u s.row.way) u s.row.way) else if s.fresh = true then some s.low else none := by unfold lastUntil; rw [hu]
    rw [e]
    have hm : Seg s (limO s n) ∧ limO s n ≤ n ∧ ∀ x, Seg s x → x ≤ n → x ≤ limO s n := by
      unfold limO
      split
      · rename_i hh
        exact ⟨⟨hn, fun h z => by rw [hh] at z; cases z⟩, Int.le_refl _, fun x _ h => h⟩
      · rename_i h hh
        have hne := F.ne.2 h hh
        split
        · exact ⟨⟨hne, fun h2 z => by rw [hh] at z; cases z; omega⟩, by omega, fun x hx _ => hx.2 h hh⟩
        · exact ⟨⟨hn, fun h2 z => by rw [hh] at z; cases z; omega⟩, Int.le_refl _, fun x _ h => h⟩
    generalize limO s n = m at hm
    obtain ⟨hms, hmn, hmx⟩ := hm
    obtain ⟨c1, c2, c3⟩ := cnt_fst (m := m) (w := s.row.way) u0 rfl
    have flatm : ∀ x, fst (cnt m u s.row.way) u s.row.way < x → Seg s x → x ≤ n → s.low < x → ¬ EdgeF lab x := fun x h1 h2 h3 h4 => by
      rw [edge_some F hu h2 h4]
      have a1 := cnt_mono (w := s.row.way) u0 (hmx x h2 h3)
      have a2 := cnt_mono (w := s.row.way) u0 (show fst (cnt m u s.row.way) u s.row.way ≤ x - 1 by omega)
      omega
    by_cases hl : fst (cnt m u s.row.way) u s.row.way > s.low
    · rw [if_pos hl]
      have hseg : Seg s (fst (cnt m u s.row.way) u s.row.way) := ⟨by omega, fun h z => by have := hms.2 h z; omega⟩
      refine ⟨hseg, by omega, ?_, fun x h1 h2 h3 => flatm x h1 h3 h2 (by omega)⟩
      rw [edge_some F hu hseg hl]
      have := cnt_succ (w := s.row.way) (n := fst (cnt m u s.row.way) u s.row.way - 1) u0
      rw [show fst (cnt m u s.row.way) u s.row.way - 1 + 1 = fst (cnt m u s.row.way) u s.row.way by omega] at this
      omega
    · rw [if_neg hl]
      exact hlow fun x h1 h2 h3 => flatm x (by omega) h1 h2 h3
theorem last_list {n : Int} : ∀ {ss : List SpanD} {b0 : Int}, Chain b0 ss → Fit lab ss → match ss.reverse.findSome? (lastIn n) with
    | none => ∀ x, b0 ≤ x → x ≤ n → ¬ EdgeF lab x
    | some e => b0 ≤ e ∧ e ≤ n ∧ EdgeF lab e ∧ ∀ x, e < x → x ≤ n → ¬ EdgeF lab x
  | _, b0, .last (s := s) hb hh, F => by
    have F1 := F s List.mem_cons_self
    show match [s].findSome? (lastIn n) with
      | none => ∀ x, b0 ≤ x → x ≤ n → ¬ EdgeF lab x
      | some e => b0 ≤ e ∧ e ≤ n ∧ EdgeF lab e ∧ ∀ x, e < x → x ≤ n → ¬ EdgeF lab x
    have seg : ∀ x, b0 ≤ x → Seg s x := fun x hx => ⟨by omega, fun h z => by rw [hh] at z; cases z⟩
    by_cases hl : s.low ≤ n
    · have sp := lastUntil_spec F1 hl
      have e : lastIn n s = lastUntil s n := if_pos hl
      rw [List.findSome?_cons, e]
      cases hq : lastUntil s n with
      | none =>
        rw [hq] at sp
        exact fun x h1 h2 => sp x (seg x h1) h2
      | some v =>
        rw [hq] at sp
        exact ⟨by have := sp.1.1; omega, sp.2.1, sp.2.2.1, fun x h1 h2 => sp.2.2.2 x h1 h2 (seg x (by have := sp.1.1; omega))⟩
    · have e : lastIn n s = none := if_neg hl
      rw [List.findSome?_cons, e]
      exact fun x h1 h2 => absurd h2 (by omega)
  | _, b0, .more (s := s) (ss := ss) (h := h) hb hh hbh hc, F => by
    have F1 := F s List.mem_cons_self
    have ih := last_list (n := n) hc (fun s hs => F s (List.mem_cons_of_mem _ hs))
    rw [List.reverse_cons, List.findSome?_append]
    cases hq : ss.reverse.findSome? (lastIn n) with
    | some v =>
      rw [hq] at ih
      exact ⟨by omega, ih.2⟩
    | none =>
      rw [hq] at ih
      show match [s].findSome? (lastIn n) with
        | none => ∀ x, b0 ≤ x → x ≤ n → ¬ EdgeF lab x
        | some e => b0 ≤ e ∧ e ≤ n ∧ EdgeF lab e ∧ ∀ x, e < x → x ≤ n → ¬ EdgeF lab x
      have seg : ∀ x, b0 ≤ x → x ≤ h → Seg s x := fun x h1 h2 => ⟨by omega, fun h' z => by rw [hh] at z; cases z; exact h2⟩
      by_cases hl : s.low ≤ n
      · have sp := lastUntil_spec F1 hl
        have e : lastIn n s = lastUntil s n := if_pos hl
        rw [List.findSome?_cons, e]
        cases hq2 : lastUntil s n with
        | none =>
          rw [hq2] at sp
          intro x h1 h2
          by_cases hx : x ≤ h
          · exact sp x (seg x h1 hx) h2
          · exact ih x (by omega) h2
        | some v =>
          rw [hq2] at sp
          refine ⟨by have := sp.1.1; omega, sp.2.1, sp.2.2.1, fun x h1 h2 => ?_⟩
          by_cases hx : x ≤ h
          · exact sp.2.2.2 x h1 h2 (seg x (by have := sp.1.1; omega) hx)
          · exact ih x (by omega) h2
      · have e : lastIn n s = none := if_neg hl
        rw [List.findSome?_cons, e]
        exact fun x h1 h2 => absurd h2 (by omega)
end
theorem last_spec {rows : List RowD} (ok : RowsOk rows) {n : Int} (hn : 0 ≤ n) : LastE (labelOf rows) n (lastEdge (spansFrom 0 none rows) n) := by
  obtain ⟨F, hc⟩ := ok.fit
  have := last_list (n := n) hc F
  unfold lastEdge
  cases hq : (spansFrom 0 none rows).reverse.findSome? (lastIn n) with
  | none =>
    rw [hq] at this
    exact ⟨Int.le_refl _, hn, fun z => absurd z (by decide), fun x h1 h2 => this x (by have : (0 : Int) < x := h1; omega) h2⟩
  | some b =>
    rw [hq] at this
    exact ⟨this.1, this.2.1, fun _ => this.2.2.1, this.2.2.2⟩
/-! ### within a row -/
theorem hit_mono {r : RowD} {c x : Int} (h : hit x r = true) (hc : c ≤ x) : hit c r = true := by
  unfold hit at h ⊢
  cases ht : r.til with
  | none => rfl
  | some t =>
    rw [ht] at h
    have : x < t := of_decide_eq_true h
    exact decide_eq_true (by omega)
def Past (rows : List RowD) (k : Nat) (c : Int) : Prop := ∀ (j : Nat) r', j < k → rows[j]? = some r' → hit c r' = false
theorem Past.le {rows : List RowD} {k : Nat} {c x : Int} (h : Past rows k c) (hx : c ≤ x) : Past rows k x := fun j r' hj hr => by
  have := h j r' hj hr
  cases hq : hit x r' with
  | false => rfl
  | true => rw [hit_mono hq hx] at this; cases this
theorem lab_row {rows : List RowD} {k : Nat} {c x : Int} {r : RowD} (h : Past rows k c) (hr : rows[k]? = some r) (hx : c ≤ x) (hh : hit x r = true) : labelOf rows x = (r.word, cntO r x) := RowNo.label (i := k) ⟨hr, hh, h.le hx⟩
section
variable {rows : List RowD} {k : Nat} {c : Int} {r : RowD}
/-- labels of a row, once they are gone, stay away -/
theorem row_mono (ok : RowsOk rows) (h : Past rows k c) (hr : rows[k]? = some r) {x y z : Int} (h1 : c ≤ x) (h2 : x ≤ y) (h3 : y ≤ z) (hz : hit z r = true) (e : labelOf rows z = labelOf rows x) : labelOf rows y = labelOf rows x := by
  rw [lab_row h hr (by omega) hz, lab_row h hr h1 (hit_mono hz (by omega))] at e
  rw [lab_row h hr (by omega) (hit_mono hz h3), lab_row h hr h1 (hit_mono hz (by omega))]
  have e2 : cntO r z = cntO r x := congrArg Prod.snd e
  cases hu : r.unit with
  | none => rw [cntO_none hu, cntO_none hu]
  | some u =>
    have u0 := ((ok.r r (List.mem_of_getElem? hr)).1.un u hu).1
    rw [cntO_some hu, cntO_some hu] at e2 ⊢
    have a := cnt_mono (w := r.way) u0 h2
    have b := cnt_mono (w := r.way) u0 h3
    have d := Option.some.inj e2
    rw [show cnt y u r.way = cnt x u r.way by omega]
theorem row_unit (ok : RowsOk rows) (h : Past rows k c) (hr : rows[k]? = some r) {x u : Int} (hu : r.unit = some u) (h1 : c ≤ x) (hz : hit (x + u) r = true) : labelOf rows (x + u) ≠ labelOf rows x := by
  have u0 := ((ok.r r (List.mem_of_getElem? hr)).1.un u hu).1
  rw [lab_row h hr (by omega) hz, lab_row h hr h1 (hit_mono hz (by omega))]
  intro e
  have e2 : cntO r (x + u) = cntO r x := congrArg Prod.snd e
  rw [cntO_some hu, cntO_some hu] at e2
  have d := Option.some.inj e2
  unfold cnt at d
  rw [show x + u + shiftOf u r.way = (x + shiftOf u r.way) + 1 * u by omega, Int.add_mul_ediv_right _ _ (by omega)] at d
  omega
theorem row_none (h : Past rows k c) (hr : rows[k]? = some r) (hu : r.unit = none) {x : Int} (h1 : c ≤ x) (hz : hit x r = true) : labelOf rows x = labelOf rows c := by
  rw [lab_row h hr h1 hz, lab_row h hr (Int.le_refl _) (hit_mono hz h1), cntO_none hu, cntO_none hu]
end
structure FirstO (lab : Int → Lab) (lo res : Int) : Prop where
  gt : lo < res
  ne : lab res ≠ lab lo
  eq : ∀ x, lo ≤ x → x < res → lab x = lab lo
theorem FirstO.next {lab : Int → Lab} {lo res : Int} (h : FirstO lab lo res) (h0 : 0 ≤ lo) : NextE lab lo res :=
  ⟨h.gt, ⟨by have := h.gt; omega, fun e => h.ne (by rw [e]; exact h.eq _ (by have := h.gt; omega) (by omega))⟩, fun x h1 h2 e => e.2 (by rw [h.eq x (by omega) h2, h.eq (x - 1) (by omega) (by omega)])⟩
structure LastW (lab : Int → Lab) (age res : Int) : Prop where
  le : res ≤ age
  ne : lab (res - 1) ≠ lab age
  eq : ∀ x, res ≤ x → x ≤ age → lab x = lab age
theorem LastW.last {lab : Int → Lab} {age res : Int} (h : LastW lab age res) (h0 : 0 < res) : LastE lab age res :=
  ⟨by omega, h.le, fun _ => ⟨h0, fun e => h.ne (by rw [← e]; exact h.eq res (Int.le_refl _) h.le)⟩, fun x h1 h2 e => e.2 (by rw [h.eq x (by omega) h2, h.eq (x - 1) (by omega) (by omega)])⟩
end Age

set_option Elab.async false
set_option linter.all false
set_option maxRecDepth 100000
set_option maxHeartbeats 4000000
namespace Age
open PySem PySem.Spec PyProof.Rows L2 Evl RT
theorem label_row {rows : List RowD} (ok : RowsOk rows) (n : Int) : ∃ r ∈ rows, labelOf rows n = (r.word, cntO r n) := by
  obtain ⟨r, hf⟩ := ok.u.find (n := n)
  refine ⟨r, List.mem_of_find?_eq_some hf, ?_⟩
  unfold labelOf
  rw [hf]
theorem label_str {rows : List RowD} (ok : RowsOk rows) (n : Int) : PyData.strOk (labelOf rows n).1 = true := by
  obtain ⟨r, hr, e⟩ := label_row ok n
  rw [e]
  exact (ok.r r hr).1.wd
def Wd (i : Int) : Prop := 0 ≤ i ∧ i < 1393796574908163946345982392040522594123776
theorem Wd.sm {i : Int} (h : Wd i) : Sm i := by unfold Wd at h; unfold Sm; omega
section
variable {K : PySem.W.Frag} {σ : L2.St} {H : Hp} {l t : Addr} {rows : List RowD} {te tf : TE} {x y : Int} {j : Nat} {L : Lab}
theorem em_call {sp : Sp} {dvs vs : List V} {E : XK} {ta : TA} {Q : VK} (h : EvA ta σ H vs) (hs : ∀ H1, Ex H H1 → sp (vs ++ dvs) H1 Q E) : tCall sp dvs E ta σ H Q := h H (Ex.refl H) _ fun H1 e => hs H1 e
theorem EvA.mono' {ta : TA} {vs : List V} {H' : Hp} (e : Ex H H') (h : EvA ta σ H vs) : EvA ta σ H' vs := fun H1 e1 Q q => h H1 (e.trans e1) Q q
theorem et_labEq (hl : LRows H l rows) (ok : RowsOk rows) (h0 : σ[0]? = some (some (.ref l))) (hx : Sm x) (he : Ev te σ H (.int x)) (hj : σ[j]? = some (some (.ref t))) (ht : H t = some (.tup [.str L.1, oV L.2])) (hL : PyData.strOk L.1 = true) :
    EvT (tTest (tOp (rEqD K) (tCall spLlabel [] E0 (tCons (tVar 0) (tCons te tNil))) (tVar j))) σ H (decide (labelOf rows x = L)) := fun H1 e Q q =>
  em_call (EvA.mono' e (ea_cons (ev_var h0) (ea_cons he ea_nil))) fun H2 e2 => ⟨l, rows, x, rfl, hl.mono (e.trans e2), ok, hx, fun t2 H3 ht2 e3 h3 => ⟨_, hj, by
    have hq := rv_eqD (K := K) (H := H3) (dp_lab h3) (dp_lab ((e.trans (e2.trans e3)) _ _ ht)) (shaped_dL _ (label_str ok x)) (shaped_dL _ hL)
    rw [eqv_dL] at hq
    exact hq H3 (Ex.refl _) _ fun H4 e4 => ⟨_, rfl, q H4 ((e2.trans e3).trans e4)⟩⟩⟩
theorem et_labNe (hl : LRows H l rows) (ok : RowsOk rows) (h0 : σ[0]? = some (some (.ref l))) (hx : Sm x) (hy : Sm y) (he : Ev te σ H (.int x)) (hf : Ev tf σ H (.int y)) :
    EvT (tTest (tOp (rNeD K) (tCall spLlabel [] E0 (tCons (tVar 0) (tCons te tNil))) (tCall spLlabel [] E0 (tCons (tVar 0) (tCons tf tNil))))) σ H (!decide (labelOf rows x = labelOf rows y)) := fun H1 e Q q =>
  em_call (EvA.mono' e (ea_cons (ev_var h0) (ea_cons he ea_nil))) fun H2 e2 => ⟨l, rows, x, rfl, hl.mono (e.trans e2), ok, hx, fun t2 H3 ht2 e3 h3 =>
    em_call (EvA.mono' (e.trans (e2.trans e3)) (ea_cons (ev_var h0) (ea_cons hf ea_nil))) fun H4 e4 => ⟨l, rows, y, rfl, hl.mono ((e.trans (e2.trans e3)).trans e4), ok, hy, fun t3 H5 ht3 e5 h5 => by
      have hq := rv_neD (K := K) (H := H5) (dp_lab ((e4.trans e5) _ _ h3)) (dp_lab h5) (shaped_dL _ (label_str ok x)) (shaped_dL _ (label_str ok y))
      rw [eqv_dL] at hq
      exact hq H5 (Ex.refl _) _ fun H6 e6 => ⟨_, rfl, q H6 ((((e2.trans e3).trans e4).trans e5).trans e6)⟩⟩⟩
end
def p140 : Int := 1393796574908163946345982392040522594123776
theorem half_step {a b : Int} {i : Nat} (h : b * 2 ≤ a) (ha : a * 2 ^ i ≤ p140) : b * 2 ^ (i + 1) ≤ p140 := by
  have h1 : (0 : Int) ≤ 2 ^ i := Int.le_of_lt (Int.pow_pos (by decide))
  have h2 := Int.mul_le_mul_of_nonneg_right h h1
  rw [Int.pow_succ, Int.mul_comm (2 ^ i) 2, ← Int.mul_assoc]
  omega
theorem half_end {a : Int} (h0 : 0 ≤ a) (h : a * 2 ^ 200 ≤ p140) : a = 0 := by
  have e : (2 : Int) ^ 200 = 1606938044258990275541962092341162602522202993782792835301376 := by decide +kernel
  rw [e] at h
  unfold p140 at h
  omega
def spFirstO : Sp := fun vs H Q _ => ∃ (l : Addr) (rows : List RowD) (lo hi : Int), vs = [.ref l, .int lo, .int hi] ∧ LRows H l rows ∧ RowsOk rows ∧ 0 ≤ lo ∧ lo < hi ∧ Wd hi ∧ labelOf rows hi ≠ labelOf rows lo ∧ (∀ x y, lo ≤ y → y ≤ x → x ≤ hi → labelOf rows x = labelOf rows lo → labelOf rows y = labelOf rows lo) ∧
  ∀ res H', Ex H H' → FirstO (labelOf rows) lo res → Q (.int res) H'
def spLastW : Sp := fun vs H Q _ => ∃ (l : Addr) (rows : List RowD) (lo age : Int), vs = [.ref l, .int lo, .int age] ∧ LRows H l rows ∧ RowsOk rows ∧ 0 ≤ lo ∧ lo < age ∧ Wd age ∧ labelOf rows lo ≠ labelOf rows age ∧ (∀ x y, lo ≤ x → x ≤ y → y ≤ age → labelOf rows x = labelOf rows age → labelOf rows y = labelOf rows age) ∧
  ∀ res H', Ex H H' → lo < res → LastW (labelOf rows) age res → Q (.int res) H'
section
variable {P : Program} {w : World} {K : PySem.W.Frag} {mg : Str → Option Value} {base : Heap} {cR cS cW : Addr}
theorem ok_firstO {f : Addr} {fd : FuncData} (F : Fn K "_law_first_other" "_law_first_other" s__law_first_other f fd) (B : Bn mg) (c1 : Cal P w K mg base CX0 2 "_law_label" ["_law_rows_here", "_law_age"] spLlabel) : FnOk P w K mg base CX0 3 f fd ["_law_rows_here", "_law_low", "_law_high"] spFirstO := by
  obtain ⟨f1, fd1, G__law_label, m__law_label, k__law_label, b__law_label⟩ := c1.ex
  refine F.ok sc__law_first_other (fun vs H Q E h => ?_) (fun cdv A outer s H vs Q E hr h => ?_)
  · obtain ⟨l, rows, lo, hi, rfl, _⟩ := h; rfl
  · obtain ⟨l, rows, lo, hi, rfl, hL, ok, l0, lh, hw, hne, mono, k⟩ := h
    refine ⟨_, PSs.nox (pss_cons (ps_set (i := 3) sc__law_first_other.nd rfl (Or.inl rfl) (pe_call G__law_label (hr.mono (by decide)) rfl m__law_label k__law_label b__law_label .nil pass0 (pa_cons (pv 0) (pa_cons (pv 1) pa_nil)))) (pss_cons (ps_for PassesOwn.never rfl (pi_range1 rfl B.range (pa_cons pe_int pa_nil)) (pg_name (i := 4) sc__law_first_other.nd rfl (Or.inl rfl)) (pss_cons (ps_if (pt_cmpR op_eq (pe_op op_sub (pv 2) (pv 1)) pe_int (nomark _)) (pss_one (ps_ret (pv 2))) pss_nil) (pss_cons (ps_set (i := 5) sc__law_first_other.nd rfl (Or.inl rfl) (pe_op op_fdivW (pe_op op_add (pv 1) (pv 2)) pe_int)) (pss_one (ps_if (pt_cmpR (op_eqD hr.units) (pe_call G__law_label (hr.mono (by decide)) rfl m__law_label k__law_label b__law_label .nil pass0 (pa_cons (pv 0) (pa_cons (pv 5) pa_nil))) (pv 3) (nomark _)) (pss_one (ps_set (i := 1) sc__law_first_other.nd rfl (Or.inl rfl) (pv 5))) (pss_one (ps_set (i := 2) sc__law_first_other.nd rfl (Or.inl rfl) (pv 5)))))))) (pss_one (ps_ret (pv 2))))), ?_⟩
    have hwd : hi < p140 := hw.2
    refine ⟨_, rfl, _, rfl, l, rows, lo, rfl, hL, ok, by unfold Wd at hw; unfold Sm; omega, fun t H1 ht e1 h1 => ?_⟩
    dsimp only [gName]
    show tSeq (tFor _ _ _) _ _ [some (.ref l), some (.int lo), some (.int hi), some (.ref t), none, none] H1
    refine q_forR1 (n := 200) (ea_cons ev_c ea_nil) (by omega) (fun i σ H' => ∃ a b v4 v5, σ = [some (.ref l), some (.int a), some (.int b), some (.ref t), v4, v5] ∧ Ex H1 H' ∧ lo ≤ a ∧ a < b ∧ b ≤ hi ∧ labelOf rows a = labelOf rows lo ∧ labelOf rows b ≠ labelOf rows lo ∧ (b - a - 1) * 2 ^ i ≤ p140)
      (fun H2 e2 => ⟨lo, hi, none, none, rfl, e2, Int.le_refl _, lh, Int.le_refl _, rfl, hne, by rw [Int.pow_zero, Int.mul_one]; omega⟩) ?_ ?_
    · rintro i σ' H' hi2 ⟨a, b, v4, v5, rfl, eH, h2, h3, h4, h5, h6, h7⟩
      show tSeq (tIfS _ _ _) _ _ [some (.ref l), some (.int a), some (.int b), some (.ref t), some (.int (i : Int)), v5] H'
      refine q_when (et_test (ev_op (ev_op (ev_var rfl) (ev_var rfl) rv_I0) ev_c (rv_eq rfl))) (fun hb H2 e2 => ?_) (fun hb H2 e2 => ?_)
      · have z : b - a = 1 := V.int.inj (of_decide_eq_true hb)
        exact s_ret (ev_var rfl) fun H3 e3 => k b H3 (((e1.trans eH).trans e2).trans e3) ⟨by omega, h6, fun x x1 x2 => mono a x x1 (by omega) (by omega) h5⟩
      · have z : ¬ b - a = 1 := fun q => of_decide_eq_false hb (by rw [q])
        refine q_asg (v := .int ((a + b) / 2)) (ev_op (ev_op (ev_var rfl) (ev_var rfl) rv_I0) ev_c (rv_I (Sm.div (by decide) (by unfold Sm; decide)))) fun H3 e3 => ?_
        have e13 := (eH.trans e2).trans e3
        have hm : a < (a + b) / 2 ∧ (a + b) / 2 < b ∧ ((a + b) / 2 - a - 1) * 2 ≤ b - a - 1 ∧ (b - (a + b) / 2 - 1) * 2 ≤ b - a - 1 := by omega
        generalize (a + b) / 2 = m at hm
        obtain ⟨m1, m2, m3, m4⟩ := hm
        show tIfS _ _ _ _ [some (.ref l), some (.int a), some (.int b), some (.ref t), some (.int (i : Int)), some (.int m)] H3
        refine s_if (et_labEq (hL.mono (e1.trans e13)) ok rfl (x := m) (by unfold Wd at hw; unfold Sm; omega) (ev_var rfl) (L := labelOf rows lo) rfl (e13 _ _ h1) (label_str ok lo)) (fun hb H4 e4 => ?_) (fun hb H4 e4 => ?_)
        · exact s_asg (ev_var rfl) fun H5 e5 => ⟨m, b, _, _, rfl, (e13.trans e4).trans e5, by omega, m2, h4, of_decide_eq_true hb, h6, half_step m4 h7⟩
        · exact s_asg (ev_var rfl) fun H5 e5 => ⟨a, m, _, _, rfl, (e13.trans e4).trans e5, h2, m1, by omega, h5, of_decide_eq_false hb, half_step m3 h7⟩
    · rintro σ' H' ⟨a, b, v4, v5, rfl, eH, h2, h3, h4, h5, h6, h7⟩
      have z := half_end (a := b - a - 1) (by omega) h7
      exact s_ret (ev_var rfl) fun H3 e3 => k b H3 ((e1.trans eH).trans e3) ⟨by omega, h6, fun x x1 x2 => mono a x x1 (by omega) (by omega) h5⟩
end
end Age

set_option Elab.async false
set_option linter.all false
set_option maxRecDepth 100000
set_option maxHeartbeats 4000000
namespace Age
open PySem PySem.Spec PyProof.Rows L2 Evl RT
section
variable {P : Program} {w : World} {K : PySem.W.Frag} {mg : Str → Option Value} {base : Heap} {cR cS cW : Addr}
theorem ok_lastW {f : Addr} {fd : FuncData} (F : Fn K "_law_last_within" "_law_last_within" s__law_last_within f fd) (B : Bn mg) (c1 : Cal P w K mg base CX0 2 "_law_label" ["_law_rows_here", "_law_age"] spLlabel) : FnOk P w K mg base CX0 3 f fd ["_law_rows_here", "_law_low", "_law_age"] spLastW := by
  obtain ⟨f1, fd1, G__law_label, m__law_label, k__law_label, b__law_label⟩ := c1.ex
  refine F.ok sc__law_last_within (fun vs H Q E h => ?_) (fun cdv A outer s H vs Q E hr h => ?_)
  · obtain ⟨l, rows, lo, hi, rfl, _⟩ := h; rfl
  · obtain ⟨l, rows, lo, hi, rfl, hL, ok, l0, lh, hw, hne, mono, k⟩ := h
    refine ⟨_, PSs.nox (pss_cons (ps_par (i := 3) (j := 4) (by rfl) sc__law_last_within.nd rfl rfl (by decide) rfl rfl (pa_cons (pe_call G__law_label (hr.mono (by decide)) rfl m__law_label k__law_label b__law_label .nil pass0 (pa_cons (pv 0) (pa_cons (pv 2) pa_nil))) (pa_cons (pv 2) pa_nil)) (by rfl)) (pss_cons (ps_for PassesOwn.never rfl (pi_range1 rfl B.range (pa_cons pe_int pa_nil)) (pg_name (i := 5) sc__law_last_within.nd rfl (Or.inl rfl)) (pss_cons (ps_if (pt_cmpR op_eq (pe_op op_sub (pv 4) (pv 1)) pe_int (nomark _)) (pss_one (ps_ret (pv 4))) pss_nil) (pss_cons (ps_set (i := 6) sc__law_last_within.nd rfl (Or.inl rfl) (pe_op op_fdivW (pe_op op_add (pv 1) (pv 4)) pe_int)) (pss_one (ps_if (pt_cmpR (op_eqD hr.units) (pe_call G__law_label (hr.mono (by decide)) rfl m__law_label k__law_label b__law_label .nil pass0 (pa_cons (pv 0) (pa_cons (pv 6) pa_nil))) (pv 3) (nomark _)) (pss_one (ps_set (i := 4) sc__law_last_within.nd rfl (Or.inl rfl) (pv 6))) (pss_one (ps_set (i := 1) sc__law_last_within.nd rfl (Or.inl rfl) (pv 6)))))))) (pss_one (ps_ret (pv 4))))), ?_⟩
    have hwd : hi < p140 := hw.2
    refine ⟨_, rfl, _, rfl, l, rows, hi, rfl, hL, ok, hw.sm, fun t H1 ht e1 h1 => ⟨_, rfl, _, _, rfl, ?_⟩⟩
    dsimp only
    show tSeq (tFor _ _ _) _ _ [some (.ref l), some (.int lo), some (.int hi), some (.ref t), some (.int hi), none, none] H1
    refine q_forR1 (n := 200) (ea_cons ev_c ea_nil) (by omega) (fun i σ H' => ∃ a b v4 v5, σ = [some (.ref l), some (.int a), some (.int hi), some (.ref t), some (.int b), v4, v5] ∧ Ex H1 H' ∧ lo ≤ a ∧ a < b ∧ b ≤ hi ∧ labelOf rows b = labelOf rows hi ∧ labelOf rows a ≠ labelOf rows hi ∧ (b - a - 1) * 2 ^ i ≤ p140)
      (fun H2 e2 => ⟨lo, hi, none, none, rfl, e2, Int.le_refl _, lh, Int.le_refl _, rfl, hne, by rw [Int.pow_zero, Int.mul_one]; omega⟩) ?_ ?_
    · rintro i σ' H' hi2 ⟨a, b, v4, v5, rfl, eH, h2, h3, h4, h5, h6, h7⟩
      show tSeq (tIfS _ _ _) _ _ [some (.ref l), some (.int a), some (.int hi), some (.ref t), some (.int b), some (.int (i : Int)), v5] H'
      refine q_when (et_test (ev_op (ev_op (ev_var rfl) (ev_var rfl) rv_I0) ev_c (rv_eq rfl))) (fun hb H2 e2 => ?_) (fun hb H2 e2 => ?_)
      · have z : b - a = 1 := V.int.inj (of_decide_eq_true hb)
        exact s_ret (ev_var rfl) fun H3 e3 => k b H3 (((e1.trans eH).trans e2).trans e3) (by omega) ⟨h4, by rw [show b - 1 = a by omega]; exact h6, fun x x1 x2 => mono b x (by omega) x1 x2 h5⟩
      · have z : ¬ b - a = 1 := fun q => of_decide_eq_false hb (by rw [q])
        refine q_asg (v := .int ((a + b) / 2)) (ev_op (ev_op (ev_var rfl) (ev_var rfl) rv_I0) ev_c (rv_I (Sm.div (by decide) (by unfold Sm; decide)))) fun H3 e3 => ?_
        have e13 := (eH.trans e2).trans e3
        have hm : a < (a + b) / 2 ∧ (a + b) / 2 < b ∧ ((a + b) / 2 - a - 1) * 2 ≤ b - a - 1 ∧ (b - (a + b) / 2 - 1) * 2 ≤ b - a - 1 := by omega
        generalize (a + b) / 2 = m at hm
        obtain ⟨m1, m2, m3, m4⟩ := hm
        show tIfS _ _ _ _ [some (.ref l), some (.int a), some (.int hi), some (.ref t), some (.int b), some (.int (i : Int)), some (.int m)] H3
        refine s_if (et_labEq (hL.mono (e1.trans e13)) ok rfl (x := m) (by unfold Wd at hw; unfold Sm; omega) (ev_var rfl) (L := labelOf rows hi) rfl (e13 _ _ h1) (label_str ok hi)) (fun hb H4 e4 => ?_) (fun hb H4 e4 => ?_)
        · exact s_asg (ev_var rfl) fun H5 e5 => ⟨a, m, _, _, rfl, (e13.trans e4).trans e5, h2, m1, by omega, of_decide_eq_true hb, h6, half_step m3 h7⟩
        · exact s_asg (ev_var rfl) fun H5 e5 => ⟨m, b, _, _, rfl, (e13.trans e4).trans e5, by omega, m2, h4, h5, of_decide_eq_false hb, half_step m4 h7⟩
    · rintro σ' H' ⟨a, b, v4, v5, rfl, eH, h2, h3, h4, h5, h6, h7⟩
      have z := half_end (a := b - a - 1) (by omega) h7
      exact s_ret (ev_var rfl) fun H3 e3 => k b H3 ((e1.trans eH).trans e3) (by omega) ⟨h4, by rw [show b - 1 = a by omega]; exact h6, fun x x1 x2 => mono b x (by omega) x1 x2 h5⟩
end
end Age

set_option Elab.async false
set_option linter.all false
set_option maxRecDepth 100000
set_option maxHeartbeats 4000000
namespace Age
open PySem PySem.Spec PyProof.Rows L2 Evl RT
theorem uok_til : ∀ {rows : List RowD} {b : Int}, UOk b rows → ∀ {j : Nat} {r : RowD}, rows[j]? = some r → j + 1 < rows.length → ∃ t, r.til = some t ∧ b < t
  | _, b, .last h, j, r, hj, hl => by simp at hl
  | _, b, .more (t := t) h hb hu, 0, r, hj, hl => by
    have e := Option.some.inj hj
    rw [← e]
    exact ⟨t, h, hb⟩
  | _, b, .more (t := t) h hb hu, j + 1, r, hj, hl => by
    obtain ⟨t2, a, c⟩ := uok_til hu (j := j) (r := r) (by simpa using hj) (by simpa using hl)
    exact ⟨t2, a, by omega⟩
theorem uok_last : ∀ {rows : List RowD} {b : Int}, UOk b rows → ∀ {k : Nat} {r : RowD}, rows[k]? = some r → ¬ k + 1 < rows.length → r.til = none
  | _, _, .last h, 0, r, hk, _ => by rw [← Option.some.inj hk]; exact h
  | _, _, .last h, k + 1, r, hk, _ => by simp at hk
  | _, _, .more h hb hu, 0, r, hk, hl => by
    have := List.length_pos_iff.mpr hu.ne
    simp at hl
    exact absurd hl hu.ne
  | _, _, .more h hb hu, k + 1, r, hk, hl => uok_last hu (by simpa using hk) (by simpa using hl)
theorem uok_past : ∀ {rows : List RowD} {b : Int}, UOk b rows → ∀ {k : Nat} {r : RowD} {t : Int}, rows[k]? = some r → r.til = some t → Past rows (k + 1) t
  | _, b, .last h, 0, r, t, hk, ht => by
    have e := Option.some.inj hk
    rw [← e, h] at ht
    cases ht
  | _, b, .last h, k + 1, r, t, hk, ht => by simp at hk
  | _, b, .more (t := t0) (r := r0) h hb hu, 0, r, t, hk, ht => by
    have e := Option.some.inj hk
    intro j r' hj hr
    have : j = 0 := by omega
    subst this
    have e2 := Option.some.inj hr
    rw [← e2, e]
    unfold hit
    rw [ht]
    exact decide_eq_false (by omega)
  | _, b, .more (t := t0) (r := r0) (rs := rs) h hb hu, k + 1, r, t, hk, ht => by
    have ih := uok_past hu (k := k) (r := r) (t := t) (by simpa using hk) ht
    have hlt : t0 < t ∨ t0 = t := by
      by_cases hl : k + 1 < rs.length
      · obtain ⟨t2, a, c⟩ := uok_til hu (j := k) (r := r) (by simpa using hk) hl
        rw [ht] at a
        cases a
        exact Or.inl c
      · exfalso
        have : r.til = none := by
          exact uok_last hu (by simpa using hk) hl
        rw [this] at ht
        cases ht
    intro j r' hj hr
    match j, hr with
    | 0, hr =>
      rw [← Option.some.inj hr]
      unfold hit
      rw [h]
      exact decide_eq_false (by omega)
    | j + 1, hr => exact ih j r' (by omega) (by simpa using hr)
def spLlater : Sp := fun vs H Q _ => ∃ (l : Addr) (rows : List RowD) (n : Int), vs = [.ref l, .int n] ∧ LRows H l rows ∧ RowsOk rows ∧ Ag n ∧ RetV (oV (laterEdge (spansFrom 0 none rows) n)) H Q
theorem spv_llater {l : Addr} {rows : List RowD} {n : Int} {H : Hp} (h : LRows H l rows) (o : RowsOk rows) (hn : Ag n) : SpV spLlater [.ref l, .int n] H (oV (laterEdge (spansFrom 0 none rows) n)) := fun H1 e Q q E => ⟨l, rows, n, rfl, h.mono e, o, hn, q⟩
def spLlast : Sp := fun vs H Q _ => ∃ (l : Addr) (rows : List RowD) (n : Int), vs = [.ref l, .int n] ∧ LRows H l rows ∧ RowsOk rows ∧ Ag n ∧ RetV (.int (lastEdge (spansFrom 0 none rows) n)) H Q
theorem spv_llast {l : Addr} {rows : List RowD} {n : Int} {H : Hp} (h : LRows H l rows) (o : RowsOk rows) (hn : Ag n) : SpV spLlast [.ref l, .int n] H (.int (lastEdge (spansFrom 0 none rows) n)) := fun H1 e Q q E => ⟨l, rows, n, rfl, h.mono e, o, hn, q⟩
section
variable {P : Program} {w : World} {K : PySem.W.Frag} {mg : Str → Option Value} {base : Heap} {cR cS cW : Addr}
theorem ok_llater {f : Addr} {fd : FuncData} (F : Fn K "_law_later" "_law_later" s__law_later f fd) (B : Bn mg) (c1 : Cal P w K mg base CX0 2 "_law_label" ["_law_rows_here", "_law_age"] spLlabel) (c2 : Cal P w K mg base CX0 3 "_law_first_other" ["_law_rows_here", "_law_low", "_law_high"] spFirstO) : FnOk P w K mg base CX0 4 f fd ["_law_rows_here", "_law_age"] spLlater := by
  obtain ⟨f1, fd1, G__law_label, m__law_label, k__law_label, b__law_label⟩ := c1.ex
  obtain ⟨f2, fd2, G__law_first_other, m__law_first_other, k__law_first_other, b__law_first_other⟩ := c2.ex
  refine F.ok sc__law_later (fun vs H Q E h => ?_) (fun cdv A outer s H vs Q E hr h => ?_)
  · obtain ⟨l, rows, n, rfl, _⟩ := h; rfl
  · obtain ⟨l, rows, n, rfl, hL, ok, hn, k⟩ := h
    refine ⟨_, PSs.nox (pss_cons (ps_for PassesOwn.never rfl (pi_range1 rfl B.range (pa_cons (pe_callB call_len_seq (by rfl) B.len (by decide +kernel) (pa_cons (pv 0) pa_nil)) pa_nil)) (pg_name (i := 2) sc__law_later.nd rfl (Or.inl rfl)) (pss_cons (ps_asg (pe_ix ix_list (pv 0) (pv 2) (fun _ _ => rfl)) (pg_tup rfl (pgs_cons (pg_name (i := 3) sc__law_later.nd rfl (Or.inl rfl)) (pgs_cons (pg_name (i := 4) sc__law_later.nd rfl (Or.inl rfl)) (pgs_cons (pg_name (i := 5) sc__law_later.nd rfl (Or.inl rfl)) (pgs_cons (pg_name (i := 6) sc__law_later.nd rfl (Or.inl rfl)) pgs_nil)))))) (pss_one (ps_if (PW.pt (pw_or (pt_cmp (pc_isN (pv 3))) (pw_or1 (pt_cmpR op_lt (pv 1) (pv 3) (nomark _))))) (pss_cons (ps_if (pt_cmp (pc_notN (pv 4))) (pss_cons (ps_set (i := 7) sc__law_later.nd rfl (Or.inl rfl) (pe_ifExp (pt_cmp (pc_isN (pv 3))) (pe_op op_add (pv 1) (pv 4)) (pe_callB (call_min2 rfl) (by rfl) B.min (by decide +kernel) (pa_cons (pe_op op_add (pv 1) (pv 4)) (pa_cons (pe_op op_sub (pv 3) pe_int) pa_nil))))) (pss_one (ps_if (PW.pt (pw_and (pt_cmpR op_gt (pv 7) (pv 1) (nomark _)) (pw_and1 (pt_cmpR (op_neD hr.units) (pe_call G__law_label (hr.mono (by decide)) rfl m__law_label k__law_label b__law_label .nil pass0 (pa_cons (pv 0) (pa_cons (pv 7) pa_nil))) (pe_call G__law_label (hr.mono (by decide)) rfl m__law_label k__law_label b__law_label .nil pass0 (pa_cons (pv 0) (pa_cons (pv 1) pa_nil))) (nomark _))))) (pss_one (ps_ret (pe_call G__law_first_other (hr.mono (by decide)) rfl m__law_first_other k__law_first_other b__law_first_other .nil pass0 (pa_cons (pv 0) (pa_cons (pv 1) (pa_cons (pv 7) pa_nil)))))) pss_nil))) pss_nil) (pss_cons (ps_if (pt_cmp (pc_isN (pv 3))) (pss_one (ps_ret pe_non)) pss_nil) (pss_cons (ps_if (pt_cmpR (op_neD hr.units) (pe_call G__law_label (hr.mono (by decide)) rfl m__law_label k__law_label b__law_label .nil pass0 (pa_cons (pv 0) (pa_cons (pv 3) pa_nil))) (pe_call G__law_label (hr.mono (by decide)) rfl m__law_label k__law_label b__law_label .nil pass0 (pa_cons (pv 0) (pa_cons (pe_op op_sub (pv 3) pe_int) pa_nil))) (nomark _)) (pss_one (ps_ret (pv 3))) pss_nil) (pss_one (ps_set (i := 1) sc__law_later.nd rfl (Or.inl rfl) (pv 3)))))) pss_nil)))) (pss_one (ps_ret pe_non))), ?_⟩
    obtain ⟨xs, hl, hD⟩ := hL.ex
    have hxl := hD.len
    have hnx := later_next ok hn.1
    have fin : ∀ o, NextO (labelOf rows) n o → RetV (oV o) H Q := fun o ho => by
      rw [NextO.uniq ho hnx]
      exact k
    refine q_forR1 (n := (xs.length : Int)) (ea_cons (ev_len (ev_var rfl) (sq_of hl)) ea_nil) (by have := ok.n; omega) (fun i σ H' => ∃ c v2 v3 v4 v5 v6 v7, σ = [some (.ref l), some (.int c), v2, v3, v4, v5, v6, v7] ∧ Ex H H' ∧ n ≤ c ∧ Ag c ∧ (∀ x, n < x → x ≤ c → ¬ EdgeF (labelOf rows) x) ∧ Past rows i c)
      (fun H1 e1 => ⟨n, none, none, none, none, none, none, rfl, e1, Int.le_refl _, hn, fun x h1 h2 => absurd h2 (by omega), fun j r' hj => absurd hj (Nat.not_lt_zero _)⟩) ?_ ?_
    · rintro i σ' H' hi ⟨c, v2, v3, v4, v5, v6, v7, rfl, e, hnc, hc, hno, hpast⟩
      have hilt : i < rows.length := by omega
      have hri : rows[i]? = some rows[i] := List.getElem?_eq_getElem hilt
      generalize rows[i] = r at hri
      obtain ⟨y, hy, t, rfl, ht⟩ := (hD.mono e).get' hri
      have ⟨hro, hrt⟩ := ok.r r (List.mem_of_getElem? hri)
      refine ⟨_, rfl, _, rfl, l, xs, (i : Int), _, rfl, rfl, sq_of (e _ _ hl), atI_nat hy, t, _, rfl, st_of ht, rfl, _, _, rfl, _, _, rfl, _, _, rfl, _, _, rfl, rfl, ?_⟩
      dsimp only
      show tIfS _ _ _ _ [some (.ref l), some (.int c), some (.int (i : Int)), some (oV r.til), some (oV r.unit), some (.str r.way), some (.str r.word), v7] H'
      have c0 := hc.1
      -- past this row
      have goPast : hit c r = false → Past rows (i + 1) c := fun hh j r' hj hr' => by
        rcases Nat.lt_or_ge j i with z | z
        · exact hpast j r' z hr'
        · have : j = i := by omega
          subst this
          rw [hri] at hr'
          cases hr'
          exact hh
      -- nothing in the row behind c: what comes then
      have rest : ∀ (w7 : Option V) (H2 : Hp), Ex H' H2 → hit c r = true → (∀ x, c < x → hit x r = true → ¬ EdgeF (labelOf rows) x) →
          tSeq (tIfS (tB (tIsN (tVar 3))) (tRet (tC .non)) tNext) (tSeq (tIfS (tTest (tOp (rNeD K) (tCall spLlabel [] E0 (tCons (tVar 0) (tCons (tVar 3) tNil))) (tCall spLlabel [] E0 (tCons (tVar 0) (tCons (tOp (rI0 fun i j => .int (i - j)) (tVar 3) (tC (.int 1))) tNil))))) (tRet (tVar 3)) tNext) (tAsg (tVar 3) (gName 1)))
            { nx := fun σ H' => ∃ c v2 v3 v4 v5 v6 v7, σ = [some (.ref l), some (.int c), v2, v3, v4, v5, v6, v7] ∧ Ex H H' ∧ n ≤ c ∧ Ag c ∧ (∀ x, n < x → x ≤ c → ¬ EdgeF (labelOf rows) x) ∧ Past rows (i + 1) c, rt := Q }
            [some (.ref l), some (.int c), some (.int (i : Int)), some (oV r.til), some (oV r.unit), some (.str r.way), some (.str r.word), w7] H2 := by
        intro w7 H2 e2 hh hnr
        have e02 := e.trans e2
        cases hti : r.til with
        | none =>
          have hall : ∀ x, hit x r = true := fun x => by unfold hit; rw [hti]
          refine q_when (et_B (ev_isN (x := .non) (ev_var rfl))) (fun _ H3 e3 => ?_) (fun hb => Bool.noConfusion hb)
          have hz : NextO (labelOf rows) n none := fun x hx => by
            by_cases hxc : x ≤ c
            · exact hno x hx hxc
            · exact hnr x (by omega) (hall x)
          exact s_ret ev_c fun H4 e4 => fin none hz H4 ((e02.trans e3).trans e4)
        | some tv =>
          have hct : c < tv := by
            have : hit c r = decide (c < tv) := by unfold hit; rw [hti]
            rw [this] at hh
            exact of_decide_eq_true hh
          have agt := hrt tv hti
          have hin : ∀ x, x < tv → hit x r = true := fun x hx => by unfold hit; rw [hti]; exact decide_eq_true hx
          refine q_when (et_B (ev_isN (x := .int tv) (ev_var rfl))) (fun hb => Bool.noConfusion hb) (fun _ H3 e3 => ?_)
          have e03 := e02.trans e3
          have hno2 : ∀ x, n < x → x < tv → ¬ EdgeF (labelOf rows) x := fun x h1 h2 => by
            by_cases hxc : x ≤ c
            · exact hno x h1 hxc
            · exact hnr x (by omega) (hin x h2)
          refine q_when (et_labNe (hL.mono e03) ok rfl (x := tv) (y := tv - 1) agt.sm (by have := agt.sm; unfold Sm at this ⊢; omega) (ev_var rfl) (ev_op (ev_var rfl) ev_c rv_I0)) (fun hb H4 e4 => ?_) (fun hb H4 e4 => ?_)
          · have hne : ¬ labelOf rows tv = labelOf rows (tv - 1) := by
              have : decide (labelOf rows tv = labelOf rows (tv - 1)) = false := by simpa using hb
              exact of_decide_eq_false this
            have hz : NextO (labelOf rows) n (some tv) := ⟨by omega, ⟨by omega, hne⟩, hno2⟩
            exact s_ret (ev_var rfl) fun H5 e5 => fin (some tv) hz H5 ((e03.trans e4).trans e5)
          · have heq : labelOf rows tv = labelOf rows (tv - 1) := by
              have : decide (labelOf rows tv = labelOf rows (tv - 1)) = true := by simpa using hb
              exact of_decide_eq_true this
            refine s_asg (ev_var rfl) fun H5 e5 => ⟨tv, _, _, _, _, _, _, rfl, (e03.trans e4).trans e5, by omega, agt, fun x h1 h2 => ?_, uok_past ok.u hri hti⟩
            by_cases hx : x = tv
            · rw [hx]; exact fun ee => ee.2 heq
            · exact hno2 x h1 (by omega)
      -- the unit
      have inRow : hit c r = true → ∀ HH, Ex H' HH → tSeq (tIfS (tB (tNotN (tVar 4))) (tSeq (tAsg (tIf (tB (tIsN (tVar 3))) (tOp (rI0 fun i j => .int (i + j)) (tVar 1) (tVar 4)) (tCB (fun xs H Q => ∃ i j, xs = [.int i, .int j] ∧ Q (.int (if j < i then j else i)) H) (tCons (tOp (rI0 fun i j => .int (i + j)) (tVar 1) (tVar 4)) (tCons (tOp (rI0 fun i j => .int (i - j)) (tVar 3) (tC (.int 1))) tNil)))) (gName 7))
              (tIfS (tAnd (tTest (tOp (rI0 fun i j => .bl (decide (j < i))) (tVar 7) (tVar 1))) (tTest (tOp (rNeD K) (tCall spLlabel [] E0 (tCons (tVar 0) (tCons (tVar 7) tNil))) (tCall spLlabel [] E0 (tCons (tVar 0) (tCons (tVar 1) tNil)))))) (tRet (tCall spFirstO [] E0 (tCons (tVar 0) (tCons (tVar 1) (tCons (tVar 7) tNil))))) tNext)) tNext)
            (tSeq (tIfS (tB (tIsN (tVar 3))) (tRet (tC .non)) tNext) (tSeq (tIfS (tTest (tOp (rNeD K) (tCall spLlabel [] E0 (tCons (tVar 0) (tCons (tVar 3) tNil))) (tCall spLlabel [] E0 (tCons (tVar 0) (tCons (tOp (rI0 fun i j => .int (i - j)) (tVar 3) (tC (.int 1))) tNil))))) (tRet (tVar 3)) tNext) (tAsg (tVar 3) (gName 1))))
            { nx := fun σ H' => ∃ c v2 v3 v4 v5 v6 v7, σ = [some (.ref l), some (.int c), v2, v3, v4, v5, v6, v7] ∧ Ex H H' ∧ n ≤ c ∧ Ag c ∧ (∀ x, n < x → x ≤ c → ¬ EdgeF (labelOf rows) x) ∧ Past rows (i + 1) c, rt := Q }
            [some (.ref l), some (.int c), some (.int (i : Int)), some (oV r.til), some (oV r.unit), some (.str r.way), some (.str r.word), v7] HH := by
        intro hh HH eHH
        cases hu : r.unit with
        | none =>
          have hr2 := rest v7
          rw [hu] at hr2
          refine q_when (et_B (ev_notN (x := .non) (ev_var rfl))) (fun hb => Bool.noConfusion hb) (fun _ H2 e2 => hr2 H2 (eHH.trans e2) hh fun x h1 hx => ?_)
          exact flat_no (lab := labelOf rows) (x := c) (y := x) (fun z z1 z2 => row_none hpast hri hu z1 (hit_mono hx z2)) x h1 (Int.le_refl _)
        | some u =>
          have ⟨u0, u1⟩ := hro.un u hu
          have hr2 := rest
          rw [hu] at hr2
          refine q_when (et_B (ev_notN (x := .int u) (ev_var rfl))) (fun _ H2 e2 => ?_) (fun hb => Bool.noConfusion hb)
          have e02 := eHH.trans e2
          -- high
          obtain ⟨hg, hgv, hgh, hgl⟩ : ∃ hg : Int, (∀ H3, Ev (tIf (tB (tIsN (tVar 3))) (tOp (rI0 fun i j => .int (i + j)) (tVar 1) (tVar 4)) (tCB (fun xs H Q => ∃ i j, xs = [.int i, .int j] ∧ Q (.int (if j < i then j else i)) H) (tCons (tOp (rI0 fun i j => .int (i + j)) (tVar 1) (tVar 4)) (tCons (tOp (rI0 fun i j => .int (i - j)) (tVar 3) (tC (.int 1))) tNil))))
              [some (.ref l), some (.int c), some (.int (i : Int)), some (oV r.til), some (.int u), some (.str r.way), some (.str r.word), v7] H3 (.int hg)) ∧ hit hg r = true ∧ (hg = c + u ∨ (hg < c + u ∧ ∃ tv, r.til = some tv ∧ hg = tv - 1 ∧ c ≤ hg)) := by
            cases hti : r.til with
            | none => exact ⟨c + u, fun H3 => ev_if (et_B (ev_isN (x := .non) (ev_var rfl))) (fun _ => ev_op (ev_var rfl) (ev_var rfl) rv_I0) (fun z => Bool.noConfusion z), by unfold hit; rw [hti], Or.inl rfl⟩
            | some tv =>
              have hct : c < tv := by
                have : hit c r = decide (c < tv) := by unfold hit; rw [hti]
                rw [this] at hh
                exact of_decide_eq_true hh
              refine ⟨if tv - 1 < c + u then tv - 1 else c + u, fun H3 => ev_if (et_B (ev_isN (x := .int tv) (ev_var rfl))) (fun z => Bool.noConfusion z) (fun _ => ev_min2 (ev_op (ev_var rfl) (ev_var rfl) rv_I0) (ev_op (ev_var rfl) ev_c rv_I0)), ?_, ?_⟩
              · unfold hit
                rw [hti]
                exact decide_eq_true (by split <;> omega)
              · by_cases hq : tv - 1 < c + u
                · rw [if_pos hq]; exact Or.inr ⟨hq, tv, rfl, rfl, by omega⟩
                · rw [if_neg hq]; exact Or.inl rfl
          refine q_asg (hgv H2) fun H3 e3 => ?_
          have e03 := e02.trans e3
          show tIfS _ _ _ _ [some (.ref l), some (.int c), some (.int (i : Int)), some (oV r.til), some (.int u), some (.str r.way), some (.str r.word), some (.int hg)] H3
          have hgc : c ≤ hg ∧ hg ≤ c + u := by rcases hgl with z | ⟨z, _, _, _, z2⟩ <;> omega
          have wd : Wd hg := by unfold Wd; unfold Ag at hc u1; omega
          refine s_when (et_and (et_test (ev_op (ev_var rfl) (ev_var rfl) rv_I0)) (fun _ => et_labNe (hL.mono (e.trans e03)) ok rfl (x := hg) (y := c) wd.sm hc.sm (ev_var rfl) (ev_var rfl))) (fun hb H4 e4 => ?_) (fun hb H4 e4 => ?_)
          · obtain ⟨b1, b2⟩ := Bool.and_eq_true_iff.mp hb
            have hlt : c < hg := of_decide_eq_true b1
            have hne : labelOf rows hg ≠ labelOf rows c := by
              have : decide (labelOf rows hg = labelOf rows c) = false := by simpa using b2
              exact of_decide_eq_false this
            refine ⟨_, rfl, _, rfl, _, rfl, l, rows, c, hg, rfl, hL.mono ((e.trans e03).trans e4), ok, c0, hlt, wd, hne, fun x y y1 y2 y3 ee => row_mono ok hpast hri (Int.le_refl c) y1 y2 (hit_mono hgh y3) ee, fun res H5 e5 hF => ?_⟩
            have hN := hF.next c0
            have hz : NextO (labelOf rows) n (some res) := ⟨by have := hN.gt; omega, hN.ed, fun x h1 h2 => by
              by_cases hxc : x ≤ c
              · exact hno x h1 hxc
              · exact hN.no x (by omega) h2⟩
            exact fin (some res) hz H5 (((e.trans e03).trans e4).trans e5)
          · refine hr2 _ H4 (e03.trans e4) hh fun x h1 hx => ?_
            rcases hgl with hz | ⟨hz, tv, htv, hz2, hz3⟩
            · exfalso
              have hlt : c < hg := by omega
              have hne := row_unit ok hpast hri hu (Int.le_refl c) (by rw [← hz]; exact hgh)
              rw [← hz] at hne
              rw [decide_eq_true hlt, decide_eq_false hne] at hb
              cases hb
            · have hxt : x < tv := by
                have : hit x r = decide (x < tv) := by unfold hit; rw [htv]
                rw [this] at hx
                exact of_decide_eq_true hx
              have hlt : c < hg := by omega
              have heq : labelOf rows hg = labelOf rows c := by
                rw [decide_eq_true hlt] at hb
                have : decide (labelOf rows hg = labelOf rows c) = true := by simpa using hb
                exact of_decide_eq_true this
              exact flat_no (lab := labelOf rows) (x := c) (y := hg) (fun z z1 z2 => row_mono ok hpast hri (Int.le_refl c) z1 z2 hgh heq) x h1 (by omega)
      cases hti : r.til with
      | none =>
        have hh : hit c r = true := by unfold hit; rw [hti]
        have h2 := inRow hh
        rw [hti] at h2
        exact s_when (et_orT (et_B (ev_isN (x := .non) (ev_var rfl)))) (fun _ HH eH => h2 HH eH) (fun hb => Bool.noConfusion hb)
      | some tv =>
        have hhit : hit c r = decide (c < tv) := by unfold hit; rw [hti]
        refine s_when (et_or (et_B (ev_isN (x := .int tv) (ev_var rfl))) (fun _ => et_test (ev_op (ev_var rfl) (ev_var rfl) rv_I0))) (fun hb HH eH => ?_) (fun hb HH eH => ?_)
        · have hb' : decide (c < tv) = true := hb
          have h2 := inRow (by rw [hhit]; exact hb')
          rw [hti] at h2
          exact h2 HH eH
        · have hb' : decide (c < tv) = false := hb
          exact ⟨c, _, _, _, _, _, _, rfl, e.trans eH, hnc, hc, hno, goPast (by rw [hhit]; exact hb')⟩
    · rintro σ' H' ⟨c, v2, v3, v4, v5, v6, v7, rfl, e, hnc, hc, hno, hpast⟩
      exfalso
      obtain ⟨r, hf⟩ := ok.u.find (n := c)
      have hm := List.mem_of_find?_eq_some hf
      have hh := List.find?_some hf
      obtain ⟨j, hj⟩ := List.mem_iff_getElem?.mp hm
      have hjl := (List.getElem?_eq_some_iff.mp hj).1
      have := hpast j r (by omega) hj
      rw [hh] at this
      cases this
end
end Age

set_option Elab.async false
set_option linter.all false
set_option maxRecDepth 100000
set_option maxHeartbeats 4000000
namespace Age
open PySem PySem.Spec PyProof.Rows L2 Evl RT
/-- a loop over range(m - 1, -1, -1) -/
theorem q_forR3 {σ : L2.St} {H : Hp} {ta : TA} {j m : Nat} {D : Ends} {tu tz : TS} (h : EvA ta σ H [.int ((m : Int) - 1), .int (-1), .int (-1)]) (hm : m ≤ 100000) (Pv : Nat → L2.St → Hp → Prop) (h0 : ∀ H1, Ex H H1 → Pv 0 σ H1)
    (hs : ∀ (i : Nat) σ' H', i < m → Pv i σ' H' → tu { D with nx := Pv (i + 1), ct := Pv (i + 1), bk := tz D } (σ'.set j (some (.int ((m : Int) - 1 - (i : Nat))))) H') (hd : ∀ σ' H', Pv m σ' H' → tz D σ' H') : tSeq (tFor (iRng3 ta) (gName j) tu) tz D σ H :=
  h H (Ex.refl H) _ fun H1 e => ⟨(m : Int) - 1, -1, -1, m, rfl, by
    have := RgC.neg (i := (m : Int) - 1) (j := -1) (by omega) (by omega) (by decide) (by decide)
    rw [show ((m : Int) - 1 - -1).toNat = m by omega] at this
    exact this, for_rangeC (D := { D with nx := tz D }) Pv (h0 H1 e) (fun i σ' H' hi p => by
      have e0 : (m : Int) - 1 + (i : Nat) * (-1) = (m : Int) - 1 - (i : Nat) := by omega
      show tu { D with nx := Pv (i + 1), ct := Pv (i + 1), bk := tz D } (σ'.set j (some (.int ((m : Int) - 1 + (i : Nat) * (-1))))) H'
      rw [e0]
      exact hs i σ' H' hi p) hd⟩
section
variable {P : Program} {w : World} {K : PySem.W.Frag} {mg : Str → Option Value} {base : Heap} {cR cS cW : Addr}
theorem ok_llast {f : Addr} {fd : FuncData} (F : Fn K "_law_last" "_law_last" s__law_last f fd) (B : Bn mg) (c1 : Cal P w K mg base CX0 2 "_law_label" ["_law_rows_here", "_law_age"] spLlabel) (c2 : Cal P w K mg base CX0 3 "_law_last_within" ["_law_rows_here", "_law_low", "_law_age"] spLastW) : FnOk P w K mg base CX0 4 f fd ["_law_rows_here", "_law_age"] spLlast := by
  obtain ⟨f1, fd1, G__law_label, m__law_label, k__law_label, b__law_label⟩ := c1.ex
  obtain ⟨f2, fd2, G__law_last_within, m__law_last_within, k__law_last_within, b__law_last_within⟩ := c2.ex
  refine F.ok sc__law_last (fun vs H Q E h => ?_) (fun cdv A outer s H vs Q E hr h => ?_)
  · obtain ⟨l, rows, n, rfl, _⟩ := h; rfl
  · obtain ⟨l, rows, n, rfl, hL, ok, hn, kk⟩ := h
    refine ⟨_, PSs.nox (pss_cons (ps_for PassesOwn.never rfl (pi_range3 rfl B.range (pa_cons (pe_op op_sub (pe_callB call_len_seq (by rfl) B.len (by decide +kernel) (pa_cons (pv 0) pa_nil)) pe_int) (pa_cons (pe_un un_neg pe_int) (pa_cons (pe_un un_neg pe_int) pa_nil)))) (pg_name (i := 2) sc__law_last.nd rfl (Or.inl rfl)) (pss_cons (ps_set (i := 3) sc__law_last.nd rfl (Or.inl rfl) (pe_ifExp (pt_cmpR op_gt (pv 2) pe_int (nomark _)) (pe_ix ix_tup (pe_ix ix_list (pv 0) (pe_op op_sub (pv 2) pe_int) (fun _ _ => rfl)) pe_int (fun _ _ => rfl)) pe_int)) (pss_one (ps_if (pt_cmpR op_ge (pv 1) (pv 3) (nomark _)) (pss_cons (ps_set (i := 4) sc__law_last.nd rfl (Or.inl rfl) (pe_ix ix_tup (pe_ix ix_list (pv 0) (pv 2) (fun _ _ => rfl)) pe_int (fun _ _ => rfl))) (pss_cons (ps_set (i := 5) sc__law_last.nd rfl (Or.inl rfl) (pe_ifExp (pt_cmp (pc_isN (pv 4))) (pv 3) (pe_callB (call_max2 rfl) (by rfl) B.max (by decide +kernel) (pa_cons (pv 3) (pa_cons (pe_op op_sub (pv 1) (pv 4)) pa_nil))))) (pss_cons (ps_if (pt_cmpR (op_neD hr.units) (pe_call G__law_label (hr.mono (by decide)) rfl m__law_label k__law_label b__law_label .nil pass0 (pa_cons (pv 0) (pa_cons (pv 5) pa_nil))) (pe_call G__law_label (hr.mono (by decide)) rfl m__law_label k__law_label b__law_label .nil pass0 (pa_cons (pv 0) (pa_cons (pv 1) pa_nil))) (nomark _)) (pss_one (ps_ret (pe_call G__law_last_within (hr.mono (by decide)) rfl m__law_last_within k__law_last_within b__law_last_within .nil pass0 (pa_cons (pv 0) (pa_cons (pv 5) (pa_cons (pv 1) pa_nil)))))) pss_nil) (pss_cons (ps_if (PW.pt (pw_or (pt_cmpR op_eq (pv 3) pe_int (nomark _)) (pw_or1 (pt_cmpR (op_neD hr.units) (pe_call G__law_label (hr.mono (by decide)) rfl m__law_label k__law_label b__law_label .nil pass0 (pa_cons (pv 0) (pa_cons (pv 3) pa_nil))) (pe_call G__law_label (hr.mono (by decide)) rfl m__law_label k__law_label b__law_label .nil pass0 (pa_cons (pv 0) (pa_cons (pe_op op_sub (pv 3) pe_int) pa_nil))) (nomark _))))) (pss_one (ps_ret (pv 3))) pss_nil) (pss_one (ps_set (i := 1) sc__law_last.nd rfl (Or.inl rfl) (pe_op op_sub (pv 3) pe_int))))))) pss_nil)))) (pss_one (ps_ret pe_int))), ?_⟩
    obtain ⟨xs, hl, hD⟩ := hL.ex
    have hxl := hD.len
    have hln := ok.n
    have hsp := last_spec ok hn.1
    have fin : ∀ b, LastE (labelOf rows) n b → RetV (.int b) H Q := fun b hb => by
      rw [LastE.uniq hb hsp]
      exact kk
    have hpos : 0 < rows.length := List.length_pos_iff.mpr ok.u.ne
    refine q_forR3 (m := xs.length) (ea_cons (ev_op (ev_len (ev_var rfl) (sq_of hl)) ev_c rv_I0) (ea_cons (ev_un ev_c ru_neg) (ea_cons (ev_un ev_c ru_neg) ea_nil))) (by omega)
      (fun i σ H' => ∃ c v2 v3 v4 v5, σ = [some (.ref l), some (.int c), v2, v3, v4, v5] ∧ Ex H H' ∧ 0 ≤ c ∧ c ≤ n ∧ (∀ x, c < x → x ≤ n → ¬ EdgeF (labelOf rows) x) ∧ i < rows.length ∧ ∀ r, rows[rows.length - 1 - i]? = some r → hit c r = true)
      (fun H1 e1 => ⟨n, none, none, none, none, rfl, e1, hn.1, Int.le_refl _, fun x h1 h2 => absurd h2 (by omega), hpos, fun r hr => by
        have : r.til = none := uok_last ok.u hr (by omega)
        unfold hit; rw [this]⟩) ?_ ?_
    · rintro i σ' H' hi ⟨c, v2, v3, v4, v5, rfl, e, c0, cn, hno, hil, hhit⟩
      obtain ⟨k, hk⟩ : ∃ k, k = rows.length - 1 - i := ⟨_, rfl⟩
      have hkv : (xs.length : Int) - 1 - (i : Nat) = (k : Nat) := by omega
      rw [hkv]
      have hkl : k < rows.length := by omega
      have hrk : rows[k]? = some rows[k] := List.getElem?_eq_getElem hkl
      generalize rows[k] = r at hrk
      have hcr : hit c r = true := hhit r (by rw [← hk]; exact hrk)
      have ⟨hro, hrt⟩ := ok.r r (List.mem_of_getElem? hrk)
      obtain ⟨y, hy, t, rfl, ht⟩ := (hD.mono e).get' hrk
      -- where the row begins
      obtain ⟨lo, hlo, lo0, hpast, hprev⟩ : ∃ lo : Int, (∀ v3 HH, Ex H' HH → Ev (tIf (tTest (tOp (rI0 fun i j => .bl (decide (j < i))) (tVar 2) (tC (.int 0)))) (tOp (rIxT K) (tOp (rIxL K) (tVar 0) (tOp (rI0 fun i j => .int (i - j)) (tVar 2) (tC (.int 1)))) (tC (.int 0))) (tC (.int 0))) [some (.ref l), some (.int c), some (.int (k : Nat)), v3, v4, v5] HH (.int lo)) ∧ 0 ≤ lo ∧ Past rows k lo ∧
          ((k = 0 ∧ lo = 0) ∨ ∃ k' r', k = k' + 1 ∧ rows[k']? = some r' ∧ r'.til = some lo ∧ 0 < lo ∧ Ag lo) := by
        match k, hkl with
        | 0, _ => exact ⟨0, fun v3 HH _ => ev_if (b := false) (et_test (ev_op (ev_var rfl) ev_c rv_I0)) (fun z => Bool.noConfusion z) (fun _ => ev_c), Int.le_refl _, fun j r' hj => absurd hj (Nat.not_lt_zero _), Or.inl ⟨rfl, rfl⟩⟩
        | k' + 1, hkl =>
          have hrp : rows[k']? = some rows[k'] := List.getElem?_eq_getElem (by omega)
          generalize rows[k'] = rp at hrp
          obtain ⟨tv, htv, tv0⟩ := uok_til ok.u hrp (by omega)
          obtain ⟨y2, hy2, t2, rfl, ht2⟩ := (hD.mono e).get' hrp
          have ag := (ok.r rp (List.mem_of_getElem? hrp)).2 tv htv
          have hb : decide ((0 : Int) < ((k' + 1 : Nat) : Int)) = true := decide_eq_true (by omega)
          refine ⟨tv, fun v3 HH eH => ?_, ag.1, uok_past ok.u hrp htv, Or.inr ⟨k', rp, rfl, hrp, htv, tv0, ag⟩⟩
          have h1 : EvT (tTest (tOp (rI0 fun i j => .bl (decide (j < i))) (tVar 2) (tC (.int 0)))) [some (.ref l), some (.int c), some (.int ((k' + 1 : Nat) : Int)), v3, v4, v5] HH true := by
            have := et_test (ev_op (σ := [some (.ref l), some (.int c), some (.int ((k' + 1 : Nat) : Int)), v3, v4, v5]) (H := HH) (ev_var (i := 2) (v := .int ((k' + 1 : Nat) : Int)) rfl) (ev_c (v := .int 0)) (rv_I0 (g := fun i j => .bl (decide (j < i)))))
            rw [hb] at this
            exact this
          refine ev_if h1 (fun _ => ?_) (fun z => Bool.noConfusion z)
          refine ev_op (ev_op (ev_var rfl) (ev_is (ev_op (ev_var rfl) ev_c rv_I0) (w := .int (k' : Nat)) (by congr 1; omega)) (rv_ixL (v := .ref t2) (sq_of ((e.trans eH) _ _ hl)) (atI_nat hy2))) ev_c (rv_ixT (v := .int tv) (st_of (eH _ _ ht2)) (by rw [htv]; rfl))
      show tSeq (tAsg _ _) _ _ [some (.ref l), some (.int c), some (.int (k : Nat)), v3, v4, v5] H'
      refine q_asg (hlo v3 H' (Ex.refl _)) fun H1 e1 => ?_
      have e01 := e.trans e1
      show tIfS _ _ _ _ [some (.ref l), some (.int c), some (.int (k : Nat)), some (.int lo), v4, v5] H1
      -- on to the row before
      have back : ∀ c', 0 ≤ c' → c' < lo → c' ≤ n → (∀ x, c' < x → x ≤ n → ¬ EdgeF (labelOf rows) x) → ∀ HH, Ex H1 HH → ∀ w2 w3 w4 w5, ∃ c v2 v3 v4 v5, [some (V.ref l), some (.int c'), w2, w3, w4, w5] = [some (.ref l), some (.int c), v2, v3, v4, v5] ∧ Ex H HH ∧ 0 ≤ c ∧ c ≤ n ∧ (∀ x, c < x → x ≤ n → ¬ EdgeF (labelOf rows) x) ∧ i + 1 < rows.length ∧ ∀ r, rows[rows.length - 1 - (i + 1)]? = some r → hit c r = true := by
        intro c' h0 h1 h2 h3 HH eH w2 w3 w4 w5
        rcases hprev with ⟨_, z⟩ | ⟨k', r', hk', hr', htv, _, _⟩
        · omega
        · refine ⟨c', w2, w3, w4, w5, rfl, e01.trans eH, h0, h2, h3, by omega, fun r2 hr2 => ?_⟩
          rw [show rows.length - 1 - (i + 1) = k' by omega, hr'] at hr2
          cases hr2
          unfold hit
          rw [htv]
          exact decide_eq_true h1
      refine s_when (et_test (ev_op (ev_var rfl) (ev_var rfl) rv_I0)) (fun hb H2 e2 => ?_) (fun hb H2 e2 => ?_)
      · have hcl : lo ≤ c := of_decide_eq_true hb
        have e12 := e1.trans e2
        refine q_asg (v := oV r.unit) (ev_op (ev_op (ev_var rfl) (ev_var rfl) (rv_ixL (v := .ref t) (sq_of ((e.trans e12) _ _ hl)) (atI_nat hy))) ev_c (rv_ixT (v := oV r.unit) (st_of (e12 _ _ ht)) rfl)) fun H3 e3 => ?_
        have e13 := e12.trans e3
        show tSeq (tAsg _ _) _ _ [some (.ref l), some (.int c), some (.int (k : Nat)), some (.int lo), some (oV r.unit), v5] H3
        obtain ⟨bg, hbg, hbl, hbu⟩ : ∃ bg : Int, (∀ HH, Ev (tIf (tB (tIsN (tVar 4))) (tVar 3) (tCB (fun xs H Q => ∃ i j, xs = [.int i, .int j] ∧ Q (.int (if j > i then j else i)) H) (tCons (tVar 3) (tCons (tOp (rI0 fun i j => .int (i - j)) (tVar 1) (tVar 4)) tNil)))) [some (.ref l), some (.int c), some (.int (k : Nat)), some (.int lo), some (oV r.unit), v5] HH (.int bg)) ∧ (lo ≤ bg ∧ bg ≤ c) ∧ (bg = lo ∨ (lo < bg ∧ ∃ u, r.unit = some u ∧ bg = c - u)) := by
          cases hu : r.unit with
          | none => exact ⟨lo, fun HH => ev_if (et_B (ev_isN (x := .non) (ev_var rfl))) (fun _ => ev_var rfl) (fun z => Bool.noConfusion z), ⟨Int.le_refl _, hcl⟩, Or.inl rfl⟩
          | some u =>
            have ⟨u0, u1⟩ := hro.un u hu
            refine ⟨if c - u > lo then c - u else lo, fun HH => ev_if (et_B (ev_isN (x := .int u) (ev_var rfl))) (fun z => Bool.noConfusion z) (fun _ => ev_max2 (ev_var rfl) (ev_op (ev_var rfl) (ev_var rfl) rv_I0)), ?_, ?_⟩
            · split <;> omega
            · by_cases hq : c - u > lo
              · rw [if_pos hq]; exact Or.inr ⟨by omega, u, rfl, rfl⟩
              · rw [if_neg hq]; exact Or.inl rfl
        refine q_asg (hbg H3) fun H4 e4 => ?_
        have e14 := e13.trans e4
        show tSeq (tIfS _ _ _) _ _ [some (.ref l), some (.int c), some (.int (k : Nat)), some (.int lo), some (oV r.unit), some (.int bg)] H4
        have agc : Ag c := by unfold Ag at hn ⊢; omega
        have agb : Ag bg := by unfold Ag at hn ⊢; omega
        have wc : Wd c := by unfold Wd; unfold Ag at agc; omega
        refine q_when (et_labNe (hL.mono (e.trans e14)) ok rfl (x := bg) (y := c) agb.sm agc.sm (ev_var rfl) (ev_var rfl)) (fun hb H5 e5 => ?_) (fun hb H5 e5 => ?_)
        · have hne : labelOf rows bg ≠ labelOf rows c := by
            have : decide (labelOf rows bg = labelOf rows c) = false := by simpa using hb
            exact of_decide_eq_false this
          have hlt : bg < c := by
            rcases Int.lt_or_le bg c with z | z
            · exact z
            · exact absurd (by rw [show bg = c by omega]) hne
          refine ⟨_, rfl, _, rfl, _, rfl, l, rows, bg, c, rfl, hL.mono ((e.trans e14).trans e5), ok, by omega, hlt, wc, hne, fun x y x1 x2 x3 ee => ?_, fun res H6 e6 hres hW => ?_⟩
          · have := row_mono ok hpast hrk (by omega) x2 x3 hcr (by rw [ee])
            rw [this, ee]
          · have hE := hW.last (by omega)
            exact fin res ⟨hE.lo, by have := hE.le; omega, hE.ed, fun x h1 h2 => by
              by_cases hx : x ≤ c
              · exact hE.no x h1 hx
              · exact hno x (by omega) h2⟩ H6 (((e.trans e14).trans e5).trans e6)
        · have heq : labelOf rows bg = labelOf rows c := by
            have : decide (labelOf rows bg = labelOf rows c) = true := by simpa using hb
            exact of_decide_eq_true this
          have hbl2 : bg = lo := by
            rcases hbu with z | ⟨z, u, hu, z2⟩
            · exact z
            · exfalso
              have := row_unit ok hpast hrk (x := bg) hu (by omega) (by rw [show bg + u = c by omega]; exact hcr)
              rw [show bg + u = c by omega] at this
              exact this heq.symm
          subst hbl2
          have hno2 : ∀ x, bg < x → x ≤ n → ¬ EdgeF (labelOf rows) x := fun x h1 h2 => by
            by_cases hx : x ≤ c
            · exact flat_no (lab := labelOf rows) (x := bg) (y := c) (fun z z1 z2 => row_mono ok hpast hrk (Int.le_refl _) z1 z2 hcr heq.symm) x h1 hx
            · exact hno x (by omega) h2
          have e15 := e14.trans e5
          refine q_when (et_or (et_test (ev_op (ev_var rfl) ev_c (rv_eq rfl))) (fun _ => et_labNe (hL.mono (e.trans e15)) ok rfl (x := bg) (y := bg - 1) agb.sm (by have := agb.sm; unfold Ag at agb; unfold Sm at this ⊢; omega) (ev_var rfl) (ev_op (ev_var rfl) ev_c rv_I0))) (fun hb H6 e6 => ?_) (fun hb H6 e6 => ?_)
          · have hz : LastE (labelOf rows) n bg := ⟨lo0, by omega, fun h0 => ⟨h0, fun ee => by
              have d1 : decide (V.int bg = V.int 0) = false := decide_eq_false (fun q => by have := V.int.inj q; omega)
              rw [d1, decide_eq_true ee] at hb
              cases hb⟩, hno2⟩
            exact s_ret (ev_var rfl) fun H7 e7 => fin bg hz H7 (((e.trans e15).trans e6).trans e7)
          · obtain ⟨b1, b2⟩ := Bool.or_eq_false_iff.mp hb
            have hb0 : ¬ bg = 0 := fun q => of_decide_eq_false b1 (by rw [q])
            have hle : labelOf rows bg = labelOf rows (bg - 1) := by
              have : decide (labelOf rows bg = labelOf rows (bg - 1)) = true := by simpa using b2
              exact of_decide_eq_true this
            refine s_asg (ev_op (ev_var rfl) ev_c rv_I0) fun H7 e7 => ?_
            exact back (bg - 1) (by omega) (by omega) (by omega) (fun x h1 h2 => by
              by_cases hx : x = bg
              · rw [hx]; exact fun ee => ee.2 hle
              · exact hno2 x (by omega) h2) H7 ((((e2.trans e3).trans e4).trans e5).trans (e6.trans e7)) _ _ _ _
      · have hcl : ¬ lo ≤ c := of_decide_eq_false hb
        exact back c c0 (by omega) cn hno H2 e2 _ _ _ _
    · rintro σ' H' ⟨c, v2, v3, v4, v5, rfl, e, c0, cn, hno, hil, hhit⟩
      omega
end
end Age

set_option Elab.async false
set_option linter.all false
set_option maxHeartbeats 2000000
namespace Age
open PySem
/-! ### steady rows -/
def Steady (lab : Int → Lab) : Prop := ∀ n m x, 0 ≤ n → n ≤ x → x ≤ m → lab n = lab m → lab x = lab n
/-- rows of one word are one behind another, and go on -/
def Runs (rows : List RowD) : Prop := ∀ (i j : Nat) a b, i ≤ j → rows[i]? = some a → rows[j]? = some b → a.word = b.word → ∀ (m : Nat) r, i ≤ m → m ≤ j → rows[m]? = some r → r.word = a.word ∧ r.unit = a.unit ∧ r.way = a.way
theorem menu_nodup : menuW.Nodup := by decide +kernel
theorem step_word {rows : List RowD} (h : Steps rows) : ∀ (i : Nat) r, rows[i]? = some r → ∃ k, k ≤ i ∧ menuW[k]? = some r.word
  | 0, r, hr => by
    rcases h 0 r hr with z | ⟨j, r', z, _⟩
    · exact ⟨0, Nat.le_refl _, z⟩
    · cases z
  | i + 1, r, hr => by
    rcases h (i + 1) r hr with z | ⟨j, r', z, hr', _, _, hw⟩
    · exact ⟨i + 1, Nat.le_refl _, z⟩
    · have e : j = i := by omega
      subst e
      obtain ⟨k, a, b⟩ := step_word h j r' hr'
      exact ⟨k, by omega, by rw [b, hw]⟩
theorem steps_runs {rows : List RowD} (h : Steps rows) : Runs rows := by
  intro i j
  induction j with
  | zero =>
    intro a b hij ha hb hw m r h1 h2 hr
    have e1 : m = i := by omega
    subst e1
    rw [ha] at hr
    cases hr
    exact ⟨rfl, rfl, rfl⟩
  | succ j ih =>
    intro a b hij ha hb hw m r h1 h2 hr
    by_cases hi : i = j + 1
    · have e1 : m = i := by omega
      subst e1
      rw [ha] at hr
      cases hr
      exact ⟨rfl, rfl, rfl⟩
    · rcases h (j + 1) b hb with z | ⟨j2, r', z, hr', q1, q2, q3⟩
      · exfalso
        obtain ⟨k, k1, k2⟩ := step_word h i a ha
        have hkl := (List.getElem?_eq_some_iff.mp k2).1
        have : k = j + 1 := (List.getElem?_inj hkl menu_nodup).mp (by rw [k2, z, hw])
        omega
      · have e : j2 = j := by omega
        subst e
        have ih2 := ih a r' (by omega) ha hr' (by rw [hw, q3])
        by_cases hm : m = j2 + 1
        · subst hm
          rw [hb] at hr
          cases hr
          have := ih2 j2 r' (by omega) (Nat.le_refl _) hr'
          exact ⟨hw.symm, by rw [q1]; exact this.2.1, by rw [q2]; exact this.2.2⟩
        · exact ih2 m r h1 (by omega) hr
theorem runs_times {rows : List RowD} {f : Int} (h : Runs rows) : Runs (rows.map (timesR f)) := by
  intro i j a b hij ha hb hw m r h1 h2 hr
  rw [List.getElem?_map] at ha hb hr
  obtain ⟨a0, ha0, rfl⟩ := Option.map_eq_some_iff.mp ha
  obtain ⟨b0, hb0, rfl⟩ := Option.map_eq_some_iff.mp hb
  obtain ⟨r0, hr0, rfl⟩ := Option.map_eq_some_iff.mp hr
  obtain ⟨q1, q2, q3⟩ := h i j a0 b0 hij ha0 hb0 hw m r0 h1 h2 hr0
  refine ⟨q1, ?_, q3⟩
  show Option.map (· * f) r0.unit = Option.map (· * f) a0.unit
  rw [q2]
theorem rowNo_ex {rows : List RowD} (hu : UOk 0 rows) (n : Int) : ∃ i r, RowNo rows n i r := by
  obtain ⟨r, hf⟩ := hu.find (n := n)
  obtain ⟨h1, i, hi, e, h2⟩ := List.find?_eq_some_iff_getElem.mp hf
  refine ⟨i, r, ⟨by rw [List.getElem?_eq_getElem hi, e], h1, fun j r' hj hr => ?_⟩⟩
  have := h2 j hj
  have hjl := (List.getElem?_eq_some_iff.mp hr).1
  have e2 := (List.getElem?_eq_some_iff.mp hr).2
  rw [← e2]
  simpa using this
theorem RowNo.mono {rows : List RowD} {n x : Int} {i j : Nat} {r r' : RowD} (h : RowNo rows n i r) (h' : RowNo rows x j r') (hx : n ≤ x) : i ≤ j := by
  rcases Nat.lt_or_ge j i with z | z
  · have := h.no j r' z h'.at_
    rw [hit_mono h'.hit hx] at this
    cases this
  · exact z
theorem steady_of {rows : List RowD} (ok : RowsOk rows) (h : Runs rows) : Steady (labelOf rows) := by
  intro n m x n0 nx xm e
  obtain ⟨i, a, ha⟩ := rowNo_ex ok.u n
  obtain ⟨j, b, hb⟩ := rowNo_ex ok.u m
  obtain ⟨k, r, hr⟩ := rowNo_ex ok.u x
  rw [ha.label, hb.label] at e
  have ew : a.word = b.word := congrArg Prod.fst e
  have ec : cntO a n = cntO b m := congrArg Prod.snd e
  have hik := ha.mono hr nx
  have hkj := hr.mono hb xm
  obtain ⟨q1, q2, q3⟩ := h i j a b (Nat.le_trans hik hkj) ha.at_ hb.at_ ew k r hik hkj hr.at_
  obtain ⟨p1, p2, p3⟩ := h i j a b (Nat.le_trans hik hkj) ha.at_ hb.at_ ew j b (Nat.le_trans hik hkj) (Nat.le_refl _) hb.at_
  rw [hr.label, ha.label, q1]
  congr 1
  cases hu : a.unit with
  | none => rw [cntO_none hu, cntO_none (by rw [q2, hu])]
  | some u =>
    have u0 := ((ok.r a (List.mem_of_getElem? ha.at_)).1.un u hu).1
    rw [cntO_some hu, cntO_some (p2.trans hu), p3] at ec
    rw [cntO_some hu, cntO_some (q2.trans hu), q3]
    have a1 := cnt_mono (w := a.way) u0 nx
    have a2 := cnt_mono (w := a.way) u0 xm
    have d := Option.some.inj ec
    rw [show cnt x u a.way = cnt n u a.way by omega]
/-! ### no label comes back -/
theorem cnt_fst_eq {c u : Int} {w : Str} (hu : 0 < u) : cnt (fst c u w) u w = c := by
  unfold cnt fst
  rw [show c * u - shiftOf u w + shiftOf u w = c * u by omega]
  exact Int.mul_ediv_cancel c (by omega)
section
variable {lab : Int → Lab} {s e : SpanD}
theorem shared_spec (F1 : Fit1 lab s) (F2 : Fit1 lab e) {eh : Int} (hh : e.high = some eh) (hlt : eh < s.low) {b : Int} (h : edgeShared s e = some b) : EdgeF lab b ∧ ∃ x, 0 ≤ x ∧ x < b ∧ lab x = lab b := by
  have hel : e.low ≤ eh := F2.ne.2 eh hh
  have he0 := F2.lo
  unfold edgeShared at h
  split at h
  · rename_i hw
    split at h
    · rename_i hu hv
      split at h
      · rename_i hf
        cases h
        refine ⟨F1.fr.mp hf, e.low, he0, by omega, ?_⟩
        rw [F2.lb _ F2.ne, F1.lb _ F1.ne, cntO_none hu, cntO_none hv, hw]
      · cases h
    · rename_i u v hu hv
      have u0 := F1.un u hu
      have v0 := F2.un v hv
      have hc1 : cnt e.low v e.row.way ≤ sharedFrom s e u v ∧ cnt s.low u s.row.way + (if s.fresh = true then 0 else 1) ≤ sharedFrom s e u v := by
        unfold sharedFrom
        split <;> omega
      generalize sharedFrom s e u v = c at h hc1
      have sp := stretch_spec F1 s.row.word (some c)
      cases hq : stretchWith s s.row.word (some c) with
      | none => rw [hq] at h; cases h
      | some p =>
        rw [hq] at h sp
        obtain ⟨p1, p2, _, p4⟩ := sp
        have h' : (if c > cnt (e.high.getD 0) v e.row.way then none else some p.1) = some b := h
        split at h'
        · cases h'
        · rename_i hcc
          cases h'
          rw [hh] at hcc
          have hcc : ¬ c > cnt eh v e.row.way := hcc
          have hlp := ((p4 p.1).mp p1).2
          have hbl := p2.1
          constructor
          · by_cases hb : p.1 = s.low
            · have hf : s.fresh = true := by
                have e1 := F1.lb _ p2
                rw [hlp, cntO_some hu, hb] at e1
                have e2 : c = cnt s.low u s.row.way := Option.some.inj (congrArg Prod.snd e1)
                cases hf : s.fresh with
                | true => rfl
                | false =>
                  rw [hf] at hc1
                  have := hc1.2
                  simp at this
                  omega
              rw [hb]
              exact F1.fr.mp hf
            · have hl0 := F1.lo
              refine ⟨by omega, fun ee => ?_⟩
              have := (p4 (p.1 - 1)).mpr ⟨seg_pred p2 (by omega), by rw [← ee]; exact hlp⟩
              have := this.1
              omega
          · have hfe : fst c v e.row.way ≤ eh := (cnt_ge v0).mp (by omega)
            by_cases hx : fst c v e.row.way ≤ e.low
            · have g : c ≤ cnt e.low v e.row.way := (cnt_ge v0).mpr hx
              refine ⟨e.low, he0, by omega, ?_⟩
              rw [F2.lb _ F2.ne, hlp, cntO_some hv, hw, show cnt e.low v e.row.way = c by omega]
            · refine ⟨fst c v e.row.way, by omega, by omega, ?_⟩
              rw [F2.lb _ ⟨by omega, fun h z => by rw [hh] at z; cases z; exact hfe⟩, hlp, cntO_some hv, hw, cnt_fst_eq v0]
    · cases h
  · cases h
end
theorem chain_lt {ss : List SpanD} {b0 : Int} (hc : Chain b0 ss) : ∀ {i j : Nat} {s e : SpanD}, ss[j]? = some e → ss[i]? = some s → j < i → ∃ eh, e.high = some eh ∧ eh < s.low := by
  induction hc with
  | last h1 h2 =>
    intro i j s e hj hi hji
    have := (List.getElem?_eq_some_iff.mp hi).1
    simp at this
    omega
  | more h1 h2 h3 h4 ih =>
    intro i j s e hj hi hji
    cases i with
    | zero => omega
    | succ i =>
      rw [List.getElem?_cons_succ] at hi
      cases j with
      | zero =>
        have e1 := Option.some.inj hj
        rw [← e1]
        have := h4.low s (List.mem_of_getElem? hi)
        exact ⟨_, h2, by omega⟩
      | succ j =>
        rw [List.getElem?_cons_succ] at hj
        exact ih hj hi (by omega)
theorem returns_none {lab : Int → Lab} {ss : List SpanD} (hc : Chain 0 ss) (F : Fit lab ss) (st : Steady lab) : returnsOf ss = none := by
  have ha : ∀ i, againAt ss i = [] := fun i => by
    unfold againAt
    cases hs : ss[i]? with
    | none => rfl
    | some s =>
      refine List.filterMap_eq_nil_iff.mpr fun e he => ?_
      obtain ⟨j, hj⟩ := List.mem_iff_getElem?.mp he
      have hji : j < i := by
        have := (List.getElem?_eq_some_iff.mp hj).1
        rw [List.length_take] at this
        omega
      rw [List.getElem?_take_of_lt hji] at hj
      obtain ⟨eh, hh, hlt⟩ := chain_lt hc hj hs hji
      cases hq : edgeShared s e with
      | none => rfl
      | some b =>
        exfalso
        obtain ⟨hb, x, x0, x1, x2⟩ := shared_spec (F s (List.mem_of_getElem? hs)) (F e (List.mem_of_getElem? hj)) hh hlt hq
        exact hb.2 (by rw [st x b (b - 1) x0 (by omega) (by omega) x2]; exact x2.symm)
  have : ∀ k i, retFrom ss k i = none := by
    intro k
    induction k with
    | zero => intro i; rfl
    | succ k ih =>
      intro i
      unfold retFrom
      rw [ha i]
      exact ih (i + 1)
  exact this _ _
/-! ### the ages of a label -/
theorem ages_one {rows : List RowD} (ok : RowsOk rows) (st : Steady (labelOf rows)) {n : Int} (hn : 0 ≤ n) : agesOf rows (labelOf rows n).1 (labelOf rows n).2 = [(lastEdge (spansFrom 0 none rows) n, (laterEdge (spansFrom 0 none rows) n).map (· - 1))] := by
  obtain ⟨g, ne, un⟩ := ages_spec ok (labelOf rows n).1 (labelOf rows n).2
  obtain ⟨p, hp, hi⟩ := (un n).mpr ⟨hn, rfl⟩
  obtain ⟨e1, e2, e3, e4⟩ := ages_ends ok hp
  -- no two
  have no2 : ∀ a ∈ agesOf rows (labelOf rows n).1 (labelOf rows n).2, ∀ b ∈ agesOf rows (labelOf rows n).1 (labelOf rows n).2, ¬ ∃ h, a.2 = some h ∧ h + 1 < b.1 := by
    rintro a ha b hb ⟨h, h1, h2⟩
    obtain ⟨a1, a2, a3, a4⟩ := ages_ends ok ha
    obtain ⟨b1, b2, b3, b4⟩ := ages_ends ok hb
    have hla := a2 a.1 (ne a ha)
    have hlb := b2 b.1 (ne b hb)
    have hah := (ne a ha).2 h h1
    have l1 := st a.1 b.1 h a1 (by omega) (by omega) (by rw [hla, hlb])
    have l2 := st a.1 b.1 (h + 1) a1 (by omega) (by omega) (by rw [hla, hlb])
    exact (a4 h h1).2 (by rw [show h + 1 - 1 = h by omega, l1, l2])
  have hps : agesOf rows (labelOf rows n).1 (labelOf rows n).2 = [p] := by
    generalize agesOf rows (labelOf rows n).1 (labelOf rows n).2 = ps at hp g no2
    match ps, hp, g, no2 with
    | [q], hp, _, _ => rw [List.mem_singleton.mp hp]
    | a :: b :: r, _, g, no2 =>
      exact absurd ((List.pairwise_cons.mp g).1 b List.mem_cons_self) (no2 a List.mem_cons_self b (List.mem_cons_of_mem _ List.mem_cons_self))
  have hL : LastE (labelOf rows) n p.1 := ⟨e1, hi.1, e3, fun x h1 h2 ee => ee.2 (by
    rw [e2 x ⟨by omega, fun h z => by have := hi.2 h z; omega⟩, e2 (x - 1) ⟨by omega, fun h z => by have := hi.2 h z; omega⟩])⟩
  have hN : NextO (labelOf rows) n (p.2.map (· + 1)) := by
    cases hq : p.2 with
    | none => exact fun x hx ee => ee.2 (by rw [e2 x ⟨by have := hi.1; omega, fun h z => by rw [hq] at z; cases z⟩, e2 (x - 1) ⟨by have := hi.1; omega, fun h z => by rw [hq] at z; cases z⟩])
    | some h =>
      have hnh := hi.2 h hq
      show NextE (labelOf rows) n (h + 1)
      refine ⟨by omega, e4 h hq, fun x h1 h2 ee => ee.2 ?_⟩
      rw [e2 x ⟨by have := hi.1; omega, fun h' z => by rw [hq] at z; cases z; omega⟩, e2 (x - 1) ⟨by have := hi.1; omega, fun h' z => by rw [hq] at z; cases z; omega⟩]
  rw [hps, LastE.uniq (last_spec ok hn) hL, NextO.uniq (later_next ok hn) hN]
  obtain ⟨lo, hi2⟩ := p
  cases hi2 with
  | none => rfl
  | some h =>
    show [(lo, some h)] = [(lo, some (h + 1 - 1))]
    rw [show h + 1 - 1 = h by omega]
/-! ### counting -/
section
variable {rows : List RowD} {n b : Int}
theorem numE_flat2 (ok : RowsOk rows) (hn : 0 ≤ n) {m : Int} (hnm : n ≤ m) (h : ∀ x, n < x → x ≤ m → ¬ EdgeF (labelOf rows) x) : numE (spansFrom 0 none rows) m = numE (spansFrom 0 none rows) n := by
  obtain ⟨F, hc⟩ := ok.fit
  have := numE_flat hc F hn (m - n).toNat (fun x x1 x2 => h x x1 (by omega))
  rw [show n + ((m - n).toNat : Int) = m by omega] at this
  exact this
theorem numE_edge (ok : RowsOk rows) (h0 : 0 ≤ b) (h : EdgeF (labelOf rows) b) : numE (spansFrom 0 none rows) b = numE (spansFrom 0 none rows) (b - 1) + 1 := by
  obtain ⟨F, hc⟩ := ok.fit
  have := numE_step (lab := labelOf rows) b hc F h0
  have e : eI (labelOf rows) b = 1 := if_pos h
  omega
theorem numE_next (ok : RowsOk rows) (hn : 0 ≤ n) (h : NextE (labelOf rows) n b) : numE (spansFrom 0 none rows) b = numE (spansFrom 0 none rows) n + 1 ∧ numE (spansFrom 0 none rows) (b - 1) = numE (spansFrom 0 none rows) n := by
  have h1 := h.gt
  have h2 := numE_flat2 ok hn (m := b - 1) (by omega) (fun x x1 x2 => h.no x x1 (by omega))
  have h3 := numE_edge ok (by omega) h.ed
  omega
theorem numE_up (ok : RowsOk rows) (hn : 0 ≤ n) : ∀ k : Nat, numE (spansFrom 0 none rows) n ≤ numE (spansFrom 0 none rows) (n + k)
  | 0 => by simp
  | k + 1 => by
    have ih := numE_up ok hn k
    obtain ⟨F, hc⟩ := ok.fit
    have := numE_step (lab := labelOf rows) (n + ((k + 1 : Nat) : Int)) hc F (by omega)
    rw [show n + ((k + 1 : Nat) : Int) - 1 = n + k by omega] at this
    have : 0 ≤ eI (labelOf rows) (n + ((k + 1 : Nat) : Int)) := by unfold eI; split <;> decide
    omega
theorem numE_le (ok : RowsOk rows) (hn : 0 ≤ n) {m : Int} (h : n ≤ m) : numE (spansFrom 0 none rows) n ≤ numE (spansFrom 0 none rows) m := by
  have := numE_up ok hn (m - n).toNat
  rw [show n + ((m - n).toNat : Int) = m by omega] at this
  exact this
theorem same_iff (ok : RowsOk rows) (st : Steady (labelOf rows)) (hn : 0 ≤ n) {m : Int} (hnm : n ≤ m) : labelOf rows n = labelOf rows m ↔ numE (spansFrom 0 none rows) m - numE (spansFrom 0 none rows) n = 0 := by
  constructor
  · intro e
    have := numE_flat2 ok hn hnm (flat_no (lab := labelOf rows) (x := n) (y := m) fun z z1 z2 => st n m z hn z1 z2 e)
    omega
  · intro e
    refine (flat (lab := labelOf rows) hn (fun x x1 x2 ee => ?_) hnm).symm
    have h1 := numE_edge ok (by omega) ee
    have h2 := numE_le ok hn (show n ≤ x - 1 by omega)
    have h3 := numE_le ok (n := x) (by omega) x2
    omega
end
end Age

set_option Elab.async false
set_option linter.all false
set_option maxRecDepth 100000
set_option maxHeartbeats 4000000
namespace Age
open PySem PySem.Spec PyProof.Rows L2 Evl RT
theorem oV_ne {o : Option Int} : (!decide (oV o = oV o)) = false := by simp
theorem rv_neO {o : Option Int} {H : Hp} : RV rNe (oV o) (oV o) H (.bl false) := by
  have h : scal (oV o) (oV o) = true := by cases o <;> rfl
  have := rv_ne (H := H) h
  rw [oV_ne] at this
  exact this
theorem eqv_self : ∀ (ps : List Str2), PyData.eqv (.tuple (ps.map dP)) (.tuple (ps.map dP)) = true := by
  have h1 : ∀ p : Str2, PyData.eqv (dP p) (dP p) = true := fun p => by
    obtain ⟨a, b⟩ := p
    cases b <;> simp [dP, dO, PyData.eqv, PyData.eqvAll]
  have h2 : ∀ ps : List Str2, PyData.eqvAll (ps.map dP) (ps.map dP) = true := by
    intro ps
    induction ps with
    | nil => simp [PyData.eqvAll]
    | cons p ps ih => simp [PyData.eqvAll, h1, ih]
  intro ps
  simp [PyData.eqv, h2]
theorem label_cokS {rows : List RowD} (ok : RowsOk rows) {n : Int} (hn : Ag n) : Cok (labelOf rows n).2 := by
  obtain ⟨r, hr, e⟩ := label_row ok n
  rw [e]
  intro c hc
  have hc : cntO r n = some c := hc
  cases hu : r.unit with
  | none => rw [cntO_none hu] at hc; cases hc
  | some u =>
    rw [cntO_some hu] at hc
    have ⟨u0, u1⟩ := (ok.r r hr).1.un u hu
    have hb := cnt_bd r.way hn.1 u0
    rw [Option.some.inj hc] at hb
    unfold Ag at hn u1
    unfold Sm
    omega
theorem q_par {σ : L2.St} {H : Hp} {i j : Nat} {ta : TA} {v w : V} {D : Ends} {tz : TS} (h : EvA ta σ H [v, w]) (k : ∀ H1, Ex H H1 → tz D ((σ.set i (some v)).set j (some w)) H1) : tSeq (tPar i j ta) tz D σ H := h H (Ex.refl H) _ fun H1 e => ⟨v, w, rfl, k H1 e⟩
theorem em_tup1 {σ : L2.St} {H : Hp} {te : TE} {Q : VK} {Pa : V → Hp → Prop} (h : ∀ Q' : VK, (∀ x H1, Pa x H1 → Q' x H1) → te σ H Q') (k : ∀ x H1, Pa x H1 → ∀ t, H1 t = none → Q (.ref t) (upd H1 t (.tup [x]))) : tTup (tCons te tNil) σ H Q := h _ fun x H1 p => ⟨by show 1 ≤ sizeLine; decide, fun t ht => k x H1 p t ht⟩
/-- rows whose numbers are not above 10 ^ 23 -/
def BndR (rows : List RowD) : Prop := ∀ r ∈ rows, (∀ u, r.unit = some u → 0 < u ∧ u ≤ 100000000000000000000000) ∧ ∀ t, r.til = some t → 0 < t ∧ t ≤ 100000000000000000000000
theorem spans_bnd : ∀ {rows : List RowD} {b : Int} {sh : Option (Str × Option Int)}, BndR rows → 0 ≤ b ∧ b ≤ 100000000000000000000000 → ∀ s ∈ spansFrom b sh rows, (0 ≤ s.low ∧ s.low ≤ 100000000000000000000000) ∧ ∀ u, s.row.unit = some u → 0 < u ∧ u ≤ 100000000000000000000000
  | [], _, _, _, _ => fun s h => by simp [spansFrom] at h
  | r :: rs, b, sh, hd, hb => fun s h => by
    obtain ⟨h1, h2⟩ := hd r List.mem_cons_self
    have hd2 : BndR rs := fun r hr => hd r (List.mem_cons_of_mem _ hr)
    cases ht : r.til with
    | none =>
      simp only [spansFrom, ht] at h
      rcases List.mem_cons.mp h with z | z
      · rw [z]; exact ⟨hb, h1⟩
      · exact spans_bnd hd2 hb s z
    | some t =>
      have := h2 t ht
      simp only [spansFrom, ht] at h
      rcases List.mem_cons.mp h with z | z
      · rw [z]; exact ⟨hb, h1⟩
      · exact spans_bnd hd2 (by omega) s z
theorem later_up {n : Int} (hn : 0 ≤ n) : ∀ {ss : List SpanD}, (∀ s ∈ ss, (0 ≤ s.low ∧ s.low ≤ 100000000000000000000000) ∧ ∀ u, s.row.unit = some u → 0 < u ∧ u ≤ 100000000000000000000000) → ∀ {b : Int}, laterEdge ss n = some b → b ≤ n + 200000000000000000000000
  | [], _, b, h => nomatch h
  | s :: ss, hd, b, h => by
    unfold laterEdge at h
    rw [List.findSome?_cons] at h
    cases he : edgeAfter s n with
    | none =>
      rw [he] at h
      exact later_up hn (ss := ss) (fun s hs => hd s (List.mem_cons_of_mem _ hs)) h
    | some b' =>
      rw [he] at h
      cases h
      obtain ⟨h1, h2⟩ := hd s List.mem_cons_self
      by_cases c : s.fresh = true ∧ n < s.low
      · have e1 : edgeAfter s n = some s.low := if_pos c
        rw [e1] at he
        cases he
        omega
      · have e1 : edgeAfter s n = _ := if_neg c
        rw [e1] at he
        cases hu : s.row.unit with
        | none => rw [hu] at he; cases he
        | some u =>
          obtain ⟨u0, u1⟩ := h2 u hu
          have key : fst (cnt (if s.low > n then s.low else n) u s.row.way + 1) u s.row.way ≤ n + 200000000000000000000000 := by
            have hm : (if s.low > n then s.low else n) ≤ n + 100000000000000000000000 := by split <;> omega
            generalize (if s.low > n then s.low else n) = m at hm
            have h3 := (cnt_fst (m := m) (w := s.row.way) u0 rfl).2.1
            have h4 : fst (cnt m u s.row.way + 1) u s.row.way = fst (cnt m u s.row.way) u s.row.way + u := by
              unfold fst
              rw [Int.add_mul, Int.one_mul]
              omega
            omega
          rw [hu] at he
          cases hh : s.high with
          | none =>
            rw [hh] at he
            have he : fst (cnt (if s.low > n then s.low else n) u s.row.way + 1) u s.row.way = b := Option.some.inj he
            omega
          | some x =>
            rw [hh] at he
            have he : (if fst (cnt (if s.low > n then s.low else n) u s.row.way + 1) u s.row.way ≤ x then some (fst (cnt (if s.low > n then s.low else n) u s.row.way + 1) u s.row.way) else none) = some b := he
            generalize fst (cnt (if s.low > n then s.low else n) u s.row.way + 1) u s.row.way = e at he key
            split at he
            · cases he; exact key
            · cases he
def spStR (cR cS cW : Addr) : Sp := fun vs H Q _ => ∃ (p l : Addr) (rows : List RowD) (n : Int), vs = [.ref p, .ref l, .int n] ∧ WordAt cR cS cW H p rows ∧ LRows H l rows ∧ RowsOk rows ∧ Steady (labelOf rows) ∧ Ag n ∧ RetV (.bl true) H Q
theorem spv_stR {cR cS cW p l : Addr} {rows : List RowD} {n : Int} {H : Hp} (h : WordAt cR cS cW H p rows) (h2 : LRows H l rows) (o : RowsOk rows) (st : Steady (labelOf rows)) (hn : Ag n) : SpV (spStR cR cS cW) [.ref p, .ref l, .int n] H (.bl true) := fun H1 e Q q E => ⟨p, l, rows, n, rfl, h.mono e, h2.mono e, o, st, hn, q⟩
def spRunR (cR cS cW : Addr) : Sp := fun vs H Q _ => ∃ (p : Addr) (rows : List RowD) (n : Int), vs = [.ref p, .int n] ∧ WordAt cR cS cW H p rows ∧ RowsOk rows ∧ BndR rows ∧ 0 ≤ n ∧ n ≤ 1000000000000000000000000000000 ∧ RetV (.bl true) H Q
theorem spv_runR {cR cS cW p : Addr} {rows : List RowD} {n : Int} {H : Hp} (h : WordAt cR cS cW H p rows) (o : RowsOk rows) (hb : BndR rows) (h0 : 0 ≤ n) (h1 : n ≤ 1000000000000000000000000000000) : SpV (spRunR cR cS cW) [.ref p, .int n] H (.bl true) := fun H1 e Q q E => ⟨p, rows, n, rfl, h.mono e, o, hb, h0, h1, q⟩
section
variable {K : PySem.W.Frag} {σ : L2.St} {H : Hp} {p cR cS cW : Addr} {rows : List RowD} {ta te tf : TE} {x y : Int}
/-- two labels of a wording, compared -/
theorem ev_two (hW : WordAt cR cS cW H p rows) (ok : RowsOk rows) (ha : Ev ta σ H (.ref p)) (hx : 0 ≤ x) (hy : 0 ≤ y) (he : Ev te σ H (.int x)) (hf : Ev tf σ H (.int y)) :
    Ev (tOp (rEqD K) (tMeth cW "label" (spLabel cR cS cW) [] E0 ta (tCons te tNil)) (tMeth cW "label" (spLabel cR cS cW) [] E0 ta (tCons tf tNil))) σ H (.bl (decide (labelOf rows x = labelOf rows y))) := fun H1 e Q q => by
  obtain ⟨dx, t1, t2, _, _, hp, _⟩ := id hW
  refine em_meth (ha.mono e) (e _ _ hp) rfl (EvA.mono' e (ea_cons he ea_nil)) fun H2 e2 => ⟨p, rows, x, rfl, hW.mono (e.trans e2), ok, hx, fun t3 H3 ht3 e3 h3 => ?_⟩
  have e13 := e.trans (e2.trans e3)
  refine em_meth (ha.mono e13) (e13 _ _ hp) rfl (EvA.mono' e13 (ea_cons hf ea_nil)) fun H4 e4 => ⟨p, rows, y, rfl, hW.mono (e13.trans e4), ok, hy, fun t5 H5 ht5 e5 h5 => ?_⟩
  have hq := rv_eqD (K := K) (H := H5) (dp_lab ((e4.trans e5) _ _ h3)) (dp_lab h5) (shaped_dL _ (label_str ok x)) (shaped_dL _ (label_str ok y))
  rw [eqv_dL] at hq
  exact hq H5 (Ex.refl _) _ fun H6 e6 => q H6 ((((e2.trans e3).trans e4).trans e5).trans e6)
end
section
variable {P : Program} {w : World} {K : PySem.W.Frag} {mg : Str → Option Value} {base : Heap} {cR cS cW : Addr}
theorem ok_stR {f : Addr} {fd : FuncData} (F : Fn K "_law_is_stretch_right" "_law_is_stretch_right" s__law_is_stretch_right f fd) (T : Tx K mg cR cS cW) (c1 : Cal P w K mg base CX0 4 "_law_last" ["_law_rows_here", "_law_age"] spLlast) (c2 : Cal P w K mg base CX0 4 "_law_later" ["_law_rows_here", "_law_age"] spLlater)
    (m1 : Met P w K mg base CX0 4 cW "label" ["self", "age"] (spLabel cR cS cW)) (m2 : Met P w K mg base CX0 4 cW "ages" ["self", "label"] (spAges cR cS cW)) (m3 : Met P w K mg base CX0 5 cW "later_edge" ["self", "age"] (spLater cR cS cW)) (m4 : Met P w K mg base CX0 5 cW "last_edge" ["self", "age"] (spLast cR cS cW)) :
    FnOk P w K mg base CX0 6 f fd ["_law_wording", "_law_rows_here", "_law_age"] (spStR cR cS cW) := by
  obtain ⟨f1, fd1, G__law_last, m__law_last, k__law_last, b__law_last⟩ := c1.ex
  obtain ⟨f2, fd2, G__law_later, m__law_later, k__law_later, b__law_later⟩ := c2.ex
  obtain ⟨f4, fd4, G_Wording_label, M_Wording_label, b_Wording_label⟩ := m1.ex
  obtain ⟨f5, fd5, G_Wording_ages, M_Wording_ages, b_Wording_ages⟩ := m2.ex
  obtain ⟨f6, fd6, G_Wording_later_edge, M_Wording_later_edge, b_Wording_later_edge⟩ := m3.ex
  obtain ⟨f7, fd7, G_Wording_last_edge, M_Wording_last_edge, b_Wording_last_edge⟩ := m4.ex
  refine F.ok sc__law_is_stretch_right (fun vs H Q E h => ?_) (fun cdv A outer s H vs Q E hr h => ?_)
  · obtain ⟨p, l, rows, n, rfl, _⟩ := h; rfl
  · obtain ⟨p, l, rows, n, rfl, hW, hL, ok, st, hn, k⟩ := h
    refine ⟨_, PSs.nox (pss_cons (ps_par (i := 3) (j := 4) (by rfl) sc__law_is_stretch_right.nd rfl rfl (by decide) rfl rfl (pa_cons (pe_meth (pv 0) T.wording M_Wording_last_edge G_Wording_last_edge (hr.mono (by decide)) b_Wording_last_edge .nil pass0 (pa_cons (pv 2) pa_nil)) (pa_cons (pe_meth (pv 0) T.wording M_Wording_later_edge G_Wording_later_edge (hr.mono (by decide)) b_Wording_later_edge .nil pass0 (pa_cons (pv 2) pa_nil)) pa_nil)) (by rfl)) (pss_cons (ps_if (PW.pt (pw_or (pt_cmpR op_ne (pv 3) (pe_call G__law_last (hr.mono (by decide)) rfl m__law_last k__law_last b__law_last .nil pass0 (pa_cons (pv 1) (pa_cons (pv 2) pa_nil))) (nomark _)) (pw_or1 (pt_cmpR op_ne (pv 4) (pe_call G__law_later (hr.mono (by decide)) rfl m__law_later k__law_later b__law_later .nil pass0 (pa_cons (pv 1) (pa_cons (pv 2) pa_nil))) (nomark _))))) (pss_one (ps_ret pe_bl)) pss_nil) (pss_one (ps_ret (pe_cmpR (op_eqD hr.units) (pe_meth (pv 0) T.wording M_Wording_ages G_Wording_ages (hr.mono (by decide)) b_Wording_ages .nil pass0 (pa_cons (pe_meth (pv 0) T.wording M_Wording_label G_Wording_label (hr.mono (by decide)) b_Wording_label .nil pass0 (pa_cons (pv 2) pa_nil)) pa_nil)) (pe_tup (pa_cons (pe_tup (pa_cons (pv 3) (pa_cons (pe_ifExp (pt_cmp (pc_isN (pv 4))) pe_non (pe_op op_sub (pv 4) pe_int)) pa_nil))) pa_nil)) (nomark _)))))), ?_⟩
    obtain ⟨dx, ta, tb, _, _, hp, _⟩ := id hW
    have p1 := ev_meth (m := "last_edge") (E := E0) (dvs := []) (σ := [some (.ref p), some (.ref l), some (.int n), none, none]) (ta := tVar 0) (ev_var rfl) hp rfl (ea_cons (ev_var (i := 2) rfl) ea_nil) (spv_last hW ok hn)
    have p2 := ev_meth (m := "later_edge") (E := E0) (dvs := []) (σ := [some (.ref p), some (.ref l), some (.int n), none, none]) (ta := tVar 0) (ev_var rfl) hp rfl (ea_cons (ev_var (i := 2) rfl) ea_nil) (spv_later hW ok hn)
    refine q_par (ea_cons p1 (ea_cons p2 ea_nil)) fun H1 e1 => ?_
    have hone := ages_one ok st hn.1
    generalize hla : lastEdge (spansFrom 0 none rows) n = la at hone ⊢
    generalize hlt : laterEdge (spansFrom 0 none rows) n = lt at hone ⊢
    show tSeq (tIfS _ _ _) _ _ [some (.ref p), some (.ref l), some (.int n), some (.int la), some (oV lt)] H1
    have t1 : EvT (tTest (tOp rNe (tVar 3) (tCall spLlast [] E0 (tCons (tVar 1) (tCons (tVar 2) tNil))))) [some (.ref p), some (.ref l), some (.int n), some (.int la), some (oV lt)] H1 false := by
      have h1 := ev_call (E := E0) (dvs := []) (σ := [some (.ref p), some (.ref l), some (.int n), some (.int la), some (oV lt)]) (ea_cons (ev_var (i := 1) rfl) (ea_cons (ev_var (i := 2) rfl) ea_nil)) (spv_llast (hL.mono e1) ok hn)
      rw [hla] at h1
      exact et_test (ev_op (ev_var rfl) h1 (rv_neO (o := some la)))
    have t2 : EvT (tTest (tOp rNe (tVar 4) (tCall spLlater [] E0 (tCons (tVar 1) (tCons (tVar 2) tNil))))) [some (.ref p), some (.ref l), some (.int n), some (.int la), some (oV lt)] H1 false := by
      have h1 := ev_call (E := E0) (dvs := []) (σ := [some (.ref p), some (.ref l), some (.int n), some (.int la), some (oV lt)]) (ea_cons (ev_var (i := 1) rfl) (ea_cons (ev_var (i := 2) rfl) ea_nil)) (spv_llater (hL.mono e1) ok hn)
      rw [hlt] at h1
      exact et_test (ev_op (ev_var rfl) h1 (rv_neO (o := lt)))
    refine q_when (et_or t1 (fun _ => t2)) (fun hb => Bool.noConfusion hb) (fun _ H2 e2 => ?_)
    have e12 := e1.trans e2
    refine ⟨_, rfl, p, dx, _, rfl, e12 _ _ hp, rfl, _, rfl, p, dx, _, rfl, e12 _ _ hp, rfl, _, rfl, p, rows, n, rfl, hW.mono e12, ok, hn.1, fun t3 H3 ht3 e3 h3 => ⟨p, t3, rows, _, _, rfl, hW.mono (e12.trans e3), ok, h3, label_cokS ok hn, fun t4 ps H4 ht4 e4 h4 hPs => ?_⟩⟩
    rw [hone] at hPs
    have hev : Ev (tIf (tB (tIsN (tVar 4))) (tC .non) (tOp (rI0 fun i j => .int (i - j)) (tVar 4) (tC (.int 1)))) [some (.ref p), some (.ref l), some (.int n), some (.int la), some (oV lt)] H4 (oV (lt.map (· - 1))) := by
      cases lt with
      | none => exact ev_if (et_B (ev_isN (x := .non) (ev_var rfl))) (fun _ => ev_c) (fun z => Bool.noConfusion z)
      | some b => exact ev_if (et_B (ev_isN (x := .int b) (ev_var rfl))) (fun z => Bool.noConfusion z) (fun _ => ev_op (ev_var rfl) ev_c rv_I0)
    refine em_tup1 (Pa := fun x H5 => ∃ t5, x = .ref t5 ∧ Ex H4 H5 ∧ H5 t5 = some (.tup [.int la, oV (lt.map (· - 1))])) (fun Q' q' => (eu_tup (ea_cons (ev_var (i := 3) rfl) (ea_cons hev ea_nil)) (by show 2 ≤ 100000; decide)) H4 (Ex.refl _) _ fun t5 H5 ht5 e5 h5 => q' _ _ ⟨t5, rfl, e5, h5⟩) ?_
    rintro x H5 ⟨t5, rfl, e5, h5⟩ t6 ht6
    have e6 : Ex H5 (upd H5 t6 (.tup [.ref t5])) := Ex.new ht6
    have hq := rv_eqD (K := K) (H := upd H5 t6 (.tup [.ref t5])) (.tup (st_of ((e5.trans e6) _ _ h4)) (dp_pairs (hPs.mono (e5.trans e6)))) (.tup (st_of upd_same) (.cons (dp_pair (p := (la, lt.map (· - 1))) ⟨t5, rfl, e6 _ _ h5⟩) .nil)) (shaped_tupP _) (shaped_tupP [(la, lt.map (· - 1))])
    have hself := eqv_self [(la, lt.map (· - 1))]
    rw [show PyData.eqv (.tuple ([(la, lt.map (· - 1))].map dP)) (.tuple [dP (la, lt.map (· - 1))]) = true from hself] at hq
    exact hq _ (Ex.refl _) _ fun H7 e7 => k H7 ((((e12.trans e3).trans e4).trans e5).trans (e6.trans e7))
theorem ok_runR {f : Addr} {fd : FuncData} (F : Fn K "_law_is_run_right" "_law_is_run_right" s__law_is_run_right f fd) (T : Tx K mg cR cS cW) (B : Bn mg)
    (m1 : Met P w K mg base CX0 4 cW "label" ["self", "age"] (spLabel cR cS cW)) (m2 : Met P w K mg base CX0 6 cW "edges" ["self", "low", "high"] (spEdges cR cS cW)) (m3 : Met P w K mg base CX0 5 cW "later_edge" ["self", "age"] (spLater cR cS cW)) (m4 : Met P w K mg base CX0 5 cW "last_edge" ["self", "age"] (spLast cR cS cW)) :
    FnOk P w K mg base CX0 7 f fd ["_law_wording", "_law_age"] (spRunR cR cS cW) := by
  obtain ⟨f4, fd4, G_Wording_label, M_Wording_label, b_Wording_label⟩ := m1.ex
  obtain ⟨f5, fd5, G_Wording_edges, M_Wording_edges, b_Wording_edges⟩ := m2.ex
  obtain ⟨f6, fd6, G_Wording_later_edge, M_Wording_later_edge, b_Wording_later_edge⟩ := m3.ex
  obtain ⟨f7, fd7, G_Wording_last_edge, M_Wording_last_edge, b_Wording_last_edge⟩ := m4.ex
  refine F.ok sc__law_is_run_right (fun vs H Q E h => ?_) (fun cdv A outer s H vs Q E hr h => ?_)
  · obtain ⟨p, rows, n, rfl, _⟩ := h; rfl
  · obtain ⟨p, rows, n, rfl, hW, ok, hb, n0, n1, k⟩ := h
    refine ⟨_, PSs.nox (pss_cons (ps_par (i := 2) (j := 3) (by rfl) sc__law_is_run_right.nd rfl rfl (by decide) rfl rfl (pa_cons (pv 1) (pa_cons pe_int pa_nil)) (by rfl)) (pss_cons (ps_for PassesOwn.never rfl (pi_range1 rfl B.range (pa_cons pe_int pa_nil)) (pg_name (i := 4) sc__law_is_run_right.nd rfl (Or.inl rfl)) (pss_cons (ps_set (i := 5) sc__law_is_run_right.nd rfl (Or.inl rfl) (pe_meth (pv 0) T.wording M_Wording_later_edge G_Wording_later_edge (hr.mono (by decide)) b_Wording_later_edge .nil pass0 (pa_cons (pv 2) pa_nil))) (pss_cons (ps_if (pt_cmp (pc_isN (pv 5))) (pss_one (ps_ret (pe_cmpR op_eq (pe_meth (pv 0) T.wording M_Wording_edges G_Wording_edges (hr.mono (by decide)) b_Wording_edges .nil pass0 (pa_cons (pv 1) (pa_cons (pe_op op_add (pv 2) (pe_op op_pow pe_int pe_int)) pa_nil))) (pv 3) (nomark _)))) pss_nil) (pss_cons (ps_set (i := 3) sc__law_is_run_right.nd rfl (Or.inl rfl) (pe_op op_add (pv 3) pe_int)) (pss_cons (ps_if (PW.pt (pw_or (pt_cmpR op_ne (pe_meth (pv 0) T.wording M_Wording_edges G_Wording_edges (hr.mono (by decide)) b_Wording_edges .nil pass0 (pa_cons (pv 1) (pa_cons (pv 5) pa_nil))) (pv 3) (nomark _)) (pw_or1 (pt_cmpR op_ne (pe_meth (pv 0) T.wording M_Wording_edges G_Wording_edges (hr.mono (by decide)) b_Wording_edges .nil pass0 (pa_cons (pv 1) (pa_cons (pe_op op_sub (pv 5) pe_int) pa_nil))) (pe_op op_sub (pv 3) pe_int) (nomark _))))) (pss_one (ps_ret pe_bl)) pss_nil) (pss_cons (ps_if (PW.pt (pw_or (pt_cmpR op_ne (pe_meth (pv 0) T.wording M_Wording_last_edge G_Wording_last_edge (hr.mono (by decide)) b_Wording_last_edge .nil pass0 (pa_cons (pv 5) pa_nil)) (pv 5) (nomark _)) (pw_or1 (pt_cmpR (op_eqD hr.units) (pe_meth (pv 0) T.wording M_Wording_label G_Wording_label (hr.mono (by decide)) b_Wording_label .nil pass0 (pa_cons (pv 5) pa_nil)) (pe_meth (pv 0) T.wording M_Wording_label G_Wording_label (hr.mono (by decide)) b_Wording_label .nil pass0 (pa_cons (pe_op op_sub (pv 5) pe_int) pa_nil)) (nomark _))))) (pss_one (ps_ret pe_bl)) pss_nil) (pss_one (ps_set (i := 2) sc__law_is_run_right.nd rfl (Or.inl rfl) (pv 5))))))))) (pss_one (ps_ret pe_bl)))), ?_⟩
    obtain ⟨dx, ta, tb, _, _, hp, _⟩ := id hW
    have hbs := spans_bnd (sh := none) hb (b := 0) (by decide)
    have agn : Ag n := by unfold Ag; omega
    refine ⟨_, rfl, _, _, rfl, ?_⟩
    dsimp only
    show tSeq (tFor _ _ _) _ _ [some (.ref p), some (.int n), some (.int n), some (.int 0), none, none] H
    refine q_forR1 (n := 12) (ea_cons ev_c ea_nil) (by omega) (fun i σ H' => ∃ h m v4 v5, σ = [some (.ref p), some (.int n), some (.int h), some (.int m), v4, v5] ∧ Ex H H' ∧ n ≤ h ∧ h ≤ n + i * 200000000000000000000000 ∧ m = numE (spansFrom 0 none rows) h - numE (spansFrom 0 none rows) n)
      (fun H1 e1 => ⟨n, 0, none, none, rfl, e1, Int.le_refl _, by omega, by omega⟩) ?_ ?_
    · rintro i σ' H' hi ⟨h, m, v4, v5, rfl, e, hnh, hhi, hm⟩
      have agh : Ag h := by unfold Ag; omega
      have hN := later_next ok (n := h) (by omega)
      show tSeq (tAsg _ _) _ _ [some (.ref p), some (.int n), some (.int h), some (.int m), some (.int (i : Int)), v5] H'
      refine q_asg (ev_meth (ev_var rfl) (e _ _ hp) rfl (ea_cons (ev_var rfl) ea_nil) (spv_later (hW.mono e) ok agh)) fun H1 e1 => ?_
      have e01 := e.trans e1
      cases hq : laterEdge (spansFrom 0 none rows) h with
      | none =>
        rw [hq] at hN
        refine q_when (et_B (ev_isN (x := .non) (ev_var rfl))) (fun _ H2 e2 => ?_) (fun hb => Bool.noConfusion hb)
        have hg9 : (10 : Int) ^ (9 : Int).toNat = 1000000000 := by decide +kernel
        have hflat := numE_flat2 ok (n := h) (by omega) (m := h + 10 ^ (9 : Int).toNat) (by rw [hg9]; omega) (fun x x1 _ => hN x x1)
        have h1 := ev_meth (m := "edges") (E := E0) (dvs := []) (σ := [some (.ref p), some (.int n), some (.int h), some (.int m), some (.int (i : Int)), some .non]) (ta := tVar 0) (ev_var rfl) ((e01.trans e2) _ _ hp) rfl (ea_cons (ev_var (i := 1) rfl) (ea_cons (ev_op (ev_var (i := 2) (v := .int h) rfl) (ev_op ev_c ev_c (rv_I (C := CPow) (g := fun i j => .int (i ^ j.toNat)) (i := 10) (j := 9) ⟨by decide, by decide, by decide⟩)) (rv_I0 (g := fun i j => .int (i + j)))) ea_nil)) (spv_edges (hW.mono (e01.trans e2)) ok agn (by rw [hg9]; unfold Ag at agh ⊢; omega))
        rw [hflat] at h1
        refine s_ret (ev_op h1 (ev_var rfl) (rv_eq rfl)) fun H3 e3 => ?_
        have d1 : decide (V.int (numE (spansFrom 0 none rows) h - numE (spansFrom 0 none rows) n) = V.int m) = true := decide_eq_true (by rw [hm])
        show Q (.bl (decide (V.int (numE (spansFrom 0 none rows) h - numE (spansFrom 0 none rows) n) = V.int m))) H3
        rw [d1]
        exact k H3 ((e01.trans e2).trans e3)
      | some b =>
        rw [hq] at hN
        have hN : NextE (labelOf rows) h b := hN
        have hbu := later_up (n := h) (by omega) hbs hq
        have hgt := hN.gt
        have agb : Ag b := by unfold Ag; omega
        have agb1 : Ag (b - 1) := by unfold Ag; omega
        obtain ⟨q1, q2⟩ := numE_next ok (by omega) hN
        have hlast : lastEdge (spansFrom 0 none rows) b = b := LastE.uniq (last_spec ok agb.1) ⟨agb.1, Int.le_refl _, fun _ => hN.ed, fun x x1 x2 => absurd x2 (by omega)⟩
        refine q_when (et_B (ev_isN (x := .int b) (ev_var rfl))) (fun hb => Bool.noConfusion hb) (fun _ H2 e2 => ?_)
        have e02 := e01.trans e2
        refine q_asg (ev_op (ev_var rfl) ev_c rv_I0) fun H3 e3 => ?_
        have e03 := e02.trans e3
        show tSeq (tIfS _ _ _) _ _ [some (.ref p), some (.int n), some (.int h), some (.int (m + 1)), some (.int (i : Int)), some (.int b)] H3
        have x1 := ev_meth (m := "edges") (E := E0) (dvs := []) (σ := [some (.ref p), some (.int n), some (.int h), some (.int (m + 1)), some (.int (i : Int)), some (.int b)]) (ta := tVar 0) (ev_var rfl) (e03 _ _ hp) rfl (ea_cons (ev_var (i := 1) rfl) (ea_cons (ev_var (i := 5) rfl) ea_nil)) (spv_edges (hW.mono e03) ok agn agb)
        have x2 := ev_meth (m := "edges") (E := E0) (dvs := []) (σ := [some (.ref p), some (.int n), some (.int h), some (.int (m + 1)), some (.int (i : Int)), some (.int b)]) (ta := tVar 0) (ev_var rfl) (e03 _ _ hp) rfl (ea_cons (ev_var (i := 1) rfl) (ea_cons (ev_op (ev_var (i := 5) (v := .int b) rfl) (ev_c (v := .int 1)) (rv_I0 (g := fun i j => .int (i - j)))) ea_nil)) (spv_edges (hW.mono e03) ok agn agb1)
        have d1 : (!decide (V.int (numE (spansFrom 0 none rows) b - numE (spansFrom 0 none rows) n) = V.int (m + 1))) = false := by
          rw [show numE (spansFrom 0 none rows) b - numE (spansFrom 0 none rows) n = m + 1 by omega]; simp
        have d2 : (!decide (V.int (numE (spansFrom 0 none rows) (b - 1) - numE (spansFrom 0 none rows) n) = V.int (m + 1 - 1))) = false := by
          rw [show numE (spansFrom 0 none rows) (b - 1) - numE (spansFrom 0 none rows) n = m + 1 - 1 by omega]; simp
        have y1 := et_test (ev_op x1 (ev_var (i := 3) (v := .int (m + 1)) rfl) (rv_ne rfl))
        have y2 := et_test (ev_op x2 (ev_op (ev_var (i := 3) (v := .int (m + 1)) rfl) (ev_c (v := .int 1)) (rv_I0 (g := fun i j => .int (i - j)))) (rv_ne rfl))
        rw [d1] at y1
        rw [d2] at y2
        refine q_when (et_or y1 (fun _ => y2)) (fun hb => Bool.noConfusion hb) (fun _ H4 e4 => ?_)
        have e04 := e03.trans e4
        have x3 := ev_meth (m := "last_edge") (E := E0) (dvs := []) (σ := [some (.ref p), some (.int n), some (.int h), some (.int (m + 1)), some (.int (i : Int)), some (.int b)]) (ta := tVar 0) (ev_var rfl) (e04 _ _ hp) rfl (ea_cons (ev_var (i := 5) rfl) ea_nil) (spv_last (hW.mono e04) ok agb)
        rw [hlast] at x3
        have y3 := et_test (ev_op x3 (ev_var (i := 5) (v := .int b) rfl) (rv_neO (o := some b)))
        have x4 := ev_two (K := K) (σ := [some (.ref p), some (.int n), some (.int h), some (.int (m + 1)), some (.int (i : Int)), some (.int b)]) (ta := tVar 0) (hW.mono e04) ok (ev_var rfl) (x := b) (y := b - 1) agb.1 agb1.1 (ev_var (i := 5) rfl) (ev_op (ev_var (i := 5) (v := .int b) rfl) (ev_c (v := .int 1)) (rv_I0 (g := fun i j => .int (i - j))))
        rw [decide_eq_false hN.ed.2] at x4
        refine q_when (et_or y3 (fun _ => et_test x4)) (fun hb => Bool.noConfusion hb) (fun _ H5 e5 => ?_)
        refine s_asg (ev_var rfl) fun H6 e6 => ⟨b, m + 1, _, _, rfl, ((e04.trans e5).trans e6), by omega, by omega, by omega⟩
    · rintro σ' H' ⟨h, m, v4, v5, rfl, e, hnh, hhi, hm⟩
      exact s_ret ev_c fun H2 e2 => k H2 (e.trans e2)
end
end Age

set_option Elab.async false
set_option linter.all false
set_option maxRecDepth 100000
set_option maxHeartbeats 4000000
namespace Age
open PySem PySem.Spec PyProof.Rows L2 Evl RT
def FacI (f : Int) : Prop := f = 1 ∨ f = 7 ∨ f = 100000000000000000000
theorem uok_times {f : Int} (hf : 0 < f) : ∀ {rows : List RowD} {b : Int}, UOk b rows → UOk (b * f) (rows.map (timesR f))
  | _, _, .last h => .last (by show Option.map _ _ = _; rw [h]; rfl)
  | _, _, .more (t := t) h hb hu => .more (t := t * f) (by show Option.map _ _ = _; rw [h]; rfl) (Int.mul_lt_mul_of_pos_right hb hf) (uok_times hf hu)
theorem FacI.pos {f : Int} (h : FacI f) : 0 < f := by rcases h with z | z | z <;> subst z <;> decide
theorem FacI.sm {f : Int} (h : FacI f) : Sm f := by rcases h with z | z | z <;> subst z <;> unfold Sm <;> decide
theorem FacI.ag {f u b : Int} (h : FacI f) (h0 : 0 ≤ u) (h1 : u ≤ 1000) : Ag (u * f) := by
  unfold Ag
  rcases h with z | z | z <;> subst z <;> omega
theorem rows_times {ws : List Str} {most f : Int} {rows : List RowD} (hf : FacI f) (h : Drawn ws most rows) (hm : most ≤ 1000) (hw : ∀ s ∈ ws, PyData.strOk s = true) : RowsOk (rows.map (timesR f)) := by
  refine ⟨?_, fun r hr => ?_, ?_⟩
  · have := uok_times hf.pos h.u
    rw [Int.zero_mul] at this
    exact this
  · obtain ⟨r0, h0, rfl⟩ := List.mem_map.mp hr
    have g := h.g r0 h0
    refine ⟨⟨fun u hu => ?_, ?_⟩, fun t ht => ?_⟩
    · obtain ⟨u0, e, rfl⟩ := Option.map_eq_some_iff.mp hu
      have := g.un u0 e
      exact ⟨Int.mul_pos this.1 hf.pos, FacI.ag (b := 0) hf (by omega) (by omega)⟩
    · rcases g.wd with z | z
      · exact hw _ z
      · exact strOk_menu _ z
    · obtain ⟨u0, e, rfl⟩ := Option.map_eq_some_iff.mp ht
      have := g.ti u0 e
      exact FacI.ag (b := 0) hf (by omega) (by omega)
  · rw [List.length_map]
    have := h.n
    omega
theorem rowB_drawn {ws : List Str} {most : Int} {rows : List RowD} (h : Drawn ws most rows) : ∀ r ∈ rows, RowB r := fun r hr => by
  have g := h.g r hr
  exact ⟨fun u hu => by have := g.un u hu; unfold Sm; omega, fun u hu => by have := g.ti u hu; unfold Sm; omega⟩
theorem DRows.pw {p c : Addr} {n m : Int} {H H2 : Hp} {xs : List V} {rows : List RowD} (h : DRows H xs rows) (hp : PenAt H p c n) (P : Pw p c m (wo p H) H2) : DRows H2 xs rows :=
  All2.imp (fun y r ⟨t, e, ht⟩ => ⟨t, e, P.get hp ht (by intro z; simp)⟩) h
theorem RowAt.pw {cR p c q : Addr} {n m : Int} {H H2 : Hp} {r : RowD} (hp : PenAt H p c n) (P : Pw p c m (wo p H) H2) (h : RowAt cR H q r) : RowAt cR H2 q r := let ⟨dx, z⟩ := h; ⟨dx, P.get hp z (by intro z; simp)⟩
theorem WordAt.pw {cR cS cW p c q : Addr} {n m : Int} {H H2 : Hp} {rows : List RowD} (hp : PenAt H p c n) (P : Pw p c m (wo p H) H2) (h : WordAt cR cS cW H q rows) : WordAt cR cS cW H2 q rows := by
  obtain ⟨dx, ta, tb, xs, ys, h1, h2, h3, h4, h5⟩ := h
  refine ⟨dx, ta, tb, xs, ys, P.get hp h1 (by intro z; simp), P.get hp h2 (by intro z; simp), ⟨h3.1, fun i r hi => ?_⟩, P.get hp h4 (by intro z; simp), ⟨h5.1, fun i r hi => ?_⟩⟩
  · obtain ⟨q2, a, b⟩ := h3.2 i r hi
    exact ⟨q2, a, b.pw hp P⟩
  · obtain ⟨q2, a, dz, q3, b, b2⟩ := h5.2 i r hi
    exact ⟨q2, a, dz, q3, P.get hp b (by intro z; simp), b2.pw hp P⟩
theorem LRows.pw {p c l : Addr} {n m : Int} {H H2 : Hp} {rows : List RowD} (hp : PenAt H p c n) (P : Pw p c m (wo p H) H2) (h : LRows H l rows) : LRows H2 l rows := by
  obtain ⟨xs, a, b⟩ := h.ex
  exact ⟨xs, P.get hp a (by intro z; simp), b.pw hp P⟩
theorem bnd_times {ws : List Str} {most f : Int} {rows : List RowD} (hf : FacI f) (h : Drawn ws most rows) : BndR (rows.map (timesR f)) := by
  intro r hr
  obtain ⟨r0, h0, rfl⟩ := List.mem_map.mp hr
  have g := h.g r0 h0
  refine ⟨fun u hu => ?_, fun t ht => ?_⟩
  · obtain ⟨u0, e, rfl⟩ := Option.map_eq_some_iff.mp hu
    have := g.un u0 e
    rcases hf with z | z | z <;> subst z <;> omega
  · obtain ⟨u0, e, rfl⟩ := Option.map_eq_some_iff.mp ht
    have := g.ti u0 e
    rcases hf with z | z | z <;> subst z <;> omega
section
variable {K : PySem.W.Frag} {σ : L2.St} {H : Hp} {te : TE} {t : TT}
/-- [e for .. in a list if ..], whatever the target -/
theorem el_lcG {a : Addr} {xs : List V} {tl : TE} {g : TG} {vs : List Nat} (f : Nat → Bool) (u : Nat → V) (h : Ev tl σ H (.ref a)) (hx : SqL K H a xs) (hz : xs.length ≤ 40000)
    (hs : ∀ (i : Nat) (x : V) M, Ex H M → xs[i]? = some x → ∃ σ2, wipe σ2 vs = wipe σ vs ∧ (∀ H1 k, Ex M H1 → k σ2 H1 → g x (wipe σ vs) H1 k) ∧ EvT t σ2 M (f i) ∧ (f i = true → Ev te σ2 M (u i))) :
    EvL (tLc (iList K tl) g t te vs) σ H (given xs.length f u) := fun H0 e Q q => h H0 e _ fun H1 e1 => by
  refine ⟨a, rfl, ⟨xs, ex_l (e.trans e1) hx⟩, fun Dl hD => ?_⟩
  refine lc_list (xs := xs) (Cw H1 f u Dl) ⟨hD, Ex.new hD, upd_same⟩ (fun i H' _ p => ex_l ((e.trans e1).trans p.2.1) hx) (fun i x H' hi p => ?_) (fun H' p => q Dl H' (fresh_back e1 p.1) (e1.trans p.2.1) p.2.2)
  have hlt := (List.getElem?_eq_some_iff.mp hi).1
  obtain ⟨σ2, w2, gk, ht, hv⟩ := hs i x H1 (e.trans e1) hi
  exact gk H' _ p.2.1 ⟨w2, cw_turn p (by omega) ht hv⟩
end
def ages_ok (a : Int) : Prop := 0 ≤ a ∧ a ≤ 200000000000000000000000000000
theorem tils_given {rows : List RowD} (hb : BndR rows) : ∀ n, n ≤ rows.length → ∃ ns : List Int, given n (fun i => !decide ((((rows[i]?).map fun r => oV r.til).getD .non) = .non)) (fun i => ((rows[i]?).map fun r => oV r.til).getD .non) = ns.map V.int ∧ (∀ a ∈ ns, ages_ok a) ∧ ns.length ≤ n
  | 0, _ => ⟨[], by simp [given], fun a z => (nomatch z), Nat.le_refl _⟩
  | n + 1, hn => by
    obtain ⟨ns, h1, h2, h3⟩ := tils_given hb n (by omega)
    have hr : rows[n]? = some rows[n] := List.getElem?_eq_getElem (by omega)
    generalize rows[n] = r at hr
    have hbr := (hb r (List.mem_of_getElem? hr)).2
    cases ht : r.til with
    | none =>
      refine ⟨ns, ?_, h2, by omega⟩
      rw [given_no (by rw [hr, Option.map_some, ht]; simp [oV]), h1]
    | some t =>
      refine ⟨ns ++ [t], ?_, fun a ha => ?_, by simp; omega⟩
      · rw [given_yes (by rw [hr, Option.map_some, ht]; simp [oV]), h1, hr, Option.map_some, ht, List.map_append]
        rfl
      · rcases List.mem_append.mp ha with z | z
        · exact h2 a z
        · have := hbr t ht
          rw [List.mem_singleton.mp z]
          unfold ages_ok
          omega
def spLaw (K : PySem.W.Frag) : Sp := fun vs H Q _ => ∃ (a : Addr) (ns : List Int), vs = [.ref a] ∧ SqL K H a (ns.map V.int) ∧ ns.length ≤ 1000 ∧ ∀ H', Q (.bl true) H'
section
variable {P : Program} {w : World} {K : PySem.W.Frag} {mg : Str → Option Value} {base : Heap} {cR cS cW : Addr}
theorem ok_law {f : Addr} {fd : FuncData} (F : Fn K "law" "law" s_law f fd) (T : Tx K mg cR cS cW) (B : Bn mg) (c1 : Cal P w K mg base CX0 1 "_law_pen" ["_law_script"] (spPen K)) (c2 : Cal P w K mg base CX0 4 "_law_rows" ["_law_pen_here", "_law_most", "_law_words"] spRows)
    (c3 : Cal P w K mg base CX0 2 "_law_pick" ["_law_pen_here", "_law_items"] spPick) (c4 : Cal P w K mg base CX0 1 "_law_times" ["_law_rows_here", "_law_factor"] spTimes) (c5 : Cal P w K mg base CX0 7 "_law_made" ["_law_rows_here"] (spMade cR cS cW))
    (c6 : Cal P w K mg base CX0 6 "_law_is_stretch_right" ["_law_wording", "_law_rows_here", "_law_age"] (spStR cR cS cW)) (c7 : Cal P w K mg base CX0 1 "_law_draw" ["_law_pen_here", "_law_many"] spDraw) (c8 : Cal P w K mg base CX0 7 "_law_is_run_right" ["_law_wording", "_law_age"] (spRunR cR cS cW))
    (m1 : Met P w K mg base CX0 6 cW "edges" ["self", "low", "high"] (spEdges cR cS cW)) (m2 : Met P w K mg base CX0 5 cW "returns" ["self"] (spReturns cR cS cW)) (m3 : Met P w K mg base CX0 4 cW "label" ["self", "age"] (spLabel cR cS cW)) :
    FnOk P w K mg base CX0 8 f fd ["_law_script"] (spLaw K) := by
  obtain ⟨f1, fd1, G__law_pen, m__law_pen, k__law_pen, b__law_pen⟩ := c1.ex
  obtain ⟨f2, fd2, G__law_rows, m__law_rows, k__law_rows, b__law_rows⟩ := c2.ex
  obtain ⟨f3, fd3, G__law_pick, m__law_pick, k__law_pick, b__law_pick⟩ := c3.ex
  obtain ⟨f4, fd4, G__law_times, m__law_times, k__law_times, b__law_times⟩ := c4.ex
  obtain ⟨f5, fd5, G__law_made, m__law_made, k__law_made, b__law_made⟩ := c5.ex
  obtain ⟨f6, fd6, G__law_is_stretch_right, m__law_is_stretch_right, k__law_is_stretch_right, b__law_is_stretch_right⟩ := c6.ex
  obtain ⟨f7, fd7, G__law_draw, m__law_draw, k__law_draw, b__law_draw⟩ := c7.ex
  obtain ⟨f8, fd8, G__law_is_run_right, m__law_is_run_right, k__law_is_run_right, b__law_is_run_right⟩ := c8.ex
  obtain ⟨f9, fd9, G_Wording_edges, M_Wording_edges, b_Wording_edges⟩ := m1.ex
  obtain ⟨f10, fd10, G_Wording_returns, M_Wording_returns, b_Wording_returns⟩ := m2.ex
  obtain ⟨f11, fd11, G_Wording_label, M_Wording_label, b_Wording_label⟩ := m3.ex
  refine F.ok sc_law (fun vs H Q E h => ?_) (fun cdv A outer s H vs Q E hr h => ?_)
  · obtain ⟨a, ns, rfl, _⟩ := h; rfl
  · obtain ⟨a, ns, rfl, hS, hns, k⟩ := h
    refine ⟨_, PSs.nox (pss_cons (ps_set (i := 1) sc_law.nd rfl (Or.inl rfl) (pe_call G__law_pen (hr.mono (by decide)) rfl m__law_pen k__law_pen b__law_pen .nil pass0 (pa_cons (pv 0) pa_nil))) (pss_cons (ps_for PassesOwn.never rfl (pi_range1 rfl B.range (pa_cons (pe_op op_add pe_int (pe_callB (call_min2 rfl) (by rfl) B.min (by decide +kernel) (pa_cons pe_int (pa_cons (pe_callB call_len_seq (by rfl) B.len (by decide +kernel) (pa_cons (pv 0) pa_nil)) pa_nil)))) pa_nil)) (pg_name (i := 2) sc_law.nd rfl (Or.inl rfl)) (pss_cons (ps_set (i := 3) sc_law.nd rfl (Or.inl rfl) (pe_call G__law_times (hr.mono (by decide)) rfl m__law_times k__law_times b__law_times .nil pass0 (pa_cons (pe_call G__law_rows (hr.mono (by decide)) rfl m__law_rows k__law_rows b__law_rows .nil pass0 (pa_cons (pv 1) (pa_cons pe_int (pa_cons (pe_lst pa_nil) pa_nil)))) (pa_cons (pe_call G__law_pick (hr.mono (by decide)) rfl m__law_pick k__law_pick b__law_pick .nil pass0 (pa_cons (pv 1) (pa_cons (pe_lst (pa_cons pe_int (pa_cons pe_int (pa_cons pe_int (pa_cons (pe_op op_pow pe_int pe_int) pa_nil))))) pa_nil))) pa_nil)))) (pss_cons (ps_set (i := 4) sc_law.nd rfl (Or.inl rfl) (pe_call G__law_made (hr.mono (by decide)) rfl m__law_made k__law_made b__law_made .nil pass0 (pa_cons (pv 3) pa_nil))) (pss_cons (ps_if (pt_cmp (pc_notN (pe_meth0 (pv 4) T.wording M_Wording_returns G_Wording_returns (hr.mono (by decide)) b_Wording_returns .nil pass0))) (pss_one (ps_ret pe_bl)) pss_nil) (pss_cons (ps_set (i := 5) sc_law.nd rfl (Or.inl rfl) (pe_lst (pa_cons (pe_call G__law_draw (hr.mono (by decide)) rfl m__law_draw k__law_draw b__law_draw .nil pass0 (pa_cons (pv 1) (pa_cons pe_int pa_nil))) (pa_cons (pe_op op_mulW (pe_call G__law_draw (hr.mono (by decide)) rfl m__law_draw k__law_draw b__law_draw .nil pass0 (pa_cons (pv 1) (pa_cons pe_int pa_nil))) (pe_op op_pow pe_int pe_int)) (pa_cons (pe_op op_add (pe_op op_pow pe_int pe_int) (pe_call G__law_draw (hr.mono (by decide)) rfl m__law_draw k__law_draw b__law_draw .nil pass0 (pa_cons (pv 1) (pa_cons (pe_op op_pow pe_int pe_int) pa_nil)))) pa_nil))))) (pss_cons (ps_set (i := 5) sc_law.nd rfl (Or.inl rfl) (pe_op op_cat (pv 5) (pe_lc (own := [("_law_until", 8), ("_law_unit", 9), ("_law_way_here", 10), ("_law_word", 11)]) rfl sc_law.nd (pi_list (pv 3)) (blkOk_by (own := [("_law_until", 8), ("_law_unit", 9), ("_law_way_here", 10), ("_law_word", 11)]) (N := ["_law_script", "_law_pen_here", "_law_turn", "_law_rows_here", "_law_wording", "_law_asked", "_law_age", "_law_other", "_law_until", "_law_unit", "_law_way_here", "_law_word"]) (sc := defScope s_law) (by decide +kernel)) (fun _ _ _ _ _ => by exact (pg_tupK (K := K) (n := 4) (by rfl) rfl (pgs_cons (pg_name (i := 8) sc_law.nd rfl (Or.inl rfl)) (pgs_cons (pg_name (i := 9) sc_law.nd rfl (Or.inl rfl)) (pgs_cons (pg_name (i := 10) sc_law.nd rfl (Or.inl rfl)) (pgs_cons (pg_name (i := 11) sc_law.nd rfl (Or.inl rfl)) pgs_nil)))))) (fun _ _ _ _ _ => by exact (pts_one (pt_cmp (pc_notN (pv 8))))) (fun _ _ _ _ _ => by exact (pv 8))))) (pss_one (ps_for PassesOwn.never rfl (pi_list (pv 5)) (pg_name (i := 6) sc_law.nd rfl (Or.inl rfl)) (pss_cons (ps_if (PW.pt (pw_or (pt_not (pt_val (pe_call G__law_is_stretch_right (hr.mono (by decide)) rfl m__law_is_stretch_right k__law_is_stretch_right b__law_is_stretch_right .nil pass0 (pa_cons (pv 4) (pa_cons (pv 3) (pa_cons (pv 6) pa_nil)))))) (pw_or1 (pt_not (pt_val (pe_call G__law_is_run_right (hr.mono (by decide)) rfl m__law_is_run_right k__law_is_run_right b__law_is_run_right .nil pass0 (pa_cons (pv 4) (pa_cons (pv 6) pa_nil)))))))) (pss_one (ps_ret pe_bl)) pss_nil) (pss_cons (ps_set (i := 7) sc_law.nd rfl (Or.inl rfl) (pe_op op_add (pv 6) (pe_call G__law_pick (hr.mono (by decide)) rfl m__law_pick k__law_pick b__law_pick .nil pass0 (pa_cons (pv 1) (pa_cons (pe_lst (pa_cons (pe_call G__law_draw (hr.mono (by decide)) rfl m__law_draw k__law_draw b__law_draw .nil pass0 (pa_cons (pv 1) (pa_cons pe_int pa_nil))) (pa_cons (pe_op op_mulW (pe_call G__law_draw (hr.mono (by decide)) rfl m__law_draw k__law_draw b__law_draw .nil pass0 (pa_cons (pv 1) (pa_cons (pe_op op_pow pe_int pe_int) pa_nil))) (pe_op op_pow pe_int pe_int)) pa_nil))) pa_nil))))) (pss_one (ps_if (pt_cmpR op_ne (pe_cmpR (op_eqD hr.units) (pe_meth (pv 4) T.wording M_Wording_label G_Wording_label (hr.mono (by decide)) b_Wording_label .nil pass0 (pa_cons (pv 6) pa_nil)) (pe_meth (pv 4) T.wording M_Wording_label G_Wording_label (hr.mono (by decide)) b_Wording_label .nil pass0 (pa_cons (pv 7) pa_nil)) (nomark _)) (pe_cmpR op_eq (pe_meth (pv 4) T.wording M_Wording_edges G_Wording_edges (hr.mono (by decide)) b_Wording_edges .nil pass0 (pa_cons (pv 6) (pa_cons (pv 7) pa_nil))) pe_int (nomark _)) (nomark _)) (pss_one (ps_ret pe_bl)) pss_nil)))))))))))) (pss_one (ps_ret pe_bl)))), ?_⟩
    refine ⟨_, rfl, a, ns, rfl, hS, fun p c H1 hp0 hc0 e1 hP1 => ?_⟩
    have hS1 : SqL K H1 a (ns.map V.int) := ex_l (e1.trans wo_sub) hS
    show tSeq _ _ _ [some (.ref a), some (.ref p), none, none, none, none, none, none, none, none, none, none] H1
    refine q_forR1 (n := 4 + (if ((ns.map V.int).length : Int) < 6 then ((ns.map V.int).length : Int) else 6)) (ea_cons (ev_op ev_c (ev_min2 ev_c (ev_len (ev_var rfl) hS1)) rv_addI) ea_nil) (by split <;> omega)
      (fun i σ H' => ∃ v2 v3 v4 v5 v6 v7 v8 v9 v10 v11, σ = [some (.ref a), some (.ref p), v2, v3, v4, v5, v6, v7, v8, v9, v10, v11] ∧ PenAt H' p c (300 * i))
      (fun H2 e2 => ⟨none, none, none, none, none, none, none, none, none, none, rfl, (hP1.mono e2).le (by omega)⟩) ?_ ?_
    · rintro i σ' H' hi ⟨v2, v3, v4, v5, v6, v7, v8, v9, v10, v11, rfl, hPi⟩
      have hi10 : (i : Int) ≤ 10 := by
        have : (i : Int) < 4 + (if ((ns.map V.int).length : Int) < 6 then ((ns.map V.int).length : Int) else 6) := hi
        split at this <;> omega
      show tSeq (tAsg _ _) _ _ [some (.ref a), some (.ref p), some (.int (i : Int)), v3, v4, v5, v6, v7, v8, v9, v10, v11] H'
      -- the rows
      refine ⟨_, rfl, by show 0 ≤ sizeLine; decide, fun wl hwl => ?_⟩
      have ew : Ex H' (upd H' wl (.lst [])) := Ex.new hwl
      refine ⟨p, c, wl, 6, 300 * i, [], rfl, hPi.mono ew, by unfold Big; omega, by decide, by decide, upd_same, by decide, fun s hs => (nomatch hs), fun l1 xs rows HF PF _ hl1 hDR hDw => ?_⟩
      refine ⟨_, rfl, el_lst (vs := [.int 1, .int 1, .int 7, .int (10 ^ (20 : Int).toNat)]) (ea_cons ev_c (ea_cons ev_c (ea_cons ev_c (ea_cons (ev_op ev_c ev_c (rv_I ⟨by decide, by decide, by decide⟩)) ea_nil)))) (by show 4 ≤ 100000; decide) HF (Ex.refl _) _ fun lf HG hlf eG hG => ?_⟩
      have hPG : PenAt HG p c (300 * i + 200) := PF.2.mono eG
      refine ⟨p, c, lf, _, _, rfl, hPG, hG, by simp, by show 4 ≤ 1000; decide, by unfold Big; omega, fun j v HI hj PI_ => ?_⟩
      obtain ⟨fc, rfl, hfc⟩ : ∃ fc : Int, v = .int fc ∧ FacI fc := by
        match j, hj with
        | 0, hv => cases hv; exact ⟨1, rfl, Or.inl rfl⟩
        | 1, hv => cases hv; exact ⟨1, rfl, Or.inl rfl⟩
        | 2, hv => cases hv; exact ⟨7, rfl, Or.inr (Or.inl rfl)⟩
        | 3, hv => cases hv; exact ⟨_, rfl, Or.inr (Or.inr (by decide +kernel))⟩
        | j + 4, hv => cases hv
      have hDI : DRows HI xs rows := (hDR.mono eG).pw hPG PI_
      have hlI : HI l1 = some (.lst xs) := PI_.get hPG (eG _ _ hl1) (by intro z; simp)
      refine ⟨l1, xs, rows, fc, rfl, hlI, hDI, rowB_drawn hDw, hfc.sm, by have := hDw.n; omega, fun l2 xs2 HJ _ eJ hl2 hDJ => ?_⟩
      have ok := rows_times hfc hDw (by decide) (fun s hs => (nomatch hs))
      have hbn := bnd_times hfc hDw
      have hst := steady_of ok (runs_times (f := fc) (steps_runs (hDw.s rfl)))
      have hrl : (rows.map (timesR fc)).length ≤ 6 := by rw [List.length_map]; have := hDw.n; omega
      generalize rows.map (timesR fc) = R at ok hbn hst hDJ hrl
      dsimp only [gName]
      show tSeq (tAsg _ _) _ _ [some (.ref a), some (.ref p), some (.int (i : Int)), some (.ref l2), v4, v5, v6, v7, v8, v9, v10, v11] HJ
      refine ⟨_, rfl, l2, xs2, R, rfl, hl2, hDJ, ok, fun wp HK _ eK hW => ?_⟩
      have hPK := PI_.2.mono (eJ.trans eK)
      have hLK : LRows HK l2 R := ⟨xs2, eK _ _ hl2, hDJ.mono eK⟩
      dsimp only [gName]
      show tSeq (tIfS _ _ _) _ _ [some (.ref a), some (.ref p), some (.int (i : Int)), some (.ref l2), some (.ref wp), v5, v6, v7, v8, v9, v10, v11] HK
      obtain ⟨Fit0, hc0⟩ := ok.fit
      have hrn := returns_none hc0 Fit0 hst
      obtain ⟨dx, ta, tb, _, _, hwp, _⟩ := id hW
      have x0 := ev_meth (m := "returns") (E := E0) (dvs := []) (σ := [some (.ref a), some (.ref p), some (.int (i : Int)), some (.ref l2), some (.ref wp), v5, v6, v7, v8, v9, v10, v11]) (ta := tVar 4) (ev_var rfl) hwp rfl ea_nil (spv_returns hW ok)
      rw [hrn] at x0
      refine q_when (et_B (ev_notN (x := .non) x0)) (fun hb => Bool.noConfusion hb) (fun _ HL eL => ?_)
      have hPL := hPK.mono eL
      -- three ages
      show tSeq (tAsg _ _) _ _ [some (.ref a), some (.ref p), some (.int (i : Int)), some (.ref l2), some (.ref wp), v5, v6, v7, v8, v9, v10, v11] HL
      have p20 : (10 : Int) ^ (20 : Int).toNat = 100000000000000000000 := by decide +kernel
      have p29 : (10 : Int) ^ (29 : Int).toNat = 100000000000000000000000000000 := by decide +kernel
      have p9 : (10 : Int) ^ (9 : Int).toNat = 1000000000 := by decide +kernel
      refine ⟨_, rfl, p, c, 600, _, rfl, hPL, by decide, by unfold Sm; omega, by unfold Big; omega, fun a1 HM a10 a11 PM => ⟨_, rfl, p, c, 600, _, rfl, PM.2, by decide, by unfold Sm; omega, by unfold Big; omega, fun a2 HN a20 a21 PN => ⟨_, _, rfl, rfl, ⟨by decide, by decide, by decide⟩, _, _, rfl, rfl, ?_, _, _, rfl, rfl, ⟨by decide, by decide, by decide⟩, _, rfl, _, _, rfl, rfl, ⟨by decide, by decide, by decide⟩, p, c, _, _, rfl, PN.2, by decide +kernel, by unfold Sm; decide +kernel, by unfold Big; omega, fun a3 HO a30 a31 PO => ⟨_, _, rfl, rfl, by show 3 ≤ sizeLine; decide, fun la hla => ?_⟩⟩⟩⟩
      · exact Sm.mul (by unfold Sm; omega) (by rw [p20]; unfold Sm; decide)
      have hWO := (((hW.mono eL).pw hPL PM).pw PM.2 PN).pw PN.2 PO
      have hLO := (((hLK.mono eL).pw hPL PM).pw PM.2 PN).pw PN.2 PO
      have e8 : Ex HO (upd HO la (.lst [.int a1, .int (a2 * 10 ^ (20 : Int).toNat), .int (10 ^ (29 : Int).toNat + a3)])) := Ex.new hla
      have h8 : upd HO la (.lst [.int a1, .int (a2 * 10 ^ (20 : Int).toNat), .int (10 ^ (29 : Int).toNat + a3)]) la = some (.lst [.int a1, .int (a2 * 10 ^ (20 : Int).toNat), .int (10 ^ (29 : Int).toNat + a3)]) := upd_same
      dsimp only [gName]
      rw [show (upd HO la (.lst [.int a1, (fun i j => V.int (i * j)) a2 (10 ^ (20 : Int).toNat), (fun i j => V.int (i + j)) (10 ^ (29 : Int).toNat) a3])) = upd HO la (.lst [.int a1, .int (a2 * 10 ^ (20 : Int).toNat), .int (10 ^ (29 : Int).toNat + a3)]) from rfl]
      generalize upd HO la (.lst [.int a1, .int (a2 * 10 ^ (20 : Int).toNat), .int (10 ^ (29 : Int).toNat + a3)]) = HP at e8 h8 ⊢
      have hP8 := PO.2.mono e8
      have hW8 := hWO.mono e8
      have hL8 := hLO.mono e8
      obtain ⟨xs8, hl8, hD8⟩ := hL8.ex
      have hx8 := hD8.len
      show tSeq (tAsg _ _) _ _ [some (.ref a), some (.ref p), some (.int (i : Int)), some (.ref l2), some (.ref wp), some (.ref la), v6, v7, v8, v9, v10, v11] HP
      obtain ⟨ts, hts, htok, htl⟩ := tils_given hbn R.length (Nat.le_refl _)
      have hlc := el_lcG (K := K) (σ := [some (.ref a), some (.ref p), some (.int (i : Int)), some (.ref l2), some (.ref wp), some (.ref la), v6, v7, v8, v9, v10, v11]) (H := HP) (xs := xs8) (a := l2) (tl := tVar 3) (vs := [8, 9, 10, 11]) (g := gTup K 4 (gCons (gName 8) (gCons (gName 9) (gCons (gName 10) (gCons (gName 11) gNil))))) (t := tB (tNotN (tVar 8))) (te := tVar 8)
        (fun i => !decide ((((R[i]?).map fun r => oV r.til).getD .non) = .non)) (fun i => ((R[i]?).map fun r => oV r.til).getD .non) (ev_var rfl) (sq_of hl8) (by omega) (fun j x M e hx => by
          obtain ⟨r, hri, t, rfl, ht⟩ := (hD8.mono e).get hx
          refine ⟨[some (.ref a), some (.ref p), some (.int (i : Int)), some (.ref l2), some (.ref wp), some (.ref la), v6, v7, some (oV r.til), some (oV r.unit), some (.str r.way), some (.str r.word)], rfl, fun H1 kk e1 hk => ⟨t, _, rfl, st_of (e1 _ _ ht), rfl, _, _, rfl, _, _, rfl, _, _, rfl, _, _, rfl, rfl, hk⟩, ?_, fun _ => ?_⟩
          · rw [hri, Option.map_some]
            exact et_B (ev_notN (ev_var rfl))
          · rw [hri, Option.map_some]
            exact ev_var rfl)
      rw [hx8, hts] at hlc
      refine ⟨_, rfl, hlc HP (Ex.refl _) _ fun lt HQ hlt eQ hQ => ⟨la, lt, _, _, rfl, rfl, eQ _ _ h8, hQ, by rw [List.length_map, sizeLine_eq]; show 3 + _ ≤ _; omega, fun lq hlq => ?_⟩⟩
      have e9 : Ex HQ (upd HQ lq (.lst ([.int a1, .int (a2 * 10 ^ (20 : Int).toNat), .int (10 ^ (29 : Int).toNat + a3)] ++ ts.map V.int))) := Ex.new hlq
      have h9 : upd HQ lq (.lst ([.int a1, .int (a2 * 10 ^ (20 : Int).toNat), .int (10 ^ (29 : Int).toNat + a3)] ++ ts.map V.int)) lq = some (.lst (([a1, a2 * 10 ^ (20 : Int).toNat, 10 ^ (29 : Int).toNat + a3] ++ ts).map V.int)) := upd_same
      have hage : ∀ x ∈ [a1, a2 * 10 ^ (20 : Int).toNat, 10 ^ (29 : Int).toNat + a3] ++ ts, ages_ok x := fun x hx => by
        rw [p20, p29] at hx
        rw [p9] at a31
        rcases List.mem_append.mp hx with z | z
        · simp only [List.mem_cons, List.not_mem_nil, or_false] at z
          unfold ages_ok
          rcases z with z | z | z <;> subst z <;> omega
        · exact htok x z
      have hall : ([a1, a2 * 10 ^ (20 : Int).toNat, 10 ^ (29 : Int).toNat + a3] ++ ts).length ≤ 9 := by
        rw [List.length_append]; show 3 + _ ≤ _; omega
      generalize [a1, a2 * 10 ^ (20 : Int).toNat, 10 ^ (29 : Int).toNat + a3] ++ ts = as at h9 hage hall
      dsimp only [gName]
      generalize upd HQ lq (.lst ([.int a1, .int (a2 * 10 ^ (20 : Int).toNat), .int (10 ^ (29 : Int).toNat + a3)] ++ ts.map V.int)) = HR at e9 h9 ⊢
      have hP9 := hP8.mono (eQ.trans e9)
      have hW9 := hW8.mono (eQ.trans e9)
      have hL9 := hL8.mono (eQ.trans e9)
      show tFor _ _ _ _ [some (.ref a), some (.ref p), some (.int (i : Int)), some (.ref l2), some (.ref wp), some (.ref lq), v6, v7, v8, v9, v10, v11] HR
      refine s_forLn (K := K) (xs := as.map V.int) (a := lq) (ev_var rfl) (sq_of h9) (fun j σ HS => ∃ w6 w7, σ = [some (.ref a), some (.ref p), some (.int (i : Int)), some (.ref l2), some (.ref wp), some (.ref lq), w6, w7, v8, v9, v10, v11] ∧ PenAt HS p c (300 * i + 210 + 5 * j) ∧ WordAt cR cS cW HS wp R ∧ LRows HS l2 R ∧ HS lq = some (.lst (as.map V.int)))
        (fun HS eS => ⟨v6, v7, rfl, (hP9.mono eS).le (by omega), hW9.mono eS, hL9.mono eS, eS _ _ h9⟩) (fun j σ' HS _ h => by obtain ⟨_, _, _, _, _, _, h⟩ := h; exact sq_of h) ?_ ?_
      · rintro j x σ' HS hx ⟨w6, w7, rfl, hPS, hWS, hLS, hqS⟩
        rw [List.getElem?_map] at hx
        obtain ⟨age, hag, rfl⟩ := Option.map_eq_some_iff.mp hx
        have hjl := (List.getElem?_eq_some_iff.mp hag).1
        have hok := hage age (List.mem_of_getElem? hag)
        have agA : Ag age := by unfold ages_ok at hok; unfold Ag; omega
        show tSeq (tIfS _ _ _) _ _ [some (.ref a), some (.ref p), some (.int (i : Int)), some (.ref l2), some (.ref wp), some (.ref lq), some (.int age), w7, v8, v9, v10, v11] HS
        refine q_when (et_or (et_not (et_B (ev_call (ea_cons (ev_var rfl) (ea_cons (ev_var rfl) (ea_cons (ev_var rfl) ea_nil))) (spv_stR hWS hLS ok hst agA)))) (fun _ => et_not (et_B (ev_call (ea_cons (ev_var rfl) (ea_cons (ev_var rfl) ea_nil)) (spv_runR hWS ok hbn hok.1 (by unfold ages_ok at hok; omega)))))) (fun hb => Bool.noConfusion hb) (fun _ HT eT => ?_)
        have hPT := hPS.mono eT
        show tSeq (tAsg _ _) _ _ [some (.ref a), some (.ref p), some (.int (i : Int)), some (.ref l2), some (.ref wp), some (.ref lq), some (.int age), w7, v8, v9, v10, v11] HT
        have p6 : (10 : Int) ^ (6 : Int).toNat = 1000000 := by decide +kernel
        have p18 : (10 : Int) ^ (18 : Int).toNat = 1000000000000000000 := by decide +kernel
        refine ⟨_, rfl, _, rfl, _, rfl, p, c, 50, _, rfl, hPT, by decide, by unfold Sm; omega, by unfold Big; omega, fun d1 HU d10 d11 PU => ⟨_, rfl, _, _, rfl, rfl, ⟨by decide, by decide, by decide⟩, p, c, _, _, rfl, PU.2, by decide +kernel, by unfold Sm; decide +kernel, by unfold Big; omega, fun d2 HV d20 d21 PV => ⟨_, _, rfl, rfl, ⟨by decide, by decide, by decide⟩, _, _, rfl, rfl, ?_, by show 2 ≤ sizeLine; decide, fun lx hlx => ?_⟩⟩⟩
        · rw [p6] at d21
          exact Sm.mul (by unfold Sm; omega) (by rw [p18]; unfold Sm; decide)
        have eX : Ex HV (upd HV lx (.lst [.int d1, .int (d2 * 10 ^ (18 : Int).toNat)])) := Ex.new hlx
        refine ⟨p, c, lx, [.int d1, .int (d2 * 10 ^ (18 : Int).toNat)], _, rfl, PV.2.mono eX, upd_same, by simp, by show 2 ≤ 1000; decide, by unfold Big; omega, fun jj v HW hv PW => ?_⟩
        obtain ⟨d, rfl, hd0, hd1⟩ : ∃ d : Int, v = .int d ∧ 0 ≤ d ∧ d ≤ 1000000000000000000000000 := by
          rw [p6] at d21
          rw [p18] at hv
          match jj, hv with
          | 0, hv => cases hv; exact ⟨d1, rfl, d10, by omega⟩
          | 1, hv => cases hv; exact ⟨_, rfl, by omega, by omega⟩
          | jj + 2, hv => cases hv
        refine ⟨_, _, rfl, rfl, ?_⟩
        have hWW := (((hWS.mono eT).pw hPT PU).pw PU.2 PV).mono eX |>.pw (PV.2.mono eX) PW
        have hLW := (((hLS.mono eT).pw hPT PU).pw PU.2 PV).mono eX |>.pw (PV.2.mono eX) PW
        have hqW : HW lq = some (.lst (as.map V.int)) := PW.get (PV.2.mono eX) (eX _ _ (PV.get PU.2 (PU.get hPT (eT _ _ hqS) (by intro z; simp)) (by intro z; simp))) (by intro z; simp)
        dsimp only [gName]
        show tIfS _ _ _ _ [some (.ref a), some (.ref p), some (.int (i : Int)), some (.ref l2), some (.ref wp), some (.ref lq), some (.int age), some (.int (age + d)), v8, v9, v10, v11] HW
        have hos : 0 ≤ age + d := by unfold ages_ok at hok; omega
        have agO : Ag (age + d) := by unfold ages_ok at hok; unfold Ag; omega
        have hsame := same_iff ok hst hok.1 (show age ≤ age + d by omega)
        generalize age + d = oth at hos agO hsame ⊢
        obtain ⟨dy, tc, td, _, _, hwq, _⟩ := id hWW
        have z1 := ev_two (K := K) (σ := [some (.ref a), some (.ref p), some (.int (i : Int)), some (.ref l2), some (.ref wp), some (.ref lq), some (.int age), some (.int oth), v8, v9, v10, v11]) (ta := tVar 4) hWW ok (ev_var rfl) (x := age) (y := oth) hok.1 hos (ev_var (i := 6) rfl) (ev_var (i := 7) rfl)
        have z2 := ev_meth (m := "edges") (E := E0) (dvs := []) (σ := [some (.ref a), some (.ref p), some (.int (i : Int)), some (.ref l2), some (.ref wp), some (.ref lq), some (.int age), some (.int oth), v8, v9, v10, v11]) (ta := tVar 4) (ev_var rfl) hwq rfl (ea_cons (ev_var (i := 6) rfl) (ea_cons (ev_var (i := 7) rfl) ea_nil)) (spv_edges hWW ok agA agO)
        have z3 := et_test (ev_op z1 (ev_op z2 (ev_c (v := .int 0)) (rv_eq rfl)) (rv_ne rfl))
        have hdec : decide (labelOf R age = labelOf R oth) = decide (V.int (numE (spansFrom 0 none R) oth - numE (spansFrom 0 none R) age) = V.int 0) := decide_eq_decide.mpr (hsame.trans ⟨fun q => by rw [q], fun q => V.int.inj q⟩)
        rw [hdec] at z3
        simp only [decide_true, Bool.not_true] at z3
        refine s_when z3 (fun hb => Bool.noConfusion hb) (fun _ HX eX2 => ?_)
        exact ⟨_, _, rfl, (PW.2.mono eX2).le (by omega), hWW.mono eX2, hLW.mono eX2, eX2 _ _ hqW⟩
      · rintro σ' HS ⟨w6, w7, rfl, hPS, _⟩
        have hl9 : (as.map V.int).length ≤ 9 := by rw [List.length_map]; exact hall
        exact ⟨_, _, _, _, _, _, _, _, _, _, rfl, hPS.le (by omega)⟩
    · rintro σ' H' ⟨v2, v3, v4, v5, v6, v7, v8, v9, v10, v11, rfl, hPi⟩
      exact k H'
end
end Age

set_option Elab.async false
set_option linter.all false
set_option maxRecDepth 100000
set_option maxHeartbeats 0
namespace Age
open PySem PySem.Spec PyProof.Rows L2
/-! ### the head: where each def stands, what the module's names are -/
def dd (p : Str × Option Str) (x q : Str) (st : Stmt) : He.DefD := ⟨p, x, q, defArgs st, defBody st, defScope st, [], []⟩
def fn : List He.DefD := [dd ("_law_pen", none) "_law_pen" "_law_pen" s__law_pen,
  dd ("_law_draw", none) "_law_draw" "_law_draw" s__law_draw,
  dd ("_law_pick", none) "_law_pick" "_law_pick" s__law_pick,
  dd ("_law_number", none) "_law_number" "_law_number" s__law_number,
  dd ("_law_way", none) "_law_way" "_law_way" s__law_way,
  dd ("_law_rows", none) "_law_rows" "_law_rows" s__law_rows,
  dd ("_law_times", none) "_law_times" "_law_times" s__law_times,
  dd ("Row", some "__init__") "__init__" "Row.__init__" s_Row_init,
  dd ("check_untils", none) "check_untils" "check_untils" s_check_untils,
  dd ("shift_of", none) "shift_of" "shift_of" s_shift_of,
  dd ("counted", none) "counted" "counted" s_counted,
  dd ("count_in", none) "count_in" "count_in" s_count_in,
  dd ("Span", some "__init__") "__init__" "Span.__init__" s_Span_init,
  dd ("spans_of", none) "spans_of" "spans_of" s_spans_of,
  dd ("Wording", some "__init__") "__init__" "Wording.__init__" s_Wording_init,
  dd ("_law_made", none) "_law_made" "_law_made" s__law_made,
  dd ("_law_row_of", none) "_law_row_of" "_law_row_of" s__law_row_of,
  dd ("_law_count", none) "_law_count" "_law_count" s__law_count,
  dd ("_law_label", none) "_law_label" "_law_label" s__law_label,
  dd ("_law_last_within", none) "_law_last_within" "_law_last_within" s__law_last_within,
  dd ("_law_last", none) "_law_last" "_law_last" s__law_last,
  dd ("_law_first_other", none) "_law_first_other" "_law_first_other" s__law_first_other,
  dd ("_law_later", none) "_law_later" "_law_later" s__law_later,
  dd ("demand_age", none) "demand_age" "demand_age" s_demand_age,
  dd ("row_of", none) "row_of" "row_of" s_row_of,
  dd ("Wording", some "label") "label" "Wording.label" s_Wording_label,
  dd ("joined", none) "joined" "joined" s_joined,
  dd ("first_with", none) "first_with" "first_with" s_first_with,
  dd ("Span", some "limited") "limited" "Span.limited" s_Span_limited,
  dd ("Span", some "stretch_with") "stretch_with" "Span.stretch_with" s_Span_stretch_with,
  dd ("Wording", some "ages") "ages" "Wording.ages" s_Wording_ages,
  dd ("Span", some "edge_after") "edge_after" "Span.edge_after" s_Span_edge_after,
  dd ("Wording", some "later_edge") "later_edge" "Wording.later_edge" s_Wording_later_edge,
  dd ("Span", some "last_edge_until") "last_edge_until" "Span.last_edge_until" s_Span_last_edge_until,
  dd ("Wording", some "last_edge") "last_edge" "Wording.last_edge" s_Wording_last_edge,
  dd ("_law_is_stretch_right", none) "_law_is_stretch_right" "_law_is_stretch_right" s__law_is_stretch_right,
  dd ("Span", some "number_until") "number_until" "Span.number_until" s_Span_number_until,
  dd ("number_of_edges", none) "number_of_edges" "number_of_edges" s_number_of_edges,
  dd ("Wording", some "edges") "edges" "Wording.edges" s_Wording_edges,
  dd ("_law_is_run_right", none) "_law_is_run_right" "_law_is_run_right" s__law_is_run_right,
  dd ("Span", some "edge_shared") "edge_shared" "Span.edge_shared" s_Span_edge_shared,
  dd ("Wording", some "returns") "returns" "Wording.returns" s_Wording_returns,
  dd ("law", none) "law" "law" s_law]
def fa : List He.Fa := [.glo "_law_pen", .glo "_law_draw", .glo "_law_pick", .glo "_law_number", .glo "_law_way", .glo "_law_rows", .glo "_law_times", .glo "check_untils", .glo "shift_of", .glo "counted", .glo "count_in", .glo "spans_of", .glo "_law_made", .glo "_law_row_of", .glo "_law_count", .glo "_law_label", .glo "_law_last_within", .glo "_law_last", .glo "_law_first_other", .glo "_law_later", .glo "demand_age", .glo "row_of", .glo "joined", .glo "first_with", .glo "_law_is_stretch_right", .glo "number_of_edges", .glo "_law_is_run_right", .glo "law", .glo "Row", .cls "Row", .glo "Span", .cls "Span", .glo "Wording", .cls "Wording", .noat "Row" "until", .noat "Row" "unit", .noat "Row" "way", .noat "Row" "word", .noat "Span" "low", .noat "Span" "high", .noat "Span" "row", .noat "Span" "is_fresh", .noat "Wording" "rows", .noat "Wording" "spans", .free "len", .free "list", .free "tuple", .free "int", .free "min", .free "max", .free "sum", .free "range", .free "enumerate", .free "reversed", .free "sorted", .free "str", .free "all", .free "isinstance", .free "zip", .mkr "Row", .mkr "Span", .mkr "Wording", .meth "Wording" "label", .meth "Span" "limited", .meth "Span" "stretch_with", .meth "Wording" "ages", .meth "Span" "edge_after", .meth "Wording" "later_edge", .meth "Span" "last_edge_until", .meth "Wording" "last_edge", .meth "Span" "number_until", .meth "Wording" "edges", .meth "Span" "edge_shared", .meth "Wording" "returns"]
abbrev R : PySem.W.OpenRow := PySem.W.OpenLaw.row PySem.Challenge.rw_agewords_k14_whole_steady_wordings
abbrev hk : PySem.W.Hook := He.hookD 5 fa fn
def ob (s : PySem.W.SharedT) : He.AlD := He.obsDG 5 fa fn (HandSHeadRun.getT s)
theorem ob_eq (s : PySem.W.SharedT) : ob s = hk.obs s.abs := He.obsDG_eq (HandSHeadRun.getT_eq s)
def names : List PySem.Str := (["AgeError", "BadRow", "BadText", "BadAge", "shift_of", "counted", "first_with", "WAYS", "DIGITS", "LETTERS", "MOST_DIGITS", "MOST_LETTERS", "MOST_ROWS", "CHUNK_DIGITS", "CHUNK", "decimal", "number_or_dash", "row_line", "made_of", "is_number"] : List PySem.Str) ++ (["is_row", "value_of", "until_fits", "read_rows", "Row", "Span", "Wording", "demand_age", "check_untils", "row_of", "count_in", "spans_of", "number_of_edges", "joined", "_law_pen", "_law_draw", "_law_pick", "_law_number", "_law_way", "_law_rows"] : List PySem.Str) ++ (["_law_times", "_law_made", "_law_count", "_law_row_of", "_law_label", "_law_first_other", "_law_later", "_law_last", "_law_last_within", "_law_is_stretch_right", "_law_is_run_right"] : List PySem.Str)
theorem run (w : World) : HandSHeadRun.RunEq R (PySem.W.view R.prog [56]) hk ob 8000 names w := by
  intro os
  kernel_rfl
theorem facts {P : Program} {w : World} {K : PySem.W.Frag} {h : Heap} {mg : Str → Option Value} {f : Addr} (X : K.In h) (G : h.Ns mainGlobals mg) (hfa : mg ("law" : Str) = some (.ref f)) (c : He.SaysD fa fn K) :
    ∃ fd : FuncData, (∀ (s : Shared) (v : Value), BindsTo s fd ⟨[v], []⟩ [("_law_script", v)]) ∧ ∀ base : Heap, K.In base → base.Ns mainGlobals mg → FnOk P w K mg base CX0 8 f fd ["_law_script"] (spLaw K) := by
  have T : Tx K mg (He.ga K "Row") (He.ga K "Span") (He.ga K "Wording") := ⟨He.cls_ok (c.fact 29 (f := .cls "Row") rfl), He.cls_ok (c.fact 31 (f := .cls "Span") rfl), He.cls_ok (c.fact 33 (f := .cls "Wording") rfl), He.glo_ok X G (c.fact 28 (f := .glo "Row") rfl), He.glo_ok X G (c.fact 30 (f := .glo "Span") rfl), He.glo_ok X G (c.fact 32 (f := .glo "Wording") rfl),
    He.noat_ok (c.fact 34 (f := .noat "Row" "until") rfl), He.noat_ok (c.fact 35 (f := .noat "Row" "unit") rfl), He.noat_ok (c.fact 36 (f := .noat "Row" "way") rfl), He.noat_ok (c.fact 37 (f := .noat "Row" "word") rfl), He.noat_ok (c.fact 38 (f := .noat "Span" "low") rfl), He.noat_ok (c.fact 39 (f := .noat "Span" "high") rfl), He.noat_ok (c.fact 40 (f := .noat "Span" "row") rfl), He.noat_ok (c.fact 41 (f := .noat "Span" "is_fresh") rfl), He.noat_ok (c.fact 42 (f := .noat "Wording" "rows") rfl), He.noat_ok (c.fact 43 (f := .noat "Wording" "spans") rfl)⟩
  have B : Bn mg := ⟨He.free_ok X G (c.fact 44 (f := .free "len") rfl), He.free_ok X G (c.fact 45 (f := .free "list") rfl), He.free_ok X G (c.fact 46 (f := .free "tuple") rfl), He.free_ok X G (c.fact 47 (f := .free "int") rfl), He.free_ok X G (c.fact 48 (f := .free "min") rfl), He.free_ok X G (c.fact 49 (f := .free "max") rfl), He.free_ok X G (c.fact 50 (f := .free "sum") rfl), He.free_ok X G (c.fact 51 (f := .free "range") rfl), He.free_ok X G (c.fact 52 (f := .free "enumerate") rfl), He.free_ok X G (c.fact 53 (f := .free "reversed") rfl), He.free_ok X G (c.fact 54 (f := .free "sorted") rfl), He.free_ok X G (c.fact 55 (f := .free "str") rfl), He.free_ok X G (c.fact 56 (f := .free "all") rfl), He.free_ok X G (c.fact 57 (f := .free "isinstance") rfl), He.free_ok X G (c.fact 58 (f := .free "zip") rfl)⟩
  obtain ⟨fd0, F0⟩ := c.def_ 0 (d := dd ("_law_pen", none) "_law_pen" "_law_pen" s__law_pen) rfl
  have F0 : Fn K "_law_pen" "_law_pen" s__law_pen (He.ga K "_law_pen") fd0 := F0
  have b0 : Binds K fd0 ["_law_script"] [] := F0.bindsN fun _ _ _ _ _ _ us hl => match us, hl with | [_], _ => rfl
  obtain ⟨fd1, F1⟩ := c.def_ 1 (d := dd ("_law_draw", none) "_law_draw" "_law_draw" s__law_draw) rfl
  have F1 : Fn K "_law_draw" "_law_draw" s__law_draw (He.ga K "_law_draw") fd1 := F1
  have b1 : Binds K fd1 ["_law_pen_here", "_law_many"] [] := F1.bindsN fun _ _ _ _ _ _ us hl => match us, hl with | [_, _], _ => rfl
  obtain ⟨fd2, F2⟩ := c.def_ 2 (d := dd ("_law_pick", none) "_law_pick" "_law_pick" s__law_pick) rfl
  have F2 : Fn K "_law_pick" "_law_pick" s__law_pick (He.ga K "_law_pick") fd2 := F2
  have b2 : Binds K fd2 ["_law_pen_here", "_law_items"] [] := F2.bindsN fun _ _ _ _ _ _ us hl => match us, hl with | [_, _], _ => rfl
  obtain ⟨fd3, F3⟩ := c.def_ 3 (d := dd ("_law_number", none) "_law_number" "_law_number" s__law_number) rfl
  have F3 : Fn K "_law_number" "_law_number" s__law_number (He.ga K "_law_number") fd3 := F3
  have b3 : Binds K fd3 ["_law_pen_here"] [] := F3.bindsN fun _ _ _ _ _ _ us hl => match us, hl with | [_], _ => rfl
  obtain ⟨fd4, F4⟩ := c.def_ 4 (d := dd ("_law_way", none) "_law_way" "_law_way" s__law_way) rfl
  have F4 : Fn K "_law_way" "_law_way" s__law_way (He.ga K "_law_way") fd4 := F4
  have b4 : Binds K fd4 ["_law_pen_here"] [] := F4.bindsN fun _ _ _ _ _ _ us hl => match us, hl with | [_], _ => rfl
  obtain ⟨fd5, F5⟩ := c.def_ 5 (d := dd ("_law_rows", none) "_law_rows" "_law_rows" s__law_rows) rfl
  have F5 : Fn K "_law_rows" "_law_rows" s__law_rows (He.ga K "_law_rows") fd5 := F5
  have b5 : Binds K fd5 ["_law_pen_here", "_law_most", "_law_words"] [] := F5.bindsN fun _ _ _ _ _ _ us hl => match us, hl with | [_, _, _], _ => rfl
  obtain ⟨fd6, F6⟩ := c.def_ 6 (d := dd ("_law_times", none) "_law_times" "_law_times" s__law_times) rfl
  have F6 : Fn K "_law_times" "_law_times" s__law_times (He.ga K "_law_times") fd6 := F6
  have b6 : Binds K fd6 ["_law_rows_here", "_law_factor"] [] := F6.bindsN fun _ _ _ _ _ _ us hl => match us, hl with | [_, _], _ => rfl
  obtain ⟨fd7, F7⟩ := c.def_ 7 (d := dd ("Row", some "__init__") "__init__" "Row.__init__" s_Row_init) rfl
  have F7 : Fn K "__init__" "Row.__init__" s_Row_init (He.ma K (He.ga K "Row") "__init__") fd7 := F7
  have b7 : Binds K fd7 ["self", "until", "unit", "way", "word"] [] := F7.bindsN fun _ _ _ _ _ _ us hl => match us, hl with | [_, _, _, _, _], _ => rfl
  obtain ⟨fd8, F8⟩ := c.def_ 8 (d := dd ("check_untils", none) "check_untils" "check_untils" s_check_untils) rfl
  have F8 : Fn K "check_untils" "check_untils" s_check_untils (He.ga K "check_untils") fd8 := F8
  have b8 : Binds K fd8 ["rows"] [] := F8.bindsN fun _ _ _ _ _ _ us hl => match us, hl with | [_], _ => rfl
  obtain ⟨fd9, F9⟩ := c.def_ 9 (d := dd ("shift_of", none) "shift_of" "shift_of" s_shift_of) rfl
  have F9 : Fn K "shift_of" "shift_of" s_shift_of (He.ga K "shift_of") fd9 := F9
  have b9 : Binds K fd9 ["unit", "way"] [] := F9.bindsN fun _ _ _ _ _ _ us hl => match us, hl with | [_, _], _ => rfl
  obtain ⟨fd10, F10⟩ := c.def_ 10 (d := dd ("counted", none) "counted" "counted" s_counted) rfl
  have F10 : Fn K "counted" "counted" s_counted (He.ga K "counted") fd10 := F10
  have b10 : Binds K fd10 ["number", "unit", "way"] [] := F10.bindsN fun _ _ _ _ _ _ us hl => match us, hl with | [_, _, _], _ => rfl
  obtain ⟨fd11, F11⟩ := c.def_ 11 (d := dd ("count_in", none) "count_in" "count_in" s_count_in) rfl
  have F11 : Fn K "count_in" "count_in" s_count_in (He.ga K "count_in") fd11 := F11
  have b11 : Binds K fd11 ["row", "age"] [] := F11.bindsN fun _ _ _ _ _ _ us hl => match us, hl with | [_, _], _ => rfl
  obtain ⟨fd12, F12⟩ := c.def_ 12 (d := dd ("Span", some "__init__") "__init__" "Span.__init__" s_Span_init) rfl
  have F12 : Fn K "__init__" "Span.__init__" s_Span_init (He.ma K (He.ga K "Span") "__init__") fd12 := F12
  have b12 : Binds K fd12 ["self", "low", "high", "row", "is_fresh"] [] := F12.bindsN fun _ _ _ _ _ _ us hl => match us, hl with | [_, _, _, _, _], _ => rfl
  obtain ⟨fd13, F13⟩ := c.def_ 13 (d := dd ("spans_of", none) "spans_of" "spans_of" s_spans_of) rfl
  have F13 : Fn K "spans_of" "spans_of" s_spans_of (He.ga K "spans_of") fd13 := F13
  have b13 : Binds K fd13 ["rows"] [] := F13.bindsN fun _ _ _ _ _ _ us hl => match us, hl with | [_], _ => rfl
  obtain ⟨fd14, F14⟩ := c.def_ 14 (d := dd ("Wording", some "__init__") "__init__" "Wording.__init__" s_Wording_init) rfl
  have F14 : Fn K "__init__" "Wording.__init__" s_Wording_init (He.ma K (He.ga K "Wording") "__init__") fd14 := F14
  have b14 : Binds K fd14 ["self", "rows"] [] := F14.bindsN fun _ _ _ _ _ _ us hl => match us, hl with | [_, _], _ => rfl
  obtain ⟨fd15, F15⟩ := c.def_ 15 (d := dd ("_law_made", none) "_law_made" "_law_made" s__law_made) rfl
  have F15 : Fn K "_law_made" "_law_made" s__law_made (He.ga K "_law_made") fd15 := F15
  have b15 : Binds K fd15 ["_law_rows_here"] [] := F15.bindsN fun _ _ _ _ _ _ us hl => match us, hl with | [_], _ => rfl
  obtain ⟨fd16, F16⟩ := c.def_ 16 (d := dd ("_law_row_of", none) "_law_row_of" "_law_row_of" s__law_row_of) rfl
  have F16 : Fn K "_law_row_of" "_law_row_of" s__law_row_of (He.ga K "_law_row_of") fd16 := F16
  have b16 : Binds K fd16 ["_law_rows_here", "_law_age"] [] := F16.bindsN fun _ _ _ _ _ _ us hl => match us, hl with | [_, _], _ => rfl
  obtain ⟨fd17, F17⟩ := c.def_ 17 (d := dd ("_law_count", none) "_law_count" "_law_count" s__law_count) rfl
  have F17 : Fn K "_law_count" "_law_count" s__law_count (He.ga K "_law_count") fd17 := F17
  have b17 : Binds K fd17 ["_law_unit", "_law_way_here", "_law_age"] [] := F17.bindsN fun _ _ _ _ _ _ us hl => match us, hl with | [_, _, _], _ => rfl
  obtain ⟨fd18, F18⟩ := c.def_ 18 (d := dd ("_law_label", none) "_law_label" "_law_label" s__law_label) rfl
  have F18 : Fn K "_law_label" "_law_label" s__law_label (He.ga K "_law_label") fd18 := F18
  have b18 : Binds K fd18 ["_law_rows_here", "_law_age"] [] := F18.bindsN fun _ _ _ _ _ _ us hl => match us, hl with | [_, _], _ => rfl
  obtain ⟨fd19, F19⟩ := c.def_ 19 (d := dd ("_law_last_within", none) "_law_last_within" "_law_last_within" s__law_last_within) rfl
  have F19 : Fn K "_law_last_within" "_law_last_within" s__law_last_within (He.ga K "_law_last_within") fd19 := F19
  have b19 : Binds K fd19 ["_law_rows_here", "_law_low", "_law_age"] [] := F19.bindsN fun _ _ _ _ _ _ us hl => match us, hl with | [_, _, _], _ => rfl
  obtain ⟨fd20, F20⟩ := c.def_ 20 (d := dd ("_law_last", none) "_law_last" "_law_last" s__law_last) rfl
  have F20 : Fn K "_law_last" "_law_last" s__law_last (He.ga K "_law_last") fd20 := F20
  have b20 : Binds K fd20 ["_law_rows_here", "_law_age"] [] := F20.bindsN fun _ _ _ _ _ _ us hl => match us, hl with | [_, _], _ => rfl
  obtain ⟨fd21, F21⟩ := c.def_ 21 (d := dd ("_law_first_other", none) "_law_first_other" "_law_first_other" s__law_first_other) rfl
  have F21 : Fn K "_law_first_other" "_law_first_other" s__law_first_other (He.ga K "_law_first_other") fd21 := F21
  have b21 : Binds K fd21 ["_law_rows_here", "_law_low", "_law_high"] [] := F21.bindsN fun _ _ _ _ _ _ us hl => match us, hl with | [_, _, _], _ => rfl
  obtain ⟨fd22, F22⟩ := c.def_ 22 (d := dd ("_law_later", none) "_law_later" "_law_later" s__law_later) rfl
  have F22 : Fn K "_law_later" "_law_later" s__law_later (He.ga K "_law_later") fd22 := F22
  have b22 : Binds K fd22 ["_law_rows_here", "_law_age"] [] := F22.bindsN fun _ _ _ _ _ _ us hl => match us, hl with | [_, _], _ => rfl
  obtain ⟨fd23, F23⟩ := c.def_ 23 (d := dd ("demand_age", none) "demand_age" "demand_age" s_demand_age) rfl
  have F23 : Fn K "demand_age" "demand_age" s_demand_age (He.ga K "demand_age") fd23 := F23
  have b23 : Binds K fd23 ["age"] [] := F23.bindsN fun _ _ _ _ _ _ us hl => match us, hl with | [_], _ => rfl
  obtain ⟨fd24, F24⟩ := c.def_ 24 (d := dd ("row_of", none) "row_of" "row_of" s_row_of) rfl
  have F24 : Fn K "row_of" "row_of" s_row_of (He.ga K "row_of") fd24 := F24
  have b24 : Binds K fd24 ["rows", "age"] [] := F24.bindsN fun _ _ _ _ _ _ us hl => match us, hl with | [_, _], _ => rfl
  obtain ⟨fd25, F25⟩ := c.def_ 25 (d := dd ("Wording", some "label") "label" "Wording.label" s_Wording_label) rfl
  have F25 : Fn K "label" "Wording.label" s_Wording_label (He.ma K (He.ga K "Wording") "label") fd25 := F25
  have b25 : Binds K fd25 ["self", "age"] [] := F25.bindsN fun _ _ _ _ _ _ us hl => match us, hl with | [_, _], _ => rfl
  obtain ⟨fd26, F26⟩ := c.def_ 26 (d := dd ("joined", none) "joined" "joined" s_joined) rfl
  have F26 : Fn K "joined" "joined" s_joined (He.ga K "joined") fd26 := F26
  have b26 : Binds K fd26 ["stretches"] [] := F26.bindsN fun _ _ _ _ _ _ us hl => match us, hl with | [_], _ => rfl
  obtain ⟨fd27, F27⟩ := c.def_ 27 (d := dd ("first_with", none) "first_with" "first_with" s_first_with) rfl
  have F27 : Fn K "first_with" "first_with" s_first_with (He.ga K "first_with") fd27 := F27
  have b27 : Binds K fd27 ["count", "unit", "way"] [] := F27.bindsN fun _ _ _ _ _ _ us hl => match us, hl with | [_, _, _], _ => rfl
  obtain ⟨fd28, F28⟩ := c.def_ 28 (d := dd ("Span", some "limited") "limited" "Span.limited" s_Span_limited) rfl
  have F28 : Fn K "limited" "Span.limited" s_Span_limited (He.ma K (He.ga K "Span") "limited") fd28 := F28
  have b28 : Binds K fd28 ["self", "age"] [] := F28.bindsN fun _ _ _ _ _ _ us hl => match us, hl with | [_, _], _ => rfl
  obtain ⟨fd29, F29⟩ := c.def_ 29 (d := dd ("Span", some "stretch_with") "stretch_with" "Span.stretch_with" s_Span_stretch_with) rfl
  have F29 : Fn K "stretch_with" "Span.stretch_with" s_Span_stretch_with (He.ma K (He.ga K "Span") "stretch_with") fd29 := F29
  have b29 : Binds K fd29 ["self", "word", "count"] [] := F29.bindsN fun _ _ _ _ _ _ us hl => match us, hl with | [_, _, _], _ => rfl
  obtain ⟨fd30, F30⟩ := c.def_ 30 (d := dd ("Wording", some "ages") "ages" "Wording.ages" s_Wording_ages) rfl
  have F30 : Fn K "ages" "Wording.ages" s_Wording_ages (He.ma K (He.ga K "Wording") "ages") fd30 := F30
  have b30 : Binds K fd30 ["self", "label"] [] := F30.bindsN fun _ _ _ _ _ _ us hl => match us, hl with | [_, _], _ => rfl
  obtain ⟨fd31, F31⟩ := c.def_ 31 (d := dd ("Span", some "edge_after") "edge_after" "Span.edge_after" s_Span_edge_after) rfl
  have F31 : Fn K "edge_after" "Span.edge_after" s_Span_edge_after (He.ma K (He.ga K "Span") "edge_after") fd31 := F31
  have b31 : Binds K fd31 ["self", "age"] [] := F31.bindsN fun _ _ _ _ _ _ us hl => match us, hl with | [_, _], _ => rfl
  obtain ⟨fd32, F32⟩ := c.def_ 32 (d := dd ("Wording", some "later_edge") "later_edge" "Wording.later_edge" s_Wording_later_edge) rfl
  have F32 : Fn K "later_edge" "Wording.later_edge" s_Wording_later_edge (He.ma K (He.ga K "Wording") "later_edge") fd32 := F32
  have b32 : Binds K fd32 ["self", "age"] [] := F32.bindsN fun _ _ _ _ _ _ us hl => match us, hl with | [_, _], _ => rfl
  obtain ⟨fd33, F33⟩ := c.def_ 33 (d := dd ("Span", some "last_edge_until") "last_edge_until" "Span.last_edge_until" s_Span_last_edge_until) rfl
  have F33 : Fn K "last_edge_until" "Span.last_edge_until" s_Span_last_edge_until (He.ma K (He.ga K "Span") "last_edge_until") fd33 := F33
  have b33 : Binds K fd33 ["self", "age"] [] := F33.bindsN fun _ _ _ _ _ _ us hl => match us, hl with | [_, _], _ => rfl
  obtain ⟨fd34, F34⟩ := c.def_ 34 (d := dd ("Wording", some "last_edge") "last_edge" "Wording.last_edge" s_Wording_last_edge) rfl
  have F34 : Fn K "last_edge" "Wording.last_edge" s_Wording_last_edge (He.ma K (He.ga K "Wording") "last_edge") fd34 := F34
  have b34 : Binds K fd34 ["self", "age"] [] := F34.bindsN fun _ _ _ _ _ _ us hl => match us, hl with | [_, _], _ => rfl
  obtain ⟨fd35, F35⟩ := c.def_ 35 (d := dd ("_law_is_stretch_right", none) "_law_is_stretch_right" "_law_is_stretch_right" s__law_is_stretch_right) rfl
  have F35 : Fn K "_law_is_stretch_right" "_law_is_stretch_right" s__law_is_stretch_right (He.ga K "_law_is_stretch_right") fd35 := F35
  have b35 : Binds K fd35 ["_law_wording", "_law_rows_here", "_law_age"] [] := F35.bindsN fun _ _ _ _ _ _ us hl => match us, hl with | [_, _, _], _ => rfl
  obtain ⟨fd36, F36⟩ := c.def_ 36 (d := dd ("Span", some "number_until") "number_until" "Span.number_until" s_Span_number_until) rfl
  have F36 : Fn K "number_until" "Span.number_until" s_Span_number_until (He.ma K (He.ga K "Span") "number_until") fd36 := F36
  have b36 : Binds K fd36 ["self", "age"] [] := F36.bindsN fun _ _ _ _ _ _ us hl => match us, hl with | [_, _], _ => rfl
  obtain ⟨fd37, F37⟩ := c.def_ 37 (d := dd ("number_of_edges", none) "number_of_edges" "number_of_edges" s_number_of_edges) rfl
  have F37 : Fn K "number_of_edges" "number_of_edges" s_number_of_edges (He.ga K "number_of_edges") fd37 := F37
  have b37 : Binds K fd37 ["spans", "age"] [] := F37.bindsN fun _ _ _ _ _ _ us hl => match us, hl with | [_, _], _ => rfl
  obtain ⟨fd38, F38⟩ := c.def_ 38 (d := dd ("Wording", some "edges") "edges" "Wording.edges" s_Wording_edges) rfl
  have F38 : Fn K "edges" "Wording.edges" s_Wording_edges (He.ma K (He.ga K "Wording") "edges") fd38 := F38
  have b38 : Binds K fd38 ["self", "low", "high"] [] := F38.bindsN fun _ _ _ _ _ _ us hl => match us, hl with | [_, _, _], _ => rfl
  obtain ⟨fd39, F39⟩ := c.def_ 39 (d := dd ("_law_is_run_right", none) "_law_is_run_right" "_law_is_run_right" s__law_is_run_right) rfl
  have F39 : Fn K "_law_is_run_right" "_law_is_run_right" s__law_is_run_right (He.ga K "_law_is_run_right") fd39 := F39
  have b39 : Binds K fd39 ["_law_wording", "_law_age"] [] := F39.bindsN fun _ _ _ _ _ _ us hl => match us, hl with | [_, _], _ => rfl
  obtain ⟨fd40, F40⟩ := c.def_ 40 (d := dd ("Span", some "edge_shared") "edge_shared" "Span.edge_shared" s_Span_edge_shared) rfl
  have F40 : Fn K "edge_shared" "Span.edge_shared" s_Span_edge_shared (He.ma K (He.ga K "Span") "edge_shared") fd40 := F40
  have b40 : Binds K fd40 ["self", "earlier"] [] := F40.bindsN fun _ _ _ _ _ _ us hl => match us, hl with | [_, _], _ => rfl
  obtain ⟨fd41, F41⟩ := c.def_ 41 (d := dd ("Wording", some "returns") "returns" "Wording.returns" s_Wording_returns) rfl
  have F41 : Fn K "returns" "Wording.returns" s_Wording_returns (He.ma K (He.ga K "Wording") "returns") fd41 := F41
  have b41 : Binds K fd41 ["self"] [] := F41.bindsN fun _ _ _ _ _ _ us hl => match us, hl with | [_], _ => rfl
  obtain ⟨fd42, F42⟩ := c.def_ 42 (d := dd ("law", none) "law" "law" s_law) rfl
  have F42 : Fn K "law" "law" s_law (He.ga K "law") fd42 := F42
  have e := hfa.symm.trans (He.glo_ok X G (c.fact 27 (f := .glo "law") rfl))
  cases e
  have b := FunD.bindsA (ps := ["_law_script"]) F42 fun _ _ _ _ _ _ us hl => match us, hl with | [_], _ => rfl
  refine ⟨fd42, fun s v => b s [v] rfl, fun base _ _ => ?_⟩
  have c__law_pen : Cal P w K mg base CX0 1 "_law_pen" ["_law_script"] (spPen K) := ⟨_, _, ok_pen (P := P) (w := w) (base := base) F0 B, He.glo_ok X G (c.fact 0 (f := .glo "_law_pen") rfl), F0.kp, b0⟩
  have c__law_draw : Cal P w K mg base CX0 1 "_law_draw" ["_law_pen_here", "_law_many"] spDraw := ⟨_, _, ok_draw (P := P) (w := w) (base := base) F1 B, He.glo_ok X G (c.fact 1 (f := .glo "_law_draw") rfl), F1.kp, b1⟩
  have c__law_pick : Cal P w K mg base CX0 2 "_law_pick" ["_law_pen_here", "_law_items"] spPick := ⟨_, _, ok_pick (P := P) (w := w) (base := base) F2 B c__law_draw, He.glo_ok X G (c.fact 2 (f := .glo "_law_pick") rfl), F2.kp, b2⟩
  have c__law_number : Cal P w K mg base CX0 3 "_law_number" ["_law_pen_here"] spNumber := ⟨_, _, ok_number (P := P) (w := w) (base := base) F3 c__law_draw c__law_pick, He.glo_ok X G (c.fact 3 (f := .glo "_law_number") rfl), F3.kp, b3⟩
  have c__law_way : Cal P w K mg base CX0 3 "_law_way" ["_law_pen_here"] spWay := ⟨_, _, ok_way (P := P) (w := w) (base := base) F4 c__law_pick, He.glo_ok X G (c.fact 4 (f := .glo "_law_way") rfl), F4.kp, b4⟩
  have c__law_rows : Cal P w K mg base CX0 4 "_law_rows" ["_law_pen_here", "_law_most", "_law_words"] spRows := ⟨_, _, ok_rows (P := P) (w := w) (base := base) F5 B c__law_draw c__law_pick c__law_number c__law_way, He.glo_ok X G (c.fact 5 (f := .glo "_law_rows") rfl), F5.kp, b5⟩
  have c__law_times : Cal P w K mg base CX0 1 "_law_times" ["_law_rows_here", "_law_factor"] spTimes := ⟨_, _, ok_times (P := P) (w := w) (base := base) F6 , He.glo_ok X G (c.fact 6 (f := .glo "_law_times") rfl), F6.kp, b6⟩
  have c_Row_init : Mak P w K mg base CX0 1 (He.ga K "Row") ["self", "until", "unit", "way", "word"] (spRowI (He.ga K "Row")) := ⟨_, _, ok_row (P := P) (w := w) (base := base) F7 T, He.mkr_ok (c.fact 59 (f := .mkr "Row") rfl), b7⟩
  have c_check_untils : Cal P w K mg base CX0 1 "check_untils" ["rows"] (spCheck (He.ga K "Row")) := ⟨_, _, ok_check (P := P) (w := w) (base := base) F8 T B, He.glo_ok X G (c.fact 7 (f := .glo "check_untils") rfl), F8.kp, b8⟩
  have c_shift_of : Cal P w K mg base CX0 1 "shift_of" ["unit", "way"] spShift := ⟨_, _, ok_shift (P := P) (w := w) (base := base) F9 , He.glo_ok X G (c.fact 8 (f := .glo "shift_of") rfl), F9.kp, b9⟩
  have c_counted : Cal P w K mg base CX0 2 "counted" ["number", "unit", "way"] spCounted := ⟨_, _, ok_counted (P := P) (w := w) (base := base) F10 c_shift_of, He.glo_ok X G (c.fact 9 (f := .glo "counted") rfl), F10.kp, b10⟩
  have c_count_in : Cal P w K mg base CX0 3 "count_in" ["row", "age"] (spCountIn (He.ga K "Row")) := ⟨_, _, ok_countIn (P := P) (w := w) (base := base) F11 T c_counted, He.glo_ok X G (c.fact 10 (f := .glo "count_in") rfl), F11.kp, b11⟩
  have c_Span_init : Mak P w K mg base CX0 1 (He.ga K "Span") ["self", "low", "high", "row", "is_fresh"] (spSpanI (He.ga K "Span")) := ⟨_, _, ok_spanI (P := P) (w := w) (base := base) F12 T, He.mkr_ok (c.fact 60 (f := .mkr "Span") rfl), b12⟩
  have c_spans_of : Cal P w K mg base CX0 4 "spans_of" ["rows"] (spSpans (He.ga K "Row") (He.ga K "Span")) := ⟨_, _, ok_spans (P := P) (w := w) (base := base) F13 T B c_count_in c_Span_init, He.glo_ok X G (c.fact 11 (f := .glo "spans_of") rfl), F13.kp, b13⟩
  have c_Wording_init : Mak P w K mg base CX0 5 (He.ga K "Wording") ["self", "rows"] (spWordI K (He.ga K "Row") (He.ga K "Span") (He.ga K "Wording")) := ⟨_, _, ok_wordI (P := P) (w := w) (base := base) F14 T B c_check_untils c_spans_of, He.mkr_ok (c.fact 61 (f := .mkr "Wording") rfl), b14⟩
  have c__law_made : Cal P w K mg base CX0 7 "_law_made" ["_law_rows_here"] (spMade (He.ga K "Row") (He.ga K "Span") (He.ga K "Wording")) := ⟨_, _, ok_made (P := P) (w := w) (base := base) F15 T c_Row_init c_Wording_init, He.glo_ok X G (c.fact 12 (f := .glo "_law_made") rfl), F15.kp, b15⟩
  have c__law_row_of : Cal P w K mg base CX0 1 "_law_row_of" ["_law_rows_here", "_law_age"] spLrow := ⟨_, _, ok_lrow (P := P) (w := w) (base := base) F16 B, He.glo_ok X G (c.fact 13 (f := .glo "_law_row_of") rfl), F16.kp, b16⟩
  have c__law_count : Cal P w K mg base CX0 1 "_law_count" ["_law_unit", "_law_way_here", "_law_age"] spLcount := ⟨_, _, ok_lcount (P := P) (w := w) (base := base) F17 , He.glo_ok X G (c.fact 14 (f := .glo "_law_count") rfl), F17.kp, b17⟩
  have c__law_label : Cal P w K mg base CX0 2 "_law_label" ["_law_rows_here", "_law_age"] spLlabel := ⟨_, _, ok_llabel (P := P) (w := w) (base := base) F18 c__law_row_of c__law_count, He.glo_ok X G (c.fact 15 (f := .glo "_law_label") rfl), F18.kp, b18⟩
  have c__law_last_within : Cal P w K mg base CX0 3 "_law_last_within" ["_law_rows_here", "_law_low", "_law_age"] spLastW := ⟨_, _, ok_lastW (P := P) (w := w) (base := base) F19 B c__law_label, He.glo_ok X G (c.fact 16 (f := .glo "_law_last_within") rfl), F19.kp, b19⟩
  have c__law_last : Cal P w K mg base CX0 4 "_law_last" ["_law_rows_here", "_law_age"] spLlast := ⟨_, _, ok_llast (P := P) (w := w) (base := base) F20 B c__law_label c__law_last_within, He.glo_ok X G (c.fact 17 (f := .glo "_law_last") rfl), F20.kp, b20⟩
  have c__law_first_other : Cal P w K mg base CX0 3 "_law_first_other" ["_law_rows_here", "_law_low", "_law_high"] spFirstO := ⟨_, _, ok_firstO (P := P) (w := w) (base := base) F21 B c__law_label, He.glo_ok X G (c.fact 18 (f := .glo "_law_first_other") rfl), F21.kp, b21⟩
  have c__law_later : Cal P w K mg base CX0 4 "_law_later" ["_law_rows_here", "_law_age"] spLlater := ⟨_, _, ok_llater (P := P) (w := w) (base := base) F22 B c__law_label c__law_first_other, He.glo_ok X G (c.fact 19 (f := .glo "_law_later") rfl), F22.kp, b22⟩
  have c_demand_age : Cal P w K mg base CX0 1 "demand_age" ["age"] spDemand := ⟨_, _, ok_demand (P := P) (w := w) (base := base) F23 , He.glo_ok X G (c.fact 20 (f := .glo "demand_age") rfl), F23.kp, b23⟩
  have c_row_of : Cal P w K mg base CX0 1 "row_of" ["rows", "age"] (spRowOf (He.ga K "Row")) := ⟨_, _, ok_rowOf (P := P) (w := w) (base := base) F24 T, He.glo_ok X G (c.fact 21 (f := .glo "row_of") rfl), F24.kp, b24⟩
  have c_Wording_label : Met P w K mg base CX0 4 (He.ga K "Wording") "label" ["self", "age"] (spLabel (He.ga K "Row") (He.ga K "Span") (He.ga K "Wording")) := ⟨_, _, ok_label (P := P) (w := w) (base := base) F25 T c_demand_age c_row_of c_count_in, He.meth_ok (c.fact 62 (f := .meth "Wording" "label") rfl), b25⟩
  have c_joined : Cal P w K mg base CX0 1 "joined" ["stretches"] spJoined := ⟨_, _, ok_joined (P := P) (w := w) (base := base) F26 B, He.glo_ok X G (c.fact 22 (f := .glo "joined") rfl), F26.kp, b26⟩
  have c_first_with : Cal P w K mg base CX0 2 "first_with" ["count", "unit", "way"] spFirst := ⟨_, _, ok_first (P := P) (w := w) (base := base) F27 c_shift_of, He.glo_ok X G (c.fact 23 (f := .glo "first_with") rfl), F27.kp, b27⟩
  have c_Span_limited : Met P w K mg base CX0 1 (He.ga K "Span") "limited" ["self", "age"] (spLimited (He.ga K "Row") (He.ga K "Span")) := ⟨_, _, ok_limited (P := P) (w := w) (base := base) F28 T B, He.meth_ok (c.fact 63 (f := .meth "Span" "limited") rfl), b28⟩
  have c_Span_stretch_with : Met P w K mg base CX0 3 (He.ga K "Span") "stretch_with" ["self", "word", "count"] (spStretch (He.ga K "Row") (He.ga K "Span")) := ⟨_, _, ok_stretch (P := P) (w := w) (base := base) F29 T B c_first_with c_Span_limited, He.meth_ok (c.fact 64 (f := .meth "Span" "stretch_with") rfl), b29⟩
  have c_Wording_ages : Met P w K mg base CX0 4 (He.ga K "Wording") "ages" ["self", "label"] (spAges (He.ga K "Row") (He.ga K "Span") (He.ga K "Wording")) := ⟨_, _, ok_ages (P := P) (w := w) (base := base) F30 T c_joined c_Span_stretch_with, He.meth_ok (c.fact 65 (f := .meth "Wording" "ages") rfl), b30⟩
  have c_Span_edge_after : Met P w K mg base CX0 4 (He.ga K "Span") "edge_after" ["self", "age"] (spEdgeAfter (He.ga K "Row") (He.ga K "Span")) := ⟨_, _, ok_edgeAfter (P := P) (w := w) (base := base) F31 T B c_count_in c_first_with, He.meth_ok (c.fact 66 (f := .meth "Span" "edge_after") rfl), b31⟩
  have c_Wording_later_edge : Met P w K mg base CX0 5 (He.ga K "Wording") "later_edge" ["self", "age"] (spLater (He.ga K "Row") (He.ga K "Span") (He.ga K "Wording")) := ⟨_, _, ok_later (P := P) (w := w) (base := base) F32 T c_demand_age c_Span_edge_after, He.meth_ok (c.fact 67 (f := .meth "Wording" "later_edge") rfl), b32⟩
  have c_Span_last_edge_until : Met P w K mg base CX0 4 (He.ga K "Span") "last_edge_until" ["self", "age"] (spLastUntil (He.ga K "Row") (He.ga K "Span")) := ⟨_, _, ok_lastUntil (P := P) (w := w) (base := base) F33 T c_count_in c_first_with c_Span_limited, He.meth_ok (c.fact 68 (f := .meth "Span" "last_edge_until") rfl), b33⟩
  have c_Wording_last_edge : Met P w K mg base CX0 5 (He.ga K "Wording") "last_edge" ["self", "age"] (spLast (He.ga K "Row") (He.ga K "Span") (He.ga K "Wording")) := ⟨_, _, ok_last (P := P) (w := w) (base := base) F34 T B c_demand_age c_Span_last_edge_until, He.meth_ok (c.fact 69 (f := .meth "Wording" "last_edge") rfl), b34⟩
  have c__law_is_stretch_right : Cal P w K mg base CX0 6 "_law_is_stretch_right" ["_law_wording", "_law_rows_here", "_law_age"] (spStR (He.ga K "Row") (He.ga K "Span") (He.ga K "Wording")) := ⟨_, _, ok_stR (P := P) (w := w) (base := base) F35 T c__law_last c__law_later c_Wording_label c_Wording_ages c_Wording_later_edge c_Wording_last_edge, He.glo_ok X G (c.fact 24 (f := .glo "_law_is_stretch_right") rfl), F35.kp, b35⟩
  have c_Span_number_until : Met P w K mg base CX0 4 (He.ga K "Span") "number_until" ["self", "age"] (spNumUntil (He.ga K "Row") (He.ga K "Span")) := ⟨_, _, ok_numUntil (P := P) (w := w) (base := base) F36 T B c_count_in c_Span_limited, He.meth_ok (c.fact 70 (f := .meth "Span" "number_until") rfl), b36⟩
  have c_number_of_edges : Cal P w K mg base CX0 5 "number_of_edges" ["spans", "age"] (spNumE (He.ga K "Row") (He.ga K "Span")) := ⟨_, _, ok_numE (P := P) (w := w) (base := base) F37 T B c_Span_number_until, He.glo_ok X G (c.fact 25 (f := .glo "number_of_edges") rfl), F37.kp, b37⟩
  have c_Wording_edges : Met P w K mg base CX0 6 (He.ga K "Wording") "edges" ["self", "low", "high"] (spEdges (He.ga K "Row") (He.ga K "Span") (He.ga K "Wording")) := ⟨_, _, ok_edges (P := P) (w := w) (base := base) F38 T c_demand_age c_number_of_edges, He.meth_ok (c.fact 71 (f := .meth "Wording" "edges") rfl), b38⟩
  have c__law_is_run_right : Cal P w K mg base CX0 7 "_law_is_run_right" ["_law_wording", "_law_age"] (spRunR (He.ga K "Row") (He.ga K "Span") (He.ga K "Wording")) := ⟨_, _, ok_runR (P := P) (w := w) (base := base) F39 T B c_Wording_label c_Wording_edges c_Wording_later_edge c_Wording_last_edge, He.glo_ok X G (c.fact 26 (f := .glo "_law_is_run_right") rfl), F39.kp, b39⟩
  have c_Span_edge_shared : Met P w K mg base CX0 4 (He.ga K "Span") "edge_shared" ["self", "earlier"] (spShared (He.ga K "Row") (He.ga K "Span")) := ⟨_, _, ok_shared (P := P) (w := w) (base := base) F40 T B c_count_in c_Span_stretch_with, He.meth_ok (c.fact 72 (f := .meth "Span" "edge_shared") rfl), b40⟩
  have c_Wording_returns : Met P w K mg base CX0 5 (He.ga K "Wording") "returns" ["self"] (spReturns (He.ga K "Row") (He.ga K "Span") (He.ga K "Wording")) := ⟨_, _, ok_returns (P := P) (w := w) (base := base) F41 T B c_Span_edge_shared, He.meth_ok (c.fact 73 (f := .meth "Wording" "returns") rfl), b41⟩
  exact ok_law (P := P) (w := w) (base := base) F42 T B c__law_pen c__law_rows c__law_pick c__law_times c__law_made c__law_is_stretch_right c__law_draw c__law_is_run_right c_Wording_edges c_Wording_returns c_Wording_label
end Age
open PySem PySem.W PySem.Calls PyProof.Rows
theorem PySem.Challenge.cw_agewords_k14_whole_steady_wordings_holds : PySem.Challenge.rw_agewords_k14_whole_steady_wordings.Holds := by
  w_on; o_law
  refine HandSHeadRun.head_any (r := Age.R) (q := view Age.R.prog [56]) (H := Age.hk) (ob := Age.ob) (M := 8000) (loose := Age.names) (d := HandSHeadRun.topDef Age.R.prog 56) (kwd := []) Age.ob_eq
    (by kernel_rfl) (fun s => by kernel_rfl) Age.run (by kernel_rfl) (by kernel_rfl) (by kernel_rfl) (by rfl) (by first | assumption | decide +kernel) (by decide +kernel) ⟨rfl, rfl, rfl, rfl, rfl, by decide +kernel⟩ ?hw ?hc
  case hw => w_witness2
  case hc =>
    refine L2.walk_ofE (l := PySem.Challenge.rw_agewords_k14_whole_steady_wordings) (n := 63) (k := 8) (x := "_law_script") (CX := L2.CX0) rfl (by decide) (by kernel_rfl) ⟨rfl, by decide, by decide⟩ ?F (fun _ _ _ _ z => z)
    intro w mg fa h Y G hmg0
    obtain ⟨K, KX, c⟩ := Y
    have hmg : mg ("law" : PySem.Str) = some (.ref fa) := by
      have e : (HandSHeadRun.topDef Age.R.prog 56).name = ("law" : PySem.Str) := by kernel_rfl
      rw [← e]
      exact hmg0
    obtain ⟨fd, hb, hF⟩ := Age.facts (P := (PySem.Challenge.rw_agewords_k14_whole_steady_wordings).prog) (w := w) KX G hmg c
    exact ⟨K, fd, Age.spLaw K, KX, hb, fun H a ns hl _ hS => ⟨a, ns, rfl, hS, Nat.le_trans hl (by decide), fun _ => rfl⟩, hF⟩
