import PyProof.Rows.All
import Wide.All
import OpenK.AllK
import Wide.FinOn
import HandS.Base
import HandS.Call
import HandS.List
import HandS.Comp
import HandS.Ends
import HandS.Dict
import HandS.Iter
import HandS.Words
import HandS.WordsList
import HandS.WordsDict
import HandS.Defaults
import HandS.Wide
import HandS.Style
import HandS.Evl
import HandS.Rev
import HandS.Flow
import HandS.Sort
import HandS.Zip
import KE.GoesMore
import HandS.MapObj
import HandS.RevTup
import HandS.FStr
import HandS.Text
import HandS.HeadHook4
import HandS.Lambda
import HandS.EndTab
import KE.SortKeyHeap
import KE.SortData
import KE.KSortKey
import PySem.Challenge.RW_agewords_k29_whole_wordings_alike
import KE.DatumOrd
import HandS.SortKw
import HandS.SetFor
import HandS.Strs
import HandS.Exc
import HandS.ExcInit
import HandS.ExcOwn
import HandS.ExcField
import HandS.TryOnly
import HandS.Deep
import HandS.Conv
import HandS.IsInst
import HandS.SortRule
import HandS.TupAny
import KE.KStateDown
import Lean
import HandS.More
import HandS.WordsExc
import HandS.Head0
import HandS.Head1
import HandS.Head2
import HandS.HeadEnd
import HandS.HeadHook1
import HandS.HeadHook2
import HandS.HeadWalk
import HandS.NestedK
set_option Elab.async false
set_option linter.all false
set_option maxRecDepth 100000
set_option maxHeartbeats 2000000
/-! A0: what is common to all proofs about agewords -/
namespace Age
open PySem PySem.Spec PyProof.Rows L2 Evl
abbrev Fn (K : PySem.W.Frag) (x qual : Str) (st : Stmt) (f : Addr) (fd : FuncData) : Prop := FunD K x qual (defArgs st) (defBody st) (defScope st) [] [] f fd
/-- a def of the module, with its promise -/
structure Cal (P : Program) (w : World) (K : PySem.W.Frag) (mg : Str → Option Value) (base : Heap) (CX : CXT) (k : Nat) (name : Str) (ps : List Str) (sp : Sp) : Prop where
  ex : ∃ (f : Addr) (fd : FuncData), FnOk P w K mg base CX k f fd ps sp ∧ mg name = some (.ref f) ∧ PySem.W.keepIn K (.ref f) = true ∧ Binds K fd ps []
/-- a method -/
structure Met (P : Program) (w : World) (K : PySem.W.Frag) (mg : Str → Option Value) (base : Heap) (CX : CXT) (k : Nat) (C : Addr) (m : Str) (ps : List Str) (sp : Sp) : Prop where
  ex : ∃ (f : Addr) (fd : FuncData), FnOk P w K mg base CX k f fd ps sp ∧ Meth K C m f ∧ Binds K fd ps []
/-- a class that is called -/
structure Mak (P : Program) (w : World) (K : PySem.W.Frag) (mg : Str → Option Value) (base : Heap) (CX : CXT) (k : Nat) (C : Addr) (ps : List Str) (sp : Sp) : Prop where
  ex : ∃ (f : Addr) (fd : FuncData), FnOk P w K mg base CX k f fd ps sp ∧ Mk K C f ∧ Binds K fd ps []
structure Bn (mg : Str → Option Value) : Prop where
  len : mg "len" = none
  list : mg "list" = none
  tuple : mg "tuple" = none
  int : mg "int" = none
  min : mg "min" = none
  max : mg "max" = none
  sum : mg "sum" = none
  range : mg "range" = none
  enumerate : mg "enumerate" = none
  reversed : mg "reversed" = none
  sorted : mg "sorted" = none
  str : mg "str" = none
  all : mg "all" = none
  isinstance : mg "isinstance" = none
  zip : mg "zip" = none
  bool : mg "bool" = none
  set : mg "set" = none
  dict : mg "dict" = none
  any : mg "any" = none
/-- the classes' facts -/
structure Tx (K : PySem.W.Frag) (mg : Str → Option Value) (cR cS cW : Addr) : Prop where
  row : Cls K cR
  span : Cls K cS
  wording : Cls K cW
  mgRow : mg "Row" = some (.ref cR)
  mgSpan : mg "Span" = some (.ref cS)
  mgWording : mg "Wording" = some (.ref cW)
  r1 : NoAttr K cR "until"
  r2 : NoAttr K cR "unit"
  r3 : NoAttr K cR "way"
  r4 : NoAttr K cR "word"
  s1 : NoAttr K cS "low"
  s2 : NoAttr K cS "high"
  s3 : NoAttr K cS "row"
  s4 : NoAttr K cS "is_fresh"
  w1 : NoAttr K cW "rows"
  w2 : NoAttr K cW "spans"
section
variable {K : PySem.W.Frag} {σ : L2.St} {H : Hp} {ta tb : TE} {x y v : V} {a C dx : Addr} {fs : List (Str × V)} {f : Str}
theorem ev_fld (ha : Ev ta σ H (.ref a)) (h : H a = some (.ins C dx fs)) (c : Cls K C) (n : NoAttr K C f) (l : fs.lookup f = some v) : Ev (tFld K ta f) σ H v := fun H1 e _ q =>
  ha H1 e _ fun H2 e2 => ⟨a, C, dx, fs, v, rfl, (e.trans e2) a _ h, c, n, l, q H2 e2⟩
theorem rv_addI {i j : Int} : RV (rI0 fun i j => .int (i + j)) (.int i) (.int j) H (.int (i + j)) := rv_I0
theorem rv_divW {i j : Int} (h : CDivW i j) : RV (rI CDivW fun i j => .int (i / j)) (.int i) (.int j) H (.int (i / j)) := rv_I h
theorem rv_mulW {i j : Int} (h : CMulW i j) : RV (rI CMulW fun i j => .int (i * j)) (.int i) (.int j) H (.int (i * j)) := rv_I h
theorem ev_isN (ha : Ev ta σ H x) : Ev (tIsN ta) σ H (.bl (decide (x = .non))) := fun H1 e _ q => ha H1 e _ fun H2 e2 => q H2 e2
theorem ev_notN (ha : Ev ta σ H x) : Ev (tNotN ta) σ H (.bl (!decide (x = .non))) := fun H1 e _ q => ha H1 e _ fun H2 e2 => q H2 e2
def rMin2 : List V → Hp → VK → Prop := fun xs H Q => ∃ i j, xs = [.int i, .int j] ∧ Q (.int (if j < i then j else i)) H
theorem ev_min2 {i j : Int} (ha : Ev ta σ H (.int i)) (hb : Ev tb σ H (.int j)) : Ev (tCB (fun xs H Q => ∃ i j, xs = [.int i, .int j] ∧ Q (.int (if j < i then j else i)) H) (tCons ta (tCons tb tNil))) σ H (.int (if j < i then j else i)) := fun H1 e Q q =>
  ha H1 e _ fun H2 e2 => hb H2 (e.trans e2) _ fun H3 e3 => ⟨i, j, rfl, q H3 (e2.trans e3)⟩
end
/-- numbers that are not too great -/
def Sm (i : Int) : Prop := -1606938044258990275541962092341162602522202993782792835301376 < i ∧ i < 1606938044258990275541962092341162602522202993782792835301376
theorem Sm.nat {i : Int} (h : Sm i) : i.natAbs < 2 ^ 200 := by
  have e : (2 : Nat) ^ 200 = 1606938044258990275541962092341162602522202993782792835301376 := by decide +kernel
  rw [e]
  unfold Sm at h
  omega
theorem Sm.div {i j : Int} (h0 : 0 < j) (h : Sm j) : CDivW i j := wide_div h0 h.nat (by decide) (by decide)
theorem Sm.mul {i j : Int} (hi : Sm i) (hj : Sm j) : CMulW i j := wide_mul hi.nat hj.nat (by decide) (by decide) (by decide)
theorem nab {a b : Str} (h : decide (a = b) = false) : a ≠ b := of_decide_eq_false h
end Age

set_option Elab.async false
set_option maxRecDepth 100000
set_option maxHeartbeats 4000000
namespace Age
open PySem PySem.Spec PyProof.Rows L2 Evl
/-! ### for i, x in enumerate(a tuple) -/
def titO (l : Addr) : Obj := { cls := .type "tuple_iterator", data := .fields #[.ref l, .int 0 0] }
def enuO (i : Addr) : Obj := { cls := .type "enumerate", data := .fields #[.none, .bool false, .ref i, rawInt 0, .none, .none] }
theorem et_new (l : Addr) (items : Array Value) :
    Meets (Builtin.«enumerate.__new__» ⟨[.type "enumerate", .ref l], []⟩) (fun _ R s => s.heap.IsTuple l items ∧
      R (.ok (.ret (.ref (s.heap.push (titO l)).objs.size))) { s with heap := (s.heap.push (titO l)).push (enuO s.heap.objs.size) }) :=
  .of_wp fun prog w A R s h => by
    obtain ⟨hp, g, d, tk, os⟩ := s
    obtain ⟨ht, h⟩ := h
    have hsub := sub_enumerate
    have it1 : ∀ {A' : Around} {E : Value → Shared → Prop} {Q : Value → Shared → Prop}, Q (.ref hp.objs.size) ⟨hp.push (titO l), g, d, tk, os⟩ → wpAny (model prog w) A' (pyIter (.ref l)) Q E ⟨hp, g, d, tk, os⟩ :=
      fun q => wpAny_pyIter_tuple (s := ⟨hp, g, d, tk, os⟩) ht q
    wp_walk using it1
    refine wpAny_stack_any fun st => wpAny_pure ?_
    split
    · rename_i c _ _ _ _ _
      cases (c == Value.type "enumerate") <;> (wp_walk using it1; exact ⟨_, rfl, h⟩)
    · wp_walk using it1
      exact ⟨_, rfl, h⟩
section
variable {prog : Program} {w : World} {A : Around} {E : Value → Shared → Prop} {s : Shared}
theorem et_call {l : Addr} {items : Array Value} {Q : Value → Shared → Prop} (ht : s.heap.IsTuple l items)
    (h : ∀ h', IsEnum h' (s.heap.objs.size + 1) s.heap.objs.size 0 .none → h'.IsTupleIter s.heap.objs.size l 0 → (∀ b o, s.heap.get? b = some o → h'.get? b = some o) → Q (.ref (s.heap.objs.size + 1)) { s with heap := h' }) :
    wpAny (model prog w) A (call (.type "enumerate") [.ref l]) Q E s := by
  refine callType_new F.called_enumerate (by decide) (F.typeCall_enumerate_1 _) (F.newCall_enumerate_1 _) (fun obj => F.args_object_init_2 obj _) F.entry_enumerate_new (et_new l items) ⟨ht, ?_⟩
  have hz : (s.heap.push (titO l)).objs.size = s.heap.objs.size + 1 := Heap.size_push ..
  show _ ∧ _
  rw [hz]
  have g1 := Heap.get?_push_size (s.heap.push (titO l)) (o := enuO s.heap.objs.size) rfl
  rw [hz] at g1
  have he : IsEnum ((s.heap.push (titO l)).push (enuO s.heap.objs.size)) (s.heap.objs.size + 1) s.heap.objs.size 0 .none := g1
  exact ⟨⟨_, g1, rfl⟩, h _ he ⟨_, Heap.get?_push_of_some _ (Heap.get?_push_size _ rfl), rfl, rfl⟩ fun b o x => Heap.get?_push_of_some _ (Heap.get?_push_of_some _ x)⟩
end
def IteT (K : PySem.W.Frag) (a : Addr) : It where
  go := fun i H => ∃ (xs : List V) (x : V), SqT K H a xs ∧ xs[i]? = some x
  yld := fun i H v H' => ∃ T x, v = .ref T ∧ H T = none ∧ H' = upd H T (.tup [.int (i : Nat), x]) ∧ ∀ xs, SqT K H a xs → xs[i]? = some x
  stop := fun i H => ∃ xs : List V, SqT K H a xs ∧ xs.length ≤ i
theorem et_turn {P : Program} {w : World} {K : PySem.W.Frag} {elts : List Expr} {kk : Nat} {tpos : Pos} (a e it : Addr) :
    Turn P w K (.Tuple elts kk tpos) (IteT K a) [e, it] e (fun i h => (∃ old, IsEnum h e it ((i : Nat) : Int) old) ∧ h.IsTupleIter it a i ∧ e ≠ it) where
  mem := List.mem_cons_self
  obj := fun i h st b hb => by
    obtain ⟨⟨old, he⟩, ⟨o, ho, hc, hd⟩, _⟩ := st
    rcases List.mem_cons.mp hb with z | z
    · subst z
      exact ⟨_, he, fun v q => nomatch q⟩
    · rw [List.mem_singleton.mp z]
      exact ⟨o, ho, fun v q => by rw [hd] at q; cases q⟩
  keep := fun i h h' st k => by
    obtain ⟨⟨old, he⟩, hi, hne⟩ := st
    exact ⟨⟨old, k e List.mem_cons_self _ he⟩, hi.at fun o q => k it (List.mem_cons_of_mem _ List.mem_cons_self) o q, hne⟩
  item := by
    intro X hP hw hK hc i pins s σ H E I hf st hg
    subst hP hw hK
    obtain ⟨⟨old, he⟩, hit, hne⟩ := st
    obtain ⟨xs, x, hq, hx⟩ := hg
    obtain ⟨its, rv, pt, hz⟩ := I.tuple hq
    obtain ⟨u, hu, ru⟩ := rv.get hx
    have hel : e < s.heap.objs.size := Heap.lt_size he
    have hil : it < s.heap.objs.size := by obtain ⟨_, q, _⟩ := hit; exact Heap.lt_size q
    obtain ⟨oa, hoa, _⟩ := id pt
    have hTa : s.heap.IsTuple a its.toArray := pt
    have hae : a ≠ it := by
      intro z
      obtain ⟨o1, h1, h2, _⟩ := hit
      obtain ⟨o2, g1, g2, _⟩ := hTa
      rw [z, h1] at g1
      have z2 := Option.some.inj g1
      rw [← z2, h2] at g2
      exact absurd g2 (by decide)
    have hea : e ∉ [it, a] := by
      intro z
      rcases List.mem_cons.mp z with z | z
      · exact hne z
      · have z := List.mem_singleton.mp z
        subst z
        obtain ⟨o2, g1, g2, _⟩ := hTa
        rw [he] at g1
        have z2 := Option.some.inj g1
        rw [← z2] at g2
        have g3 : Value.type "enumerate" = Value.type "tuple" := g2
        exact absurd g3 (by decide)
    have hlt : i < its.toArray.size := by
      rw [List.size_toArray]
      exact (List.getElem?_eq_some_iff.mp hu).1
    refine wpAny_pyNext_enum_itemD (Draws.tuple (prog := X.prog) (w := X.w) (A := X.A.in1) (show X.A.in1.handled = none from I.ok.hd hc) it a hae its.toArray) he ⟨hit, hTa⟩ hlt hne hea fun y h' tk hy ho hst hT hsz hk => ?_
    have ey : y = u := by
      have q : its.toArray[i]? = some u := by simpa using hu
      have q2 : its.toArray[i]? = some y := hy
      rw [q] at q2
      exact (Option.some.inj q2).symm
    subst ey
    refine ⟨_, rfl, wpAny_letOwnedTupleGo_enum (s := { s with heap := h', toks := tk + 1 }) ho fun h'' he' sb => ?_⟩
    have hT2 : h''.get? s.heap.objs.size = some { cls := .type "tuple", data := .seq #[.int i tk, y] } := (sb.2 _ (Nat.ne_of_gt hel)).trans hT
    have new : ObjOk X.prog X.w (upd H s.heap.objs.size (.tup [.int (i : Nat), x])) h'' s.heap.objs.size (.tup [.int (i : Nat), x]) :=
      ⟨by show 2 ≤ sizeLine; decide, [.int i tk, y], .cons ⟨_, rfl⟩ (.cons ru .nil), ⟨_, hT2, rfl, _, rfl⟩⟩
    have I1 : Inv X pins σ (upd H s.heap.objs.size (.tup [.int (i : Nat), x])) { s with heap := h'', toks := tk + 1 } :=
      I.turnedNew (ch := [e, it]) (fun b ob hb q => by
        have h1 : b ≠ e := fun z => hb (by rw [z]; exact List.mem_cons_self)
        have h2 : b ≠ it := fun z => hb (by rw [z]; exact List.mem_cons_of_mem _ List.mem_cons_self)
        exact (sb.2 b h1).trans (hk b ob h1 h2 q)) hf (Nat.le_refl _) new
    refine ⟨.ref s.heap.objs.size, _, I1, rfl, ⟨_, x, rfl, I.hok.fresh (Nat.le_refl _), rfl, fun ys hy => by rw [I.tuple_inj hy hq]; exact hx⟩, ⟨⟨y, ?_⟩, hst.1.at fun o q => (sb.2 it (Ne.symm hne)).trans q, hne⟩, fun b hb => ?_⟩
    · have e1 : ((i + 1 : Nat) : Int) = (i : Int) + 1 := Int.natCast_succ i
      rw [e1]
      exact he'
    · have hb' : b < s.heap.objs.size := by
        rcases List.mem_cons.mp hb with z | z
        · rw [z]; exact hel
        · rw [List.mem_singleton.mp z]; exact hil
      rw [upd_ne (Nat.ne_of_lt hb')]
      exact (hf b hb).1
  done := by
    intro X hP hw hK hc i pins s σ H E I hf st hg
    subst hP hw hK
    obtain ⟨⟨old, he⟩, hit, hne⟩ := st
    obtain ⟨xs, hq, hx⟩ := hg
    obtain ⟨its, rv, pt, hz⟩ := I.tuple hq
    have hTa : s.heap.IsTuple a its.toArray := pt
    obtain ⟨f0, f1, f2, f3, f4, f5⟩ := hf it (List.mem_cons_of_mem _ List.mem_cons_self)
    have hl := rv.length
    refine wpAny_pyNext_enum_endD (n := i) (P := fun _ _ => True) (fp := [it, a]) (St := fun j h => j = i ∧ h.IsTupleIter it a i ∧ h.IsTuple a its.toArray) ?_ he ⟨rfl, hit, hTa⟩ fun h' eb => ⟨rfl, I.turned (t' := s.toks) (fun b o hb q => eb b o hb q) f0 f1 f3 f4 f5⟩
    exact {
      live := fun _ _ st => let ⟨o, ho, _⟩ := st.2.1; ⟨o, ho⟩
      frame := fun _ _ _ st hk => ⟨st.1, st.2.1.at fun o e => hk it List.mem_cons_self o e, st.2.2.at fun o e => hk a (List.mem_cons_of_mem _ List.mem_cons_self) o e⟩
      item := fun j s Q E hj st _ => absurd st.1 (Nat.ne_of_lt hj)
      done := fun s Q E st hE => wpAny_nextOf_tuple_end (I.ok.hd hc) st.2.1 st.2.2 (by simp; omega) hE }
  self := fun A i s Q E st h => let ⟨⟨_, he⟩, _⟩ := st; wpAny_pyIter_enum he h
def iEnumT (K : PySem.W.Frag) (ta : TA) : TI := fun σ H R => ta σ H fun vs H1 => ∃ a xs, vs = [.ref a] ∧ SqT K H1 a xs ∧ R (IteT K a) H1
theorem pi_enumT {X : Cx} {e : Expr} {ta : TA} {p pos tpos : Pos} {elts : List Expr} {kk : Nat} (hg : Gl X "enumerate") (hm : X.mg "enumerate" = none) (ha : PA X [e] ta)
    (hs : starEach [e] X.env = [(false, eval e X.env)] := by rfl) :
    PI X (.Tuple elts kk tpos) (.Call (.Name "enumerate" p) [e] [] pos) (iEnumT X.K ta) := by
  refine ⟨fun pins s σ H R I h => ?_⟩
  refine Call_ (ld_blt I hg hm boot_enumerate (PyProof.Rows.callWith_type1 (thn (ha.run pos pins s σ H _ I h) fun us s1 q => ?_) hs rfl))
  obtain ⟨vs, H1, I1, r1, a, xs, ex, hq, q⟩ := q
  subst ex
  cases r1 with
  | cons r rr =>
    cases rr
    cases r
    obtain ⟨its, rv, pt, hz⟩ := I1.tuple hq
    have hTa : s1.heap.IsTuple a its.toArray := pt
    refine et_call hTa fun h' he hit hk => wpAny_pyIter_enum he ?_
    have I2 : Inv X pins σ H1 { s1 with heap := h' } := I1.kept (t' := s1.toks) hk
    refine ⟨s1.heap.objs.size + 1, [s1.heap.objs.size + 1, s1.heap.objs.size], _, _, H1, rfl, I2, et_turn a (s1.heap.objs.size + 1) s1.heap.objs.size, ⟨⟨.none, he⟩, hit, Nat.succ_ne_self _⟩, fun b hb => ?_, q⟩
    have hle : s1.heap.objs.size ≤ b := by
      rcases List.mem_cons.mp hb with z | z
      · rw [z]; exact Nat.le_add_right _ _
      · rw [List.mem_singleton.mp z]; exact Nat.le_refl _
    exact I1.fpOk hle (I1.hok.fresh hle)
/-- the loop by a word of the turn -/
theorem for_enumT {K : PySem.W.Frag} {a : Addr} {xs : List V} {g : TG} {tb : TS} {D : Ends} {σ : L2.St} {H : Hp} {ta : TA} (ha : EvA ta σ H [.ref a]) (hx : SqT K H a xs) (Pv : Nat → L2.St → Hp → Prop) (h0 : ∀ H1, Ex H H1 → Pv 0 σ H1)
    (hl : ∀ i σ' H', i ≤ xs.length → Pv i σ' H' → SqT K H' a xs)
    (hs : ∀ (i : Nat) x σ' H' T, xs[i]? = some x → Pv i σ' H' → H' T = none → g (.ref T) σ' (upd H' T (.tup [.int (i : Nat), x])) fun σ2 H2 => tb { D with nx := Pv (i + 1), ct := Pv (i + 1), bk := D.nx } σ2 H2)
    (hd : ∀ σ' H', Pv xs.length σ' H' → D.nx σ' H') : tFor (iEnumT K ta) g tb D σ H := ha H (Ex.refl H) _ fun H1 e1 => by
  refine ⟨a, xs, rfl, ex_t e1 hx, fun i m σ H => m = xs.length - i ∧ i ≤ xs.length ∧ Pv i σ H, ⟨xs.length, rfl, Nat.zero_le _, h0 H1 e1⟩, ?_⟩
  intro i m σ' H' ⟨hm, hi, p⟩
  have q := hl i σ' H' hi p
  by_cases hlt : i < xs.length
  · have hx : xs[i]? = some xs[i] := List.getElem?_eq_getElem hlt
    refine Or.inr ⟨⟨xs, xs[i], q, hx⟩, Pv (i + 1), fun σ2 H2 p2 => ⟨xs.length - (i + 1), by omega, rfl, hlt, p2⟩, ?_⟩
    intro v H2 ⟨T, x, ev, hT, eH, hy⟩
    subst ev eH
    exact hs i x σ' H' T (hy xs q) p hT
  · have e : i = xs.length := by omega
    subst e
    exact Or.inl ⟨⟨xs, q, Nat.le_refl _⟩, hd σ' H' p⟩
end Age

set_option Elab.async false
set_option linter.all false
set_option maxRecDepth 100000
set_option maxHeartbeats 4000000
namespace Age
open PySem PySem.Spec PyProof.Rows L2 Evl
/-! ### data -/
mutual
theorem dp_mono {K : PySem.W.Frag} {H H' : Hp} (e : Ex H H') : ∀ {v : V} {d : PyData}, Dp K H v d → Dp K H' v d
  | _, _, .non => .non
  | _, _, .bl b => .bl b
  | _, _, .int i => .int i
  | _, _, .str x => .str x
  | _, _, .lst h a => .lst (ex_l e h) (dpA_mono e a)
  | _, _, .tup h a => .tup (ex_t e h) (dpA_mono e a)
theorem dpA_mono {K : PySem.W.Frag} {H H' : Hp} (e : Ex H H') : ∀ {vs : List V} {ds : List PyData}, DpAll K H vs ds → DpAll K H' vs ds
  | _, _, .nil => .nil
  | _, _, .cons a b => .cons (dp_mono e a) (dpA_mono e b)
end
def dO : Option Int → PyData
  | none => .none
  | some i => .int i
def dL (l : Str × Option Int) : PyData := .tuple [.str l.1, dO l.2]
theorem eqv_dO (a b : Option Int) : PyData.eqv (dO a) (dO b) = decide (a = b) := by
  cases a <;> cases b <;> simp [dO, PyData.eqv, Bool.beq_eq_decide_eq]
theorem eqv_dL (a b : Str × Option Int) : PyData.eqv (dL a) (dL b) = decide (a = b) := by
  obtain ⟨w, c⟩ := a
  obtain ⟨w', c'⟩ := b
  have h : (w == w') = decide (w = w') := Bool.beq_eq_decide_eq w w'
  simp only [dL, PyData.eqv, PyData.eqvAll, Bool.and_true, eqv_dO, h, Prod.mk.injEq, Bool.decide_and]
theorem shaped_dL (a : Str × Option Int) (h : PyData.strOk a.1 = true) : SeqAt.shaped (dL a) = true := by
  obtain ⟨w, c⟩ := a
  have h : PyData.strOk w = true := h
  cases c <;> simp [h, SeqAt.shaped, dL, dO, PyData.canLay0, PyData.canLayAll0, PyData.depth, PyData.depthAll]
section
variable {K : PySem.W.Frag} {σ : L2.St} {H H' : Hp} {ta tb te : TE} {x y v z : V} {a C dx : Addr} {fs : List (Str × V)} {f : Str} {g : TG} {D : Ends} {tz : TS}
theorem rv_eqD {d e : PyData} (hx : Dp K H x d) (hy : Dp K H y e) (h1 : SeqAt.shaped d = true) (h2 : SeqAt.shaped e = true) : RV (rEqD K) x y H (.bl (PyData.eqv d e)) := fun H1 k _ q => ⟨d, e, dp_mono k hx, dp_mono k hy, h1, h2, q H1 (Ex.refl H1)⟩
theorem rv_neD {d e : PyData} (hx : Dp K H x d) (hy : Dp K H y e) (h1 : SeqAt.shaped d = true) (h2 : SeqAt.shaped e = true) : RV (rNeD K) x y H (.bl (!PyData.eqv d e)) := fun H1 k _ q => ⟨d, e, dp_mono k hx, dp_mono k hy, h1, h2, q H1 (Ex.refl H1)⟩
theorem ev_lenT {p : Addr} {xs : List V} (ha : Ev ta σ H (.ref p)) (h : SqT K H p xs) : Ev (tCB (rLenS K) (tCons ta tNil)) σ H (.int (xs.length : Int)) := fun H1 e Q q =>
  ha H1 e _ fun H2 e2 => ⟨p, xs, rfl, Or.inr (ex_t (e.trans e2) h), q H2 e2⟩
/-! ### a heap without one place -/
def wo (l : Addr) (H : Hp) : Hp := fun a => if a = l then none else H a
theorem wo_ne {l b : Addr} (h : b ≠ l) : wo l H b = H b := if_neg h
theorem wo_l {l : Addr} : wo l H l = none := if_pos rfl
theorem wo_sub {l : Addr} : Ex (wo l H) H := fun b o h => by
  by_cases e : b = l
  · rw [e, wo_l] at h; cases h
  · rw [wo_ne e] at h; exact h
theorem wo_of {l : Addr} {M : Hp} (e : Ex M H) (h : M l = none) : Ex M (wo l H) := fun b o hb => by
  rw [wo_ne (ne_of_none hb h)]
  exact e b o hb
theorem wo_mut {l : Addr} {o : HO} (e : Ex H H') : Ex (wo l H) (wo l (upd H' l o)) := fun b u hb => by
  by_cases q : b = l
  · rw [q, wo_l] at hb; cases hb
  · rw [wo_ne q] at hb
    rw [wo_ne q, upd_ne q]
    exact e b u hb
theorem wo_mono {l : Addr} (e : Ex H H') : Ex (wo l H) (wo l H') := fun b u hb => by
  by_cases q : b = l
  · rw [q, wo_l] at hb; cases hb
  · rw [wo_ne q] at hb
    rw [wo_ne q]
    exact e b u hb
theorem wo_upd {l : Addr} {o : HO} : wo l (upd H l o) = wo l H := by
  funext b
  by_cases q : b = l
  · rw [q, wo_l, wo_l]
  · rw [wo_ne q, wo_ne q, upd_ne q]
/-! ### comprehensions -/
theorem given_list {α : Type} {L : List α} {p : α → Bool} {q : α → V} {f : Nat → Bool} {u : Nat → V} (h : ∀ i a, L[i]? = some a → f i = p a ∧ u i = q a) : ∀ n, n ≤ L.length → given n f u = ((L.take n).filter p).map q
  | 0, _ => by simp [given]
  | n + 1, hn => by
    have hlt : n < L.length := hn
    have ha : L[n]? = some L[n] := List.getElem?_eq_getElem hlt
    have ih := given_list h n (Nat.le_of_lt hlt)
    obtain ⟨h1, h2⟩ := h n _ ha
    have et : L.take (n + 1) = L.take n ++ [L[n]] := by rw [List.take_add_one, ha]; rfl
    rw [et, List.filter_append, List.map_append]
    cases hp : p L[n] with
    | true =>
      rw [given_yes (by rw [h1]; exact hp), ih, h2]
      simp [hp]
    | false =>
      rw [given_no (by rw [h1]; exact hp), ih]
      simp [hp]
/-- over a tuple -/
theorem el_lcT {a : Addr} {xs : List V} {tl : TE} {j : Nat} {vs : List Nat} {t : TT} (f : Nat → Bool) (u : Nat → V) (h : Ev tl σ H (.ref a)) (hx : SqT K H a xs) (hz : xs.length ≤ 40000) (hw : ∀ x, wipe ((wipe σ vs).set j (some x)) vs = wipe σ vs)
    (ht : ∀ (i : Nat) (x : V) H1, Ex H H1 → xs[i]? = some x → EvT t ((wipe σ vs).set j (some x)) H1 (f i)) (he : ∀ (i : Nat) (x : V) H1, Ex H H1 → xs[i]? = some x → f i = true → Ev te ((wipe σ vs).set j (some x)) H1 (u i)) :
    EvL (tLc (iTup K tl) (gName j) t te vs) σ H (given xs.length f u) := fun H0 e Q q => h H0 e _ fun H1 e1 => by
  refine ⟨a, rfl, ⟨xs, ex_t (e.trans e1) hx⟩, fun Dl hD => ?_⟩
  refine lc_tup (xs := xs) (Cw H1 f u Dl) ⟨hD, Ex.new hD, upd_same⟩ (fun i H' _ p => ex_t ((e.trans e1).trans p.2.1) hx) (fun i x H' hi p => ?_) (fun H' p => ?_)
  · have hlt := (List.getElem?_eq_some_iff.mp hi).1
    exact ⟨hw x, cw_turn p (by omega) (ht i x H1 (e.trans e1) hi) (fun hf => he i x H1 (e.trans e1) hi hf)⟩
  · exact q Dl H' (fresh_back e1 p.1) (e1.trans p.2.1) p.2.2
/-- an element that makes things: what it gives, told of the heap without the list that grows -/
def EvE (te : TE) (σ : L2.St) (M : Hp) (R : V → Hp → Prop) : Prop := ∀ H1 Dl acc, Ex M H1 → M Dl = none → H1 Dl = some (.lst acc) → ∀ Q : VK, (∀ y H2, Ex H1 H2 → R y (wo Dl H2) → Q y H2) → te σ H1 Q
theorem EvE.of_ev {R : V → Hp → Prop} (h : Ev te σ H v) (r : ∀ H1, Ex H H1 → R v H1) : EvE te σ H R := fun H1 Dl acc e hD hl Q q => h H1 e Q fun H2 e2 => q v H2 e2 (r _ (wo_of (e.trans e2) hD))
/-- the list ys, item by item -/
def Each (R : Nat → V → Hp → Prop) (n : Nat) (ys : List V) (H : Hp) : Prop := ys.length = n ∧ ∀ i y, ys[i]? = some y → R i y H
theorem Each.snoc {R : Nat → V → Hp → Prop} {n : Nat} {ys : List V} (mono : ∀ i y H1 H2, Ex H1 H2 → R i y H1 → R i y H2) (h : Each R n ys H) (e : Ex H H') (r : R n y H') : Each R (n + 1) (ys ++ [y]) H' := by
  refine ⟨by rw [List.length_append, h.1]; rfl, fun i u hi => ?_⟩
  by_cases hlt : i < ys.length
  · rw [List.getElem?_append_left hlt] at hi
    exact mono i u H H' e (h.2 i u hi)
  · rw [List.getElem?_append_right (by omega)] at hi
    have h0 : i - ys.length = 0 := by
      have := (List.getElem?_eq_some_iff.mp hi).1
      simp at this
      omega
    rw [h0] at hi
    have eu : y = u := Option.some.inj hi
    have ei : i = n := by rw [← h.1]; omega
    rw [← eu, ei]
    exact r
/-- [e for .. in list or tuple], every item taken -/
theorem en_lc {isT : Bool} {a : Addr} {xs : List V} {tl : TE} {vs : List Nat} {R : Nat → V → Hp → Prop} (mono : ∀ i y H1 H2, Ex H1 H2 → R i y H1 → R i y H2) (h : Ev tl σ H (.ref a)) (hx : if isT = true then SqT K H a xs else SqL K H a xs) (hz : xs.length ≤ 40000)
    (hs : ∀ (i : Nat) (x : V) M, Ex H M → xs[i]? = some x → ∃ σ2, wipe σ2 vs = wipe σ vs ∧ (∀ H1 k, Ex M H1 → k σ2 H1 → g x (wipe σ vs) H1 k) ∧ EvE te σ2 M (R i)) :
    ∀ H1, Ex H H1 → ∀ Q : VK, (∀ p ys H2, H1 p = none → Ex H1 H2 → H2 p = some (.lst ys) → Each R xs.length ys (wo p H2) → Q (.ref p) H2) → tLc (if isT = true then iTup K tl else iList K tl) g tYes te vs σ H1 Q := fun H0 e Q q => by
  have turn : ∀ (Dl : Addr) (H1 : Hp) (i : Nat) (x : V) (H' : Hp), Ex H H1 → H1 Dl = none → xs[i]? = some x → (∃ ys, H' Dl = some (.lst ys) ∧ Ex H1 H' ∧ Each R i ys (wo Dl H')) →
      g x (wipe σ vs) H' fun σ2 H2 => wipe σ2 vs = wipe σ vs ∧ tYes σ2 H2 fun b H3 => if b = true then te σ2 H3 fun y H4 => ∃ acc, H4 Dl = some (.lst acc) ∧ acc.length < sizeLine ∧ (∃ ys, (upd H4 Dl (.lst (acc ++ [y]))) Dl = some (.lst ys) ∧ Ex H1 (upd H4 Dl (.lst (acc ++ [y]))) ∧ Each R (i + 1) ys (wo Dl (upd H4 Dl (.lst (acc ++ [y]))))) else (∃ ys, H3 Dl = some (.lst ys) ∧ Ex H1 H3 ∧ Each R (i + 1) ys (wo Dl H3)) := by
    intro Dl H1 i x H' e0 hD hi ⟨ys, p1, p2, p3⟩
    obtain ⟨σ2, w2, gk, ev⟩ := hs i x (wo Dl H') (e0.trans (wo_of p2 hD)) hi
    refine gk H' _ wo_sub ⟨w2, ?_⟩
    show te σ2 H' _
    refine ev H' Dl ys wo_sub wo_l p1 _ fun y H4 e4 r => ⟨ys, e4 Dl _ p1, ?_, ys ++ [y], upd_same, Ex.mut (p2.trans e4) hD, ?_⟩
    · have hlt := (List.getElem?_eq_some_iff.mp hi).1
      have := p3.1
      exact sz_lt (by omega)
    · rw [wo_upd]
      exact p3.snoc mono (wo_mono e4) r
  cases isT with
  | true =>
    refine h H0 e _ fun H1 e1 => ⟨a, rfl, ⟨xs, ex_t (e.trans e1) hx⟩, fun Dl hD => ?_⟩
    refine lc_tup (xs := xs) (fun i H' => ∃ ys, H' Dl = some (.lst ys) ∧ Ex H1 H' ∧ Each R i ys (wo Dl H')) ⟨[], upd_same, Ex.new hD, rfl, fun i y z => nomatch z⟩ (fun i H' _ ⟨_, _, p, _⟩ => ex_t ((e.trans e1).trans p) hx) (fun i x H' hi p => turn Dl H1 i x H' (e.trans e1) hD hi p) (fun H' ⟨ys, p1, p2, p3⟩ => q Dl ys H' (fresh_back e1 hD) (e1.trans p2) p1 p3)
  | false =>
    refine h H0 e _ fun H1 e1 => ⟨a, rfl, ⟨xs, ex_l (e.trans e1) hx⟩, fun Dl hD => ?_⟩
    refine lc_list (xs := xs) (fun i H' => ∃ ys, H' Dl = some (.lst ys) ∧ Ex H1 H' ∧ Each R i ys (wo Dl H')) ⟨[], upd_same, Ex.new hD, rfl, fun i y z => nomatch z⟩ (fun i H' _ ⟨_, _, p, _⟩ => ex_l ((e.trans e1).trans p) hx) (fun i x H' hi p => turn Dl H1 i x H' (e.trans e1) hD hi p) (fun H' ⟨ys, p1, p2, p3⟩ => q Dl ys H' (fresh_back e1 hD) (e1.trans p2) p1 p3)
end
/-! ### rules that name the written part -/
section
variable {X : Cx} {K : PySem.W.Frag} {e : Expr} {te : TE} {f : Str} {pos : Pos}
theorem pe_fldK (h : X.K = K) (he : PE X e te) (hb : attributeBase e f X.env (eval e X.env) = eval e X.env) : PE X (.Attribute e f pos) (tFld K te f) := by
  subst h
  exact pe_fld he hb
theorem ix_listK (h : X.K = K) : IxR X (rIxL K) := by subst h; exact ix_list
theorem ix_tupK (h : X.K = K) : IxR X (rIxT K) := by subst h; exact ix_tup
theorem sl_listK (h : X.K = K) : SlR X (rSlL K) := by subst h; exact sl_list
theorem op_eqDK (h : X.K = K) (hu : X.A.units + 64 < cLine) : OpR X (compareOp .Eq) (rEqD K) := by subst h; exact op_eqD hu
theorem op_neDK (h : X.K = K) (hu : X.A.units + 64 < cLine) : OpR X (compareOp .NotEq) (rNeD K) := by subst h; exact op_neD hu
theorem call_len_seqK (h : X.K = K) : CallR X (.builtin "len") (rLenS K) := by subst h; exact call_len_seq
theorem pg_tupK {es : List Expr} {k : Nat} {t : TGs} {n : Nat} (h : X.K = K) (hc : X.calm = true) (hg : PGs X es t) (hn : (assignEach es X.env).length = n := by rfl)
    (hst : (assignEach es X.env).findIdx? (·.1) = none := by rfl) : PG X (.Tuple es k pos) (gTup K n t) := by
  subst h
  exact pg_tup hc hg hn hst
end
end Age

set_option Elab.async false
set_option linter.all false
set_option maxRecDepth 100000
set_option maxHeartbeats 4000000
namespace Age
open PySem PySem.Spec PyProof.Rows L2 Evl
/-! ### sep.join(reversed(x)), x an empty list -/
section
variable {prog : Program} {w : World} {A : Around} {E : Value → Shared → Prop} {s : Shared}
theorem join_rev0 {x : Str} {t : Tok} {it l : Addr} {Q : Value → Shared → Prop} (hh : A.handled = none) (hit : s.heap.IsRevIter it l (((#[] : Array Value).size : Int) - 1)) (hl : s.heap.IsList l #[]) (hne : l ≠ it)
    (hq : ∀ (h' : Heap) (k : Nat) (t' : Tok), (∀ b o, b ≠ it → s.heap.get? b = some o → h'.get? b = some o) → Q (.str (Txt.join x []) t') { s with heap := h', toks := k }) :
    wpAny (model prog w) A (call (.builtin "str.join") [.str x t, .ref it]) Q E s := by
  refine wpAny_call (codeAny_call_builtin F.slot_str_join.plain F.entry_str_join (F.slot_str_join.check _ _ _ _ _ _ _ _ (typeIs_str _ _ _) (F.args_str_join_2 _ _) ?_))
  rw [join_tree_other]
  refine wpAny_bind (wpAny_typeOf hit.typeIs ?_)
  show wpAny _ A.in1 ((pyIter (.ref it)).tryCatch _ >>= fun it => collect it >>= fun items => joinTail x items) _ _ s
  refine wpAny_bind (wpAny_tryCatch (wpAny_pyIter_revIter hit ?_))
  refine wpAny_bind (RT.collect_rev (A := A.in1) hh hit hl hne (Nat.zero_le _) fun h' tk acc hk hi => ?_)
  have e : acc.toList = strValues [] := by
    have : acc.size = 0 := hi.1
    rw [Array.eq_empty_of_size_eq_zero this]
    rfl
  rw [e]
  have g : Gives (joinTail x (strValues [])) (joinMade x []) := gives_joinTail x [] rfl
  exact g prog w A (wants Q E) { s with heap := h', toks := tk } (post_join [] ⟨joinFit_length rfl, fun t' k => hq h' k t' hk⟩)
end
def tJoinRev0 (K : PySem.W.Frag) (to te : TE) : TE := fun σ H Q => to σ H fun x H1 => ∃ a, x = .str a ∧ te σ H1 fun y H2 => ∃ l, y = .ref l ∧ SqL K H2 l [] ∧ Q (.str (Txt.join a [])) H2
theorem pe_joinRev0 {X : Cx} {o e : Expr} {to te : TE} {apos p2 pos pos2 : Pos} (hc : X.calm = true) (ho : PE X o to) (hg2 : Gl X "reversed") (hm2 : X.mg "reversed" = none) (he : PE X e te)
    (hs : starEach [.Call (.Name "reversed" p2) [e] [] pos2] X.env = [(false, eval (.Call (.Name "reversed" p2) [e] [] pos2) X.env)] := by rfl) (hs2 : starEach [e] X.env = (false, eval e X.env) :: starEach [] X.env := by rfl)
    (hbase : attributeBase o "join" X.env (eval o X.env) = eval o X.env := by rfl) (hline : (apos.endLine == pos.line) = true := by rfl) :
    PE X (.Call (.Attribute o "join" apos) [.Call (.Name "reversed" p2) [e] [] pos2] [] pos) (tJoinRev0 X.K to te) := by
  refine ⟨fun pins s σ H Q I h => ?_⟩
  refine PySem.Call_method1 hbase hs hline (thn (ho.run pins s σ H _ I h) fun v s1 ⟨x, H1, I1, r1, q1⟩ => ?_)
  obtain ⟨a, rfl, q1⟩ := q1
  obtain ⟨t, rfl⟩ := _root_.id r1
  refine ⟨"str", _, F.plainAttrs_str, F.slot_str_join, F.type_str_join, typeIs_str _ _ _, (fun _ e => nomatch e), Calls.callWith_builtin rfl (Calls.evalArgs_plain (Calls.spliced_cons ?_))⟩
  refine Call_ (ld_blt I1 hg2 hm2 PyProof.Rows.boot_reversed (PyProof.Rows.callWith_type1 (args_cons (thn (he.run pins s1 σ H1 _ I1 q1) fun u s2 ⟨y, H2, I2, r2, q2⟩ => args_nil ?_) hs2) hs2 rfl))
  obtain ⟨l, ey, hq, q⟩ := q2
  subst ey
  obtain rfl : u = Value.ref l := r2
  obtain ⟨its, rv, p', hz⟩ := I2.list hq
  cases rv
  refine call_reversed_list p'.isList (Calls.spliced_nil ?_)
  have k0 : ∀ b o, s2.heap.get? b = some o → (s2.heap.push (revObj l (((#[] : Array Value).size : Int) - 1))).get? b = some o := fun b o e => Heap.get?_push_of_some _ e
  have I3 : Inv X pins σ H2 { s2 with heap := s2.heap.push (revObj l (((#[] : Array Value).size : Int) - 1)) } := I2.kept (t' := s2.toks) k0
  obtain ⟨f0, f1, f2, f3, f4, f5⟩ := I2.fpOk (H' := H2) (b := s2.heap.objs.size) (Nat.le_refl _) (I2.hok.fresh (Nat.le_refl _))
  have hl := p'.isList
  obtain ⟨ol, hol, _⟩ := id hl
  have hne : l ≠ s2.heap.objs.size := Nat.ne_of_lt (Heap.lt_size hol)
  refine join_rev0 (s := { s2 with heap := s2.heap.push (revObj l (((#[] : Array Value).size : Int) - 1)) }) (I2.ok.hd hc) ⟨_, Heap.get?_push_size _ rfl, rfl, rfl⟩ (hl.push _) hne fun h' tk t' hk => ?_
  have I4 : Inv X pins σ H2 { s2 with heap := h', toks := tk } := I3.turned (t' := tk) (fun b o hb e => hk b o hb e) f0 f1 f3 f4 f5
  exact ⟨.str (Txt.join a []), H2, I4, ⟨t', rfl⟩, q⟩
end Age

namespace Pu
def tabDefs : List (He.Defn × PySem.Str) := [(("joined", none), "joined.<locals>.<lambda>")]
end Pu


set_option Elab.async false
set_option linter.all false
set_option maxRecDepth 100000
set_option maxHeartbeats 2000000
/-! KL: sorted(xs, key=lambda x: x[0]) over tuples that begin with an int -/
namespace Kl
open PySem PySem.Spec PyProof.Rows L2 LamX
section
variable {prog : Program} {w : World} {A : Around} {s : Shared}
theorem key_turn {f t c' : Addr} {q x : Str} {params : Arguments} {scope : Scope} {pm ctv : Value} {p1 p2 p3 : Pos} {j : Nat} {k : Int} {u : Tok} {its : List Value} (hroom : A.depth < recursionLimit)
    (hf : s.heap.get? f = some (PySem.W.kla_obj "<lambda>" q params (.Subscript (.Name x p1) (.Constant (.int 0) j p2) p3) scope [] pm c' ctv)) (hcd : s.heap.CodeRec (.ref c') q) (hlim : s.heap.NoLimit)
    (hbind : bindArgs (PySem.W.kla_fn "<lambda>" q params (.Subscript (.Name x p1) (.Constant (.int 0) j p2) p3) scope [] pm (.ref c') ctv) ⟨[.ref t], []⟩ = pure [(x, .ref t)])
    (hl : scope.names.lookup x = some .local) (hcell : ∀ y ∈ scope.names, y.2 ≠ .cell) (hk : scope.kind = .function) (hco : scope.isCoroutine = false) (hgen : scope.isGenerator = false) (hd : (x == ("__debug__" : Str)) = false)
    (ht : IsTup s.heap t (Value.int k u :: its).toArray) : wpAny (model prog w) A (call (.ref f) [.ref t]) (PySem.W.KeyPure (.int k) s) (fun _ _ => False) s := by
  refine wpAny_call ?_
  refine PySem.W.kla_callFunE hroom hf rfl hco hgen rfl hcd ?_
  rw [hbind]
  refine wpAny_pure (wpAny_newFunctionEnv hcell (fun y hy => by
    have : y = (x, Value.ref t) := by simpa using hy
    rw [this]; exact hl) (fun h₁ hns hsb => ⟨hlim.fresh _ hsb, ?_⟩) hk)
  have kp : ∀ b o, s.heap.get? b = some o → h₁.get? b = some o := fun b o e => hsb.extBut b o (Nat.ne_of_lt (Heap.lt_size e)) (Heap.get?_push_of_some _ e)
  refine PySem.W.kla_codeExpr ?_
  refine Subscript_ ?_
  refine wpAny_Name (wpAny_loadName_local hk hl hns (v := .ref t) ?_ ?_) hd
  · simp
  refine wpAny_Constant_int ?_
  refine item_tuple (j := 0) (x := .int k u) (ht.keeps kp) (by decide) (by decide) ?_ rfl ?_
  · simp [seqIndex?]
  · exact ⟨h₁, _, rfl, kp, .int _ _⟩
end
/-- what the lists of items and of their first numbers are -/
def Firsts (K : PySem.W.Frag) (H : Hp) (xs : List V) (ks : List Int) : Prop := xs.length = ks.length ∧ ∀ (i : Nat) x k, xs[i]? = some x → ks[i]? = some k → ∃ t r, x = .ref t ∧ SqT K H t (.int k :: r)
def sortedV (xs : List V) (ks : List Int) : List V := ((xs.zip ks).mergeSort fun p q => decide (p.2 ≤ q.2)).map (·.1)
def bSortK (K : PySem.W.Frag) (T : List (Addr × Str)) (v : V) (H1 : Hp) (Q : VK) : Prop := Tabs T H1 ∧ ∃ (a : Addr) (xs : List V) (ks : List Int), v = .ref a ∧ SqL K H1 a xs ∧ xs.length ≤ 100000 ∧ Firsts K H1 xs ks ∧
  ∀ H2 l, ExtN H1 H2 → Tabs T H2 → H2 l = none → Q (.ref l) (upd H2 l (.lst (sortedV xs ks)))
def tSortK (K : PySem.W.Frag) (T : List (Addr × Str)) (ta : TE) : TE := fun σ H Q => ta σ H fun v H1 => bSortK K T v H1 Q
theorem sqL_n {K : PySem.W.Frag} {H H2 : Hp} {a : Addr} {xs : List V} (e : ExtN H H2) (h : SqL K H a xs) : SqL K H2 a xs := by
  rcases h with (h | ⟨o, h⟩) | h
  · exact Or.inl (Or.inl (e _ _ h (fun _ z => by cases z)))
  · exact Or.inl (Or.inr ⟨o, e _ _ h (fun _ z => by cases z)⟩)
  · exact Or.inr h
theorem sqT_n {K : PySem.W.Frag} {H H2 : Hp} {a : Addr} {xs : List V} (e : ExtN H H2) (h : SqT K H a xs) : SqT K H2 a xs := by
  rcases h with (h | ⟨o, h⟩) | h
  · exact Or.inl (Or.inl (e _ _ h (fun _ z => by cases z)))
  · exact Or.inl (Or.inr ⟨o, e _ _ h (fun _ z => by cases z)⟩)
  · exact Or.inr h
theorem vals_each {R : Value → V × Int → Prop} : ∀ {out : List Value} {bs : List (V × Int)}, PySem.W.EachIs (fun v b => RelV b.1 v ∧ R v b) out bs → Vals (bs.map (·.1)) out
  | _, _, .nil => .nil
  | _, _, .cons a b => .cons a.1 (vals_each b)
section
variable {X : Cx} {T : List (Addr × Str)} {c P : Addr} {e : Expr} {ta : TE} {params : Arguments} {scope : Scope} {x : Str} {p p1 p2 p3 lpos kpos pos : Pos} {j : Nat}
theorem pe_sortLam (hg : Gl X "sorted") (hm : X.mg "sorted" = none) (ha : PE X e ta) (TB : TabB X.base X.mg c P) (hcode : X.env.code = .ref c) (hmT : (P, X.env.qual ++ "<lambda>") ∈ T) (hu : ∀ t ∈ T, t.1 = P → t.2 = X.env.qual ++ "<lambda>") (hr : Room 0 X.A)
    (hdef : defaultsOf params X.env = ([], [])) (hclo : cloFrom X.env.cells scope.names [] = []) (hfree : ∀ y ∈ scope.names, y.2 ≠ .free)
    (hbind : ∀ (q : Str) (pm cv ctv v : Value), bindArgs (PySem.W.kla_fn "<lambda>" q params (.Subscript (.Name x p1) (.Constant (.int 0) j p2) p3) scope [] pm cv ctv) ⟨[v], []⟩ = pure [(x, v)])
    (hl : scope.names.lookup x = some .local) (hcell : ∀ y ∈ scope.names, y.2 ≠ .cell) (hk : scope.kind = .function) (hco : scope.isCoroutine = false) (hgen : scope.isGenerator = false) (hd : (x == ("__debug__" : Str)) = false := by decide)
    (hst : starEach [e] X.env = (false, eval e X.env) :: starEach [] X.env := by rfl) (he : backTo pos (starEach [e] X.env) = (false, eval e X.env) :: backTo pos (starEach [] X.env) := by rfl) (hpl : (backTo pos (starEach [e] X.env)).any (·.1) = false := by rfl) :
    PE X (.Call (.Name "sorted" p) [e] [⟨some "key", .Lambda params (.Subscript (.Name x p1) (.Constant (.int 0) j p2) p3) scope lpos, kpos⟩] pos) (tSortK X.K T ta) := by
  refine ⟨fun pins s σ H Q I h => ?_⟩
  refine wpAny_Call_Name_kw (ld_blt I hg hm (u := .builtin "sorted") rfl ?_ (by decide) (by decide))
  have hp1 : PA X [e] (tCons ta tNil) := pa_cons ha pa_nil hst
  refine PyProof.Rows.callWith_kw (thn (hp1.run pos pins s σ H (fun vs H1 => match vs with
    | [v] => bSortK X.K T v H1 Q
    | _ => False) I h) fun us s1 ⟨vs, H1, I1, r1, hb⟩ => ?_) he hpl rfl rfl
  cases r1 with
  | nil => exact hb.elim
  | cons rv rr =>
  cases rr with
  | cons _ _ => exact hb.elim
  | nil =>
  obtain ⟨hT, a, xs, ks, rfl, hL, hlen, hF, k⟩ := hb
  obtain rfl := rv
  show wpAny _ _ (evalAll [(do let v ← eval _ X.env; standAt pos; pure v)]) _ _ s1
  refine wpAny_evalAll_cons (wpAny_bind ?_)
  refine lam_make2 I1 TB hcode hmT hu hT hdef (fun y hy z => absurd z (hfree y hy)) fun f c' pm ctv H2 s2 I2 eN T2 hf hfn hfr hco' => ?_
  refine wpAny_bind (wpAny_standAt (wpAny_pure ?_))
  refine wpAny_evalAll_nil ?_
  show wpAny _ _ (call (.builtin "sorted") [.ref a] [(Str.ofString "key", .ref f)]) _ _ s2
  rw [hclo] at hf
  obtain ⟨its, rv, hl2, hz⟩ := I2.list (sqL_n eN hL)
  obtain ⟨⟨oc, cvs, ct, e1, e2, e3⟩, _⟩ := I2.hok c' _ hco'
  have hcd : s2.heap.CodeRec (.ref c') (X.env.qual ++ "<lambda>") := ⟨c', oc, cvs, ct, rfl, e1, e2, e3⟩
  have rl := rv.length
  have each : PySem.W.EachIs (fun (v : Value) (b : V × Int) => RelV b.1 v ∧ ∃ t u us, v = .ref t ∧ IsTup s2.heap t (Value.int b.2 u :: us).toArray) its (xs.zip ks) := by
    refine PySem.W.EachIs.of_zip (by rw [List.length_zip, ← hF.1, Nat.min_self, rl]) fun z hz => ?_
    obtain ⟨zv, zb⟩ := z
    obtain ⟨i, hi⟩ := List.mem_iff_getElem?.mp hz
    rw [List.getElem?_zip_eq_some] at hi
    obtain ⟨h1, h2⟩ := hi
    rw [List.getElem?_zip_eq_some] at h2
    obtain ⟨u, hu2, ru⟩ := rv.get h2.1
    rw [h1] at hu2
    cases hu2
    refine ⟨ru, ?_⟩
    obtain ⟨t, r, e4, hS⟩ := hF.2 i _ _ h2.1 h2.2
    rw [e4] at ru
    obtain rfl := ru
    obtain ⟨us, r2, ht, _⟩ := I2.tuple (sqT_n eN hS)
    cases r2 with
    | cons q1 q2 =>
    obtain ⟨tk, rfl⟩ := q1
    exact ⟨t, tk, _, rfl, ht⟩
  refine PySem.W.sorted_key_data (b := false) (fun b : V × Int => .int b.2) hl2.isList each (PySem.W.AllAlike.of fun _ _ => by simp [PySem.W.alike]) (PySem.W.Sortable.others fun _ => ⟨by simp, by simp⟩) ?_ (fun b _ => ?_) (PyProof.Rows.ksk_s1 _ _) (fun _ => PyProof.Rows.ksk_l1 _ _) (fun _ => PyProof.Rows.ksk_t1 _ _)
    (fun v b hR _ h tk kp => ?_) fun out cc h' tk kp hfresh hD hlo eo => ?_
  · rw [List.length_zip, ← hF.1, Nat.min_self]
    exact hz
  · have := hr.un
    show X.A.units + 2 + 0 < _
    omega
  · obtain ⟨_, t, u, us, rfl, ht⟩ := hR
    exact key_turn (show X.A.depth < _ from by have := hr.dp; omega) (kp _ _ hf) (hcd.keeps kp) (I2.nolimit.keeps kp) (hbind _ _ _ _ _) hl hcell hk hco hgen hd (ht.keeps kp)
  · rw [PySem.W.dataLe_int (fun b : V × Int => b.2)] at eo
    have hv : Vals (sortedV xs ks) out := by
      unfold sortedV
      exact vals_each eo
    refine ⟨.ref (s2.heap.objs.size + 1), upd H2 (s2.heap.objs.size + 1) (.lst (sortedV xs ks)), I2.laid (t' := tk) kp (Nat.le_succ _) ⟨?_, out, cc, hv, hD⟩, rfl, k H2 _ eN T2 (I2.hok.fresh (Nat.le_succ _))⟩
    rw [hv.length, hlo, List.length_zip, ← hF.1, Nat.min_self]
    exact hz
end
end Kl

set_option Elab.async false
set_option linter.all false
set_option maxRecDepth 100000
set_option maxHeartbeats 2000000
namespace Age
open PySem PySem.Spec PyProof.Rows L2 Evl
def top (i : Nat) : Stmt := PySem.Challenge.pw_agewords_k29_whole_wordings_alike.main.body.getD i (.Pass ⟨0, 0, 0, 0⟩)
abbrev s_shift_of : Stmt := top 2
theorem sc_shift_of : FnScope ["unit", "way"] ["unit", "way"] (defScope s_shift_of) := ⟨rfl, rfl, rfl, by decide +kernel, rfl, by decide +kernel, by decide +kernel⟩
abbrev s_counted : Stmt := top 3
theorem sc_counted : FnScope ["number", "unit", "way"] ["number", "unit", "way"] (defScope s_counted) := ⟨rfl, rfl, rfl, by decide +kernel, rfl, by decide +kernel, by decide +kernel⟩
abbrev s_first_with : Stmt := top 4
theorem sc_first_with : FnScope ["count", "unit", "way"] ["count", "unit", "way"] (defScope s_first_with) := ⟨rfl, rfl, rfl, by decide +kernel, rfl, by decide +kernel, by decide +kernel⟩
abbrev s_BadAge_init : Stmt := inClass (top 9) 0
theorem sc_BadAge_init : FnScope ["self", "age"] ["self", "age"] (defScope s_BadAge_init) := ⟨rfl, rfl, rfl, by decide +kernel, rfl, by decide +kernel, by decide +kernel⟩
abbrev s_is_apart : Stmt := top 11
theorem sc_is_apart : FnScope ["low", "high", "distance"] ["low", "high", "distance"] (defScope s_is_apart) := ⟨rfl, rfl, rfl, by decide +kernel, rfl, by decide +kernel, by decide +kernel⟩
abbrev s_joined : Stmt := top 12
theorem sc_joined : FnScope ["stretches", "unbounded", "bounded", "found", "low", "high", "before", "stretch"] ["stretches"] (defScope s_joined) := ⟨rfl, rfl, rfl, by decide +kernel, rfl, by decide +kernel, by decide +kernel⟩
abbrev s_decimal : Stmt := top 22
theorem sc_decimal : FnScope ["number", "chunks"] ["number"] (defScope s_decimal) := ⟨rfl, rfl, rfl, by decide +kernel, rfl, by decide +kernel, by decide +kernel⟩
abbrev s_number_or_dash : Stmt := top 23
theorem sc_number_or_dash : FnScope ["number"] ["number"] (defScope s_number_or_dash) := ⟨rfl, rfl, rfl, by decide +kernel, rfl, by decide +kernel, by decide +kernel⟩
abbrev s_row_line : Stmt := top 24
theorem sc_row_line : FnScope ["row"] ["row"] (defScope s_row_line) := ⟨rfl, rfl, rfl, by decide +kernel, rfl, by decide +kernel, by decide +kernel⟩
abbrev s_made_of : Stmt := top 25
theorem sc_made_of : FnScope ["word", "characters", "character"] ["word", "characters"] (defScope s_made_of) := ⟨rfl, rfl, rfl, by decide +kernel, rfl, by decide +kernel, by decide +kernel⟩
abbrev s_is_number : Stmt := top 26
theorem sc_is_number : FnScope ["word"] ["word"] (defScope s_is_number) := ⟨rfl, rfl, rfl, by decide +kernel, rfl, by decide +kernel, by decide +kernel⟩
abbrev s_is_row : Stmt := top 27
theorem sc_is_row : FnScope ["words", "until", "unit", "way", "word", "part"] ["words"] (defScope s_is_row) := ⟨rfl, rfl, rfl, by decide +kernel, rfl, by decide +kernel, by decide +kernel⟩
abbrev s_value_of : Stmt := top 28
theorem sc_value_of : FnScope ["word"] ["word"] (defScope s_value_of) := ⟨rfl, rfl, rfl, by decide +kernel, rfl, by decide +kernel, by decide +kernel⟩
abbrev s_until_fits : Stmt := top 29
theorem sc_until_fits : FnScope ["until", "before", "is_last"] ["until", "before", "is_last"] (defScope s_until_fits) := ⟨rfl, rfl, rfl, by decide +kernel, rfl, by decide +kernel, by decide +kernel⟩
abbrev s_read_rows : Stmt := top 30
theorem sc_read_rows : FnScope ["text", "rows", "before", "lines", "index", "line", "words", "until", "word"] ["text"] (defScope s_read_rows) := ⟨rfl, rfl, rfl, by decide +kernel, rfl, by decide +kernel, by decide +kernel⟩
abbrev s_Row_init : Stmt := inClass (top 32) 0
theorem sc_Row_init : FnScope ["self", "until", "unit", "way", "word"] ["self", "until", "unit", "way", "word"] (defScope s_Row_init) := ⟨rfl, rfl, rfl, by decide +kernel, rfl, by decide +kernel, by decide +kernel⟩
abbrev s_Row_eq : Stmt := inClass (top 32) 1
theorem sc_Row_eq : FnScope ["self", "other"] ["self", "other"] (defScope s_Row_eq) := ⟨rfl, rfl, rfl, by decide +kernel, rfl, by decide +kernel, by decide +kernel⟩
abbrev s_Span_init : Stmt := inClass (top 33) 0
theorem sc_Span_init : FnScope ["self", "low", "high", "row", "is_fresh"] ["self", "low", "high", "row", "is_fresh"] (defScope s_Span_init) := ⟨rfl, rfl, rfl, by decide +kernel, rfl, by decide +kernel, by decide +kernel⟩
abbrev s_Span_limited : Stmt := inClass (top 33) 1
theorem sc_Span_limited : FnScope ["self", "age"] ["self", "age"] (defScope s_Span_limited) := ⟨rfl, rfl, rfl, by decide +kernel, rfl, by decide +kernel, by decide +kernel⟩
abbrev s_Span_edge_after : Stmt := inClass (top 33) 2
theorem sc_Span_edge_after : FnScope ["self", "age", "count", "edge"] ["self", "age"] (defScope s_Span_edge_after) := ⟨rfl, rfl, rfl, by decide +kernel, rfl, by decide +kernel, by decide +kernel⟩
abbrev s_Span_last_edge_until : Stmt := inClass (top 33) 3
theorem sc_Span_last_edge_until : FnScope ["self", "age"] ["self", "age"] (defScope s_Span_last_edge_until) := ⟨rfl, rfl, rfl, by decide +kernel, rfl, by decide +kernel, by decide +kernel⟩
abbrev s_Span_number_until : Stmt := inClass (top 33) 4
theorem sc_Span_number_until : FnScope ["self", "age", "number"] ["self", "age"] (defScope s_Span_number_until) := ⟨rfl, rfl, rfl, by decide +kernel, rfl, by decide +kernel, by decide +kernel⟩
abbrev s_Span_stretch_with : Stmt := inClass (top 33) 5
theorem sc_Span_stretch_with : FnScope ["self", "word", "count", "low", "high"] ["self", "word", "count"] (defScope s_Span_stretch_with) := ⟨rfl, rfl, rfl, by decide +kernel, rfl, by decide +kernel, by decide +kernel⟩
abbrev s_Span_edge_shared : Stmt := inClass (top 33) 6
theorem sc_Span_edge_shared : FnScope ["self", "earlier"] ["self", "earlier"] (defScope s_Span_edge_shared) := ⟨rfl, rfl, rfl, by decide +kernel, rfl, by decide +kernel, by decide +kernel⟩
abbrev s_Wording_init : Stmt := inClass (top 34) 0
theorem sc_Wording_init : FnScope ["self", "rows"] ["self", "rows"] (defScope s_Wording_init) := ⟨rfl, rfl, rfl, by decide +kernel, rfl, by decide +kernel, by decide +kernel⟩
abbrev s_Wording_eq : Stmt := inClass (top 34) 1
theorem sc_Wording_eq : FnScope ["self", "other"] ["self", "other"] (defScope s_Wording_eq) := ⟨rfl, rfl, rfl, by decide +kernel, rfl, by decide +kernel, by decide +kernel⟩
abbrev s_Wording_str : Stmt := inClass (top 34) 2
theorem sc_Wording_str : FnScope ["self", "row"] ["self"] (defScope s_Wording_str) := ⟨rfl, rfl, rfl, by decide +kernel, rfl, by decide +kernel, by decide +kernel⟩
abbrev s_Wording_read : Stmt := inClass (top 34) 3
theorem sc_Wording_read : FnScope ["cls", "text", "until", "unit", "way", "word"] ["cls", "text"] (defScope s_Wording_read) := ⟨rfl, rfl, rfl, by decide +kernel, rfl, by decide +kernel, by decide +kernel⟩
abbrev s_Wording_label : Stmt := inClass (top 34) 4
theorem sc_Wording_label : FnScope ["self", "age", "row"] ["self", "age"] (defScope s_Wording_label) := ⟨rfl, rfl, rfl, by decide +kernel, rfl, by decide +kernel, by decide +kernel⟩
abbrev s_Wording_text : Stmt := inClass (top 34) 5
theorem sc_Wording_text : FnScope ["self", "age", "word", "count"] ["self", "age"] (defScope s_Wording_text) := ⟨rfl, rfl, rfl, by decide +kernel, rfl, by decide +kernel, by decide +kernel⟩
abbrev s_Wording_later_edge : Stmt := inClass (top 34) 6
theorem sc_Wording_later_edge : FnScope ["self", "age", "span", "edge"] ["self", "age"] (defScope s_Wording_later_edge) := ⟨rfl, rfl, rfl, by decide +kernel, rfl, by decide +kernel, by decide +kernel⟩
abbrev s_Wording_last_edge : Stmt := inClass (top 34) 7
theorem sc_Wording_last_edge : FnScope ["self", "age"] ["self", "age"] (defScope s_Wording_last_edge) := ⟨rfl, rfl, rfl, by decide +kernel, rfl, by decide +kernel, by decide +kernel⟩
abbrev s_Wording_edges : Stmt := inClass (top 34) 8
theorem sc_Wording_edges : FnScope ["self", "low", "high"] ["self", "low", "high"] (defScope s_Wording_edges) := ⟨rfl, rfl, rfl, by decide +kernel, rfl, by decide +kernel, by decide +kernel⟩
abbrev s_Wording_ages : Stmt := inClass (top 34) 9
theorem sc_Wording_ages : FnScope ["self", "label", "word", "count", "stretches", "span", "stretch"] ["self", "label"] (defScope s_Wording_ages) := ⟨rfl, rfl, rfl, by decide +kernel, rfl, by decide +kernel, by decide +kernel⟩
abbrev s_Wording_returns : Stmt := inClass (top 34) 10
theorem sc_Wording_returns : FnScope ["self"] ["self"] (defScope s_Wording_returns) := ⟨rfl, rfl, rfl, by decide +kernel, rfl, by decide +kernel, by decide +kernel⟩
abbrev s_demand_age : Stmt := top 35
theorem sc_demand_age : FnScope ["age"] ["age"] (defScope s_demand_age) := ⟨rfl, rfl, rfl, by decide +kernel, rfl, by decide +kernel, by decide +kernel⟩
abbrev s_check_untils : Stmt := top 36
theorem sc_check_untils : FnScope ["rows", "before", "index", "row", "is_last"] ["rows"] (defScope s_check_untils) := ⟨rfl, rfl, rfl, by decide +kernel, rfl, by decide +kernel, by decide +kernel⟩
abbrev s_row_of : Stmt := top 37
theorem sc_row_of : FnScope ["rows", "age", "row"] ["rows", "age"] (defScope s_row_of) := ⟨rfl, rfl, rfl, by decide +kernel, rfl, by decide +kernel, by decide +kernel⟩
abbrev s_count_in : Stmt := top 38
theorem sc_count_in : FnScope ["row", "age"] ["row", "age"] (defScope s_count_in) := ⟨rfl, rfl, rfl, by decide +kernel, rfl, by decide +kernel, by decide +kernel⟩
abbrev s_spans_of : Stmt := top 39
theorem sc_spans_of : FnScope ["rows", "spans", "low", "shown", "row", "label", "is_fresh"] ["rows"] (defScope s_spans_of) := ⟨rfl, rfl, rfl, by decide +kernel, rfl, by decide +kernel, by decide +kernel⟩
abbrev s_number_of_edges : Stmt := top 40
theorem sc_number_of_edges : FnScope ["spans", "age", "span"] ["spans", "age"] (defScope s_number_of_edges) := ⟨rfl, rfl, rfl, by decide +kernel, rfl, by decide +kernel, by decide +kernel⟩
abbrev s_alike : Stmt := top 42
theorem sc_alike : FnScope ["one", "other", "start", "age"] ["one", "other"] (defScope s_alike) := ⟨rfl, rfl, rfl, by decide +kernel, rfl, by decide +kernel, by decide +kernel⟩
abbrev s_starts : Stmt := top 43
theorem sc_starts : FnScope ["one", "other", "span"] ["one", "other"] (defScope s_starts) := ⟨rfl, rfl, rfl, by decide +kernel, rfl, by decide +kernel, by decide +kernel⟩
abbrev s_ages_to_try : Stmt := top 44
theorem sc_ages_to_try : FnScope ["one", "other", "start", "ages", "age"] ["one", "other", "start"] (defScope s_ages_to_try) := ⟨rfl, rfl, rfl, by decide +kernel, rfl, by decide +kernel, by decide +kernel⟩
abbrev s_next_edge : Stmt := top 45
theorem sc_next_edge : FnScope ["one", "other", "age", "edges", "edge"] ["one", "other", "age"] (defScope s_next_edge) := ⟨rfl, rfl, rfl, by decide +kernel, rfl, by decide +kernel, by decide +kernel⟩
abbrev s__law_pen : Stmt := top 47
theorem sc__law_pen : FnScope ["_law_script"] ["_law_script"] (defScope s__law_pen) := ⟨rfl, rfl, rfl, by decide +kernel, rfl, by decide +kernel, by decide +kernel⟩
abbrev s__law_draw : Stmt := top 48
theorem sc__law_draw : FnScope ["_law_pen_here", "_law_many", "_law_digit", "_law_at", "_law_cell", "_law_mixed"] ["_law_pen_here", "_law_many"] (defScope s__law_draw) := ⟨rfl, rfl, rfl, by decide +kernel, rfl, by decide +kernel, by decide +kernel⟩
abbrev s__law_pick : Stmt := top 49
theorem sc__law_pick : FnScope ["_law_pen_here", "_law_items"] ["_law_pen_here", "_law_items"] (defScope s__law_pick) := ⟨rfl, rfl, rfl, by decide +kernel, rfl, by decide +kernel, by decide +kernel⟩
abbrev s__law_number : Stmt := top 50
theorem sc__law_number : FnScope ["_law_pen_here"] ["_law_pen_here"] (defScope s__law_number) := ⟨rfl, rfl, rfl, by decide +kernel, rfl, by decide +kernel, by decide +kernel⟩
abbrev s__law_way : Stmt := top 51
theorem sc__law_way : FnScope ["_law_pen_here"] ["_law_pen_here"] (defScope s__law_way) := ⟨rfl, rfl, rfl, by decide +kernel, rfl, by decide +kernel, by decide +kernel⟩
abbrev s__law_rows : Stmt := top 52
theorem sc__law_rows : FnScope ["_law_pen_here", "_law_most", "_law_words", "_law_rows_here", "_law_before", "_law_many", "_law_k", "_law_unit", "_law_word"] ["_law_pen_here", "_law_most", "_law_words"] (defScope s__law_rows) := ⟨rfl, rfl, rfl, by decide +kernel, rfl, by decide +kernel, by decide +kernel⟩
abbrev s__law_times : Stmt := top 53
theorem sc__law_times : FnScope ["_law_rows_here", "_law_factor", "_law_found", "_law_until", "_law_unit", "_law_way_here", "_law_word"] ["_law_rows_here", "_law_factor"] (defScope s__law_times) := ⟨rfl, rfl, rfl, by decide +kernel, rfl, by decide +kernel, by decide +kernel⟩
abbrev s__law_made : Stmt := top 54
theorem sc__law_made : FnScope ["_law_rows_here", "_law_until", "_law_unit", "_law_way_here", "_law_word"] ["_law_rows_here"] (defScope s__law_made) := ⟨rfl, rfl, rfl, by decide +kernel, rfl, by decide +kernel, by decide +kernel⟩
abbrev s__law_count : Stmt := top 55
theorem sc__law_count : FnScope ["_law_unit", "_law_way_here", "_law_age"] ["_law_unit", "_law_way_here", "_law_age"] (defScope s__law_count) := ⟨rfl, rfl, rfl, by decide +kernel, rfl, by decide +kernel, by decide +kernel⟩
abbrev s__law_row_of : Stmt := top 56
theorem sc__law_row_of : FnScope ["_law_rows_here", "_law_age", "_law_k"] ["_law_rows_here", "_law_age"] (defScope s__law_row_of) := ⟨rfl, rfl, rfl, by decide +kernel, rfl, by decide +kernel, by decide +kernel⟩
abbrev s__law_label : Stmt := top 57
theorem sc__law_label : FnScope ["_law_rows_here", "_law_age", "_law_until", "_law_unit", "_law_way_here", "_law_word"] ["_law_rows_here", "_law_age"] (defScope s__law_label) := ⟨rfl, rfl, rfl, by decide +kernel, rfl, by decide +kernel, by decide +kernel⟩
abbrev s__law_split : Stmt := top 58
theorem sc__law_split : FnScope ["_law_pen_here", "_law_rows_here", "_law_k", "_law_low", "_law_until", "_law_unit", "_law_way_here", "_law_word", "_law_at"] ["_law_pen_here", "_law_rows_here"] (defScope s__law_split) := ⟨rfl, rfl, rfl, by decide +kernel, rfl, by decide +kernel, by decide +kernel⟩
abbrev s__law_bent : Stmt := top 59
theorem sc__law_bent : FnScope ["_law_pen_here", "_law_rows_here", "_law_k", "_law_sort", "_law_until", "_law_unit", "_law_way_here", "_law_word", "_law_low"] ["_law_pen_here", "_law_rows_here"] (defScope s__law_bent) := ⟨rfl, rfl, rfl, by decide +kernel, rfl, by decide +kernel, by decide +kernel⟩
abbrev s__law_first_unlike : Stmt := top 60
theorem sc__law_first_unlike : FnScope ["_law_one", "_law_other", "_law_untils", "_law_counted", "_law_age", "_law_row"] ["_law_one", "_law_other"] (defScope s__law_first_unlike) := ⟨rfl, rfl, rfl, by decide +kernel, rfl, by decide +kernel, by decide +kernel⟩
abbrev s_law : Stmt := top 61
theorem sc_law : FnScope ["_law_script", "_law_pen_here", "_law_turn", "_law_one", "_law_other", "_law_change", "_law_due", "_law_mine", "_law_yours", "_law_factor", "_law_great", "_law_row"] ["_law_script"] (defScope s_law) := ⟨rfl, rfl, rfl, by decide +kernel, rfl, by decide +kernel, by decide +kernel⟩
end Age

set_option Elab.async false
set_option linter.all false
set_option maxRecDepth 100000
set_option maxHeartbeats 2000000
namespace Age
open PySem PySem.Spec PyProof.Rows L2 Evl
/-! ### rounding -/
def shiftOf (u : Int) (w : Str) : Int := if w = "down" then 0 else if w = "up" then u - 1 else u / 2
def cnt (n u : Int) (w : Str) : Int := (n + shiftOf u w) / u
def fst (c u : Int) (w : Str) : Int := c * u - shiftOf u w
theorem shiftOf_bd {u : Int} (w : Str) (h : 0 < u) : 0 ≤ shiftOf u w ∧ shiftOf u w < u := by
  unfold shiftOf
  split
  · omega
  split
  · omega
  · omega
def spShift : Sp := fun vs H Q _ => ∃ (u : Int) (w : Str), vs = [.int u, .str w] ∧ RetV (.int (shiftOf u w)) H Q
theorem spv_shift {u : Int} {w : Str} {H : Hp} : SpV spShift [.int u, .str w] H (.int (shiftOf u w)) := fun H1 e Q q E => ⟨u, w, rfl, q⟩
def spCounted : Sp := fun vs H Q _ => ∃ (n u : Int) (w : Str), vs = [.int n, .int u, .str w] ∧ 0 < u ∧ Sm u ∧ RetV (.int (cnt n u w)) H Q
theorem spv_counted {n u : Int} {w : Str} {H : Hp} (h : 0 < u) (h2 : Sm u) : SpV spCounted [.int n, .int u, .str w] H (.int (cnt n u w)) := fun H1 e Q q E => ⟨n, u, w, rfl, h, h2, q⟩
def spFirst : Sp := fun vs H Q _ => ∃ (c u : Int) (w : Str), vs = [.int c, .int u, .str w] ∧ Sm c ∧ Sm u ∧ RetV (.int (fst c u w)) H Q
theorem spv_first {c u : Int} {w : Str} {H : Hp} (h : Sm c) (h2 : Sm u) : SpV spFirst [.int c, .int u, .str w] H (.int (fst c u w)) := fun H1 e Q q E => ⟨c, u, w, rfl, h, h2, q⟩
section
variable {P : Program} {w : World} {K : PySem.W.Frag} {mg : Str → Option Value} {base : Heap}
theorem ok_shift {f : Addr} {fd : FuncData} (F : Fn K "shift_of" "shift_of" s_shift_of f fd) : FnOk P w K mg base CX0 1 f fd ["unit", "way"] spShift := by
  refine F.ok sc_shift_of (fun vs H Q E h => ?_) (fun cdv A outer s H vs Q E hr h => ?_)
  · obtain ⟨u, w, rfl, _⟩ := h; rfl
  · obtain ⟨u, w, rfl, k⟩ := h
    refine ⟨_, PSs.nox (pss_cons (ps_if (pt_cmpR op_eq (pv 1) pe_str (nomark _)) (pss_one (ps_ret pe_int)) pss_nil) (pss_cons (ps_if (pt_cmpR op_eq (pv 1) pe_str (nomark _)) (pss_one (ps_ret (pe_op op_sub (pv 0) pe_int))) pss_nil) (pss_one (ps_ret (pe_op op_fdivW (pv 0) pe_int))))), ?_⟩
    refine q_when (et_test (ev_op (ev_var rfl) ev_c (rv_eq rfl))) (fun hb H1 e1 => ?_) (fun hb H1 e1 => ?_)
    · have e : shiftOf u w = 0 := if_pos (V.str.inj (of_decide_eq_true hb))
      rw [e] at k
      exact s_ret ev_c fun H2 e2 => k H2 (e1.trans e2)
    · have n1 : ¬ w = "down" := fun z => of_decide_eq_false hb (by rw [z])
      refine q_when (et_test (ev_op (ev_var rfl) ev_c (rv_eq rfl))) (fun hb2 H2 e2 => ?_) (fun hb2 H2 e2 => ?_)
      · have e : shiftOf u w = u - 1 := by unfold shiftOf; rw [if_neg n1, if_pos (V.str.inj (of_decide_eq_true hb2))]
        rw [e] at k
        exact s_ret (ev_op (ev_var rfl) ev_c rv_I0) fun H3 e3 => k H3 ((e1.trans e2).trans e3)
      · have n2 : ¬ w = "up" := fun z => of_decide_eq_false hb2 (by rw [z])
        have e : shiftOf u w = u / 2 := by unfold shiftOf; rw [if_neg n1, if_neg n2]
        rw [e] at k
        exact s_ret (ev_op (ev_var rfl) ev_c (rv_I ⟨by decide, by decide⟩)) fun H3 e3 => k H3 ((e1.trans e2).trans e3)
theorem ok_counted {f : Addr} {fd : FuncData} (F : Fn K "counted" "counted" s_counted f fd) (c1 : Cal P w K mg base CX0 1 "shift_of" ["unit", "way"] spShift) : FnOk P w K mg base CX0 2 f fd ["number", "unit", "way"] spCounted := by
  obtain ⟨f1, fd1, G_shift_of, m_shift_of, k_shift_of, b_shift_of⟩ := c1.ex
  refine F.ok sc_counted (fun vs H Q E h => ?_) (fun cdv A outer s H vs Q E hr h => ?_)
  · obtain ⟨n, u, w, rfl, _⟩ := h; rfl
  · obtain ⟨n, u, w, rfl, hu, hs, k⟩ := h
    refine ⟨_, PSs.nox (pss_one (ps_ret (pe_op op_fdivW (pe_op op_add (pv 0) (pe_call G_shift_of (hr.mono (by decide)) rfl m_shift_of k_shift_of b_shift_of .nil pass0 (pa_cons (pv 1) (pa_cons (pv 2) pa_nil)))) (pv 1)))), ?_⟩
    exact s_ret (ev_op (ev_op (ev_var rfl) (ev_call (ea_cons (ev_var rfl) (ea_cons (ev_var rfl) ea_nil)) spv_shift) rv_I0) (ev_var rfl) (rv_I (hs.div hu))) k
theorem ok_first {f : Addr} {fd : FuncData} (F : Fn K "first_with" "first_with" s_first_with f fd) (c1 : Cal P w K mg base CX0 1 "shift_of" ["unit", "way"] spShift) : FnOk P w K mg base CX0 2 f fd ["count", "unit", "way"] spFirst := by
  obtain ⟨f1, fd1, G_shift_of, m_shift_of, k_shift_of, b_shift_of⟩ := c1.ex
  refine F.ok sc_first_with (fun vs H Q E h => ?_) (fun cdv A outer s H vs Q E hr h => ?_)
  · obtain ⟨n, u, w, rfl, _⟩ := h; rfl
  · obtain ⟨n, u, w, rfl, h1, h2, k⟩ := h
    refine ⟨_, PSs.nox (pss_one (ps_ret (pe_op op_sub (pe_op op_mulW (pv 0) (pv 1)) (pe_call G_shift_of (hr.mono (by decide)) rfl m_shift_of k_shift_of b_shift_of .nil pass0 (pa_cons (pv 1) (pa_cons (pv 2) pa_nil)))))), ?_⟩
    exact s_ret (ev_op (ev_op (ev_var rfl) (ev_var rfl) (rv_I (h1.mul h2))) (ev_call (ea_cons (ev_var rfl) (ea_cons (ev_var rfl) ea_nil)) spv_shift) rv_I0) k
end
end Age

set_option Elab.async false
set_option linter.all false
set_option maxRecDepth 100000
set_option maxHeartbeats 2000000
namespace Age
open PySem PySem.Spec PyProof.Rows L2 Evl
/-! ### what stands in the heap -/
structure RowD where
  til : Option Int
  unit : Option Int
  way : Str
  word : Str
structure SpanD where
  low : Int
  high : Option Int
  row : RowD
  fresh : Bool
def oV : Option Int → V
  | none => .non
  | some i => .int i
def rowF (r : RowD) : List (Str × V) := [("until", oV r.til), ("unit", oV r.unit), ("way", .str r.way), ("word", .str r.word)]
def spanF (s : SpanD) (q : Addr) : List (Str × V) := [("low", .int s.low), ("high", oV s.high), ("row", .ref q), ("is_fresh", .bl s.fresh)]
def wordF (a b : Addr) : List (Str × V) := [("rows", .ref a), ("spans", .ref b)]
def RowAt (cR : Addr) (H : Hp) (p : Addr) (r : RowD) : Prop := ∃ dx, H p = some (.ins cR dx (rowF r))
def SpanAt (cR cS : Addr) (H : Hp) (p : Addr) (s : SpanD) : Prop := ∃ dx q, H p = some (.ins cS dx (spanF s q)) ∧ RowAt cR H q s.row
theorem RowAt.mono {cR : Addr} {H H' : Hp} {p : Addr} {r : RowD} (e : Ex H H') (h : RowAt cR H p r) : RowAt cR H' p r := let ⟨dx, z⟩ := h; ⟨dx, e _ _ z⟩
theorem SpanAt.mono {cR cS : Addr} {H H' : Hp} {p : Addr} {r : SpanD} (e : Ex H H') (h : SpanAt cR cS H p r) : SpanAt cR cS H' p r := let ⟨dx, q, z, y⟩ := h; ⟨dx, q, e _ _ z, y.mono e⟩
/-- ages, untils, units: not too great -/
def Ag (i : Int) : Prop := 0 ≤ i ∧ i < 1361129467683753853853498429727072845824
theorem Ag.sm {i : Int} (h : Ag i) : Sm i := by unfold Ag at h; unfold Sm; omega
structure RowOk (r : RowD) : Prop where
  un : ∀ u, r.unit = some u → 0 < u ∧ Ag u
  wd : PyData.strOk r.word = true
/-! ### rules -/
section
variable {K : PySem.W.Frag} {σ : L2.St} {H : Hp} {ta tb te : TE} {x y v z : V} {a C dx : Addr} {fs : List (Str × V)} {f : Str}
theorem ev_meth {m : Str} {sp : Sp} {dvs vs : List V} {E : XK} {t : TA} (ha : Ev ta σ H (.ref a)) (h : H a = some (.ins C dx fs)) (l : fs.lookup m = none) (ht : EvA t σ H vs) (hs : SpV sp (.ref a :: (vs ++ dvs)) H z) : Ev (tMeth C m sp dvs E ta t) σ H z := fun H1 e Q q =>
  ha H1 e _ fun H2 e2 => ⟨a, dx, fs, rfl, (e.trans e2) a _ h, l, ht H2 (e.trans e2) _ fun H3 e3 => hs H3 ((e.trans e2).trans e3) Q (fun H4 e4 => q H4 ((e2.trans e3).trans e4)) E⟩
/-- a new object -/
def EvN (te : TE) (σ : L2.St) (H : Hp) (P : Addr → Hp → Prop) : Prop := ∀ H1, Ex H H1 → ∀ Q : VK, (∀ p H2, H1 p = none → Ex H1 H2 → P p H2 → Q (.ref p) H2) → te σ H1 Q
/-- an __init__'s promise: at a new instance, the attributes fs -/
def InitTo (sp : Sp) (C : Addr) (vs : List V) (H : Hp) (fs : List (Str × V)) : Prop := ∀ H1, Ex H H1 → ∀ (p dx : Addr), H1 p = some (.ins C dx []) → (H p = none) → ∀ (Q : VK) (E : XK), (∀ H2, (∀ b o, b ≠ p → H1 b = some o → H2 b = some o) → H2 p = some (.ins C dx fs) → Q .non H2) → sp (.ref p :: vs) H1 Q E
theorem en_make {sp : Sp} {vs dvs : List V} {E : XK} {t : TA} (ht : EvA t σ H vs) (hi : InitTo sp C (vs ++ dvs) H fs) : EvN (tMake C sp dvs E t) σ H (fun p H2 => ∃ dx, H2 p = some (.ins C dx fs)) := fun H1 e Q q =>
  ht H1 e _ fun H2 e2 p dx hp hdx hne => by
    have s0 : Ex H2 (upd (upd H2 dx (.own p)) p (.ins C dx [])) := (Ex.new hdx).trans (Ex.new (by rw [upd_ne hne.symm]; exact hp))
    refine hi _ ((e.trans e2).trans s0) p dx upd_same (fresh_back (e.trans e2) hp) _ _ fun H3 k h3 => ⟨rfl, q p H3 (fresh_back e2 hp) (fun b o hb => ?_) ⟨dx, h3⟩⟩
    have e3 := e2 b o hb
    exact k b o (ne_of_none e3 hp) (s0 b o e3)
theorem s_retN {P : Addr → Hp → Prop} {D : Ends} (h : EvN te σ H P) (k : ∀ p H1, H p = none → Ex H H1 → P p H1 → D.rt (.ref p) H1) : tRet te D σ H := h H (Ex.refl H) _ k
end
section
variable {P : Program} {w : World} {K : PySem.W.Frag} {mg : Str → Option Value} {base : Heap} {cR cS cW : Addr}
/-! ### Row.__init__, Span.__init__ -/
def spRowI (cR : Addr) : Sp := fun vs H Q _ => ∃ (p dx : Addr) (r : RowD), vs = [.ref p, oV r.til, oV r.unit, .str r.way, .str r.word] ∧ H p = some (.ins cR dx []) ∧ ∀ H2, (∀ b o, b ≠ p → H b = some o → H2 b = some o) → H2 p = some (.ins cR dx (rowF r)) → Q .non H2
theorem init_row {r : RowD} {H : Hp} : InitTo (spRowI cR) cR [oV r.til, oV r.unit, .str r.way, .str r.word] H (rowF r) := fun H1 e p dx h _ Q E k => ⟨p, dx, r, rfl, h, k⟩
theorem ok_row {f : Addr} {fd : FuncData} (F : Fn K "__init__" "Row.__init__" s_Row_init f fd) (T : Tx K mg cR cS cW) : FnOk P w K mg base CX0 1 f fd ["self", "until", "unit", "way", "word"] (spRowI cR) := by
  refine F.ok sc_Row_init (fun vs H Q E h => ?_) (fun cdv A outer s H vs Q E hr h => ?_)
  · obtain ⟨p, dx, r, rfl, _⟩ := h; rfl
  · obtain ⟨p, dx, r, rfl, h, k⟩ := h
    refine ⟨_, PSs.nox (pss_cons (ps_fld (pv 0) (pv 1) rfl) (pss_cons (ps_fld (pv 0) (pv 2) rfl) (pss_cons (ps_fld (pv 0) (pv 3) rfl) (pss_one (ps_fld (pv 0) (pv 4) rfl))))), ?_⟩
    refine ⟨_, rfl, _, rfl, p, cR, dx, _, rfl, h, T.row, T.r1, (by decide), _, rfl, _, rfl, p, cR, dx, _, rfl, upd_same, T.row, T.r2, (by show 1 < 1000; decide), _, rfl, _, rfl, p, cR, dx, _, rfl, upd_same, T.row, T.r3, (by show 2 < 1000; decide), _, rfl, _, rfl, p, cR, dx, _, rfl, upd_same, T.row, T.r4, (by show 3 < 1000; decide), ?_⟩
    refine k _ (fun b o hb z => ?_) upd_same
    rw [upd_ne hb, upd_ne hb, upd_ne hb, upd_ne hb]
    exact z
def spSpanI (cS : Addr) : Sp := fun vs H Q _ => ∃ (p dx q : Addr) (s : SpanD), vs = [.ref p, .int s.low, oV s.high, .ref q, .bl s.fresh] ∧ H p = some (.ins cS dx []) ∧ ∀ H2, (∀ b o, b ≠ p → H b = some o → H2 b = some o) → H2 p = some (.ins cS dx (spanF s q)) → Q .non H2
theorem init_span {s : SpanD} {q : Addr} {H : Hp} : InitTo (spSpanI cS) cS [.int s.low, oV s.high, .ref q, .bl s.fresh] H (spanF s q) := fun H1 e p dx h _ Q E k => ⟨p, dx, q, s, rfl, h, k⟩
theorem ok_spanI {f : Addr} {fd : FuncData} (F : Fn K "__init__" "Span.__init__" s_Span_init f fd) (T : Tx K mg cR cS cW) : FnOk P w K mg base CX0 1 f fd ["self", "low", "high", "row", "is_fresh"] (spSpanI cS) := by
  refine F.ok sc_Span_init (fun vs H Q E h => ?_) (fun cdv A outer s H vs Q E hr h => ?_)
  · obtain ⟨p, dx, q, r, rfl, _⟩ := h; rfl
  · obtain ⟨p, dx, q, r, rfl, h, k⟩ := h
    refine ⟨_, PSs.nox (pss_cons (ps_fld (pv 0) (pv 1) rfl) (pss_cons (ps_fld (pv 0) (pv 2) rfl) (pss_cons (ps_fld (pv 0) (pv 3) rfl) (pss_one (ps_fld (pv 0) (pv 4) rfl))))), ?_⟩
    refine ⟨_, rfl, _, rfl, p, cS, dx, _, rfl, h, T.span, T.s1, (by decide), _, rfl, _, rfl, p, cS, dx, _, rfl, upd_same, T.span, T.s2, (by show 1 < 1000; decide), _, rfl, _, rfl, p, cS, dx, _, rfl, upd_same, T.span, T.s3, (by show 2 < 1000; decide), _, rfl, _, rfl, p, cS, dx, _, rfl, upd_same, T.span, T.s4, (by show 3 < 1000; decide), ?_⟩
    refine k _ (fun b o hb z => ?_) upd_same
    rw [upd_ne hb, upd_ne hb, upd_ne hb, upd_ne hb]
    exact z
/-! ### count_in -/
def cntO (r : RowD) (n : Int) : Option Int := r.unit.map fun u => cnt n u r.way
def spCountIn (cR : Addr) : Sp := fun vs H Q _ => ∃ (p : Addr) (r : RowD) (n : Int), vs = [.ref p, .int n] ∧ RowAt cR H p r ∧ RowOk r ∧ RetV (oV (cntO r n)) H Q
theorem spv_countIn {p : Addr} {r : RowD} {n : Int} {H : Hp} (h : RowAt cR H p r) (o : RowOk r) : SpV (spCountIn cR) [.ref p, .int n] H (oV (cntO r n)) := fun H1 e Q q E => ⟨p, r, n, rfl, h.mono e, o, q⟩
theorem ok_countIn {f : Addr} {fd : FuncData} (F : Fn K "count_in" "count_in" s_count_in f fd) (T : Tx K mg cR cS cW) (c1 : Cal P w K mg base CX0 2 "counted" ["number", "unit", "way"] spCounted) : FnOk P w K mg base CX0 3 f fd ["row", "age"] (spCountIn cR) := by
  obtain ⟨f1, fd1, G_counted, m_counted, k_counted, b_counted⟩ := c1.ex
  refine F.ok sc_count_in (fun vs H Q E h => ?_) (fun cdv A outer s H vs Q E hr h => ?_)
  · obtain ⟨p, r, n, rfl, _⟩ := h; rfl
  · obtain ⟨p, ⟨til, unit, way, word⟩, n, rfl, ⟨dx, h⟩, o, k⟩ := h
    refine ⟨_, PSs.nox (pss_one (ps_ret (pe_ifExp (pt_cmp (pc_isN (pe_fld (pv 0) rfl))) pe_non (pe_call G_counted (hr.mono (by decide)) rfl m_counted k_counted b_counted .nil pass0 (pa_cons (pv 1) (pa_cons (pe_fld (pv 0) rfl) (pa_cons (pe_fld (pv 0) rfl) pa_nil))))))), ?_⟩
    have fu : Ev (tFld K (tVar 0) "unit") (start ["row", "age"] [.ref p, .int n]) H (oV unit) := ev_fld (ev_var rfl) h T.row T.r2 rfl
    have fw : Ev (tFld K (tVar 0) "way") (start ["row", "age"] [.ref p, .int n]) H (.str way) := ev_fld (ev_var rfl) h T.row T.r3 rfl
    cases unit with
    | none => exact s_ret (ev_if (et_B (ev_isN fu)) (fun _ => ev_c) (fun z => Bool.noConfusion z)) k
    | some u =>
      have ⟨u0, u1⟩ := o.un u rfl
      exact s_ret (ev_if (et_B (ev_isN fu)) (fun z => Bool.noConfusion z) (fun _ => ev_call (ea_cons (ev_var rfl) (ea_cons fu (ea_cons fw ea_nil))) (spv_counted u0 u1.sm))) k
end
end Age

set_option Elab.async false
set_option linter.all false
set_option maxRecDepth 100000
set_option maxHeartbeats 2000000
namespace Age
open PySem PySem.Spec PyProof.Rows L2 Evl
/-! ### the methods of Span -/
def limO (s : SpanD) (age : Int) : Int := match s.high with
  | none => age
  | some h => if h < age then h else age
def edgeAfter (s : SpanD) (age : Int) : Option Int := if s.fresh = true ∧ age < s.low then some s.low else match s.row.unit with
  | none => none
  | some u => match s.high with
    | none => some (fst (cnt (if s.low > age then s.low else age) u s.row.way + 1) u s.row.way)
    | some h => if fst (cnt (if s.low > age then s.low else age) u s.row.way + 1) u s.row.way ≤ h then some (fst (cnt (if s.low > age then s.low else age) u s.row.way + 1) u s.row.way) else none
def numUntil (s : SpanD) (age : Int) : Int := match s.row.unit with
  | none => if s.fresh = true then 1 else 0
  | some u => (if s.fresh = true then 1 else 0) + cnt (limO s age) u s.row.way - cnt s.low u s.row.way
def stretchWith (s : SpanD) (word : Str) (count : Option Int) : Option (Int × Option Int) :=
  if s.row.word = word then match s.row.unit, count with
    | none, none => some (s.low, s.high)
    | some u, some c => if (if fst c u s.row.way > s.low then fst c u s.row.way else s.low) ≤ limO s (fst (c + 1) u s.row.way - 1) then some (if fst c u s.row.way > s.low then fst c u s.row.way else s.low, some (limO s (fst (c + 1) u s.row.way - 1))) else none
    | _, _ => none
  else none
structure SpanOk (s : SpanD) : Prop where
  row : RowOk s.row
  lo : Ag s.low
  hi : ∀ h, s.high = some h → Ag h
theorem cnt_bd {n u : Int} (w : Str) (hn : 0 ≤ n) (hu : 0 < u) : 0 ≤ cnt n u w ∧ cnt n u w ≤ n + u := by
  have hs := shiftOf_bd w hu
  unfold cnt
  refine ⟨Int.ediv_nonneg (by omega) (by omega), ?_⟩
  have := Int.ediv_le_self (a := n + shiftOf u w) u (by omega)
  omega
theorem et_orT {σ : L2.St} {H : Hp} {t u : TT} (h1 : EvT t σ H true) : EvT (tOr t u) σ H true := fun H1 e Q q => h1 H1 e _ fun H2 e2 => q H2 e2
def spLimited (cR cS : Addr) : Sp := fun vs H Q _ => ∃ (p : Addr) (s : SpanD) (n : Int), vs = [.ref p, .int n] ∧ SpanAt cR cS H p s ∧ RetV (.int (limO s n)) H Q
theorem spv_limited {cR cS p : Addr} {s : SpanD} {n : Int} {H : Hp} (h : SpanAt cR cS H p s) : SpV (spLimited cR cS) [.ref p, .int n] H (.int (limO s n)) := fun H1 e Q q E => ⟨p, s, n, rfl, h.mono e, q⟩
def spEdgeAfter (cR cS : Addr) : Sp := fun vs H Q _ => ∃ (p : Addr) (s : SpanD) (n : Int), vs = [.ref p, .int n] ∧ SpanAt cR cS H p s ∧ SpanOk s ∧ Ag n ∧ RetV (oV (edgeAfter s n)) H Q
theorem spv_edgeAfter {cR cS p : Addr} {s : SpanD} {n : Int} {H : Hp} (h : SpanAt cR cS H p s) (o : SpanOk s) (hn : Ag n) : SpV (spEdgeAfter cR cS) [.ref p, .int n] H (oV (edgeAfter s n)) := fun H1 e Q q E => ⟨p, s, n, rfl, h.mono e, o, hn, q⟩
def spNumUntil (cR cS : Addr) : Sp := fun vs H Q _ => ∃ (p : Addr) (s : SpanD) (n : Int), vs = [.ref p, .int n] ∧ SpanAt cR cS H p s ∧ SpanOk s ∧ Ag n ∧ RetV (.int (numUntil s n)) H Q
theorem spv_numUntil {cR cS p : Addr} {s : SpanD} {n : Int} {H : Hp} (h : SpanAt cR cS H p s) (o : SpanOk s) (hn : Ag n) : SpV (spNumUntil cR cS) [.ref p, .int n] H (.int (numUntil s n)) := fun H1 e Q q E => ⟨p, s, n, rfl, h.mono e, o, hn, q⟩
/-- what a stretch comes back as: None, or a new pair -/
def RetS (o : Option (Int × Option Int)) (H : Hp) (Q : VK) : Prop := match o with
  | none => RetV .non H Q
  | some (lo, hi) => ∀ p H2, H p = none → Ex H H2 → H2 p = some (.tup [.int lo, oV hi]) → Q (.ref p) H2
theorem RetS.mono {o : Option (Int × Option Int)} {H H' : Hp} {Q : VK} (e : Ex H H') (h : RetS o H Q) : RetS o H' Q := by
  cases o with
  | none => exact fun H2 e2 => h H2 (e.trans e2)
  | some x => exact fun p H2 hp e2 hh => h p H2 (fresh_back e hp) (e.trans e2) hh
def Cok (count : Option Int) : Prop := ∀ c, count = some c → Sm c ∧ Sm (c + 1)
def spStretch (cR cS : Addr) : Sp := fun vs H Q _ => ∃ (p : Addr) (s : SpanD) (word : Str) (count : Option Int), vs = [.ref p, .str word, oV count] ∧ SpanAt cR cS H p s ∧ SpanOk s ∧ Cok count ∧ RetS (stretchWith s word count) H Q
section
variable {P : Program} {w : World} {K : PySem.W.Frag} {mg : Str → Option Value} {base : Heap} {cR cS cW : Addr}
theorem ok_limited {f : Addr} {fd : FuncData} (F : Fn K "limited" "Span.limited" s_Span_limited f fd) (T : Tx K mg cR cS cW) (B : Bn mg) : FnOk P w K mg base CX0 1 f fd ["self", "age"] (spLimited cR cS) := by
  refine F.ok sc_Span_limited (fun vs H Q E h => ?_) (fun cdv A outer s H vs Q E hr h => ?_)
  · obtain ⟨p, s, n, rfl, _⟩ := h; rfl
  · obtain ⟨p, ⟨lo, hi, row, fr⟩, n, rfl, ⟨dx, q, h, hr2⟩, k⟩ := h
    refine ⟨_, PSs.nox (pss_one (ps_ret (pe_ifExp (pt_cmp (pc_isN (pe_fld (pv 0) rfl))) (pv 1) (pe_callB (call_min2 rfl) (by rfl) B.min (by decide +kernel) (pa_cons (pv 1) (pa_cons (pe_fld (pv 0) rfl) pa_nil)))))), ?_⟩
    have fh : Ev (tFld K (tVar 0) "high") (start ["self", "age"] [.ref p, .int n]) H (oV hi) := ev_fld (ev_var rfl) h T.span T.s2 rfl
    cases hi with
    | none => exact s_ret (ev_if (et_B (ev_isN fh)) (fun _ => ev_var rfl) (fun z => Bool.noConfusion z)) k
    | some hh => exact s_ret (ev_if (et_B (ev_isN fh)) (fun z => Bool.noConfusion z) (fun _ => ev_min2 (ev_var rfl) fh)) k
theorem ok_edgeAfter {f : Addr} {fd : FuncData} (F : Fn K "edge_after" "Span.edge_after" s_Span_edge_after f fd) (T : Tx K mg cR cS cW) (B : Bn mg) (c1 : Cal P w K mg base CX0 3 "count_in" ["row", "age"] (spCountIn cR)) (c2 : Cal P w K mg base CX0 2 "first_with" ["count", "unit", "way"] spFirst) :
    FnOk P w K mg base CX0 4 f fd ["self", "age"] (spEdgeAfter cR cS) := by
  obtain ⟨f1, fd1, G_count_in, m_count_in, k_count_in, b_count_in⟩ := c1.ex
  obtain ⟨f2, fd2, G_first_with, m_first_with, k_first_with, b_first_with⟩ := c2.ex
  refine F.ok sc_Span_edge_after (fun vs H Q E h => ?_) (fun cdv A outer s H vs Q E hr h => ?_)
  · obtain ⟨p, s, n, rfl, _⟩ := h; rfl
  · obtain ⟨p, ⟨lo, hi, ⟨til, unit, way, word⟩, fr⟩, n, rfl, ⟨dx, q, h, ⟨dy, hr2⟩⟩, o, hn, k⟩ := h
    have olo : Ag lo := o.lo
    refine ⟨_, PSs.nox (pss_cons (ps_if (PW.pt (pw_and (pt_val (pe_fld (pv 0) rfl)) (pw_and1 (pt_cmpR op_lt (pv 1) (pe_fld (pv 0) rfl) (nomark _))))) (pss_one (ps_ret (pe_fld (pv 0) rfl))) pss_nil) (pss_cons (ps_if (pt_cmp (pc_isN (pe_fld (pe_fld (pv 0) rfl) rfl))) (pss_one (ps_ret pe_non)) pss_nil) (pss_cons (ps_set (i := 2) sc_Span_edge_after.nd rfl (Or.inl rfl) (pe_call G_count_in (hr.mono (by decide)) rfl m_count_in k_count_in b_count_in .nil pass0 (pa_cons (pe_fld (pv 0) rfl) (pa_cons (pe_callB (call_max2 rfl) (by rfl) B.max (by decide +kernel) (pa_cons (pv 1) (pa_cons (pe_fld (pv 0) rfl) pa_nil))) pa_nil)))) (pss_cons (ps_set (i := 3) sc_Span_edge_after.nd rfl (Or.inl rfl) (pe_call G_first_with (hr.mono (by decide)) rfl m_first_with k_first_with b_first_with .nil pass0 (pa_cons (pe_op op_add (pv 2) pe_int) (pa_cons (pe_fld (pe_fld (pv 0) rfl) rfl) (pa_cons (pe_fld (pe_fld (pv 0) rfl) rfl) pa_nil))))) (pss_one (ps_ret (pe_ifExp (PW.pt (pw_or (pt_cmp (pc_isN (pe_fld (pv 0) rfl))) (pw_or1 (pt_cmpR op_le (pv 3) (pe_fld (pv 0) rfl) (nomark _))))) (pv 3) pe_non))))))), ?_⟩
    have vl : ∀ σ, σ[0]? = some (some (V.ref p)) → Ev (tFld K (tVar 0) "low") σ H (.int lo) := fun σ hs => ev_fld (ev_var hs) h T.span T.s1 rfl
    have vh : ∀ σ, σ[0]? = some (some (V.ref p)) → Ev (tFld K (tVar 0) "high") σ H (oV hi) := fun σ hs => ev_fld (ev_var hs) h T.span T.s2 rfl
    have vf : ∀ σ, σ[0]? = some (some (V.ref p)) → Ev (tFld K (tVar 0) "is_fresh") σ H (.bl fr) := fun σ hs => ev_fld (ev_var hs) h T.span T.s4 rfl
    have vr : ∀ σ, σ[0]? = some (some (V.ref p)) → Ev (tFld K (tVar 0) "row") σ H (.ref q) := fun σ hs => ev_fld (ev_var hs) h T.span T.s3 rfl
    have vu : ∀ σ, σ[0]? = some (some (V.ref p)) → Ev (tFld K (tFld K (tVar 0) "row") "unit") σ H (oV unit) := fun σ hs => ev_fld (vr σ hs) hr2 T.row T.r2 rfl
    have vw : ∀ σ, σ[0]? = some (some (V.ref p)) → Ev (tFld K (tFld K (tVar 0) "row") "way") σ H (.str way) := fun σ hs => ev_fld (vr σ hs) hr2 T.row T.r3 rfl
    refine q_when (et_and (et_B (vf _ rfl)) (fun _ => et_test (ev_op (ev_var rfl) (vl _ rfl) rv_I0))) (fun hb H1 e1 => ?_) (fun hb H1 e1 => ?_)
    · have hb2 := Bool.and_eq_true_iff.mp hb
      have e : edgeAfter ⟨lo, hi, ⟨til, unit, way, word⟩, fr⟩ n = some lo := if_pos ⟨hb2.1, of_decide_eq_true hb2.2⟩
      rw [e] at k
      exact s_ret ((vl _ rfl).mono e1) fun H2 e2 => k H2 (e1.trans e2)
    · have ec : ¬ (fr = true ∧ n < lo) := fun z => by rw [z.1, decide_eq_true z.2] at hb; exact Bool.noConfusion hb
      have e : edgeAfter ⟨lo, hi, ⟨til, unit, way, word⟩, fr⟩ n = _ := if_neg ec
      rw [e] at k
      cases unit with
      | none =>
        refine q_when (et_B (ev_isN ((vu _ rfl).mono e1))) (fun hb H2 e2 => ?_) (fun hb => Bool.noConfusion hb)
        exact s_ret ev_c fun H3 e3 => k H3 ((e1.trans e2).trans e3)
      | some u =>
        have ⟨u0, u1⟩ := o.row.un u rfl
        refine q_when (et_B (ev_isN ((vu _ rfl).mono e1))) (fun hb => Bool.noConfusion hb) (fun hb H2 e2 => ?_)
        have e12 := e1.trans e2
        have om : 0 ≤ (if lo > n then lo else n) ∧ (if lo > n then lo else n) < 1361129467683753853853498429727072845824 := by
          unfold Ag at hn olo
          split <;> omega
        have hc := cnt_bd way om.1 u0
        have rA : RowAt cR H q ⟨til, some u, way, word⟩ := ⟨dy, hr2⟩
        refine q_asg (ev_call (ea_cons ((vr _ rfl).mono e12) (ea_cons (ev_max2 (ev_var rfl) ((vl _ rfl).mono e12)) ea_nil)) (spv_countIn (rA.mono e12) o.row)) (fun H3 e3 => ?_)
        have e13 := e12.trans e3
        refine q_asg (ev_call (ea_cons (ev_op (ev_var rfl) ev_c rv_I0) (ea_cons ((vu _ rfl).mono e13) (ea_cons ((vw _ rfl).mono e13) ea_nil))) (spv_first (show Sm (cnt (if lo > n then lo else n) u way + 1) by unfold Sm; unfold Ag at u1; omega) u1.sm)) (fun H4 e4 => ?_)
        have e14 := e13.trans e4
        cases hi with
        | none =>
          exact s_ret (ev_if (b := true) (et_orT (et_B (ev_isN ((vh _ rfl).mono e14)))) (fun _ => ev_var rfl) (fun z => Bool.noConfusion z)) fun H5 e5 => k H5 (e14.trans e5)
        | some hh =>
          refine s_ret (ev_if (et_or (et_B (ev_isN ((vh _ rfl).mono e14))) (fun _ => et_test (ev_op (ev_var rfl) ((vh _ rfl).mono e14) rv_I0))) (fun hb => ?_) (fun hb => ?_)) fun H5 e5 => k H5 (e14.trans e5)
          · have hb' : fst (cnt (if lo > n then lo else n) u way + 1) u way ≤ hh := of_decide_eq_true hb
            show Ev _ _ _ (oV (if _ then _ else _))
            rw [if_pos hb']
            exact ev_var rfl
          · have hb' : ¬ fst (cnt (if lo > n then lo else n) u way + 1) u way ≤ hh := of_decide_eq_false hb
            show Ev _ _ _ (oV (if _ then _ else _))
            rw [if_neg hb']
            exact ev_c
theorem ok_numUntil {f : Addr} {fd : FuncData} (F : Fn K "number_until" "Span.number_until" s_Span_number_until f fd) (T : Tx K mg cR cS cW) (B : Bn mg) (c1 : Cal P w K mg base CX0 3 "count_in" ["row", "age"] (spCountIn cR)) (c2 : Met P w K mg base CX0 1 cS "limited" ["self", "age"] (spLimited cR cS)) :
    FnOk P w K mg base CX0 4 f fd ["self", "age"] (spNumUntil cR cS) := by
  obtain ⟨f1, fd1, G_count_in, m_count_in, k_count_in, b_count_in⟩ := c1.ex
  obtain ⟨f2, fd2, G_Span_limited, M_Span_limited, b_Span_limited⟩ := c2.ex
  refine F.ok sc_Span_number_until (fun vs H Q E h => ?_) (fun cdv A outer s H vs Q E hr h => ?_)
  · obtain ⟨p, s, n, rfl, _⟩ := h; rfl
  · obtain ⟨p, ⟨lo, hi, ⟨til, unit, way, word⟩, fr⟩, n, rfl, sA, o, hn, k⟩ := h
    obtain ⟨dx, q, h, ⟨dy, hr2⟩⟩ := id sA
    refine ⟨_, PSs.nox (pss_cons (ps_set (i := 2) sc_Span_number_until.nd rfl (Or.inl rfl) (pe_ifExp (pt_val (pe_fld (pv 0) rfl)) pe_int pe_int)) (pss_cons (ps_if (pt_cmp (pc_isN (pe_fld (pe_fld (pv 0) rfl) rfl))) (pss_one (ps_ret (pv 2))) pss_nil) (pss_one (ps_ret (pe_op op_sub (pe_op op_add (pv 2) (pe_call G_count_in (hr.mono (by decide)) rfl m_count_in k_count_in b_count_in .nil pass0 (pa_cons (pe_fld (pv 0) rfl) (pa_cons (pe_meth (pv 0) T.span M_Span_limited G_Span_limited (hr.mono (by decide)) b_Span_limited .nil pass0 (pa_cons (pv 1) pa_nil)) pa_nil)))) (pe_call G_count_in (hr.mono (by decide)) rfl m_count_in k_count_in b_count_in .nil pass0 (pa_cons (pe_fld (pv 0) rfl) (pa_cons (pe_fld (pv 0) rfl) pa_nil)))))))), ?_⟩
    have vl : ∀ σ, σ[0]? = some (some (V.ref p)) → Ev (tFld K (tVar 0) "low") σ H (.int lo) := fun σ hs => ev_fld (ev_var hs) h T.span T.s1 rfl
    have vf : ∀ σ, σ[0]? = some (some (V.ref p)) → Ev (tFld K (tVar 0) "is_fresh") σ H (.bl fr) := fun σ hs => ev_fld (ev_var hs) h T.span T.s4 rfl
    have vr : ∀ σ, σ[0]? = some (some (V.ref p)) → Ev (tFld K (tVar 0) "row") σ H (.ref q) := fun σ hs => ev_fld (ev_var hs) h T.span T.s3 rfl
    have vu : ∀ σ, σ[0]? = some (some (V.ref p)) → Ev (tFld K (tFld K (tVar 0) "row") "unit") σ H (oV unit) := fun σ hs => ev_fld (vr σ hs) hr2 T.row T.r2 rfl
    refine q_asg (v := .int (if fr = true then 1 else 0)) (ev_if (et_B (vf _ rfl)) (fun hb => by rw [if_pos hb]; exact ev_c) (fun hb => by rw [if_neg (by rw [hb]; decide)]; exact ev_c)) (fun H1 e1 => ?_)
    have rA : RowAt cR H q ⟨til, unit, way, word⟩ := ⟨dy, hr2⟩
    cases unit with
    | none =>
      refine q_when (et_B (ev_isN ((vu _ rfl).mono e1))) (fun hb H2 e2 => ?_) (fun hb => Bool.noConfusion hb)
      exact s_ret (ev_var rfl) fun H3 e3 => k H3 ((e1.trans e2).trans e3)
    | some u =>
      refine q_when (et_B (ev_isN ((vu _ rfl).mono e1))) (fun hb => Bool.noConfusion hb) (fun hb H2 e2 => ?_)
      have e12 := e1.trans e2
      refine s_ret (ev_op (ev_op (ev_var rfl) (ev_call (ea_cons ((vr _ rfl).mono e12) (ea_cons (ev_meth (ev_var rfl) (e12 _ _ h) rfl (ea_cons (ev_var rfl) ea_nil) (spv_limited (sA.mono e12))) ea_nil)) (spv_countIn (rA.mono e12) o.row)) rv_I0) (ev_call (ea_cons ((vr _ rfl).mono e12) (ea_cons ((vl _ rfl).mono e12) ea_nil)) (spv_countIn (rA.mono e12) o.row)) rv_I0) fun H3 e3 => k H3 (e12.trans e3)
theorem ok_stretch {f : Addr} {fd : FuncData} (F : Fn K "stretch_with" "Span.stretch_with" s_Span_stretch_with f fd) (T : Tx K mg cR cS cW) (B : Bn mg) (c1 : Cal P w K mg base CX0 2 "first_with" ["count", "unit", "way"] spFirst) (c2 : Met P w K mg base CX0 1 cS "limited" ["self", "age"] (spLimited cR cS)) :
    FnOk P w K mg base CX0 3 f fd ["self", "word", "count"] (spStretch cR cS) := by
  obtain ⟨f1, fd1, G_first_with, m_first_with, k_first_with, b_first_with⟩ := c1.ex
  obtain ⟨f2, fd2, G_Span_limited, M_Span_limited, b_Span_limited⟩ := c2.ex
  refine F.ok sc_Span_stretch_with (fun vs H Q E h => ?_) (fun cdv A outer s H vs Q E hr h => ?_)
  · obtain ⟨p, s, wd, n, rfl, _⟩ := h; rfl
  · obtain ⟨p, ⟨lo, hi, ⟨til, unit, way, word⟩, fr⟩, wd, count, rfl, sA, o, hn, k⟩ := h
    obtain ⟨dx, q, h, ⟨dy, hr2⟩⟩ := id sA
    refine ⟨_, PSs.nox (pss_cons (ps_if (PW.pt (pw_or (pt_cmpR op_ne (pe_fld (pe_fld (pv 0) rfl) rfl) (pv 1) (nomark _)) (pw_or1 (pt_cmpR op_ne (pe_cmp (pc_isN (pe_fld (pe_fld (pv 0) rfl) rfl)) rfl) (pe_cmp (pc_isN (pv 2)) rfl) (nomark _))))) (pss_one (ps_ret pe_non)) pss_nil) (pss_cons (ps_if (pt_cmp (pc_isN (pv 2))) (pss_one (ps_ret (pe_tup (pa_cons (pe_fld (pv 0) rfl) (pa_cons (pe_fld (pv 0) rfl) pa_nil))))) pss_nil) (pss_cons (ps_set (i := 3) sc_Span_stretch_with.nd rfl (Or.inl rfl) (pe_callB (call_max2 rfl) (by rfl) B.max (by decide +kernel) (pa_cons (pe_fld (pv 0) rfl) (pa_cons (pe_call G_first_with (hr.mono (by decide)) rfl m_first_with k_first_with b_first_with .nil pass0 (pa_cons (pv 2) (pa_cons (pe_fld (pe_fld (pv 0) rfl) rfl) (pa_cons (pe_fld (pe_fld (pv 0) rfl) rfl) pa_nil)))) pa_nil)))) (pss_cons (ps_set (i := 4) sc_Span_stretch_with.nd rfl (Or.inl rfl) (pe_meth (pv 0) T.span M_Span_limited G_Span_limited (hr.mono (by decide)) b_Span_limited .nil pass0 (pa_cons (pe_op op_sub (pe_call G_first_with (hr.mono (by decide)) rfl m_first_with k_first_with b_first_with .nil pass0 (pa_cons (pe_op op_add (pv 2) pe_int) (pa_cons (pe_fld (pe_fld (pv 0) rfl) rfl) (pa_cons (pe_fld (pe_fld (pv 0) rfl) rfl) pa_nil)))) pe_int) pa_nil))) (pss_one (ps_ret (pe_ifExp (pt_cmpR op_le (pv 3) (pv 4) (nomark _)) (pe_tup (pa_cons (pv 3) (pa_cons (pv 4) pa_nil))) pe_non))))))), ?_⟩
    have vl : ∀ σ, σ[0]? = some (some (V.ref p)) → Ev (tFld K (tVar 0) "low") σ H (.int lo) := fun σ hs => ev_fld (ev_var hs) h T.span T.s1 rfl
    have vh : ∀ σ, σ[0]? = some (some (V.ref p)) → Ev (tFld K (tVar 0) "high") σ H (oV hi) := fun σ hs => ev_fld (ev_var hs) h T.span T.s2 rfl
    have vr : ∀ σ, σ[0]? = some (some (V.ref p)) → Ev (tFld K (tVar 0) "row") σ H (.ref q) := fun σ hs => ev_fld (ev_var hs) h T.span T.s3 rfl
    have vu : ∀ σ, σ[0]? = some (some (V.ref p)) → Ev (tFld K (tFld K (tVar 0) "row") "unit") σ H (oV unit) := fun σ hs => ev_fld (vr σ hs) hr2 T.row T.r2 rfl
    have vw : ∀ σ, σ[0]? = some (some (V.ref p)) → Ev (tFld K (tFld K (tVar 0) "row") "way") σ H (.str way) := fun σ hs => ev_fld (vr σ hs) hr2 T.row T.r3 rfl
    have vo : ∀ σ, σ[0]? = some (some (V.ref p)) → Ev (tFld K (tFld K (tVar 0) "row") "word") σ H (.str word) := fun σ hs => ev_fld (vr σ hs) hr2 T.row T.r4 rfl
    refine q_when (et_or (et_test (ev_op (vo _ rfl) (ev_var rfl) (rv_ne rfl))) (fun _ => et_test (ev_op (ev_isN (vu _ rfl)) (ev_isN (ev_var rfl)) (rv_ne rfl)))) (fun hb H1 e1 => ?_) (fun hb H1 e1 => ?_)
    · have e : stretchWith ⟨lo, hi, ⟨til, unit, way, word⟩, fr⟩ wd count = none := by
        unfold stretchWith
        by_cases hw : word = wd
        · rw [if_pos hw]
          subst hw
          cases unit with
          | none =>
            cases count with
            | none => exact absurd hb (by simp)
            | some c => rfl
          | some u =>
            cases count with
            | none => rfl
            | some c => exact absurd hb (by simp [oV])
        · rw [if_neg hw]
      rw [e] at k
      exact s_ret ev_c fun H2 e2 => k H2 (e1.trans e2)
    · obtain ⟨hb1, hb2⟩ := Bool.or_eq_false_iff.mp hb
      have hw : word = wd := by
        have z : decide (V.str word = V.str wd) = true := by rw [Bool.not_eq_false'] at hb1; exact hb1
        exact V.str.inj (of_decide_eq_true z)
      subst hw
      cases unit with
      | none =>
        cases count with
        | some c => exact absurd hb2 (by simp [oV])
        | none =>
          refine q_when (et_B (ev_isN (ev_var rfl))) (fun hb H2 e2 => ?_) (fun hb => Bool.noConfusion hb)
          have e : stretchWith ⟨lo, hi, ⟨til, none, way, word⟩, fr⟩ word none = some (lo, hi) := if_pos rfl
          rw [e] at k
          have e12 := e1.trans e2
          exact s_retU (eu_tup (ea_cons ((vl _ rfl).mono e12) (ea_cons ((vh _ rfl).mono e12) ea_nil)) (by show 2 ≤ 100000; decide)) fun p H3 hp e3 h3 => k p H3 (fresh_back e12 hp) (e12.trans e3) h3
      | some u =>
        cases count with
        | none => exact absurd hb2 (by simp [oV])
        | some c =>
          have ⟨u0, u1⟩ := o.row.un u rfl
          have ⟨c1, c2⟩ := hn c rfl
          refine q_when (et_B (ev_isN (ev_var rfl))) (fun hb => Bool.noConfusion hb) (fun hb H2 e2 => ?_)
          have e12 := e1.trans e2
          refine q_asg (ev_max2 ((vl _ rfl).mono e12) (ev_call (ea_cons (ev_var rfl) (ea_cons ((vu _ rfl).mono e12) (ea_cons ((vw _ rfl).mono e12) ea_nil))) (spv_first c1 u1.sm))) (fun H3 e3 => ?_)
          have e13 := e12.trans e3
          refine q_asg (ev_meth (ev_var rfl) (e13 _ _ h) rfl (ea_cons (ev_op (ev_call (ea_cons (ev_op (ev_var rfl) ev_c rv_I0) (ea_cons ((vu _ rfl).mono e13) (ea_cons ((vw _ rfl).mono e13) ea_nil))) (spv_first c2 u1.sm)) ev_c rv_I0) ea_nil) (spv_limited (sA.mono e13))) (fun H4 e4 => ?_)
          have e14 := e13.trans e4
          have e : stretchWith ⟨lo, hi, ⟨til, some u, way, word⟩, fr⟩ word (some c) = _ := if_pos rfl
          rw [e] at k
          by_cases hc : (if fst c u way > lo then fst c u way else lo) ≤ limO ⟨lo, hi, ⟨til, some u, way, word⟩, fr⟩ (fst (c + 1) u way - 1)
          · have k' : RetS (if _ then _ else _) H Q := k
            rw [if_pos hc] at k'
            refine (et_test (ev_op (ev_var rfl) (ev_var rfl) rv_I0)) H4 (Ex.refl H4) _ fun H5 e5 => ?_
            rw [if_pos (decide_eq_true hc)]
            exact (eu_tup (ea_cons (ev_var rfl) (ea_cons (ev_var rfl) ea_nil)) (by show 2 ≤ 100000; decide)) H5 (Ex.refl H5) _ fun p H6 hp e6 h6 => k' p H6 (fresh_back (e14.trans e5) hp) ((e14.trans e5).trans e6) h6
          · have k' : RetS (if _ then _ else _) H Q := k
            rw [if_neg hc] at k'
            refine (et_test (ev_op (ev_var rfl) (ev_var rfl) rv_I0)) H4 (Ex.refl H4) _ fun H5 e5 => ?_
            rw [if_neg (by rw [decide_eq_false hc]; decide)]
            exact k' H5 (e14.trans e5)
end
end Age

set_option Elab.async false
set_option linter.all false
set_option maxRecDepth 100000
set_option maxHeartbeats 4000000
namespace Age
open PySem PySem.Spec PyProof.Rows L2 Evl
/-! ### the rows of a wording, its spans -/
def RowsAt (cR : Addr) (H : Hp) (xs : List V) (rows : List RowD) : Prop := xs.length = rows.length ∧ ∀ (i : Nat) (r : RowD), rows[i]? = some r → ∃ p, xs[i]? = some (V.ref p) ∧ RowAt cR H p r
def SpansAt (cR cS : Addr) (H : Hp) (xs : List V) (ss : List SpanD) : Prop := xs.length = ss.length ∧ ∀ (i : Nat) (s : SpanD), ss[i]? = some s → ∃ p, xs[i]? = some (V.ref p) ∧ SpanAt cR cS H p s
theorem RowsAt.mono {cR : Addr} {H H' : Hp} {xs : List V} {rows : List RowD} (e : Ex H H') (h : RowsAt cR H xs rows) : RowsAt cR H' xs rows := ⟨h.1, fun i r q => let ⟨p, a, b⟩ := h.2 i r q; ⟨p, a, b.mono e⟩⟩
theorem SpansAt.mono {cR cS : Addr} {H H' : Hp} {xs : List V} {ss : List SpanD} (e : Ex H H') (h : SpansAt cR cS H xs ss) : SpansAt cR cS H' xs ss := ⟨h.1, fun i r q => let ⟨p, a, b⟩ := h.2 i r q; ⟨p, a, b.mono e⟩⟩
theorem at_rel {α : Type} {xs : List V} {L : List α} {i : Nat} {x : V} (hl : xs.length = L.length) (h : xs[i]? = some x) : ∃ a, L[i]? = some a :=
  ⟨_, List.getElem?_eq_getElem (by rw [← hl]; exact (List.getElem?_eq_some_iff.mp h).1)⟩
theorem RowsAt.get {cR : Addr} {H : Hp} {xs : List V} {rows : List RowD} (h : RowsAt cR H xs rows) {i : Nat} {x : V} (hx : xs[i]? = some x) : ∃ p r, x = .ref p ∧ rows[i]? = some r ∧ RowAt cR H p r := by
  obtain ⟨r, hr⟩ := at_rel h.1 hx
  obtain ⟨p, hp, ha⟩ := h.2 i r hr
  rw [hx] at hp
  exact ⟨p, r, Option.some.inj hp, hr, ha⟩
theorem SpansAt.get {cR cS : Addr} {H : Hp} {xs : List V} {ss : List SpanD} (h : SpansAt cR cS H xs ss) {i : Nat} {x : V} (hx : xs[i]? = some x) : ∃ p r, x = .ref p ∧ ss[i]? = some r ∧ SpanAt cR cS H p r := by
  obtain ⟨r, hr⟩ := at_rel h.1 hx
  obtain ⟨p, hp, ha⟩ := h.2 i r hr
  rw [hx] at hp
  exact ⟨p, r, Option.some.inj hp, hr, ha⟩
/-- untils that rise from b on, none behind the last -/
inductive UOk : Int → List RowD → Prop
  | last {b : Int} {r : RowD} : r.til = none → UOk b [r]
  | more {b t : Int} {r : RowD} {rs : List RowD} : r.til = some t → b < t → UOk t rs → UOk b (r :: rs)
theorem UOk.ne {b : Int} {rs : List RowD} (h : UOk b rs) : rs ≠ [] := by cases h <;> simp
structure RowsOk (rows : List RowD) : Prop where
  u : UOk 0 rows
  r : ∀ r ∈ rows, RowOk r ∧ ∀ t, r.til = some t → Ag t
  n : rows.length ≤ 1000
theorem RowsOk.at_ {rows : List RowD} (h : RowsOk rows) {i : Nat} {r : RowD} (hi : rows[i]? = some r) : RowOk r ∧ ∀ t, r.til = some t → Ag t := h.r r (List.mem_of_getElem? hi)
def spansFrom : Int → Option (Str × Option Int) → List RowD → List SpanD
  | _, _, [] => []
  | low, shown, r :: rs => match r.til with
    | none => ⟨low, none, r, decide (0 < low) && !decide (some (r.word, cntO r low) = shown)⟩ :: spansFrom low shown rs
    | some t => ⟨low, some (t - 1), r, decide (0 < low) && !decide (some (r.word, cntO r low) = shown)⟩ :: spansFrom t (some (r.word, cntO r (t - 1))) rs
def WordAt (cR cS cW : Addr) (H : Hp) (p : Addr) (rows : List RowD) : Prop := ∃ dx ta tb xs ys, H p = some (.ins cW dx (wordF ta tb)) ∧ H ta = some (.tup xs) ∧ RowsAt cR H xs rows ∧ H tb = some (.tup ys) ∧ SpansAt cR cS H ys (spansFrom 0 none rows)
theorem WordAt.mono {cR cS cW : Addr} {H H' : Hp} {p : Addr} {rows : List RowD} (e : Ex H H') (h : WordAt cR cS cW H p rows) : WordAt cR cS cW H' p rows :=
  let ⟨dx, ta, tb, xs, ys, a, b, c, d, f⟩ := h; ⟨dx, ta, tb, xs, ys, e _ _ a, e _ _ b, c.mono e, e _ _ d, f.mono e⟩
section
variable {K : PySem.W.Frag} {σ : L2.St} {H : Hp} {ta te : TE} {D : Ends} {tz : TS}
theorem s_appN {l : Addr} {xs : List V} {P : Addr → Hp → Prop} (hl : H l = some (.lst xs)) (ha : Ev ta σ H (.ref l)) (h : EvN te σ H P) (hz : xs.length < 100000) (k : ∀ p H1, H p = none → Ex H H1 → P p H1 → D.nx σ (upd H1 l (.lst (xs ++ [.ref p])))) :
    tDrop (tBM K "list" rAppend ta (tCons te tNil)) D σ H := ha H (Ex.refl H) _ fun H1 e1 =>
  ⟨Or.inl ⟨rfl, xs, sq_of (e1 l _ hl)⟩, h H1 e1 _ fun p H2 hp e2 h2 => ⟨l, xs, .ref p, rfl, rfl, e2 l _ (e1 l _ hl), sz_lt hz, k p H2 (fresh_back e1 hp) (e1.trans e2) h2⟩⟩
theorem q_appN {l : Addr} {xs : List V} {P : Addr → Hp → Prop} (hl : H l = some (.lst xs)) (ha : Ev ta σ H (.ref l)) (h : EvN te σ H P) (hz : xs.length < 100000) (k : ∀ p H1, H p = none → Ex H H1 → P p H1 → tz D σ (upd H1 l (.lst (xs ++ [.ref p])))) :
    tSeq (tDrop (tBM K "list" rAppend ta (tCons te tNil))) tz D σ H := s_appN (D := { D with nx := tz D }) hl ha h hz k
end
/-! ### promises -/
def spDemand : Sp := fun vs H Q _ => ∃ n : Int, vs = [.int n] ∧ 0 ≤ n ∧ RetV .non H Q
theorem spv_demand {n : Int} {H : Hp} (h : 0 ≤ n) : SpV spDemand [.int n] H .non := fun H1 e Q q E => ⟨n, rfl, h, q⟩
def spCheck (cR : Addr) : Sp := fun vs H Q _ => ∃ (a : Addr) (xs : List V) (rows : List RowD), vs = [.ref a] ∧ H a = some (.tup xs) ∧ RowsAt cR H xs rows ∧ RowsOk rows ∧ RetV .non H Q
theorem spv_check {cR a : Addr} {xs : List V} {rows : List RowD} {H : Hp} (h : H a = some (.tup xs)) (hr : RowsAt cR H xs rows) (o : RowsOk rows) : SpV (spCheck cR) [.ref a] H .non := fun H1 e Q q E => ⟨a, xs, rows, rfl, e _ _ h, hr.mono e, o, q⟩
def spSpans (cR cS : Addr) : Sp := fun vs H Q _ => ∃ (a : Addr) (xs : List V) (rows : List RowD), vs = [.ref a] ∧ H a = some (.tup xs) ∧ RowsAt cR H xs rows ∧ RowsOk rows ∧
  ∀ p ys H2, H p = none → Ex H H2 → H2 p = some (.tup ys) → SpansAt cR cS H2 ys (spansFrom 0 none rows) → Q (.ref p) H2
section
variable {P : Program} {w : World} {K : PySem.W.Frag} {mg : Str → Option Value} {base : Heap} {cR cS cW : Addr}
theorem ok_demand {f : Addr} {fd : FuncData} (F : Fn K "demand_age" "demand_age" s_demand_age f fd) : FnOk P w K mg base CX0 1 f fd ["age"] spDemand := by
  refine F.ok sc_demand_age (fun vs H Q E h => ?_) (fun cdv A outer s H vs Q E hr h => ?_)
  · obtain ⟨n, rfl, _⟩ := h; rfl
  · obtain ⟨n, rfl, h0, k⟩ := h
    refine ⟨_, PSs.nox (pss_one (ps_if (pt_cmpR op_lt (pv 0) pe_int (nomark _)) (pss_one ps_never) pss_nil)), ?_⟩
    exact s_when (et_test (ev_op (ev_var rfl) ev_c rv_I0)) (fun hb _ _ => absurd (of_decide_eq_true hb) (by omega)) (fun hb H1 e1 => k H1 e1)
theorem ok_check {f : Addr} {fd : FuncData} (F : Fn K "check_untils" "check_untils" s_check_untils f fd) (T : Tx K mg cR cS cW) (B : Bn mg) : FnOk P w K mg base CX0 1 f fd ["rows"] (spCheck cR) := by
  refine F.ok sc_check_untils (fun vs H Q E h => ?_) (fun cdv A outer s H vs Q E hr h => ?_)
  · obtain ⟨a, xs, rows, rfl, _⟩ := h; rfl
  · obtain ⟨a, xs, rows, rfl, ha, hR, ok, k⟩ := h
    refine ⟨_, PSs.nox (pss_cons (ps_set (i := 1) sc_check_untils.nd rfl (Or.inl rfl) pe_int) (pss_one (ps_for PassesOwn.never rfl (pi_enumT (by rfl) B.enumerate (pa_cons (pv 0) pa_nil)) (pg_tup rfl (pgs_cons (pg_name (i := 2) sc_check_untils.nd rfl (Or.inl rfl)) (pgs_cons (pg_name (i := 3) sc_check_untils.nd rfl (Or.inl rfl)) pgs_nil))) (pss_cons (ps_set (i := 4) sc_check_untils.nd rfl (Or.inl rfl) (pe_cmpR op_eq (pv 2) (pe_op op_sub (pe_callB call_len_seq (by rfl) B.len (by decide +kernel) (pa_cons (pv 0) pa_nil)) pe_int) (nomark _))) (pss_cons (ps_if (pt_cmpR op_ne (pe_cmp (pc_isN (pe_fld (pv 3) rfl)) rfl) (pv 4) (nomark _)) (pss_one ps_never) pss_nil) (pss_cons (ps_if (PW.pt (pw_and (pt_not (pt_val (pv 4))) (pw_and1 (pt_cmpR op_le (pe_fld (pv 3) rfl) (pv 1) (nomark _))))) (pss_one ps_never) pss_nil) (pss_one (ps_set (i := 1) sc_check_untils.nd rfl (Or.inl rfl) (pe_fld (pv 3) rfl))))))))), ?_⟩
    refine q_asg ev_c fun H1 e1 => ?_
    refine for_enumT (xs := xs) (a := a) (ea_cons (ev_var rfl) ea_nil) (st_of (e1 _ _ ha)) (fun i σ H' => Ex H H' ∧ (i < xs.length → ∃ b v2 v3 v4, σ = [some (.ref a), some (.int b), v2, v3, v4] ∧ UOk b (rows.drop i))) (fun H2 e2 => ⟨e1.trans e2, fun _ => ⟨0, none, none, none, rfl, ok.u⟩⟩)
      (fun i σ' H' _ p => st_of (p.1 _ _ ha)) (fun i x σ' H' U hx p hU => ?_) (fun σ' H' p => k H' p.1)
    have hlt := (List.getElem?_eq_some_iff.mp hx).1
    obtain ⟨b, v2, v3, v4, rfl, hu⟩ := p.2 hlt
    obtain ⟨q, r, rfl, hri, rA⟩ := (hR.mono p.1).get hx
    obtain ⟨dx, rA⟩ := rA
    have e2 : Ex H' (upd H' U (.tup [.int (i : Nat), .ref q])) := Ex.new hU
    have fU : Ev (tFld K (tVar 3) "until") [some (.ref a), some (.int b), some (.int (i : Nat)), some (.ref q), v4] (upd H' U (.tup [.int (i : Nat), .ref q])) (oV r.til) := ev_fld (ev_var rfl) (e2 _ _ rA) T.row T.r1 rfl
    have eD : Ex H (upd H' U (.tup [.int (i : Nat), .ref q])) := p.1.trans e2
    refine ⟨U, _, rfl, st_of upd_same, rfl, _, _, rfl, _, _, rfl, rfl, ?_⟩
    refine q_asg (ev_op (ev_var rfl) (ev_op (ev_lenT (ev_var rfl) (st_of (eD _ _ ha))) ev_c rv_I0) (rv_eq rfl)) fun H2 e3 => ?_
    have fU2 : Ev (tFld K (tVar 3) "until") [some (.ref a), some (.int b), some (.int (i : Nat)), some (.ref q), some (.bl (decide (V.int (i : Nat) = V.int ((xs.length : Int) - 1))))] H2 (oV r.til) := ev_fld (ev_var rfl) (e3 _ _ (e2 _ _ rA)) T.row T.r1 rfl
    have hd : rows.drop i = r :: rows.drop (i + 1) := by
      have hl2 := (List.getElem?_eq_some_iff.mp hri)
      rw [List.drop_eq_getElem_cons hl2.1, hl2.2]
    rw [hd] at hu
    have hlen := hR.1
    generalize hrest : rows.drop (i + 1) = rest at hu
    cases hu with
    | last hn =>
      have hz : rows.drop (i + 1) = [] := hrest
      have hl3 : rows.length = i + 1 := by
        have h1 := List.length_drop (l := rows) (i := i + 1)
        rw [hz] at h1
        have h2 := (List.getElem?_eq_some_iff.mp hri).1
        simp at h1
        omega
      have hl : decide (V.int (i : Nat) = V.int ((xs.length : Int) - 1)) = true := decide_eq_true (by rw [show ((xs.length : Int) - 1) = (i : Nat) by omega])
      rw [hn, hl] at fU2
      rw [hl]
      refine q_when (et_test (ev_op (ev_isN fU2) (ev_var rfl) (rv_ne rfl))) (fun hb => Bool.noConfusion hb) (fun hb H3 e4 => ?_)
      refine q_when (et_and (b := false) (et_not (et_B (ev_var rfl))) (fun hb => Bool.noConfusion hb)) (fun hb => Bool.noConfusion hb) (fun hb H4 e5 => ?_)
      refine s_asg ((fU2.mono e4).mono e5) fun H5 e6 => ⟨(((eD.trans e3).trans e4).trans e5).trans e6, fun hlt2 => ?_⟩
      omega
    | more ht hbt hu2 =>
      rename_i t
      have hne := hu2.ne
      have hl3 : i + 1 < rows.length := by
        rcases Nat.lt_or_ge (i + 1) rows.length with h1 | h1
        · exact h1
        · exact absurd (hrest.symm.trans (List.drop_eq_nil_of_le h1)) hne
      have hl : decide (V.int (i : Nat) = V.int ((xs.length : Int) - 1)) = false := decide_eq_false (fun z => by have := V.int.inj z; omega)
      rw [ht, hl] at fU2
      rw [hl]
      refine q_when (et_test (ev_op (ev_isN fU2) (ev_var rfl) (rv_ne rfl))) (fun hb => Bool.noConfusion hb) (fun hb H3 e4 => ?_)
      refine q_when (et_and (et_not (et_B (ev_var rfl))) (fun _ => et_test (ev_op (fU2.mono e4) (ev_var rfl) rv_I0))) (fun hb => ?_) (fun hb H4 e5 => ?_)
      · have hb2 := (Bool.and_eq_true_iff.mp hb).2
        exact absurd (of_decide_eq_true hb2) (by omega)
      · refine s_asg ((fU2.mono e4).mono e5) fun H5 e6 => ⟨(((eD.trans e3).trans e4).trans e5).trans e6, fun _ => ⟨t, _, _, _, rfl, hu2⟩⟩
/-- what the name shown holds -/
def ShownAt (H : Hp) (v : V) : Option (Str × Option Int) → Prop
  | none => v = .non
  | some l => ∃ t, v = .ref t ∧ H t = some (.tup [.str l.1, oV l.2])
theorem dp_oV {K : PySem.W.Frag} {H : Hp} (o : Option Int) : Dp K H (oV o) (dO o) := by cases o <;> constructor
theorem dp_lab {K : PySem.W.Frag} {H : Hp} {t : Addr} {l : Str × Option Int} (h : H t = some (.tup [.str l.1, oV l.2])) : Dp K H (.ref t) (dL l) := .tup (st_of h) (.cons (.str _) (.cons (dp_oV _) .nil))
def dSh : Option (Str × Option Int) → PyData
  | none => .none
  | some l => dL l
theorem ShownAt.dp {K : PySem.W.Frag} {H : Hp} {v : V} {o : Option (Str × Option Int)} (h : ShownAt H v o) : Dp K H v (dSh o) := by
  cases o with
  | none => rw [show v = .non from h]; exact .non
  | some l =>
    obtain ⟨t, rfl, h⟩ := h
    exact dp_lab h
theorem ShownAt.mono {H H' : Hp} {v : V} {o : Option (Str × Option Int)} (e : Ex H H') (h : ShownAt H v o) : ShownAt H' v o := by
  cases o with
  | none => exact h
  | some l =>
    obtain ⟨t, rfl, h⟩ := h
    exact ⟨t, rfl, e _ _ h⟩
theorem eqv_sh (l : Str × Option Int) (o : Option (Str × Option Int)) : PyData.eqv (dL l) (dSh o) = decide (some l = o) := by
  cases o with
  | none => simp [dSh, dL, PyData.eqv]
  | some m => rw [show dSh (some m) = dL m from rfl, eqv_dL]; simp
theorem shaped_sh (o : Option (Str × Option Int)) (h : ∀ l, o = some l → PyData.strOk l.1 = true) : SeqAt.shaped (dSh o) = true := by
  cases o with
  | none => rfl
  | some l => exact shaped_dL l (h l rfl)
theorem SpansAt.snoc {cR cS : Addr} {H : Hp} {xs : List V} {ss : List SpanD} {p : Addr} {s : SpanD} (h : SpansAt cR cS H xs ss) (hp : SpanAt cR cS H p s) : SpansAt cR cS H (xs ++ [.ref p]) (ss ++ [s]) := by
  obtain ⟨h1, h2⟩ := h
  refine ⟨by simp [h1], fun i r hi => ?_⟩
  by_cases hlt : i < ss.length
  · rw [List.getElem?_append_left hlt] at hi
    obtain ⟨q, hq, hs⟩ := h2 i r hi
    exact ⟨q, by rw [List.getElem?_append_left (by omega)]; exact hq, hs⟩
  · rw [List.getElem?_append_right (by omega)] at hi
    have h0 : i - ss.length = 0 := by
      have := (List.getElem?_eq_some_iff.mp hi).1
      simp at this
      omega
    rw [h0] at hi
    have e : s = r := Option.some.inj hi
    subst e
    exact ⟨p, by rw [List.getElem?_append_right (by omega), h1, h0]; rfl, hp⟩
theorem spansFrom_snoc {low : Int} {shown : Option (Str × Option Int)} {r : RowD} {rs : List RowD} : spansFrom low shown (r :: rs) = ⟨low, r.til.map (· - 1), r, decide (0 < low) && !decide (some (r.word, cntO r low) = shown)⟩ :: spansFrom (r.til.getD low) (match r.til with | none => shown | some t => some (r.word, cntO r (t - 1))) rs := by
  cases h : r.til <;> simp [spansFrom, h]
theorem ok_spans {f : Addr} {fd : FuncData} (F : Fn K "spans_of" "spans_of" s_spans_of f fd) (T : Tx K mg cR cS cW) (B : Bn mg) (c1 : Cal P w K mg base CX0 3 "count_in" ["row", "age"] (spCountIn cR))
    (c2 : Mak P w K mg base CX0 1 cS ["self", "low", "high", "row", "is_fresh"] (spSpanI cS)) : FnOk P w K mg base CX0 4 f fd ["rows"] (spSpans cR cS) := by
  obtain ⟨f1, fd1, G_count_in, m_count_in, k_count_in, b_count_in⟩ := c1.ex
  obtain ⟨f2, fd2, G_Span_init, M_Span, b_Span_init⟩ := c2.ex
  refine F.ok sc_spans_of (fun vs H Q E h => ?_) (fun cdv A outer s H vs Q E hr h => ?_)
  · obtain ⟨a, xs, rows, rfl, _⟩ := h; rfl
  · obtain ⟨a, xs, rows, rfl, ha, hR, ok, k⟩ := h
    refine ⟨_, PSs.nox (pss_cons (ps_set (i := 1) sc_spans_of.nd rfl (Or.inl rfl) (pe_lst pa_nil)) (pss_cons (ps_set (i := 2) sc_spans_of.nd rfl (Or.inl rfl) pe_int) (pss_cons (ps_set (i := 3) sc_spans_of.nd rfl (Or.inl rfl) pe_non) (pss_cons (ps_for PassesOwn.never rfl (pi_tup (pv 0)) (pg_name (i := 4) sc_spans_of.nd rfl (Or.inl rfl)) (pss_cons (ps_set (i := 5) sc_spans_of.nd rfl (Or.inl rfl) (pe_tup (pa_cons (pe_fld (pv 4) rfl) (pa_cons (pe_call G_count_in (hr.mono (by decide)) rfl m_count_in k_count_in b_count_in .nil pass0 (pa_cons (pv 4) (pa_cons (pv 2) pa_nil))) pa_nil)))) (pss_cons (ps_set (i := 6) sc_spans_of.nd rfl (Or.inl rfl) (pe_and (pe_cmpR op_gt (pv 2) pe_int (nomark _)) (pe_one (pe_cmpR (op_neD hr.units) (pv 5) (pv 3) (nomark _))))) (pss_one (ps_if (pt_cmp (pc_isN (pe_fld (pv 4) rfl))) (pss_one (ps_expr (pe_bm PySem.F.plainAttrs_list PySem.F.slot_list_append PySem.F.type_list_append mt_append (pv 1) (pa_cons (pe_make M_Span G_Span_init (hr.mono (by decide)) rfl T.mgSpan b_Span_init .nil pass0 (pa_cons (pv 2) (pa_cons pe_non (pa_cons (pv 4) (pa_cons (pv 6) pa_nil))))) pa_nil)))) (pss_cons (ps_expr (pe_bm PySem.F.plainAttrs_list PySem.F.slot_list_append PySem.F.type_list_append mt_append (pv 1) (pa_cons (pe_make M_Span G_Span_init (hr.mono (by decide)) rfl T.mgSpan b_Span_init .nil pass0 (pa_cons (pv 2) (pa_cons (pe_op op_sub (pe_fld (pv 4) rfl) pe_int) (pa_cons (pv 4) (pa_cons (pv 6) pa_nil))))) pa_nil))) (pss_cons (ps_set (i := 3) sc_spans_of.nd rfl (Or.inl rfl) (pe_tup (pa_cons (pe_fld (pv 4) rfl) (pa_cons (pe_call G_count_in (hr.mono (by decide)) rfl m_count_in k_count_in b_count_in .nil pass0 (pa_cons (pv 4) (pa_cons (pe_op op_sub (pe_fld (pv 4) rfl) pe_int) pa_nil))) pa_nil)))) (pss_one (ps_set (i := 2) sc_spans_of.nd rfl (Or.inl rfl) (pe_fld (pv 4) rfl)))))))))) (pss_one (ps_ret (pe_callTy call_tuple_of (by rfl) B.tuple (by decide +kernel) (pa_cons (pv 1) pa_nil)))))))), ?_⟩
    refine q_asgL (el_lst ea_nil (by show 0 ≤ 100000; decide)) fun l H1 hl0 e1 hl => ?_
    refine q_asg ev_c fun H2 e2 => ?_
    refine q_asg ev_c fun H3 e3 => ?_
    have e13 := (e1.trans e2).trans e3
    refine q_forT (xs := xs) (a := a) (ev_var rfl) (st_of (e13 _ _ ha)) (fun i σ H' => ∃ low vsh shown done ys v4 v5 v6, σ = [some (.ref a), some (.ref l), some (.int low), some vsh, v4, v5, v6] ∧ Ex H H' ∧ H' l = some (.lst ys) ∧ SpansAt cR cS (wo l H') ys done ∧ ys.length = i ∧ ShownAt (wo l H') vsh shown ∧
        (∀ z, shown = some z → PyData.strOk z.1 = true) ∧ spansFrom 0 none rows = done ++ spansFrom low shown (rows.drop i))
      (fun H4 e4 => ⟨0, .non, none, [], [], none, none, none, rfl, e13.trans e4, e4 _ _ (e3 _ _ (e2 _ _ hl)), ⟨rfl, fun i s z => nomatch z⟩, rfl, rfl, (fun z hz => nomatch hz), rfl⟩)
      (fun i σ' H' _ p => by obtain ⟨_, _, _, _, _, _, _, _, _, e, _⟩ := p; exact st_of (e _ _ ha)) ?_ ?_
    · rintro i x σ' H' hx ⟨low, vsh, shown, done, ys, v4, v5, v6, rfl, eH, hl', hS, hyl, hsh, hso, hsp⟩
      obtain ⟨q, r, rfl, hri, rA⟩ := (hR.mono eH).get hx
      have ⟨or, ot⟩ := ok.at_ hri
      obtain ⟨dx, rA'⟩ := id rA
      have hln := ok.n
      have hlx := hR.1
      have hlt := (List.getElem?_eq_some_iff.mp hx).1
      -- the row's fields at any frame that holds it in slot 4
      have fU : ∀ σ H2, Ex H' H2 → σ[4]? = some (some (V.ref q)) → Ev (tFld K (tVar 4) "until") σ H2 (oV r.til) := fun σ H2 e hs => ev_fld (ev_var hs) (e _ _ rA') T.row T.r1 rfl
      have fW : ∀ σ H2, Ex H' H2 → σ[4]? = some (some (V.ref q)) → Ev (tFld K (tVar 4) "word") σ H2 (.str r.word) := fun σ H2 e hs => ev_fld (ev_var hs) (e _ _ rA') T.row T.r4 rfl
      show tSeq _ _ _ (List.set _ _ _) H'
      refine q_asgU (eu_tup (ea_cons (fW _ _ (Ex.refl _) rfl) (ea_cons (ev_call (ea_cons (ev_var rfl) (ea_cons (ev_var rfl) ea_nil)) (spv_countIn rA or)) ea_nil)) (by show 2 ≤ 100000; decide)) fun t H4 ht e4 hlab => ?_
      have hsh4 : ShownAt H4 vsh shown := hsh.mono (wo_sub.trans e4)
      have rvn := rv_neD (K := K) (dp_lab (l := (r.word, cntO r low)) hlab) hsh4.dp (shaped_dL _ or.wd) (shaped_sh _ hso)
      rw [eqv_sh] at rvn
      refine q_asg (ev_andV (ev_op (ev_var rfl) ev_c rv_I0) (fun _ => ev_op (ev_var rfl) (ev_var rfl) rvn)) fun H5 e5 => ?_
      have e45 := e4.trans e5
      have hsp2 := hsp
      rw [show rows.drop i = r :: rows.drop (i + 1) by
        have hl2 := (List.getElem?_eq_some_iff.mp hri)
        rw [List.drop_eq_getElem_cons hl2.1, hl2.2], spansFrom_snoc] at hsp2
      have hlenOk : ys.length < 100000 := by omega
      cases htil : r.til with
      | none =>
        rw [htil] at hsp2
        have fU' : ∀ σ H2, Ex H' H2 → σ[4]? = some (some (V.ref q)) → Ev (tFld K (tVar 4) "until") σ H2 .non := fun σ H2 e hs => by have z := fU σ H2 e hs; rw [htil] at z; exact z
        refine s_if (et_B (ev_isN (fU' _ _ e45 rfl))) (fun hb H6 e6 => ?_) (fun hb => Bool.noConfusion hb)
        have e46 := e45.trans e6
        refine s_appN (e46 _ _ hl') (ev_var rfl) (en_make (fs := spanF ⟨low, none, r, decide (0 < low) && !decide (some (r.word, cntO r low) = shown)⟩ q) (ea_cons (ev_var rfl) (ea_cons ev_c (ea_cons (ev_var rfl) (ea_cons (ev_var rfl) ea_nil)))) (init_span (s := ⟨low, none, r, _⟩))) hlenOk fun p H7 hp e7 hP => ?_
        have e47 := e46.trans e7
        have hw7 : Ex (wo l H') (wo l (upd H7 l (.lst (ys ++ [.ref p])))) := wo_mut e47
        have hl7 : H7 l = some (.lst ys) := e47 _ _ hl'
        refine ⟨low, vsh, shown, _, ys ++ [.ref p], _, _, _, rfl, (eH.trans e47).mut hl0, upd_same, ((hS.mono hw7).snoc (p := p) (s := ⟨low, none, r, decide (0 < low) && !decide (some (r.word, cntO r low) = shown)⟩) ?_), by simp [hyl], hsh.mono hw7, hso, ?_⟩
        · obtain ⟨dp, hP⟩ := hP
          have npl : p ≠ l := ne_of hP hl7 (by intro z; cases z)
          have nql : q ≠ l := ne_of rA' hl' (by intro z; cases z)
          exact ⟨dp, q, by rw [wo_upd, wo_ne npl]; exact hP, dx, by rw [wo_upd, wo_ne nql]; exact e47 _ _ rA'⟩
        · rw [hsp2, List.append_assoc]
          rfl
      | some t =>
        rw [htil] at hsp2
        have fU' : ∀ σ H2, Ex H' H2 → σ[4]? = some (some (V.ref q)) → Ev (tFld K (tVar 4) "until") σ H2 (.int t) := fun σ H2 e hs => by have z := fU σ H2 e hs; rw [htil] at z; exact z
        refine s_if (et_B (ev_isN (fU' _ _ e45 rfl))) (fun hb => Bool.noConfusion hb) (fun hb H6 e6 => ?_)
        have e46 := e45.trans e6
        refine q_appN (e46 _ _ hl') (ev_var rfl) (en_make (fs := spanF ⟨low, some (t - 1), r, decide (0 < low) && !decide (some (r.word, cntO r low) = shown)⟩ q) (ea_cons (ev_var rfl) (ea_cons (ev_op (fU' _ _ e46 rfl) ev_c rv_I0) (ea_cons (ev_var rfl) (ea_cons (ev_var rfl) ea_nil)))) (init_span (s := ⟨low, some (t - 1), r, _⟩))) hlenOk fun p H7 hp e7 hP => ?_
        have e47 := e46.trans e7
        have hl7 : H7 l = some (.lst ys) := e47 _ _ hl'
        obtain ⟨dp, hP⟩ := hP
        have npl : p ≠ l := ne_of hP hl7 (by intro z; cases z)
        have nql : q ≠ l := ne_of rA' hl' (by intro z; cases z)
        have rA8 : RowAt cR (upd H7 l (.lst (ys ++ [.ref p]))) q r := ⟨dx, by rw [upd_ne nql]; exact e47 _ _ rA'⟩
        obtain ⟨_, rA8'⟩ := id rA8
        have fU8 : ∀ σ H2, Ex (upd H7 l (.lst (ys ++ [.ref p]))) H2 → σ[4]? = some (some (V.ref q)) → Ev (tFld K (tVar 4) "until") σ H2 (.int t) := fun σ H2 e hs => by
          have z : Ev (tFld K (tVar 4) "until") σ H2 (oV r.til) := ev_fld (ev_var hs) (e _ _ rA8') T.row T.r1 rfl
          rw [htil] at z
          exact z
        refine q_asgU (eu_tup (ea_cons (ev_fld (ev_var rfl) rA8' T.row T.r4 rfl) (ea_cons (ev_call (ea_cons (ev_var rfl) (ea_cons (ev_op (fU8 _ _ (Ex.refl _) rfl) ev_c rv_I0) ea_nil)) (spv_countIn rA8 or)) ea_nil)) (by show 2 ≤ 100000; decide)) fun t2 H8 ht2 e8 hlab2 => ?_
        refine s_asg (fU8 _ _ e8 rfl) fun H9 e9 => ?_
        have e89 := e8.trans e9
        have eH9 : Ex H H9 := (Ex.mut (eH.trans e47) hl0).trans e89
        have hl9 : H9 l = some (.lst (ys ++ [.ref p])) := e89 _ _ upd_same
        have hw7 : Ex (wo l H') (wo l H9) := (wo_mut e47).trans (wo_mono e89)
        refine ⟨t, .ref t2, some (r.word, cntO r (t - 1)), _, ys ++ [.ref p], _, _, _, rfl, eH9, hl9, ((hS.mono hw7).snoc (p := p) (s := ⟨low, some (t - 1), r, decide (0 < low) && !decide (some (r.word, cntO r low) = shown)⟩) ?_), by simp [hyl], ⟨t2, rfl, ?_⟩, fun z hz => by cases hz; exact or.wd, ?_⟩
        · exact ⟨dp, q, by rw [wo_ne npl]; exact e89 _ _ (by rw [upd_ne npl]; exact hP), dx, by rw [wo_ne nql]; exact e89 _ _ (by rw [upd_ne nql]; exact e47 _ _ rA')⟩
        · have h9 : H9 t2 = some (.tup [.str r.word, oV (cntO r (t - 1))]) := e9 _ _ hlab2
          rw [wo_ne (ne_of h9 hl9 (by intro z; cases z))]
          exact h9
        · rw [hsp2, List.append_assoc]
          rfl
    · rintro σ' H' ⟨low, vsh, shown, done, ys, v4, v5, v6, rfl, eH, hl', hS, hyl, hsh, hso, hsp⟩
      have hdr : rows.drop xs.length = [] := List.drop_eq_nil_of_le (by rw [hR.1]; exact Nat.le_refl _)
      rw [hdr] at hsp
      have hsp' : spansFrom 0 none rows = done := by rw [hsp]; simp [spansFrom]
      refine ⟨_, rfl, l, ys, rfl, Or.inl ⟨sq_of hl', fun p hp => ?_⟩⟩
      refine k p ys _ (fresh_back eH hp) (eH.trans (Ex.new hp)) upd_same ?_
      rw [hsp']
      exact hS.mono (wo_sub.trans (Ex.new hp))
end
end Age

set_option Elab.async false
set_option linter.all false
set_option maxRecDepth 100000
set_option maxHeartbeats 4000000
namespace Age
open PySem PySem.Spec PyProof.Rows L2 Evl
/-! ### labels, edges, stretches -/
def hit (n : Int) (r : RowD) : Bool := match r.til with
  | none => true
  | some t => decide (n < t)
def labelOf (rows : List RowD) (n : Int) : Str × Option Int := match rows.find? (hit n) with
  | some r => (r.word, cntO r n)
  | none => ("", none)
def laterEdge (ss : List SpanD) (n : Int) : Option Int := ss.findSome? (edgeAfter · n)
def numE (ss : List SpanD) (n : Int) : Int := ((ss.filter fun s => decide (s.low ≤ n)).map (numUntil · n)).sum
theorem UOk.find {n : Int} : ∀ {b : Int} {rows : List RowD}, UOk b rows → ∃ r, rows.find? (hit n) = some r
  | b, _, .last (r := r) h => ⟨r, by simp [hit, h]⟩
  | b, _, .more (r := r) (rs := rs) (t := t) h hb hu => by
    cases hh : hit n r with
    | true => exact ⟨r, by simp [hh]⟩
    | false =>
      obtain ⟨r', h'⟩ := UOk.find (n := n) hu
      exact ⟨r', by simp [hh, h']⟩
theorem spansFrom_ok {rows : List RowD} (hr : ∀ r ∈ rows, RowOk r ∧ ∀ t, r.til = some t → Ag t) : ∀ {b : Int} {sh : Option (Str × Option Int)}, Ag b → UOk b rows → ∀ s ∈ spansFrom b sh rows, SpanOk s := by
  induction rows with
  | nil => intro b sh _ _ s hs; simp [spansFrom] at hs
  | cons r rs ih =>
    intro b sh hb hu s hs
    have hr0 := hr r List.mem_cons_self
    cases hu with
    | last h =>
      simp only [spansFrom, h] at hs
      rcases List.mem_cons.mp hs with z | z
      · subst z
        exact ⟨hr0.1, hb, fun h z => nomatch z⟩
      · simp [spansFrom] at z
    | more h hbt hu2 =>
      rename_i t
      have ht := hr0.2 t h
      simp only [spansFrom, h] at hs
      rcases List.mem_cons.mp hs with z | z
      · subst z
        refine ⟨hr0.1, hb, fun h z => ?_⟩
        have z2 : t - 1 = h := Option.some.inj z
        unfold Ag at hb ht ⊢
        omega
      · exact ih (fun r hr2 => hr r (List.mem_cons_of_mem _ hr2)) ht hu2 s z
theorem RowsOk.spans {rows : List RowD} (h : RowsOk rows) : ∀ s ∈ spansFrom 0 none rows, SpanOk s := spansFrom_ok h.r ⟨by decide, by decide⟩ h.u
theorem spansFrom_len : ∀ (rows : List RowD) (b : Int) (sh : Option (Str × Option Int)), (spansFrom b sh rows).length = rows.length
  | [], _, _ => rfl
  | r :: rs, b, sh => by
    rw [spansFrom_snoc, List.length_cons, spansFrom_len rs]
    rfl
/-! ### promises -/
def spWordI (K : PySem.W.Frag) (cR cS cW : Addr) : Sp := fun vs H Q _ => ∃ (p dx a : Addr) (xs : List V) (rows : List RowD), vs = [.ref p, .ref a] ∧ H p = some (.ins cW dx []) ∧ (SqL K H a xs ∨ H a = some (.tup xs)) ∧ RowsAt cR H xs rows ∧ RowsOk rows ∧
  ∀ H2 ta tb ys, (∀ b o, b ≠ p → H b = some o → H2 b = some o) → H2 p = some (.ins cW dx (wordF ta tb)) → H2 ta = some (.tup xs) → H2 tb = some (.tup ys) → SpansAt cR cS (wo p H2) ys (spansFrom 0 none rows) → Q .non H2
def spRowOf (cR : Addr) : Sp := fun vs H Q _ => ∃ (a : Addr) (xs : List V) (rows : List RowD) (n : Int) (i : Nat) (p : Addr), vs = [.ref a, .int n] ∧ H a = some (.tup xs) ∧ RowsAt cR H xs rows ∧ rows.length ≤ 1000 ∧
  (∃ r, rows[i]? = some r ∧ hit n r = true) ∧ (∀ (j : Nat) (r : RowD), j < i → rows[j]? = some r → hit n r = false) ∧ xs[i]? = some (V.ref p) ∧ RetV (.ref p) H Q
def spLabel (cR cS cW : Addr) : Sp := fun vs H Q _ => ∃ (p : Addr) (rows : List RowD) (n : Int), vs = [.ref p, .int n] ∧ WordAt cR cS cW H p rows ∧ RowsOk rows ∧ 0 ≤ n ∧
  ∀ t H2, H t = none → Ex H H2 → H2 t = some (.tup [.str (labelOf rows n).1, oV (labelOf rows n).2]) → Q (.ref t) H2
def spLater (cR cS cW : Addr) : Sp := fun vs H Q _ => ∃ (p : Addr) (rows : List RowD) (n : Int), vs = [.ref p, .int n] ∧ WordAt cR cS cW H p rows ∧ RowsOk rows ∧ Ag n ∧ RetV (oV (laterEdge (spansFrom 0 none rows) n)) H Q
theorem spv_later {cR cS cW p : Addr} {rows : List RowD} {n : Int} {H : Hp} (h : WordAt cR cS cW H p rows) (o : RowsOk rows) (hn : Ag n) : SpV (spLater cR cS cW) [.ref p, .int n] H (oV (laterEdge (spansFrom 0 none rows) n)) := fun H1 e Q q E => ⟨p, rows, n, rfl, h.mono e, o, hn, q⟩
def spNumE (cR cS : Addr) : Sp := fun vs H Q _ => ∃ (a : Addr) (xs : List V) (ss : List SpanD) (n : Int), vs = [.ref a, .int n] ∧ H a = some (.tup xs) ∧ SpansAt cR cS H xs ss ∧ (∀ s ∈ ss, SpanOk s) ∧ ss.length ≤ 1000 ∧ Ag n ∧ RetV (.int (numE ss n)) H Q
theorem spv_numE {cR cS a : Addr} {xs : List V} {ss : List SpanD} {n : Int} {H : Hp} (h : H a = some (.tup xs)) (hs : SpansAt cR cS H xs ss) (o : ∀ s ∈ ss, SpanOk s) (hl : ss.length ≤ 1000) (hn : Ag n) : SpV (spNumE cR cS) [.ref a, .int n] H (.int (numE ss n)) := fun H1 e Q q E => ⟨a, xs, ss, n, rfl, e _ _ h, hs.mono e, o, hl, hn, q⟩
def spEdges (cR cS cW : Addr) : Sp := fun vs H Q _ => ∃ (p : Addr) (rows : List RowD) (lo hi : Int), vs = [.ref p, .int lo, .int hi] ∧ WordAt cR cS cW H p rows ∧ RowsOk rows ∧ Ag lo ∧ Ag hi ∧ RetV (.int (numE (spansFrom 0 none rows) hi - numE (spansFrom 0 none rows) lo)) H Q
theorem spv_edges {cR cS cW p : Addr} {rows : List RowD} {lo hi : Int} {H : Hp} (h : WordAt cR cS cW H p rows) (o : RowsOk rows) (hn : Ag lo) (hm : Ag hi) : SpV (spEdges cR cS cW) [.ref p, .int lo, .int hi] H (.int (numE (spansFrom 0 none rows) hi - numE (spansFrom 0 none rows) lo)) := fun H1 e Q q E => ⟨p, rows, lo, hi, rfl, h.mono e, o, hn, hm, q⟩
theorem en_tuple {K : PySem.W.Frag} {σ : L2.St} {H : Hp} {ta : TE} {a : Addr} {xs : List V} (h : Ev ta σ H (.ref a)) (hx : SqL K H a xs ∨ H a = some (.tup xs)) : ∀ H1, Ex H H1 → ∀ Q : VK, (∀ t H2, Ex H1 H2 → H2 t = some (.tup xs) → Q (.ref t) H2) →
    tCB (fun vs H Q => ∃ p ys, vs = [V.ref p] ∧ ((SqL K H p ys ∧ ∀ l, H l = none → Q (.ref l) (upd H l (.tup ys))) ∨ (SqT K H p ys ∧ Q (.ref p) H))) (tCons ta tNil) σ H1 Q := fun H1 e Q q => h H1 e _ fun H2 e2 => by
  rcases hx with hx | hx
  · exact ⟨a, xs, rfl, Or.inl ⟨ex_l (e.trans e2) hx, fun l hl => q l _ (e2.trans (Ex.new hl)) upd_same⟩⟩
  · exact ⟨a, xs, rfl, Or.inr ⟨st_of ((e.trans e2) _ _ hx), q a H2 e2 ((e.trans e2) _ _ hx)⟩⟩
theorem ev_sum {K : PySem.W.Frag} {σ : L2.St} {H : Hp} {ta : TE} {ns : List Int} (h : EvL ta σ H (ns.map V.int)) : Ev (tCB (rSum K) (tCons ta tNil)) σ H (.int ns.sum) := fun H1 e Q q => h H1 e _ fun p H2 hp e2 h2 => ⟨p, ns, rfl, sq_of h2, q H2 e2⟩
theorem q_fld {K : PySem.W.Frag} {σ : L2.St} {H : Hp} {D : Ends} {tz : TS} {tv ta : TE} {f : Str} {Pv : V → Hp → Prop} (hv : ∀ Q : VK, (∀ y H1, Pv y H1 → Q y H1) → tv σ H Q)
    (k : ∀ y H1, Pv y H1 → ∃ a C dx fs, Ev ta σ H1 (.ref a) ∧ H1 a = some (.ins C dx fs) ∧ Cls K C ∧ NoAttr K C f ∧ fs.length < 1000 ∧ ∀ H2, Ex H1 H2 → tz D σ (upd H2 a (.ins C dx (putF f y fs)))) : tSeq (sFld K ta tv f) tz D σ H :=
  hv _ fun y H1 p => by
    obtain ⟨a, C, dx, fs, h1, h2, h3, h4, h5, h6⟩ := k y H1 p
    exact h1 H1 (Ex.refl H1) _ fun H2 e2 => ⟨a, C, dx, fs, rfl, e2 _ _ h2, h3, h4, h5, h6 H2 e2⟩
theorem s_fld {K : PySem.W.Frag} {σ : L2.St} {H : Hp} {D : Ends} {tv ta : TE} {f : Str} {Pv : V → Hp → Prop} (hv : ∀ Q : VK, (∀ y H1, Pv y H1 → Q y H1) → tv σ H Q)
    (k : ∀ y H1, Pv y H1 → ∃ a C dx fs, Ev ta σ H1 (.ref a) ∧ H1 a = some (.ins C dx fs) ∧ Cls K C ∧ NoAttr K C f ∧ fs.length < 1000 ∧ ∀ H2, Ex H1 H2 → D.nx σ (upd H2 a (.ins C dx (putF f y fs)))) : sFld K ta tv f D σ H :=
  hv _ fun y H1 p => by
    obtain ⟨a, C, dx, fs, h1, h2, h3, h4, h5, h6⟩ := k y H1 p
    exact h1 H1 (Ex.refl H1) _ fun H2 e2 => ⟨a, C, dx, fs, rfl, e2 _ _ h2, h3, h4, h5, h6 H2 e2⟩
section
variable {P : Program} {w : World} {K : PySem.W.Frag} {mg : Str → Option Value} {base : Heap} {cR cS cW : Addr}
theorem ok_wordI {f : Addr} {fd : FuncData} (F : Fn K "__init__" "Wording.__init__" s_Wording_init f fd) (T : Tx K mg cR cS cW) (B : Bn mg) (c1 : Cal P w K mg base CX0 1 "check_untils" ["rows"] (spCheck cR)) (c2 : Cal P w K mg base CX0 4 "spans_of" ["rows"] (spSpans cR cS)) :
    FnOk P w K mg base CX0 5 f fd ["self", "rows"] (spWordI K cR cS cW) := by
  obtain ⟨f1, fd1, G_check_untils, m_check_untils, k_check_untils, b_check_untils⟩ := c1.ex
  obtain ⟨f2, fd2, G_spans_of, m_spans_of, k_spans_of, b_spans_of⟩ := c2.ex
  refine F.ok sc_Wording_init (fun vs H Q E h => ?_) (fun cdv A outer s H vs Q E hr h => ?_)
  · obtain ⟨p, dx, a, xs, rows, rfl, _⟩ := h; rfl
  · obtain ⟨p, dx, a, xs, rows, rfl, hp, ha, hR, ok, k⟩ := h
    refine ⟨_, PSs.nox (pss_cons (ps_fld (pv 0) (pe_callTy call_tuple_of (by rfl) B.tuple (by decide +kernel) (pa_cons (pv 1) pa_nil)) rfl) (pss_cons (ps_expr (pe_call G_check_untils (hr.mono (by decide)) rfl m_check_untils k_check_untils b_check_untils .nil pass0 (pa_cons (pe_fld (pv 0) rfl) pa_nil))) (pss_one (ps_fld (pv 0) (pe_call G_spans_of (hr.mono (by decide)) rfl m_spans_of k_spans_of b_spans_of .nil pass0 (pa_cons (pe_fld (pv 0) rfl) pa_nil)) rfl)))), ?_⟩
    refine q_fld (Pv := fun y H1 => ∃ t, y = .ref t ∧ Ex H H1 ∧ H1 t = some (.tup xs)) (fun Q' q => en_tuple (ev_var rfl) ha H (Ex.refl H) Q' fun t H1 e1 ht => q _ _ ⟨t, rfl, e1, ht⟩) ?_
    rintro y H0 ⟨t, rfl, e0, ht0⟩
    refine ⟨p, cW, dx, _, ev_var rfl, e0 _ _ hp, T.wording, T.w1, (by decide), fun H1 e01 => ?_⟩
    have e1 := e0.trans e01
    have ht := e01 _ _ ht0
    -- the instance has its rows
    have h1p : H1 p = some (.ins cW dx []) := e1 _ _ hp
    have ntp : t ≠ p := ne_of ht h1p (by intro z; cases z)
    have hRw : RowsAt cR (wo p H) xs rows := ⟨hR.1, fun i r hi => by
      obtain ⟨q, hq, dy, hq2⟩ := hR.2 i r hi
      exact ⟨q, hq, dy, by rw [wo_ne (ne_of hq2 hp (by intro z; cases z))]; exact hq2⟩⟩
    have eM : Ex (wo p H) (upd H1 p (.ins cW dx (putF "rows" (.ref t) []))) := (wo_mut e1).trans wo_sub
    have h2p : upd H1 p (.ins cW dx (putF "rows" (.ref t) [])) p = some (.ins cW dx [("rows", .ref t)]) := upd_same
    have h2t : upd H1 p (.ins cW dx (putF "rows" (.ref t) [])) t = some (.tup xs) := by rw [upd_ne ntp]; exact ht
    generalize upd H1 p (.ins cW dx (putF "rows" (.ref t) [])) = H2 at eM h2p h2t ⊢
    have keep2 : ∀ b o, b ≠ p → H b = some o → H2 b = some o := fun b o hb z => eM b o (by rw [wo_ne hb]; exact z)
    have fr : ∀ H3, Ex H2 H3 → Ev (tFld K (tVar 0) "rows") [some (.ref p), some (.ref a)] H3 (.ref t) := fun H3 e => ev_fld (ev_var rfl) (e _ _ h2p) T.wording T.w1 rfl
    refine q_drop (ev_call (ea_cons (fr _ (Ex.refl _)) ea_nil) (spv_check h2t (hRw.mono eM) ok)) fun H3 e3 => ?_
    refine s_fld (Pv := fun y H5 => ∃ tb ys, y = .ref tb ∧ Ex H3 H5 ∧ H5 tb = some (.tup ys) ∧ SpansAt cR cS H5 ys (spansFrom 0 none rows)) (fun Q' q => (fr _ e3) H3 (Ex.refl _) _ fun H4 e4 => ⟨t, xs, rows, rfl, (e3.trans e4) _ _ h2t, (hRw.mono eM).mono (e3.trans e4), ok, fun tb ys H5 hb e5 htb hS => q _ _ ⟨tb, ys, rfl, e4.trans e5, htb, hS⟩⟩) ?_
    rintro y H50 ⟨tb, ys, rfl, e350, htb0, hS0⟩
    refine ⟨p, cW, dx, _, ev_var rfl, (e3.trans e350) _ _ h2p, T.wording, T.w2, (by show 1 < 1000; decide), fun H5 e505 => ?_⟩
    have e25 := (e3.trans e350).trans e505
    have htb := e505 _ _ htb0
    have hS := hS0.mono e505
    have ntb : tb ≠ p := ne_of htb (e25 _ _ h2p) (by intro z; cases z)
    refine k _ t tb ys (fun b o hb2 z => by rw [upd_ne hb2]; exact e25 _ _ (keep2 b o hb2 z)) upd_same (by rw [upd_ne ntp]; exact e25 _ _ h2t) (by rw [upd_ne ntb]; exact htb) ?_
    rw [wo_upd]
    refine ⟨hS.1, fun i s hi => ?_⟩
    obtain ⟨q, hq, dy, q2, hq2, dz, hq3⟩ := hS.2 i s hi
    have h5p := e25 _ _ h2p
    exact ⟨q, hq, dy, q2, by rw [wo_ne (ne_of hq2 h5p (by intro z; cases z))]; exact hq2, dz, by rw [wo_ne (ne_of hq3 h5p (by intro z; cases z))]; exact hq3⟩
theorem given_first {n i0 : Nat} {f : Nat → Bool} {u : Nat → V} (h : f i0 = true) (hlt : i0 < n) (hj : ∀ j, j < i0 → f j = false) : (given n f u)[0]? = some (u i0) := by
  induction n with
  | zero => omega
  | succ n ih =>
    by_cases e : i0 = n
    · subst e
      have h0 : ∀ m, m ≤ i0 → given m f u = [] := by
        intro m hm
        induction m with
        | zero => rfl
        | succ m ihm => rw [given_no (hj m (by omega)), ihm (by omega)]
      rw [given_yes h, h0 i0 (Nat.le_refl _)]
      rfl
    · have := ih (by omega)
      cases hf : f n with
      | true =>
        rw [given_yes hf, List.getElem?_append_left]
        · exact this
        · exact (List.getElem?_eq_some_iff.mp this).1
      | false =>
        rw [given_no hf]
        exact this
theorem ok_rowOf {f : Addr} {fd : FuncData} (F : Fn K "row_of" "row_of" s_row_of f fd) (T : Tx K mg cR cS cW) : FnOk P w K mg base CX0 1 f fd ["rows", "age"] (spRowOf cR) := by
  refine F.ok sc_row_of (fun vs H Q E h => ?_) (fun cdv A outer s H vs Q E hr h => ?_)
  · obtain ⟨a, xs, rows, n, i, p, rfl, _⟩ := h; rfl
  · obtain ⟨a, xs, rows, n, i0, p, rfl, ha, hR, hn, ⟨r0, hr0, hh⟩, hj, hx, k⟩ := h
    refine ⟨_, PSs.nox (pss_one (ps_ret (pe_ix ix_list (pe_lc (own := [("row", 2)]) rfl sc_row_of.nd (pi_tup (pv 0)) (blkOk_by (own := [("row", 2)]) (N := ["rows", "age", "row"]) (sc := defScope s_row_of) (by decide +kernel)) (fun _ _ _ _ _ => by exact (pg_name (i := 2) sc_row_of.nd rfl (Or.inl rfl))) (fun _ _ _ _ _ => by exact (pts_one (PW.pt (pw_or (pt_cmp (pc_isN (pe_fldK (K := K) (by rfl) (pv 2) rfl))) (pw_or1 (pt_cmpR op_gt (pe_fldK (K := K) (by rfl) (pv 2) rfl) (pv 1) (nomark _))))))) (fun _ _ _ _ _ => by exact (pv 2))) pe_int (fun _ _ => rfl)))), ?_⟩
    have hl := hR.1
    have hlc := el_lcT (K := K) (σ := start ["rows", "age", "row"] [.ref a, .int n]) (H := H) (a := a) (xs := xs) (tl := tVar 0) (j := 2) (vs := [2]) (t := tOr (tB (tIsN (tFld K (tVar 2) "until"))) (tTest (tOp (rI0 fun i j => .bl (decide (j < i))) (tFld K (tVar 2) "until") (tVar 1)))) (te := tVar 2)
      (fun i => ((rows[i]?).map (hit n)).getD false) (fun i => (xs[i]?).getD .non) (ev_var rfl) (st_of ha) (by omega) (fun x => rfl)
      (fun i x H1 e1 hi => ?t) (fun i x H1 e1 hi _ => by rw [hi]; exact ev_var rfl)
    case t =>
      obtain ⟨q, r, rfl, hri, dx, rA⟩ := (hR.mono e1).get hi
      have fU : Ev (tFld K (tVar 2) "until") [some (.ref a), some (.int n), some (.ref q)] H1 (oV r.til) := ev_fld (ev_var rfl) rA T.row T.r1 rfl
      show EvT _ [some (.ref a), some (.int n), some (.ref q)] H1 ((Option.map (hit n) rows[i]?).getD false)
      rw [hri]
      cases htil : r.til with
      | none =>
        rw [htil] at fU
        have e0 : hit n r = true := by unfold hit; rw [htil]
        show EvT _ _ _ (hit n r)
        rw [e0]
        exact et_orT (et_B (ev_isN fU))
      | some t =>
        rw [htil] at fU
        have e0 : hit n r = (false || decide (n < t)) := by unfold hit; rw [htil]; rfl
        show EvT _ _ _ (hit n r)
        rw [e0]
        exact et_or (et_B (ev_isN fU)) (fun _ => et_test (ev_op fU (ev_var rfl) rv_I0))
    refine s_ret (ev_opL1 hlc (fun _ _ => ev_c) fun q H1 hq e1 => rv_ixL (v := .ref p) (sq_of hq) (atI_nat (j := 0) ?_)) k
    have h1 : ((rows[i0]?).map (hit n)).getD false = true := by rw [hr0]; exact hh
    rw [given_first h1 (by have := (List.getElem?_eq_some_iff.mp hx).1; omega) (fun j hjl => by
      cases e : rows[j]? with
      | none => rfl
      | some r => exact hj j r hjl e), hx]
    rfl
theorem ok_label {f : Addr} {fd : FuncData} (F : Fn K "label" "Wording.label" s_Wording_label f fd) (T : Tx K mg cR cS cW) (c1 : Cal P w K mg base CX0 1 "demand_age" ["age"] spDemand) (c2 : Cal P w K mg base CX0 1 "row_of" ["rows", "age"] (spRowOf cR)) (c3 : Cal P w K mg base CX0 3 "count_in" ["row", "age"] (spCountIn cR)) :
    FnOk P w K mg base CX0 4 f fd ["self", "age"] (spLabel cR cS cW) := by
  obtain ⟨f1, fd1, G_demand_age, m_demand_age, k_demand_age, b_demand_age⟩ := c1.ex
  obtain ⟨f2, fd2, G_row_of, m_row_of, k_row_of, b_row_of⟩ := c2.ex
  obtain ⟨f3, fd3, G_count_in, m_count_in, k_count_in, b_count_in⟩ := c3.ex
  refine F.ok sc_Wording_label (fun vs H Q E h => ?_) (fun cdv A outer s H vs Q E hr h => ?_)
  · obtain ⟨p, rows, n, rfl, _⟩ := h; rfl
  · obtain ⟨p, rows, n, rfl, ⟨dx, ta, tb, xs, ys, hp, hta, hR, htb, hS⟩, ok, hn, k⟩ := h
    refine ⟨_, PSs.nox (pss_cons (ps_expr (pe_call G_demand_age (hr.mono (by decide)) rfl m_demand_age k_demand_age b_demand_age .nil pass0 (pa_cons (pv 1) pa_nil))) (pss_cons (ps_set (i := 2) sc_Wording_label.nd rfl (Or.inl rfl) (pe_call G_row_of (hr.mono (by decide)) rfl m_row_of k_row_of b_row_of .nil pass0 (pa_cons (pe_fld (pv 0) rfl) (pa_cons (pv 1) pa_nil)))) (pss_one (ps_ret (pe_tup (pa_cons (pe_fld (pv 2) rfl) (pa_cons (pe_call G_count_in (hr.mono (by decide)) rfl m_count_in k_count_in b_count_in .nil pass0 (pa_cons (pv 2) (pa_cons (pv 1) pa_nil))) pa_nil))))))), ?_⟩
    obtain ⟨r, hf⟩ := ok.u.find (n := n)
    have hlab : labelOf rows n = (r.word, cntO r n) := by unfold labelOf; rw [hf]
    rw [hlab] at k
    obtain ⟨hh, i0, hlt, hi0, hj⟩ := List.find?_eq_some_iff_getElem.mp hf
    have hri : rows[i0]? = some r := by rw [← hi0]; exact List.getElem?_eq_getElem hlt
    obtain ⟨q, hq, rA⟩ := hR.2 i0 r hri
    obtain ⟨dy, rA'⟩ := id rA
    refine q_drop (ev_call (ea_cons (ev_var rfl) ea_nil) (spv_demand hn)) fun H1 e1 => ?_
    refine q_asg (v := .ref q) (ev_call (ea_cons (ev_fld (ev_var rfl) (e1 _ _ hp) T.wording T.w1 rfl) (ea_cons (ev_var rfl) ea_nil)) fun H2 e2 Q' q' E' => ⟨ta, xs, rows, n, i0, q, rfl, e2 _ _ (e1 _ _ hta), (hR.mono e1).mono e2, ok.n, ⟨r, hri, hh⟩, fun j r' hjl hr' => ?_, hq, q'⟩) fun H2 e2 => ?_
    · have h1 := hj j hjl
      have h2 := (List.getElem?_eq_some_iff.mp hr').2
      rw [← h2]
      simpa using h1
    · have e12 := e1.trans e2
      exact s_retU (eu_tup (ea_cons (ev_fld (ev_var rfl) (e12 _ _ rA') T.row T.r4 rfl) (ea_cons (ev_call (ea_cons (ev_var rfl) (ea_cons (ev_var rfl) ea_nil)) (spv_countIn (rA.mono e12) (ok.at_ hri).1)) ea_nil)) (by show 2 ≤ 100000; decide)) fun t H3 ht e3 h3 => k t H3 (fresh_back e12 ht) (e12.trans e3) h3
theorem ok_later {f : Addr} {fd : FuncData} (F : Fn K "later_edge" "Wording.later_edge" s_Wording_later_edge f fd) (T : Tx K mg cR cS cW) (c1 : Cal P w K mg base CX0 1 "demand_age" ["age"] spDemand) (c2 : Met P w K mg base CX0 4 cS "edge_after" ["self", "age"] (spEdgeAfter cR cS)) :
    FnOk P w K mg base CX0 5 f fd ["self", "age"] (spLater cR cS cW) := by
  obtain ⟨f1, fd1, G_demand_age, m_demand_age, k_demand_age, b_demand_age⟩ := c1.ex
  obtain ⟨f2, fd2, G_Span_edge_after, M_Span_edge_after, b_Span_edge_after⟩ := c2.ex
  refine F.ok sc_Wording_later_edge (fun vs H Q E h => ?_) (fun cdv A outer s H vs Q E hr h => ?_)
  · obtain ⟨p, rows, n, rfl, _⟩ := h; rfl
  · obtain ⟨p, rows, n, rfl, ⟨dx, ta, tb, xs, ys, hp, hta, hR, htb, hS⟩, ok, hn, k⟩ := h
    refine ⟨_, PSs.nox (pss_cons (ps_expr (pe_call G_demand_age (hr.mono (by decide)) rfl m_demand_age k_demand_age b_demand_age .nil pass0 (pa_cons (pv 1) pa_nil))) (pss_cons (ps_for PassesOwn.never rfl (pi_tup (pe_fld (pv 0) rfl)) (pg_name (i := 2) sc_Wording_later_edge.nd rfl (Or.inl rfl)) (pss_cons (ps_set (i := 3) sc_Wording_later_edge.nd rfl (Or.inl rfl) (pe_meth (pv 2) T.span M_Span_edge_after G_Span_edge_after (hr.mono (by decide)) b_Span_edge_after .nil pass0 (pa_cons (pv 1) pa_nil))) (pss_one (ps_if (pt_cmp (pc_notN (pv 3))) (pss_one (ps_ret (pv 3))) pss_nil)))) (pss_one (ps_ret pe_non)))), ?_⟩
    refine q_drop (ev_call (ea_cons (ev_var rfl) ea_nil) (spv_demand hn.1)) fun H1 e1 => ?_
    refine q_forT (xs := ys) (a := tb) (ev_fld (ev_var rfl) (e1 _ _ hp) T.wording T.w2 rfl) (st_of (e1 _ _ htb)) (fun i σ H' => Ex H H' ∧ (∃ v2 v3, σ = [some (.ref p), some (.int n), v2, v3]) ∧ laterEdge (spansFrom 0 none rows) n = laterEdge ((spansFrom 0 none rows).drop i) n) (fun H2 e2 => ⟨e1.trans e2, ⟨none, none, rfl⟩, rfl⟩)
      (fun i σ' H' _ p => st_of (p.1 _ _ htb)) ?_ ?_
    · rintro i x σ' H' hx ⟨e, ⟨v2, v3, rfl⟩, hl⟩
      obtain ⟨q, sp, rfl, hsi, sA⟩ := (hS.mono e).get hx
      obtain ⟨dz, qr, hq, _⟩ := id sA
      have hso := ok.spans sp (List.mem_of_getElem? hsi)
      have hl2 := List.getElem?_eq_some_iff.mp hsi
      rw [List.drop_eq_getElem_cons hl2.1, hl2.2] at hl
      show tSeq _ _ _ (List.set _ _ _) H'
      refine q_asg (ev_meth (ev_var rfl) hq rfl (ea_cons (ev_var rfl) ea_nil) (spv_edgeAfter sA hso hn)) fun H2 e2 => ?_
      cases he : edgeAfter sp n with
      | none =>
        refine s_when (et_B (ev_notN (ev_var rfl))) (fun hb => Bool.noConfusion hb) (fun hb H3 e3 => ⟨(e.trans e2).trans e3, ⟨_, _, rfl⟩, ?_⟩)
        rw [hl]
        unfold laterEdge
        rw [List.findSome?_cons, he]
      | some b =>
        have hb2 : laterEdge (spansFrom 0 none rows) n = some b := by
          rw [hl]
          unfold laterEdge
          rw [List.findSome?_cons, he]
        rw [hb2] at k
        exact s_when (et_B (ev_notN (ev_var rfl))) (fun hb H3 e3 => s_ret (ev_var rfl) fun H4 e4 => k H4 (((e.trans e2).trans e3).trans e4)) (fun hb => Bool.noConfusion hb)
    · rintro σ' H' ⟨e, ⟨v2, v3, rfl⟩, hl⟩
      have hd : (spansFrom 0 none rows).drop ys.length = [] := List.drop_eq_nil_of_le (by rw [hS.1]; exact Nat.le_refl _)
      rw [hd] at hl
      have hl' : laterEdge (spansFrom 0 none rows) n = none := hl
      rw [hl'] at k
      exact s_ret ev_c fun H2 e2 => k H2 (e.trans e2)
theorem ok_numE {f : Addr} {fd : FuncData} (F : Fn K "number_of_edges" "number_of_edges" s_number_of_edges f fd) (T : Tx K mg cR cS cW) (B : Bn mg) (c2 : Met P w K mg base CX0 4 cS "number_until" ["self", "age"] (spNumUntil cR cS)) :
    FnOk P w K mg base CX0 5 f fd ["spans", "age"] (spNumE cR cS) := by
  obtain ⟨f2, fd2, G_Span_number_until, M_Span_number_until, b_Span_number_until⟩ := c2.ex
  refine F.ok sc_number_of_edges (fun vs H Q E h => ?_) (fun cdv A outer s H vs Q E hr h => ?_)
  · obtain ⟨a, xs, ss, n, rfl, _⟩ := h; rfl
  · obtain ⟨a, xs, ss, n, rfl, ha, hS, ho, hlen, hn, k⟩ := h
    refine ⟨_, PSs.nox (pss_one (ps_ret (pe_callB (cr_sum rfl) (by rfl) B.sum (by decide +kernel) (pa_cons (pe_lc (own := [("span", 2)]) rfl sc_number_of_edges.nd (pi_tup (pv 0)) (blkOk_by (own := [("span", 2)]) (N := ["spans", "age", "span"]) (sc := defScope s_number_of_edges) (by decide +kernel)) (fun _ _ _ _ _ => by exact (pg_name (i := 2) sc_number_of_edges.nd rfl (Or.inl rfl))) (fun _ _ _ _ _ => by exact (pts_one (pt_cmpR op_le (pe_fldK (K := K) (by rfl) (pv 2) rfl) (pv 1) (nomark _)))) (fun _ _ _ _ _ => by exact (pe_meth (pv 2) T.span M_Span_number_until G_Span_number_until (hr.mono (by decide)) b_Span_number_until .nil pass0 (pa_cons (pv 1) pa_nil)))) pa_nil)))), ?_⟩
    have hl := hS.1
    have hlc := el_lcT (K := K) (σ := start ["spans", "age", "span"] [.ref a, .int n]) (H := H) (a := a) (xs := xs) (tl := tVar 0) (j := 2) (vs := [2]) (t := tTest (tOp (rI0 fun i j => .bl (decide (i ≤ j))) (tFld K (tVar 2) "low") (tVar 1))) (te := tMeth cS "number_until" (spNumUntil cR cS) [] E0 (tVar 2) (tCons (tVar 1) tNil))
      (fun i => ((ss[i]?).map fun s => decide (s.low ≤ n)).getD false) (fun i => .int (((ss[i]?).map (numUntil · n)).getD 0)) (ev_var rfl) (st_of ha) (by omega) (fun x => rfl)
      (fun i x H1 e1 hi => ?t) (fun i x H1 e1 hi _ => ?e)
    case t =>
      obtain ⟨q, sp, rfl, hsi, dz, qr, hq, _⟩ := (hS.mono e1).get hi
      show EvT _ [some (.ref a), some (.int n), some (.ref q)] H1 ((Option.map (fun s : SpanD => decide (s.low ≤ n)) ss[i]?).getD false)
      rw [hsi]
      exact et_test (ev_op (ev_fld (ev_var rfl) hq T.span T.s1 rfl) (ev_var rfl) rv_I0)
    case e =>
      obtain ⟨q, sp, rfl, hsi, sA⟩ := (hS.mono e1).get hi
      obtain ⟨dz, qr, hq, _⟩ := id sA
      show Ev _ [some (.ref a), some (.int n), some (.ref q)] H1 (.int ((Option.map (numUntil · n) ss[i]?).getD 0))
      rw [hsi]
      exact ev_meth (ev_var rfl) hq rfl (ea_cons (ev_var rfl) ea_nil) (spv_numUntil sA (ho sp (List.mem_of_getElem? hsi)) hn)
    rw [given_list (L := ss) (p := fun s => decide (s.low ≤ n)) (q := fun s => .int (numUntil s n)) (fun i s hi => by rw [hi]; exact ⟨rfl, rfl⟩) xs.length (by omega), List.take_of_length_le (by omega)] at hlc
    have hm : (ss.filter fun s => decide (s.low ≤ n)).map (fun s => V.int (numUntil s n)) = ((ss.filter fun s => decide (s.low ≤ n)).map (numUntil · n)).map V.int := by
      rw [List.map_map]
      rfl
    rw [hm] at hlc
    exact s_ret (ev_sum hlc) k
theorem ok_edges {f : Addr} {fd : FuncData} (F : Fn K "edges" "Wording.edges" s_Wording_edges f fd) (T : Tx K mg cR cS cW) (c1 : Cal P w K mg base CX0 1 "demand_age" ["age"] spDemand) (c2 : Cal P w K mg base CX0 5 "number_of_edges" ["spans", "age"] (spNumE cR cS)) :
    FnOk P w K mg base CX0 6 f fd ["self", "low", "high"] (spEdges cR cS cW) := by
  obtain ⟨f1, fd1, G_demand_age, m_demand_age, k_demand_age, b_demand_age⟩ := c1.ex
  obtain ⟨f2, fd2, G_number_of_edges, m_number_of_edges, k_number_of_edges, b_number_of_edges⟩ := c2.ex
  refine F.ok sc_Wording_edges (fun vs H Q E h => ?_) (fun cdv A outer s H vs Q E hr h => ?_)
  · obtain ⟨p, rows, lo, hi, rfl, _⟩ := h; rfl
  · obtain ⟨p, rows, lo, hi, rfl, ⟨dx, ta, tb, xs, ys, hp, hta, hR, htb, hS⟩, ok, hn, hm, k⟩ := h
    refine ⟨_, PSs.nox (pss_cons (ps_expr (pe_call G_demand_age (hr.mono (by decide)) rfl m_demand_age k_demand_age b_demand_age .nil pass0 (pa_cons (pv 1) pa_nil))) (pss_cons (ps_expr (pe_call G_demand_age (hr.mono (by decide)) rfl m_demand_age k_demand_age b_demand_age .nil pass0 (pa_cons (pv 2) pa_nil))) (pss_one (ps_ret (pe_op op_sub (pe_call G_number_of_edges (hr.mono (by decide)) rfl m_number_of_edges k_number_of_edges b_number_of_edges .nil pass0 (pa_cons (pe_fld (pv 0) rfl) (pa_cons (pv 2) pa_nil))) (pe_call G_number_of_edges (hr.mono (by decide)) rfl m_number_of_edges k_number_of_edges b_number_of_edges .nil pass0 (pa_cons (pe_fld (pv 0) rfl) (pa_cons (pv 1) pa_nil)))))))), ?_⟩
    have hlen : (spansFrom 0 none rows).length ≤ 1000 := by rw [spansFrom_len]; exact ok.n
    refine q_drop (ev_call (ea_cons (ev_var rfl) ea_nil) (spv_demand hn.1)) fun H1 e1 => ?_
    refine q_drop (ev_call (ea_cons (ev_var rfl) ea_nil) (spv_demand hm.1)) fun H2 e2 => ?_
    have e12 := e1.trans e2
    exact s_ret (ev_op (ev_call (ea_cons (ev_fld (ev_var rfl) (e12 _ _ hp) T.wording T.w2 rfl) (ea_cons (ev_var rfl) ea_nil)) (spv_numE (e12 _ _ htb) (hS.mono e12) ok.spans hlen hm)) (ev_call (ea_cons (ev_fld (ev_var rfl) (e12 _ _ hp) T.wording T.w2 rfl) (ea_cons (ev_var rfl) ea_nil)) (spv_numE (e12 _ _ htb) (hS.mono e12) ok.spans hlen hn)) rv_I0) fun H3 e3 => k H3 (e12.trans e3)
end
end Age

set_option Elab.async false
set_option linter.all false
set_option maxRecDepth 100000
set_option maxHeartbeats 4000000
namespace Age
open PySem PySem.Spec PyProof.Rows L2 Evl
/-! ### the ages with a label -/
abbrev Str2 := Int × Option Int
def joinStep (acc : List Str2) (x : Str2) : List Str2 := match acc.getLast? with
  | some (lo, some h) => if h + 1 = x.1 then acc.dropLast ++ [(lo, x.2)] else acc ++ [x]
  | _ => acc ++ [x]
def joinS (xs : List Str2) : List Str2 := xs.foldl joinStep []
def agesOf (rows : List RowD) (w : Str) (c : Option Int) : List Str2 := joinS ((spansFrom 0 none rows).filterMap (stretchWith · w c))
def PairAt (H : Hp) (y : V) (p : Str2) : Prop := ∃ t, y = .ref t ∧ H t = some (.tup [.int p.1, oV p.2])
theorem PairAt.mono {H H' : Hp} {y : V} {p : Str2} (e : Ex H H') (h : PairAt H y p) : PairAt H' y p := let ⟨t, a, b⟩ := h; ⟨t, a, e _ _ b⟩
inductive PairsAt (H : Hp) : List V → List Str2 → Prop
  | nil : PairsAt H [] []
  | cons {y : V} {p : Str2} {ys : List V} {ps : List Str2} : PairAt H y p → PairsAt H ys ps → PairsAt H (y :: ys) (p :: ps)
theorem PairsAt.mono {H H' : Hp} (e : Ex H H') : ∀ {ys : List V} {ps : List Str2}, PairsAt H ys ps → PairsAt H' ys ps
  | _, _, .nil => .nil
  | _, _, .cons a b => .cons (a.mono e) (b.mono e)
theorem PairsAt.len {H : Hp} : ∀ {ys : List V} {ps : List Str2}, PairsAt H ys ps → ys.length = ps.length
  | _, _, .nil => rfl
  | _, _, .cons _ b => by rw [List.length_cons, List.length_cons, b.len]
theorem PairsAt.get {H : Hp} : ∀ {ys : List V} {ps : List Str2} {i : Nat} {y : V}, PairsAt H ys ps → ys[i]? = some y → ∃ p, ps[i]? = some p ∧ PairAt H y p
  | _, _, _, _, .nil, h => by simp at h
  | _, _, 0, y, .cons (p := p) a b, h => by
    simp at h
    subst h
    exact ⟨p, rfl, a⟩
  | _, _, i + 1, y, .cons a b, h => by
    obtain ⟨p, h1, h2⟩ := b.get (i := i) (y := y) (by simpa using h)
    exact ⟨p, by simpa using h1, h2⟩
theorem PairsAt.app {H : Hp} : ∀ {ys zs : List V} {ps qs : List Str2}, PairsAt H ys ps → PairsAt H zs qs → PairsAt H (ys ++ zs) (ps ++ qs)
  | _, _, _, _, .nil, b => b
  | _, _, _, _, .cons a c, b => .cons a (c.app b)
theorem PairsAt.dropLast {H : Hp} : ∀ {ys : List V} {ps : List Str2}, PairsAt H ys ps → PairsAt H ys.dropLast ps.dropLast
  | _, _, .nil => .nil
  | _, _, .cons a .nil => .nil
  | _, _, .cons a (.cons b c) => .cons a (PairsAt.dropLast (.cons b c))
theorem PairsAt.last {H : Hp} {ys : List V} {ps : List Str2} (h : PairsAt H ys ps) {p : Str2} (hp : ps.getLast? = some p) : ∃ t, ys[ys.length - 1]? = some (V.ref t) ∧ H t = some (.tup [.int p.1, oV p.2]) := by
  rw [List.getLast?_eq_getElem?] at hp
  have hlt := (List.getElem?_eq_some_iff.mp hp).1
  have hl := h.len
  have hy : ys[ps.length - 1]? = some ys[ps.length - 1] := List.getElem?_eq_getElem (by omega)
  obtain ⟨p', h1, t, h2, h3⟩ := h.get hy
  rw [hp] at h1
  have e := Option.some.inj h1
  subst e
  exact ⟨t, by rw [hl, hy, h2], h3⟩
theorem joinStep_last (acc : List Str2) (x : Str2) : ∃ lo, (joinStep acc x).getLast? = some (lo, x.2) := by
  unfold joinStep
  split
  · rename_i lo h _
    split
    · exact ⟨lo, by simp⟩
    · exact ⟨x.1, by simp⟩
  · exact ⟨x.1, by simp⟩
theorem joinS_snoc (xs : List Str2) (x : Str2) : joinS (xs ++ [x]) = joinStep (joinS xs) x := by
  unfold joinS
  rw [List.foldl_append]
  rfl
theorem joinS_last {xs : List Str2} {i : Nat} {x : Str2} (h : xs[i]? = some x) : ∃ lo, (joinS (xs.take (i + 1))).getLast? = some (lo, x.2) := by
  have e : xs.take (i + 1) = xs.take i ++ [x] := by rw [List.take_add_one, h]; rfl
  rw [e, joinS_snoc]
  exact joinStep_last _ _
def dP (p : Str2) : PyData := .tuple [.int p.1, dO p.2]
theorem dp_pair {K : PySem.W.Frag} {H : Hp} {y : V} {p : Str2} (h : PairAt H y p) : Dp K H y (dP p) := by
  obtain ⟨t, rfl, h⟩ := h
  exact .tup (st_of h) (.cons (.int _) (.cons (dp_oV _) .nil))
theorem dp_pairs {K : PySem.W.Frag} {H : Hp} : ∀ {ys : List V} {ps : List Str2}, PairsAt H ys ps → DpAll K H ys (ps.map dP)
  | _, _, .nil => .nil
  | _, _, .cons a b => .cons (dp_pair a) (dp_pairs b)
theorem canLay_dP (p : Str2) : (dP p).canLay0 = true := by
  obtain ⟨a, b⟩ := p
  cases b <;> simp [dP, dO, PyData.canLay0, PyData.canLayAll0]
theorem depth_dP (p : Str2) : (dP p).depth = 1 := by
  obtain ⟨a, b⟩ := p
  cases b <;> simp [dP, dO, PyData.depth, PyData.depthAll]
theorem canLay_dPs : ∀ ps : List Str2, PyData.canLayAll0 (ps.map dP) = true
  | [] => by simp [PyData.canLayAll0]
  | p :: ps => by simp [PyData.canLayAll0, canLay_dP, canLay_dPs ps]
theorem depth_dPs : ∀ ps : List Str2, PyData.depthAll (ps.map dP) ≤ 1
  | [] => by simp [PyData.depthAll]
  | p :: ps => by
    have := depth_dPs ps
    simp only [List.map_cons, PyData.depthAll, depth_dP]
    omega
theorem shaped_list (ps : List Str2) : SeqAt.shaped (.list (ps.map dP)) = true := by
  have := depth_dPs ps
  simp only [SeqAt.shaped, PyData.canLay0, canLay_dPs, PyData.depth, Bool.true_and]
  exact decide_eq_true (by omega)
theorem shaped_tupP (ps : List Str2) : SeqAt.shaped (.tuple (ps.map dP)) = true := by
  have := depth_dPs ps
  simp only [SeqAt.shaped, PyData.canLay0, canLay_dPs, PyData.depth, Bool.true_and]
  exact decide_eq_true (by omega)
theorem eqv_list_nil (ds : List PyData) : PyData.eqv (.list ds) (.list []) = ds.isEmpty := by
  cases ds <;> simp [PyData.eqv, PyData.eqvAll]
/-! ### what is left of stretches and spans -/
theorem fm_dropLast {α β : Type} {f : α → Option β} : ∀ {xs : List α} {y : β}, y ∈ (xs.filterMap f).dropLast → ∃ x ∈ xs.dropLast, f x = some y
  | [], y, h => by simp at h
  | [x], y, h => by
    cases e : f x <;> simp [e] at h
  | x :: x2 :: r, y, h => by
    have ih := fun z => fm_dropLast (f := f) (xs := x2 :: r) (y := y) z
    have el : (x :: x2 :: r).dropLast = x :: (x2 :: r).dropLast := rfl
    rw [el]
    cases e : f x with
    | none =>
      rw [List.filterMap_cons_none e] at h
      obtain ⟨z, hz, hf⟩ := ih h
      exact ⟨z, List.mem_cons_of_mem _ hz, hf⟩
    | some p =>
      rw [List.filterMap_cons_some e] at h
      cases hm : (x2 :: r).filterMap f with
      | nil => rw [hm] at h; simp at h
      | cons q qs =>
        rw [hm] at h ih
        have h' : y ∈ p :: (q :: qs).dropLast := h
        rcases List.mem_cons.mp h' with z | z
        · subst z
          exact ⟨x, List.mem_cons_self, e⟩
        · obtain ⟨z2, hz, hf⟩ := ih z
          exact ⟨z2, List.mem_cons_of_mem _ hz, hf⟩
theorem spans_high {rows : List RowD} : ∀ {b : Int} {sh : Option (Str × Option Int)}, UOk b rows → ∀ s ∈ (spansFrom b sh rows).dropLast, s.high.isSome = true := by
  induction rows with
  | nil => intro b sh _ s hs; simp [spansFrom] at hs
  | cons r rs ih =>
    intro b sh hu s hs
    cases hu with
    | last h => simp [spansFrom, h] at hs
    | more h hbt hu2 =>
      rename_i t
      simp only [spansFrom, h] at hs
      cases hm : spansFrom t (some (r.word, cntO r (t - 1))) rs with
      | nil => rw [hm] at hs; simp at hs
      | cons s2 ss =>
        rw [hm] at hs
        have hs' : s ∈ (⟨b, some (t - 1), r, decide (0 < b) && !decide (some (r.word, cntO r b) = sh)⟩ : SpanD) :: (s2 :: ss).dropLast := hs
        rcases List.mem_cons.mp hs' with z | z
        · subst z; rfl
        · exact ih hu2 s (by rw [hm]; exact z)
theorem stretch_some {s : SpanD} {w : Str} {c : Option Int} {p : Str2} (h : stretchWith s w c = some p) (hs : s.high.isSome = true) : p.2.isSome = true := by
  obtain ⟨lo, hi, ⟨til, unit, way, word⟩, fr⟩ := s
  unfold stretchWith at h
  split at h
  · cases unit <;> cases c <;> simp at h
    · rw [← h]; exact hs
    · rw [← h.2]; rfl
  · cases h
def StrAt (o : Option Str2) (y : V) (H : Hp) : Prop := match o with
  | none => y = .non
  | some p => PairAt H y p
theorem StrAt.mono {o : Option Str2} {y : V} {H H' : Hp} (e : Ex H H') (h : StrAt o y H) : StrAt o y H' := by
  cases o with
  | none => exact h
  | some p => exact PairAt.mono e h
theorem pairs_filter {α : Type} {H : Hp} {f : α → Option Str2} : ∀ (ss : List α) (ys : List V), ys.length = ss.length → (∀ (i : Nat) s y, ss[i]? = some s → ys[i]? = some y → StrAt (f s) y H) → PairsAt H (ys.filter fun y => !decide (y = .non)) (ss.filterMap f)
  | [], ys, hl, _ => by
    have : ys = [] := List.length_eq_zero_iff.mp hl
    subst this
    exact .nil
  | s :: ss, [], hl, _ => by simp at hl
  | s :: ss, y :: ys, hl, h => by
    have ih := pairs_filter ss ys (by simpa using hl) (fun i s' y' h1 h2 => h (i + 1) s' y' (by simpa using h1) (by simpa using h2))
    have h0 := h 0 s y rfl rfl
    cases e : f s with
    | none =>
      rw [e] at h0
      have hy : y = .non := h0
      subst hy
      rw [List.filterMap_cons_none e]
      exact ih
    | some p =>
      rw [e] at h0
      obtain ⟨t, rfl, ht⟩ := h0
      rw [List.filterMap_cons_some e]
      exact .cons ⟨t, rfl, ht⟩ ih
theorem eu_tuple {K : PySem.W.Frag} {σ : L2.St} {H : Hp} {ta : TE} {a : Addr} {xs : List V} (h : Ev ta σ H (.ref a)) (hx : SqL K H a xs) :
    EvU (tCB (fun vs H Q => ∃ p ys, vs = [V.ref p] ∧ ((SqL K H p ys ∧ ∀ l, H l = none → Q (.ref l) (upd H l (.tup ys))) ∨ (SqT K H p ys ∧ Q (.ref p) H))) (tCons ta tNil)) σ H xs := fun H1 e Q q => h H1 e _ fun H2 e2 =>
  ⟨a, xs, rfl, Or.inl ⟨ex_l (e.trans e2) hx, fun l hl => q l _ (fresh_back e2 hl) (e2.trans (Ex.new hl)) upd_same⟩⟩
/-- x = [e for .. in ..] -/
theorem q_asgE {K : PySem.W.Frag} {σ : L2.St} {H : Hp} {te tl : TE} {g : TG} {D : Ends} {tz : TS} {j : Nat} {isT : Bool} {a : Addr} {xs : List V} {vs : List Nat} {R : Nat → V → Hp → Prop} (mono : ∀ i y H1 H2, Ex H1 H2 → R i y H1 → R i y H2) (h : Ev tl σ H (.ref a)) (hx : if isT = true then SqT K H a xs else SqL K H a xs) (hz : xs.length ≤ 40000)
    (hs : ∀ (i : Nat) (x : V) M, Ex H M → xs[i]? = some x → ∃ σ2, wipe σ2 vs = wipe σ vs ∧ (∀ H1 k, Ex M H1 → k σ2 H1 → g x (wipe σ vs) H1 k) ∧ EvE te σ2 M (R i))
    (k : ∀ p ys H1, H p = none → Ex H H1 → H1 p = some (.lst ys) → Each R xs.length ys (wo p H1) → tz D (σ.set j (some (.ref p))) H1) : tSeq (tAsg (tLc (if isT = true then iTup K tl else iList K tl) g tYes te vs) (gName j)) tz D σ H := by
  show tLc _ _ _ _ _ σ H (fun x H1 => tz D (σ.set j (some x)) H1)
  exact en_lc mono h hx hz hs H (Ex.refl H) _ fun p ys H2 hp e2 h2 hE => k p ys H2 hp e2 h2 hE
theorem s_retCL {σ : L2.St} {H : Hp} {te : TE} {D : Ends} {sp : Sp} {E : XK} {xs : List V} (h : EvL te σ H xs) (k : ∀ p H1, H p = none → Ex H H1 → H1 p = some (.lst xs) → sp [.ref p] H1 D.rt E) : tRet (tCall sp [] E (tCons te tNil)) D σ H := h H (Ex.refl H) _ k
/-! ### promises -/
def spJoined : Sp := fun vs H Q _ => ∃ (a : Addr) (xs : List V) (ps : List Str2), vs = [.ref a] ∧ H a = some (.lst xs) ∧ PairsAt H xs ps ∧ (∀ p ∈ ps.dropLast, p.2.isSome = true) ∧ ps.length ≤ 1000 ∧
  ∀ t ys H2, H t = none → Ex H H2 → H2 t = some (.tup ys) → PairsAt H2 ys (joinS ps) → Q (.ref t) H2
def spAges (cR cS cW : Addr) : Sp := fun vs H Q _ => ∃ (p q : Addr) (rows : List RowD) (wd : Str) (c : Option Int), vs = [.ref p, .ref q] ∧ WordAt cR cS cW H p rows ∧ RowsOk rows ∧ H q = some (.tup [.str wd, oV c]) ∧ Cok c ∧
  ∀ t ys H2, H t = none → Ex H H2 → H2 t = some (.tup ys) → PairsAt H2 ys (agesOf rows wd c) → Q (.ref t) H2
section
variable {P : Program} {w : World} {K : PySem.W.Frag} {mg : Str → Option Value} {base : Heap} {cR cS cW : Addr}
end
end Age

set_option Elab.async false
set_option linter.all false
set_option maxRecDepth 100000
set_option maxHeartbeats 4000000
namespace Age
open PySem PySem.Spec PyProof.Rows L2 Evl RT
/-! ### the last edge, labels that come back -/
def lastUntil (s : SpanD) (n : Int) : Option Int := match s.row.unit with
  | none => if s.fresh = true then some s.low else none
  | some u => if fst (cnt (limO s n) u s.row.way) u s.row.way > s.low then some (fst (cnt (limO s n) u s.row.way) u s.row.way) else if s.fresh = true then some s.low else none
def lastIn (n : Int) (s : SpanD) : Option Int := if s.low ≤ n then lastUntil s n else none
def lastEdge (ss : List SpanD) (n : Int) : Int := (ss.reverse.findSome? (lastIn n)).getD 0
def sharedFrom (s e : SpanD) (u v : Int) : Int := if cnt e.low v e.row.way > cnt s.low u s.row.way + (if s.fresh = true then 0 else 1) then cnt e.low v e.row.way else cnt s.low u s.row.way + (if s.fresh = true then 0 else 1)
def edgeShared (s e : SpanD) : Option Int := if s.row.word = e.row.word then match s.row.unit, e.row.unit with
    | none, none => if s.fresh = true then some s.low else none
    | some u, some v => match stretchWith s s.row.word (some (sharedFrom s e u v)) with
      | none => none
      | some p => if sharedFrom s e u v > cnt (e.high.getD 0) v e.row.way then none else some p.1
    | _, _ => none
  else none
def againAt (ss : List SpanD) (i : Nat) : List Int := match ss[i]? with
  | some s => (ss.take i).filterMap (edgeShared s)
  | none => []
def minL : List Int → Option Int
  | [] => none
  | x :: xs => match minL xs with
    | none => some x
    | some m => some (if m < x then m else x)
theorem minL_is : ∀ {L : List Int} {m : Int}, m ∈ L → (∀ y ∈ L, m ≤ y) → minL L = some m
  | [], _, h, _ => nomatch h
  | [x], m, h, _ => by rw [List.mem_singleton.mp h]; rfl
  | x :: y :: r, m, h, hm => by
    by_cases hr : m ∈ y :: r
    · have ih := minL_is hr fun z hz => hm z (List.mem_cons_of_mem _ hz)
      have h1 := hm x List.mem_cons_self
      unfold minL
      rw [ih]
      show some (if m < x then m else x) = some m
      split
      · rfl
      · congr 1; omega
    · have e : m = x := by
        rcases List.mem_cons.mp h with z | z
        · exact z
        · exact absurd z hr
      unfold minL
      cases hq : minL (y :: r) with
      | none => rw [e]
      | some q =>
        show some (if q < x then q else x) = some m
        have hmem : ∀ {L : List Int} {q : Int}, minL L = some q → q ∈ L := by
          intro L
          induction L with
          | nil => intro q h; cases h
          | cons a L ih =>
            intro q h
            unfold minL at h
            cases ha : minL L with
            | none => rw [ha] at h; cases h; exact List.mem_cons_self
            | some b =>
              rw [ha] at h
              have h' : (if b < a then b else a) = q := Option.some.inj h
              split at h'
              · rw [← h']; exact List.mem_cons_of_mem _ (ih ha)
              · rw [← h']; exact List.mem_cons_self
        have h2 := hm q (List.mem_cons_of_mem _ (hmem hq))
        rw [if_neg (by omega), e]
def retFrom (ss : List SpanD) : Nat → Nat → Option Int
  | 0, _ => none
  | k + 1, i => match minL (againAt ss i) with
    | some m => some m
    | none => retFrom ss k (i + 1)
def returnsOf (ss : List SpanD) : Option Int := retFrom ss ss.length 0
def spLastUntil (cR cS : Addr) : Sp := fun vs H Q _ => ∃ (p : Addr) (s : SpanD) (n : Int), vs = [.ref p, .int n] ∧ SpanAt cR cS H p s ∧ SpanOk s ∧ Ag n ∧ RetV (oV (lastUntil s n)) H Q
theorem spv_lastUntil {cR cS p : Addr} {s : SpanD} {n : Int} {H : Hp} (h : SpanAt cR cS H p s) (o : SpanOk s) (hn : Ag n) : SpV (spLastUntil cR cS) [.ref p, .int n] H (oV (lastUntil s n)) := fun H1 e Q q E => ⟨p, s, n, rfl, h.mono e, o, hn, q⟩
def spLast (cR cS cW : Addr) : Sp := fun vs H Q _ => ∃ (p : Addr) (rows : List RowD) (n : Int), vs = [.ref p, .int n] ∧ WordAt cR cS cW H p rows ∧ RowsOk rows ∧ Ag n ∧ RetV (.int (lastEdge (spansFrom 0 none rows) n)) H Q
theorem spv_last {cR cS cW p : Addr} {rows : List RowD} {n : Int} {H : Hp} (h : WordAt cR cS cW H p rows) (o : RowsOk rows) (hn : Ag n) : SpV (spLast cR cS cW) [.ref p, .int n] H (.int (lastEdge (spansFrom 0 none rows) n)) := fun H1 e Q q E => ⟨p, rows, n, rfl, h.mono e, o, hn, q⟩
def spShared (cR cS : Addr) : Sp := fun vs H Q _ => ∃ (p q : Addr) (s e : SpanD), vs = [.ref p, .ref q] ∧ SpanAt cR cS H p s ∧ SpanAt cR cS H q e ∧ SpanOk s ∧ SpanOk e ∧ e.high.isSome = true ∧ RetV (oV (edgeShared s e)) H Q
theorem spv_shared {cR cS p q : Addr} {s e : SpanD} {H : Hp} (h : SpanAt cR cS H p s) (h2 : SpanAt cR cS H q e) (o : SpanOk s) (o2 : SpanOk e) (hh : e.high.isSome = true) : SpV (spShared cR cS) [.ref p, .ref q] H (oV (edgeShared s e)) := fun H1 x Q k E => ⟨p, q, s, e, rfl, h.mono x, h2.mono x, o, o2, hh, k⟩
def spReturns (cR cS cW : Addr) : Sp := fun vs H Q _ => ∃ (p : Addr) (rows : List RowD), vs = [.ref p] ∧ WordAt cR cS cW H p rows ∧ RowsOk rows ∧ RetV (oV (returnsOf (spansFrom 0 none rows))) H Q
theorem spv_returns {cR cS cW p : Addr} {rows : List RowD} {H : Hp} (h : WordAt cR cS cW H p rows) (o : RowsOk rows) : SpV (spReturns cR cS cW) [.ref p] H (oV (returnsOf (spansFrom 0 none rows))) := fun H1 e Q q E => ⟨p, rows, rfl, h.mono e, o, q⟩
/-- x = [e for .. in ..] over a new tuple -/
theorem q_asgLcT {K : PySem.W.Frag} {σ : L2.St} {H : Hp} {te tl : TE} {g : TG} {tt : TT} {D : Ends} {tz : TS} {j : Nat} {vs : List Nat} {Pa : Addr → List V → Hp → Prop}
    (h : ∀ Q' : VK, (∀ t xs H1, Ex H H1 → H1 t = some (.tup xs) → Pa t xs H1 → Q' (.ref t) H1) → tl σ H Q')
    (k : ∀ t xs H1, Ex H H1 → H1 t = some (.tup xs) → Pa t xs H1 → tLc (iTup K (tC (.ref t))) g tt te vs σ H1 (fun x H2 => tz D (σ.set j (some x)) H2)) : tSeq (tAsg (tLc (iTup K tl) g tt te vs) (gName j)) tz D σ H :=
  h _ fun t xs H1 e h1 p => k t xs H1 e h1 p
section
variable {K : PySem.W.Frag} {σ : L2.St} {H : Hp} {ta : TE} {a C dx : Addr} {fs : List (Str × V)}
/-- a method's call, by its promise at hand -/
theorem em_meth {m : Str} {sp : Sp} {dvs vs : List V} {E : XK} {t : TA} {Q : VK} (ha : Ev ta σ H (.ref a)) (h : H a = some (.ins C dx fs)) (l : fs.lookup m = none) (ht : EvA t σ H vs) (hs : ∀ H1, Ex H H1 → sp (.ref a :: (vs ++ dvs)) H1 Q E) : tMeth C m sp dvs E ta t σ H Q :=
  ha H (Ex.refl H) _ fun H2 e2 => ⟨a, dx, fs, rfl, e2 a _ h, l, ht H2 e2 _ fun H3 e3 => hs H3 (e2.trans e3)⟩
end
/-- a loop over a tuple, from behind -/
theorem q_forRT {K : PySem.W.Frag} {σ : L2.St} {H : Hp} {tl : TE} {g : TG} {tb tz : TS} {D : Ends} {a : Addr} {xs : List V} (h : Ev tl σ H (.ref a)) (hx : SqT K H a xs) (Pv : Nat → L2.St → Hp → Prop) (h0 : ∀ H1, Ex H H1 → Pv 0 σ H1) (hq : ∀ i σ H, Pv i σ H → SqT K H a xs)
    (hs : ∀ (i : Nat) (x : V) (σ : L2.St) (H : Hp), i < xs.length → xs[xs.length - 1 - i]? = some x → Pv i σ H → g x σ H fun σ2 H2 => tb { D with nx := Pv (i + 1), ct := Pv (i + 1), bk := tz D } σ2 H2) (hd : ∀ σ H, Pv xs.length σ H → tz D σ H) : tSeq (tFor (iRevA K tl) g tb) tz D σ H :=
  h H (Ex.refl H) _ fun H1 e => ⟨a, xs, rfl, Or.inr ⟨ex_t e hx, for_ItvT (D := { D with nx := tz D }) Pv (h0 H1 e) hq hs hd⟩⟩
theorem limO_ag {s : SpanD} {n : Int} (o : SpanOk s) (hn : Ag n) : Ag (limO s n) := by
  unfold limO
  split
  · exact hn
  · rename_i h hh
    split
    · exact o.hi h hh
    · exact hn
theorem cnt_ok {n u : Int} {w : Str} (hn : Ag n) (u0 : 0 < u) (u1 : Ag u) : 0 ≤ cnt n u w ∧ cnt n u w ≤ 2722258935367507707706996859454145691648 := by
  have := cnt_bd w hn.1 u0
  unfold Ag at hn u1
  omega
theorem lt_wide {n u : Int} {w : Str} (hn : Ag n) (u0 : 0 < u) (u1 : Ag u) : Sm (cnt n u w) := by
  have := cnt_ok (w := w) hn u0 u1
  unfold Sm
  omega
section
variable {P : Program} {w : World} {K : PySem.W.Frag} {mg : Str → Option Value} {base : Heap} {cR cS cW : Addr}
end
end Age

set_option Elab.async false
set_option linter.all false
set_option maxRecDepth 100000
set_option maxHeartbeats 4000000
namespace Age
open PySem PySem.Spec PyProof.Rows L2 Evl RT
section
variable {P : Program} {w : World} {K : PySem.W.Frag} {mg : Str → Option Value} {base : Heap} {cR cS cW : Addr}
theorem shared_bd {s e : SpanD} {u v : Int} (os : SpanOk s) (oe : SpanOk e) (hu : 0 < u ∧ Ag u) (hv : 0 < v ∧ Ag v) : 0 ≤ sharedFrom s e u v ∧ sharedFrom s e u v ≤ 2722258935367507707706996859454145691649 := by
  have h1 := cnt_ok (w := s.row.way) os.lo hu.1 hu.2
  have h2 := cnt_ok (w := e.row.way) oe.lo hv.1 hv.2
  unfold sharedFrom
  split
  · omega
  · split <;> omega
end
end Age

set_option Elab.async false
set_option linter.all false
set_option maxRecDepth 100000
set_option maxHeartbeats 4000000
namespace Age
open PySem PySem.Spec PyProof.Rows L2 Evl
/-! ### the source of draws: a dict at p, its numbers -/
def penD (c : Addr) (at_ left : Int) : List (Key × V) := [(.inr "cells", .ref c), (.inr "at", .int at_), (.inr "left", .int left)]
def PenAt (H : Hp) (p c : Addr) (n : Int) : Prop := ∃ (at_ left : Int) (cells : List Int), H p = some (.dK (penD c at_ left)) ∧ H c = some (.lst (cells.map V.int)) ∧ 0 ≤ at_ ∧ at_ ≤ n ∧ 0 ≤ left
theorem PenAt.mono {H H' : Hp} {p c : Addr} {n : Int} (e : Ex H H') (h : PenAt H p c n) : PenAt H' p c n := by
  obtain ⟨a, l, cs, h1, h2, h3⟩ := h
  exact ⟨a, l, cs, e _ _ h1, e _ _ h2, h3⟩
theorem PenAt.le {H : Hp} {p c : Addr} {n m : Int} (h : PenAt H p c n) (e : n ≤ m) : PenAt H p c m := by
  obtain ⟨a, l, cs, h1, h2, h3, h4, h5⟩ := h
  exact ⟨a, l, cs, h1, h2, h3, Int.le_trans h4 e, h5⟩
theorem pen_cells {c : Addr} {a l : Int} : valV (penD c a l) (Sum.inr ("cells" : Str) : Key) = some (.ref c) := rfl
theorem pen_at {c : Addr} {a l : Int} : valV (penD c a l) (Sum.inr ("at" : Str) : Key) = some (.int a) := rfl
theorem pen_left {c : Addr} {a l : Int} : valV (penD c a l) (Sum.inr ("left" : Str) : Key) = some (.int l) := rfl
theorem pen_putAt {c : Addr} {a l b : Int} : putK (penD c a l) (Sum.inr ("at" : Str) : Key) (V.int b) = penD c b l := rfl
theorem pen_putLeft {c : Addr} {a l b : Int} : putK (penD c a l) (Sum.inr ("left" : Str) : Key) (V.int b) = penD c a b := rfl
def Big : Int := 1152921504606846976
section
variable {K : PySem.W.Frag} {σ : L2.St} {H : Hp} {td ty tv : TE} {v : V} {p : Addr} {kvs : List (Key × V)} {k : Str} {D : Ends} {tz : TS}
theorem ev_dget (ha : Ev td σ H (.ref p)) (h : H p = some (.dK kvs)) (hv : valV kvs (Sum.inr k : Key) = some v) : Ev (tDGet td (tC (.str k))) σ H v := fun H1 e Q q =>
  ha H1 e _ fun H2 e2 => ⟨p, v, rfl, by rw [← hv]; exact DGet.k (k := Sum.inr k) ((e.trans e2) _ _ h), q H2 e2⟩
theorem q_dput {kvs' : List (Key × V)} (ha : Ev td σ H (.ref p)) (h : H p = some (.dK kvs)) (hl : kvs.length < 1000) (ht : Ev tv σ H v) (hp : putK kvs (Sum.inr k : Key) v = kvs') (g : ∀ H1, Ex H H1 → tz D σ (upd H1 p (.dK kvs'))) : tSeq (sDPut td (tC (.str k)) tv) tz D σ H := by
  show tv σ H _
  refine ht H (Ex.refl H) _ fun H1 e1 => ha H1 e1 _ fun H2 e2 => ?_
  refine ⟨p, upd H2 p (.dK (putK kvs (Sum.inr k : Key) v)), rfl, DPut.k (k := Sum.inr k) ((e1.trans e2) _ _ h) (small1000 (by omega)), ?_⟩
  rw [hp]
  exact g H2 (e1.trans e2)
theorem ev_int {i : Int} {t : TE} (h : Ev t σ H (.int i)) : Ev (tCB (fun xs H Q => (∃ i, xs = [.int i] ∧ Q (.int i) H) ∨ ∃ k, xs = [.bl k] ∧ Q (.int (if k then 1 else 0)) H) (tCons t tNil)) σ H (.int i) := fun H1 e Q q => h H1 e _ fun H2 e2 => Or.inl ⟨i, rfl, q H2 e2⟩
theorem ev_mod {i j : Int} {ta tb : TE} (ha : Ev ta σ H (.int i)) (hb : Ev tb σ H (.int j)) (h : 0 < j) : Ev (tOp (rI (fun _ j => 0 < j) fun i j => .int (i % j)) ta tb) σ H (.int (i % j)) := ev_op ha hb (rv_I h)
end
theorem el_listN {K : PySem.W.Frag} {σ : L2.St} {H : Hp} {ta : TE} {xs : List V} (h : EvL ta σ H xs) : EvL (tCB (rListS K) (tCons ta tNil)) σ H xs := fun H1 e Q q =>
  h H1 e _ fun p H2 hp e2 h2 => ⟨p, xs, rfl, Or.inl (sq_of h2), fun l hl => q l _ (fresh_back e2 hl) (e2.trans (Ex.new hl)) upd_same⟩
/-- what stands beside the dict, and the dict goes on -/
def Pw (p c : Addr) (n : Int) (M H : Hp) : Prop := Ex M (wo p H) ∧ PenAt H p c n
section
variable {p c a : Addr} {n m : Int} {M M' H H' H2 : Hp} {o : HO}
theorem Pw.ext (h : Pw p c n M H) (e : Ex H H') : Pw p c n M H' := ⟨h.1.trans (wo_mono e), h.2.mono e⟩
theorem Pw.le (h : Pw p c n M H) (e : n ≤ m) : Pw p c m M H := ⟨h.1, h.2.le e⟩
theorem Pw.of (h : PenAt H p c n) : Pw p c n (wo p H) H := ⟨Ex.refl _, h⟩
theorem Pw.back (h : Pw p c n M H) (e : Ex M' M) : Pw p c n M' H := ⟨e.trans h.1, h.2⟩
theorem Pw.sub (h : Pw p c n M H) : Ex M H := h.1.trans wo_sub
theorem Pw.then (h : Pw p c n M H) (h2 : Pw p c m (wo p H) H2) : Pw p c m M H2 := ⟨h.1.trans h2.1, h2.2⟩
theorem PenAt.not (h : PenAt H p c n) (ha : H a = some o) (hn : ∀ kvs, o ≠ .dK kvs) : a ≠ p := by
  obtain ⟨at_, l, cs, h1, _⟩ := h
  exact ne_of ha h1 (hn _)
/-- an object of the caller's stands behind draws -/
theorem Pw.get (h : Pw p c m (wo p H) H2) (hp : PenAt H p c n) (ha : H a = some o) (hn : ∀ kvs, o ≠ .dK kvs) : H2 a = some o :=
  h.sub _ _ (by rw [wo_ne (hp.not ha hn)]; exact ha)
/-- an object that the base does not know is changed -/
theorem Pw.mut (h : Pw p c n M H) (ha : M a = none) (hc : M c ≠ none) (hap : a ≠ p) : Pw p c n M (upd H a o) := by
  obtain ⟨e, at_, l, cs, h1, h2, h3⟩ := h
  have hca : c ≠ a := fun z => hc (by rw [z]; exact ha)
  refine ⟨fun b u hb => ?_, at_, l, cs, by rw [upd_ne hap.symm]; exact h1, by rw [upd_ne hca]; exact h2, h3⟩
  have := e b u hb
  by_cases hbp : b = p
  · rw [hbp, wo_l] at this; cases this
  · rw [wo_ne hbp] at this ⊢
    rw [upd_ne (ne_of_none hb ha)]
    exact this
theorem PenAt.cell (h : PenAt H p c n) : ∃ o, wo p H c = some o := by
  obtain ⟨at_, l, cs, h1, h2, _⟩ := h
  exact ⟨_, by rw [wo_ne (ne_of h2 h1 (by intro z; cases z))]; exact h2⟩
end
theorem dp_ints {K : PySem.W.Frag} {H : Hp} : ∀ ns : List Int, DpAll K H (ns.map V.int) (ns.map PyData.int)
  | [] => .nil
  | n :: ns => .cons (.int n) (dp_ints ns)
theorem canLay_ints : ∀ ns : List Int, PyData.canLayAll0 (ns.map PyData.int) = true
  | [] => by simp [PyData.canLayAll0]
  | p :: ps => by simp [PyData.canLayAll0, PyData.canLay0, canLay_ints ps]
theorem depth_ints : ∀ ns : List Int, PyData.depthAll (ns.map PyData.int) = 0
  | [] => by simp [PyData.depthAll]
  | p :: ps => by simp [PyData.depthAll, PyData.depth, depth_ints ps]
theorem shaped_ints (ns : List Int) : SeqAt.shaped (.list (ns.map PyData.int)) = true := by
  simp [SeqAt.shaped, PyData.canLay0, canLay_ints, PyData.depth, depth_ints]
def spDraw : Sp := fun vs H Q _ => ∃ (p c : Addr) (m n : Int), vs = [.ref p, .int m] ∧ PenAt H p c n ∧ 0 < m ∧ Sm m ∧ n < Big ∧ ∀ k H', 0 ≤ k → k < m → Pw p c (n + 1) (wo p H) H' → Q (.int k) H'
def spPick : Sp := fun vs H Q _ => ∃ (p c l : Addr) (xs : List V) (n : Int), vs = [.ref p, .ref l] ∧ PenAt H p c n ∧ H l = some (.lst xs) ∧ xs ≠ [] ∧ xs.length ≤ 1000 ∧ n < Big ∧ ∀ (i : Nat) v H', xs[i]? = some v → Pw p c (n + 1) (wo p H) H' → Q v H'
def spNumber : Sp := fun vs H Q _ => ∃ (p c : Addr) (n : Int), vs = [.ref p] ∧ PenAt H p c n ∧ n + 10 < Big ∧ ∀ k H', 0 ≤ k → k < 90 → Pw p c (n + 5) (wo p H) H' → Q (.int k) H'
def Ways (s : Str) : Prop := s = "down" ∨ s = "up" ∨ s = "near"
def spWay : Sp := fun vs H Q _ => ∃ (p c : Addr) (n : Int), vs = [.ref p] ∧ PenAt H p c n ∧ n < Big ∧ ∀ s H', Ways s → Pw p c (n + 1) (wo p H) H' → Q (.str s) H'
def spPen (K : PySem.W.Frag) : Sp := fun vs H Q _ => ∃ (a : Addr) (ns : List Int), vs = [.ref a] ∧ SqL K H a (ns.map V.int) ∧ ∀ p c H', H p = none → H c = none → Ex H (wo p H') → PenAt H' p c 0 → Q (.ref p) H'
section
variable {P : Program} {w : World} {K : PySem.W.Frag} {mg : Str → Option Value} {base : Heap}
theorem cutV_map (ns : List Int) : ∃ ms : List Int, cutV (ns.map V.int) none (some 63) = ms.map V.int := by
  unfold cutV
  rw [← List.map_drop, ← List.map_take]
  exact ⟨_, rfl⟩
theorem ok_pen {f : Addr} {fd : FuncData} (F : Fn K "_law_pen" "_law_pen" s__law_pen f fd) (B : Bn mg) : FnOk P w K mg base CX0 1 f fd ["_law_script"] (spPen K) := by
  refine F.ok sc__law_pen (fun vs H Q E h => ?_) (fun cdv A outer s H vs Q E hr h => ?_)
  · obtain ⟨a, ns, rfl, _⟩ := h; rfl
  · obtain ⟨a, ns, rfl, hS, k⟩ := h
    refine ⟨_, PSs.nox (pss_one (ps_ret (pe_disp (pps_cons pe_str (pe_callTy call_list_of (by rfl) B.list (by decide +kernel) (pa_cons (pe_slice sl_list (pv 0) po_none (po_some pe_int)) pa_nil)) (pps_cons pe_str pe_int (pps_cons pe_str pe_int pps_nil))) (by rfl) (by rfl) (fun z => by cases z) (by decide)))), ?_⟩
    intro p hp
    obtain ⟨ms, hms⟩ := cutV_map ns
    have e0 : Ex H (upd H p (.dK [])) := Ex.new hp
    simp only [tPairs]
    dsimp only [tC]
    refine el_listN (K := K) (el_sl (K := K) (ev_var rfl) eo_none (eo_some ev_c) (ex_l e0 hS)) _ (Ex.refl _) _ fun l H2 hl e2 h2 => ?_
    have hp2 : H2 p = some (.dK []) := e2 _ _ upd_same
    refine ⟨hp2, [(.inr "cells", .ref l), (.inr "at", .int 0), (.inr "left", .int 0)], rfl, by show 3 ≤ 15; decide, ?_⟩
    have nlp : l ≠ p := ne_of h2 hp2 (by intro z; cases z)
    refine k p l _ hp ((fresh_back e0 hl)) ?_ ⟨0, 0, ms, upd_same, ?_, Int.le_refl _, Int.le_refl _, Int.le_refl _⟩
    · intro b o hb
      have hbp : b ≠ p := ne_of_none hb hp
      rw [wo_ne hbp, upd_ne hbp]
      exact e2 _ _ (e0 _ _ hb)
    · rw [upd_ne nlp, h2, hms]
theorem ok_draw {f : Addr} {fd : FuncData} (F : Fn K "_law_draw" "_law_draw" s__law_draw f fd) (B : Bn mg) : FnOk P w K mg base CX0 1 f fd ["_law_pen_here", "_law_many"] spDraw := by
  refine F.ok sc__law_draw (fun vs H Q E h => ?_) (fun cdv A outer s H vs Q E hr h => ?_)
  · obtain ⟨p, c, m, n, rfl, _⟩ := h; rfl
  · obtain ⟨p, c, m, n, rfl, ⟨at_, left, cells, hp, hc, a0, an, l0⟩, hm, sm, hn, k⟩ := h
    have hu := hu_of hr
    refine ⟨_, PSs.nox (pss_cons (ps_if (pt_cmpR op_ge (pe_dget hu (pv 0) pe_str (fun _ _ => rfl)) (pv 1) (nomark _)) (pss_cons (ps_set (i := 2) sc__law_draw.nd rfl (Or.inl rfl) (pe_op op_mod (pe_callTy call_int1 (by rfl) B.int (by decide +kernel) (pa_cons (pe_dget hu (pv 0) pe_str (fun _ _ => rfl)) pa_nil)) (pv 1))) (pss_cons (ps_dput hu (pv 0) pe_str (pe_op op_fdivW (pe_dget hu (pv 0) pe_str (fun _ _ => rfl)) (pv 1)) rfl) (pss_one (ps_ret (pv 2))))) pss_nil) (pss_cons (ps_set (i := 3) sc__law_draw.nd rfl (Or.inl rfl) (pe_dget hu (pv 0) pe_str (fun _ _ => rfl))) (pss_cons (ps_dput hu (pv 0) pe_str (pe_op op_add (pv 3) pe_int) rfl) (pss_cons (ps_set (i := 4) sc__law_draw.nd rfl (Or.inl rfl) (pe_op op_add (pe_op op_mulW pe_int (pv 3)) pe_int)) (pss_cut (ps_if (pt_cmpR (op_neD hr.units) (pe_dget hu (pv 0) pe_str (fun _ _ => rfl)) (pe_lst pa_nil) (nomark _)) (pss_one (ps_set (i := 4) sc__law_draw.nd rfl (Or.inl rfl) (pe_ix ix_list (pe_dget hu (pv 0) pe_str (fun _ _ => rfl)) (pe_op op_mod (pe_callTy call_int1 (by rfl) B.int (by decide +kernel) (pa_cons (pv 3) pa_nil)) (pe_callB call_len_seq (by rfl) B.len (by decide +kernel) (pa_cons (pe_dget hu (pv 0) pe_str (fun _ _ => rfl)) pa_nil))) (fun _ _ => rfl)))) pss_nil) (pss_cons (ps_if (PW.pt (pw_and (pt_cmpR op_lt (pv 3) (pe_callB call_len_seq (by rfl) B.len (by decide +kernel) (pa_cons (pe_dget hu (pv 0) pe_str (fun _ _ => rfl)) pa_nil)) (nomark _)) (pw_and1 (pt_cmpR op_ge (pv 4) (pe_op op_pow pe_int pe_int) (nomark _))))) (pss_cons (ps_dput hu (pv 0) pe_str (pe_op op_fdivW (pe_op op_sub (pv 4) (pe_op op_pow pe_int pe_int)) (pv 1)) rfl) (pss_one (ps_ret (pe_op op_mod (pe_callTy call_int1 (by rfl) B.int (by decide +kernel) (pa_cons (pe_op op_sub (pv 4) (pe_op op_pow pe_int pe_int)) pa_nil)) (pv 1))))) pss_nil) (pss_cons (ps_set (i := 5) sc__law_draw.nd rfl (Or.inl rfl) (pe_op op_add (pe_op op_add (pe_op op_add (pe_op op_mulW (pe_op op_mod (pe_callTy call_int1 (by rfl) B.int (by decide +kernel) (pa_cons (pv 4) pa_nil)) pe_int) pe_int) (pe_op op_mulW (pe_op op_mulW pe_int (pv 3)) (pv 3))) (pe_op op_mulW pe_int (pv 3))) pe_int)) (pss_cons (ps_set (i := 5) sc__law_draw.nd rfl (Or.inl rfl) (pe_op op_mod (pe_callTy call_int1 (by rfl) B.int (by decide +kernel) (pa_cons (pv 5) pa_nil)) pe_int)) (pss_cons (ps_set (i := 5) sc__law_draw.nd rfl (Or.inl rfl) (pe_op op_mod (pe_callTy call_int1 (by rfl) B.int (by decide +kernel) (pa_cons (pe_op op_mulW (pv 5) (pe_op op_add (pv 5) pe_int)) pa_nil)) pe_int)) (pss_one (ps_ret (pe_op op_mod (pe_callTy call_int1 (by rfl) B.int (by decide +kernel) (pa_cons (pe_op op_fdivW (pe_op op_mod (pe_callTy call_int1 (by rfl) B.int (by decide +kernel) (pa_cons (pe_op op_mulW (pv 5) (pv 5)) pa_nil)) pe_int) pe_int) pa_nil)) (pv 1))))))))))))), ?_⟩
    have ncp : c ≠ p := ne_of hc hp (by intro z; cases z)
    have smA : Sm at_ := by unfold Sm; unfold Big at hn; omega
    have smA1 : Sm (40014 * at_) := by unfold Sm; unfold Big at hn; omega
    refine q_when (et_test (ev_op (ev_dget (ev_var rfl) hp pen_left) (ev_var rfl) rv_I0)) (fun hb H1 e1 => ?_) (fun hb H1 e1 => ?_)
    · refine q_asg (ev_mod (ev_int (ev_dget (ev_var rfl) (e1 _ _ hp) pen_left)) (ev_var rfl) hm) fun H2 e2 => ?_
      have e12 := e1.trans e2
      refine q_dput (ev_var rfl) (e12 _ _ hp) (by show 3 < 1000; decide) (ev_op (ev_dget (ev_var rfl) (e12 _ _ hp) pen_left) (ev_var rfl) (rv_I (sm.div hm))) pen_putLeft fun H3 e3 => ?_
      have e13 := e12.trans e3
      refine s_ret (ev_var rfl) fun H4 e4 => k _ H4 (Int.emod_nonneg _ (by omega)) (Int.emod_lt_of_pos _ hm) ⟨?_, at_, left / m, cells, e4 _ _ upd_same, e4 _ _ (by rw [upd_ne ncp]; exact e13 _ _ hc), a0, by omega, Int.ediv_nonneg l0 (by omega)⟩
      exact (wo_mut e13).trans (wo_mono e4)
    · refine q_asg (ev_dget (ev_var rfl) (e1 _ _ hp) pen_at) fun H2 e2 => ?_
      have e12 := e1.trans e2
      refine q_dput (ev_var rfl) (e12 _ _ hp) (by show 3 < 1000; decide) (ev_op (ev_var rfl) ev_c rv_I0) pen_putAt fun H3 e3 => ?_
      have e13 := e12.trans e3
      have w3 : Ex (wo p H) (wo p (upd H3 p (.dK (penD c (at_ + 1) left)))) := wo_mut e13
      have h3p : upd H3 p (.dK (penD c (at_ + 1) left)) p = some (.dK (penD c (at_ + 1) left)) := upd_same
      have h3c : upd H3 p (.dK (penD c (at_ + 1) left)) c = some (.lst (cells.map V.int)) := by rw [upd_ne ncp]; exact e13 _ _ hc
      generalize upd H3 p (.dK (penD c (at_ + 1) left)) = H4 at w3 h3p h3c ⊢
      refine q_asg (ev_op (ev_op ev_c (ev_var rfl) (rv_I (Sm.mul (by unfold Sm; omega) smA))) ev_c rv_I0) fun H5 e5 => ?_
      have fcells : ∀ σ H6, Ex H4 H6 → σ[0]? = some (some (V.ref p)) → Ev (tDGet (tVar 0) (tC (.str "cells"))) σ H6 (.ref c) := fun σ H6 e hs => ev_dget (ev_var hs) (e _ _ h3p) pen_cells
      refine q_cut (M := fun σ H6 => Ex H4 H6 ∧ ∃ cell v5, σ = [some (.ref p), some (.int m), none, some (.int at_), some (.int cell), v5]) ?_ ?_
      · have tt : EvT (tTest (tOp (rNeD K) (tDGet (tVar 0) (tC (.str "cells"))) (tLst tNil))) [some (.ref p), some (.int m), none, some (.int at_), some (.int (41 * at_ + 23)), none] H5 (!(cells.isEmpty)) := by
          refine et_test (ev_opL (fcells _ _ e5 rfl) (el_lst ea_nil (by show 0 ≤ 100000; decide)) fun q H6 hq e6 => ?_)
          have h3 := rv_neD (K := K) (H := H6) (.lst (sq_of ((e5.trans e6) _ _ h3c)) (dp_ints cells)) (.lst (sq_of hq) .nil) (shaped_ints _) (by rfl)
          rw [eqv_list_nil] at h3
          rw [show cells.isEmpty = (cells.map PyData.int).isEmpty by cases cells <;> rfl]
          exact h3
        refine s_when tt (fun hb H6 e6 => ?_) (fun hb H6 e6 => ⟨e5.trans e6, _, _, rfl⟩)
        have e46 := e5.trans e6
        have hne : 0 < cells.length := by
          cases cells with
          | nil => cases hb
          | cons x r => simp
        have hj0 := Int.emod_nonneg at_ (show (cells.length : Int) ≠ 0 by omega)
        have hj1 := Int.emod_lt_of_pos at_ (show (0 : Int) < cells.length by omega)
        refine s_asg (v := .int (cells.getD (at_ % (cells.length : Int)).toNat 0)) (ev_op (fcells _ _ e46 rfl) (ev_mod (ev_int (ev_var rfl)) (ev_is (ev_len (fcells _ _ e46 rfl) (sq_of (e46 _ _ h3c))) (by rw [List.length_map])) (by omega)) (rv_ixL (sq_of (e46 _ _ h3c)) (at_of (j := (at_ % (cells.length : Int)).toNat) (by omega) ?_))) fun H7 e7 => ⟨e46.trans e7, _, _, rfl⟩
        rw [List.getElem?_map, List.getD_eq_getElem?_getD, List.getElem?_eq_getElem (by omega)]
        rfl
      · rintro σ' H6 ⟨e46, cell, v5, rfl⟩
        have fin : ∀ {i : Int} {H7 : Hp}, Ex H4 H7 → Pw p c (n + 1) (wo p H) H7 := fun {i H7} e => ⟨w3.trans (wo_mono e), at_ + 1, left, cells, e _ _ h3p, e _ _ h3c, by omega, by omega, l0⟩
        have p10 : ∀ σ H6, Ev (tOp (rI CPow fun i j => .int (i ^ j.toNat)) (tC (.int 10)) (tC (.int 18))) σ H6 (.int (10 ^ (18 : Int).toNat)) := fun σ H6 => ev_op ev_c ev_c (rv_I ⟨by decide, by decide, by decide⟩)
        refine q_when (et_and (b := decide ((10 : Int) ^ (18 : Int).toNat ≤ cell)) (et_test (ev_op (ev_var rfl) (ev_is (ev_len (fcells _ _ e46 rfl) (sq_of (e46 _ _ h3c))) (by rw [List.length_map])) rv_I0)) (fun _ => et_test (ev_op (ev_var rfl) (p10 _ _) rv_I0))) (fun hb H7 e7 => ?_) (fun hb H7 e7 => ?_)
        · have hc2 : (10 : Int) ^ (18 : Int).toNat ≤ cell := of_decide_eq_true (Bool.and_eq_true_iff.mp hb).2
          have e47 := e46.trans e7
          refine q_dput (ev_var rfl) (e47 _ _ h3p) (by show 3 < 1000; decide) (ev_op (ev_op (ev_var rfl) (p10 _ _) rv_I0) (ev_var rfl) (rv_I (sm.div hm))) pen_putLeft fun H8 e8 => ?_
          have e48 := e47.trans e8
          refine s_ret (ev_mod (ev_int (ev_op (ev_var rfl) (p10 _ _) rv_I0)) (ev_var rfl) hm) fun H9 e9 => k _ H9 (Int.emod_nonneg _ (by omega)) (Int.emod_lt_of_pos _ hm) ⟨?_, at_ + 1, _, cells, e9 _ _ upd_same, e9 _ _ (by rw [upd_ne ncp]; exact e48 _ _ h3c), by omega, by omega, Int.ediv_nonneg (by omega) (by omega)⟩
          exact (w3.trans (wo_mut e48)).trans (wo_mono e9)
        · have e47 := e46.trans e7
          have m1 : Sm (cell % 2147483587) := by
            have h1 := Int.emod_nonneg cell (show (2147483587 : Int) ≠ 0 by decide)
            have h2 := Int.emod_lt_of_pos cell (show (0 : Int) < 2147483587 by decide)
            unfold Sm
            omega
          refine q_asg (ev_op (ev_op (ev_op (ev_op (ev_mod (ev_int (ev_var rfl)) ev_c (by decide)) ev_c (rv_I (m1.mul (by unfold Sm; omega)))) (ev_op (ev_op ev_c (ev_var rfl) (rv_I (Sm.mul (by unfold Sm; omega) smA))) (ev_var rfl) (rv_I (smA1.mul smA))) rv_I0) (ev_op ev_c (ev_var rfl) (rv_I (Sm.mul (by unfold Sm; omega) smA))) rv_I0) ev_c rv_I0) fun H8 e8 => ?_
          refine q_asg (ev_mod (ev_int (ev_var rfl)) ev_c (by decide)) fun H9 e9 => ?_
          generalize hM : (_ % 2147483629 : Int) = M
          have m2 : 0 ≤ M ∧ M < 2147483629 := by
            rw [← hM]
            exact ⟨Int.emod_nonneg _ (by decide), Int.emod_lt_of_pos _ (by decide)⟩
          refine q_asg (ev_mod (ev_int (ev_op (ev_var rfl) (ev_op (ev_var rfl) ev_c rv_I0) (rv_I (Sm.mul (by unfold Sm; omega) (by unfold Sm; omega))))) ev_c (by decide)) fun H10 e10 => ?_
          generalize hM2 : (_ % 2147483549 : Int) = M2
          have m3 : 0 ≤ M2 ∧ M2 < 2147483549 := by
            rw [← hM2]
            exact ⟨Int.emod_nonneg _ (by decide), Int.emod_lt_of_pos _ (by decide)⟩
          refine s_ret (ev_mod (ev_int (ev_op (ev_mod (ev_int (ev_op (ev_var rfl) (ev_var rfl) (rv_I (Sm.mul (by unfold Sm; omega) (by unfold Sm; omega))))) ev_c (by decide)) ev_c (rv_I (Sm.div (by decide) (by unfold Sm; omega))))) (ev_var rfl) hm) fun H11 e11 => k _ H11 (Int.emod_nonneg _ (by omega)) (Int.emod_lt_of_pos _ hm) (fin (i := 0) ((((e47.trans e8).trans e9).trans e10).trans e11))
end
end Age

set_option Elab.async false
set_option linter.all false
set_option maxRecDepth 100000
set_option maxHeartbeats 4000000
namespace Age
open PySem PySem.Spec PyProof.Rows L2 Evl RT
theorem q_forET {K : PySem.W.Frag} {a : Addr} {xs : List V} {g : TG} {tb tz : TS} {D : Ends} {σ : L2.St} {H : Hp} {ta : TA} (ha : EvA ta σ H [.ref a]) (hx : SqT K H a xs) (Pv : Nat → L2.St → Hp → Prop) (h0 : ∀ H1, Ex H H1 → Pv 0 σ H1)
    (hl : ∀ i σ' H', i ≤ xs.length → Pv i σ' H' → SqT K H' a xs)
    (hs : ∀ (i : Nat) x σ' H' T, xs[i]? = some x → Pv i σ' H' → H' T = none → g (.ref T) σ' (upd H' T (.tup [.int (i : Nat), x])) fun σ2 H2 => tb { D with nx := Pv (i + 1), ct := Pv (i + 1), bk := tz D } σ2 H2)
    (hd : ∀ σ' H', Pv xs.length σ' H' → tz D σ' H') : tSeq (tFor (iEnumT K ta) g tb) tz D σ H := for_enumT (D := { D with nx := tz D }) ha hx Pv h0 hl hs hd
theorem cutV_upto {xs : List V} {i : Nat} : cutV xs none (some (i : Int)) = xs.take i := by
  unfold cutV
  rw [HT.sIx_none, HT.sIx_nat, List.drop_zero, Nat.sub_zero]
  by_cases h : i ≤ xs.length
  · rw [Nat.min_eq_left h]
  · rw [Nat.min_eq_right (by omega), List.take_of_length_le (Nat.le_refl _), List.take_of_length_le (by omega)]
theorem notnon_filter {α : Type} (g : α → Option Int) : ∀ L : List α, (L.map fun e => oV (g e)).filter (fun y => !decide (y = .non)) = (L.filterMap g).map V.int
  | [] => rfl
  | e :: L => by
    have ih := notnon_filter g L
    cases h : g e with
    | none =>
      rw [List.map_cons, h, List.filter_cons_of_neg (by simp [oV]), List.filterMap_cons_none h]
      exact ih
    | some v =>
      rw [List.map_cons, h, List.filter_cons_of_pos (by simp [oV]), List.filterMap_cons_some h, List.map_cons, ih]
      rfl
theorem retFrom_step {ss : List SpanD} {i : Nat} (h : i < ss.length) : retFrom ss (ss.length - i) i = match minL (againAt ss i) with
    | some m => some m
    | none => retFrom ss (ss.length - (i + 1)) (i + 1) := by
  rw [show ss.length - i = (ss.length - (i + 1)) + 1 by omega]
  rfl
section
variable {P : Program} {w : World} {K : PySem.W.Frag} {mg : Str → Option Value} {base : Heap} {cR cS cW : Addr}
end
end Age

set_option Elab.async false
set_option linter.all false
set_option maxRecDepth 100000
set_option maxHeartbeats 4000000
namespace Age
open PySem PySem.Spec PyProof.Rows L2 Evl
/-! ### lists of things, item by item -/
inductive All2 {α : Type} (R : V → α → Prop) : List V → List α → Prop
  | nil : All2 R [] []
  | cons {y : V} {a : α} {ys : List V} {as : List α} : R y a → All2 R ys as → All2 R (y :: ys) (a :: as)
section
variable {α : Type} {R R' : V → α → Prop}
theorem All2.imp (f : ∀ y a, R y a → R' y a) : ∀ {ys : List V} {as : List α}, All2 R ys as → All2 R' ys as
  | _, _, .nil => .nil
  | _, _, .cons a b => .cons (f _ _ a) (b.imp f)
theorem All2.len : ∀ {ys : List V} {as : List α}, All2 R ys as → ys.length = as.length
  | _, _, .nil => rfl
  | _, _, .cons _ b => by rw [List.length_cons, List.length_cons, b.len]
theorem All2.get : ∀ {ys : List V} {as : List α} {i : Nat} {y : V}, All2 R ys as → ys[i]? = some y → ∃ a, as[i]? = some a ∧ R y a
  | _, _, _, _, .nil, h => by simp at h
  | _, _, 0, y, .cons (a := p) a b, h => by
    simp at h
    subst h
    exact ⟨p, rfl, a⟩
  | _, _, i + 1, y, .cons a b, h => by
    obtain ⟨p, h1, h2⟩ := b.get (i := i) (y := y) (by simpa using h)
    exact ⟨p, by simpa using h1, h2⟩
theorem All2.get' {ys : List V} {as : List α} {i : Nat} {a : α} (h : All2 R ys as) (ha : as[i]? = some a) : ∃ y, ys[i]? = some y ∧ R y a := by
  have hlt := (List.getElem?_eq_some_iff.mp ha).1
  have hlt2 : i < ys.length := by rw [h.len]; exact hlt
  have hy : ys[i]? = some ys[i] := List.getElem?_eq_getElem hlt2
  obtain ⟨a', h1, h2⟩ := h.get hy
  rw [ha] at h1
  cases h1
  exact ⟨_, hy, h2⟩
theorem All2.app : ∀ {ys zs : List V} {as bs : List α}, All2 R ys as → All2 R zs bs → All2 R (ys ++ zs) (as ++ bs)
  | _, _, _, _, .nil, b => b
  | _, _, _, _, .cons a c, b => .cons a (c.app b)
theorem All2.snoc {ys : List V} {as : List α} {y : V} {a : α} (h : All2 R ys as) (r : R y a) : All2 R (ys ++ [y]) (as ++ [a]) := h.app (.cons r .nil)
theorem all2_map {β : Type} {R : V → α → Prop} (f : β → V) (g : β → α) (h : ∀ b, R (f b) (g b)) : ∀ bs : List β, All2 R (bs.map f) (bs.map g)
  | [] => .nil
  | b :: bs => .cons (h b) (all2_map f g h bs)
end
/-- a row of the law's own: a tuple -/
def DRow (H : Hp) (x : V) (r : RowD) : Prop := ∃ t, x = .ref t ∧ H t = some (.tup [oV r.til, oV r.unit, .str r.way, .str r.word])
theorem DRow.mono {H H' : Hp} {x : V} {r : RowD} (e : Ex H H') (h : DRow H x r) : DRow H' x r := let ⟨t, a, b⟩ := h; ⟨t, a, e _ _ b⟩
abbrev DRows (H : Hp) (xs : List V) (rows : List RowD) : Prop := All2 (DRow H) xs rows
theorem DRows.mono {H H' : Hp} {xs : List V} {rows : List RowD} (e : Ex H H') (h : DRows H xs rows) : DRows H' xs rows := h.imp fun _ _ => DRow.mono e
def menuW : List Str := ["now", "s", "m", "h", "d", "w"]
/-- a drawn row: its numbers and words -/
structure RowG (ws : List Str) (r : RowD) : Prop where
  un : ∀ u, r.unit = some u → 0 < u ∧ u ≤ 30
  ti : ∀ t, r.til = some t → 0 < t ∧ t ≤ 546
  wy : Ways r.way
  wd : r.word ∈ ws ∨ r.word ∈ menuW
/-- rows drawn for [] are steady: the words of the menu in order, or a row that goes on as the one before -/
def Steps (rows : List RowD) : Prop := ∀ (i : Nat) r, rows[i]? = some r → menuW[i]? = some r.word ∨ ∃ j r', i = j + 1 ∧ rows[j]? = some r' ∧ r.unit = r'.unit ∧ r.way = r'.way ∧ r.word = r'.word
structure Drawn (ws : List Str) (most : Int) (rows : List RowD) : Prop where
  u : UOk 0 rows
  g : ∀ r ∈ rows, RowG ws r
  n : (rows.length : Int) ≤ most
  s : ws = [] → Steps rows
/-- rows as far as they are drawn: their untils rise from b0 up to b -/
inductive Rise : Int → Int → List RowD → Prop
  | nil {b : Int} : Rise b b []
  | snoc {b c t : Int} {rs : List RowD} {r : RowD} : Rise b c rs → r.til = some t → c < t → Rise b t (rs ++ [r])
theorem uok_app {b c : Int} {rs : List RowD} (h : Rise b c rs) : ∀ {ls : List RowD}, UOk c ls → UOk b (rs ++ ls) := by
  induction h with
  | nil => intro ls h; exact h
  | snoc h1 ht hc ih =>
    intro ls h
    rw [List.append_assoc]
    exact ih (.more ht hc h)
def spRows : Sp := fun vs H Q _ => ∃ (p c wl : Addr) (most n : Int) (ws : List Str), vs = [.ref p, .int most, .ref wl] ∧ PenAt H p c n ∧ n + 1000 < Big ∧ 1 ≤ most ∧ most ≤ 6 ∧ H wl = some (.lst (ws.map V.str)) ∧ ws.length ≤ 100 ∧ (∀ s ∈ ws, PyData.strOk s = true) ∧
  ∀ l xs rows H', Pw p c (n + 200) (wo p H) H' → H l = none → H' l = some (.lst xs) → DRows H' xs rows → Drawn ws most rows → Q (.ref l) H'
theorem dp_strs {K : PySem.W.Frag} {H : Hp} : ∀ ns : List Str, DpAll K H (ns.map V.str) (ns.map PyData.str)
  | [] => .nil
  | n :: ns => .cons (.str n) (dp_strs ns)
theorem shaped_strs (ns : List Str) (h : ∀ s ∈ ns, PyData.strOk s = true) : SeqAt.shaped (.list (ns.map PyData.str)) = true := by
  have h1 : PyData.canLayAll0 (ns.map PyData.str) = true := by
    induction ns with
    | nil => simp [PyData.canLayAll0]
    | cons a l ih => simp [PyData.canLayAll0, PyData.canLay0, h a List.mem_cons_self, ih fun s hs => h s (List.mem_cons_of_mem _ hs)]
  have h2 : PyData.depthAll (ns.map PyData.str) = 0 := by
    clear h h1
    induction ns with
    | nil => simp [PyData.depthAll]
    | cons a l ih => simp [PyData.depthAll, PyData.depth, ih]
  simp [SeqAt.shaped, PyData.canLay0, h1, PyData.depth, h2]
section
variable {P : Program} {w : World} {K : PySem.W.Frag} {mg : Str → Option Value} {base : Heap}
theorem sz4 {n : Nat} (h : n ≤ 100000) : n ≤ sizeLine := sz_of h
theorem ok_pick {f : Addr} {fd : FuncData} (F : Fn K "_law_pick" "_law_pick" s__law_pick f fd) (B : Bn mg) (c1 : Cal P w K mg base CX0 1 "_law_draw" ["_law_pen_here", "_law_many"] spDraw) : FnOk P w K mg base CX0 2 f fd ["_law_pen_here", "_law_items"] spPick := by
  obtain ⟨f1, fd1, G__law_draw, m__law_draw, k__law_draw, b__law_draw⟩ := c1.ex
  refine F.ok sc__law_pick (fun vs H Q E h => ?_) (fun cdv A outer s H vs Q E hr h => ?_)
  · obtain ⟨p, c, l, xs, n, rfl, _⟩ := h; rfl
  · obtain ⟨p, c, l, xs, n, rfl, hp, hl, hne, hln, hn, k⟩ := h
    refine ⟨_, PSs.nox (pss_one (ps_ret (pe_ix ix_list (pv 1) (pe_call G__law_draw (hr.mono (by decide)) rfl m__law_draw k__law_draw b__law_draw .nil pass0 (pa_cons (pv 0) (pa_cons (pe_callB call_len_seq (by rfl) B.len (by decide +kernel) (pa_cons (pv 1) pa_nil)) pa_nil))) (fun _ _ => rfl)))), ?_⟩
    have hpos : 0 < xs.length := List.length_pos_iff.mpr hne
    refine ⟨_, rfl, _, rfl, _, rfl, l, xs, rfl, Or.inl (sq_of hl), p, c, (xs.length : Int), n, rfl, hp, by omega, by unfold Sm; omega, hn, fun i H1 i0 i1 P1 => ?_⟩
    have h1 : H1 l = some (.lst xs) := P1.get hp hl (by intro z; simp)
    have hi : xs[i.toNat]? = some xs[i.toNat] := List.getElem?_eq_getElem (by omega)
    exact ⟨l, xs, i, _, rfl, rfl, sq_of h1, at_of (j := i.toNat) (by omega) hi, k i.toNat _ H1 hi P1⟩
theorem ok_way {f : Addr} {fd : FuncData} (F : Fn K "_law_way" "_law_way" s__law_way f fd) (c1 : Cal P w K mg base CX0 2 "_law_pick" ["_law_pen_here", "_law_items"] spPick) : FnOk P w K mg base CX0 3 f fd ["_law_pen_here"] spWay := by
  obtain ⟨f1, fd1, G__law_pick, m__law_pick, k__law_pick, b__law_pick⟩ := c1.ex
  refine F.ok sc__law_way (fun vs H Q E h => ?_) (fun cdv A outer s H vs Q E hr h => ?_)
  · obtain ⟨p, c, n, rfl, _⟩ := h; rfl
  · obtain ⟨p, c, n, rfl, hp, hn, k⟩ := h
    refine ⟨_, PSs.nox (pss_one (ps_ret (pe_call G__law_pick (hr.mono (by decide)) rfl m__law_pick k__law_pick b__law_pick .nil pass0 (pa_cons (pv 0) (pa_cons (pe_lst (pa_cons pe_str (pa_cons pe_str (pa_cons pe_str pa_nil)))) pa_nil))))), ?_⟩
    refine ⟨_, rfl, by show 3 ≤ sizeLine; decide, fun l hl => ?_⟩
    have e1 : Ex H (upd H l (.lst [.str "down", .str "up", .str "near"])) := Ex.new hl
    refine ⟨p, c, l, _, n, rfl, hp.mono e1, upd_same, by simp, by show 3 ≤ 1000; decide, hn, fun i v H1 hv P1 => ?_⟩
    have P2 : Pw p c (n + 1) (wo p H) H1 := P1.back (wo_mono e1)
    match i, hv with
    | 0, hv => cases hv; exact k _ H1 (Or.inl rfl) P2
    | 1, hv => cases hv; exact k _ H1 (Or.inr (Or.inl rfl)) P2
    | 2, hv => cases hv; exact k _ H1 (Or.inr (Or.inr rfl)) P2
    | i + 3, hv => cases hv
theorem ok_number {f : Addr} {fd : FuncData} (F : Fn K "_law_number" "_law_number" s__law_number f fd) (c1 : Cal P w K mg base CX0 1 "_law_draw" ["_law_pen_here", "_law_many"] spDraw) (c2 : Cal P w K mg base CX0 2 "_law_pick" ["_law_pen_here", "_law_items"] spPick) : FnOk P w K mg base CX0 3 f fd ["_law_pen_here"] spNumber := by
  obtain ⟨f1, fd1, G__law_draw, m__law_draw, k__law_draw, b__law_draw⟩ := c1.ex
  obtain ⟨f2, fd2, G__law_pick, m__law_pick, k__law_pick, b__law_pick⟩ := c2.ex
  refine F.ok sc__law_number (fun vs H Q E h => ?_) (fun cdv A outer s H vs Q E hr h => ?_)
  · obtain ⟨p, c, n, rfl, _⟩ := h; rfl
  · obtain ⟨p, c, n, rfl, hp, hn, k⟩ := h
    refine ⟨_, PSs.nox (pss_one (ps_ret (pe_call G__law_pick (hr.mono (by decide)) rfl m__law_pick k__law_pick b__law_pick .nil pass0 (pa_cons (pv 0) (pa_cons (pe_lst (pa_cons (pe_call G__law_draw (hr.mono (by decide)) rfl m__law_draw k__law_draw b__law_draw .nil pass0 (pa_cons (pv 0) (pa_cons pe_int pa_nil))) (pa_cons (pe_call G__law_draw (hr.mono (by decide)) rfl m__law_draw k__law_draw b__law_draw .nil pass0 (pa_cons (pv 0) (pa_cons pe_int pa_nil))) (pa_cons (pe_call G__law_draw (hr.mono (by decide)) rfl m__law_draw k__law_draw b__law_draw .nil pass0 (pa_cons (pv 0) (pa_cons pe_int pa_nil))) (pa_cons (pe_call G__law_draw (hr.mono (by decide)) rfl m__law_draw k__law_draw b__law_draw .nil pass0 (pa_cons (pv 0) (pa_cons pe_int pa_nil))) pa_nil))))) pa_nil))))), ?_⟩
    refine ⟨_, rfl, _, rfl, p, c, 4, n, rfl, hp, by decide, by unfold Sm; omega, by omega, fun a H1 a0 a1 P1 => ?_⟩
    refine ⟨_, rfl, p, c, 20, n + 1, rfl, P1.2, by decide, by unfold Sm; omega, by omega, fun b H2 b0 b1 P2 => ?_⟩
    refine ⟨_, rfl, p, c, 20, n + 1 + 1, rfl, P2.2, by decide, by unfold Sm; omega, by omega, fun d H3 d0 d1 P3 => ?_⟩
    refine ⟨_, rfl, p, c, 90, n + 1 + 1 + 1, rfl, P3.2, by decide, by unfold Sm; omega, by omega, fun g H4 g0 g1 P4 => ?_⟩
    have P5 := ((P1.then P2).then P3).then P4
    refine ⟨by show 4 ≤ sizeLine; decide, fun l hl => ?_⟩
    have e1 : Ex H4 (upd H4 l (.lst [.int a, .int b, .int d, .int g])) := Ex.new hl
    refine ⟨p, c, l, _, n + 1 + 1 + 1 + 1, rfl, P4.2.mono e1, upd_same, by simp, by show 4 ≤ 1000; decide, by omega, fun i v H5 hv P6 => ?_⟩
    have P7 : Pw p c (n + 5) (wo p H) H5 := ((P5.ext e1).then P6).le (by omega)
    match i, hv with
    | 0, hv => cases hv; exact k _ H5 a0 (by omega) P7
    | 1, hv => cases hv; exact k _ H5 b0 (by omega) P7
    | 2, hv => cases hv; exact k _ H5 d0 (by omega) P7
    | 3, hv => cases hv; exact k _ H5 g0 (by omega) P7
    | i + 4, hv => cases hv
theorem strOk_menu : ∀ s ∈ menuW, PyData.strOk s = true := by decide +kernel
end
end Age

set_option Elab.async false
set_option linter.all false
set_option maxRecDepth 100000
set_option maxHeartbeats 4000000
/-! L2f: drawn rows whose words are drawn or all unlike -/
namespace Age
open PySem PySem.Spec PyProof.Rows L2 Evl
section
variable {P : Program} {w : World} {K : PySem.W.Frag} {mg : Str → Option Value} {base : Heap}
theorem ok_rowsF {f : Addr} {fd : FuncData} (F : Fn K "_law_rows" "_law_rows" s__law_rows f fd) (B : Bn mg) (c1 : Cal P w K mg base CX0 1 "_law_draw" ["_law_pen_here", "_law_many"] spDraw) (c2 : Cal P w K mg base CX0 2 "_law_pick" ["_law_pen_here", "_law_items"] spPick)
    (c3 : Cal P w K mg base CX0 3 "_law_number" ["_law_pen_here"] spNumber) (c4 : Cal P w K mg base CX0 3 "_law_way" ["_law_pen_here"] spWay) : FnOk P w K mg base CX0 4 f fd ["_law_pen_here", "_law_most", "_law_words"] spRows := by
  obtain ⟨f1, fd1, G__law_draw, m__law_draw, k__law_draw, b__law_draw⟩ := c1.ex
  obtain ⟨f2, fd2, G__law_pick, m__law_pick, k__law_pick, b__law_pick⟩ := c2.ex
  obtain ⟨f3, fd3, G__law_number, m__law_number, k__law_number, b__law_number⟩ := c3.ex
  obtain ⟨f4, fd4, G__law_way, m__law_way, k__law_way, b__law_way⟩ := c4.ex
  refine F.ok sc__law_rows (fun vs H Q E h => ?_) (fun cdv A outer s H vs Q E hr h => ?_)
  · obtain ⟨p, c, wl, most, n, ws, rfl, _⟩ := h; rfl
  · obtain ⟨p, c, wl, most, n, ws, rfl, hp, hn, m1, m6, hwl, hwn, hwo, k⟩ := h
    refine ⟨_, PSs.nox (pss_cons (ps_par3 (i := 3) (j := 4) (l := 5) (by rfl) sc__law_rows.nd rfl rfl rfl (by decide) (by decide) (by decide) rfl rfl rfl (pa_cons (pe_lst pa_nil) (pa_cons pe_int (pa_cons (pe_op op_add pe_int (pe_call G__law_draw (hr.mono (by decide)) rfl m__law_draw k__law_draw b__law_draw .nil pass0 (pa_cons (pv 0) (pa_cons (pv 1) pa_nil)))) pa_nil))) (by rfl)) (pss_cons (ps_for PassesOwn.never rfl (pi_range1 rfl B.range (pa_cons (pv 5) pa_nil)) (pg_name (i := 6) sc__law_rows.nd rfl (Or.inl rfl)) (pss_cons (ps_set (i := 4) sc__law_rows.nd rfl (Or.inl rfl) (pe_op op_add (pe_op op_add (pv 4) pe_int) (pe_call G__law_number (hr.mono (by decide)) rfl m__law_number k__law_number b__law_number .nil pass0 (pa_cons (pv 0) pa_nil)))) (pss_cons (ps_set (i := 7) sc__law_rows.nd rfl (Or.inl rfl) (pe_call G__law_pick (hr.mono (by decide)) rfl m__law_pick k__law_pick b__law_pick .nil pass0 (pa_cons (pv 0) (pa_cons (pe_lst (pa_cons pe_non (pa_cons pe_int (pa_cons pe_int (pa_cons pe_int (pa_cons (pe_op op_add pe_int (pe_call G__law_draw (hr.mono (by decide)) rfl m__law_draw k__law_draw b__law_draw .nil pass0 (pa_cons (pv 0) (pa_cons pe_int pa_nil)))) (pa_cons (pe_op op_add pe_int (pe_call G__law_draw (hr.mono (by decide)) rfl m__law_draw k__law_draw b__law_draw .nil pass0 (pa_cons (pv 0) (pa_cons pe_int pa_nil)))) pa_nil))))))) pa_nil)))) (pss_cons (ps_set (i := 8) sc__law_rows.nd rfl (Or.inl rfl) (pe_ifExp (pt_cmpR (op_eqD hr.units) (pv 2) (pe_lst pa_nil) (nomark _)) (pe_ix ix_list (pe_lst (pa_cons pe_str (pa_cons pe_str (pa_cons pe_str (pa_cons pe_str (pa_cons pe_str (pa_cons pe_str pa_nil))))))) (pv 6) (fun _ _ => rfl)) (pe_call G__law_pick (hr.mono (by decide)) rfl m__law_pick k__law_pick b__law_pick .nil pass0 (pa_cons (pv 0) (pa_cons (pv 2) pa_nil))))) (pss_one (ps_expr (pe_bm PySem.F.plainAttrs_list PySem.F.slot_list_append PySem.F.type_list_append mt_append (pv 3) (pa_cons (pe_tup (pa_cons (pe_ifExp (pt_cmpR op_eq (pv 6) (pe_op op_sub (pv 5) pe_int) (nomark _)) pe_non (pv 4)) (pa_cons (pv 7) (pa_cons (pe_call G__law_way (hr.mono (by decide)) rfl m__law_way k__law_way b__law_way .nil pass0 (pa_cons (pv 0) pa_nil)) (pa_cons (pv 8) pa_nil))))) pa_nil)))))))) (pss_one (ps_ret (pv 3))))), ?_⟩
    -- rows, before, many = [], 0, 1 + draw(most)
    refine ⟨by show 0 ≤ sizeLine; decide, fun l hl => ?_⟩
    have e0 : Ex H (upd H l (.lst [])) := Ex.new hl
    refine ⟨_, rfl, _, rfl, p, c, most, n, rfl, hp.mono e0, by omega, by unfold Sm; omega, by omega, fun d H1 d0 d1 P1 => ?_⟩
    refine ⟨_, _, rfl, rfl, _, _, _, rfl, ?_⟩
    obtain ⟨oc, hoc⟩ := hp.cell
    obtain ⟨at0, lf0, cs0, hpd, _⟩ := id hp
    have hlp : l ≠ p := (ne_of_none hpd hl).symm
    have hMl : wo p H l = none := by rw [wo_ne hlp]; exact hl
    have hMc : wo p H c ≠ none := by rw [hoc]; exact Option.some_ne_none _
    have P1' : Pw p c (n + 1) (wo p H) H1 := P1.back (wo_mono e0)
    have hl1 : H1 l = some (.lst []) := P1.sub _ _ (by rw [wo_ne hlp]; exact upd_same)
    show tSeq _ _ _ [some (.ref p), some (.int most), some (.ref wl), some (.ref l), some (.int 0), some (.int (1 + d)), none, none, none] H1
    refine q_forR1 (n := 1 + d) (ea_cons (ev_var rfl) ea_nil) (by omega) (fun i σ H' => ∃ bf xs rows v6 v7 v8, σ = [some (.ref p), some (.int most), some (.ref wl), some (.ref l), some (.int bf), some (.int (1 + d)), v6, v7, v8] ∧ Pw p c (n + 1 + 20 * i) (wo p H) H' ∧ H' l = some (.lst xs) ∧ DRows (wo p H') xs rows ∧ rows.length = i ∧
        0 ≤ bf ∧ bf ≤ 91 * i ∧ (∀ r ∈ rows, RowG ws r) ∧ (ws = [] → Steps rows) ∧ ((i : Int) < 1 + d → Rise 0 bf rows) ∧ ((i : Int) = 1 + d → UOk 0 rows))
      (fun H2 e2 => ⟨0, [], [], none, none, none, rfl, by simpa using P1'.ext e2, e2 _ _ hl1, .nil, rfl, Int.le_refl _, by simp, (fun r z => nomatch z), (fun _ i r z => nomatch z), (fun _ => .nil), (fun z => by omega)⟩) ?_ ?_
    · rintro i σ' H' hi ⟨bf, xs, rows, v6, v7, v8, rfl, Pi, hli, hR, hrl, b0, b1, hG, hSt, hRise, hU⟩
      have hi6 : (i : Int) ≤ 5 := by omega
      have hxl := hR.len
      -- before = before + 1 + number()
      refine ⟨_, rfl, _, _, rfl, rfl, _, rfl, p, c, _, rfl, Pi.2, by omega, fun a H2 a0 a1 P2 => ⟨_, _, rfl, rfl, ?_⟩⟩
      have hP2 := Pi.then P2
      -- unit = pick([None, 1, 2, 3, 1 + draw(8), 1 + draw(30)])
      refine ⟨_, rfl, _, rfl, p, c, 8, _, rfl, hP2.2, by decide, by unfold Sm; omega, by omega, fun u1 H3 u10 u11 P3 => ⟨_, _, rfl, rfl, ?_⟩⟩
      have hP3 := hP2.then P3
      refine ⟨_, rfl, p, c, 30, _, rfl, hP3.2, by decide, by unfold Sm; omega, by omega, fun u2 H4 u20 u21 P4 => ⟨_, _, rfl, rfl, ?_⟩⟩
      have hP4 := hP3.then P4
      refine ⟨by show 6 ≤ sizeLine; decide, fun l2 hl2 => ?_⟩
      have e5 : Ex H4 (upd H4 l2 (.lst [.non, .int 1, .int 2, .int 3, .int (1 + u1), .int (1 + u2)])) := Ex.new hl2
      refine ⟨p, c, l2, _, _, rfl, hP4.2.mono e5, upd_same, by simp, by show 6 ≤ 1000; decide, by omega, fun ju vu H5 hvu P5 => ?_⟩
      have hP5 := (hP4.ext e5).then P5
      obtain ⟨unit, rfl, hunit⟩ : ∃ unit : Option Int, vu = oV unit ∧ ∀ u, unit = some u → 0 < u ∧ u ≤ 30 := by
        match ju, hvu with
        | 0, hv => cases hv; exact ⟨none, rfl, fun u z => nomatch z⟩
        | 1, hv => cases hv; exact ⟨some 1, rfl, fun u z => by cases z; omega⟩
        | 2, hv => cases hv; exact ⟨some 2, rfl, fun u z => by cases z; omega⟩
        | 3, hv => cases hv; exact ⟨some 3, rfl, fun u z => by cases z; omega⟩
        | 4, hv => cases hv; exact ⟨some (1 + u1), rfl, fun u z => by cases z; omega⟩
        | 5, hv => cases hv; exact ⟨some (1 + u2), rfl, fun u z => by cases z; omega⟩
        | j + 6, hv => cases hv
      have hw5 : H5 wl = some (.lst (ws.map V.str)) := hP5.get hp hwl (by intro z; simp)
      have hl5 : H5 l = some (.lst xs) := ((((((Pw.of Pi.2).then P2).then P3).then P4).ext e5).then P5).sub _ _ (by rw [wo_ne hlp]; exact hli)
      have hR5 : DRows (wo p H5) xs rows := hR.mono ((((((Pw.of Pi.2).then P2).then P3).then P4).ext e5).then P5).1
      clear hR hli
      show tSeq _ _ _ [some (.ref p), some (.int most), some (.ref wl), some (.ref l), some (.int (bf + 1 + a)), some (.int (1 + d)), some (.int (i : Int)), some (oV unit), v8] H5
      have tw : ∀ σ H6, Ex H5 H6 → σ[2]? = some (some (V.ref wl)) → EvT (tTest (tOp (rEqD K) (tVar 2) (tLst tNil))) σ H6 ws.isEmpty := by
        intro σ H6 e6 hs
        refine et_test (ev_opL (ev_var hs) (el_lst ea_nil (by show 0 ≤ 100000; decide)) fun q H7 hq e7 => ?_)
        have h3 := rv_eqD (K := K) (H := H7) (.lst (sq_of ((e6.trans e7) _ _ hw5)) (dp_strs ws)) (.lst (sq_of hq) .nil) (shaped_strs _ hwo) (by rfl)
        rw [eqv_list_nil] at h3
        rw [show ws.isEmpty = (ws.map PyData.str).isEmpty by cases ws <;> rfl]
        exact h3
      -- the word
      have key : ∀ Q' : VK, (∀ s H6, Pw p c (n + 1 + 20 * (i : Int) + 10) (wo p H5) H6 → ((ws = [] ∧ menuW[i]? = some s) ∨ (ws ≠ [] ∧ s ∈ ws)) → Q' (.str s) H6) →
          tIf (tTest (tOp (rEqD K) (tVar 2) (tLst tNil))) (tOp (rIxL K) (tLst (tCons (tC (.str "now")) (tCons (tC (.str "s")) (tCons (tC (.str "m")) (tCons (tC (.str "h")) (tCons (tC (.str "d")) (tCons (tC (.str "w")) tNil))))))) (tVar 6)) (tCall spPick [] E0 (tCons (tVar 0) (tCons (tVar 2) tNil)))
            [some (.ref p), some (.int most), some (.ref wl), some (.ref l), some (.int (bf + 1 + a)), some (.int (1 + d)), some (.int (i : Int)), some (oV unit), v8] H5 Q' := by
        intro Q' q'
        refine tw _ H5 (Ex.refl _) rfl H5 (Ex.refl _) _ fun H6 e6 => ?_
        by_cases hws : ws = []
        · subst hws
          rw [show ([] : List Str).isEmpty = true from rfl]
          refine iteT ?_
          refine ⟨by show 6 ≤ sizeLine; decide, fun l3 hl3 => ?_⟩
          have hmi : menuW[i]? = some (menuW.getD i "") := by
            have : i < menuW.length := by show i < 6; omega
            rw [List.getD_eq_getElem?_getD, List.getElem?_eq_getElem this]
            rfl
          refine ⟨_, rfl, l3, menuW.map V.str, (i : Int), .str (menuW.getD i ""), rfl, rfl, sq_of upd_same, atI_nat (by rw [List.getElem?_map, hmi]; rfl), ?_⟩
          exact q' _ _ (((Pw.of hP5.2).ext (e6.trans (Ex.new hl3))).le (by omega)) (Or.inl ⟨rfl, hmi⟩)
        · have hwe : ws.isEmpty = false := by cases ws with | nil => exact absurd rfl hws | cons a b => rfl
          rw [hwe]
          refine iteF ?_
          refine ⟨_, rfl, _, rfl, p, c, wl, ws.map V.str, _, rfl, hP5.2.mono e6, e6 _ _ hw5, by simpa using hws, by rw [List.length_map]; omega, by omega, fun j v H7 hv P7 => ?_⟩
          rw [List.getElem?_map] at hv
          cases hj : ws[j]? with
          | none => rw [hj] at hv; cases hv
          | some s =>
            rw [hj] at hv
            cases hv
            exact q' s H7 ((P7.back (wo_mono e6)).le (by omega)) (Or.inr ⟨hws, List.mem_of_getElem? hj⟩)
      refine key _ fun s H6 P6 hs => ?_
      have hP6 := hP5.then P6
      -- the row
      have til : ∃ til : Option Int, (∀ H7, Ev (tIf (tTest (tOp rEq (tVar 6) (tOp (rI0 fun i j => .int (i - j)) (tVar 5) (tC (.int 1))))) (tC .non) (tVar 4)) [some (.ref p), some (.int most), some (.ref wl), some (.ref l), some (.int (bf + 1 + a)), some (.int (1 + d)), some (.int (i : Int)), some (oV unit), some (.str s)] H7 (oV til)) ∧
          (((i : Int) = d ∧ til = none) ∨ ((i : Int) ≠ d ∧ til = some (bf + 1 + a))) := by
        by_cases hk : (i : Int) = d
        · refine ⟨none, fun H7 => ev_if (et_test (ev_op (ev_var rfl) (ev_op (ev_var rfl) ev_c rv_I0) (rv_eq rfl))) (fun _ => ev_c) (fun hb => ?_), Or.inl ⟨hk, rfl⟩⟩
          exact absurd (show V.int (i : Int) = V.int (1 + d - 1) by rw [hk]; congr 1; omega) (of_decide_eq_false hb)
        · refine ⟨some (bf + 1 + a), fun H7 => ev_if (et_test (ev_op (ev_var rfl) (ev_op (ev_var rfl) ev_c rv_I0) (rv_eq rfl))) (fun hb => ?_) (fun _ => ev_var rfl), Or.inr ⟨hk, rfl⟩⟩
          have z := V.int.inj (of_decide_eq_true hb)
          exact absurd z (by omega)
      obtain ⟨til, hev, htil⟩ := til
      have hl6 : H6 l = some (.lst xs) := P6.sub _ _ (by rw [wo_ne hlp]; exact hl5)
      refine ⟨.ref l, rfl, Or.inl ⟨rfl, xs, sq_of hl6⟩, ?_⟩
      refine hev H6 H6 (Ex.refl _) _ fun H7 e7 => ⟨_, rfl, _, rfl, p, c, _, rfl, hP6.2.mono e7, by omega, fun wy H8 hwy P8 => ⟨_, rfl, by show 4 ≤ sizeLine; decide, fun t ht => ?_⟩⟩
      have hP8 := (hP6.ext e7).then P8
      have P58 := (P6.ext e7).then P8
      have et : Ex H8 (upd H8 t (.tup [oV til, oV unit, .str wy, .str s])) := Ex.new ht
      have hP9 := hP8.ext et
      have P59 := P58.ext et
      have h9t : upd H8 t (.tup [oV til, oV unit, .str wy, .str s]) t = some (.tup [oV til, oV unit, .str wy, .str s]) := upd_same
      generalize upd H8 t (.tup [oV til, oV unit, .str wy, .str s]) = H9 at et hP9 P59 h9t ⊢
      have hl9 : H9 l = some (.lst xs) := P59.sub _ _ (by rw [wo_ne hlp]; exact hl5)
      have hR9 : DRows (wo p H9) xs rows := hR5.mono P59.1
      have hG0 : RowG ws ⟨til, unit, wy, s⟩ := by
        refine ⟨hunit, fun t2 h2 => ?_, hwy, ?_⟩
        · rcases htil with ⟨_, z⟩ | ⟨_, z⟩
          · rw [z] at h2; cases h2
          · rw [z] at h2; cases h2; omega
        · rcases hs with ⟨_, z⟩ | ⟨_, z⟩
          · exact Or.inr (List.mem_of_getElem? z)
          · exact Or.inl z
      -- what stands behind the turn
      have finP : ∀ (H10 : Hp) (t10 : Addr) (r : RowD), Pw p c (n + 1 + 20 * (i : Int) + 19) (wo p H) H10 → H10 l = some (.lst xs) → DRows (wo p H10) xs rows → H10 t10 = some (.tup [oV r.til, oV r.unit, .str r.way, .str r.word]) → r.til = til → RowG ws r →
          (ws = [] → menuW[i]? = some r.word ∨ ∃ j r', i = j + 1 ∧ rows[j]? = some r' ∧ r.unit = r'.unit ∧ r.way = r'.way ∧ r.word = r'.word) →
          ∃ bf' xs' rows' v6 v7 v8, [some (V.ref p), some (.int most), some (.ref wl), some (.ref l), some (.int (bf + 1 + a)), some (.int (1 + d)), some (.int (i : Int)), some (oV unit), some (.str s)] = [some (.ref p), some (.int most), some (.ref wl), some (.ref l), some (.int bf'), some (.int (1 + d)), v6, v7, v8] ∧
            Pw p c (n + 1 + 20 * ((i + 1 : Nat) : Int)) (wo p H) (upd H10 l (.lst (xs ++ [.ref t10]))) ∧ (upd H10 l (.lst (xs ++ [.ref t10]))) l = some (.lst xs') ∧ DRows (wo p (upd H10 l (.lst (xs ++ [.ref t10])))) xs' rows' ∧ rows'.length = i + 1 ∧
            0 ≤ bf' ∧ bf' ≤ 91 * ((i + 1 : Nat) : Int) ∧ (∀ r ∈ rows', RowG ws r) ∧ (ws = [] → Steps rows') ∧ (((i + 1 : Nat) : Int) < 1 + d → Rise 0 bf' rows') ∧ (((i + 1 : Nat) : Int) = 1 + d → UOk 0 rows') := by
        intro H10 t10 r hP10 h10 hR10 ht10 hrt hrG hrS
        refine ⟨bf + 1 + a, xs ++ [.ref t10], rows ++ [r], _, _, _, rfl, (hP10.mut hMl hMc hlp).le (by omega), upd_same, ?_, by simp [hrl], by omega, by omega, ?_, ?_, ?_, ?_⟩
        · have hmono : ∀ y r0, DRow (wo p H10) y r0 → DRow (wo p (upd H10 l (.lst (xs ++ [.ref t10])))) y r0 := by
            rintro y r0 ⟨t0, rfl, h0⟩
            have np : t0 ≠ p := fun z => by rw [z, wo_l] at h0; cases h0
            rw [wo_ne np] at h0
            exact ⟨t0, rfl, by rw [wo_ne np, upd_ne (ne_of h0 h10 (by intro z; cases z))]; exact h0⟩
          refine (hR10.imp hmono).snoc (hmono _ _ ⟨t10, rfl, ?_⟩)
          rw [wo_ne (hP10.2.not ht10 (by intro z; simp))]
          exact ht10
        · intro r0 hr0
          rcases List.mem_append.mp hr0 with z | z
          · exact hG r0 z
          · rw [List.mem_singleton.mp z]; exact hrG
        · intro hws j r0 hj
          by_cases hlt : j < rows.length
          · rw [List.getElem?_append_left hlt] at hj
            rcases hSt hws j r0 hj with z | ⟨j2, r', z1, z2, z3⟩
            · exact Or.inl z
            · exact Or.inr ⟨j2, r', z1, by rw [List.getElem?_append_left (by omega)]; exact z2, z3⟩
          · have hj2 := (List.getElem?_eq_some_iff.mp hj).1
            simp at hj2
            have ej : j = i := by omega
            rw [List.getElem?_append_right (by omega), show j - rows.length = 0 by omega] at hj
            have er : r = r0 := Option.some.inj hj
            subst er ej
            rcases hrS hws with z | ⟨j2, r', z1, z2, z3⟩
            · exact Or.inl z
            · exact Or.inr ⟨j2, r', z1, by rw [List.getElem?_append_left (by omega)]; exact z2, z3⟩
        · intro hlt
          rcases htil with ⟨z, _⟩ | ⟨_, z⟩
          · omega
          · exact .snoc (hRise hi) (hrt.trans z) (by omega)
        · intro heq
          rcases htil with ⟨_, z⟩ | ⟨z, _⟩
          · exact uok_app (hRise hi) (.last (hrt.trans z))
          · omega
      have hs0 : ws = [] → menuW[i]? = some s := fun z => by
        rcases hs with ⟨_, q⟩ | ⟨q, _⟩
        · exact q
        · exact absurd z q
      have hxs : xs.length < 100000 := by omega
      refine ⟨l, xs, .ref t, rfl, rfl, hl9, sz_lt hxs, ?_⟩
      exact finP H9 t ⟨til, unit, wy, s⟩ (hP9.le (by omega)) hl9 hR9 h9t rfl hG0 (fun z => Or.inl (hs0 z))
    · rintro σ' H' ⟨bf, xs, rows, v6, v7, v8, rfl, Pi, hli, hR, hrl, b0, b1, hG, hSt, hRise, hU⟩
      have ed : ((1 + d).toNat : Int) = 1 + d := by omega
      refine ⟨_, rfl, ?_⟩
      exact k l xs rows H' (Pi.le (by omega)) hl hli (hR.mono wo_sub) ⟨hU ed, hG, by rw [hrl, ed]; omega, hSt⟩
end
end Age

set_option Elab.async false
set_option linter.all false
set_option maxRecDepth 100000
set_option maxHeartbeats 4000000
namespace Age
open PySem PySem.Spec PyProof.Rows L2 Evl
def timesR (f : Int) (r : RowD) : RowD := ⟨r.til.map (· * f), r.unit.map (· * f), r.way, r.word⟩
/-- numbers whose products are not too great -/
structure RowB (r : RowD) : Prop where
  un : ∀ u, r.unit = some u → Sm u
  ti : ∀ t, r.til = some t → Sm t
def spTimes : Sp := fun vs H Q _ => ∃ (l : Addr) (xs : List V) (rows : List RowD) (f : Int), vs = [.ref l, .int f] ∧ H l = some (.lst xs) ∧ DRows H xs rows ∧ (∀ r ∈ rows, RowB r) ∧ Sm f ∧ rows.length ≤ 1000 ∧
  ∀ l2 xs2 H', H l2 = none → Ex H H' → H' l2 = some (.lst xs2) → DRows H' xs2 (rows.map (timesR f)) → Q (.ref l2) H'
def spMade (cR cS cW : Addr) : Sp := fun vs H Q _ => ∃ (l : Addr) (xs : List V) (rows : List RowD), vs = [.ref l] ∧ H l = some (.lst xs) ∧ DRows H xs rows ∧ RowsOk rows ∧ ∀ p H', H p = none → Ex H H' → WordAt cR cS cW H' p rows → Q (.ref p) H'
theorem EvE.of_new {te : TE} {σ : L2.St} {M : Hp} {C : Addr} {fs : List (Str × V)} {R : V → Hp → Prop} (h : EvN te σ M (fun p H2 => ∃ dx, H2 p = some (.ins C dx fs))) (r : ∀ p H2, (∃ dx, H2 p = some (.ins C dx fs)) → R (.ref p) H2) : EvE te σ M R :=
  fun H1 Dl acc e hM hD Q q => h H1 e Q fun p H2 hp e2 ⟨dx, h2⟩ => q (.ref p) H2 e2 (r p _ ⟨dx, by rw [wo_ne (ne_of_none hD hp).symm]; exact h2⟩)
theorem s_retMk {σ : L2.St} {H : Hp} {te : TE} {D : Ends} {sp : Sp} {E : XK} {C : Addr} {Pa : V → Hp → Prop} (h : ∀ Q' : VK, (∀ y H1, Pa y H1 → Q' y H1) → te σ H Q')
    (k : ∀ y H1, Pa y H1 → ∀ x dx, H1 x = none → H1 dx = none → dx ≠ x → sp [.ref x, y] (upd (upd H1 dx (.own x)) x (.ins C dx [])) (fun v H2 => v = .non ∧ D.rt (.ref x) H2) E) : tRet (tMake C sp [] E (tCons te tNil)) D σ H := h _ fun y H1 p => k y H1 p
section
variable {P : Program} {w : World} {K : PySem.W.Frag} {mg : Str → Option Value} {base : Heap} {cR cS cW : Addr}
theorem ok_times {f : Addr} {fd : FuncData} (F : Fn K "_law_times" "_law_times" s__law_times f fd) : FnOk P w K mg base CX0 1 f fd ["_law_rows_here", "_law_factor"] spTimes := by
  refine F.ok sc__law_times (fun vs H Q E h => ?_) (fun cdv A outer s H vs Q E hr h => ?_)
  · obtain ⟨l, xs, rows, g, rfl, _⟩ := h; rfl
  · obtain ⟨a, xs, rows, g, rfl, ha, hR, hB, hg, hn, k⟩ := h
    refine ⟨_, PSs.nox (pss_cons (ps_set (i := 2) sc__law_times.nd rfl (Or.inl rfl) (pe_lst pa_nil)) (pss_cons (ps_for PassesOwn.never rfl (pi_list (pv 0)) (pg_tup rfl (pgs_cons (pg_name (i := 3) sc__law_times.nd rfl (Or.inl rfl)) (pgs_cons (pg_name (i := 4) sc__law_times.nd rfl (Or.inl rfl)) (pgs_cons (pg_name (i := 5) sc__law_times.nd rfl (Or.inl rfl)) (pgs_cons (pg_name (i := 6) sc__law_times.nd rfl (Or.inl rfl)) pgs_nil))))) (pss_one (ps_expr (pe_bm PySem.F.plainAttrs_list PySem.F.slot_list_append PySem.F.type_list_append mt_append (pv 2) (pa_cons (pe_tup (pa_cons (pe_ifExp (pt_cmp (pc_isN (pv 3))) pe_non (pe_op op_mulW (pv 3) (pv 1))) (pa_cons (pe_ifExp (pt_cmp (pc_isN (pv 4))) pe_non (pe_op op_mulW (pv 4) (pv 1))) (pa_cons (pv 5) (pa_cons (pv 6) pa_nil))))) pa_nil))))) (pss_one (ps_ret (pv 2))))), ?_⟩
    have hxl := hR.len
    refine q_asgL (el_lst ea_nil (by show 0 ≤ 100000; decide)) fun l H1 hl0 e1 hl => ?_
    refine q_forL (K := K) (xs := xs) (a := a) (ev_var rfl) (sq_of (e1 _ _ ha)) (fun i σ H' => ∃ zs v3 v4 v5 v6, σ = [some (.ref a), some (.int g), some (.ref l), v3, v4, v5, v6] ∧ Ex H H' ∧ H' l = some (.lst zs) ∧ DRows (wo l H') zs ((rows.take i).map (timesR g)) ∧ zs.length = i)
      (fun H2 e2 => ⟨[], none, none, none, none, rfl, e1.trans e2, e2 _ _ hl, .nil, rfl⟩) (fun i σ' H' _ p => by obtain ⟨_, _, _, _, _, _, e, _⟩ := p; exact sq_of (e _ _ ha)) ?_ ?_
    · rintro i x σ' H' hx ⟨zs, v3, v4, v5, v6, rfl, eH, hl', hZ, hzl⟩
      obtain ⟨r, hri, t, rfl, ht⟩ := (hR.mono eH).get hx
      have hlt := (List.getElem?_eq_some_iff.mp hri).1
      have hb := hB r (List.mem_of_getElem? hri)
      refine ⟨t, _, rfl, st_of ht, rfl, _, _, rfl, _, _, rfl, _, _, rfl, _, _, rfl, rfl, ?_⟩
      show tDrop _ _ [some (.ref a), some (.int g), some (.ref l), some (oV r.til), some (oV r.unit), some (.str r.way), some (.str r.word)] H'
      have mulO : ∀ (o : Option Int) (j : Nat), (∀ u, o = some u → Sm u) → ([some (V.ref a), some (.int g), some (.ref l), some (oV r.til), some (oV r.unit), some (.str r.way), some (.str r.word)] : L2.St)[j]? = some (some (oV o)) →
          Ev (tIf (tB (tIsN (tVar j))) (tC .non) (tOp (rI CMulW fun i j => .int (i * j)) (tVar j) (tVar 1))) [some (.ref a), some (.int g), some (.ref l), some (oV r.til), some (oV r.unit), some (.str r.way), some (.str r.word)] H' (oV (o.map (· * g))) := by
        intro o j ho hj
        cases o with
        | none => exact ev_if (et_B (ev_isN (ev_var hj))) (fun _ => ev_c) (fun z => Bool.noConfusion z)
        | some u => exact ev_if (et_B (ev_isN (ev_var hj))) (fun z => Bool.noConfusion z) (fun _ => ev_op (ev_var hj) (ev_var rfl) (rv_I ((ho u rfl).mul hg)))
      refine s_appU hl' (ev_var rfl) (eu_tup (ea_cons (mulO r.til 3 hb.ti rfl) (ea_cons (mulO r.unit 4 hb.un rfl) (ea_cons (ev_var rfl) (ea_cons (ev_var rfl) ea_nil)))) (by show 4 ≤ 100000; decide)) (by omega) fun p H2 hp e2 h2 => ?_
      refine ⟨zs ++ [.ref p], _, _, _, _, rfl, (eH.trans e2).mut hl0, upd_same, ?_, by simp [hzl]⟩
      have et : rows.take (i + 1) = rows.take i ++ [r] := by rw [List.take_add_one, hri]; rfl
      rw [et, List.map_append]
      refine (hZ.mono (wo_mut e2)).snoc ⟨p, rfl, ?_⟩
      rw [wo_upd, wo_ne (ne_of h2 (e2 _ _ hl') (by intro z; cases z))]
      exact h2
    · rintro σ' H' ⟨zs, v3, v4, v5, v6, rfl, eH, hl', hZ, hzl⟩
      rw [List.take_of_length_le (by omega)] at hZ
      exact s_ret (ev_var rfl) fun H2 e2 => k l zs H2 hl0 (eH.trans e2) (e2 _ _ hl') ((hZ.mono wo_sub).mono e2)
theorem ok_made {f : Addr} {fd : FuncData} (F : Fn K "_law_made" "_law_made" s__law_made f fd) (T : Tx K mg cR cS cW) (c1 : Mak P w K mg base CX0 1 cR ["self", "until", "unit", "way", "word"] (spRowI cR)) (c2 : Mak P w K mg base CX0 5 cW ["self", "rows"] (spWordI K cR cS cW)) :
    FnOk P w K mg base CX0 7 f fd ["_law_rows_here"] (spMade cR cS cW) := by
  obtain ⟨f1, fd1, G_Row_init, M_Row, b_Row_init⟩ := c1.ex
  obtain ⟨f2, fd2, G_Wording_init, M_Wording, b_Wording_init⟩ := c2.ex
  refine F.ok sc__law_made (fun vs H Q E h => ?_) (fun cdv A outer s H vs Q E hr h => ?_)
  · obtain ⟨l, xs, rows, rfl, _⟩ := h; rfl
  · obtain ⟨l, xs, rows, rfl, hl, hR, ok, k⟩ := h
    refine ⟨_, PSs.nox (pss_one (ps_ret (pe_make M_Wording G_Wording_init (hr.mono (by decide)) rfl T.mgWording b_Wording_init .nil pass0 (pa_cons (pe_lc (own := [("_law_until", 1), ("_law_unit", 2), ("_law_way_here", 3), ("_law_word", 4)]) rfl sc__law_made.nd (pi_list (pv 0)) (blkOk_by (own := [("_law_until", 1), ("_law_unit", 2), ("_law_way_here", 3), ("_law_word", 4)]) (N := ["_law_rows_here", "_law_until", "_law_unit", "_law_way_here", "_law_word"]) (sc := defScope s__law_made) (by decide +kernel)) (fun _ _ _ _ _ => by exact (pg_tupK (K := K) (n := 4) (by rfl) rfl (pgs_cons (pg_name (i := 1) sc__law_made.nd rfl (Or.inl rfl)) (pgs_cons (pg_name (i := 2) sc__law_made.nd rfl (Or.inl rfl)) (pgs_cons (pg_name (i := 3) sc__law_made.nd rfl (Or.inl rfl)) (pgs_cons (pg_name (i := 4) sc__law_made.nd rfl (Or.inl rfl)) pgs_nil)))))) (fun _ _ _ _ _ => by exact pts_nil) (fun _ _ _ _ _ => by exact (pe_make M_Row G_Row_init (hr.mono (by decide)) rfl T.mgRow b_Row_init .nil pass0 (pa_cons (pv 1) (pa_cons (pv 2) (pa_cons (pv 3) (pa_cons (pv 4) pa_nil))))))) pa_nil)))), ?_⟩
    have hxl := hR.len
    have hn := ok.n
    have hlc := en_lc (K := K) (isT := false) (σ := [some (.ref l), none, none, none, none]) (H := H) (xs := xs) (a := l) (tl := tVar 0) (vs := [1, 2, 3, 4]) (g := gTup K 4 (gCons (gName 1) (gCons (gName 2) (gCons (gName 3) (gCons (gName 4) gNil))))) (te := tMake cR (spRowI cR) [] E0 (tCons (tVar 1) (tCons (tVar 2) (tCons (tVar 3) (tCons (tVar 4) tNil)))))
      (R := fun i y H => ∀ r, rows[i]? = some r → ∃ q, y = .ref q ∧ RowAt cR H q r) (fun i y H1 H2 e h r hr => let ⟨q, a, b⟩ := h r hr; ⟨q, a, b.mono e⟩) (ev_var rfl) (sq_of hl) (by omega) (fun i x M e hx => ?hs) H (Ex.refl H)
    case hs =>
      obtain ⟨r, hri, t, rfl, ht⟩ := (hR.mono e).get hx
      refine ⟨[some (.ref l), some (oV r.til), some (oV r.unit), some (.str r.way), some (.str r.word)], rfl, fun H1 kk e1 hk => ⟨t, _, rfl, st_of (e1 _ _ ht), rfl, _, _, rfl, _, _, rfl, _, _, rfl, _, _, rfl, rfl, hk⟩, ?_⟩
      refine EvE.of_new (en_make (fs := rowF r) (ea_cons (ev_var rfl) (ea_cons (ev_var rfl) (ea_cons (ev_var rfl) (ea_cons (ev_var rfl) ea_nil)))) (init_row (r := r))) fun p H2 hp r' hr' => ?_
      rw [hri] at hr'
      cases hr'
      exact ⟨p, rfl, hp⟩
    refine s_retMk (Pa := fun y H1 => ∃ a1 ys, y = .ref a1 ∧ Ex H H1 ∧ H1 a1 = some (.lst ys) ∧ Each (fun i y H => ∀ r, rows[i]? = some r → ∃ q, y = .ref q ∧ RowAt cR H q r) xs.length ys (wo a1 H1)) (fun Q' q => hlc Q' fun a1 ys H1 _ e1 h1 hE => q _ _ ⟨a1, ys, rfl, e1, h1, hE⟩) ?_
    rintro y H1 ⟨a1, ys, rfl, e1, h1, hE⟩ x dx hx hdx hne
    have hRA : RowsAt cR H1 ys rows := by
      refine ⟨by rw [hE.1, hxl], fun i r hi => ?_⟩
      obtain ⟨y, hy⟩ : ∃ y, ys[i]? = some y := ⟨_, List.getElem?_eq_getElem (by have := (List.getElem?_eq_some_iff.mp hi).1; rw [hE.1, hxl]; exact this)⟩
      obtain ⟨q, rfl, hq⟩ := hE.2 i y hy r hi
      exact ⟨q, hy, hq.mono wo_sub⟩
    have e2 : Ex H1 (upd (upd H1 dx (.own x)) x (.ins cW dx [])) := (Ex.new hdx).trans (Ex.new (by rw [upd_ne hne.symm]; exact hx))
    refine ⟨x, dx, a1, ys, rows, rfl, upd_same, Or.inl (sq_of (e2 _ _ h1)), hRA.mono e2, ok, fun H3 ta tb zs keep h3 hta htb hS => ⟨rfl, ?_⟩⟩
    have e3 : Ex H1 H3 := fun b o hb => keep b o (ne_of_none hb hx) (e2 b o hb)
    exact k x H3 (fresh_back e1 hx) (e1.trans e3) ⟨dx, ta, tb, ys, zs, h3, hta, hRA.mono e3, htb, hS.mono wo_sub⟩
end
end Age

set_option Elab.async false
set_option linter.all false
set_option maxHeartbeats 2000000
namespace Age
open PySem
/-! ### counts -/
theorem cnt_ge {n u c : Int} {w : Str} (h : 0 < u) : c ≤ cnt n u w ↔ fst c u w ≤ n := by
  unfold cnt fst
  rw [Int.le_ediv_iff_mul_le h]
  omega
theorem cnt_mono {n m u : Int} {w : Str} (h : 0 < u) (hnm : n ≤ m) : cnt n u w ≤ cnt m u w := by
  rw [cnt_ge h]
  exact Int.le_trans ((cnt_ge h).mp (Int.le_refl _)) hnm
theorem cnt_succ {n u : Int} {w : Str} (h : 0 < u) : cnt (n + 1) u w ≤ cnt n u w + 1 := by
  have h1 : fst (cnt (n + 1) u w) u w ≤ n + 1 := (cnt_ge h).mp (Int.le_refl _)
  have h2 : ¬ fst (cnt n u w + 1) u w ≤ n := fun z => by have := (cnt_ge h).mpr z; omega
  have h3 : fst (cnt n u w + 1 + 1) u w = fst (cnt n u w + 1) u w + u := by
    unfold fst
    rw [Int.add_mul (cnt n u w + 1) 1 u, Int.one_mul]
    omega
  rcases Int.lt_or_le (cnt n u w + 1) (cnt (n + 1) u w) with h4 | h4
  · have h5 := (cnt_ge (w := w) (n := n + 1) h).mp (show cnt n u w + 1 + 1 ≤ cnt (n + 1) u w by omega)
    rw [h3] at h5
    omega
  · exact h4
/-! ### spans in a row -/
def Seg (s : SpanD) (n : Int) : Prop := s.low ≤ n ∧ ∀ h, s.high = some h → n ≤ h
inductive Chain : Int → List SpanD → Prop
  | last {b : Int} {s : SpanD} : s.low = b → s.high = none → Chain b [s]
  | more {b h : Int} {s : SpanD} {ss : List SpanD} : s.low = b → s.high = some h → b ≤ h → Chain (h + 1) ss → Chain b (s :: ss)
abbrev Lab := Str × Option Int
def EdgeF (lab : Int → Lab) (b : Int) : Prop := 0 < b ∧ lab b ≠ lab (b - 1)
structure Fit1 (lab : Int → Lab) (s : SpanD) : Prop where
  lb : ∀ n, Seg s n → lab n = (s.row.word, cntO s.row n)
  fr : s.fresh = true ↔ EdgeF lab s.low
  un : ∀ u, s.row.unit = some u → 0 < u
  lo : 0 ≤ s.low
  ne : Seg s s.low
def Fit (lab : Int → Lab) (ss : List SpanD) : Prop := ∀ s ∈ ss, Fit1 lab s
theorem RowOk.un' {r : RowD} (h : RowOk r) : ∀ u, r.unit = some u → 0 < u := fun u hu => (h.un u hu).1
theorem labelOf_cons {r : RowD} {rs : List RowD} {n : Int} : labelOf (r :: rs) n = if hit n r = true then (r.word, cntO r n) else labelOf rs n := by
  unfold labelOf
  cases h : hit n r <;> simp [h]
theorem fit_from {lab : Int → Lab} : ∀ {rs : List RowD} {b : Int} {sh : Option Lab}, UOk b rs → 0 ≤ b → (∀ r ∈ rs, RowOk r) → (∀ n, b ≤ n → lab n = labelOf rs n) → (0 < b → sh = some (lab (b - 1))) → Fit lab (spansFrom b sh rs) ∧ Chain b (spansFrom b sh rs) := by
  intro rs
  induction rs with
  | nil => intro b sh hu; cases hu
  | cons r rs ih =>
    intro b sh hu hb hr hl hs
    have hr0 := hr r List.mem_cons_self
    have key : hit b r = true → ∀ (hi : Option Int), (∀ h, hi = some h → b ≤ h) → (∀ n, Seg ⟨b, hi, r, decide (0 < b) && !decide (some (r.word, cntO r b) = sh)⟩ n → hit n r = true) → Fit1 lab ⟨b, hi, r, decide (0 < b) && !decide (some (r.word, cntO r b) = sh)⟩ := by
      intro hb0 hi hne hseg
      have hlb : lab b = (r.word, cntO r b) := by rw [hl b (Int.le_refl _), labelOf_cons, if_pos hb0]
      refine ⟨fun n hn => ?_, ?_, hr0.un', hb, ⟨Int.le_refl _, hne⟩⟩
      · rw [hl n hn.1, labelOf_cons, if_pos (hseg n hn)]
      · show (decide (0 < b) && !decide (some (r.word, cntO r b) = sh)) = true ↔ EdgeF lab b
        unfold EdgeF
        by_cases h0 : 0 < b
        · rw [hs h0, hlb]
          simp [h0]
        · simp [h0]
    cases hu with
    | last ht =>
      have hh : ∀ n, hit n r = true := fun n => by unfold hit; rw [ht]
      simp only [spansFrom, ht]
      refine ⟨fun s hs2 => ?_, .last rfl rfl⟩
      rcases List.mem_cons.mp hs2 with z | z
      · subst z
        exact key (hh b) none (fun h z => nomatch z) (fun n _ => hh n)
      · simp at z
    | more ht hbt hu2 =>
      rename_i t
      have hh : ∀ n, n < t → hit n r = true := fun n hn => by unfold hit; rw [ht]; exact decide_eq_true hn
      have hh2 : ∀ n, t ≤ n → ¬ hit n r = true := fun n hn => by unfold hit; rw [ht]; simp; omega
      simp only [spansFrom, ht]
      have ih2 := ih (sh := some (r.word, cntO r (t - 1))) hu2 (by omega) (fun r2 h2 => hr r2 (List.mem_cons_of_mem _ h2)) (fun n hn => by rw [hl n (by omega), labelOf_cons, if_neg (hh2 n hn)]) (fun _ => by rw [hl (t - 1) (by omega), labelOf_cons, if_pos (hh _ (by omega))])
      refine ⟨fun s hs2 => ?_, ?_⟩
      · rcases List.mem_cons.mp hs2 with z | z
        · subst z
          exact key (hh b hbt) (some (t - 1)) (fun h z => by cases z; omega) (fun n hn => hh n (by have := hn.2 (t - 1) rfl; omega))
        · exact ih2.1 s z
      · refine .more (h := t - 1) rfl rfl (by omega) ?_
        rw [show t - 1 + 1 = t by omega]
        exact ih2.2
theorem RowsOk.fit {rows : List RowD} (h : RowsOk rows) : Fit (labelOf rows) (spansFrom 0 none rows) ∧ Chain 0 (spansFrom 0 none rows) :=
  fit_from h.u (Int.le_refl _) (fun r hr => (h.r r hr).1) (fun _ _ => rfl) (fun z => absurd z (by decide))
/-! ### edges within a span -/
section
variable {lab : Int → Lab} {s : SpanD}
theorem cntO_some {r : RowD} {u n : Int} (h : r.unit = some u) : cntO r n = some (cnt n u r.way) := by unfold cntO; rw [h]; rfl
theorem cntO_none {r : RowD} {n : Int} (h : r.unit = none) : cntO r n = none := by unfold cntO; rw [h]; rfl
theorem seg_pred {n : Int} (h : Seg s n) (hl : s.low < n) : Seg s (n - 1) := ⟨by omega, fun x hx => by have := h.2 x hx; omega⟩
theorem edge_in (F : Fit1 lab s) {n : Int} (h : Seg s n) (hl : s.low < n) : EdgeF lab n ↔ cntO s.row n ≠ cntO s.row (n - 1) := by
  have h1 := F.lb n h
  have h2 := F.lb (n - 1) (seg_pred h hl)
  have h0 := F.lo
  unfold EdgeF
  rw [h1, h2]
  constructor
  · rintro ⟨_, z⟩ e
    exact z (by rw [e])
  · intro z
    exact ⟨by omega, fun e => z (congrArg Prod.snd e)⟩
theorem edge_none (F : Fit1 lab s) (hu : s.row.unit = none) {n : Int} (h : Seg s n) (hl : s.low < n) : ¬ EdgeF lab n := by
  rw [edge_in F h hl, cntO_none hu, cntO_none hu]
  simp
theorem edge_some (F : Fit1 lab s) {u : Int} (hu : s.row.unit = some u) {n : Int} (h : Seg s n) (hl : s.low < n) : EdgeF lab n ↔ cnt n u s.row.way = cnt (n - 1) u s.row.way + 1 := by
  rw [edge_in F h hl, cntO_some hu, cntO_some hu]
  have u0 := F.un u hu
  have h1 := cnt_mono (w := s.row.way) u0 (show n - 1 ≤ n by omega)
  have h2 := cnt_succ (w := s.row.way) (n := n - 1) u0
  rw [show n - 1 + 1 = n by omega] at h2
  constructor
  · intro z
    have z2 : cnt n u s.row.way ≠ cnt (n - 1) u s.row.way := fun e => z (by rw [e])
    omega
  · intro z e
    have := Option.some.inj e
    omega
/-- the next edge of a span -/
theorem edgeAfter_spec (F : Fit1 lab s) (n : Int) : match edgeAfter s n with
    | none => ∀ b, n < b → Seg s b → ¬ EdgeF lab b
    | some e => n < e ∧ Seg s e ∧ EdgeF lab e ∧ ∀ b, n < b → b < e → Seg s b → ¬ EdgeF lab b := by
  by_cases hf : s.fresh = true ∧ n < s.low
  · have e : edgeAfter s n = some s.low := if_pos hf
    rw [e]
    exact ⟨hf.2, F.ne, F.fr.mp hf.1, fun b h1 h2 h3 => absurd h3.1 (by omega)⟩
  · have e : edgeAfter s n = _ := if_neg hf
    rw [e]
    have low0 : ∀ b, n < b → Seg s b → b = s.low → ¬ EdgeF lab b := fun b h1 h2 h3 h4 => hf ⟨F.fr.mpr (by rw [← h3]; exact h4), by omega⟩
    cases hu : s.row.unit with
    | none =>
      intro b h1 h2
      by_cases hb : b = s.low
      · exact low0 b h1 h2 hb
      · exact edge_none F hu h2 (by have := h2.1; omega)
    | some u =>
      have u0 := F.un u hu
      generalize hm : (if s.low > n then s.low else n) = m
      have m1 : n ≤ m ∧ s.low ≤ m ∧ (m = n ∨ m = s.low) := by
        rw [← hm]
        split <;> omega
      have he1 : ¬ fst (cnt m u s.row.way + 1) u s.row.way ≤ m := fun z => by have := (cnt_ge u0).mpr z; omega
      have flat : ∀ b, m ≤ b → b < fst (cnt m u s.row.way + 1) u s.row.way → cnt b u s.row.way = cnt m u s.row.way := by
        intro b h1 h2
        have h3 := cnt_mono (w := s.row.way) u0 h1
        have h4 : ¬ cnt m u s.row.way + 1 ≤ cnt b u s.row.way := fun z => by have := (cnt_ge u0).mp z; omega
        omega
      have noE : ∀ b, n < b → Seg s b → b < fst (cnt m u s.row.way + 1) u s.row.way → ¬ EdgeF lab b := by
        intro b h1 h2 h3
        by_cases hb : b = s.low
        · exact low0 b h1 h2 hb
        · have hb2 : s.low < b := by have := h2.1; omega
          rw [edge_some F hu h2 hb2, flat b (by omega) h3, flat (b - 1) (by omega) (by omega)]
          omega
      have isE : Seg s (fst (cnt m u s.row.way + 1) u s.row.way) → EdgeF lab (fst (cnt m u s.row.way + 1) u s.row.way) := by
        intro h1
        rw [edge_some F hu h1 (by omega), flat (fst (cnt m u s.row.way + 1) u s.row.way - 1) (by omega) (by omega)]
        have h2 : cnt m u s.row.way + 1 ≤ cnt (fst (cnt m u s.row.way + 1) u s.row.way) u s.row.way := (cnt_ge u0).mpr (Int.le_refl _)
        have h3 := cnt_succ (w := s.row.way) (n := fst (cnt m u s.row.way + 1) u s.row.way - 1) u0
        rw [show fst (cnt m u s.row.way + 1) u s.row.way - 1 + 1 = fst (cnt m u s.row.way + 1) u s.row.way by omega, flat (fst (cnt m u s.row.way + 1) u s.row.way - 1) (by omega) (by omega)] at h3
        omega
      cases hh : s.high with
      | none =>
        have sg : Seg s (fst (cnt m u s.row.way + 1) u s.row.way) := ⟨by omega, fun x hx => by rw [hh] at hx; cases hx⟩
        exact ⟨by omega, sg, isE sg, fun b h1 h2 h3 => noE b h1 h3 h2⟩
      | some h =>
        by_cases hle : fst (cnt m u s.row.way + 1) u s.row.way ≤ h
        · show match (if _ then _ else _ : Option Int) with | none => _ | some e => _
          rw [if_pos hle]
          have sg : Seg s (fst (cnt m u s.row.way + 1) u s.row.way) := ⟨by omega, fun x hx => by rw [hh] at hx; cases hx; exact hle⟩
          exact ⟨by omega, sg, isE sg, fun b h1 h2 h3 => noE b h1 h3 h2⟩
        · show match (if _ then _ else _ : Option Int) with | none => _ | some e => _
          rw [if_neg hle]
          exact fun b h1 h2 => noE b h1 h2 (by have := h2.2 h hh; omega)
end
theorem Chain.cover : ∀ {ss : List SpanD} {b0 : Int}, Chain b0 ss → ∀ n, b0 ≤ n → ∃ s ∈ ss, Seg s n
  | _, _, .last (s := s) h1 h2, n, hn => ⟨s, List.mem_cons_self, by omega, fun h z => by rw [h2] at z; cases z⟩
  | _, _, .more (s := s) (h := h) h1 h2 h3 h4, n, hn => by
    by_cases hle : n ≤ h
    · exact ⟨s, List.mem_cons_self, by omega, fun x z => by rw [h2] at z; cases z; exact hle⟩
    · obtain ⟨s2, h5, h6⟩ := h4.cover n (by omega)
      exact ⟨s2, List.mem_cons_of_mem _ h5, h6⟩
theorem Chain.low : ∀ {ss : List SpanD} {b0 : Int}, Chain b0 ss → ∀ s ∈ ss, b0 ≤ s.low
  | _, _, .last h1 h2, s, hs => by rw [List.mem_singleton.mp hs]; omega
  | _, _, .more h1 h2 h3 h4, s, hs => by
    rcases List.mem_cons.mp hs with z | z
    · rw [z]; omega
    · have := h4.low s z
      omega
/-- later_edge: the least edge above, or none -/
theorem later_spec {lab : Int → Lab} (n : Int) : ∀ {ss : List SpanD} {b0 : Int}, Chain b0 ss → Fit lab ss → match laterEdge ss n with
    | none => ∀ b, n < b → b0 ≤ b → ¬ EdgeF lab b
    | some e => n < e ∧ b0 ≤ e ∧ EdgeF lab e ∧ ∀ b, n < b → b < e → b0 ≤ b → ¬ EdgeF lab b := by
  intro ss
  induction ss with
  | nil => intro b0 hc; cases hc
  | cons s ss ih =>
    intro b0 hc F
    have h1 := edgeAfter_spec (F s List.mem_cons_self) n
    have hl := hc.low s List.mem_cons_self
    unfold laterEdge
    rw [List.findSome?_cons]
    cases he : edgeAfter s n with
    | some e =>
      rw [he] at h1
      obtain ⟨a1, a2, a3, a4⟩ := h1
      refine ⟨a1, by have := a2.1; omega, a3, fun b b1 b2 b3 => a4 b b1 b2 ?_⟩
      have hs : s.low = b0 := by cases hc <;> assumption
      exact ⟨by omega, fun x hx => by have := a2.2 x hx; omega⟩
    | none =>
      rw [he] at h1
      cases hc with
      | last h2 h3 => exact fun b b1 b2 => h1 b b1 ⟨by omega, fun x hx => by rw [h3] at hx; cases hx⟩
      | more h2 h3 h4 h5 =>
        rename_i h
        have ih2 := ih h5 (fun s2 hs2 => F s2 (List.mem_cons_of_mem _ hs2))
        have hA : ∀ b, n < b → b0 ≤ b → b ≤ h → ¬ EdgeF lab b := fun b b1 b2 b3 => h1 b b1 ⟨by omega, fun x hx => by rw [h3] at hx; cases hx; exact b3⟩
        show match laterEdge ss n with | none => _ | some e => _
        cases hl2 : laterEdge ss n with
        | none =>
          rw [hl2] at ih2
          intro b b1 b2
          by_cases hb : b ≤ h
          · exact hA b b1 b2 hb
          · exact ih2 b b1 (by omega)
        | some e =>
          rw [hl2] at ih2
          obtain ⟨a1, a2, a3, a4⟩ := ih2
          refine ⟨a1, by omega, a3, fun b b1 b2 b3 => ?_⟩
          by_cases hb : b ≤ h
          · exact hA b b1 b3 hb
          · exact a4 b b1 b2 (by omega)
/-! ### how many edges -/
theorem numE_cons (s : SpanD) (ss : List SpanD) (n : Int) : numE (s :: ss) n = (if s.low ≤ n then numUntil s n else 0) + numE ss n := by
  unfold numE
  by_cases h : s.low ≤ n
  · rw [List.filter_cons_of_pos (by simpa using h), if_pos h]; rfl
  · rw [List.filter_cons_of_neg (by simpa using h), if_neg h, Int.zero_add]
theorem numE_below : ∀ {ss : List SpanD} {b0 n : Int}, (∀ s ∈ ss, b0 ≤ s.low) → n < b0 → numE ss n = 0
  | [], _, _, _, _ => rfl
  | s :: ss, b0, n, h, hn => by
    rw [numE_cons, if_neg (by have := h s List.mem_cons_self; omega), numE_below (fun s2 h2 => h s2 (List.mem_cons_of_mem _ h2)) hn]
    rfl
open Classical in
noncomputable def eI (lab : Int → Lab) (n : Int) : Int := if EdgeF lab n then 1 else 0
theorem numUntil_low {lab : Int → Lab} {s : SpanD} (F : Fit1 lab s) : numUntil s s.low = eI lab s.low := by
  have hl : limO s s.low = s.low := by
    unfold limO
    cases h : s.high with
    | none => rfl
    | some x => show (if _ then _ else _) = _; rw [if_neg (by have := F.ne.2 x h; omega)]
  have hfr : (if s.fresh = true then (1 : Int) else 0) = eI lab s.low := by
    unfold eI
    by_cases h : s.fresh = true
    · rw [if_pos h, if_pos (F.fr.mp h)]
    · rw [if_neg h, if_neg (fun z => h (F.fr.mpr z))]
  unfold numUntil
  cases hu : s.row.unit with
  | none => exact hfr
  | some u =>
    show (if s.fresh = true then (1 : Int) else 0) + cnt (limO s s.low) u s.row.way - cnt s.low u s.row.way = _
    rw [hl, hfr]
    omega
theorem numUntil_step {lab : Int → Lab} {s : SpanD} (F : Fit1 lab s) {n : Int} (h : Seg s n) (hl : s.low < n) : numUntil s n - numUntil s (n - 1) = eI lab n := by
  have l1 : ∀ m, Seg s m → limO s m = m := fun m hm => by
    unfold limO
    cases h2 : s.high with
    | none => rfl
    | some x => show (if _ then _ else _) = _; rw [if_neg (by have := hm.2 x h2; omega)]
  unfold numUntil
  cases hu : s.row.unit with
  | none =>
    show (if s.fresh = true then (1 : Int) else 0) - (if s.fresh = true then (1 : Int) else 0) = _
    unfold eI
    rw [if_neg (edge_none F hu h hl)]
    omega
  | some u =>
    show (if s.fresh = true then (1 : Int) else 0) + cnt (limO s n) u s.row.way - cnt s.low u s.row.way - ((if s.fresh = true then (1 : Int) else 0) + cnt (limO s (n - 1)) u s.row.way - cnt s.low u s.row.way) = _
    rw [l1 n h, l1 _ (seg_pred h hl)]
    have u0 := F.un u hu
    have h1 := cnt_mono (w := s.row.way) u0 (show n - 1 ≤ n by omega)
    have h2 := cnt_succ (w := s.row.way) (n := n - 1) u0
    rw [show n - 1 + 1 = n by omega] at h2
    unfold eI
    by_cases he : EdgeF lab n
    · rw [if_pos he]
      have := (edge_some F hu h hl).mp he
      omega
    · rw [if_neg he]
      have : ¬ cnt n u s.row.way = cnt (n - 1) u s.row.way + 1 := fun z => he ((edge_some F hu h hl).mpr z)
      omega
theorem numUntil_past {s : SpanD} {x n : Int} (hx : s.high = some x) (h : x < n) : numUntil s n = numUntil s (n - 1) := by
  have l1 : ∀ m, x ≤ m → limO s m = x := fun m hm => by
    unfold limO
    rw [hx]
    show (if _ then _ else _) = _
    split <;> omega
  unfold numUntil
  rw [l1 n (by omega), l1 (n - 1) (by omega)]
theorem numE_step {lab : Int → Lab} (n : Int) : ∀ {ss : List SpanD} {b0 : Int}, Chain b0 ss → Fit lab ss → b0 ≤ n → numE ss n - numE ss (n - 1) = eI lab n := by
  intro ss
  induction ss with
  | nil => intro b0 hc; cases hc
  | cons s ss ih =>
    intro b0 hc F hb
    have F1 := F s List.mem_cons_self
    have hs : s.low = b0 := by cases hc <;> assumption
    rw [numE_cons, numE_cons]
    have zero : ∀ m h, Chain (h + 1) ss → m ≤ h → numE ss m = 0 := fun m h hc2 hm => numE_below hc2.low (by omega)
    rw [if_pos (by omega : s.low ≤ n)]
    by_cases he : n = s.low
    · rw [if_neg (by omega : ¬ s.low ≤ n - 1), he, numUntil_low F1]
      have : numE ss s.low = 0 ∧ numE ss (s.low - 1) = 0 := by
        cases hc with
        | last h1 h2 => exact ⟨rfl, rfl⟩
        | more h1 h2 h3 h4 => exact ⟨zero _ _ h4 (by omega), zero _ _ h4 (by omega)⟩
      omega
    · rw [if_pos (by omega : s.low ≤ n - 1)]
      cases hc with
      | last h1 h2 =>
        have := numUntil_step F1 (n := n) ⟨by omega, fun x hx => by rw [h2] at hx; cases hx⟩ (by omega)
        show numUntil s n + 0 - (numUntil s (n - 1) + 0) = _
        omega
      | more h1 h2 h3 h4 =>
        rename_i h
        by_cases hle : n ≤ h
        · have := numUntil_step F1 (n := n) ⟨by omega, fun x hx => by rw [h2] at hx; cases hx; exact hle⟩ (by omega)
          have z1 := zero n h h4 hle
          have z2 := zero (n - 1) h h4 (by omega)
          omega
        · have h5 := numUntil_past h2 (show h < n by omega)
          have h6 := ih h4 (fun s2 hs2 => F s2 (List.mem_cons_of_mem _ hs2)) (by omega)
          omega
theorem numE_zero {lab : Int → Lab} {ss : List SpanD} (hc : Chain 0 ss) (F : Fit lab ss) : numE ss 0 = 0 := by
  have h1 := numE_step (lab := lab) 0 hc F (Int.le_refl _)
  have h2 : numE ss (0 - 1) = 0 := numE_below hc.low (by decide)
  have h3 : eI lab 0 = 0 := if_neg (fun z => absurd z.1 (by decide))
  omega
theorem numE_flat {lab : Int → Lab} {ss : List SpanD} (hc : Chain 0 ss) (F : Fit lab ss) {x : Int} (hx : 0 ≤ x) : ∀ (k : Nat), (∀ b, x < b → b ≤ x + k → ¬ EdgeF lab b) → numE ss (x + k) = numE ss x
  | 0, _ => by simp
  | k + 1, h => by
    have ih := numE_flat hc F hx k (fun b h1 h2 => h b h1 (by omega))
    have h1 := numE_step (lab := lab) (x + ((k + 1 : Nat) : Int)) hc F (by omega)
    have h2 : eI lab (x + ((k + 1 : Nat) : Int)) = 0 := if_neg (h _ (by omega) (by omega))
    rw [show x + ((k + 1 : Nat) : Int) - 1 = x + k by omega] at h1
    omega
theorem lab_flat {lab : Int → Lab} {x : Int} (hx : 0 ≤ x) : ∀ (k : Nat), (∀ b, x < b → b ≤ x + k → ¬ EdgeF lab b) → lab (x + k) = lab x
  | 0, _ => by simp
  | k + 1, h => by
    have ih := lab_flat hx k (fun b h1 h2 => h b h1 (by omega))
    have h1 : ¬ EdgeF lab (x + ((k + 1 : Nat) : Int)) := h _ (by omega) (by omega)
    unfold EdgeF at h1
    rw [show x + ((k + 1 : Nat) : Int) - 1 = x + k by omega, ih] at h1
    exact Classical.byContradiction fun z => h1 ⟨by omega, z⟩
end Age

set_option Elab.async false
set_option linter.all false
set_option maxHeartbeats 2000000
namespace Age
open PySem
def InP (p : Str2) (n : Int) : Prop := p.1 ≤ n ∧ ∀ h, p.2 = some h → n ≤ h
section
variable {lab : Int → Lab} {s : SpanD}
theorem stretch_spec (F : Fit1 lab s) (w : Str) (c : Option Int) : match stretchWith s w c with
    | none => ∀ n, Seg s n → lab n ≠ (w, c)
    | some p => InP p p.1 ∧ Seg s p.1 ∧ (∀ h, p.2 = some h → Seg s h) ∧ ∀ n, InP p n ↔ Seg s n ∧ lab n = (w, c) := by
  unfold stretchWith
  by_cases hw : s.row.word = w
  · rw [if_pos hw]
    cases hu : s.row.unit with
    | none =>
      cases c with
      | none =>
        refine ⟨F.ne, F.ne, fun h hh => ⟨F.ne.2 h hh, fun x hx => by have hh : s.high = some h := hh; rw [hh] at hx; cases hx; exact Int.le_refl _⟩, fun n => ⟨fun h => ⟨h, ?_⟩, fun h => h.1⟩⟩
        rw [F.lb n h, hw, cntO_none hu]
      | some c =>
        intro n hn e
        rw [F.lb n hn, cntO_none hu] at e
        cases congrArg Prod.snd e
    | some u =>
      cases c with
      | none =>
        intro n hn e
        rw [F.lb n hn, cntO_some hu] at e
        cases congrArg Prod.snd e
      | some c =>
        have u0 := F.un u hu
        show match (if (if fst c u s.row.way > s.low then fst c u s.row.way else s.low) ≤ limO s (fst (c + 1) u s.row.way - 1) then some (if fst c u s.row.way > s.low then fst c u s.row.way else s.low, some (limO s (fst (c + 1) u s.row.way - 1))) else none : Option Str2) with | none => _ | some p => _
        generalize hlo : (if fst c u s.row.way > s.low then fst c u s.row.way else s.low) = lo
        have lo1 : ∀ n, lo ≤ n ↔ fst c u s.row.way ≤ n ∧ s.low ≤ n := fun n => by rw [← hlo]; split <;> omega
        generalize hhi : limO s (fst (c + 1) u s.row.way - 1) = hi
        have hi1 : ∀ n, n ≤ hi ↔ n < fst (c + 1) u s.row.way ∧ ∀ h, s.high = some h → n ≤ h := fun n => by
          rw [← hhi]
          unfold limO
          cases hh : s.high with
          | none =>
            show n ≤ fst (c + 1) u s.row.way - 1 ↔ _
            exact ⟨fun z => ⟨by omega, fun h q => nomatch q⟩, fun z => by have := z.1; omega⟩
          | some x =>
            show n ≤ (if x < fst (c + 1) u s.row.way - 1 then x else fst (c + 1) u s.row.way - 1) ↔ _
            split
            · exact ⟨fun z => ⟨by omega, fun h q => by cases q; exact z⟩, fun z => z.2 x rfl⟩
            · exact ⟨fun z => ⟨by omega, fun h q => by cases q; omega⟩, fun z => by have := z.1; omega⟩
        have iff : ∀ n, (lo ≤ n ∧ n ≤ hi) ↔ Seg s n ∧ lab n = (w, some c) := fun n => by
          constructor
          · rintro ⟨a, b⟩
            have a' := (lo1 n).mp a
            have b' := (hi1 n).mp b
            have sg : Seg s n := ⟨a'.2, b'.2⟩
            refine ⟨sg, ?_⟩
            have c1 := (cnt_ge (w := s.row.way) (n := n) u0).mpr a'.1
            have c2 : ¬ c + 1 ≤ cnt n u s.row.way := fun z => by have := (cnt_ge u0).mp z; omega
            rw [F.lb n sg, hw, cntO_some hu, show cnt n u s.row.way = c by omega]
          · rintro ⟨sg, e⟩
            rw [F.lb n sg, cntO_some hu] at e
            have e2 : cnt n u s.row.way = c := Option.some.inj (congrArg Prod.snd e)
            refine ⟨(lo1 n).mpr ⟨(cnt_ge u0).mp (by omega), sg.1⟩, (hi1 n).mpr ⟨?_, sg.2⟩⟩
            have : ¬ fst (c + 1) u s.row.way ≤ n := fun z => by have := (cnt_ge u0).mpr z; omega
            omega
        by_cases hle : lo ≤ hi
        · rw [if_pos hle]
          refine ⟨⟨Int.le_refl _, fun h z => by cases z; exact hle⟩, ((iff lo).mp ⟨Int.le_refl _, hle⟩).1, fun h z => by cases z; exact ((iff hi).mp ⟨hle, Int.le_refl _⟩).1, fun n => ?_⟩
          rw [← iff n]
          exact ⟨fun z => ⟨z.1, z.2 hi rfl⟩, fun z => ⟨z.1, fun h q => by cases q; exact z.2⟩⟩
        · rw [if_neg hle]
          intro n hn e
          have := (iff n).mpr ⟨hn, e⟩
          omega
  · rw [if_neg hw]
    intro n hn e
    rw [F.lb n hn] at e
    exact hw (congrArg Prod.fst e)
end
def Asc (ps : List Str2) : Prop := ps.Pairwise fun p q => ∃ h, p.2 = some h ∧ h < q.1
def Gap (ps : List Str2) : Prop := ps.Pairwise fun p q => ∃ h, p.2 = some h ∧ h + 1 < q.1
theorem raw_spec {lab : Int → Lab} (w : Str) (c : Option Int) : ∀ {ss : List SpanD} {b0 : Int}, Chain b0 ss → Fit lab ss → Asc (ss.filterMap (stretchWith · w c)) ∧ (∀ p ∈ ss.filterMap (stretchWith · w c), InP p p.1 ∧ b0 ≤ p.1) ∧
    ∀ n, (∃ p ∈ ss.filterMap (stretchWith · w c), InP p n) ↔ b0 ≤ n ∧ lab n = (w, c) := by
  intro ss
  induction ss with
  | nil => intro b0 hc; cases hc
  | cons s ss ih =>
    intro b0 hc F
    have F1 := F s List.mem_cons_self
    have hs : s.low = b0 := by cases hc <;> assumption
    have sp := stretch_spec F1 w c
    cases hc with
    | last h1 h2 =>
      have sg : ∀ n, Seg s n ↔ b0 ≤ n := fun n => ⟨fun z => by have := z.1; omega, fun z => ⟨by omega, fun h q => by rw [h2] at q; cases q⟩⟩
      cases hst : stretchWith s w c with
      | none =>
        rw [hst] at sp
        simp only [List.filterMap_cons, hst, List.filterMap_nil]
        refine ⟨.nil, (fun p z => nomatch z), fun n => ⟨fun ⟨p, z, _⟩ => (nomatch z), fun z => absurd z.2 (sp n ((sg n).mpr z.1))⟩⟩
      | some p =>
        rw [hst] at sp
        obtain ⟨s1, s2, s3, s4⟩ := sp
        simp only [List.filterMap_cons, hst, List.filterMap_nil]
        refine ⟨List.pairwise_singleton _ _, fun q hq => by rw [List.mem_singleton.mp hq]; exact ⟨s1, (sg _).mp s2⟩, fun n => ⟨fun ⟨q, hq, hi⟩ => ?_, fun z => ⟨p, List.mem_cons_self, (s4 n).mpr ⟨(sg n).mpr z.1, z.2⟩⟩⟩⟩
        rw [List.mem_singleton.mp hq] at hi
        have := (s4 n).mp hi
        exact ⟨(sg n).mp this.1, this.2⟩
    | more h1 h2 h3 h4 =>
      rename_i h
      obtain ⟨i1, i2, i3⟩ := ih h4 (fun s2 hs2 => F s2 (List.mem_cons_of_mem _ hs2))
      have sg : ∀ n, Seg s n ↔ b0 ≤ n ∧ n ≤ h := fun n => ⟨fun z => ⟨by have := z.1; omega, z.2 h h2⟩, fun z => ⟨by omega, fun x q => by rw [h2] at q; cases q; exact z.2⟩⟩
      cases hst : stretchWith s w c with
      | none =>
        rw [hst] at sp
        rw [List.filterMap_cons_none (f := (stretchWith · w c)) hst]
        refine ⟨i1, fun p hp => ⟨(i2 p hp).1, by have := (i2 p hp).2; omega⟩, fun n => ?_⟩
        rw [i3 n]
        exact ⟨fun z => ⟨by omega, z.2⟩, fun z => ⟨by
          rcases Int.lt_or_le h n with q | q
          · omega
          · exact absurd z.2 (sp n ((sg n).mpr ⟨z.1, q⟩)), z.2⟩⟩
      | some p =>
        rw [hst] at sp
        obtain ⟨s1, s2, s3, s4⟩ := sp
        rw [List.filterMap_cons_some (f := (stretchWith · w c)) hst]
        obtain ⟨ph, hph⟩ : ∃ ph, p.2 = some ph := by
          cases hp2 : p.2 with
          | some x => exact ⟨x, rfl⟩
          | none =>
            have hin : InP p (h + 1 + p.1.toNat) := ⟨by have := ((sg _).mp s2).1; have := ((sg _).mp s2).2; omega, fun x q => by rw [hp2] at q; cases q⟩
            have := ((sg _).mp ((s4 _).mp hin).1).2
            omega
        have hphh : ph ≤ h := ((sg _).mp (s3 ph hph)).2
        refine ⟨List.pairwise_cons.mpr ⟨fun q hq => ⟨ph, hph, by have := (i2 q hq).2; omega⟩, i1⟩, fun q hq => ?_, fun n => ?_⟩
        · rcases List.mem_cons.mp hq with z | z
          · rw [z]; exact ⟨s1, ((sg _).mp s2).1⟩
          · exact ⟨(i2 q z).1, by have := (i2 q z).2; omega⟩
        · constructor
          · rintro ⟨q, hq, hi⟩
            rcases List.mem_cons.mp hq with z | z
            · rw [z] at hi
              have := (s4 n).mp hi
              exact ⟨((sg n).mp this.1).1, this.2⟩
            · have := (i3 n).mp ⟨q, z, hi⟩
              exact ⟨by omega, this.2⟩
          · rintro ⟨z1, z2⟩
            rcases Int.lt_or_le h n with q | q
            · obtain ⟨r, hr, hi⟩ := (i3 n).mpr ⟨by omega, z2⟩
              exact ⟨r, List.mem_cons_of_mem _ hr, hi⟩
            · exact ⟨p, List.mem_cons_self, (s4 n).mpr ⟨(sg n).mpr ⟨z1, q⟩, z2⟩⟩
theorem join_spec : ∀ (rest acc : List Str2), Gap acc → (∀ p ∈ acc, InP p p.1) → (∀ p ∈ acc, ∀ q ∈ rest, ∃ h, p.2 = some h ∧ h < q.1) → Asc rest → (∀ p ∈ rest, InP p p.1) →
    Gap (rest.foldl joinStep acc) ∧ (∀ p ∈ rest.foldl joinStep acc, InP p p.1) ∧ ∀ n, (∃ p ∈ rest.foldl joinStep acc, InP p n) ↔ (∃ p ∈ acc, InP p n) ∨ ∃ p ∈ rest, InP p n := by
  intro rest
  induction rest with
  | nil => intro acc h1 h2 _ _ _; exact ⟨h1, h2, fun n => ⟨Or.inl, fun z => z.elim id fun ⟨p, hp, _⟩ => nomatch hp⟩⟩
  | cons x rest ih =>
    intro acc h1 h2 h3 h4 h5
    obtain ⟨h4a, h4b⟩ := List.pairwise_cons.mp h4
    have h5x := h5 x List.mem_cons_self
    -- what the step gives
    have step : Gap (joinStep acc x) ∧ (∀ p ∈ joinStep acc x, InP p p.1) ∧ (∀ p ∈ joinStep acc x, ∀ q ∈ rest, ∃ h, p.2 = some h ∧ h < q.1) ∧ ∀ n, (∃ p ∈ joinStep acc x, InP p n) ↔ (∃ p ∈ acc, InP p n) ∨ InP x n := by
      have plain : (∀ p ∈ acc, ∃ h, p.2 = some h ∧ h + 1 < x.1) → Gap (acc ++ [x]) ∧ (∀ p ∈ acc ++ [x], InP p p.1) ∧ (∀ p ∈ acc ++ [x], ∀ q ∈ rest, ∃ h, p.2 = some h ∧ h < q.1) ∧ ∀ n, (∃ p ∈ acc ++ [x], InP p n) ↔ (∃ p ∈ acc, InP p n) ∨ InP x n := by
        intro hg
        refine ⟨List.pairwise_append.mpr ⟨h1, List.pairwise_singleton _ _, fun p hp q hq => by rw [List.mem_singleton.mp hq]; exact hg p hp⟩, fun p hp => ?_, fun p hp q hq => ?_, fun n => ?_⟩
        · rcases List.mem_append.mp hp with z | z
          · exact h2 p z
          · rw [List.mem_singleton.mp z]; exact h5x
        · rcases List.mem_append.mp hp with z | z
          · exact h3 p z q (List.mem_cons_of_mem _ hq)
          · rw [List.mem_singleton.mp z]; exact h4a q hq
        · constructor
          · rintro ⟨p, hp, hi⟩
            rcases List.mem_append.mp hp with z | z
            · exact Or.inl ⟨p, z, hi⟩
            · rw [List.mem_singleton.mp z] at hi; exact Or.inr hi
          · rintro (⟨p, hp, hi⟩ | hi)
            · exact ⟨p, List.mem_append_left _ hp, hi⟩
            · exact ⟨x, List.mem_append_right _ List.mem_cons_self, hi⟩
      rcases List.eq_nil_or_concat acc with z | ⟨init, l, z⟩
      · subst z
        exact plain fun p hp => nomatch hp
      · rw [List.concat_eq_append] at z
        subst z
        obtain ⟨lo, hi⟩ := l
        obtain ⟨h, hh, hlt⟩ := h3 (lo, hi) (List.mem_append_right _ List.mem_cons_self) x List.mem_cons_self
        have hh : hi = some h := hh
        subst hh
        have hlh : lo ≤ h := (h2 (lo, some h) (List.mem_append_right _ List.mem_cons_self)).2 h rfl
        obtain ⟨g1, g2, g3⟩ := List.pairwise_append.mp h1
        have gi : ∀ p ∈ init, ∃ h', p.2 = some h' ∧ h' + 1 < lo := fun p hp => g3 p hp (lo, some h) List.mem_cons_self
        have ej : joinStep (init ++ [(lo, some h)]) x = if h + 1 = x.1 then init ++ [(lo, x.2)] else init ++ [(lo, some h)] ++ [x] := by
          unfold joinStep
          rw [List.getLast?_append]
          simp
        rw [ej]
        by_cases hc : h + 1 = x.1
        · rw [if_pos hc]
          refine ⟨List.pairwise_append.mpr ⟨g1, List.pairwise_singleton _ _, fun p hp q hq => by rw [List.mem_singleton.mp hq]; exact gi p hp⟩, fun p hp => ?_, fun p hp q hq => ?_, fun n => ?_⟩
          · rcases List.mem_append.mp hp with z | z
            · exact h2 p (List.mem_append_left _ z)
            · rw [List.mem_singleton.mp z]
              exact ⟨Int.le_refl _, fun y hy => by have := h5x.2 y hy; show lo ≤ y; omega⟩
          · rcases List.mem_append.mp hp with z | z
            · exact h3 p (List.mem_append_left _ z) q (List.mem_cons_of_mem _ hq)
            · rw [List.mem_singleton.mp z]; exact h4a q hq
          · constructor
            · rintro ⟨p, hp, hi⟩
              rcases List.mem_append.mp hp with z | z
              · exact Or.inl ⟨p, List.mem_append_left _ z, hi⟩
              · rw [List.mem_singleton.mp z] at hi
                rcases Int.lt_or_le h n with q | q
                · exact Or.inr ⟨by omega, hi.2⟩
                · exact Or.inl ⟨(lo, some h), List.mem_append_right _ List.mem_cons_self, hi.1, fun y hy => by cases hy; exact q⟩
            · rintro (⟨p, hp, hi⟩ | hi)
              · rcases List.mem_append.mp hp with z | z
                · exact ⟨p, List.mem_append_left _ z, hi⟩
                · rw [List.mem_singleton.mp z] at hi
                  refine ⟨(lo, x.2), List.mem_append_right _ List.mem_cons_self, hi.1, fun y hy => ?_⟩
                  have := hi.2 h rfl
                  have := h5x.2 y hy
                  omega
              · exact ⟨(lo, x.2), List.mem_append_right _ List.mem_cons_self, by have := hi.1; show lo ≤ n; omega, hi.2⟩
        · rw [if_neg hc]
          refine plain fun p hp => ?_
          rcases List.mem_append.mp hp with z | z
          · obtain ⟨h', a, b⟩ := gi p z
            exact ⟨h', a, by omega⟩
          · rw [List.mem_singleton.mp z]
            exact ⟨h, rfl, by omega⟩
    obtain ⟨s1, s2, s3, s4⟩ := step
    obtain ⟨t1, t2, t3⟩ := ih (joinStep acc x) s1 s2 s3 h4b (fun p hp => h5 p (List.mem_cons_of_mem _ hp))
    refine ⟨t1, t2, fun n => ?_⟩
    show (∃ p ∈ rest.foldl joinStep (joinStep acc x), InP p n) ↔ _
    rw [t3 n, s4 n]
    constructor
    · rintro ((z | z) | ⟨p, hp, hi⟩)
      · exact Or.inl z
      · exact Or.inr ⟨x, List.mem_cons_self, z⟩
      · exact Or.inr ⟨p, List.mem_cons_of_mem _ hp, hi⟩
    · rintro (z | ⟨p, hp, hi⟩)
      · exact Or.inl (Or.inl z)
      · rcases List.mem_cons.mp hp with q | q
        · rw [q] at hi; exact Or.inl (Or.inr hi)
        · exact Or.inr ⟨p, q, hi⟩
/-- ages: the stretches of a label -/
theorem ages_spec {rows : List RowD} (ok : RowsOk rows) (w : Str) (c : Option Int) : Gap (agesOf rows w c) ∧ (∀ p ∈ agesOf rows w c, InP p p.1) ∧ ∀ n, (∃ p ∈ agesOf rows w c, InP p n) ↔ 0 ≤ n ∧ labelOf rows n = (w, c) := by
  obtain ⟨F, hc⟩ := ok.fit
  obtain ⟨r1, r2, r3⟩ := raw_spec w c hc F
  obtain ⟨j1, j2, j3⟩ := join_spec _ [] .nil (fun p z => nomatch z) (fun p z => nomatch z) r1 (fun p hp => (r2 p hp).1)
  refine ⟨j1, j2, fun n => ?_⟩
  show (∃ p ∈ ((spansFrom 0 none rows).filterMap (stretchWith · w c)).foldl joinStep [], InP p n) ↔ _
  rw [j3 n, r3 n]
  exact ⟨fun z => z.elim (fun ⟨p, hp, _⟩ => nomatch hp) id, Or.inr⟩
theorem pw_cases {α : Type} {R : α → α → Prop} : ∀ {xs : List α}, xs.Pairwise R → ∀ {a b : α}, a ∈ xs → b ∈ xs → a = b ∨ R a b ∨ R b a
  | [], _, a, b, ha, _ => nomatch ha
  | x :: xs, h, a, b, ha, hb => by
    obtain ⟨h1, h2⟩ := List.pairwise_cons.mp h
    rcases List.mem_cons.mp ha with z | z
    · rcases List.mem_cons.mp hb with q | q
      · exact Or.inl (z.trans q.symm)
      · rw [z]; exact Or.inr (Or.inl (h1 b q))
    · rcases List.mem_cons.mp hb with q | q
      · rw [q]; exact Or.inr (Or.inr (h1 a z))
      · exact pw_cases h2 z q
/-- a stretch of a label begins and ends where the label does -/
theorem ages_ends {rows : List RowD} (ok : RowsOk rows) {w : Str} {c : Option Int} {p : Str2} (hp : p ∈ agesOf rows w c) : 0 ≤ p.1 ∧ (∀ n, InP p n → labelOf rows n = (w, c)) ∧ (0 < p.1 → EdgeF (labelOf rows) p.1) ∧ ∀ h, p.2 = some h → EdgeF (labelOf rows) (h + 1) := by
  obtain ⟨g, ne, un⟩ := ages_spec ok w c
  have h0 := (un p.1).mp ⟨p, hp, ne p hp⟩
  have inl : ∀ n, InP p n → labelOf rows n = (w, c) := fun n hn => ((un n).mp ⟨p, hp, hn⟩).2
  refine ⟨h0.1, inl, fun hpos => ⟨hpos, fun e => ?_⟩, fun h hh => ?_⟩
  · obtain ⟨q, hq, hi⟩ := (un (p.1 - 1)).mpr ⟨by omega, by rw [← e]; exact h0.2⟩
    rcases pw_cases g hp hq with z | ⟨h, z1, z2⟩ | ⟨h, z1, z2⟩
    · rw [← z] at hi; have := hi.1; omega
    · have := hi.1; have := (ne p hp).2 h z1; omega
    · have := hi.2 h z1; omega
  · have hph := (ne p hp).2 h hh
    refine ⟨by omega, fun e => ?_⟩
    have hl : labelOf rows h = (w, c) := inl h ⟨hph, fun x hx => by rw [hh] at hx; cases hx; exact Int.le_refl _⟩
    rw [show h + 1 - 1 = h by omega, hl] at e
    obtain ⟨q, hq, hi⟩ := (un (h + 1)).mpr ⟨by omega, e⟩
    rcases pw_cases g hp hq with z | ⟨x, z1, z2⟩ | ⟨x, z1, z2⟩
    · rw [← z] at hi; have := hi.2 h hh; omega
    · rw [hh] at z1; cases z1; have := hi.1; omega
    · have := hi.2 x z1; have := (ne p hp).1; omega
end Age

set_option Elab.async false
set_option linter.all false
set_option maxRecDepth 100000
set_option maxHeartbeats 4000000
namespace Age
open PySem PySem.Spec PyProof.Rows L2 Evl RT
/-! ### labels as the law itself counts them -/
theorem near_cnt {n u : Int} (hu : 0 < u) : (2 * n + u) / (2 * u) = (n + u / 2) / u := by
  rw [← Int.ediv_ediv_of_nonneg (show (0 : Int) ≤ 2 by decide)]
  congr 1
  omega
def spLcount : Sp := fun vs H Q _ => ∃ (u : Int) (w : Str) (n : Int), vs = [.int u, .str w, .int n] ∧ 0 < u ∧ Ag u ∧ Sm n ∧ RetV (.int (cnt n u w)) H Q
theorem spv_lcount {u n : Int} {w : Str} {H : Hp} (h : 0 < u) (h2 : Ag u) (h3 : Sm n) : SpV spLcount [.int u, .str w, .int n] H (.int (cnt n u w)) := fun H1 e Q q E => ⟨u, w, n, rfl, h, h2, h3, q⟩
/-- rows of the law's, such as they are -/
structure LRows (H : Hp) (l : Addr) (rows : List RowD) : Prop where
  ex : ∃ xs, H l = some (.lst xs) ∧ DRows H xs rows
theorem LRows.mono {H H' : Hp} {l : Addr} {rows : List RowD} (e : Ex H H') (h : LRows H l rows) : LRows H' l rows := by
  obtain ⟨xs, a, b⟩ := h.ex
  exact ⟨xs, e _ _ a, b.mono e⟩
/-- the row of an age, by its place -/
structure RowNo (rows : List RowD) (n : Int) (i : Nat) (r : RowD) : Prop where
  at_ : rows[i]? = some r
  hit : hit n r = true
  no : ∀ (j : Nat) r', j < i → rows[j]? = some r' → Age.hit n r' = false
theorem RowNo.label : ∀ {rows : List RowD} {n : Int} {i : Nat} {r : RowD}, RowNo rows n i r → labelOf rows n = (r.word, cntO r n)
  | [], _, _, _, h => by have := h.at_; simp at this
  | x :: rows, n, 0, r, h => by
    have e : x = r := by have := h.at_; simpa using this
    subst e
    rw [labelOf_cons, if_pos h.hit]
  | x :: rows, n, i + 1, r, h => by
    have h0 := h.no 0 x (Nat.succ_pos _) rfl
    rw [labelOf_cons, if_neg (by rw [h0]; decide)]
    exact RowNo.label (i := i) ⟨by simpa using h.at_, h.hit, fun j r' hj hr => h.no (j + 1) r' (Nat.succ_lt_succ hj) (by simpa using hr)⟩
def spLrow : Sp := fun vs H Q _ => ∃ (l : Addr) (rows : List RowD) (n : Int), vs = [.ref l, .int n] ∧ LRows H l rows ∧ UOk 0 rows ∧ rows.length ≤ 1000 ∧ ∀ i r H', Ex H H' → RowNo rows n i r → Q (.int (i : Nat)) H'
def spLlabel : Sp := fun vs H Q _ => ∃ (l : Addr) (rows : List RowD) (n : Int), vs = [.ref l, .int n] ∧ LRows H l rows ∧ RowsOk rows ∧ Sm n ∧ ∀ t H2, H t = none → Ex H H2 → H2 t = some (.tup [.str (labelOf rows n).1, oV (labelOf rows n).2]) → Q (.ref t) H2
section
variable {P : Program} {w : World} {K : PySem.W.Frag} {mg : Str → Option Value} {base : Heap} {cR cS cW : Addr}
theorem ok_lcount {f : Addr} {fd : FuncData} (F : Fn K "_law_count" "_law_count" s__law_count f fd) : FnOk P w K mg base CX0 1 f fd ["_law_unit", "_law_way_here", "_law_age"] spLcount := by
  refine F.ok sc__law_count (fun vs H Q E h => ?_) (fun cdv A outer s H vs Q E hr h => ?_)
  · obtain ⟨u, w, n, rfl, _⟩ := h; rfl
  · obtain ⟨u, w, n, rfl, hu, hs, hn, k⟩ := h
    refine ⟨_, PSs.nox (pss_cons (ps_if (pt_cmpR op_eq (pv 1) pe_str (nomark _)) (pss_one (ps_ret (pe_op op_fdivW (pv 2) (pv 0)))) pss_nil) (pss_one (ps_ret (pe_ifExp (pt_cmpR op_eq (pv 1) pe_str (nomark _)) (pe_op op_fdivW (pe_op op_sub (pe_op op_add (pv 2) (pv 0)) pe_int) (pv 0)) (pe_op op_fdivW (pe_op op_add (pe_op op_mulW pe_int (pv 2)) (pv 0)) (pe_op op_mulW pe_int (pv 0))))))), ?_⟩
    have hsm : Sm (2 * u) := by unfold Ag at hs; unfold Sm; omega
    refine q_when (et_test (ev_op (ev_var rfl) ev_c (rv_eq rfl))) (fun hb H1 e1 => ?_) (fun hb H1 e1 => ?_)
    · have e : cnt n u w = n / u := by unfold cnt shiftOf; rw [if_pos (V.str.inj (of_decide_eq_true hb)), Int.add_zero]
      rw [e] at k
      exact s_ret (ev_op (ev_var rfl) (ev_var rfl) (rv_I (hs.sm.div hu))) fun H2 e2 => k H2 (e1.trans e2)
    · have n1 : ¬ w = "down" := fun z => of_decide_eq_false hb (by rw [z])
      refine s_ret (ev_if (et_test (ev_op (ev_var rfl) ev_c (rv_eq rfl))) (fun hb2 => ?_) (fun hb2 => ?_)) fun H2 e2 => k H2 (e1.trans e2)
      · have e : cnt n u w = (n + u - 1) / u := by unfold cnt shiftOf; rw [if_neg n1, if_pos (V.str.inj (of_decide_eq_true hb2))]; congr 1; omega
        rw [e]
        exact ev_op (ev_op (ev_op (ev_var rfl) (ev_var rfl) rv_I0) ev_c rv_I0) (ev_var rfl) (rv_I (hs.sm.div hu))
      · have n2 : ¬ w = "up" := fun z => of_decide_eq_false hb2 (by rw [z])
        have e : cnt n u w = (2 * n + u) / (2 * u) := by unfold cnt shiftOf; rw [if_neg n1, if_neg n2, near_cnt hu]
        rw [e]
        exact ev_op (ev_op (ev_op ev_c (ev_var rfl) (rv_I (Sm.mul (by unfold Sm; omega) hn))) (ev_var rfl) rv_I0) (ev_op ev_c (ev_var rfl) (rv_I (Sm.mul (by unfold Sm; omega) hs.sm))) (rv_I (hsm.div (by omega)))
theorem ok_lrow {f : Addr} {fd : FuncData} (F : Fn K "_law_row_of" "_law_row_of" s__law_row_of f fd) (B : Bn mg) : FnOk P w K mg base CX0 1 f fd ["_law_rows_here", "_law_age"] spLrow := by
  refine F.ok sc__law_row_of (fun vs H Q E h => ?_) (fun cdv A outer s H vs Q E hr h => ?_)
  · obtain ⟨l, rows, n, rfl, _⟩ := h; rfl
  · obtain ⟨l, rows, n, rfl, hL, hu, hn, k⟩ := h
    refine ⟨_, PSs.nox (pss_cons (ps_for PassesOwn.never rfl (pi_range1 rfl B.range (pa_cons (pe_callB call_len_seq (by rfl) B.len (by decide +kernel) (pa_cons (pv 0) pa_nil)) pa_nil)) (pg_name (i := 2) sc__law_row_of.nd rfl (Or.inl rfl)) (pss_one (ps_if (PW.pt (pw_or (pt_cmp (pc_isN (pe_ix ix_tup (pe_ix ix_list (pv 0) (pv 2) (fun _ _ => rfl)) pe_int (fun _ _ => rfl)))) (pw_or1 (pt_cmpR op_lt (pv 1) (pe_ix ix_tup (pe_ix ix_list (pv 0) (pv 2) (fun _ _ => rfl)) pe_int (fun _ _ => rfl)) (nomark _))))) (pss_one (ps_ret (pv 2))) pss_nil))) (pss_one (ps_ret pe_non))), ?_⟩
    obtain ⟨xs, hl, hD⟩ := hL.ex
    have hxl := hD.len
    refine q_forR1 (n := (xs.length : Int)) (ea_cons (ev_len (ev_var rfl) (sq_of hl)) ea_nil) (by omega) (fun i σ H' => (∃ v2, σ = [some (.ref l), some (.int n), v2]) ∧ Ex H H' ∧ ∀ (j : Nat) r', j < i → rows[j]? = some r' → hit n r' = false)
      (fun H1 e1 => ⟨⟨none, rfl⟩, e1, fun j r' hj => absurd hj (Nat.not_lt_zero _)⟩) ?_ ?_
    · rintro i σ' H' hi ⟨⟨v2, rfl⟩, e, hno⟩
      have hilt : i < rows.length := by omega
      have hri : rows[i]? = some rows[i] := List.getElem?_eq_getElem hilt
      generalize rows[i] = r at hri
      obtain ⟨y, hy, t, rfl, ht⟩ := (hD.mono e).get' hri
      show tIfS _ _ _ _ [some (.ref l), some (.int n), some (.int (i : Int))] H'
      have htil : ∀ HH, Ex H' HH → Ev (tOp (rIxT K) (tOp (rIxL K) (tVar 0) (tVar 2)) (tC (.int 0))) [some (.ref l), some (.int n), some (.int (i : Int))] HH (oV r.til) := fun HH eH =>
        ev_op (ev_op (ev_var rfl) (ev_var rfl) (rv_ixL (v := .ref t) (sq_of ((e.trans eH) _ _ hl)) (atI_nat hy))) ev_c (rv_ixT (v := oV r.til) (st_of (eH _ _ ht)) rfl)
      have hret : hit n r = true → ∀ HH, Ex H' HH → tRet (tVar 2) { nx := fun σ H' => (∃ v2, σ = [some (.ref l), some (.int n), v2]) ∧ Ex H H' ∧ ∀ (j : Nat) r', j < i + 1 → rows[j]? = some r' → hit n r' = false, rt := Q } [some (.ref l), some (.int n), some (.int (i : Int))] HH := fun hh HH eH =>
        s_ret (ev_var rfl) fun H2 e2 => k i r H2 ((e.trans eH).trans e2) ⟨hri, hh, hno⟩
      have hgo : hit n r = false → ∀ (j : Nat) r', j < i + 1 → rows[j]? = some r' → hit n r' = false := fun hh j r' hj hr' => by
        rcases Nat.lt_or_ge j i with z | z
        · exact hno j r' z hr'
        · have : j = i := by omega
          subst this
          rw [hri] at hr'
          cases hr'
          exact hh
      cases hti : r.til with
      | none =>
        have h0 := htil H' (Ex.refl _)
        rw [hti] at h0
        refine s_when (et_orT (et_B (ev_isN (x := .non) h0))) (fun _ HH eH => hret (by unfold hit; rw [hti]) HH eH) (fun hb => Bool.noConfusion hb)
      | some tv =>
        have h0 : ∀ HH, Ex H' HH → Ev _ _ HH (.int tv) := fun HH eH => by
          have := htil HH eH
          rw [hti] at this
          exact this
        have hhit : hit n r = decide (n < tv) := by unfold hit; rw [hti]
        refine s_when (et_or (et_B (ev_isN (x := .int tv) (h0 H' (Ex.refl _)))) (fun _ => et_test (ev_op (ev_var rfl) (h0 H' (Ex.refl _)) rv_I0))) (fun hb HH eH => ?_) (fun hb HH eH => ?_)
        · have hb' : decide (n < tv) = true := hb
          exact hret (by rw [hhit]; exact hb') HH eH
        · have hb' : decide (n < tv) = false := hb
          exact ⟨⟨_, rfl⟩, e.trans eH, hgo (by rw [hhit]; exact hb')⟩
    · rintro σ' H' ⟨⟨v2, rfl⟩, e, hno⟩
      exfalso
      obtain ⟨r, hf⟩ := hu.find (n := n)
      have hm := List.mem_of_find?_eq_some hf
      have hh := List.find?_some hf
      obtain ⟨j, hj⟩ := List.mem_iff_getElem?.mp hm
      have hjl := (List.getElem?_eq_some_iff.mp hj).1
      have := hno j r (by omega) hj
      rw [hh] at this
      cases this
theorem ok_llabel {f : Addr} {fd : FuncData} (F : Fn K "_law_label" "_law_label" s__law_label f fd) (c1 : Cal P w K mg base CX0 1 "_law_row_of" ["_law_rows_here", "_law_age"] spLrow) (c2 : Cal P w K mg base CX0 1 "_law_count" ["_law_unit", "_law_way_here", "_law_age"] spLcount) : FnOk P w K mg base CX0 2 f fd ["_law_rows_here", "_law_age"] spLlabel := by
  obtain ⟨f1, fd1, G__law_row_of, m__law_row_of, k__law_row_of, b__law_row_of⟩ := c1.ex
  obtain ⟨f2, fd2, G__law_count, m__law_count, k__law_count, b__law_count⟩ := c2.ex
  refine F.ok sc__law_label (fun vs H Q E h => ?_) (fun cdv A outer s H vs Q E hr h => ?_)
  · obtain ⟨l, rows, n, rfl, _⟩ := h; rfl
  · obtain ⟨l, rows, n, rfl, hL, ok, hsn, k⟩ := h
    refine ⟨_, PSs.nox (pss_cons (ps_asg (pe_ix ix_list (pv 0) (pe_call G__law_row_of (hr.mono (by decide)) rfl m__law_row_of k__law_row_of b__law_row_of .nil pass0 (pa_cons (pv 0) (pa_cons (pv 1) pa_nil))) (fun _ _ => rfl)) (pg_tup rfl (pgs_cons (pg_name (i := 2) sc__law_label.nd rfl (Or.inl rfl)) (pgs_cons (pg_name (i := 3) sc__law_label.nd rfl (Or.inl rfl)) (pgs_cons (pg_name (i := 4) sc__law_label.nd rfl (Or.inl rfl)) (pgs_cons (pg_name (i := 5) sc__law_label.nd rfl (Or.inl rfl)) pgs_nil)))))) (pss_one (ps_ret (pe_tup (pa_cons (pv 5) (pa_cons (pe_ifExp (pt_cmp (pc_isN (pv 3))) pe_non (pe_call G__law_count (hr.mono (by decide)) rfl m__law_count k__law_count b__law_count .nil pass0 (pa_cons (pv 3) (pa_cons (pv 4) (pa_cons (pv 1) pa_nil))))) pa_nil)))))), ?_⟩
    obtain ⟨xs, hl, hD⟩ := hL.ex
    refine ⟨_, rfl, _, rfl, _, rfl, l, rows, n, rfl, hL, ok.u, ok.n, fun i r H1 e1 hN => ?_⟩
    obtain ⟨y, hy, t, rfl, ht⟩ := (hD.mono e1).get' hN.at_
    refine ⟨l, xs, (i : Int), _, rfl, rfl, sq_of (e1 _ _ hl), atI_nat hy, t, _, rfl, st_of ht, rfl, _, _, rfl, _, _, rfl, _, _, rfl, _, _, rfl, rfl, ?_⟩
    dsimp only
    show tRet _ _ [some (.ref l), some (.int n), some (oV r.til), some (oV r.unit), some (.str r.way), some (.str r.word)] H1
    have hlab := hN.label
    rw [hlab] at k
    have hc : Ev (tIf (tB (tIsN (tVar 3))) (tC .non) (tCall spLcount [] E0 (tCons (tVar 3) (tCons (tVar 4) (tCons (tVar 1) tNil))))) [some (.ref l), some (.int n), some (oV r.til), some (oV r.unit), some (.str r.way), some (.str r.word)] H1 (oV (cntO r n)) := by
      cases hu : r.unit with
      | none =>
        rw [cntO_none hu]
        exact ev_if (et_B (ev_isN (x := .non) (ev_var rfl))) (fun _ => ev_c) (fun z => Bool.noConfusion z)
      | some u =>
        rw [cntO_some hu]
        have ⟨u0, u1⟩ := (ok.r r (List.mem_of_getElem? hN.at_)).1.un u hu
        exact ev_if (et_B (ev_isN (x := .int u) (ev_var rfl))) (fun z => Bool.noConfusion z) (fun _ => ev_call (ea_cons (ev_var rfl) (ea_cons (ev_var rfl) (ea_cons (ev_var rfl) ea_nil))) (spv_lcount u0 u1 hsn))
    exact s_retU (eu_tup (ea_cons (ev_var rfl) (ea_cons hc ea_nil)) (by show 2 ≤ 100000; decide)) fun t2 H2 ht2 e2 h2 => k t2 H2 (fresh_back e1 ht2) (e1.trans e2) h2
end
end Age

set_option Elab.async false
set_option linter.all false
set_option maxHeartbeats 2000000
namespace Age
open PySem
/-! ### the next edge and the last one, told by what they are -/
structure NextE (lab : Int → Lab) (n b : Int) : Prop where
  gt : n < b
  ed : EdgeF lab b
  no : ∀ x, n < x → x < b → ¬ EdgeF lab x
def NextO (lab : Int → Lab) (n : Int) : Option Int → Prop
  | none => ∀ x, n < x → ¬ EdgeF lab x
  | some b => NextE lab n b
structure LastE (lab : Int → Lab) (n b : Int) : Prop where
  lo : 0 ≤ b
  le : b ≤ n
  ed : 0 < b → EdgeF lab b
  no : ∀ x, b < x → x ≤ n → ¬ EdgeF lab x
section
variable {lab : Int → Lab} {n : Int}
theorem NextO.uniq {a b : Option Int} (ha : NextO lab n a) (hb : NextO lab n b) : a = b := by
  cases a with
  | none =>
    cases b with
    | none => rfl
    | some y => exact absurd (NextE.ed hb) (ha y (NextE.gt hb))
  | some x =>
    cases b with
    | none => exact absurd (NextE.ed ha) (hb x (NextE.gt ha))
    | some y =>
      have h1 : NextE lab n x := ha
      have h2 : NextE lab n y := hb
      rcases Int.lt_trichotomy x y with z | z | z
      · exact absurd h1.ed (h2.no x h1.gt z)
      · rw [z]
      · exact absurd h2.ed (h1.no y h2.gt z)
theorem LastE.uniq {a b : Int} (ha : LastE lab n a) (hb : LastE lab n b) : a = b := by
  rcases Int.lt_trichotomy a b with z | z | z
  · exact absurd (hb.ed (by have := ha.lo; omega)) (ha.no b z hb.le)
  · exact z
  · exact absurd (ha.ed (by have := hb.lo; omega)) (hb.no a z ha.le)
theorem flat {x y : Int} (hx : 0 ≤ x) (h : ∀ b, x < b → b ≤ y → ¬ EdgeF lab b) (hxy : x ≤ y) : lab y = lab x := by
  have := lab_flat (lab := lab) hx (y - x).toNat (fun b b1 b2 => h b b1 (by omega))
  rw [show x + ((y - x).toNat : Int) = y by omega] at this
  exact this
theorem flat_no {x y : Int} (h : ∀ z, x ≤ z → z ≤ y → lab z = lab x) : ∀ b, x < b → b ≤ y → ¬ EdgeF lab b := fun b h1 h2 e => e.2 (by rw [h b (by omega) h2, h (b - 1) (by omega) (by omega)])
end
theorem later_next {rows : List RowD} (ok : RowsOk rows) {n : Int} (hn : 0 ≤ n) : NextO (labelOf rows) n (laterEdge (spansFrom 0 none rows) n) := by
  obtain ⟨F, hc⟩ := ok.fit
  have := later_spec n hc F
  cases hq : laterEdge (spansFrom 0 none rows) n with
  | none =>
    rw [hq] at this
    exact fun x hx => this x hx (by omega)
  | some b =>
    rw [hq] at this
    exact ⟨this.1, this.2.2.1, fun x h1 h2 => this.2.2.2 x h1 h2 (by omega)⟩
/-! ### the last edge of a span -/
section
variable {lab : Int → Lab} {s : SpanD}
theorem cnt_fst {c u m : Int} {w : Str} (hu : 0 < u) (hm : cnt m u w = c) : cnt (fst c u w) u w = c ∧ fst c u w ≤ m ∧ cnt (fst c u w - 1) u w < c := by
  have h1 : fst c u w ≤ m := (cnt_ge hu).mp (by omega)
  have h2 : c ≤ cnt (fst c u w) u w := (cnt_ge hu).mpr (Int.le_refl _)
  have h3 := cnt_mono (w := w) hu h1
  refine ⟨by omega, h1, ?_⟩
  rcases Int.lt_or_le (cnt (fst c u w - 1) u w) c with z | z
  · exact z
  · have := (cnt_ge hu).mp z
    omega
theorem lastUntil_spec (F : Fit1 lab s) {n : Int} (hn : s.low ≤ n) : match lastUntil s n with
    | none => ∀ x, Seg s x → x ≤ n → ¬ EdgeF lab x
    | some e => Seg s e ∧ e ≤ n ∧ EdgeF lab e ∧ ∀ x, e < x → x ≤ n → Seg s x → ¬ EdgeF lab x := by
  have hlow : (∀ x, Seg s x → x ≤ n → s.low < x → ¬ EdgeF lab x) → match (if s.fresh = true then some s.low else none : Option Int) with
    | none => ∀ x, Seg s x → x ≤ n → ¬ EdgeF lab x
    | some e => Seg s e ∧ e ≤ n ∧ EdgeF lab e ∧ ∀ x, e < x → x ≤ n → Seg s x → ¬ EdgeF lab x := by
    intro h
    by_cases hf : s.fresh = true
    · rw [if_pos hf]
      exact ⟨F.ne, hn, F.fr.mp hf, fun x h1 h2 h3 => h x h3 h2 h1⟩
    · rw [if_neg hf]
      intro x h1 h2 h3
      by_cases hx : x = s.low
      · rw [hx] at h3
        exact hf (F.fr.mpr h3)
      · exact h x h1 h2 (by have := h1.1; omega) h3
  cases hu : s.row.unit with
  | none =>
    have e : lastUntil s n = if s.fresh = true then some s.low else none := by unfold lastUntil; rw [hu]
    rw [e]
    exact hlow fun x h1 _ h3 => edge_none F hu h1 h3
  | some u =>
    have u0 := F.un u hu
    have e : lastUntil s n = if fst (cnt (limO s n) u s.row.way) u s.row.way > s.low then some (fst (cnt (limO s n) u s.row.way) u s.row.way) else if s.fresh = true then some s.low else none := by unfold lastUntil; rw [hu]
    rw [e]
    have hm : Seg s (limO s n) ∧ limO s n ≤ n ∧ ∀ x, Seg s x → x ≤ n → x ≤ limO s n := by
      unfold limO
      split
      · rename_i hh
        exact ⟨⟨hn, fun h z => by rw [hh] at z; cases z⟩, Int.le_refl _, fun x _ h => h⟩
      · rename_i h hh
        have hne := F.ne.2 h hh
        split
        · exact ⟨⟨hne, fun h2 z => by rw [hh] at z; cases z; omega⟩, by omega, fun x hx _ => hx.2 h hh⟩
        · exact ⟨⟨hn, fun h2 z => by rw [hh] at z; cases z; omega⟩, Int.le_refl _, fun x _ h => h⟩
    generalize limO s n = m at hm
    obtain ⟨hms, hmn, hmx⟩ := hm
    obtain ⟨c1, c2, c3⟩ := cnt_fst (m := m) (w := s.row.way) u0 rfl
    have flatm : ∀ x, fst (cnt m u s.row.way) u s.row.way < x → Seg s x → x ≤ n → s.low < x → ¬ EdgeF lab x := fun x h1 h2 h3 h4 => by
      rw [edge_some F hu h2 h4]
      have a1 := cnt_mono (w := s.row.way) u0 (hmx x h2 h3)
      have a2 := cnt_mono (w := s.row.way) u0 (show fst (cnt m u s.row.way) u s.row.way ≤ x - 1 by omega)
      omega
    by_cases hl : fst (cnt m u s.row.way) u s.row.way > s.low
    · rw [if_pos hl]
      have hseg : Seg s (fst (cnt m u s.row.way) u s.row.way) := ⟨by omega, fun h z => by have := hms.2 h z; omega⟩
      refine ⟨hseg, by omega, ?_, fun x h1 h2 h3 => flatm x h1 h3 h2 (by omega)⟩
      rw [edge_some F hu hseg hl]
      have := cnt_succ (w := s.row.way) (n := fst (cnt m u s.row.way) u s.row.way - 1) u0
      rw [show fst (cnt m u s.row.way) u s.row.way - 1 + 1 = fst (cnt m u s.row.way) u s.row.way by omega] at this
      omega
    · rw [if_neg hl]
      exact hlow fun x h1 h2 h3 => flatm x (by omega) h1 h2 h3
theorem last_list {n : Int} : ∀ {ss : List SpanD} {b0 : Int}, Chain b0 ss → Fit lab ss → match ss.reverse.findSome? (lastIn n) with
    | none => ∀ x, b0 ≤ x → x ≤ n → ¬ EdgeF lab x
    | some e => b0 ≤ e ∧ e ≤ n ∧ EdgeF lab e ∧ ∀ x, e < x → x ≤ n → ¬ EdgeF lab x
  | _, b0, .last (s := s) hb hh, F => by
    have F1 := F s List.mem_cons_self
    show match [s].findSome? (lastIn n) with
      | none => ∀ x, b0 ≤ x → x ≤ n → ¬ EdgeF lab x
      | some e => b0 ≤ e ∧ e ≤ n ∧ EdgeF lab e ∧ ∀ x, e < x → x ≤ n → ¬ EdgeF lab x
    have seg : ∀ x, b0 ≤ x → Seg s x := fun x hx => ⟨by omega, fun h z => by rw [hh] at z; cases z⟩
    by_cases hl : s.low ≤ n
    · have sp := lastUntil_spec F1 hl
      have e : lastIn n s = lastUntil s n := if_pos hl
      rw [List.findSome?_cons, e]
      cases hq : lastUntil s n with
      | none =>
        rw [hq] at sp
        exact fun x h1 h2 => sp x (seg x h1) h2
      | some v =>
        rw [hq] at sp
        exact ⟨by have := sp.1.1; omega, sp.2.1, sp.2.2.1, fun x h1 h2 => sp.2.2.2 x h1 h2 (seg x (by have := sp.1.1; omega))⟩
    · have e : lastIn n s = none := if_neg hl
      rw [List.findSome?_cons, e]
      exact fun x h1 h2 => absurd h2 (by omega)
  | _, b0, .more (s := s) (ss := ss) (h := h) hb hh hbh hc, F => by
    have F1 := F s List.mem_cons_self
    have ih := last_list (n := n) hc (fun s hs => F s (List.mem_cons_of_mem _ hs))
    rw [List.reverse_cons, List.findSome?_append]
    cases hq : ss.reverse.findSome? (lastIn n) with
    | some v =>
      rw [hq] at ih
      exact ⟨by omega, ih.2⟩
    | none =>
      rw [hq] at ih
      show match [s].findSome? (lastIn n) with
        | none => ∀ x, b0 ≤ x → x ≤ n → ¬ EdgeF lab x
        | some e => b0 ≤ e ∧ e ≤ n ∧ EdgeF lab e ∧ ∀ x, e < x → x ≤ n → ¬ EdgeF lab x
      have seg : ∀ x, b0 ≤ x → x ≤ h → Seg s x := fun x h1 h2 => ⟨by omega, fun h' z => by rw [hh] at z; cases z; exact h2⟩
      by_cases hl : s.low ≤ n
      · have sp := lastUntil_spec F1 hl
        have e : lastIn n s = lastUntil s n := if_pos hl
        rw [List.findSome?_cons, e]
        cases hq2 : lastUntil s n with
        | none =>
          rw [hq2] at sp
          intro x h1 h2
          by_cases hx : x ≤ h
          · exact sp x (seg x h1 hx) h2
          · exact ih x (by omega) h2
        | some v =>
          rw [hq2] at sp
          refine ⟨by have := sp.1.1; omega, sp.2.1, sp.2.2.1, fun x h1 h2 => ?_⟩
          by_cases hx : x ≤ h
          · exact sp.2.2.2 x h1 h2 (seg x (by have := sp.1.1; omega) hx)
          · exact ih x (by omega) h2
      · have e : lastIn n s = none := if_neg hl
        rw [List.findSome?_cons, e]
        exact fun x h1 h2 => absurd h2 (by omega)
end
theorem last_spec {rows : List RowD} (ok : RowsOk rows) {n : Int} (hn : 0 ≤ n) : LastE (labelOf rows) n (lastEdge (spansFrom 0 none rows) n) := by
  obtain ⟨F, hc⟩ := ok.fit
  have := last_list (n := n) hc F
  unfold lastEdge
  cases hq : (spansFrom 0 none rows).reverse.findSome? (lastIn n) with
  | none =>
    rw [hq] at this
    exact ⟨Int.le_refl _, hn, fun z => absurd z (by decide), fun x h1 h2 => this x (by have : (0 : Int) < x := h1; omega) h2⟩
  | some b =>
    rw [hq] at this
    exact ⟨this.1, this.2.1, fun _ => this.2.2.1, this.2.2.2⟩
/-! ### within a row -/
theorem hit_mono {r : RowD} {c x : Int} (h : hit x r = true) (hc : c ≤ x) : hit c r = true := by
  unfold hit at h ⊢
  cases ht : r.til with
  | none => rfl
  | some t =>
    rw [ht] at h
    have : x < t := of_decide_eq_true h
    exact decide_eq_true (by omega)
def Past (rows : List RowD) (k : Nat) (c : Int) : Prop := ∀ (j : Nat) r', j < k → rows[j]? = some r' → hit c r' = false
theorem Past.le {rows : List RowD} {k : Nat} {c x : Int} (h : Past rows k c) (hx : c ≤ x) : Past rows k x := fun j r' hj hr => by
  have := h j r' hj hr
  cases hq : hit x r' with
  | false => rfl
  | true => rw [hit_mono hq hx] at this; cases this
theorem lab_row {rows : List RowD} {k : Nat} {c x : Int} {r : RowD} (h : Past rows k c) (hr : rows[k]? = some r) (hx : c ≤ x) (hh : hit x r = true) : labelOf rows x = (r.word, cntO r x) := RowNo.label (i := k) ⟨hr, hh, h.le hx⟩
section
variable {rows : List RowD} {k : Nat} {c : Int} {r : RowD}
/-- labels of a row, once they are gone, stay away -/
theorem row_mono (ok : RowsOk rows) (h : Past rows k c) (hr : rows[k]? = some r) {x y z : Int} (h1 : c ≤ x) (h2 : x ≤ y) (h3 : y ≤ z) (hz : hit z r = true) (e : labelOf rows z = labelOf rows x) : labelOf rows y = labelOf rows x := by
  rw [lab_row h hr (by omega) hz, lab_row h hr h1 (hit_mono hz (by omega))] at e
  rw [lab_row h hr (by omega) (hit_mono hz h3), lab_row h hr h1 (hit_mono hz (by omega))]
  have e2 : cntO r z = cntO r x := congrArg Prod.snd e
  cases hu : r.unit with
  | none => rw [cntO_none hu, cntO_none hu]
  | some u =>
    have u0 := ((ok.r r (List.mem_of_getElem? hr)).1.un u hu).1
    rw [cntO_some hu, cntO_some hu] at e2 ⊢
    have a := cnt_mono (w := r.way) u0 h2
    have b := cnt_mono (w := r.way) u0 h3
    have d := Option.some.inj e2
    rw [show cnt y u r.way = cnt x u r.way by omega]
theorem row_unit (ok : RowsOk rows) (h : Past rows k c) (hr : rows[k]? = some r) {x u : Int} (hu : r.unit = some u) (h1 : c ≤ x) (hz : hit (x + u) r = true) : labelOf rows (x + u) ≠ labelOf rows x := by
  have u0 := ((ok.r r (List.mem_of_getElem? hr)).1.un u hu).1
  rw [lab_row h hr (by omega) hz, lab_row h hr h1 (hit_mono hz (by omega))]
  intro e
  have e2 : cntO r (x + u) = cntO r x := congrArg Prod.snd e
  rw [cntO_some hu, cntO_some hu] at e2
  have d := Option.some.inj e2
  unfold cnt at d
  rw [show x + u + shiftOf u r.way = (x + shiftOf u r.way) + 1 * u by omega, Int.add_mul_ediv_right _ _ (by omega)] at d
  omega
theorem row_none (h : Past rows k c) (hr : rows[k]? = some r) (hu : r.unit = none) {x : Int} (h1 : c ≤ x) (hz : hit x r = true) : labelOf rows x = labelOf rows c := by
  rw [lab_row h hr h1 hz, lab_row h hr (Int.le_refl _) (hit_mono hz h1), cntO_none hu, cntO_none hu]
end
structure FirstO (lab : Int → Lab) (lo res : Int) : Prop where
  gt : lo < res
  ne : lab res ≠ lab lo
  eq : ∀ x, lo ≤ x → x < res → lab x = lab lo
theorem FirstO.next {lab : Int → Lab} {lo res : Int} (h : FirstO lab lo res) (h0 : 0 ≤ lo) : NextE lab lo res :=
  ⟨h.gt, ⟨by have := h.gt; omega, fun e => h.ne (by rw [e]; exact h.eq _ (by have := h.gt; omega) (by omega))⟩, fun x h1 h2 e => e.2 (by rw [h.eq x (by omega) h2, h.eq (x - 1) (by omega) (by omega)])⟩
structure LastW (lab : Int → Lab) (age res : Int) : Prop where
  le : res ≤ age
  ne : lab (res - 1) ≠ lab age
  eq : ∀ x, res ≤ x → x ≤ age → lab x = lab age
theorem LastW.last {lab : Int → Lab} {age res : Int} (h : LastW lab age res) (h0 : 0 < res) : LastE lab age res :=
  ⟨by omega, h.le, fun _ => ⟨h0, fun e => h.ne (by rw [← e]; exact h.eq res (Int.le_refl _) h.le)⟩, fun x h1 h2 e => e.2 (by rw [h.eq x (by omega) h2, h.eq (x - 1) (by omega) (by omega)])⟩
end Age

set_option Elab.async false
set_option linter.all false
set_option maxRecDepth 100000
set_option maxHeartbeats 4000000
namespace Age
open PySem PySem.Spec PyProof.Rows L2 Evl RT
theorem label_row {rows : List RowD} (ok : RowsOk rows) (n : Int) : ∃ r ∈ rows, labelOf rows n = (r.word, cntO r n) := by
  obtain ⟨r, hf⟩ := ok.u.find (n := n)
  refine ⟨r, List.mem_of_find?_eq_some hf, ?_⟩
  unfold labelOf
  rw [hf]
theorem label_str {rows : List RowD} (ok : RowsOk rows) (n : Int) : PyData.strOk (labelOf rows n).1 = true := by
  obtain ⟨r, hr, e⟩ := label_row ok n
  rw [e]
  exact (ok.r r hr).1.wd
def Wd (i : Int) : Prop := 0 ≤ i ∧ i < 1393796574908163946345982392040522594123776
theorem Wd.sm {i : Int} (h : Wd i) : Sm i := by unfold Wd at h; unfold Sm; omega
section
variable {K : PySem.W.Frag} {σ : L2.St} {H : Hp} {l t : Addr} {rows : List RowD} {te tf : TE} {x y : Int} {j : Nat} {L : Lab}
theorem em_call {sp : Sp} {dvs vs : List V} {E : XK} {ta : TA} {Q : VK} (h : EvA ta σ H vs) (hs : ∀ H1, Ex H H1 → sp (vs ++ dvs) H1 Q E) : tCall sp dvs E ta σ H Q := h H (Ex.refl H) _ fun H1 e => hs H1 e
theorem EvA.mono' {ta : TA} {vs : List V} {H' : Hp} (e : Ex H H') (h : EvA ta σ H vs) : EvA ta σ H' vs := fun H1 e1 Q q => h H1 (e.trans e1) Q q
theorem et_labEq (hl : LRows H l rows) (ok : RowsOk rows) (h0 : σ[0]? = some (some (.ref l))) (hx : Sm x) (he : Ev te σ H (.int x)) (hj : σ[j]? = some (some (.ref t))) (ht : H t = some (.tup [.str L.1, oV L.2])) (hL : PyData.strOk L.1 = true) :
    EvT (tTest (tOp (rEqD K) (tCall spLlabel [] E0 (tCons (tVar 0) (tCons te tNil))) (tVar j))) σ H (decide (labelOf rows x = L)) := fun H1 e Q q =>
  em_call (EvA.mono' e (ea_cons (ev_var h0) (ea_cons he ea_nil))) fun H2 e2 => ⟨l, rows, x, rfl, hl.mono (e.trans e2), ok, hx, fun t2 H3 ht2 e3 h3 => ⟨_, hj, by
    have hq := rv_eqD (K := K) (H := H3) (dp_lab h3) (dp_lab ((e.trans (e2.trans e3)) _ _ ht)) (shaped_dL _ (label_str ok x)) (shaped_dL _ hL)
    rw [eqv_dL] at hq
    exact hq H3 (Ex.refl _) _ fun H4 e4 => ⟨_, rfl, q H4 ((e2.trans e3).trans e4)⟩⟩⟩
theorem et_labNe (hl : LRows H l rows) (ok : RowsOk rows) (h0 : σ[0]? = some (some (.ref l))) (hx : Sm x) (hy : Sm y) (he : Ev te σ H (.int x)) (hf : Ev tf σ H (.int y)) :
    EvT (tTest (tOp (rNeD K) (tCall spLlabel [] E0 (tCons (tVar 0) (tCons te tNil))) (tCall spLlabel [] E0 (tCons (tVar 0) (tCons tf tNil))))) σ H (!decide (labelOf rows x = labelOf rows y)) := fun H1 e Q q =>
  em_call (EvA.mono' e (ea_cons (ev_var h0) (ea_cons he ea_nil))) fun H2 e2 => ⟨l, rows, x, rfl, hl.mono (e.trans e2), ok, hx, fun t2 H3 ht2 e3 h3 =>
    em_call (EvA.mono' (e.trans (e2.trans e3)) (ea_cons (ev_var h0) (ea_cons hf ea_nil))) fun H4 e4 => ⟨l, rows, y, rfl, hl.mono ((e.trans (e2.trans e3)).trans e4), ok, hy, fun t3 H5 ht3 e5 h5 => by
      have hq := rv_neD (K := K) (H := H5) (dp_lab ((e4.trans e5) _ _ h3)) (dp_lab h5) (shaped_dL _ (label_str ok x)) (shaped_dL _ (label_str ok y))
      rw [eqv_dL] at hq
      exact hq H5 (Ex.refl _) _ fun H6 e6 => ⟨_, rfl, q H6 ((((e2.trans e3).trans e4).trans e5).trans e6)⟩⟩⟩
end
def p140 : Int := 1393796574908163946345982392040522594123776
theorem half_step {a b : Int} {i : Nat} (h : b * 2 ≤ a) (ha : a * 2 ^ i ≤ p140) : b * 2 ^ (i + 1) ≤ p140 := by
  have h1 : (0 : Int) ≤ 2 ^ i := Int.le_of_lt (Int.pow_pos (by decide))
  have h2 := Int.mul_le_mul_of_nonneg_right h h1
  rw [Int.pow_succ, Int.mul_comm (2 ^ i) 2, ← Int.mul_assoc]
  omega
theorem half_end {a : Int} (h0 : 0 ≤ a) (h : a * 2 ^ 200 ≤ p140) : a = 0 := by
  have e : (2 : Int) ^ 200 = 1606938044258990275541962092341162602522202993782792835301376 := by decide +kernel
  rw [e] at h
  unfold p140 at h
  omega
def spFirstO : Sp := fun vs H Q _ => ∃ (l : Addr) (rows : List RowD) (lo hi : Int), vs = [.ref l, .int lo, .int hi] ∧ LRows H l rows ∧ RowsOk rows ∧ 0 ≤ lo ∧ lo < hi ∧ Wd hi ∧ labelOf rows hi ≠ labelOf rows lo ∧ (∀ x y, lo ≤ y → y ≤ x → x ≤ hi → labelOf rows x = labelOf rows lo → labelOf rows y = labelOf rows lo) ∧
  ∀ res H', Ex H H' → FirstO (labelOf rows) lo res → Q (.int res) H'
def spLastW : Sp := fun vs H Q _ => ∃ (l : Addr) (rows : List RowD) (lo age : Int), vs = [.ref l, .int lo, .int age] ∧ LRows H l rows ∧ RowsOk rows ∧ 0 ≤ lo ∧ lo < age ∧ Wd age ∧ labelOf rows lo ≠ labelOf rows age ∧ (∀ x y, lo ≤ x → x ≤ y → y ≤ age → labelOf rows x = labelOf rows age → labelOf rows y = labelOf rows age) ∧
  ∀ res H', Ex H H' → lo < res → LastW (labelOf rows) age res → Q (.int res) H'
section
variable {P : Program} {w : World} {K : PySem.W.Frag} {mg : Str → Option Value} {base : Heap} {cR cS cW : Addr}
end
end Age

set_option Elab.async false
set_option linter.all false
set_option maxRecDepth 100000
set_option maxHeartbeats 4000000
namespace Age
open PySem PySem.Spec PyProof.Rows L2 Evl RT
theorem uok_til : ∀ {rows : List RowD} {b : Int}, UOk b rows → ∀ {j : Nat} {r : RowD}, rows[j]? = some r → j + 1 < rows.length → ∃ t, r.til = some t ∧ b < t
  | _, b, .last h, j, r, hj, hl => by simp at hl
  | _, b, .more (t := t) h hb hu, 0, r, hj, hl => by
    have e := Option.some.inj hj
    rw [← e]
    exact ⟨t, h, hb⟩
  | _, b, .more (t := t) h hb hu, j + 1, r, hj, hl => by
    obtain ⟨t2, a, c⟩ := uok_til hu (j := j) (r := r) (by simpa using hj) (by simpa using hl)
    exact ⟨t2, a, by omega⟩
theorem uok_last : ∀ {rows : List RowD} {b : Int}, UOk b rows → ∀ {k : Nat} {r : RowD}, rows[k]? = some r → ¬ k + 1 < rows.length → r.til = none
  | _, _, .last h, 0, r, hk, _ => by rw [← Option.some.inj hk]; exact h
  | _, _, .last h, k + 1, r, hk, _ => by simp at hk
  | _, _, .more h hb hu, 0, r, hk, hl => by
    have := List.length_pos_iff.mpr hu.ne
    simp at hl
    exact absurd hl hu.ne
  | _, _, .more h hb hu, k + 1, r, hk, hl => uok_last hu (by simpa using hk) (by simpa using hl)
theorem uok_past : ∀ {rows : List RowD} {b : Int}, UOk b rows → ∀ {k : Nat} {r : RowD} {t : Int}, rows[k]? = some r → r.til = some t → Past rows (k + 1) t
  | _, b, .last h, 0, r, t, hk, ht => by
    have e := Option.some.inj hk
    rw [← e, h] at ht
    cases ht
  | _, b, .last h, k + 1, r, t, hk, ht => by simp at hk
  | _, b, .more (t := t0) (r := r0) h hb hu, 0, r, t, hk, ht => by
    have e := Option.some.inj hk
    intro j r' hj hr
    have : j = 0 := by omega
    subst this
    have e2 := Option.some.inj hr
    rw [← e2, e]
    unfold hit
    rw [ht]
    exact decide_eq_false (by omega)
  | _, b, .more (t := t0) (r := r0) (rs := rs) h hb hu, k + 1, r, t, hk, ht => by
    have ih := uok_past hu (k := k) (r := r) (t := t) (by simpa using hk) ht
    have hlt : t0 < t ∨ t0 = t := by
      by_cases hl : k + 1 < rs.length
      · obtain ⟨t2, a, c⟩ := uok_til hu (j := k) (r := r) (by simpa using hk) hl
        rw [ht] at a
        cases a
        exact Or.inl c
      · exfalso
        have : r.til = none := by
          exact uok_last hu (by simpa using hk) hl
        rw [this] at ht
        cases ht
    intro j r' hj hr
    match j, hr with
    | 0, hr =>
      rw [← Option.some.inj hr]
      unfold hit
      rw [h]
      exact decide_eq_false (by omega)
    | j + 1, hr => exact ih j r' (by omega) (by simpa using hr)
def spLlater : Sp := fun vs H Q _ => ∃ (l : Addr) (rows : List RowD) (n : Int), vs = [.ref l, .int n] ∧ LRows H l rows ∧ RowsOk rows ∧ Ag n ∧ RetV (oV (laterEdge (spansFrom 0 none rows) n)) H Q
theorem spv_llater {l : Addr} {rows : List RowD} {n : Int} {H : Hp} (h : LRows H l rows) (o : RowsOk rows) (hn : Ag n) : SpV spLlater [.ref l, .int n] H (oV (laterEdge (spansFrom 0 none rows) n)) := fun H1 e Q q E => ⟨l, rows, n, rfl, h.mono e, o, hn, q⟩
def spLlast : Sp := fun vs H Q _ => ∃ (l : Addr) (rows : List RowD) (n : Int), vs = [.ref l, .int n] ∧ LRows H l rows ∧ RowsOk rows ∧ Ag n ∧ RetV (.int (lastEdge (spansFrom 0 none rows) n)) H Q
theorem spv_llast {l : Addr} {rows : List RowD} {n : Int} {H : Hp} (h : LRows H l rows) (o : RowsOk rows) (hn : Ag n) : SpV spLlast [.ref l, .int n] H (.int (lastEdge (spansFrom 0 none rows) n)) := fun H1 e Q q E => ⟨l, rows, n, rfl, h.mono e, o, hn, q⟩
section
variable {P : Program} {w : World} {K : PySem.W.Frag} {mg : Str → Option Value} {base : Heap} {cR cS cW : Addr}
end
end Age

set_option Elab.async false
set_option linter.all false
set_option maxRecDepth 100000
set_option maxHeartbeats 2000000
/-! U1: values as trees, and what stands for them in a heap -/
namespace Pu
open PySem PySem.Spec PyProof.Rows L2 Evl
inductive PV where
  | non
  | bl (b : Bool)
  | int (i : Int)
  | str (s : Str)
  | scr (n : Nat)
  | pen
  | raw (v : V)
  | tup (xs : List PV)
  | lst (xs : List PV)
  | ob (C : Addr) (fs : List (Str × PV))
  | dic (ks : List (List Key)) (xs : List PV)
mutual
inductive Rep (K : PySem.W.Frag) (p : Addr) (M : Hp) : V → PV → Prop
  | non : Rep K p M .non .non
  | bl (b : Bool) : Rep K p M (.bl b) (.bl b)
  | int (i : Int) : Rep K p M (.int i) (.int i)
  | str (s : Str) : Rep K p M (.str s) (.str s)
  | raw (v : V) : Rep K p M v (.raw v)
  | pen : Rep K p M (.ref p) .pen
  | scr {a : Addr} {ys : List V} {n : Nat} : SqL K M a ys → ys.length = n → Rep K p M (.ref a) (.scr n)
  | tup {a : Addr} {ys : List V} {xs : List PV} : M a = some (.tup ys) → RepL K p M ys xs → Rep K p M (.ref a) (.tup xs)
  | lst {a : Addr} {ys : List V} {xs : List PV} : M a = some (.lst ys) → RepL K p M ys xs → Rep K p M (.ref a) (.lst xs)
  | ob {a C dx : Addr} {vs : List (Str × V)} {fs : List (Str × PV)} : M a = some (.ins C dx vs) → RepF K p M vs fs → Rep K p M (.ref a) (.ob C fs)
  | dic {a : Addr} {ks : List (List Key)} {ys : List V} {xs : List PV} : M a = some (.dT (ks.zip ys)) → RepL K p M ys xs → Rep K p M (.ref a) (.dic ks xs)
inductive RepL (K : PySem.W.Frag) (p : Addr) (M : Hp) : List V → List PV → Prop
  | nil : RepL K p M [] []
  | cons {v : V} {x : PV} {vs : List V} {xs : List PV} : Rep K p M v x → RepL K p M vs xs → RepL K p M (v :: vs) (x :: xs)
inductive RepF (K : PySem.W.Frag) (p : Addr) (M : Hp) : List (Str × V) → List (Str × PV) → Prop
  | nil : RepF K p M [] []
  | cons {f : Str} {v : V} {x : PV} {vs : List (Str × V)} {fs : List (Str × PV)} : Rep K p M v x → RepF K p M vs fs → RepF K p M ((f, v) :: vs) ((f, x) :: fs)
end
mutual
theorem Rep.mono {K : PySem.W.Frag} {p : Addr} {M M' : Hp} (e : Ex M M') : ∀ {v : V} {x : PV}, Rep K p M v x → Rep K p M' v x
  | _, _, .non => .non
  | _, _, .bl b => .bl b
  | _, _, .int b => .int b
  | _, _, .str b => .str b
  | _, _, .raw b => .raw b
  | _, _, .pen => .pen
  | _, _, .scr h l => .scr (ex_l e h) l
  | _, _, .tup h l => .tup (e _ _ h) (RepL.mono e l)
  | _, _, .lst h l => .lst (e _ _ h) (RepL.mono e l)
  | _, _, .ob h l => .ob (e _ _ h) (RepF.mono e l)
  | _, _, .dic h l => .dic (e _ _ h) (RepL.mono e l)
theorem RepL.mono {K : PySem.W.Frag} {p : Addr} {M M' : Hp} (e : Ex M M') : ∀ {v : List V} {x : List PV}, RepL K p M v x → RepL K p M' v x
  | _, _, .nil => .nil
  | _, _, .cons a b => .cons (Rep.mono e a) (RepL.mono e b)
theorem RepF.mono {K : PySem.W.Frag} {p : Addr} {M M' : Hp} (e : Ex M M') : ∀ {v : List (Str × V)} {x : List (Str × PV)}, RepF K p M v x → RepF K p M' v x
  | _, _, .nil => .nil
  | _, _, .cons a b => .cons (Rep.mono e a) (RepF.mono e b)
end
section
variable {K : PySem.W.Frag} {p : Addr} {M : Hp} {v : V} {vs : List V} {xs : List PV}
theorem Rep.getI {i : Int} (h : Rep K p M v (.int i)) : v = .int i := by cases h; rfl
theorem Rep.getB {i : Bool} (h : Rep K p M v (.bl i)) : v = .bl i := by cases h; rfl
theorem Rep.getS {i : Str} (h : Rep K p M v (.str i)) : v = .str i := by cases h; rfl
theorem Rep.getP (h : Rep K p M v .pen) : v = .ref p := by cases h; rfl
theorem Rep.getN (h : Rep K p M v .non) : v = .non := by cases h; rfl
theorem Rep.getT (h : Rep K p M v (.tup xs)) : ∃ a ys, v = .ref a ∧ M a = some (.tup ys) ∧ RepL K p M ys xs := by cases h with | tup a b => exact ⟨_, _, rfl, a, b⟩
theorem Rep.getL (h : Rep K p M v (.lst xs)) : ∃ a ys, v = .ref a ∧ M a = some (.lst ys) ∧ RepL K p M ys xs := by cases h with | lst a b => exact ⟨_, _, rfl, a, b⟩
theorem Rep.getO {C : Addr} {fs : List (Str × PV)} (h : Rep K p M v (.ob C fs)) : ∃ a dx ws, v = .ref a ∧ M a = some (.ins C dx ws) ∧ RepF K p M ws fs := by cases h with | ob a b => exact ⟨_, _, _, rfl, a, b⟩
theorem Rep.getK {ks : List (List Key)} (h : Rep K p M v (.dic ks xs)) : ∃ a ys, v = .ref a ∧ M a = some (.dT (ks.zip ys)) ∧ RepL K p M ys xs := by cases h with | dic a b => exact ⟨_, _, rfl, a, b⟩
theorem Rep.getC {n : Nat} (h : Rep K p M v (.scr n)) : ∃ a ys, v = .ref a ∧ SqL K M a ys ∧ ys.length = n := by cases h with | scr a b => exact ⟨_, _, rfl, a, b⟩
theorem RepL.len : ∀ {vs : List V} {xs : List PV}, RepL K p M vs xs → vs.length = xs.length
  | _, _, .nil => rfl
  | _, _, .cons _ b => by rw [List.length_cons, List.length_cons, b.len]
theorem RepL.get : ∀ {vs : List V} {xs : List PV} {i : Nat} {x : PV}, RepL K p M vs xs → xs[i]? = some x → ∃ v, vs[i]? = some v ∧ Rep K p M v x
  | _, _, _, _, .nil, h => by simp at h
  | _, _, 0, x, .cons (v := v) a b, h => ⟨v, rfl, by simp at h; subst h; exact a⟩
  | _, _, i + 1, x, .cons a b, h => by
    obtain ⟨v, h1, h2⟩ := b.get (i := i) (by simpa using h)
    exact ⟨v, by simpa using h1, h2⟩
theorem RepL.app : ∀ {vs ws : List V} {xs ys : List PV}, RepL K p M vs xs → RepL K p M ws ys → RepL K p M (vs ++ ws) (xs ++ ys)
  | _, _, _, _, .nil, h => h
  | _, _, _, _, .cons a b, h => .cons a (b.app h)
theorem RepL.nil_inv (h : RepL K p M vs []) : vs = [] := by cases h; rfl
theorem RepL.cons_inv {x : PV} (h : RepL K p M vs (x :: xs)) : ∃ v ws, vs = v :: ws ∧ Rep K p M v x ∧ RepL K p M ws xs := by cases h with | cons a b => exact ⟨_, _, rfl, a, b⟩
theorem RepL.ints : ∀ ns : List Int, RepL K p M (ns.map V.int) (ns.map PV.int)
  | [] => .nil
  | i :: ns => .cons (.int i) (RepL.ints ns)
theorem RepL.dropLast : ∀ {vs : List V} {xs : List PV}, RepL K p M vs xs → RepL K p M vs.dropLast xs.dropLast
  | _, _, .nil => .nil
  | _, _, .cons _ .nil => .nil
  | _, _, .cons a (.cons b c) => by
    have := (RepL.cons b c).dropLast
    simp only [List.dropLast_cons₂]
    exact .cons a this
theorem RepL.set {v : V} {x : PV} (hx : Rep K p M v x) : ∀ {vs : List V} {xs : List PV} (i : Nat), RepL K p M vs xs → RepL K p M (vs.set i v) (xs.set i x)
  | _, _, _, .nil => .nil
  | _, _, 0, .cons _ b => .cons hx b
  | _, _, i + 1, .cons a b => .cons a (b.set hx i)
theorem RepL.drop : ∀ {vs : List V} {xs : List PV} (i : Nat), RepL K p M vs xs → RepL K p M (vs.drop i) (xs.drop i)
  | _, _, 0, h => h
  | _, _, _ + 1, .nil => .nil
  | _, _, i + 1, .cons _ b => b.drop i
theorem RepL.take : ∀ {vs : List V} {xs : List PV} (i : Nat), RepL K p M vs xs → RepL K p M (vs.take i) (xs.take i)
  | _, _, 0, _ => .nil
  | _, _, _ + 1, .nil => .nil
  | _, _, i + 1, .cons a b => .cons a (b.take i)
theorem RepF.lookup {f : Str} {x : PV} : ∀ {ws : List (Str × V)} {fs : List (Str × PV)}, RepF K p M ws fs → fs.lookup f = some x → ∃ v, ws.lookup f = some v ∧ Rep K p M v x
  | _, _, .nil, h => by cases h
  | _, _, .cons (f := g) a b, h => by
    simp only [List.lookup_cons] at h ⊢
    split at h
    · cases h
      exact ⟨_, rfl, a⟩
    · exact b.lookup h
theorem RepF.lookup_none {f : Str} : ∀ {ws : List (Str × V)} {fs : List (Str × PV)}, RepF K p M ws fs → fs.lookup f = none → ws.lookup f = none
  | _, _, .nil, _ => rfl
  | _, _, .cons (f := g) a b, h => by
    simp only [List.lookup_cons] at h ⊢
    split at h
    · cases h
    · exact b.lookup_none h
end
/-! ### the source of draws, what stands beside it -/
def penD (c : Addr) (at_ left : Int) : List (Key × V) := [(.inr "cells", .ref c), (.inr "at", .int at_), (.inr "left", .int left)]
def soft : HO → Bool
  | .lst _ => true
  | .dK _ => true
  | .dT _ => true
  | .tbl _ => true
  | _ => false
/-- the tables of code objects of the defs that make lambdas, and the lambdas' names -/
def tabsOf (K : PySem.W.Frag) : List (Addr × Str) := tabDefs.map fun d => ((He.cT K d.1).2, d.2)
def isT (K : PySem.W.Frag) (a : Addr) : Prop := ∃ t ∈ tabsOf K, t.1 = a
structure Tb (K : PySem.W.Frag) (F O : Hp) : Prop where
  all : ∀ t ∈ tabsOf K, ∃ ps : Array Value, O t.1 = some (.tbl ps) ∧ TriplesOk ps.toList ∧ ∀ (pos : Pos) (cv : Value), codeAmong pos ps.toList = some cv → ∃ c, cv = .ref c ∧ F c = some (LamX.CodeO c t.2)
  nt : ∀ a ps, F a ≠ some (.tbl ps)
  ot : ∀ a ps, O a = some (.tbl ps) → isT K a
theorem Tb.isO {K : PySem.W.Frag} {F O : Hp} (t : Tb K F O) {a : Addr} (h : isT K a) : ∃ ps, O a = some (.tbl ps) := by
  obtain ⟨x, hx, rfl⟩ := h
  obtain ⟨ps, h, _⟩ := t.all x hx
  exact ⟨ps, h⟩
theorem Tb.notT {K : PySem.W.Frag} {F O : Hp} (t : Tb K F O) {a : Addr} (h : O a = none) : ¬ isT K a := fun z => by
  obtain ⟨ps, q⟩ := t.isO z
  rw [h] at q
  cases q
theorem Tb.mono {K : PySem.W.Frag} {F O F2 O2 : Hp} (t : Tb K F O) (hF : ∀ c q, F c = some (LamX.CodeO c q) → F2 c = some (LamX.CodeO c q)) (hO : ∀ a, isT K a → O2 a = O a) (nt : ∀ a ps, F2 a ≠ some (.tbl ps)) (ot : ∀ a ps, O2 a = some (.tbl ps) → isT K a) : Tb K F2 O2 :=
  ⟨fun x hx => by
    obtain ⟨ps, h1, h2, h3⟩ := t.all x hx
    refine ⟨ps, by rw [hO _ ⟨x, hx, rfl⟩]; exact h1, h2, fun pos cv hc => ?_⟩
    obtain ⟨c, e1, e2⟩ := h3 pos cv hc
    exact ⟨c, e1, hF _ _ e2⟩, nt, ot⟩
theorem Tb.upF {K : PySem.W.Frag} {F O : Hp} (t : Tb K F O) {a : Addr} {o : HO} (ha : F a = none) (ho : ∀ ps, o ≠ .tbl ps) : Tb K (upd F a o) O :=
  t.mono (fun c q h => (Ex.new ha) _ _ h) (fun _ _ => rfl) (fun b ps h => by
    by_cases e : b = a
    · subst e; rw [upd_same] at h; cases h; exact ho _ rfl
    · rw [upd_ne e] at h; exact t.nt _ _ h) t.ot
structure St (K : PySem.W.Frag) (p c : Addr) (F O H : Hp) (n : Int) : Prop where
  f : Ex F H
  o : Ex O H
  d : ∀ a, F a = none ∨ O a = none
  k : ∀ a u, O a = some u → soft u = true
  pen : ∃ at_ left : Int, O p = some (.dK (penD c at_ left)) ∧ 0 ≤ at_ ∧ at_ ≤ n ∧ 0 ≤ left
  cells : ∃ cs : List Int, F c = some (.lst (cs.map V.int))
  tabs : Tb K F O
def OffP (K : PySem.W.Frag) (p : Addr) (O O2 : Hp) : Prop := ∀ a, a ≠ p → ¬ isT K a → O2 a = O a
structure Nx (K : PySem.W.Frag) (p c : Addr) (F O F2 O2 H2 : Hp) (n2 : Int) : Prop where
  e : Ex F F2
  o : OffP K p O O2
  s : St K p c F2 O2 H2 n2
section
variable {K : PySem.W.Frag} {p c : Addr} {F O H F2 O2 H2 F3 O3 H3 : Hp} {n n2 n3 : Int}
theorem OffP.refl : OffP K p O O := fun _ _ _ => rfl
theorem OffP.trans (a : OffP K p O O2) (b : OffP K p O2 O3) : OffP K p O O3 := fun x h t => (b x h t).trans (a x h t)
theorem Nx.refl (h : St K p c F O H n) : Nx K p c F O F O H n := ⟨Ex.refl _, .refl, h⟩
theorem Nx.trans (a : Nx K p c F O F2 O2 H2 n2) (b : Nx K p c F2 O2 F3 O3 H3 n3) : Nx K p c F O F3 O3 H3 n3 := ⟨a.e.trans b.e, a.o.trans b.o, b.s⟩
theorem St.notF (h : St K p c F O H n) {a : Addr} (ha : H a = none) : F a = none := fresh_back h.f ha
theorem St.notO (h : St K p c F O H n) {a : Addr} (ha : H a = none) : O a = none := fresh_back h.o ha
theorem St.new (h : St K p c F O H n) {a : Addr} {o : HO} (ha : H a = none) (ho : ∀ ps, o ≠ .tbl ps := by intro _ z; cases z) : St K p c (upd F a o) O (upd H a o) n := by
  obtain ⟨cs, hc⟩ := h.cells
  refine ⟨fun b u hb => ?_, h.o.trans (Ex.new ha), fun b => ?_, h.k, h.pen, ⟨cs, (Ex.new (h.notF ha)) _ _ hc⟩, h.tabs.upF (h.notF ha) ho⟩
  · by_cases e : b = a
    · subst e
      rw [upd_same] at hb ⊢
      exact hb
    · rw [upd_ne e] at hb ⊢
      exact h.f _ _ hb
  · by_cases e : b = a
    · subst e
      exact Or.inr (h.notO ha)
    · rw [upd_ne e]
      exact h.d b
theorem St.le (h : St K p c F O H n) (e : n ≤ n2) : St K p c F O H n2 := by
  obtain ⟨a, l, h1, h2, h3, h4⟩ := h.pen
  exact ⟨h.f, h.o, h.d, h.k, ⟨a, l, h1, h2, Int.le_trans h3 e, h4⟩, h.cells, h.tabs⟩
theorem Nx.new (h : St K p c F O H n) {a : Addr} {o : HO} (ha : H a = none) (ho : ∀ ps, o ≠ .tbl ps := by intro _ z; cases z) : Nx K p c F O (upd F a o) O (upd H a o) n := ⟨Ex.new (h.notF ha), .refl, h.new ha ho⟩
end
/-- a heap with the tuples and objects of another one -/
def big (F H2 : Hp) : Hp := fun a => match F a with
  | some u => some u
  | none => match H2 a with
    | some u => if soft u = true then none else some u
    | none => none
section
variable {K : PySem.W.Frag} {p c : Addr} {F O H F2 O2 H2 F3 O3 H3 : Hp} {n n2 n3 : Int}
theorem big_l {a : Addr} {u : HO} (h : F a = some u) : big F H2 a = some u := by unfold big; rw [h]
theorem big_r {a : Addr} (h : F a = none) : big F H2 a = match H2 a with
    | some u => if soft u = true then none else some u
    | none => none := by unfold big; rw [h]
theorem big_nt (h : ∀ a ps, F a ≠ some (HO.tbl ps)) : ∀ a ps, Pu.big F H2 a ≠ some (HO.tbl ps) := fun a ps z => by
  cases hf : F a with
  | some w =>
    rw [big_l hf] at z
    exact h a ps (hf.trans z)
  | none =>
    rw [big_r hf] at z
    cases h2 : H2 a with
    | none => rw [h2] at z; cases z
    | some w =>
      rw [h2] at z
      dsimp only at z
      split at z
      · cases z
      · rename_i hs
        cases z
        exact hs rfl
open Classical in
/-- all but the tables stay, these may be written -/
theorem St.bigN (h : St K p c F O H n) (e : LamX.ExtN H H2) (t : LamX.Tabs (tabsOf K) H2) : (∃ O2, Nx K p c F O (big F H2) O2 H2 n) ∧ ∀ a u, H2 a = some u → soft u = false → Pu.big F H2 a = some u := by
  obtain ⟨cs, hc⟩ := h.cells
  obtain ⟨at_, l, hp, hp2⟩ := h.pen
  have tH2 : ∀ a, isT K a → ∃ ps, H2 a = some (.tbl ps) := fun a ⟨x, hx, ex⟩ => by
    obtain ⟨ps, q, _⟩ := t x hx
    exact ⟨ps, by rw [← ex]; exact q⟩
  have eF : ∀ a u, F a = some u → H2 a = some u := fun a u hu => e a u (h.f _ _ hu) fun ps z => h.tabs.nt a ps (by rw [hu, z])
  have eO : ∀ a u, O a = some u → ¬ isT K a → H2 a = some u := fun a u hu hn => e a u (h.o _ _ hu) fun ps z => hn (h.tabs.ot a ps (by rw [hu, z]))
  have FT : ∀ a, isT K a → F a = none := fun a ha => by
    obtain ⟨ps, q⟩ := h.tabs.isO ha
    rcases h.d a with z | z
    · exact z
    · rw [q] at z; cases z
  have hard : ∀ a u, H2 a = some u → soft u = false → Pu.big F H2 a = some u := fun a u hu hs => by
    cases hf : F a with
    | some w =>
      rw [big_l hf]
      have h3 := eF _ _ hf
      rw [hu] at h3
      exact h3.symm
    | none =>
      rw [big_r hf, hu]
      show (if soft u = true then none else some u) = some u
      rw [hs]
      rfl
  have pT : ¬ isT K p := fun z => by
    obtain ⟨ps, q⟩ := h.tabs.isO z
    rw [hp] at q
    cases q
  refine ⟨⟨fun a => if isT K a then H2 a else O a, fun a u hu => big_l hu, fun a _ ht => if_neg ht, fun a u hu => ?_, fun a u hu => ?_, fun a => ?_, fun a u hu => ?_, ⟨at_, l, (if_neg pT).trans hp, hp2⟩, ⟨cs, big_l hc⟩, ⟨fun x hx => ?_, big_nt h.tabs.nt, fun a ps hq => ?_⟩⟩, hard⟩
  · cases hf : F a with
    | some w =>
      rw [big_l hf] at hu
      cases hu
      exact eF _ _ hf
    | none =>
      rw [big_r hf] at hu
      cases h2 : H2 a with
      | none => rw [h2] at hu; cases hu
      | some w =>
        rw [h2] at hu
        dsimp only at hu
        split at hu
        · cases hu
        · exact hu
  · by_cases ht : isT K a
    · exact (if_pos ht).symm.trans hu
    · exact eO _ _ ((if_neg ht).symm.trans hu) ht
  · by_cases ht : isT K a
    · refine Or.inl ?_
      obtain ⟨ps, q⟩ := tH2 a ht
      rw [big_r (FT a ht), q]
      rfl
    · show _ ∨ (if isT K a then H2 a else O a) = none
      rw [if_neg ht]
      cases ho : O a with
      | none => exact Or.inr rfl
      | some w =>
        refine Or.inl ?_
        have hf : F a = none := by
          rcases h.d a with z | z
          · exact z
          · rw [ho] at z; cases z
        rw [big_r hf, eO _ _ ho ht]
        show (if soft w = true then none else some w) = none
        rw [if_pos (h.k _ _ ho)]
  · by_cases ht : isT K a
    · have hu := (if_pos ht).symm.trans hu
      obtain ⟨ps, q⟩ := tH2 a ht
      rw [q] at hu
      cases hu
      rfl
    · exact h.k _ _ ((if_neg ht).symm.trans hu)
  · obtain ⟨ps, q1, q2, q3⟩ := t x hx
    refine ⟨ps, (if_pos ⟨x, hx, rfl⟩).trans q1, q2, fun pos cv hcv => ?_⟩
    obtain ⟨cc, e1, e2⟩ := q3 pos cv hcv
    exact ⟨cc, e1, hard _ _ e2 rfl⟩
  · by_cases ht : isT K a
    · exact ht
    · exact h.tabs.ot a ps ((if_neg ht).symm.trans hq)
/-- a larger heap: its tuples and objects are taken in -/
theorem St.big (h : St K p c F O H n) (e : Ex H H2) : Nx K p c F O (big F H2) O H2 n ∧ ∀ a u, H2 a = some u → soft u = false → Pu.big F H2 a = some u := by
  obtain ⟨cs, hc⟩ := h.cells
  have key : ∀ a u, F a = none → H2 a = some u → soft u = false → O a = none := fun a u hf h2 hs => by
    cases ho : O a with
    | none => rfl
    | some w =>
      have h3 := e _ _ (h.o _ _ ho)
      rw [h2] at h3
      cases h3
      have := h.k _ _ ho
      rw [hs] at this
      cases this
  refine ⟨⟨fun a u hu => big_l hu, .refl, fun a u hu => ?_, h.o.trans e, fun a => ?_, h.k, h.pen, ⟨cs, big_l hc⟩, h.tabs.mono (fun c q hq => big_l hq) (fun _ _ => rfl) (big_nt h.tabs.nt) h.tabs.ot⟩, fun a u hu hs => ?_⟩
  · cases hf : F a with
    | some w =>
      rw [big_l hf] at hu
      cases hu
      exact e _ _ (h.f _ _ hf)
    | none =>
      rw [big_r hf] at hu
      cases h2 : H2 a with
      | none => rw [h2] at hu; cases hu
      | some w =>
        rw [h2] at hu
        dsimp only at hu
        split at hu
        · cases hu
        · exact hu
  · cases hf : F a with
    | some u =>
      rcases h.d a with z | z
      · rw [hf] at z; cases z
      · exact Or.inr z
    | none =>
      rw [big_r hf]
      cases h2 : H2 a with
      | none => exact Or.inl rfl
      | some u =>
        cases hs : soft u with
        | true => exact Or.inl (by show (if soft u = true then none else some u) = none; rw [if_pos hs])
        | false => exact Or.inr (key a u hf h2 hs)
  · cases hf : F a with
    | some w =>
      rw [big_l hf]
      have h3 := e _ _ (h.f _ _ hf)
      rw [hu] at h3
      exact h3.symm
    | none =>
      rw [big_r hf, hu]
      show (if soft u = true then none else some u) = some u
      rw [hs]
      rfl
end
end Pu

set_option Elab.async false
set_option linter.all false
set_option maxRecDepth 100000
set_option maxHeartbeats 2000000
/-! U2: readings without a heap: expressions -/
namespace Pu
open PySem PySem.Spec PyProof.Rows L2 Evl
/-- a slot: nothing known, a value, a list of the def's own -/
inductive PS where
  | no
  | fr (x : PV)
  | ow (k : Option (List (List Key))) (xs : List PV)
abbrev OK := Option (List (List Key))
/-- the def's own list, the def's own dict with tuples for keys -/
def hoO : OK → List V → HO
  | none, ys => .lst ys
  | some ks, ys => .dT (ks.zip ys)
theorem ho_soft (k : OK) (ys : List V) : soft (hoO k ys) = true := by cases k <;> rfl
abbrev PR := List PS
def PS.val : PS → Option PV
  | .no => none
  | .fr x => some x
  | .ow none xs => some (.lst xs)
  | .ow (some ks) xs => some (.dic ks xs)
def getV (ρ : PR) (i : Nat) : Option PV := (ρ[i]?).bind PS.val
abbrev PTE := PR → Int → (PV → Int → Prop) → Prop
abbrev PTT := PR → Int → (Bool → Int → Prop) → Prop
abbrev PTA := PR → Int → (List PV → Int → Prop) → Prop
abbrev PSp := List PV → Int → (PV → Int → Prop) → Prop
structure Sl (K : PySem.W.Frag) (p : Addr) (F : Hp) (σ : L2.St) (ρ : PR) : Prop where
  len : σ.length = ρ.length
  at_ : ∀ i x, getV ρ i = some x → ∃ v, σ[i]? = some (some v) ∧ Rep K p F v x
theorem Sl.mono {K : PySem.W.Frag} {p : Addr} {F F2 : Hp} {σ : L2.St} {ρ : PR} (e : Ex F F2) (h : Sl K p F σ ρ) : Sl K p F2 σ ρ := ⟨h.len, fun i x g => let ⟨v, a, b⟩ := h.at_ i x g; ⟨v, a, b.mono e⟩⟩
def SE (K : PySem.W.Frag) (te : TE) (pe : PTE) : Prop := ∀ p c F O H σ ρ n, St K p c F O H n → Sl K p F σ ρ → ∀ (Q : VK) (Q' : PV → Int → Prop),
  (∀ v x F2 O2 H2 n2, Nx K p c F O F2 O2 H2 n2 → Rep K p F2 v x → Q' x n2 → Q v H2) → pe ρ n Q' → te σ H Q
def SEB (K : PySem.W.Frag) (tt : TT) (pt : PTT) : Prop := ∀ p c F O H σ ρ n, St K p c F O H n → Sl K p F σ ρ → ∀ (Q : Bool → Hp → Prop) (Q' : Bool → Int → Prop),
  (∀ b F2 O2 H2 n2, Nx K p c F O F2 O2 H2 n2 → Q' b n2 → Q b H2) → pt ρ n Q' → tt σ H Q
def SA (K : PySem.W.Frag) (ta : TA) (pa : PTA) : Prop := ∀ p c F O H σ ρ n, St K p c F O H n → Sl K p F σ ρ → ∀ (Q : List V → Hp → Prop) (Q' : List PV → Int → Prop),
  (∀ vs xs F2 O2 H2 n2, Nx K p c F O F2 O2 H2 n2 → RepL K p F2 vs xs → Q' xs n2 → Q vs H2) → pa ρ n Q' → ta σ H Q
/-- operations on values -/
abbrev PR2 := PV → PV → (PV → Prop) → Prop
abbrev PR1 := PV → (PV → Prop) → Prop
abbrev PRL := List PV → (PV → Prop) → Prop
def SR (K : PySem.W.Frag) (r : R2) (pr : PR2) : Prop := ∀ p c F O H n, St K p c F O H n → ∀ x y v w, Rep K p F v x → Rep K p F w y → ∀ (Q : VK) (Q' : PV → Prop),
  (∀ z u F2 H2, Nx K p c F O F2 O H2 n → Rep K p F2 z u → Q' u → Q z H2) → pr x y Q' → r v w H Q
def SU (K : PySem.W.Frag) (r : V → Hp → VK → Prop) (pr : PR1) : Prop := ∀ p c F O H n, St K p c F O H n → ∀ x v, Rep K p F v x → ∀ (Q : VK) (Q' : PV → Prop),
  (∀ z u F2 H2, Nx K p c F O F2 O H2 n → Rep K p F2 z u → Q' u → Q z H2) → pr x Q' → r v H Q
def SC (K : PySem.W.Frag) (r : List V → Hp → VK → Prop) (pr : PRL) : Prop := ∀ p c F O H n, St K p c F O H n → ∀ xs vs, RepL K p F vs xs → ∀ (Q : VK) (Q' : PV → Prop),
  (∀ z u F2 H2, Nx K p c F O F2 O H2 n → Rep K p F2 z u → Q' u → Q z H2) → pr xs Q' → r vs H Q
/-! ### readings -/
def pVar (i : Nat) : PTE := fun ρ n Q => ∃ x, getV ρ i = some x ∧ Q x n
def pC (x : PV) : PTE := fun _ n Q => Q x n
def pOp (r : PR2) (pa pb : PTE) : PTE := fun ρ n Q => pa ρ n fun x n1 => pb ρ n1 fun y n2 => r x y fun z => Q z n2
def pUn (r : PR1) (pa : PTE) : PTE := fun ρ n Q => pa ρ n fun x n1 => r x fun z => Q z n1
def pI0 (g : Int → Int → PV) : PR2 := fun x y Q => ∃ i j, x = .int i ∧ y = .int j ∧ Q (g i j)
def pI (C : Int → Int → Prop) (g : Int → Int → PV) : PR2 := fun x y Q => ∃ i j, x = .int i ∧ y = .int j ∧ C i j ∧ Q (g i j)
def pU (g : Int → PV) : PR1 := fun x Q => ∃ i, x = .int i ∧ Q (g i)
def PV.isN : PV → Bool
  | .non => true
  | .raw v => decide (v = .non)
  | _ => false
def pIsN (pa : PTE) : PTE := fun ρ n Q => pa ρ n fun x n1 => Q (.bl x.isN) n1
def pNotN (pa : PTE) : PTE := fun ρ n Q => pa ρ n fun x n1 => Q (.bl (!x.isN)) n1
def pNil : PTA := fun _ n Q => Q [] n
def pCons (pa : PTE) (pr : PTA) : PTA := fun ρ n Q => pa ρ n fun x n1 => pr ρ n1 fun xs n2 => Q (x :: xs) n2
def pTup (pa : PTA) : PTE := fun ρ n Q => pa ρ n fun xs n1 => xs.length ≤ 100000 ∧ Q (.tup xs) n1
def pLst (pa : PTA) : PTE := fun ρ n Q => pa ρ n fun xs n1 => xs.length ≤ 100000 ∧ Q (.lst xs) n1
/-- an attribute is the object's own -/
def At (K : PySem.W.Frag) (C : Addr) (f : Str) : Prop := Cls K C ∧ NoAttr K C f
def pFld (K : PySem.W.Frag) (pa : PTE) (f : Str) : PTE := fun ρ n Q => pa ρ n fun x n1 => ∃ C fs y, x = .ob C fs ∧ At K C f ∧ fs.lookup f = some y ∧ Q y n1
def pIxL : PR2 := fun x y Q => ∃ xs i u, x = .lst xs ∧ y = .int i ∧ atI xs i = some u ∧ Q u
def pIxT : PR2 := fun x y Q => ∃ xs i u, x = .tup xs ∧ y = .int i ∧ atI xs i = some u ∧ Q u
def PV.sc : PV → Option V
  | .non => some .non
  | .bl b => some (.bl b)
  | .int i => some (.int i)
  | .str s => some (.str s)
  | _ => none
def pEq : PR2 := fun x y Q => ∃ u v, x.sc = some u ∧ y.sc = some v ∧ scal u v = true ∧ Q (.bl (decide (u = v)))
def pNe : PR2 := fun x y Q => ∃ u v, x.sc = some u ∧ y.sc = some v ∧ scal u v = true ∧ Q (.bl (!decide (u = v)))
mutual
def toD : PV → Option PyData
  | .non => some .none
  | .bl b => some (.bool b)
  | .int i => some (.int i)
  | .str s => some (.str s)
  | .tup xs => (toDL xs).map .tuple
  | .lst xs => (toDL xs).map .list
  | _ => none
def toDL : List PV → Option (List PyData)
  | [] => some []
  | x :: xs => match toD x, toDL xs with
    | some d, some ds => some (d :: ds)
    | _, _ => none
end
def pEqD : PR2 := fun x y Q => ∃ d e, toD x = some d ∧ toD y = some e ∧ SeqAt.shaped d = true ∧ SeqAt.shaped e = true ∧ Q (.bl (PyData.eqv d e))
def pNeD : PR2 := fun x y Q => ∃ d e, toD x = some d ∧ toD y = some e ∧ SeqAt.shaped d = true ∧ SeqAt.shaped e = true ∧ Q (.bl (!PyData.eqv d e))
def pAndV (pa pb : PTE) : PTE := fun ρ n Q => pa ρ n fun x n1 => ∃ b, x = .bl b ∧ if b = true then pb ρ n1 Q else Q (.bl false) n1
def pOrV (pa pb : PTE) : PTE := fun ρ n Q => pa ρ n fun x n1 => ∃ b, x = .bl b ∧ if b = true then Q (.bl true) n1 else pb ρ n1 Q
def pNotV (pa : PTE) : PTE := fun ρ n Q => pa ρ n fun x n1 => ∃ b, x = .bl b ∧ Q (.bl (!b)) n1
def pB (pa : PTE) : PTT := fun ρ n Q => pa ρ n fun x n1 => ∃ b, x = .bl b ∧ Q b n1
def pAnd (t u : PTT) : PTT := fun ρ n Q => t ρ n fun b n1 => if b = true then u ρ n1 Q else Q false n1
def pOr (t u : PTT) : PTT := fun ρ n Q => t ρ n fun b n1 => if b = true then Q true n1 else u ρ n1 Q
def pNot (t : PTT) : PTT := fun ρ n Q => t ρ n fun b n1 => Q (!b) n1
def pYes : PTT := fun _ n Q => Q true n
def pIf (t : PTT) (pa pb : PTE) : PTE := fun ρ n Q => t ρ n fun b n1 => if b = true then pa ρ n1 Q else pb ρ n1 Q
def pCB (r : PRL) (pa : PTA) : PTE := fun ρ n Q => pa ρ n fun xs n1 => r xs fun y => Q y n1
def PV.len? : PV → Option Nat
  | .lst xs => some xs.length
  | .tup xs => some xs.length
  | .scr n => some n
  | _ => none
def pLen : PRL := fun xs Q => ∃ x k, xs = [x] ∧ x.len? = some k ∧ Q (.int (k : Nat))
def pListOf : PRL := fun xs Q => ∃ x ys, xs = [x] ∧ (x = .lst ys ∨ x = .tup ys) ∧ Q (.lst ys)
def pTupOf : PRL := fun xs Q => ∃ x ys, xs = [x] ∧ (x = .lst ys ∨ x = .tup ys) ∧ Q (.tup ys)
def pMin2 : PRL := fun xs Q => ∃ i j, xs = [.int i, .int j] ∧ Q (.int (if j < i then j else i))
def pMax2 : PRL := fun xs Q => ∃ i j, xs = [.int i, .int j] ∧ Q (.int (if j > i then j else i))
def pCall (w : PSp) (pa : PTA) : PTE := fun ρ n Q => pa ρ n fun xs n1 => w xs n1 Q
def pMeth (C : Addr) (m : Str) (w : PSp) (po : PTE) (pa : PTA) : PTE := fun ρ n Q => po ρ n fun x n1 => ∃ fs, x = .ob C fs ∧ fs.lookup m = none ∧ pa ρ n1 fun xs n2 => w (x :: xs) n2 Q
def pCat : PR2 := fun x y Q => ∃ xs ys, x = .lst xs ∧ y = .lst ys ∧ xs.length + ys.length ≤ 100000 ∧ Q (.lst (xs ++ ys))
def lift (K : PySem.W.Frag) (w : PSp) : Sp := fun vs H Q _ => ∃ p c F O n xs Q', St K p c F O H n ∧ RepL K p F vs xs ∧ w xs n Q' ∧ ∀ y n' v F2 O2 H2, Q' y n' → Nx K p c F O F2 O2 H2 n' → Rep K p F2 v y → Q v H2
/-! ### soundness -/
section
variable {K : PySem.W.Frag} {ta tb te : TE} {pa pb pe : PTE} {tt uu : TT} {pt pu : PTT} {tl : TA} {pl : PTA}
theorem se_var {i : Nat} : SE K (tVar i) (pVar i) := fun p c F O H σ ρ n s sl Q Q' k ⟨x, hx, q⟩ => by
  obtain ⟨v, hv, r⟩ := sl.at_ i x hx
  exact ⟨v, hv, k v x F O H n (.refl s) r q⟩
theorem se_c {v : V} {x : PV} (h : ∀ p F, Rep K p F v x) : SE K (tC v) (pC x) := fun p c F O H σ ρ n s sl Q Q' k q => k v x F O H n (.refl s) (h p F) q
theorem se_op {r : R2} {pr : PR2} (ha : SE K ta pa) (hb : SE K tb pb) (hr : SR K r pr) : SE K (tOp r ta tb) (pOp pr pa pb) := fun p c F O H σ ρ n s sl Q Q' k q =>
  ha p c F O H σ ρ n s sl _ _ (fun v x F2 O2 H2 n2 n1 rx q1 => hb p c F2 O2 H2 σ ρ n2 n1.s (sl.mono n1.e) _ _ (fun w y F3 O3 H3 n3 nn ry q2 =>
    hr p c F3 O3 H3 n3 nn.s x y v w (rx.mono nn.e) ry _ _ (fun z u F4 H4 n5 ru q3 => k z u F4 O3 H4 n3 ((n1.trans nn).trans n5) ru q3) q2) q1) q
theorem se_un {r : V → Hp → VK → Prop} {pr : PR1} (ha : SE K ta pa) (hr : SU K r pr) : SE K (tUn r ta) (pUn pr pa) := fun p c F O H σ ρ n s sl Q Q' k q =>
  ha p c F O H σ ρ n s sl _ _ (fun v x F2 O2 H2 n2 n1 rx q1 => hr p c F2 O2 H2 n2 n1.s x v rx _ _ (fun z u F4 H4 n5 ru q3 => k z u F4 O2 H4 n2 (n1.trans n5) ru q3) q1) q
theorem isN_of {p : Addr} {F : Hp} {v : V} {x : PV} (h : Rep K p F v x) : decide (v = .non) = x.isN := by
  cases h <;> simp [PV.isN]
theorem se_isN (ha : SE K ta pa) : SE K (tIsN ta) (pIsN pa) := fun p c F O H σ ρ n s sl Q Q' k q =>
  ha p c F O H σ ρ n s sl _ _ (fun v x F2 O2 H2 n2 n1 rx q1 => by rw [isN_of rx]; exact k _ _ F2 O2 H2 n2 n1 (.bl _) q1) q
theorem se_notN (ha : SE K ta pa) : SE K (tNotN ta) (pNotN pa) := fun p c F O H σ ρ n s sl Q Q' k q =>
  ha p c F O H σ ρ n s sl _ _ (fun v x F2 O2 H2 n2 n1 rx q1 => by rw [isN_of rx]; exact k _ _ F2 O2 H2 n2 n1 (.bl _) q1) q
theorem sa_nil : SA K tNil pNil := fun p c F O H σ ρ n s sl Q Q' k q => k [] [] F O H n (.refl s) .nil q
theorem sa_cons (ha : SE K ta pa) (hb : SA K tl pl) : SA K (tCons ta tl) (pCons pa pl) := fun p c F O H σ ρ n s sl Q Q' k q =>
  ha p c F O H σ ρ n s sl _ _ (fun v x F2 O2 H2 n2 n1 rx q1 => hb p c F2 O2 H2 σ ρ n2 n1.s (sl.mono n1.e) _ _ (fun vs xs F3 O3 H3 n3 nn rr q2 => k _ _ F3 O3 H3 n3 (n1.trans nn) (.cons (rx.mono nn.e) rr) q2) q1) q
theorem se_tup (ha : SA K tl pl) : SE K (tTup tl) (pTup pl) := fun p c F O H σ ρ n s sl Q Q' k q =>
  ha p c F O H σ ρ n s sl _ _ (fun vs xs F2 O2 H2 n2 n1 rx ⟨q0, q1⟩ => ⟨by rw [rx.len]; exact sz_of q0, fun a ha => k _ _ (upd F2 a (.tup vs)) O2 _ n2 (n1.trans (.new n1.s ha)) (.tup upd_same (rx.mono (Ex.new (n1.s.notF ha)))) q1⟩) q
theorem se_lst (ha : SA K tl pl) : SE K (tLst tl) (pLst pl) := fun p c F O H σ ρ n s sl Q Q' k q =>
  ha p c F O H σ ρ n s sl _ _ (fun vs xs F2 O2 H2 n2 n1 rx ⟨q0, q1⟩ => ⟨by rw [rx.len]; exact sz_of q0, fun a ha => k _ _ (upd F2 a (.lst vs)) O2 _ n2 (n1.trans (.new n1.s ha)) (.lst upd_same (rx.mono (Ex.new (n1.s.notF ha)))) q1⟩) q
theorem se_fld {f : Str} (ha : SE K ta pa) : SE K (tFld K ta f) (pFld K pa f) := fun p c F O H σ ρ n s sl Q Q' k q =>
  ha p c F O H σ ρ n s sl _ _ (fun v x F2 O2 H2 n2 n1 rx ⟨C, fs, y, e, at_, l, q1⟩ => by
    subst e
    obtain ⟨a, dx, ws, rfl, h1, h2⟩ := rx.getO
    obtain ⟨u, hu, ru⟩ := h2.lookup l
    exact ⟨a, C, dx, ws, u, rfl, n1.s.f _ _ h1, at_.1, at_.2, hu, k _ _ F2 O2 H2 n2 n1 ru q1⟩) q
theorem sr_I0 {g : Int → Int → V} {g' : Int → Int → PV} (h : ∀ p F i j, Rep K p F (g i j) (g' i j)) : SR K (rI0 g) (pI0 g') := fun p c F O H n s x y v w rx ry Q Q' k ⟨i, j, e1, e2, q⟩ => by
  subst e1 e2
  rw [rx.getI, ry.getI]
  exact ⟨i, j, rfl, rfl, k _ _ F H (.refl s) (h p F i j) q⟩
theorem sr_I {C C' : Int → Int → Prop} {g : Int → Int → V} {g' : Int → Int → PV} (hC : ∀ i j, C' i j → C i j) (h : ∀ p F i j, Rep K p F (g i j) (g' i j)) : SR K (rI C g) (pI C' g') := fun p c F O H n s x y v w rx ry Q Q' k ⟨i, j, e1, e2, hc, q⟩ => by
  subst e1 e2
  rw [rx.getI, ry.getI]
  exact ⟨i, j, rfl, rfl, hC i j hc, k _ _ F H (.refl s) (h p F i j) q⟩
theorem su_U {g : Int → V} {g' : Int → PV} (h : ∀ p F i, Rep K p F (g i) (g' i)) : SU K (rU g) (pU g') := fun p c F O H n s x v rx Q Q' k ⟨i, e1, q⟩ => by
  subst e1
  rw [rx.getI]
  exact ⟨i, rfl, k _ _ F H (.refl s) (h p F i) q⟩
theorem atI_rep {p : Addr} {F : Hp} {ys : List V} {xs : List PV} {i : Int} {u : PV} (h : RepL K p F ys xs) (ha : atI xs i = some u) : ∃ v, atI ys i = some v ∧ Rep K p F v u := by
  unfold atI at ha ⊢
  rw [h.len]
  cases hx : ixN xs.length i with
  | none => rw [hx] at ha; cases ha
  | some j =>
    rw [hx] at ha
    exact h.get ha
theorem sr_ixL : SR K (rIxL K) pIxL := fun p c F O H n s x y v w rx ry Q Q' k ⟨xs, i, u, e1, e2, ha, q⟩ => by
  subst e1 e2
  obtain ⟨a, ys, rfl, h1, h2⟩ := rx.getL
  obtain ⟨z, hz, rz⟩ := atI_rep h2 ha
  rw [ry.getI]
  exact ⟨a, ys, i, z, rfl, rfl, sq_of (s.f _ _ h1), hz, k _ _ F H (.refl s) rz q⟩
theorem sr_ixT : SR K (rIxT K) pIxT := fun p c F O H n s x y v w rx ry Q Q' k ⟨xs, i, u, e1, e2, ha, q⟩ => by
  subst e1 e2
  obtain ⟨a, ys, rfl, h1, h2⟩ := rx.getT
  obtain ⟨z, hz, rz⟩ := atI_rep h2 ha
  rw [ry.getI]
  exact ⟨a, ys, i, z, rfl, rfl, st_of (s.f _ _ h1), hz, k _ _ F H (.refl s) rz q⟩
theorem sc_rep {p : Addr} {F : Hp} {v u : V} {x : PV} (h : Rep K p F v x) (e : x.sc = some u) : v = u := by
  cases h <;> simp [PV.sc] at e <;> first | exact e | (subst e; rfl)
theorem sr_eq : SR K rEq pEq := fun p c F O H n s x y v w rx ry Q Q' k ⟨u, u', e1, e2, h, q⟩ => by
  rw [sc_rep rx e1, sc_rep ry e2]
  exact ⟨h, k _ _ F H (.refl s) (.bl _) q⟩
theorem sr_ne : SR K rNe pNe := fun p c F O H n s x y v w rx ry Q Q' k ⟨u, u', e1, e2, h, q⟩ => by
  rw [sc_rep rx e1, sc_rep ry e2]
  exact ⟨h, k _ _ F H (.refl s) (.bl _) q⟩
mutual
theorem dp_rep {p : Addr} {F H : Hp} (e : Ex F H) : ∀ {v : V} {x : PV} {d : PyData}, Rep K p F v x → toD x = some d → Dp K H v d
  | _, _, _, .non, h => by cases h; exact .non
  | _, _, _, .bl b, h => by cases h; exact .bl b
  | _, _, _, .int b, h => by cases h; exact .int b
  | _, _, _, .str b, h => by cases h; exact .str b
  | _, _, _, .raw b, h => by cases h
  | _, _, _, .pen, h => by cases h
  | _, _, _, .scr _ _, h => by cases h
  | _, _, _, .tup (xs := xs) h l, hd => by
    unfold toD at hd
    obtain ⟨ds, h1, rfl⟩ := Option.map_eq_some_iff.mp hd
    exact .tup (st_of (e _ _ h)) (dpL_rep e l h1)
  | _, _, _, .lst (xs := xs) h l, hd => by
    unfold toD at hd
    obtain ⟨ds, h1, rfl⟩ := Option.map_eq_some_iff.mp hd
    exact .lst (sq_of (e _ _ h)) (dpL_rep e l h1)
  | _, _, _, .ob _ _, h => by cases h
  | _, _, _, .dic _ _, h => by cases h
theorem dpL_rep {p : Addr} {F H : Hp} (e : Ex F H) : ∀ {v : List V} {x : List PV} {d : List PyData}, RepL K p F v x → toDL x = some d → DpAll K H v d
  | _, _, _, .nil, h => by cases h; exact .nil
  | _, _, _, .cons (x := x) (xs := xs) a b, h => by
    unfold toDL at h
    split at h
    · rename_i d ds h1 h2
      cases h
      exact .cons (dp_rep e a h1) (dpL_rep e b h2)
    · cases h
end
theorem sr_eqD : SR K (rEqD K) pEqD := fun p c F O H n s x y v w rx ry Q Q' k ⟨d, e, h1, h2, h3, h4, q⟩ =>
  ⟨d, e, dp_rep s.f rx h1, dp_rep s.f ry h2, h3, h4, k _ _ F H (.refl s) (.bl _) q⟩
theorem sr_neD : SR K (rNeD K) pNeD := fun p c F O H n s x y v w rx ry Q Q' k ⟨d, e, h1, h2, h3, h4, q⟩ =>
  ⟨d, e, dp_rep s.f rx h1, dp_rep s.f ry h2, h3, h4, k _ _ F H (.refl s) (.bl _) q⟩
theorem sr_cat : SR K rCat pCat := fun p c F O H n s x y v w rx ry Q Q' k ⟨xs, ys, e1, e2, hl, q⟩ => by
  subst e1 e2
  obtain ⟨a, vs, rfl, h1, h2⟩ := rx.getL
  obtain ⟨b, ws, rfl, g1, g2⟩ := ry.getL
  refine ⟨a, b, vs, ws, rfl, rfl, s.f _ _ h1, s.f _ _ g1, by rw [h2.len, g2.len]; exact sz_of hl, fun q' hq => ?_⟩
  exact k _ _ _ _ (.new s hq) (.lst upd_same ((h2.app g2).mono (Ex.new (s.notF hq)))) q
theorem se_andV (ha : SE K ta pa) (hb : SE K tb pb) : SE K (tAndV ta tb) (pAndV pa pb) := fun p c F O H σ ρ n s sl Q Q' k q =>
  ha p c F O H σ ρ n s sl _ _ (fun v x F2 O2 H2 n2 n1 rx ⟨b, e, q1⟩ => by
    subst e
    rw [rx.getB]
    refine ⟨b, rfl, ?_⟩
    cases b with
    | true => exact hb p c F2 O2 H2 σ ρ n2 n1.s (sl.mono n1.e) Q Q' (fun v x F3 O3 H3 n3 nn => k v x F3 O3 H3 n3 (n1.trans nn)) q1
    | false => exact k _ _ F2 O2 H2 n2 n1 (.bl _) q1) q
theorem se_orV (ha : SE K ta pa) (hb : SE K tb pb) : SE K (tOrV ta tb) (pOrV pa pb) := fun p c F O H σ ρ n s sl Q Q' k q =>
  ha p c F O H σ ρ n s sl _ _ (fun v x F2 O2 H2 n2 n1 rx ⟨b, e, q1⟩ => by
    subst e
    rw [rx.getB]
    refine ⟨b, rfl, ?_⟩
    cases b with
    | false => exact hb p c F2 O2 H2 σ ρ n2 n1.s (sl.mono n1.e) Q Q' (fun v x F3 O3 H3 n3 nn => k v x F3 O3 H3 n3 (n1.trans nn)) q1
    | true => exact k _ _ F2 O2 H2 n2 n1 (.bl _) q1) q
theorem se_notV (ha : SE K ta pa) : SE K (tNotV ta) (pNotV pa) := fun p c F O H σ ρ n s sl Q Q' k q =>
  ha p c F O H σ ρ n s sl _ _ (fun v x F2 O2 H2 n2 n1 rx ⟨b, e, q1⟩ => by
    subst e
    rw [rx.getB]
    exact ⟨b, rfl, k _ _ F2 O2 H2 n2 n1 (.bl _) q1⟩) q
theorem st_B (ha : SE K ta pa) : SEB K (tB ta) (pB pa) := fun p c F O H σ ρ n s sl Q Q' k q =>
  ha p c F O H σ ρ n s sl _ _ (fun v x F2 O2 H2 n2 n1 rx ⟨b, e, q1⟩ => by
    subst e
    rw [rx.getB]
    exact ⟨b, rfl, k _ F2 O2 H2 n2 n1 q1⟩) q
theorem st_test (ha : SE K ta pa) : SEB K (tTest ta) (pB pa) := st_B ha
theorem st_and (ha : SEB K tt pt) (hb : SEB K uu pu) : SEB K (tAnd tt uu) (pAnd pt pu) := fun p c F O H σ ρ n s sl Q Q' k q =>
  ha p c F O H σ ρ n s sl _ _ (fun b F2 O2 H2 n2 n1 q1 => by
    cases b with
    | true => exact hb p c F2 O2 H2 σ ρ n2 n1.s (sl.mono n1.e) Q Q' (fun b F3 O3 H3 n3 nn => k b F3 O3 H3 n3 (n1.trans nn)) q1
    | false => exact k _ F2 O2 H2 n2 n1 q1) q
theorem st_or (ha : SEB K tt pt) (hb : SEB K uu pu) : SEB K (tOr tt uu) (pOr pt pu) := fun p c F O H σ ρ n s sl Q Q' k q =>
  ha p c F O H σ ρ n s sl _ _ (fun b F2 O2 H2 n2 n1 q1 => by
    cases b with
    | false => exact hb p c F2 O2 H2 σ ρ n2 n1.s (sl.mono n1.e) Q Q' (fun b F3 O3 H3 n3 nn => k b F3 O3 H3 n3 (n1.trans nn)) q1
    | true => exact k _ F2 O2 H2 n2 n1 q1) q
theorem st_not (ha : SEB K tt pt) : SEB K (tNot tt) (pNot pt) := fun p c F O H σ ρ n s sl Q Q' k q =>
  ha p c F O H σ ρ n s sl _ _ (fun b F2 O2 H2 n2 n1 q1 => k _ F2 O2 H2 n2 n1 q1) q
theorem st_yes : SEB K tYes pYes := fun p c F O H σ ρ n s sl Q Q' k q => k _ F O H n (.refl s) q
theorem se_if (ht : SEB K tt pt) (ha : SE K ta pa) (hb : SE K tb pb) : SE K (tIf tt ta tb) (pIf pt pa pb) := fun p c F O H σ ρ n s sl Q Q' k q =>
  ht p c F O H σ ρ n s sl _ _ (fun b F2 O2 H2 n2 n1 q1 => by
    cases b with
    | true => exact ha p c F2 O2 H2 σ ρ n2 n1.s (sl.mono n1.e) Q Q' (fun v x F3 O3 H3 n3 nn => k v x F3 O3 H3 n3 (n1.trans nn)) q1
    | false => exact hb p c F2 O2 H2 σ ρ n2 n1.s (sl.mono n1.e) Q Q' (fun v x F3 O3 H3 n3 nn => k v x F3 O3 H3 n3 (n1.trans nn)) q1) q
theorem se_cb {r : List V → Hp → VK → Prop} {pr : PRL} (ha : SA K tl pl) (hr : SC K r pr) : SE K (tCB r tl) (pCB pr pl) := fun p c F O H σ ρ n s sl Q Q' k q =>
  ha p c F O H σ ρ n s sl _ _ (fun vs xs F2 O2 H2 n2 n1 rx q1 => hr p c F2 O2 H2 n2 n1.s xs vs rx _ _ (fun z u F4 H4 n5 ru q3 => k z u F4 O2 H4 n2 (n1.trans n5) ru q3) q1) q
theorem sc_len : SC K (fun xs H Q => ∃ p ys, xs = [.ref p] ∧ (SqL K H p ys ∨ SqT K H p ys) ∧ Q (.int ys.length) H) pLen := fun p c F O H n s xs vs rx Q Q' k ⟨x, m, e, hl, q⟩ => by
  subst e
  obtain ⟨v, ws, rfl, r, r2⟩ := rx.cons_inv
  cases r2
  cases r with
  | lst h l => cases hl; exact ⟨_, _, rfl, Or.inl (sq_of (s.f _ _ h)), by rw [l.len]; exact k _ _ F H (.refl s) (.int _) q⟩
  | tup h l => cases hl; exact ⟨_, _, rfl, Or.inr (st_of (s.f _ _ h)), by rw [l.len]; exact k _ _ F H (.refl s) (.int _) q⟩
  | scr h l => cases hl; exact ⟨_, _, rfl, Or.inl (ex_l s.f h), by rw [l]; exact k _ _ F H (.refl s) (.int _) q⟩
  | _ => cases hl
theorem sc_listOf : SC K (fun xs H Q => ∃ p ys, xs = [.ref p] ∧ (SqL K H p ys ∨ SqT K H p ys) ∧ ∀ l, H l = none → Q (.ref l) (upd H l (.lst ys))) pListOf := fun p c F O H n s xs vs rx Q Q' k ⟨x, ys, e, hl, q⟩ => by
  subst e
  obtain ⟨v, ws, rfl, r, r2⟩ := rx.cons_inv
  cases r2
  rcases hl with z | z
  · subst z
    obtain ⟨a, us, rfl, h1, h2⟩ := r.getL
    exact ⟨a, us, rfl, Or.inl (sq_of (s.f _ _ h1)), fun l hl => k _ _ _ _ (.new s hl) (.lst upd_same (h2.mono (Ex.new (s.notF hl)))) q⟩
  · subst z
    obtain ⟨a, us, rfl, h1, h2⟩ := r.getT
    exact ⟨a, us, rfl, Or.inr (st_of (s.f _ _ h1)), fun l hl => k _ _ _ _ (.new s hl) (.lst upd_same (h2.mono (Ex.new (s.notF hl)))) q⟩
theorem sc_tupOf : SC K (fun xs H Q => ∃ p ys, xs = [.ref p] ∧ ((SqL K H p ys ∧ ∀ l, H l = none → Q (.ref l) (upd H l (.tup ys))) ∨ (SqT K H p ys ∧ Q (.ref p) H))) pTupOf := fun p c F O H n s xs vs rx Q Q' k ⟨x, ys, e, hl, q⟩ => by
  subst e
  obtain ⟨v, ws, rfl, r, r2⟩ := rx.cons_inv
  cases r2
  rcases hl with z | z
  · subst z
    obtain ⟨a, us, rfl, h1, h2⟩ := r.getL
    exact ⟨a, us, rfl, Or.inl ⟨sq_of (s.f _ _ h1), fun l hl => k _ _ _ _ (.new s hl) (.tup upd_same (h2.mono (Ex.new (s.notF hl)))) q⟩⟩
  · subst z
    obtain ⟨a, us, rfl, h1, h2⟩ := r.getT
    exact ⟨a, us, rfl, Or.inr ⟨st_of (s.f _ _ h1), k _ _ F H (.refl s) (.tup h1 h2) q⟩⟩
theorem sc_min2 : SC K (fun xs H Q => ∃ i j, xs = [.int i, .int j] ∧ Q (.int (if j < i then j else i)) H) pMin2 := fun p c F O H n s xs vs rx Q Q' k ⟨i, j, e, q⟩ => by
  subst e
  obtain ⟨v, ws, rfl, r, r2⟩ := rx.cons_inv
  obtain ⟨v2, ws2, rfl, r3, r4⟩ := r2.cons_inv
  cases r4
  rw [r.getI, r3.getI]
  exact ⟨i, j, rfl, k _ _ F H (.refl s) (.int _) q⟩
theorem sc_max2 : SC K (fun xs H Q => ∃ i j, xs = [.int i, .int j] ∧ Q (.int (if j > i then j else i)) H) pMax2 := fun p c F O H n s xs vs rx Q Q' k ⟨i, j, e, q⟩ => by
  subst e
  obtain ⟨v, ws, rfl, r, r2⟩ := rx.cons_inv
  obtain ⟨v2, ws2, rfl, r3, r4⟩ := r2.cons_inv
  cases r4
  rw [r.getI, r3.getI]
  exact ⟨i, j, rfl, k _ _ F H (.refl s) (.int _) q⟩
theorem se_call {w : PSp} {E : XK} (ha : SA K tl pl) : SE K (tCall (lift K w) [] E tl) (pCall w pl) := fun p c F O H σ ρ n s sl Q Q' k q =>
  ha p c F O H σ ρ n s sl _ _ (fun vs xs F2 O2 H2 n2 n1 rx q1 => ⟨p, c, F2, O2, n2, xs, Q', n1.s, by rw [List.append_nil]; exact rx, q1, fun y n' v F3 O3 H3 q2 nn ry => k v y F3 O3 H3 n' (n1.trans nn) ry q2⟩) q
theorem se_meth {w : PSp} {E : XK} {C : Addr} {m : Str} (ho : SE K te pe) (ha : SA K tl pl) : SE K (tMeth C m (lift K w) [] E te tl) (pMeth C m w pe pl) := fun p c F O H σ ρ n s sl Q Q' k q =>
  ho p c F O H σ ρ n s sl _ _ (fun v x F2 O2 H2 n2 n1 rx ⟨fs, e, hm, q1⟩ => by
    subst e
    obtain ⟨a, dx, ws, rfl, h1, h2⟩ := rx.getO
    refine ⟨a, dx, ws, rfl, n1.s.f _ _ h1, h2.lookup_none hm, ?_⟩
    exact ha p c F2 O2 H2 σ ρ n2 n1.s (sl.mono n1.e) _ _ (fun vs xs F3 O3 H3 n3 nn rr q2 => ⟨p, c, F3, O3, n3, _, Q', nn.s, by rw [List.append_nil]; exact .cons (rx.mono nn.e) rr, q2, fun y n' v F4 O4 H4 q3 n5 ry => k v y F4 O4 H4 n' ((n1.trans nn).trans n5) ry q3⟩) q1) q
end
end Pu

set_option Elab.async false
set_option linter.all false
set_option maxRecDepth 100000
set_option maxHeartbeats 2000000
/-! U3: readings without a heap: slots, targets, statements -/
namespace Pu
open PySem PySem.Spec PyProof.Rows L2 Evl
open Classical in
noncomputable def base (W : Addr → Prop) (F : Hp) : Hp := fun a => if W a then none else F a
theorem base_y {W : Addr → Prop} {F : Hp} {a : Addr} (h : W a) : base W F a = none := if_pos h
theorem base_n {W : Addr → Prop} {F : Hp} {a : Addr} (h : ¬ W a) : base W F a = F a := if_neg h
theorem base_sub {W : Addr → Prop} {F : Hp} : Ex (base W F) F := fun a o h => by
  by_cases w : W a
  · rw [base_y w] at h; cases h
  · rw [base_n w] at h; exact h
theorem base_mono {W : Addr → Prop} {F F2 : Hp} (e : Ex F F2) : Ex (base W F) (base W F2) := fun a o h => by
  by_cases w : W a
  · rw [base_y w] at h; cases h
  · rw [base_n w] at h ⊢; exact e _ _ h
theorem base_less {W W' : Addr → Prop} {F : Hp} (h : ∀ a, W' a → W a) : Ex (base W F) (base W' F) := fun a o q => by
  by_cases w : W a
  · rw [base_y w] at q; cases q
  · rw [base_n w] at q
    rw [base_n fun z => w (h a z)]
    exact q
theorem ho_ntb (k : OK) (ys : List V) : ∀ ps, hoO k ys ≠ .tbl ps := fun ps z => by cases k <;> cases z
theorem nt_upd {F : Hp} {a : Addr} {o : HO} (h : ∀ a ps, F a ≠ some (.tbl ps)) (ho : ∀ ps, o ≠ .tbl ps) : ∀ b ps, upd F a o b ≠ some (.tbl ps) := fun b ps z => by
  by_cases e : b = a
  · subst e; rw [upd_same] at z; cases z; exact ho _ rfl
  · rw [upd_ne e] at z; exact h _ _ z
/-- the def's own lists -/
def Own (σ : L2.St) (ρ : PR) (a : Addr) : Prop := ∃ (i : Nat) (kxs : OK) (xs : List PV), ρ[i]? = some (.ow kxs xs) ∧ σ[i]? = some (some (.ref a))
structure SlB (K : PySem.W.Frag) (p : Addr) (Fb F : Hp) (σ : L2.St) (ρ : PR) : Prop where
  len : σ.length = ρ.length
  fr : ∀ (i : Nat) (x : PV), ρ[i]? = some (.fr x) → ∃ v, σ[i]? = some (some v) ∧ Rep K p Fb v x
  ow : ∀ (i : Nat) (kxs : OK) (xs : List PV), ρ[i]? = some (.ow kxs xs) → ∃ (a : Addr) (ys : List V), σ[i]? = some (some (.ref a)) ∧ F a = some (hoO kxs ys) ∧ RepL K p Fb ys xs
theorem SlB.sl {K : PySem.W.Frag} {p : Addr} {Fb F : Hp} {σ : L2.St} {ρ : PR} (h : SlB K p Fb F σ ρ) (e : Ex Fb F) : Sl K p F σ ρ := by
  refine ⟨h.len, fun i x hx => ?_⟩
  unfold getV at hx
  cases hs : ρ[i]? with
  | none => rw [hs] at hx; cases hx
  | some s =>
    rw [hs] at hx
    cases s with
    | no => cases hx
    | fr y =>
      cases hx
      obtain ⟨v, a, b⟩ := h.fr i x hs
      exact ⟨v, a, b.mono e⟩
    | ow ks xs =>
      cases ks with
      | some ks =>
        cases hx
        obtain ⟨a, ys, h1, h2, h3⟩ := h.ow i _ xs hs
        exact ⟨_, h1, .dic h2 (h3.mono e)⟩
      | none =>
        cases hx
        obtain ⟨a, ys, h1, h2, h3⟩ := h.ow i _ xs hs
        exact ⟨_, h1, .lst h2 (h3.mono e)⟩
def PS.hid : PS → PS
  | .ow _ _ => .no
  | s => s
def hide (ρ : PR) : PR := ρ.map PS.hid
theorem SlB.hid {K : PySem.W.Frag} {p : Addr} {Fb F : Hp} {σ : L2.St} {ρ : PR} (h : SlB K p Fb F σ ρ) : Sl K p Fb σ (hide ρ) := by
  refine ⟨by unfold hide; rw [List.length_map]; exact h.len, fun i x hx => ?_⟩
  unfold getV hide at hx
  rw [List.getElem?_map] at hx
  cases hs : ρ[i]? with
  | none => rw [hs] at hx; cases hx
  | some s =>
    rw [hs] at hx
    cases s with
    | no => cases hx
    | fr y =>
      cases hx
      exact h.fr i x hs
    | ow ks xs => cases hx
structure B (K : PySem.W.Frag) (p c : Addr) (M0 O0 : Hp) (σ : L2.St) (H : Hp) (ρ : PR) (n : Int) (F O : Hp) : Prop where
  st : St K p c F O H n
  off : OffP K p O0 O
  inj : ∀ (i j : Nat) (kxs kys : OK) (xs ys : List PV) (a : Addr), ρ[i]? = some (.ow kxs xs) → ρ[j]? = some (.ow kys ys) → σ[i]? = some (some (.ref a)) → σ[j]? = some (some (.ref a)) → i = j
  mc : ∃ cs : List Int, M0 c = some (.lst (cs.map V.int))
  m0 : Ex M0 (base (Own σ ρ) F)
  sl : SlB K p (base (Own σ ρ) F) F σ ρ
section
variable {K : PySem.W.Frag} {p c : Addr} {M0 O0 : Hp} {σ : L2.St} {H : Hp} {ρ : PR} {n : Int} {F O : Hp}
theorem B.ownF (b : B K p c M0 O0 σ H ρ n F O) {a : Addr} (h : Own σ ρ a) : ∃ k ys, F a = some (hoO k ys) := by
  obtain ⟨i, k, xs, h1, h2⟩ := h
  obtain ⟨a', ys, g1, g2, _⟩ := b.sl.ow i k xs h1
  rw [h2] at g1
  cases g1
  exact ⟨k, ys, g2⟩
theorem B.ownO (b : B K p c M0 O0 σ H ρ n F O) {a : Addr} (h : Own σ ρ a) : O a = none := by
  obtain ⟨_, ys, hy⟩ := b.ownF h
  rcases b.st.d a with z | z
  · rw [hy] at z; cases z
  · exact z
theorem B.ownp (b : B K p c M0 O0 σ H ρ n F O) : ¬ Own σ ρ p := fun h => by
  obtain ⟨_, _, h1, _⟩ := b.st.pen
  rw [b.ownO h] at h1
  cases h1
theorem B.ownc (b : B K p c M0 O0 σ H ρ n F O) : ¬ Own σ ρ c := fun h => by
  obtain ⟨cs, hc⟩ := b.mc
  have := b.m0 _ _ hc
  rw [base_y h] at this
  cases this
theorem B.ownT (b : B K p c M0 O0 σ H ρ n F O) {a : Addr} (h : isT K a) : ¬ Own σ ρ a := fun w => b.st.tabs.notT (b.ownO w) h
theorem B.ownCode (b : B K p c M0 O0 σ H ρ n F O) {a : Addr} {q : Str} (h : F a = some (LamX.CodeO a q)) : base (Own σ ρ) F a = some (LamX.CodeO a q) := by
  refine (base_n fun w => ?_).trans h
  obtain ⟨k, ys, hy⟩ := b.ownF w
  rw [h] at hy
  cases k <;> cases hy
/-- an expression that may read all slots -/
theorem B.step {F2 O2 H2 : Hp} {n2 : Int} (b : B K p c M0 O0 σ H ρ n F O) (h : Nx K p c F O F2 O2 H2 n2) : B K p c M0 O0 σ H2 ρ n2 F2 O2 :=
  ⟨h.s, b.off.trans h.o, b.inj, b.mc, b.m0.trans (base_mono h.e), ⟨b.sl.len, fun i x hx => let ⟨v, q, r⟩ := b.sl.fr i x hx; ⟨v, q, r.mono (base_mono h.e)⟩, fun i k x hx => let ⟨v, ys, q, r, r2⟩ := b.sl.ow i k x hx; ⟨v, ys, q, h.e _ _ r, r2.mono (base_mono h.e)⟩⟩⟩
open Classical in
/-- the frame beside what is not the def's own -/
noncomputable def over (W : Addr → Prop) (F O : Hp) : Hp := fun a => if W a then F a else O a
theorem over_y {W : Addr → Prop} {F O : Hp} {a : Addr} (h : W a) : over W F O a = F a := if_pos h
theorem over_n {W : Addr → Prop} {F O : Hp} {a : Addr} (h : ¬ W a) : over W F O a = O a := if_neg h
theorem B.stB (b : B K p c M0 O0 σ H ρ n F O) : St K p c (base (Own σ ρ) F) (over (Own σ ρ) F O) H n := by
  obtain ⟨cs, hc⟩ := b.st.cells
  obtain ⟨at_, l, hp, h3⟩ := b.st.pen
  refine ⟨base_sub.trans b.st.f, fun a o h => ?_, fun a => ?_, fun a u h => ?_, ⟨at_, l, by rw [over_n b.ownp]; exact hp, h3⟩, ⟨cs, by rw [base_n b.ownc]; exact hc⟩, b.st.tabs.mono (fun c q h => b.ownCode h) (fun a ha => over_n (b.ownT ha)) (fun a ps h => b.st.tabs.nt a ps (base_sub _ _ h)) fun a ps h => ?_⟩
  · by_cases w : Own σ ρ a
    · rw [over_y w] at h; exact b.st.f _ _ h
    · rw [over_n w] at h; exact b.st.o _ _ h
  · by_cases w : Own σ ρ a
    · exact Or.inl (base_y w)
    · rw [base_n w, over_n w]; exact b.st.d a
  · by_cases w : Own σ ρ a
    · rw [over_y w] at h
      obtain ⟨_, ys, hy⟩ := b.ownF w
      rw [hy] at h
      cases h
      exact ho_soft _ _
    · rw [over_n w] at h; exact b.st.k _ _ h
  · by_cases w : Own σ ρ a
    · rw [over_y w] at h
      exact absurd h (b.st.tabs.nt a ps)
    · rw [over_n w] at h
      exact b.st.tabs.ot a ps h
theorem B.stepB {F2 O2 H2 : Hp} {n2 : Int} (b : B K p c M0 O0 σ H ρ n F O) (h : Nx K p c (base (Own σ ρ) F) (over (Own σ ρ) F O) F2 O2 H2 n2) :
    ∃ F3 O3, B K p c M0 O0 σ H2 ρ n2 F3 O3 ∧ base (Own σ ρ) F3 = F2 := by
  have hd : ∀ a, Own σ ρ a → O2 a = F a := fun a w => by rw [h.o a (fun z => b.ownp (z ▸ w)) (fun z => b.ownT z w), over_y w]
  have hn : ∀ a, Own σ ρ a → F2 a = none := fun a w => by
    obtain ⟨_, ys, hy⟩ := b.ownF w
    rcases h.s.d a with z | z
    · exact z
    · rw [hd a w, hy] at z; cases z
  have hb : base (Own σ ρ) (over (Own σ ρ) F F2) = F2 := by
    funext a
    by_cases w : Own σ ρ a
    · rw [base_y w, hn a w]
    · rw [base_n w, over_n w]
  have hoff : OffP K p O (base (Own σ ρ) O2) := fun a ha ht => by
    by_cases w : Own σ ρ a
    · rw [base_y w, b.ownO w]
    · rw [base_n w, h.o a ha ht, over_n w]
  obtain ⟨cs, hc⟩ := h.s.cells
  obtain ⟨at_, l, hp, h3⟩ := h.s.pen
  refine ⟨over (Own σ ρ) F F2, base (Own σ ρ) O2, ⟨⟨fun a o q => ?_, base_sub.trans h.s.o, fun a => ?_, fun a u q => h.s.k a u (base_sub _ _ q), ⟨at_, l, by rw [base_n b.ownp]; exact hp, h3⟩, ⟨cs, by rw [over_n b.ownc]; exact hc⟩, h.s.tabs.mono (fun c q hq => (over_n fun w => by rw [hn c w] at hq; cases hq).trans hq) (fun a ha => base_n (b.ownT ha)) (fun a ps hq => ?_) (fun a ps hq => h.s.tabs.ot a ps (base_sub _ _ hq))⟩, b.off.trans hoff, b.inj, b.mc, ?_, ⟨b.sl.len, fun i x hx => ?_, fun i k x hx => ?_⟩⟩, hb⟩
  · by_cases w : Own σ ρ a
    · rw [over_y w] at q
      exact h.s.o _ _ (by rw [hd a w]; exact q)
    · rw [over_n w] at q; exact h.s.f _ _ q
  · by_cases w : Own σ ρ a
    · exact Or.inr (base_y w)
    · rw [over_n w, base_n w]; exact h.s.d a
  · by_cases w : Own σ ρ a
    · rw [over_y w] at hq
      exact b.st.tabs.nt a ps hq
    · rw [over_n w] at hq
      exact h.s.tabs.nt a ps hq
  · rw [hb]; exact b.m0.trans h.e
  · rw [hb]
    obtain ⟨v, q, r⟩ := b.sl.fr i x hx
    exact ⟨v, q, r.mono h.e⟩
  · rw [hb]
    obtain ⟨a, ys, q, r, r2⟩ := b.sl.ow i k x hx
    exact ⟨a, ys, q, by rw [over_y ⟨i, k, x, hx, q⟩]; exact r, r2.mono h.e⟩
theorem own_set {i : Nat} {v : V} {x : PV} {a : Addr} (h : Own (σ.set i (some v)) (ρ.set i (.fr x)) a) : Own σ ρ a := by
  obtain ⟨j, k, xs, h1, h2⟩ := h
  by_cases e : i = j
  · subst e
    rw [List.getElem?_set] at h1
    simp only [if_true] at h1
    split at h1 <;> cases h1
  · rw [List.getElem?_set_ne e] at h1 h2
    exact ⟨j, k, xs, h1, h2⟩
/-- a slot is given a value -/
theorem B.set {i : Nat} {v : V} {x : PV} (b : B K p c M0 O0 σ H ρ n F O) (hx : Rep K p (base (Own σ ρ) F) v x) : B K p c M0 O0 (σ.set i (some v)) H (ρ.set i (.fr x)) n F O := by
  have hb : Ex (base (Own σ ρ) F) (base (Own (σ.set i (some v)) (ρ.set i (.fr x))) F) := base_less fun a => own_set
  refine ⟨b.st, b.off, fun j k k1 k2 xs ys a h1 h2 h3 h4 => ?_, b.mc, b.m0.trans hb, ⟨by rw [List.length_set, List.length_set]; exact b.sl.len, fun j y hy => ?_, fun j k y hy => ?_⟩⟩
  · have ne : ∀ {j : Nat} {kxs : OK} {xs : List PV}, (ρ.set i (.fr x))[j]? = some (.ow kxs xs) → i ≠ j := fun {j kxs xs} h e => by
      subst e
      rw [List.getElem?_set] at h
      simp only [if_true] at h
      split at h <;> cases h
    rw [List.getElem?_set_ne (ne h1)] at h3
    rw [List.getElem?_set_ne (ne h2)] at h4
    rw [List.getElem?_set_ne (ne h1)] at h1
    rw [List.getElem?_set_ne (ne h2)] at h2
    exact b.inj j k _ _ xs ys a h1 h2 h3 h4
  · by_cases e : i = j
    · subst e
      rw [List.getElem?_set] at hy ⊢
      simp only [if_true] at hy ⊢
      split at hy
      · rename_i hl
        cases hy
        rw [b.sl.len, if_pos hl]
        exact ⟨v, rfl, hx.mono hb⟩
      · cases hy
    · rw [List.getElem?_set_ne e] at hy ⊢
      obtain ⟨w, q, r⟩ := b.sl.fr j y hy
      exact ⟨w, q, r.mono hb⟩
  · by_cases e : i = j
    · subst e
      rw [List.getElem?_set] at hy
      simp only [if_true] at hy
      split at hy <;> cases hy
    · rw [List.getElem?_set_ne e] at hy ⊢
      obtain ⟨w, ys, q, r, r2⟩ := b.sl.ow j k y hy
      exact ⟨w, ys, q, r, r2.mono hb⟩
/-- an own list is changed: xs for what stood there -/
theorem B.put {i : Nat} {a : Addr} {kxs0 : OK} (kxs : OK) {xs0 xs : List PV} {ys : List V} (b : B K p c M0 O0 σ H ρ n F O) (h : ρ[i]? = some (.ow kxs0 xs0)) (ha : σ[i]? = some (some (.ref a))) (hx : RepL K p (base (Own σ ρ) F) ys xs) :
    B K p c M0 O0 σ (upd H a (hoO kxs ys)) (ρ.set i (.ow kxs xs)) n (upd F a (hoO kxs ys)) O := by
  have hil : i < ρ.length := (List.getElem?_eq_some_iff.mp h).1
  have oa : Own σ ρ a := ⟨i, kxs0, xs0, h, ha⟩
  have look : ∀ {j : Nat} {s : PS}, j ≠ i → ((ρ.set i (.ow kxs xs))[j]? = some s ↔ ρ[j]? = some s) := fun {j s} hj => by rw [List.getElem?_set_ne (Ne.symm hj)]
  have self : (ρ.set i (.ow kxs xs))[i]? = some (.ow kxs xs) := by rw [List.getElem?_set_self hil]
  have ho : ∀ q, Own σ (ρ.set i (.ow kxs xs)) q ↔ Own σ ρ q := fun q => by
    constructor
    · rintro ⟨j, kz, zs, h1, h2⟩
      by_cases e : j = i
      · subst e; exact ⟨j, kxs0, xs0, h, h2⟩
      · exact ⟨j, kz, zs, (look e).mp h1, h2⟩
    · rintro ⟨j, kz, zs, h1, h2⟩
      by_cases e : j = i
      · subst e; exact ⟨j, kxs, xs, self, h2⟩
      · exact ⟨j, kz, zs, (look e).mpr h1, h2⟩
  have hb : base (Own σ (ρ.set i (.ow kxs xs))) (upd F a (hoO kxs ys)) = base (Own σ ρ) F := by
    funext q
    by_cases w : Own σ ρ q
    · rw [base_y w, base_y ((ho q).mpr w)]
    · rw [base_n w, base_n fun z => w ((ho q).mp z), upd_ne (show q ≠ a from fun z => w (by rw [z]; exact oa))]
  have hc : c ≠ a := fun z => b.ownc (z ▸ oa)
  obtain ⟨cs, hcs⟩ := b.st.cells
  refine ⟨⟨fun q o hq => ?_, fun q o hq => ?_, fun q => ?_, b.st.k, b.st.pen, ⟨cs, by rw [upd_ne hc]; exact hcs⟩, b.st.tabs.mono (fun d q hq => (upd_ne fun z => by
      obtain ⟨k, zs, hz⟩ := b.ownF oa
      rw [← z, hq] at hz
      cases k <;> cases hz).trans hq) (fun _ _ => rfl) (nt_upd b.st.tabs.nt (ho_ntb _ _)) b.st.tabs.ot⟩, b.off, fun j k k1 k2 zs ws q h1 h2 h3 h4 => ?_, b.mc, by rw [hb]; exact b.m0, ⟨by rw [List.length_set]; exact b.sl.len, fun j y hy => ?_, fun j ky y hy => ?_⟩⟩
  · by_cases e : q = a
    · subst e; rw [upd_same] at hq ⊢; exact hq
    · rw [upd_ne e] at hq ⊢; exact b.st.f _ _ hq
  · have e : q ≠ a := fun z => by rw [z, b.ownO oa] at hq; cases hq
    rw [upd_ne e]; exact b.st.o _ _ hq
  · by_cases e : q = a
    · subst e; exact Or.inr (b.ownO oa)
    · rw [upd_ne e]; exact b.st.d q
  · have conv : ∀ {j : Nat} {kzs : OK} {zs : List PV}, (ρ.set i (.ow kxs xs))[j]? = some (.ow kzs zs) → ∃ ku us, ρ[j]? = some (.ow ku us) := fun {j kzs zs} hj => by
      by_cases e : j = i
      · subst e; exact ⟨_, _, h⟩
      · exact ⟨_, _, (look e).mp hj⟩
    obtain ⟨ku, us, g1⟩ := conv h1
    obtain ⟨ku2, us2, g2⟩ := conv h2
    exact b.inj j k _ _ _ _ q g1 g2 h3 h4
  · have e : j ≠ i := fun z => by rw [z, self] at hy; cases hy
    rw [hb]
    exact b.sl.fr j y ((look e).mp hy)
  · rw [hb]
    by_cases e : j = i
    · subst e
      rw [self] at hy
      cases hy
      exact ⟨a, ys, ha, upd_same, hx⟩
    · obtain ⟨q, zs, g1, g2, g3⟩ := b.sl.ow j ky y ((look e).mp hy)
      have : q ≠ a := fun z => e (b.inj j i ky kxs0 y xs0 a ((look e).mp hy) h (by rw [← z]; exact g1) ha)
      exact ⟨q, zs, g1, by rw [upd_ne this]; exact g2, g3⟩
/-- a new list of the def's own -/
theorem B.setOw {i : Nat} {a : Addr} (kxs : OK) {xs : List PV} {ys : List V} (b : B K p c M0 O0 σ H ρ n F O) (hF : F a = none) (hO : O a = none) (hH : H a = some (hoO kxs ys)) (hx : RepL K p (base (Own σ ρ) F) ys xs) :
    B K p c M0 O0 (σ.set i (some (.ref a))) H (ρ.set i (.ow kxs xs)) n (upd F a (hoO kxs ys)) O := by
  have noa : ¬ Own σ ρ a := fun w => by
    obtain ⟨_, zs, hz⟩ := b.ownF w
    rw [hF] at hz
    cases hz
  have hown : ∀ q, Own (σ.set i (some (.ref a))) (ρ.set i (.ow kxs xs)) q → q = a ∨ Own σ ρ q := by
    rintro q ⟨j, kz, zs, h1, h2⟩
    by_cases e : i = j
    · subst e
      rw [List.getElem?_set] at h2
      simp only [if_true] at h2
      split at h2
      · cases h2; exact Or.inl rfl
      · cases h2
    · rw [List.getElem?_set_ne e] at h1 h2
      exact Or.inr ⟨j, kz, zs, h1, h2⟩
  have hb : Ex (base (Own σ ρ) F) (base (Own (σ.set i (some (.ref a))) (ρ.set i (.ow kxs xs))) (upd F a (hoO kxs ys))) := fun q o hq => by
    have w : ¬ Own σ ρ q := fun w => by rw [base_y w] at hq; cases hq
    rw [base_n w] at hq
    have e : q ≠ a := fun z => by rw [z, hF] at hq; cases hq
    rw [base_n fun z => (hown q z).elim e w, upd_ne e]
    exact hq
  obtain ⟨cs, hcs⟩ := b.st.cells
  have hc : c ≠ a := fun z => by rw [z, hF] at hcs; cases hcs
  refine ⟨⟨fun q o hq => ?_, b.st.o, fun q => ?_, b.st.k, b.st.pen, ⟨cs, by rw [upd_ne hc]; exact hcs⟩, b.st.tabs.upF hF (ho_ntb _ _)⟩, b.off, fun j k k1 k2 zs ws q h1 h2 h3 h4 => ?_, b.mc, b.m0.trans hb, ⟨by rw [List.length_set, List.length_set]; exact b.sl.len, fun j y hy => ?_, fun j ky y hy => ?_⟩⟩
  · by_cases e : q = a
    · subst e; rw [upd_same] at hq; cases hq; exact hH
    · rw [upd_ne e] at hq; exact b.st.f _ _ hq
  · by_cases e : q = a
    · subst e; exact Or.inr hO
    · rw [upd_ne e]; exact b.st.d q
  · have old : ∀ {j : Nat} {kzs : OK} {zs : List PV} {q : Addr}, i ≠ j → (ρ.set i (.ow kxs xs))[j]? = some (.ow kzs zs) → (σ.set i (some (.ref a)))[j]? = some (some (.ref q)) → q ≠ a := fun {j kzs zs q} e g1 g2 z => by
      rw [List.getElem?_set_ne e] at g1 g2
      rw [z] at g2
      exact noa ⟨j, kzs, zs, g1, g2⟩
    have at_i : ∀ {q : Addr}, (σ.set i (some (.ref a)))[i]? = some (some (V.ref q)) → q = a := fun {q} g => by
      rw [List.getElem?_set] at g
      simp only [if_true] at g
      split at g
      · cases g; rfl
      · cases g
    by_cases e1 : i = j
    · subst e1
      by_cases e2 : i = k
      · exact e2
      · exact absurd (at_i h3) (old e2 h2 h4)
    · by_cases e2 : i = k
      · subst e2
        exact absurd (at_i h4) (old e1 h1 h3)
      · rw [List.getElem?_set_ne e1] at h1 h3
        rw [List.getElem?_set_ne e2] at h2 h4
        exact b.inj j k _ _ zs ws q h1 h2 h3 h4
  · have e : i ≠ j := fun z => by
      subst z
      rw [List.getElem?_set] at hy
      simp only [if_true] at hy
      split at hy <;> cases hy
    rw [List.getElem?_set_ne e] at hy ⊢
    obtain ⟨w, q, r⟩ := b.sl.fr j y hy
    exact ⟨w, q, r.mono hb⟩
  · by_cases e : i = j
    · subst e
      rw [List.getElem?_set] at hy ⊢
      simp only [if_true] at hy ⊢
      split at hy
      · rename_i hl
        cases hy
        rw [b.sl.len, if_pos hl]
        exact ⟨a, ys, rfl, upd_same, hx.mono hb⟩
      · cases hy
    · rw [List.getElem?_set_ne e] at hy ⊢
      obtain ⟨q, zs, g1, g2, g3⟩ := b.sl.ow j ky y hy
      have : q ≠ a := fun z => by rw [z, hF] at g2; cases g2
      exact ⟨q, zs, g1, by rw [upd_ne this]; exact g2, g3.mono hb⟩
end
/-! ### what has no list in it -/
mutual
def noL : PV → Bool
  | .lst _ => false
  | .scr _ => false
  | .raw _ => false
  | .dic _ _ => false
  | .tup xs => noLL xs
  | .ob _ fs => noLF fs
  | _ => true
def noLL : List PV → Bool
  | [] => true
  | x :: xs => noL x && noLL xs
def noLF : List (Str × PV) → Bool
  | [] => true
  | (_, x) :: xs => noL x && noLF xs
end
mutual
theorem rep_noL {K : PySem.W.Frag} {p : Addr} {F F2 : Hp} (h : ∀ a u, F a = some u → soft u = false → F2 a = some u) : ∀ {v : V} {x : PV}, Rep K p F v x → noL x = true → Rep K p F2 v x
  | _, _, .non, _ => .non
  | _, _, .bl b, _ => .bl b
  | _, _, .int b, _ => .int b
  | _, _, .str b, _ => .str b
  | _, _, .raw b, e => by cases e
  | _, _, .pen, _ => .pen
  | _, _, .scr _ _, e => by cases e
  | _, _, .tup q l, e => .tup (h _ _ q rfl) (repL_noL h l (by unfold noL at e; exact e))
  | _, _, .lst _ _, e => by cases e
  | _, _, .dic _ _, e => by cases e
  | _, _, .ob q l, e => .ob (h _ _ q rfl) (repF_noL h l (by unfold noL at e; exact e))
theorem repL_noL {K : PySem.W.Frag} {p : Addr} {F F2 : Hp} (h : ∀ a u, F a = some u → soft u = false → F2 a = some u) : ∀ {v : List V} {x : List PV}, RepL K p F v x → noLL x = true → RepL K p F2 v x
  | _, _, .nil, _ => .nil
  | _, _, .cons a b, e => by
    unfold noLL at e
    have := Bool.and_eq_true_iff.mp e
    exact .cons (rep_noL h a this.1) (repL_noL h b this.2)
theorem repF_noL {K : PySem.W.Frag} {p : Addr} {F F2 : Hp} (h : ∀ a u, F a = some u → soft u = false → F2 a = some u) : ∀ {v : List (Str × V)} {x : List (Str × PV)}, RepF K p F v x → noLF x = true → RepF K p F2 v x
  | _, _, .nil, _ => .nil
  | _, _, .cons a b, e => by
    unfold noLF at e
    have := Bool.and_eq_true_iff.mp e
    exact .cons (rep_noL h a this.1) (repF_noL h b this.2)
end
theorem B.noL {K : PySem.W.Frag} {p c : Addr} {M0 O0 : Hp} {σ : L2.St} {H : Hp} {ρ : PR} {n : Int} {F O : Hp} (b : B K p c M0 O0 σ H ρ n F O) {v : V} {x : PV} (h : Rep K p F v x) (e : Pu.noL x = true) : Rep K p (base (Own σ ρ) F) v x :=
  rep_noL (fun a u ha hs => by
    have w : ¬ Own σ ρ a := fun w => by
      obtain ⟨_, ys, hy⟩ := b.ownF w
      rw [ha] at hy
      cases hy
      rw [ho_soft] at hs
      cases hs
    rw [base_n w]
    exact ha) h e
end Pu

set_option Elab.async false
set_option linter.all false
set_option maxRecDepth 100000
set_option maxHeartbeats 2000000
/-! U4: readings without a heap: targets, what is walked, comprehensions, statements, defs -/
namespace Pu
open PySem PySem.Spec PyProof.Rows L2 Evl
/-! ### targets -/
abbrev PTG := PV → PR → (PR → Prop) → Prop
abbrev PTGs := List PV → PR → (PR → Prop) → Prop
def noOw (ρ : PR) : Bool := ρ.all fun s => match s with | .ow _ _ => false | _ => true
/-- what may be put into a slot: nothing of the def's own lists -/
def stow (ρ : PR) (x : PV) : Bool := noOw ρ || noL x
def pgName (i : Nat) : PTG := fun x ρ Q => Q (ρ.set i (.fr x))
def pgNil : PTGs := fun xs ρ Q => xs = [] ∧ Q ρ
def pgCons (g : PTG) (gs : PTGs) : PTGs := fun xs ρ Q => ∃ x r, xs = x :: r ∧ g x ρ fun ρ1 => gs r ρ1 Q
def pgTup (n : Nat) (gs : PTGs) : PTG := fun x ρ Q => ∃ xs, x = .tup xs ∧ xs.length = n ∧ gs xs ρ Q
def SG (K : PySem.W.Frag) (g : TG) (pg : PTG) (vs : List Nat) : Prop := ∀ p c M0 O0 σ H ρ n F O v x, B K p c M0 O0 σ H ρ n F O → Rep K p (base (Own σ ρ) F) v x → ∀ (Q : L2.St → Hp → Prop) (Q' : PR → Prop),
  (∀ σ2 ρ2, B K p c M0 O0 σ2 H ρ2 n F O → (∀ a, Own σ2 ρ2 a → Own σ ρ a) → wipe σ2 vs = wipe σ vs → Q' ρ2 → Q σ2 H) → pg x ρ Q' → g v σ H Q
def SGs (K : PySem.W.Frag) (g : TGs) (pg : PTGs) (vs : List Nat) : Prop := ∀ p c M0 O0 σ H ρ n F O us xs, B K p c M0 O0 σ H ρ n F O → RepL K p (base (Own σ ρ) F) us xs → ∀ (Q : L2.St → Hp → Prop) (Q' : PR → Prop),
  (∀ σ2 ρ2, B K p c M0 O0 σ2 H ρ2 n F O → (∀ a, Own σ2 ρ2 a → Own σ ρ a) → wipe σ2 vs = wipe σ vs → Q' ρ2 → Q σ2 H) → pg xs ρ Q' → g us σ H Q
theorem wipe_at (σ : L2.St) (i : Nat) : ∀ vs : List Nat, (wipe σ vs)[i]? = if i < σ.length then (if i ∈ vs then some none else σ[i]?) else none
  | [] => by
    show σ[i]? = _
    split
    · simp
    · rename_i h
      exact List.getElem?_eq_none (by omega)
  | v :: vs => by
    show ((wipe σ vs).set v none)[i]? = _
    have ih := wipe_at σ i vs
    by_cases e : v = i
    · subst e
      rw [List.getElem?_set]
      simp only [if_true, wipe_length]
      split
      · simp
      · rfl
    · rw [List.getElem?_set_ne e, ih]
      have : (i ∈ v :: vs) ↔ i ∈ vs := by simp [Ne.symm e]
      simp only [this]
theorem wipe_app (σ : L2.St) : ∀ a b : List Nat, wipe σ (a ++ b) = wipe (wipe σ b) a
  | [], _ => rfl
  | v :: a, b => by
    show (wipe σ (a ++ b)).set v none = (wipe (wipe σ b) a).set v none
    rw [wipe_app σ a b]
theorem wipe_comm (σ : L2.St) (a b : List Nat) : wipe (wipe σ b) a = wipe (wipe σ a) b := by
  apply List.ext_getElem?
  intro i
  rw [wipe_at, wipe_at, wipe_at, wipe_at, wipe_length, wipe_length]
  split
  · split <;> split <;> simp_all
  · rfl
theorem B.own_no {K : PySem.W.Frag} {p c : Addr} {M0 O0 : Hp} {σ : L2.St} {H : Hp} {ρ : PR} {n : Int} {F O : Hp} (b : B K p c M0 O0 σ H ρ n F O) (h : noOw ρ = true) : base (Own σ ρ) F = F := by
  funext a
  refine base_n fun w => ?_
  obtain ⟨i, _, xs, h1, _⟩ := w
  have := List.all_eq_true.mp h _ (List.mem_of_getElem? h1)
  cases this
theorem B.stow {K : PySem.W.Frag} {p c : Addr} {M0 O0 : Hp} {σ : L2.St} {H : Hp} {ρ : PR} {n : Int} {F O : Hp} (b : B K p c M0 O0 σ H ρ n F O) {v : V} {x : PV} (h : Rep K p F v x) (e : Pu.stow ρ x = true) : Rep K p (base (Own σ ρ) F) v x := by
  rcases Bool.or_eq_true_iff.mp e with z | z
  · rw [b.own_no z]; exact h
  · exact b.noL h z
section
variable {K : PySem.W.Frag} {g : TG} {pg : PTG} {gs : TGs} {pgs : PTGs} {vs ws : List Nat}
theorem sg_name {i : Nat} : SG K (gName i) (pgName i) [i] := fun p c M0 O0 σ H ρ n F O v x b r Q Q' k q => by
  refine k _ _ (b.set r) (fun a => own_set) ?_ q
  show (σ.set i (some v)).set i none = σ.set i none
  rw [List.set_set]
theorem sgs_nil : SGs K gNil pgNil [] := fun p c M0 O0 σ H ρ n F O us xs b r Q Q' k ⟨e, q⟩ => by
  subst e
  exact ⟨r.nil_inv, k σ ρ b (fun a h => h) rfl q⟩
theorem sgs_cons (h1 : SG K g pg vs) (h2 : SGs K gs pgs ws) : SGs K (gCons g gs) (pgCons pg pgs) (vs ++ ws) := fun p c M0 O0 σ H ρ n F O us xs b r Q Q' k ⟨x, rs, e, q⟩ => by
  subst e
  obtain ⟨v, us', rfl, r1, r2⟩ := r.cons_inv
  refine ⟨v, us', rfl, ?_⟩
  refine h1 p c M0 O0 σ H ρ n F O v x b r1 _ _ (fun σ1 ρ1 b1 o1 w1 q1 => ?_) q
  refine h2 p c M0 O0 σ1 H ρ1 n F O us' rs b1 (r2.mono (base_less o1)) _ _ (fun σ2 ρ2 b2 o2 w2 q2 => k σ2 ρ2 b2 (fun a h => o1 a (o2 a h)) ?_ q2) q1
  rw [wipe_app, w2, wipe_comm, w1, wipe_comm, ← wipe_app]
theorem sg_tup {m : Nat} (h : SGs K gs pgs vs) : SG K (gTup K m gs) (pgTup m pgs) vs := fun p c M0 O0 σ H ρ n F O v x b r Q Q' k ⟨xs, e, hl, q⟩ => by
  subst e
  obtain ⟨a, ys, rfl, h1, h2⟩ := r.getT
  exact ⟨a, ys, rfl, st_of (b.st.f _ _ (base_sub _ _ h1)), by rw [h2.len]; exact hl, h p c M0 O0 σ H ρ n F O ys xs b h2 Q Q' k q⟩
end
/-! ### what is walked -/
abbrev PTI := PR → Int → (List PV → Int → Prop) → Prop
def Wk (K : PySem.W.Frag) (p c : Addr) (J : It) (F : Hp) (xs : List PV) : Prop := ∀ i F1 O1 H1 n1, Ex F F1 → St K p c F1 O1 H1 n1 →
  (xs.length ≤ i → J.stop i H1) ∧ ∀ y, xs[i]? = some y → J.go i H1 ∧ ∀ v H2, J.yld i H1 v H2 → ∃ F2, Nx K p c F1 O1 F2 O1 H2 n1 ∧ Rep K p F2 v y
def SI (K : PySem.W.Frag) (wi : TI) (pi : PTI) : Prop := ∀ p c F O H σ ρ n, St K p c F O H n → Sl K p F σ ρ → ∀ (R : It → Hp → Prop) (Q' : List PV → Int → Prop),
  (∀ J xs F2 O2 H2 n2, Nx K p c F O F2 O2 H2 n2 → Wk K p c J F2 xs → Q' xs n2 → R J H2) → pi ρ n Q' → wi σ H R
def piL (pe : PTE) : PTI := fun ρ n Q => pe ρ n fun x n1 => ∃ xs, x = .lst xs ∧ Q xs n1
def piT (pe : PTE) : PTI := fun ρ n Q => pe ρ n fun x n1 => ∃ xs, x = .tup xs ∧ Q xs n1
def rng (lo : Int) (m : Nat) : List PV := (List.range m).map fun i => .int (lo + (i : Nat))
def piR1 (pa : PTA) : PTI := fun ρ n Q => pa ρ n fun xs n1 => ∃ j : Int, xs = [.int j] ∧ -100000 ≤ j ∧ j ≤ 100000 ∧ Q (rng 0 j.toNat) n1
def piR2 (pa : PTA) : PTI := fun ρ n Q => pa ρ n fun xs n1 => ∃ i j : Int, xs = [.int i, .int j] ∧ -1000000000000 ≤ i ∧ i ≤ 1000000000000 ∧ -1000000000000 ≤ j ∧ j ≤ 1000000000000 ∧ Q (rng i (j - i).toNat) n1
def enum (xs : List PV) : List PV := xs.zipIdx.map fun p => .tup [.int (p.2 : Nat), p.1]
def piEn (pa : PTA) : PTI := fun ρ n Q => pa ρ n fun ys n1 => ∃ xs, ys = [.lst xs] ∧ Q (enum xs) n1
def piEnT (pa : PTA) : PTI := fun ρ n Q => pa ρ n fun ys n1 => ∃ xs, ys = [.tup xs] ∧ Q (enum xs) n1
section
variable {K : PySem.W.Frag} {ta : TA} {pa : PTA} {te : TE} {pe : PTE}
theorem rng_at {lo : Int} {m i : Nat} : (rng lo m)[i]? = if i < m then some (.int (lo + (i : Nat))) else none := by
  unfold rng
  by_cases h : i < m
  · rw [List.getElem?_map, List.getElem?_range h, if_pos h]
    rfl
  · rw [if_neg h]
    exact List.getElem?_eq_none (by simp; omega)
theorem rng_len {lo : Int} {m : Nat} : (rng lo m).length = m := by unfold rng; simp
theorem enum_len {xs : List PV} : (enum xs).length = xs.length := by unfold enum; simp
theorem enum_at {xs : List PV} {i : Nat} : (enum xs)[i]? = (xs[i]?).map fun x => .tup [.int (i : Nat), x] := by
  unfold enum
  rw [List.getElem?_map, List.getElem?_zipIdx, Option.map_map]
  cases xs[i]? with
  | none => rfl
  | some x => simp
theorem wk_list {p c : Addr} {F : Hp} {a : Addr} {ys : List V} {xs : List PV} (h : F a = some (.lst ys)) (r : RepL K p F ys xs) : Wk K p c (Itl K a) F xs := fun i F1 O1 H1 n1 e s => by
  have h1 : SqL K H1 a ys := sq_of (s.f _ _ (e _ _ h))
  refine ⟨fun hi => ⟨ys, h1, by rw [r.len]; exact hi⟩, fun y hy => ?_⟩
  obtain ⟨v, hv, rv⟩ := r.get hy
  refine ⟨⟨ys, v, h1, hv⟩, fun u H2 hyl => ?_⟩
  obtain ⟨rfl, g⟩ := hyl
  have := g ys h1
  rw [hv] at this
  cases this
  exact ⟨F1, .refl s, rv.mono e⟩
theorem wk_tup {p c : Addr} {F : Hp} {a : Addr} {ys : List V} {xs : List PV} (h : F a = some (.tup ys)) (r : RepL K p F ys xs) : Wk K p c (Itt K a) F xs := fun i F1 O1 H1 n1 e s => by
  have h1 : SqT K H1 a ys := st_of (s.f _ _ (e _ _ h))
  refine ⟨fun hi => ⟨ys, h1, by rw [r.len]; exact hi⟩, fun y hy => ?_⟩
  obtain ⟨v, hv, rv⟩ := r.get hy
  refine ⟨⟨ys, v, h1, hv⟩, fun u H2 hyl => ?_⟩
  obtain ⟨rfl, g⟩ := hyl
  have := g ys h1
  rw [hv] at this
  cases this
  exact ⟨F1, .refl s, rv.mono e⟩
theorem wk_rng {p c : Addr} {F : Hp} {lo : Int} {m : Nat} : Wk K p c (Itr lo m) F (rng lo m) := fun i F1 O1 H1 n1 e s => by
  refine ⟨fun hi => by rw [rng_len] at hi; exact hi, fun y hy => ?_⟩
  rw [rng_at] at hy
  split at hy
  · rename_i hl
    cases hy
    refine ⟨hl, fun u H2 hyl => ?_⟩
    obtain ⟨rfl, rfl⟩ := hyl
    exact ⟨F1, .refl s, .int _⟩
  · cases hy
theorem wk_en {p c : Addr} {F : Hp} {a : Addr} {ys : List V} {xs : List PV} (h : F a = some (.lst ys)) (r : RepL K p F ys xs) : Wk K p c (Ite K a) F (enum xs) := fun i F1 O1 H1 n1 e s => by
  have h1 : SqL K H1 a ys := sq_of (s.f _ _ (e _ _ h))
  refine ⟨fun hi => ⟨ys, h1, by rw [r.len, ← enum_len]; exact hi⟩, fun y hy => ?_⟩
  rw [enum_at] at hy
  obtain ⟨x, hx, rfl⟩ := Option.map_eq_some_iff.mp hy
  obtain ⟨v, hv, rv⟩ := r.get hx
  refine ⟨⟨ys, v, h1, hv⟩, fun u H2 hyl => ?_⟩
  obtain ⟨T, w, rfl, hT, rfl, g⟩ := hyl
  have := g ys h1
  rw [hv] at this
  cases this
  exact ⟨_, .new s hT, .tup upd_same (.cons (.int _) (.cons ((rv.mono e).mono (Ex.new (s.notF hT))) .nil))⟩
theorem wk_enT {p c : Addr} {F : Hp} {a : Addr} {ys : List V} {xs : List PV} (h : F a = some (.tup ys)) (r : RepL K p F ys xs) : Wk K p c (Age.IteT K a) F (enum xs) := fun i F1 O1 H1 n1 e s => by
  have h1 : SqT K H1 a ys := st_of (s.f _ _ (e _ _ h))
  refine ⟨fun hi => ⟨ys, h1, by rw [r.len, ← enum_len]; exact hi⟩, fun y hy => ?_⟩
  rw [enum_at] at hy
  obtain ⟨x, hx, rfl⟩ := Option.map_eq_some_iff.mp hy
  obtain ⟨v, hv, rv⟩ := r.get hx
  refine ⟨⟨ys, v, h1, hv⟩, fun u H2 hyl => ?_⟩
  obtain ⟨T, w, rfl, hT, rfl, g⟩ := hyl
  have := g ys h1
  rw [hv] at this
  cases this
  exact ⟨_, .new s hT, .tup upd_same (.cons (.int _) (.cons ((rv.mono e).mono (Ex.new (s.notF hT))) .nil))⟩
theorem si_list (h : SE K te pe) : SI K (iList K te) (piL pe) := fun p c F O H σ ρ n s sl R Q' k q =>
  h p c F O H σ ρ n s sl _ _ (fun v x F2 O2 H2 n2 nn rx ⟨xs, e, q1⟩ => by
    subst e
    obtain ⟨a, ys, rfl, h1, h2⟩ := rx.getL
    exact ⟨a, rfl, ⟨ys, sq_of (nn.s.f _ _ h1)⟩, k _ xs F2 O2 H2 n2 nn (wk_list h1 h2) q1⟩) q
theorem si_tup (h : SE K te pe) : SI K (iTup K te) (piT pe) := fun p c F O H σ ρ n s sl R Q' k q =>
  h p c F O H σ ρ n s sl _ _ (fun v x F2 O2 H2 n2 nn rx ⟨xs, e, q1⟩ => by
    subst e
    obtain ⟨a, ys, rfl, h1, h2⟩ := rx.getT
    exact ⟨a, rfl, ⟨ys, st_of (nn.s.f _ _ h1)⟩, k _ xs F2 O2 H2 n2 nn (wk_tup h1 h2) q1⟩) q
theorem si_r1 (h : SA K ta pa) : SI K (iRng1 ta) (piR1 pa) := fun p c F O H σ ρ n s sl R Q' k q =>
  h p c F O H σ ρ n s sl _ _ (fun vs xs F2 O2 H2 n2 nn rx ⟨j, e, h1, h2, q1⟩ => by
    subst e
    obtain ⟨v, us, rfl, r, r2⟩ := rx.cons_inv
    cases r2
    rw [r.getI]
    exact ⟨j, rfl, by omega, by omega, k _ _ F2 O2 H2 n2 nn wk_rng q1⟩) q
theorem si_r2 (h : SA K ta pa) : SI K (iRng2 ta) (piR2 pa) := fun p c F O H σ ρ n s sl R Q' k q =>
  h p c F O H σ ρ n s sl _ _ (fun vs xs F2 O2 H2 n2 nn rx ⟨i, j, e, h1, h2, h3, h4, q1⟩ => by
    subst e
    obtain ⟨v, us, rfl, r, r2⟩ := rx.cons_inv
    obtain ⟨v2, us2, rfl, r3, r4⟩ := r2.cons_inv
    cases r4
    rw [r.getI, r3.getI]
    exact ⟨i, j, rfl, ⟨by omega, by omega, by omega, by omega⟩, k _ _ F2 O2 H2 n2 nn wk_rng q1⟩) q
theorem si_en (h : SA K ta pa) : SI K (iEnum K ta) (piEn pa) := fun p c F O H σ ρ n s sl R Q' k q =>
  h p c F O H σ ρ n s sl _ _ (fun vs xs F2 O2 H2 n2 nn rx ⟨ys, e, q1⟩ => by
    subst e
    obtain ⟨v, us, rfl, r, r2⟩ := rx.cons_inv
    cases r2
    obtain ⟨a, zs, rfl, h1, h2⟩ := r.getL
    exact ⟨a, zs, rfl, sq_of (nn.s.f _ _ h1), k _ _ F2 O2 H2 n2 nn (wk_en h1 h2) q1⟩) q
theorem si_enT (h : SA K ta pa) : SI K (Age.iEnumT K ta) (piEnT pa) := fun p c F O H σ ρ n s sl R Q' k q =>
  h p c F O H σ ρ n s sl _ _ (fun vs xs F2 O2 H2 n2 nn rx ⟨ys, e, q1⟩ => by
    subst e
    obtain ⟨v, us, rfl, r, r2⟩ := rx.cons_inv
    cases r2
    obtain ⟨a, zs, rfl, h1, h2⟩ := r.getT
    exact ⟨a, zs, rfl, st_of (nn.s.f _ _ h1), k _ _ F2 O2 H2 n2 nn (wk_enT h1 h2) q1⟩) q
end
/-! ### comprehensions -/
def wipeP (ρ : PR) : List Nat → PR
  | [] => ρ
  | v :: vs => (wipeP ρ vs).set v .no
def pLc (pi : PTI) (pg : PTG) (pt : PTT) (pe : PTE) (vs : List Nat) : PTE := fun ρ n Q => pi ρ n fun xs n1 => xs.length ≤ 40000 ∧ ∃ Inv : Nat → List PV → Int → Prop, Inv 0 [] n1 ∧
  (∀ i y acc n2, xs[i]? = some y → Inv i acc n2 → pg y (wipeP (hide ρ) vs) fun ρ2 => pt ρ2 n2 fun b n3 => if b = true then pe ρ2 n3 fun z n4 => Inv (i + 1) (acc ++ [z]) n4 else Inv (i + 1) acc n3) ∧
  ∀ acc n2, Inv xs.length acc n2 → Q (.lst acc) n2
section
variable {K : PySem.W.Frag} {te : TE} {pe : PTE} {wi : TI} {pi : PTI} {g : TG} {pg : PTG} {tt : TT} {pt : PTT} {vs : List Nat}
theorem wipeP_sl {p : Addr} {F : Hp} {σ : L2.St} {ρ : PR} (h : ∀ (i : Nat) (x : PV), getV ρ i = some x → ∃ v, σ[i]? = some (some v) ∧ Rep K p F v x) (hl : σ.length = ρ.length) : ∀ vs : List Nat, (wipe σ vs).length = (wipeP ρ vs).length ∧ ∀ (i : Nat) (s : PS), (wipeP ρ vs)[i]? = some s → s = .no ∨ (ρ[i]? = some s ∧ (wipe σ vs)[i]? = σ[i]?)
  | [] => ⟨hl, fun i s hs => Or.inr ⟨hs, rfl⟩⟩
  | v :: vs => by
    obtain ⟨h1, h2⟩ := wipeP_sl h hl vs
    refine ⟨by show ((wipe σ vs).set v none).length = ((wipeP ρ vs).set v .no).length; rw [List.length_set, List.length_set]; exact h1, fun i s hs => ?_⟩
    have hs : ((wipeP ρ vs).set v .no)[i]? = some s := hs
    by_cases e : v = i
    · subst e
      rw [List.getElem?_set] at hs
      simp only [if_true] at hs
      split at hs
      · cases hs; exact Or.inl rfl
      · cases hs
    · rw [List.getElem?_set_ne e] at hs
      rcases h2 i s hs with z | ⟨z1, z2⟩
      · exact Or.inl z
      · refine Or.inr ⟨z1, ?_⟩
        show ((wipe σ vs).set v none)[i]? = _
        rw [List.getElem?_set_ne e]
        exact z2
/-- the slots of an expression, as a state of statements -/
theorem Sl.b {p c : Addr} {F O H : Hp} {σ : L2.St} {ρ : PR} {n : Int} (s : St K p c F O H n) (sl : Sl K p F σ ρ) (vs : List Nat) : B K p c F O (wipe σ vs) H (wipeP (hide ρ) vs) n F O ∧ base (Own (wipe σ vs) (wipeP (hide ρ) vs)) F = F := by
  have hno : ∀ (i : Nat) (kxs : OK) (xs : List PV), (wipeP (hide ρ) vs)[i]? ≠ some (.ow kxs xs) := by
    have key : ∀ (vs : List Nat) (i : Nat) (kxs : OK) (xs : List PV), (wipeP (hide ρ) vs)[i]? ≠ some (.ow kxs xs) := by
      intro vs
      induction vs with
      | nil =>
        intro i kxs xs h
        have h : (ρ.map PS.hid)[i]? = some (.ow kxs xs) := h
        rw [List.getElem?_map] at h
        obtain ⟨s, _, hs⟩ := Option.map_eq_some_iff.mp h
        cases s <;> cases hs
      | cons v vs ih =>
        intro i kxs xs h
        have h : ((wipeP (hide ρ) vs).set v .no)[i]? = some (.ow kxs xs) := h
        rw [List.getElem?_set] at h
        split at h
        · split at h <;> cases h
        · exact ih i kxs xs h
    exact key vs
  have hb : base (Own (wipe σ vs) (wipeP (hide ρ) vs)) F = F := by
    funext a
    exact base_n fun ⟨i, k, xs, h, _⟩ => hno i k xs h
  have sl2 : ∀ i x, getV (hide ρ) i = some x → ∃ v, σ[i]? = some (some v) ∧ Rep K p F v x := fun i x hx => sl.at_ i x (by
    unfold getV hide at hx
    rw [List.getElem?_map] at hx
    unfold getV
    cases hs : ρ[i]? with
    | none => rw [hs] at hx; cases hx
    | some s =>
      rw [hs] at hx
      cases s with
      | no => cases hx
      | fr y => exact hx
      | ow k xs => cases hx)
  obtain ⟨w1, w2⟩ := wipeP_sl sl2 (by unfold hide; rw [List.length_map]; exact sl.len) vs
  refine ⟨⟨s, .refl, fun i j k k2 xs ys a h => absurd h (hno i k xs), s.cells, by rw [hb]; exact Ex.refl _, ⟨w1, fun i x hx => ?_, fun i k xs h => absurd h (hno i k xs)⟩⟩, hb⟩
  rcases w2 i _ hx with z | ⟨z1, z2⟩
  · cases z
  · obtain ⟨v, q, r⟩ := sl2 i x (by unfold getV; rw [z1]; rfl)
    exact ⟨v, by rw [z2]; exact q, by rw [hb]; exact r⟩
theorem B.sl' {p c : Addr} {M0 O0 : Hp} {σ : L2.St} {H : Hp} {ρ : PR} {n : Int} {F O : Hp} (b : B K p c M0 O0 σ H ρ n F O) : Sl K p F σ ρ := b.sl.sl base_sub
theorem se_lc (hi : SI K wi pi) (hg : SG K g pg vs) (ht : SEB K tt pt) (he : SE K te pe) : SE K (tLc wi g tt te vs) (pLc pi pg pt pe vs) := fun p c F O H σ ρ n s sl Q Q' k q =>
  hi p c F O H σ ρ n s sl _ _ (fun J xs F1 O1 H1 n1 nn wk ⟨hlen, IV, i0, turn, fin⟩ => by
    intro D hD
    have sl1 := sl.mono nn.e
    have hDT : ¬ isT K D := nn.s.tabs.notT (nn.s.notO hD)
    have neT : ∀ a, isT K a → a ≠ D := fun a ha z => hDT (z ▸ ha)
    have otD : ∀ (O2 : Hp) (ys : List V), (∀ a ps, O2 a = some (.tbl ps) → isT K a) → ∀ a ps, upd O2 D (.lst ys) a = some (.tbl ps) → isT K a := fun O2 ys h a ps z => by
      by_cases e : a = D
      · subst e; rw [upd_same] at z; cases z
      · rw [upd_ne e] at z; exact h a ps z
    -- the walk: the new list D stands beside, in the frame
    refine ⟨fun i m H' => m = xs.length - i ∧ i ≤ xs.length ∧ ∃ F2 O2 ys acc n2, OffP K p O1 O2 ∧ Ex F1 F2 ∧ St K p c F2 (upd O2 D (.lst ys)) H' n2 ∧ F2 D = none ∧ O2 D = none ∧ RepL K p F2 ys acc ∧ ys.length ≤ i ∧ IV i acc n2, ⟨xs.length, by simp, Nat.zero_le _, F1, O1, [], [], n1, .refl, Ex.refl _, ?_, nn.s.notF hD, nn.s.notO hD, .nil, Nat.zero_le _, i0⟩, ?_⟩
    · have pD : p ≠ D := fun z => by
        obtain ⟨_, _, h1, _⟩ := nn.s.pen
        rw [z, nn.s.notO hD] at h1
        cases h1
      obtain ⟨at_, l, h1, h2⟩ := nn.s.pen
      refine ⟨fun a o h => (Ex.new hD) _ _ (nn.s.f _ _ h), fun a o h => ?_, fun a => ?_, fun a u h => ?_, ⟨at_, l, by rw [upd_ne pD]; exact h1, h2⟩, nn.s.cells, nn.s.tabs.mono (fun _ _ h => h) (fun a ha => upd_ne (neT a ha)) nn.s.tabs.nt (otD _ _ nn.s.tabs.ot)⟩
      · by_cases e : a = D
        · subst e; rw [upd_same] at h ⊢; exact h
        · rw [upd_ne e] at h ⊢; exact nn.s.o _ _ h
      · by_cases e : a = D
        · subst e; exact Or.inl (nn.s.notF hD)
        · rw [upd_ne e]; exact nn.s.d a
      · by_cases e : a = D
        · subst e; rw [upd_same] at h; cases h; rfl
        · rw [upd_ne e] at h; exact nn.s.k _ _ h
    · rintro i m H' ⟨rfl, hil, F2, O2, ys, acc, n2, off, e12, s2, hFD, hOD, ra, hyl, inv⟩
      by_cases hlt : i < xs.length
      · obtain ⟨y, hy⟩ : ∃ y, xs[i]? = some y := ⟨_, List.getElem?_eq_getElem hlt⟩
        obtain ⟨go, yl⟩ := (wk i F2 _ H' n2 e12 s2).2 y hy
        refine Or.inr ⟨go, fun H'' => ∃ F2 O2 ys acc n2, OffP K p O1 O2 ∧ Ex F1 F2 ∧ St K p c F2 (upd O2 D (.lst ys)) H'' n2 ∧ F2 D = none ∧ O2 D = none ∧ RepL K p F2 ys acc ∧ ys.length ≤ i + 1 ∧ IV (i + 1) acc n2, fun H'' h => ⟨xs.length - (i + 1), by omega, rfl, hlt, h⟩, fun v H3 hv => ?_⟩
        obtain ⟨F3, n3, rv⟩ := yl v H3 hv
        have sl3 := (sl1.mono e12).mono n3.e
        have q1 := turn i y acc n2 hy inv
        refine hg p c F3 (upd O2 D (.lst ys)) (wipe σ vs) H3 _ n2 F3 _ v y (sl3.b n3.s vs).1 (by rw [(sl3.b n3.s vs).2]; exact rv) _ _ (fun σ4 ρ4 b4 _ w4 q4 => ?_) q1
        refine ⟨by rw [w4]; exact (by
          have : ∀ σ : L2.St, wipe (wipe σ vs) vs = wipe σ vs := fun σ => by
            apply List.ext_getElem?
            intro i
            rw [wipe_at, wipe_at, wipe_length]
            split
            · split <;> rfl
            · rfl
          exact this σ), ?_⟩
        refine ht p c F3 _ H3 σ4 ρ4 n2 n3.s b4.sl' _ _ (fun b F5 O5 H5 n5 nn5 q5 => ?_) q4
        have o5 : O5 D = some (.lst ys) := by
          have pD : D ≠ p := fun z => by
            obtain ⟨_, _, h1, _⟩ := n3.s.pen
            rw [← z, upd_same] at h1
            cases h1
          rw [nn5.o D pD hDT, upd_same]
        have pD : D ≠ p := fun z => by
          obtain ⟨_, _, h1, _⟩ := n3.s.pen
          rw [← z, upd_same] at h1
          cases h1
        -- back to the word of the walk
        have back : ∀ (O6 : Hp), OffP K p (upd O2 D (.lst ys)) O6 → ∀ F6 H6 n6, St K p c F6 O6 H6 n6 → ∃ O7, OffP K p O1 O7 ∧ O7 D = none ∧ F6 D = none ∧ O6 = upd O7 D (.lst ys) := fun O6 ho F6 H6 n6 s6 => by
          refine ⟨fun a => if a = D then none else O6 a, fun a ha ht => ?_, by simp, ?_, ?_⟩
          · show (if a = D then none else O6 a) = O1 a
            by_cases e : a = D
            · subst e
              rw [if_pos rfl]
              exact (hOD.symm.trans (off a ha ht))
            · rw [if_neg e, ho a ha ht, upd_ne e, off a ha ht]
          · rcases s6.d D with z | z
            · exact z
            · rw [ho D pD hDT, upd_same] at z; cases z
          · funext a
            by_cases e : a = D
            · subst e; rw [upd_same, ho a pD hDT, upd_same]
            · rw [upd_ne e, if_neg e]
        cases b with
        | false =>
          obtain ⟨O7, a1, a2, a3, a4⟩ := back O5 nn5.o F5 H5 n5 nn5.s
          have e15 := (e12.trans n3.e).trans nn5.e
          show ∃ F2 O2 ys acc n2, _
          refine ⟨F5, O7, ys, acc, n5, a1, e15, by rw [← a4]; exact nn5.s, a3, a2, ra.mono (n3.e.trans nn5.e), by omega, q5⟩
        | true =>
          show te σ4 H5 _
          refine he p c F5 O5 H5 σ4 ρ4 n5 nn5.s (b4.sl'.mono nn5.e) _ _ (fun w z F6 O6 H6 n6 nn6 rz q6 => ?_) q5
          have off6 : OffP K p (upd O2 D (.lst ys)) O6 := nn5.o.trans nn6.o
          obtain ⟨O7, a1, a2, a3, a4⟩ := back O6 off6 F6 H6 n6 nn6.s
          have e16 := ((e12.trans n3.e).trans nn5.e).trans nn6.e
          have hD6 : H6 D = some (.lst ys) := nn6.s.o _ _ (by rw [a4, upd_same])
          refine ⟨ys, hD6, sz_lt (by omega), F6, O7, ys ++ [w], acc ++ [z], n6, a1, e16, ?_, a3, a2, (ra.mono ((n3.e.trans nn5.e).trans nn6.e)).app (.cons rz .nil), by simp; omega, q6⟩
          obtain ⟨at_, l, h1, h2⟩ := nn6.s.pen
          refine ⟨fun a o h => ?_, fun a o h => ?_, fun a => ?_, fun a u h => ?_, ⟨at_, l, ?_, h2⟩, nn6.s.cells, nn6.s.tabs.mono (fun _ _ h => h) (fun a ha => by rw [a4, upd_ne (neT a ha), upd_ne (neT a ha)]) nn6.s.tabs.nt (otD _ _ fun a ps h => nn6.s.tabs.ot a ps (by rw [a4, upd_ne fun z => by rw [z, a2] at h; cases h]; exact h))⟩
          · have e : a ≠ D := fun z => by rw [z, a3] at h; cases h
            rw [upd_ne e]; exact nn6.s.f _ _ h
          · by_cases e : a = D
            · subst e; rw [upd_same] at h ⊢; exact h
            · rw [upd_ne e] at h ⊢; exact nn6.s.o _ _ (by rw [a4, upd_ne e]; exact h)
          · by_cases e : a = D
            · subst e; exact Or.inl a3
            · rw [upd_ne e]
              have := nn6.s.d a
              rw [a4, upd_ne e] at this
              exact this
          · by_cases e : a = D
            · subst e; rw [upd_same] at h; cases h; rfl
            · rw [upd_ne e] at h; exact nn6.s.k _ _ (by rw [a4, upd_ne e]; exact h)
          · rw [upd_ne (Ne.symm pD)]
            rw [a4, upd_ne (Ne.symm pD)] at h1
            exact h1
      · have : i = xs.length := by omega
        subst this
        refine Or.inl ⟨(wk _ F2 _ H' n2 e12 s2).1 (Nat.le_refl _), ?_⟩
        have pD : D ≠ p := fun z => by
          obtain ⟨_, _, h1, _⟩ := s2.pen
          rw [← z, upd_same] at h1
          cases h1
        refine k _ _ (upd F2 D (.lst ys)) O2 H' n2 ⟨nn.e.trans (e12.trans (Ex.new hFD)), nn.o.trans off, ?_⟩ (.lst upd_same (ra.mono (Ex.new hFD))) (fin acc n2 inv)
        obtain ⟨at_, l, h1, h2⟩ := s2.pen
        obtain ⟨cs, hc⟩ := s2.cells
        have hHD : H' D = some (.lst ys) := s2.o _ _ upd_same
        refine ⟨fun a o h => ?_, fun a o h => ?_, fun a => ?_, fun a u h => ?_, ⟨at_, l, by rw [upd_ne (Ne.symm pD)] at h1; exact h1, h2⟩, ⟨cs, (Ex.new hFD) _ _ hc⟩, s2.tabs.mono (fun c q h => (Ex.new hFD) _ _ h) (fun a ha => (upd_ne (neT a ha)).symm) (nt_upd s2.tabs.nt fun _ z => by cases z) fun a ps h => s2.tabs.ot a ps (by rw [upd_ne fun z => by rw [z, hOD] at h; cases h]; exact h)⟩
        · by_cases e : a = D
          · subst e; rw [upd_same] at h; cases h; exact hHD
          · rw [upd_ne e] at h; exact s2.f _ _ h
        · have e : a ≠ D := fun z => by rw [z, hOD] at h; cases h
          exact s2.o _ _ (by rw [upd_ne e]; exact h)
        · by_cases e : a = D
          · subst e; exact Or.inr hOD
          · rw [upd_ne e]
            have := s2.d a
            rw [upd_ne e] at this
            exact this
        · have e : a ≠ D := fun z => by rw [z, hOD] at h; cases h
          exact s2.k _ _ (by rw [upd_ne e]; exact h)) q
end
end Pu

set_option Elab.async false
set_option linter.all false
set_option maxRecDepth 100000
set_option maxHeartbeats 2000000
/-! U5: readings without a heap: statements, defs -/
namespace Pu
open PySem PySem.Spec PyProof.Rows L2 Evl
structure PEnds where
  nx : PR → Int → Prop
  rt : PV → Int → Prop
  bk : PR → Int → Prop := fun _ _ => False
  ct : PR → Int → Prop := fun _ _ => False
  ex : Addr → List (Str × PV) → Int → Prop := fun _ _ _ => False
abbrev PTS := PEnds → PR → Int → Prop
structure EO (K : PySem.W.Frag) (E : XK) (p c : Addr) (M0 O0 : Hp) (D : Ends) (D' : PEnds) : Prop where
  nx : ∀ σ H ρ n F O, B K p c M0 O0 σ H ρ n F O → D'.nx ρ n → D.nx σ H
  rt : ∀ v x F2 O2 H2 n2, Ex M0 F2 → OffP K p O0 O2 → St K p c F2 O2 H2 n2 → Rep K p F2 v x → D'.rt x n2 → D.rt v H2
  bk : ∀ σ H ρ n F O, B K p c M0 O0 σ H ρ n F O → D'.bk ρ n → D.bk σ H
  ct : ∀ σ H ρ n F O, B K p c M0 O0 σ H ρ n F O → D'.ct ρ n → D.ct σ H
  ex : ∀ C d vs fs F2 O2 H2 n2, Ex M0 F2 → OffP K p O0 O2 → St K p c F2 O2 H2 n2 → H2 d = some (.xd vs) → RepF K p F2 vs fs → D'.ex C fs n2 → E (.ref C) (some d) H2
def SS (K : PySem.W.Frag) (E : XK) (ts : TS) (ps : PTS) : Prop := ∀ p c M0 O0 D D', EO K E p c M0 O0 D D' → ∀ σ H ρ n F O, B K p c M0 O0 σ H ρ n F O → ps D' ρ n → ts D σ H
def pNext : PTS := fun D ρ n => D.nx ρ n
def pNever : PTS := fun _ _ _ => False
def pBreak : PTS := fun D ρ n => D.bk ρ n
def pCont : PTS := fun D ρ n => D.ct ρ n
def pSeq (a b : PTS) : PTS := fun D ρ n => a { D with nx := b D } ρ n
def pAsg (pe : PTE) (pg : PTG) : PTS := fun D ρ n => pe (hide ρ) n fun x n2 => pg x ρ fun ρ2 => D.nx ρ2 n2
def pAsgV (i : Nat) (pe : PTE) : PTS := fun D ρ n => pe ρ n fun x n2 => stow ρ x = true ∧ D.nx (ρ.set i (.fr x)) n2
def pPar (i j : Nat) (pa : PTA) : PTS := fun D ρ n => pa (hide ρ) n fun xs n2 => ∃ x y, xs = [x, y] ∧ D.nx ((ρ.set i (.fr x)).set j (.fr y)) n2
def pPar3 (i j l : Nat) (pa : PTA) : PTS := fun D ρ n => pa (hide ρ) n fun xs n2 => ∃ x y z, xs = [x, y, z] ∧ D.nx (((ρ.set i (.fr x)).set j (.fr y)).set l (.fr z)) n2
def pIfS (pt : PTT) (a b : PTS) : PTS := fun D ρ n => pt ρ n fun k n2 => if k = true then a D ρ n2 else b D ρ n2
def pRet (pe : PTE) : PTS := fun D ρ n => pe ρ n fun x n2 => D.rt x n2
def pRetN : PTS := fun D _ n => D.rt .non n
def pDrop (pe : PTE) : PTS := fun D ρ n => pe ρ n fun _ n2 => D.nx ρ n2
def pSetOw (i : Nat) (pa : PTA) : PTS := fun D ρ n => pa (hide ρ) n fun xs n2 => xs.length ≤ 100000 ∧ D.nx (ρ.set i (.ow none xs)) n2
def pApp (i : Nat) (pe : PTE) : PTS := fun D ρ n => ∃ xs, ρ[i]? = some (.ow none xs) ∧ xs.length < 100000 ∧ pe (hide ρ) n fun x n2 => D.nx (ρ.set i (.ow none (xs ++ [x]))) n2
def pAppV (i : Nat) (pe : PTE) : PTS := fun D ρ n => ∃ xs, ρ[i]? = some (.ow none xs) ∧ xs.length < 100000 ∧ pe ρ n fun x n2 => stow ρ x = true ∧ D.nx (ρ.set i (.ow none (xs ++ [x]))) n2
def pPutI (i : Nat) (pj pe : PTE) : PTS := fun D ρ n => ∃ xs, ρ[i]? = some (.ow none xs) ∧ pe ρ n fun x n2 => pj ρ n2 fun y n3 => ∃ k j, y = .int k ∧ ixN xs.length k = some j ∧ stow ρ x = true ∧ D.nx (ρ.set i (.ow none (xs.set j x))) n3
def pAug (i : Nat) (f : Int → Int → Int) (pe : PTE) : PTS := fun D ρ n => ∃ a, getV ρ i = some (.int a) ∧ pe ρ n fun x n2 => ∃ b, x = .int b ∧ D.nx (ρ.set i (.fr (.int (f a b)))) n2
/-- the slots that are still of use -/
def keepP : List Bool → PR → PR
  | true :: ms, s :: ρ => s :: keepP ms ρ
  | false :: ms, _ :: ρ => .no :: keepP ms ρ
  | _, ρ => ρ
def pFor (ms : List Bool) (pi : PTI) (pg : PTG) (pb : PTS) : PTS := fun D ρ n => pi (hide ρ) n fun xs n1 => ∃ Inv : Nat → PR → Int → Prop, Inv 0 (keepP ms ρ) n1 ∧
  (∀ i y ρ1 n2, xs[i]? = some y → Inv i ρ1 n2 → pg y ρ1 fun ρ2 => pb { D with nx := fun ρ n => Inv (i + 1) (keepP ms ρ) n, ct := fun ρ n => Inv (i + 1) (keepP ms ρ) n, bk := D.nx } ρ2 n2) ∧ ∀ ρ1 n2, Inv xs.length ρ1 n2 → D.nx ρ1 n2
def pWhile (ms : List Bool) (pt : PTT) (pb : PTS) : PTS := fun D ρ n => ∃ W : Nat → PR → Int → Prop, (∃ m, W m (keepP ms ρ) n) ∧ ∀ m ρ n, W m ρ n → pt ρ n fun k n2 =>
  if k = true then pb { D with nx := fun ρ' n' => ∃ m', m' < m ∧ W m' (keepP ms ρ') n', ct := fun ρ' n' => ∃ m', m' < m ∧ W m' (keepP ms ρ') n', bk := D.nx } ρ n2 else D.nx ρ n2
section
variable {K : PySem.W.Frag} {E : XK} {ts us : TS} {ps qs : PTS} {te tj : TE} {pe pj : PTE} {tt : TT} {pt : PTT} {ta : TA} {pa : PTA} {g : TG} {pg : PTG} {wi : TI} {pi : PTI} {vs : List Nat}
theorem St.grow {p c : Addr} {F O H H' : Hp} {n : Int} (s : St K p c F O H n) (e : Ex H H') : St K p c F O H' n := ⟨s.f.trans e, s.o.trans e, s.d, s.k, s.pen, s.cells, s.tabs⟩
theorem ss_next : SS K E tNext pNext := fun p c M0 O0 D D' eo σ H ρ n F O b q => eo.nx _ _ _ _ _ _ b q
theorem ss_never : SS K E tNever pNever := fun p c M0 O0 D D' eo σ H ρ n F O b q => q
theorem ss_break : SS K E tBreak pBreak := fun p c M0 O0 D D' eo σ H ρ n F O b q => eo.bk _ _ _ _ _ _ b q
theorem ss_cont : SS K E tCont pCont := fun p c M0 O0 D D' eo σ H ρ n F O b q => eo.ct _ _ _ _ _ _ b q
theorem ss_seq (h1 : SS K E ts ps) (h2 : SS K E us qs) : SS K E (tSeq ts us) (pSeq ps qs) := fun p c M0 O0 D D' eo σ H ρ n F O b q =>
  h1 p c M0 O0 { D with nx := us D } { D' with nx := qs D' } ⟨fun σ H ρ n F O b q => h2 p c M0 O0 D D' eo σ H ρ n F O b q, eo.rt, eo.bk, eo.ct, eo.ex⟩ σ H ρ n F O b q
theorem ss_asg (he : SE K te pe) (hg : SG K g pg vs) : SS K E (tAsg te g) (pAsg pe pg) := fun p c M0 O0 D D' eo σ H ρ n F O b q =>
  he p c _ _ H σ _ n b.stB b.sl.hid _ _ (fun v x F2 O2 H2 n2 nn rx q1 => by
    obtain ⟨F3, O3, b3, e3⟩ := b.stepB nn
    exact hg p c M0 O0 σ H2 ρ n2 F3 O3 v x b3 (by rw [e3]; exact rx) _ _ (fun σ2 ρ2 b4 _ _ q2 => eo.nx _ _ _ _ _ _ b4 q2) q1) q
theorem ss_asgV {i : Nat} (he : SE K te pe) : SS K E (tAsg te (gName i)) (pAsgV i pe) := fun p c M0 O0 D D' eo σ H ρ n F O b q =>
  he p c _ _ H σ _ n b.st b.sl' _ _ (fun v x F2 O2 H2 n2 nn rx ⟨q0, q1⟩ => eo.nx _ _ _ _ _ _ ((b.step nn).set ((b.step nn).stow rx q0)) q1) q
theorem ss_par {i j : Nat} (ha : SA K ta pa) : SS K E (tPar i j ta) (pPar i j pa) := fun p c M0 O0 D D' eo σ H ρ n F O b q =>
  ha p c _ _ H σ _ n b.stB b.sl.hid _ _ (fun v x F2 O2 H2 n2 nn rx ⟨x1, y1, e, q1⟩ => by
    subst e
    obtain ⟨F3, O3, b3, e3⟩ := b.stepB nn
    obtain ⟨v1, us, rfl, r1, r2⟩ := rx.cons_inv
    obtain ⟨v2, us2, rfl, r3, r4⟩ := r2.cons_inv
    cases r4
    refine ⟨v1, v2, rfl, eo.nx _ _ _ _ _ _ ((b3.set (by rw [e3]; exact r1)).set ?_) q1⟩
    exact Rep.mono (base_less fun a => own_set) (by rw [e3]; exact r3)) q
theorem ss_par3 {i j l : Nat} (ha : SA K ta pa) : SS K E (tPar3 i j l ta) (pPar3 i j l pa) := fun p c M0 O0 D D' eo σ H ρ n F O b q =>
  ha p c _ _ H σ _ n b.stB b.sl.hid _ _ (fun v x F2 O2 H2 n2 nn rx ⟨x1, y1, z1, e, q1⟩ => by
    subst e
    obtain ⟨F3, O3, b3, e3⟩ := b.stepB nn
    obtain ⟨v1, us, rfl, r1, r2⟩ := rx.cons_inv
    obtain ⟨v2, us2, rfl, r3, r4⟩ := r2.cons_inv
    obtain ⟨v3, us3, rfl, r5, r6⟩ := r4.cons_inv
    cases r6
    refine ⟨v1, v2, v3, rfl, eo.nx _ _ _ _ _ _ (((b3.set (by rw [e3]; exact r1)).set ?_).set ?_) q1⟩
    · exact Rep.mono (base_less fun a => own_set) (by rw [e3]; exact r3)
    · exact Rep.mono (base_less fun a => own_set) (Rep.mono (base_less fun a => own_set) (by rw [e3]; exact r5))) q
theorem ss_if (ht : SEB K tt pt) (h1 : SS K E ts ps) (h2 : SS K E us qs) : SS K E (tIfS tt ts us) (pIfS pt ps qs) := fun p c M0 O0 D D' eo σ H ρ n F O b q =>
  ht p c _ _ H σ _ n b.st b.sl' _ _ (fun k F2 O2 H2 n2 nn q1 => by
    cases k with
    | true => exact h1 p c M0 O0 D D' eo σ H2 ρ n2 F2 O2 (b.step nn) q1
    | false => exact h2 p c M0 O0 D D' eo σ H2 ρ n2 F2 O2 (b.step nn) q1) q
theorem ss_ret (he : SE K te pe) : SS K E (tRet te) (pRet pe) := fun p c M0 O0 D D' eo σ H ρ n F O b q =>
  he p c _ _ H σ _ n b.st b.sl' _ _ (fun v x F2 O2 H2 n2 nn rx q1 => eo.rt v x F2 O2 H2 n2 ((b.m0.trans base_sub).trans nn.e) (b.off.trans nn.o) nn.s rx q1) q
theorem ss_retN : SS K E tRetN pRetN := fun p c M0 O0 D D' eo σ H ρ n F O b q => eo.rt .non .non F O H n (b.m0.trans base_sub) b.off b.st .non q
theorem ss_drop (he : SE K te pe) : SS K E (tDrop te) (pDrop pe) := fun p c M0 O0 D D' eo σ H ρ n F O b q =>
  he p c _ _ H σ _ n b.st b.sl' _ _ (fun v x F2 O2 H2 n2 nn rx q1 => eo.nx _ _ _ _ _ _ (b.step nn) q1) q
theorem ss_setOw {i : Nat} (ha : SA K ta pa) : SS K E (tAsg (tLst ta) (gName i)) (pSetOw i pa) := fun p c M0 O0 D D' eo σ H ρ n F O b q =>
  ha p c _ _ H σ _ n b.stB b.sl.hid _ _ (fun v x F2 O2 H2 n2 nn rx ⟨hl, q1⟩ => by
    obtain ⟨F3, O3, b3, e3⟩ := b.stepB nn
    refine ⟨by rw [rx.len]; exact sz_of hl, fun a ha => ?_⟩
    have b4 := b3.step (F2 := F3) (O2 := O3) (H2 := upd H2 a (.lst v)) (n2 := n2) ⟨Ex.refl _, .refl, b3.st.grow (Ex.new ha)⟩
    exact eo.nx _ _ _ _ _ _ (b4.setOw none (b3.st.notF ha) (b3.st.notO ha) upd_same (by rw [e3]; exact rx)) q1) q
theorem app_core {i : Nat} {p c : Addr} {M0 O0 : Hp} {D : Ends} {D' : PEnds} (eo : EO K E p c M0 O0 D D') {σ : L2.St} {H : Hp} {ρ : PR} {n : Int} {F O : Hp} (b : B K p c M0 O0 σ H ρ n F O) {v : V} {x : PV} {xs : List PV} {a : Addr} (hi : ρ[i]? = some (.ow none xs)) (ha : σ[i]? = some (some (.ref a)))
    (hl : xs.length < 100000) (rx : Rep K p (base (Own σ ρ) F) v x) (q : D'.nx (ρ.set i (.ow none (xs ++ [x]))) n) : rAppend (.ref a) [v] H fun _ H3 => D.nx σ H3 := by
  obtain ⟨a', ys, h1, h2, h3⟩ := b.sl.ow i _ xs hi
  rw [ha] at h1
  cases h1
  exact ⟨a, ys, v, rfl, rfl, b.st.f _ _ h2, by rw [h3.len]; exact sz_lt hl, eo.nx _ _ _ _ _ _ (b.put none hi ha (h3.app (.cons rx .nil))) q⟩
theorem ss_app {i : Nat} (he : SE K te pe) : SS K E (tDrop (tBM K "list" rAppend (tVar i) (tCons te tNil))) (pApp i pe) := fun p c M0 O0 D D' eo σ H ρ n F O b ⟨xs, hx, hl, q⟩ => by
  obtain ⟨a, ys, h1, h2, _⟩ := b.sl.ow i _ xs hx
  refine ⟨.ref a, h1, Or.inl ⟨rfl, ys, sq_of (b.st.f _ _ h2)⟩, ?_⟩
  refine he p c _ _ H σ _ n b.stB b.sl.hid _ _ (fun v x F2 O2 H2 n2 nn rx q1 => ?_) q
  obtain ⟨F3, O3, b3, e3⟩ := b.stepB nn
  exact app_core eo b3 hx h1 hl (by rw [e3]; exact rx) q1
theorem ss_appV {i : Nat} (he : SE K te pe) : SS K E (tDrop (tBM K "list" rAppend (tVar i) (tCons te tNil))) (pAppV i pe) := fun p c M0 O0 D D' eo σ H ρ n F O b ⟨xs, hx, hl, q⟩ => by
  obtain ⟨a, ys, h1, h2, _⟩ := b.sl.ow i _ xs hx
  refine ⟨.ref a, h1, Or.inl ⟨rfl, ys, sq_of (b.st.f _ _ h2)⟩, ?_⟩
  refine he p c _ _ H σ _ n b.st b.sl' _ _ (fun v x F2 O2 H2 n2 nn rx ⟨q0, q1⟩ => ?_) q
  exact app_core eo (b.step nn) hx h1 hl ((b.step nn).stow rx q0) q1
theorem ss_putI {i : Nat} (hj : SE K tj pj) (he : SE K te pe) : SS K E (tAsg te (gSub (tVar i) tj rSetL)) (pPutI i pj pe) := fun p c M0 O0 D D' eo σ H ρ n F O b ⟨xs, hx, q⟩ => by
  obtain ⟨a, _, h1, _, _⟩ := b.sl.ow i _ xs hx
  refine he p c _ _ H σ _ n b.st b.sl' _ _ (fun v x F2 O2 H2 n2 nn rx q1 => ?_) q
  have b2 := b.step nn
  refine ⟨.ref a, h1, ?_⟩
  refine hj p c _ _ H2 σ _ n2 b2.st b2.sl' _ _ (fun w y F3 O3 H3 n3 nn3 ry ⟨k, j, e, hk, q0, q2⟩ => ?_) q1
  have b3 := b2.step nn3
  subst e
  rw [ry.getI]
  obtain ⟨a', ys, g1, g2, g3⟩ := b3.sl.ow i _ xs hx
  rw [h1] at g1
  cases g1
  refine ⟨a, ys, k, j, rfl, rfl, b3.st.f _ _ g2, by rw [g3.len]; exact hk, ?_⟩
  exact eo.nx _ _ _ _ _ _ (b3.put none hx h1 (g3.set (b3.stow (rx.mono nn3.e) q0) j)) q2
theorem ss_aug {i : Nat} {f : Int → Int → Int} (he : SE K te pe) : SS K E (tAug i te (ipI f)) (pAug i f pe) := fun p c M0 O0 D D' eo σ H ρ n F O b ⟨a, hx, q⟩ => by
  obtain ⟨v, h1, r1⟩ := b.sl'.at_ i _ hx
  rw [r1.getI] at h1
  refine ⟨.int a, h1, ?_⟩
  refine he p c _ _ H σ _ n b.st b.sl' _ _ (fun v x F2 O2 H2 n2 nn rx ⟨j, e, q1⟩ => ?_) q
  subst e
  rw [rx.getI]
  exact ⟨a, j, rfl, rfl, eo.nx _ _ _ _ _ _ ((b.step nn).set (.int _)) q1⟩
theorem B.rebase {p c : Addr} {M0 M1 O0 : Hp} {σ : L2.St} {H : Hp} {ρ : PR} {n : Int} {F O : Hp} (b : B K p c M0 O0 σ H ρ n F O) (e : Ex M0 M1) (h : Ex M1 (base (Own σ ρ) F)) : B K p c M1 O0 σ H ρ n F O :=
  ⟨b.st, b.off, b.inj, let ⟨cs, hc⟩ := b.mc; ⟨cs, e _ _ hc⟩, h, b.sl⟩
theorem B.unbase {p c : Addr} {M0 M1 O0 : Hp} {σ : L2.St} {H : Hp} {ρ : PR} {n : Int} {F O : Hp} (b : B K p c M1 O0 σ H ρ n F O) (e : Ex M0 M1) (mc : ∃ cs : List Int, M0 c = some (.lst (cs.map V.int))) : B K p c M0 O0 σ H ρ n F O :=
  ⟨b.st, b.off, b.inj, mc, e.trans b.m0, b.sl⟩
theorem EO.rebase {p c : Addr} {M0 M1 O0 : Hp} {D : Ends} {D' : PEnds} (eo : EO K E p c M0 O0 D D') (e : Ex M0 M1) (mc : ∃ cs : List Int, M0 c = some (.lst (cs.map V.int))) : EO K E p c M1 O0 D D' :=
  ⟨fun σ H ρ n F O b q => eo.nx _ _ _ _ _ _ (b.unbase e mc) q, fun v x F2 O2 H2 n2 h => eo.rt v x F2 O2 H2 n2 (e.trans h), fun σ H ρ n F O b q => eo.bk _ _ _ _ _ _ (b.unbase e mc) q, fun σ H ρ n F O b q => eo.ct _ _ _ _ _ _ (b.unbase e mc) q, fun C d vs fs F2 O2 H2 n2 h => eo.ex C d vs fs F2 O2 H2 n2 (e.trans h)⟩
theorem keep_at : ∀ (ms : List Bool) (ρ : PR) (i : Nat) (s : PS), (keepP ms ρ)[i]? = some s → s = .no ∨ ρ[i]? = some s
  | true :: ms, t :: ρ, 0, s, h => Or.inr h
  | true :: ms, t :: ρ, i + 1, s, h => keep_at ms ρ i s h
  | false :: ms, t :: ρ, 0, s, h => Or.inl (by cases h; rfl)
  | false :: ms, t :: ρ, i + 1, s, h => keep_at ms ρ i s h
  | [], ρ, i, s, h => Or.inr (by cases ρ <;> exact h)
  | true :: ms, [], i, s, h => Or.inr h
  | false :: ms, [], i, s, h => Or.inr h
theorem keep_len : ∀ (ms : List Bool) (ρ : PR), (keepP ms ρ).length = ρ.length
  | true :: ms, t :: ρ => congrArg Nat.succ (keep_len ms ρ)
  | false :: ms, t :: ρ => congrArg Nat.succ (keep_len ms ρ)
  | [], ρ => by cases ρ <;> rfl
  | true :: ms, [] => rfl
  | false :: ms, [] => rfl
theorem B.keep {p c : Addr} {M0 O0 : Hp} {σ : L2.St} {H : Hp} {ρ : PR} {n : Int} {F O : Hp} (b : B K p c M0 O0 σ H ρ n F O) (ms : List Bool) : B K p c M0 O0 σ H (keepP ms ρ) n F O := by
  have at_ : ∀ {i : Nat} {s : PS}, (keepP ms ρ)[i]? = some s → s = .no ∨ ρ[i]? = some s := fun {i s} h => keep_at ms ρ i s h
  have ow : ∀ {i : Nat} {k : OK} {xs : List PV}, (keepP ms ρ)[i]? = some (.ow k xs) → ρ[i]? = some (.ow k xs) := fun {i k xs} h => (at_ h).resolve_left fun z => by cases z
  have hb : Ex (base (Own σ ρ) F) (base (Own σ (keepP ms ρ)) F) := base_less fun a ⟨i, k, xs, h1, h2⟩ => ⟨i, k, xs, ow h1, h2⟩
  refine ⟨b.st, b.off, fun i j k k2 xs ys a h1 h2 => b.inj i j k k2 xs ys a (ow h1) (ow h2), b.mc, b.m0.trans hb, ⟨by rw [keep_len]; exact b.sl.len, fun i x hx => ?_, fun i k x hx => ?_⟩⟩
  · obtain ⟨v, q, r⟩ := b.sl.fr i x ((at_ hx).resolve_left fun z => by cases z)
    exact ⟨v, q, r.mono hb⟩
  · obtain ⟨v, ys, q, r, r2⟩ := b.sl.ow i k x (ow hx)
    exact ⟨v, ys, q, r, r2.mono hb⟩
theorem ss_for {ms : List Bool} (hi : SI K wi pi) (hg : SG K g pg vs) (hb : SS K E ts ps) : SS K E (tFor wi g ts) (pFor ms pi pg ps) := fun p c M0 O0 D D' eo σ H ρ n F O b q =>
  hi p c _ _ H σ _ n b.stB b.sl.hid _ _ (fun J xs F2 O2 H2 n2 nn wk ⟨IV, i0, turn, fin⟩ => by
    obtain ⟨F3, O3, b3, e3⟩ := b.stepB nn
    have eM : Ex M0 F2 := by rw [← e3]; exact b3.m0
    have eo2 := eo.rebase eM b.mc
    have b4 : B K p c F2 O0 σ H2 ρ n2 F3 O3 := b3.rebase eM (by rw [e3]; exact Ex.refl _)
    refine ⟨fun i m σ H => m = xs.length - i ∧ i ≤ xs.length ∧ ∃ ρ n F O, B K p c F2 O0 σ H ρ n F O ∧ IV i ρ n, ⟨xs.length, by simp, Nat.zero_le _, _, n2, F3, O3, b4.keep ms, i0⟩, ?_⟩
    rintro i m σ1 H1 ⟨rfl, hil, ρ1, n1, F1, O1, b1, iv⟩
    by_cases hlt : i < xs.length
    · obtain ⟨y, hy⟩ : ∃ y, xs[i]? = some y := ⟨_, List.getElem?_eq_getElem hlt⟩
      obtain ⟨go, yl⟩ := (wk i _ _ H1 n1 b1.m0 b1.stB).2 y hy
      refine Or.inr ⟨go, fun σ' H' => ∃ ρ n F O, B K p c F2 O0 σ' H' ρ n F O ∧ IV (i + 1) ρ n, fun σ' H' h => ⟨xs.length - (i + 1), by omega, rfl, hlt, h⟩, fun v H5 hv => ?_⟩
      obtain ⟨F5, n5, rv⟩ := yl v H5 hv
      obtain ⟨F6, O6, b6, e6⟩ := b1.stepB n5
      refine hg p c F2 O0 σ1 H5 ρ1 n1 F6 O6 v y b6 (by rw [e6]; exact rv) _ _ (fun σ7 ρ7 b7 _ _ q7 => ?_) (turn i y ρ1 n1 hy iv)
      exact hb p c F2 O0 { D with nx := fun σ' H' => ∃ ρ n F O, B K p c F2 O0 σ' H' ρ n F O ∧ IV (i + 1) ρ n, ct := fun σ' H' => ∃ ρ n F O, B K p c F2 O0 σ' H' ρ n F O ∧ IV (i + 1) ρ n, bk := D.nx } { D' with nx := fun ρ n => IV (i + 1) (keepP ms ρ) n, ct := fun ρ n => IV (i + 1) (keepP ms ρ) n, bk := D'.nx } ⟨fun σ H ρ n F O b q => ⟨_, n, F, O, b.keep ms, q⟩, eo2.rt, eo2.nx, fun σ H ρ n F O b q => ⟨_, n, F, O, b.keep ms, q⟩, eo2.ex⟩ σ7 H5 ρ7 n1 F6 O6 b7 q7
    · have : i = xs.length := by omega
      subst this
      exact Or.inl ⟨(wk _ _ _ H1 n1 b1.m0 b1.stB).1 (Nat.le_refl _), eo2.nx _ _ _ _ _ _ b1 (fin ρ1 n1 iv)⟩) q
theorem ss_while {ms : List Bool} (ht : SEB K tt pt) (hb : SS K E ts ps) : SS K E (tWhile tt ts) (pWhile ms pt ps) := fun p c M0 O0 D D' eo σ H ρ n F O b ⟨W, ⟨m0, w0⟩, turn⟩ => by
  refine ⟨fun m σ H => ∃ ρ n F O, B K p c M0 O0 σ H ρ n F O ∧ W m ρ n, ⟨m0, _, n, F, O, b.keep ms, w0⟩, ?_⟩
  rintro m σ1 H1 ⟨ρ1, n1, F1, O1, b1, w1⟩
  refine ht p c F1 O1 H1 σ1 ρ1 n1 b1.st b1.sl' _ _ (fun k F2 O2 H2 n2 nn q => ?_) (turn m ρ1 n1 w1)
  cases k with
  | false => exact eo.nx _ _ _ _ _ _ (b1.step nn) q
  | true =>
    refine ⟨fun σ' H' => ∃ m', m' < m ∧ ∃ ρ n F O, B K p c M0 O0 σ' H' ρ n F O ∧ W m' ρ n, fun _ _ h => h, ?_⟩
    exact hb p c M0 O0 { D with nx := fun σ' H' => ∃ m', m' < m ∧ ∃ ρ n F O, B K p c M0 O0 σ' H' ρ n F O ∧ W m' ρ n, ct := fun σ' H' => ∃ m', m' < m ∧ ∃ ρ n F O, B K p c M0 O0 σ' H' ρ n F O ∧ W m' ρ n, bk := D.nx } { D' with nx := fun ρ' n' => ∃ m', m' < m ∧ W m' (keepP ms ρ') n', ct := fun ρ' n' => ∃ m', m' < m ∧ W m' (keepP ms ρ') n', bk := D'.nx }
      ⟨fun σ H ρ n F O b ⟨m', h1, h2⟩ => ⟨m', h1, _, n, F, O, b.keep ms, h2⟩, eo.rt, eo.nx, fun σ H ρ n F O b ⟨m', h1, h2⟩ => ⟨m', h1, _, n, F, O, b.keep ms, h2⟩, eo.ex⟩ σ1 H2 ρ1 n2 F2 O2 (b1.step nn) q
end
/-! ### defs -/
def startP (N : List Str) (xs : List PV) : PR := xs.map .fr ++ List.replicate (N.length - xs.length) .no
theorem start_b {K : PySem.W.Frag} {p c : Addr} {F O H : Hp} {n : Int} {N : List Str} {vs : List V} {xs : List PV} (s : St K p c F O H n) (r : RepL K p F vs xs) : B K p c F O (L2.start N vs) H (startP N xs) n F O := by
  have hno : ∀ (i : Nat) (k : OK) (ys : List PV), (startP N xs)[i]? ≠ some (.ow k ys) := fun i k ys h => by
    unfold startP at h
    by_cases hi : i < xs.length
    · rw [List.getElem?_append_left (by simpa using hi), List.getElem?_map] at h
      obtain ⟨x, _, e⟩ := Option.map_eq_some_iff.mp h
      cases e
    · rw [List.getElem?_append_right (by simpa using hi)] at h
      have := List.mem_of_getElem? h
      cases (List.eq_of_mem_replicate this)
  have hb : base (Own (L2.start N vs) (startP N xs)) F = F := by
    funext a
    exact base_n fun ⟨i, k, ys, h, _⟩ => hno i k ys h
  refine ⟨s, .refl, fun i j k k2 xs ys a h => absurd h (hno i k xs), s.cells, by rw [hb]; exact Ex.refl _, ⟨?_, fun i x hx => ?_, fun i k ys h => absurd h (hno i k ys)⟩⟩
  · unfold L2.start startP
    simp [r.len]
  · rw [hb]
    unfold startP at hx
    by_cases hi : i < xs.length
    · rw [List.getElem?_append_left (by simpa using hi), List.getElem?_map] at hx
      obtain ⟨y, hy, e⟩ := Option.map_eq_some_iff.mp hx
      cases e
      obtain ⟨v, hv, rv⟩ := r.get hy
      refine ⟨v, ?_, rv⟩
      unfold L2.start
      rw [List.getElem?_append_left (by simpa [r.len] using hi), List.getElem?_map, hv]
      rfl
    · rw [List.getElem?_append_right (by simpa using hi)] at hx
      have := List.mem_of_getElem? hx
      cases (List.eq_of_mem_replicate this)
/-- a def keeps a promise that knows no heap -/
theorem okP {P : Program} {w0 : World} {K : PySem.W.Frag} {mg : Str → Option Value} {base0 : Heap} {x qual : Str} {params : Arguments} {body : List Stmt} {scope : Scope} {dvs : List V} {kws : List (Str × V)} {f : Addr} {fd : FuncData} {N ps : List Str} {k : Nat} {w : PSp}
    (F : FunD K x qual params body scope dvs kws f fd) (S : FnScope N ps scope) (len : ∀ xs n Q, w xs n Q → xs.length = ps.length)
    (hbody : ∀ (cdv : Value) (A : Around) (outer : List Env) (s : Shared) (H : Hp) (E : XK), Room k (A.deeper (envOfC qual scope s.heap.objs.size f cdv)) →
      ∃ ts pt, PSs (cxOf CX0 P w0 K mg base0 N qual scope f cdv A outer s H E).nox body ts ∧ SS K (fun _ _ _ => False) ts pt ∧ ∀ xs n Q', w xs n Q' → pt { nx := fun _ n => Q' .non n, rt := Q' } (startP N xs) n) : FnOk P w0 K mg base0 CX0 (k + 1) f fd ps (lift K w) := by
  refine F.ok S (fun vs H Q E h => ?_) (fun cdv A outer s H vs Q E hr h => ?_)
  · obtain ⟨p, c, F0, O, n, xs, Q', s, r, hw, _⟩ := h
    rw [r.len]
    exact len _ _ _ hw
  · obtain ⟨p, c, F0, O, n, xs, Q', st, r, hw, k⟩ := h
    obtain ⟨ts, pt, d, sd, hp⟩ := hbody cdv A outer s H E hr
    refine ⟨ts, PSs.nox d, ?_⟩
    refine sd p c F0 O _ { nx := fun _ n => Q' .non n, rt := Q' } ⟨fun σ H ρ n F O2 b q => ?_, fun v x F2 O2 H2 n2 e o s r q => ?_, fun _ _ _ _ _ _ _ h => h.elim, fun _ _ _ _ _ _ _ h => h.elim, fun _ _ _ _ _ _ _ _ _ _ _ _ _ h => h.elim⟩ _ H _ n F0 O (start_b st r) (hp xs n Q' hw)
    · exact k _ _ _ _ _ _ q ⟨b.m0.trans base_sub, b.off, b.st⟩ .non
    · exact k _ _ _ _ _ _ q ⟨e, o, s⟩ r
end Pu

set_option Elab.async false
set_option linter.all false
set_option maxRecDepth 100000
set_option maxHeartbeats 2000000
/-! U6: the rules for pieces of the program, each with its reading without a heap -/
namespace Pu
open PySem PySem.Spec PyProof.Rows L2 Evl
structure XE (K : PySem.W.Frag) (X : Cx) (e : Expr) (te : TE) (pe : PTE) : Prop where
  d : PE X e te
  s : SE K te pe
structure XT (K : PySem.W.Frag) (X : Cx) (e : Expr) (tt : TT) (pt : PTT) : Prop where
  d : PT X e tt
  s : SEB K tt pt
structure XW (K : PySem.W.Frag) (X : Cx) (e : Expr) (tt : TT) (pt : PTT) : Prop where
  d : L2.PW X e tt
  s : SEB K tt pt
structure XA (K : PySem.W.Frag) (X : Cx) (es : List Expr) (ta : TA) (pa : PTA) : Prop where
  d : PA X es ta
  s : SA K ta pa
structure XS (K : PySem.W.Frag) (E : XK) (X : Cx) (st : Stmt) (ts : TS) (ps : PTS) : Prop where
  d : L2.PS X st ts
  s : SS K E ts ps
structure XSs (K : PySem.W.Frag) (E : XK) (X : Cx) (st : List Stmt) (ts : TS) (ps : PTS) : Prop where
  d : PSs X st ts
  s : SS K E ts ps
structure XG (K : PySem.W.Frag) (X : Cx) (e : Expr) (g : TG) (pg : PTG) (vs : List Nat) : Prop where
  d : PG X e g
  s : SG K g pg vs
structure XGs (K : PySem.W.Frag) (X : Cx) (es : List Expr) (g : TGs) (pg : PTGs) (vs : List Nat) : Prop where
  d : PGs X es g
  s : SGs K g pg vs
structure XI (K : PySem.W.Frag) (X : Cx) (tg e : Expr) (wi : TI) (pi : PTI) : Prop where
  d : L2.PI X tg e wi
  s : SI K wi pi
structure XTs (K : PySem.W.Frag) (X : Cx) (ifs : List Expr) (tt : TT) (pt : PTT) : Prop where
  d : PTs X ifs tt
  s : SEB K tt pt
structure XO (K : PySem.W.Frag) (X : Cx) (f : Value → Value → Sem Value) (r : R2) (pr : PR2) : Prop where
  d : OpR X f r
  s : SR K r pr
structure XU (K : PySem.W.Frag) (X : Cx) (f : Value → Sem Value) (r : V → Hp → VK → Prop) (pr : PR1) : Prop where
  d : UnR X f r
  s : SU K r pr
structure XC (K : PySem.W.Frag) (X : Cx) (f : Value) (r : List V → Hp → VK → Prop) (pr : PRL) : Prop where
  d : CallR X f r
  s : SC K r pr
structure XX (K : PySem.W.Frag) (X : Cx) (r : R2) (pr : PR2) : Prop where
  d : IxR X r
  s : SR K r pr
structure XCmp (K : PySem.W.Frag) (X : Cx) (op : CmpOp) (a b : Expr) (te : TE) (pe : PTE) : Prop where
  d : PC X op a b te
  s : SE K te pe
structure XL (K : PySem.W.Frag) (X : Cx) (r : V → Option Int → Option Int → Hp → VK → Prop) (pr : PV → Option Int → Option Int → (PV → Prop) → Prop) : Prop where
  d : SlR X r
  s : ∀ p c F O H n, St K p c F O H n → ∀ x v lo hi, Rep K p F v x → ∀ (Q : VK) (Q' : PV → Prop), (∀ z u F2 H2, Nx K p c F O F2 O H2 n → Rep K p F2 z u → Q' u → Q z H2) → pr x lo hi Q' → r v lo hi H Q
abbrev PTO := PR → Int → (Option Int → Int → Prop) → Prop
structure XPo (K : PySem.W.Frag) (X : Cx) (e : Option Expr) (t : TO) (pt : PTO) : Prop where
  d : L2.PO X e t
  s : ∀ p c F O H σ ρ n, St K p c F O H n → Sl K p F σ ρ → ∀ (Q : Option Int → Hp → Prop) (Q' : Option Int → Int → Prop), (∀ o F2 O2 H2 n2, Nx K p c F O F2 O2 H2 n2 → Q' o n2 → Q o H2) → pt ρ n Q' → t σ H Q
section
variable {K : PySem.W.Frag} {X : Cx} {a b e o : Expr} {es : List Expr} {ta tb te to : TE} {pa pb pe po : PTE} {tt uu : TT} {pt pu : PTT} {tl : TA} {pl : PTA} {pos p2 pos2 apos cpos : Pos}
theorem xv (i : Nat) {x : Str} (hN : X.N[i]? = some x := by rfl) (hv : Vis X.env.scope x := by first | exact Or.inl rfl | exact Or.inr (Or.inl rfl) | exact Or.inr (Or.inr rfl)) (hd : (x == ("__debug__" : Str)) = false := by decide)
    (hcd : (x == ("__classdict__" : Str)) = false := by decide) : XE K X (.Name x pos) (tVar i) (pVar i) := ⟨pv i hN hv hd hcd, se_var⟩
theorem xe_int {i : Int} {j pos} : XE K X (.Constant (.int i) j pos) (tC (.int i)) (pC (.int i)) := ⟨pe_int, se_c fun _ _ => .int i⟩
theorem xe_str {i : Str} {j pos} : XE K X (.Constant (.str i) j pos) (tC (.str i)) (pC (.str i)) := ⟨pe_str, se_c fun _ _ => .str i⟩
theorem xe_bl {i : Bool} {j pos} : XE K X (.Constant (.bool i) j pos) (tC (.bl i)) (pC (.bl i)) := ⟨pe_bl, se_c fun _ _ => .bl i⟩
theorem xe_non {j pos} : XE K X (.Constant .none j pos) (tC .non) (pC .non) := ⟨pe_non, se_c fun _ _ => .non⟩
theorem xe_bltn {x : Str} {v : V} {u : Value} (hg : Gl X x) (hm : X.mg x = none) (hv : bootBuiltins x = some u) (r : RelV v u) (hn : x ≠ "__name__" := by decide) (hd : (x == ("__debug__" : Str)) = false := by decide) : XE K X (.Name x pos) (tC v) (pC (.raw v)) := ⟨pe_bltn hg hm hv r hn hd, se_c fun _ _ => .raw v⟩
theorem xe_op {op : Operator} {r : R2} {pr : PR2} (ho : XO K X (binaryOp op) r pr) (ha : XE K X a ta pa) (hb : XE K X b tb pb) : XE K X (.BinOp a op b pos) (tOp r ta tb) (pOp pr pa pb) := ⟨pe_op ho.d ha.d hb.d, se_op ha.s hb.s ho.s⟩
theorem xe_un {op : UnaryOp} {r : V → Hp → VK → Prop} {pr : PR1} (ho : XU K X (unaryOp op) r pr) (ha : XE K X a ta pa) : XE K X (.UnaryOp op a pos) (tUn r ta) (pUn pr pa) := ⟨pe_un ho.d ha.d, se_un ha.s ho.s⟩
theorem xe_not (ha : XE K X a ta pa) : XE K X (.UnaryOp .Not a pos) (tNotV ta) (pNotV pa) := ⟨pe_not ha.d, se_notV ha.s⟩
theorem xc_isN {j pos'} (ha : XE K X a ta pa) : XCmp K X .Is a (.Constant .none j pos') (tIsN ta) (pIsN pa) := ⟨pc_isN ha.d, se_isN ha.s⟩
theorem xc_notN {j pos'} (ha : XE K X a ta pa) : XCmp K X .IsNot a (.Constant .none j pos') (tNotN ta) (pNotN pa) := ⟨pc_notN ha.d, se_notN ha.s⟩
theorem xe_cmp {op : CmpOp} (h : XCmp K X op a b te pe) (h1 : behindInMarks op b = false := by first | exact nobehind _ (by decide) (by decide) | rfl) : XE K X (.Compare a [op] [b] pos) te pe := ⟨pe_cmp h.d h1, h.s⟩
theorem xt_cmp {op : CmpOp} (h : XCmp K X op a b te pe) (h1 : behindInMarks op b = false := by first | exact nobehind _ (by decide) (by decide) | rfl) : XT K X (.Compare a [op] [b] pos) (tB te) (pB pe) := ⟨pt_cmp h.d h1, st_B h.s⟩
theorem xe_cmpR {op : CmpOp} {r : R2} {pr : PR2} (ho : XO K X (compareOp op) r pr) (ha : XE K X a ta pa) (hb : XE K X b tb pb) (hm : behindInMarks op b = false) : XE K X (.Compare a [op] [b] pos) (tOp r ta tb) (pOp pr pa pb) := ⟨pe_cmpR ho.d ha.d hb.d hm, se_op ha.s hb.s ho.s⟩
theorem xt_cmpR {op : CmpOp} {r : R2} {pr : PR2} (ho : XO K X (compareOp op) r pr) (ha : XE K X a ta pa) (hb : XE K X b tb pb) (hm : behindInMarks op b = false) : XT K X (.Compare a [op] [b] pos) (tTest (tOp r ta tb)) (pB (pOp pr pa pb)) := ⟨pt_cmpR ho.d ha.d hb.d hm, st_test (se_op ha.s hb.s ho.s)⟩
theorem xe_and {rest : List Expr} (ha : XE K X a ta pa) (hb : XE K X (.BoolOp .And (b :: rest) pos) tb pb) : XE K X (.BoolOp .And (a :: b :: rest) pos) (tAndV ta tb) (pAndV pa pb) := ⟨pe_and ha.d hb.d, se_andV ha.s hb.s⟩
theorem xe_or {rest : List Expr} (ha : XE K X a ta pa) (hb : XE K X (.BoolOp .Or (b :: rest) pos) tb pb) : XE K X (.BoolOp .Or (a :: b :: rest) pos) (tOrV ta tb) (pOrV pa pb) := ⟨pe_or ha.d hb.d, se_orV ha.s hb.s⟩
theorem xe_one {op} (h : XE K X a ta pa) : XE K X (.BoolOp op [a] pos) ta pa := ⟨pe_one h.d, h.s⟩
theorem xe_ifExp {c : Expr} (hc : XT K X c tt pt) (ha : XE K X a ta pa) (hb : XE K X b tb pb) : XE K X (.IfExp c a b pos) (tIf tt ta tb) (pIf pt pa pb) := ⟨pe_ifExp hc.d ha.d hb.d, se_if hc.s ha.s hb.s⟩
theorem xe_tup {x1} (h : XA K X es tl pl) : XE K X (.Tuple es x1 pos) (tTup tl) (pTup pl) := ⟨pe_tup h.d, se_tup h.s⟩
theorem xe_lst (h : XA K X es tl pl) : XE K X (.List es pos) (tLst tl) (pLst pl) := ⟨pe_lst h.d, se_lst h.s⟩
theorem xa_nil : XA K X [] tNil pNil := ⟨pa_nil, sa_nil⟩
theorem xa_cons (ha : XE K X e ta pa) (hr : XA K X es tl pl) (hs : starEach (e :: es) X.env = (false, eval e X.env) :: starEach es X.env := by rfl) : XA K X (e :: es) (tCons ta tl) (pCons pa pl) := ⟨pa_cons ha.d hr.d hs, sa_cons ha.s hr.s⟩
theorem xe_fld {f : Str} (he : XE K X e ta pa) (hb : attributeBase e f X.env (eval e X.env) = eval e X.env) (h : X.K = K := by rfl) : XE K X (.Attribute e f pos) (tFld K ta f) (pFld K pa f) := ⟨by subst h; exact pe_fld he.d hb, se_fld he.s⟩
theorem xe_ix {r : R2} {pr : PR2} (hr : XX K X r pr) (ha : XE K X a ta pa) (hb : XE K X b tb pb) (hs : PlainIx b) : XE K X (.Subscript a b pos) (tOp r ta tb) (pOp pr pa pb) := ⟨pe_ix hr.d ha.d hb.d hs, se_op ha.s hb.s hr.s⟩
theorem xix_list (h : X.K = K := by rfl) : XX K X (rIxL K) pIxL := ⟨by subst h; exact ix_list, sr_ixL⟩
theorem xix_tup (h : X.K = K := by rfl) : XX K X (rIxT K) pIxT := ⟨by subst h; exact ix_tup, sr_ixT⟩
def pCut (xs : List PV) (lo hi : Option Int) : List PV := (xs.drop (HT.sIx xs.length 0 lo)).take (HT.sIx xs.length xs.length hi - HT.sIx xs.length 0 lo)
theorem cutV_rep {p : Addr} {F : Hp} {ys : List V} {xs : List PV} (h : RepL K p F ys xs) (lo hi : Option Int) : RepL K p F (cutV ys lo hi) (pCut xs lo hi) := by
  unfold cutV pCut
  rw [h.len]
  exact (h.drop _).take _
def pSlL : PV → Option Int → Option Int → (PV → Prop) → Prop := fun x lo hi Q => ∃ xs, x = .lst xs ∧ Q (.lst (pCut xs lo hi))
theorem xsl_list (h : X.K = K := by rfl) : XL K X (rSlL K) pSlL := ⟨by subst h; exact sl_list, fun p c F O H n s x v lo hi rx Q Q' k ⟨xs, e, q⟩ => by
  subst e
  obtain ⟨a, ys, rfl, h1, h2⟩ := rx.getL
  exact ⟨a, ys, rfl, sq_of (s.f _ _ h1), fun l hl => k _ _ _ _ (.new s hl) (.lst upd_same ((cutV_rep h2 lo hi).mono (Ex.new (s.notF hl)))) q⟩⟩
def pNoPart : PTO := fun _ n Q => Q none n
def pPart (pa : PTE) : PTO := fun ρ n Q => pa ρ n fun x n1 => ∃ i, x = .int i ∧ Q (some i) n1
theorem xpo_none : XPo K X none tNoPart pNoPart := ⟨po_none, fun p c F O H σ ρ n s sl Q Q' k q => k _ F O H n (.refl s) q⟩
theorem xpo_some (h : XE K X a ta pa) : XPo K X (some a) (tPart ta) (pPart pa) := ⟨po_some h.d, fun p c F O H σ ρ n s sl Q Q' k q => h.s p c F O H σ ρ n s sl _ _ (fun v x F2 O2 H2 n2 nn rx ⟨i, e, q1⟩ => by
  subst e
  rw [rx.getI]
  exact ⟨i, rfl, k _ F2 O2 H2 n2 nn q1⟩) q⟩
def pSl (pr : PV → Option Int → Option Int → (PV → Prop) → Prop) (pe : PTE) (pl ph : PTO) : PTE := fun ρ n Q => pe ρ n fun x n1 => pl ρ n1 fun l n2 => ph ρ n2 fun u n3 => pr x l u fun z => Q z n3
theorem xe_slice {lo hi : Option Expr} {th tl : TO} {ph pl : PTO} {r : V → Option Int → Option Int → Hp → VK → Prop} {pr : PV → Option Int → Option Int → (PV → Prop) → Prop} (hr : XL K X r pr) (he : XE K X e te pe) (hl : XPo K X lo tl pl) (hu : XPo K X hi th ph) :
    XE K X (.Subscript e (.Slice lo hi none p2) pos) (tSl r te tl th) (pSl pr pe pl ph) := ⟨pe_slice hr.d he.d hl.d hu.d, fun p c F O H σ ρ n s sl Q Q' k q =>
  he.s p c F O H σ ρ n s sl _ _ (fun v x F2 O2 H2 n2 n1 rx q1 => hl.s p c F2 O2 H2 σ ρ n2 n1.s (sl.mono n1.e) _ _ (fun l F3 O3 H3 n3 nn q2 => hu.s p c F3 O3 H3 σ ρ n3 nn.s ((sl.mono n1.e).mono nn.e) _ _ (fun u F4 O4 H4 n4 nn4 q3 =>
    hr.s p c F4 O4 H4 n4 nn4.s x v l u ((rx.mono nn.e).mono nn4.e) _ _ (fun z w F5 H5 n5 ru q4 => k z w F5 O4 H5 n4 (((n1.trans nn).trans nn4).trans n5) ru q4) q3) q2) q1) q⟩
/-! operators -/
theorem xo_add : XO K X (binaryOp .Add) (rI0 fun i j => .int (i + j)) (pI0 fun i j => .int (i + j)) := ⟨op_add, sr_I0 fun _ _ i j => .int _⟩
theorem xo_sub : XO K X (binaryOp .Sub) (rI0 fun i j => .int (i - j)) (pI0 fun i j => .int (i - j)) := ⟨op_sub, sr_I0 fun _ _ i j => .int _⟩
/-- numbers whose product, whose quotient is not too great -/
def Sml (i : Int) : Prop := -1606938044258990275541962092341162602522202993782792835301376 < i ∧ i < 1606938044258990275541962092341162602522202993782792835301376
theorem Sml.nat {i : Int} (h : Sml i) : i.natAbs < 2 ^ 200 := by
  have e : (2 : Nat) ^ 200 = 1606938044258990275541962092341162602522202993782792835301376 := by decide +kernel
  rw [e]
  unfold Sml at h
  omega
def CM (i j : Int) : Prop := Sml i ∧ Sml j
def CD (i j : Int) : Prop := 0 < j ∧ Sml j
theorem xo_mulW : XO K X (binaryOp .Mult) (rI CMulW fun i j => .int (i * j)) (pI CM fun i j => .int (i * j)) := ⟨op_mulW, sr_I (fun i j h => wide_mul h.1.nat h.2.nat (by decide) (by decide) (by decide)) fun _ _ i j => .int _⟩
theorem xo_fdivW : XO K X (binaryOp .FloorDiv) (rI CDivW fun i j => .int (i / j)) (pI CD fun i j => .int (i / j)) := ⟨op_fdivW, sr_I (fun i j h => wide_div h.1 h.2.nat (by decide) (by decide)) fun _ _ i j => .int _⟩
theorem xo_mod : XO K X (binaryOp .Mod) (rI (fun _ j => 0 < j) fun i j => .int (i % j)) (pI (fun _ j => 0 < j) fun i j => .int (i % j)) := ⟨op_mod, sr_I (fun i j h => h) fun _ _ i j => .int _⟩
theorem xo_pow : XO K X (binaryOp .Pow) (rI CPow fun i j => .int (i ^ j.toNat)) (pI CPow fun i j => .int (i ^ j.toNat)) := ⟨op_pow, sr_I (fun i j h => h) fun _ _ i j => .int _⟩
theorem xo_lt : XO K X (compareOp .Lt) (rI0 fun i j => .bl (decide (i < j))) (pI0 fun i j => .bl (decide (i < j))) := ⟨op_lt, sr_I0 fun _ _ i j => .bl _⟩
theorem xo_le : XO K X (compareOp .LtE) (rI0 fun i j => .bl (decide (i ≤ j))) (pI0 fun i j => .bl (decide (i ≤ j))) := ⟨op_le, sr_I0 fun _ _ i j => .bl _⟩
theorem xo_gt : XO K X (compareOp .Gt) (rI0 fun i j => .bl (decide (j < i))) (pI0 fun i j => .bl (decide (j < i))) := ⟨op_gt, sr_I0 fun _ _ i j => .bl _⟩
theorem xo_ge : XO K X (compareOp .GtE) (rI0 fun i j => .bl (decide (j ≤ i))) (pI0 fun i j => .bl (decide (j ≤ i))) := ⟨op_ge, sr_I0 fun _ _ i j => .bl _⟩
theorem xo_eq : XO K X (compareOp .Eq) rEq pEq := ⟨op_eq, sr_eq⟩
theorem xo_ne : XO K X (compareOp .NotEq) rNe pNe := ⟨op_ne, sr_ne⟩
theorem xo_eqD (hu : X.A.units + 64 < cLine) (h : X.K = K := by rfl) : XO K X (compareOp .Eq) (rEqD K) pEqD := ⟨by subst h; exact op_eqD hu, sr_eqD⟩
theorem xo_neD (hu : X.A.units + 64 < cLine) (h : X.K = K := by rfl) : XO K X (compareOp .NotEq) (rNeD K) pNeD := ⟨by subst h; exact op_neD hu, sr_neD⟩
theorem xo_cat : XO K X (binaryOp .Add) rCat pCat := ⟨op_cat, sr_cat⟩
theorem xun_neg : XU K X (unaryOp .USub) (rU fun i => .int (-i)) (pU fun i => .int (-i)) := ⟨un_neg, su_U fun _ _ i => .int _⟩
/-! tests -/
theorem xt_val (h : XE K X e te pe) (he : ∀ whole, isTrue e X.env whole = (do let v ← whole; standAt e.pos; holding [v] (truthy v)) := by intro _; rfl) : XT K X e (tB te) (pB pe) := ⟨pt_val h.d he, st_B h.s⟩
theorem xt_not (ha : XT K X a tt pt) : XT K X (.UnaryOp .Not a pos) (tNot tt) (pNot pt) := ⟨pt_not ha.d, st_not ha.s⟩
theorem xw_and {rest : List Expr} (ha : XT K X a tt pt) (hb : XW K X (.BoolOp .And (b :: rest) pos) uu pu) : XW K X (.BoolOp .And (a :: b :: rest) pos) (tAnd tt uu) (pAnd pt pu) := ⟨pw_and ha.d hb.d, st_and ha.s hb.s⟩
theorem xw_and1 (ha : XT K X a tt pt) : XW K X (.BoolOp .And [a] pos) tt pt := ⟨pw_and1 ha.d, ha.s⟩
theorem xw_or {rest : List Expr} (ha : XT K X a tt pt) (hb : XW K X (.BoolOp .Or (b :: rest) pos) uu pu) : XW K X (.BoolOp .Or (a :: b :: rest) pos) (tOr tt uu) (pOr pt pu) := ⟨pw_or ha.d hb.d, st_or ha.s hb.s⟩
theorem xw_or1 (ha : XT K X a tt pt) : XW K X (.BoolOp .Or [a] pos) tt pt := ⟨pw_or1 ha.d, ha.s⟩
theorem xw_pt (h : XW K X e tt pt) : XT K X e tt pt := ⟨h.d.pt, h.s⟩
theorem xts_nil : XTs K X [] tYes pYes := ⟨pts_nil, st_yes⟩
theorem xts_one {c : Expr} (h : XT K X c tt pt) : XTs K X [c] tt pt := ⟨pts_one h.d, h.s⟩
/-! calls -/
theorem xe_callB {id : String} {x : Str} {p : Pos} {r : List V → Hp → VK → Prop} {pr : PRL} (hc : XC K X (.builtin id) r pr) (hg : Gl X x) (hm : X.mg x = none) (hv : bootBuiltins x = some (.builtin id)) (ha : XA K X (e :: es) tl pl) (hn : x ≠ "__name__" := by decide) (hdb : (x == ("__debug__" : Str)) = false := by decide)
    (he : starEach (e :: es) X.env = (false, eval e X.env) :: starEach es X.env := by rfl) (hpl : (backTo pos (starEach es X.env)).any (·.1) = false := by rfl) : XE K X (.Call (.Name x p) (e :: es) [] pos) (tCB r tl) (pCB pr pl) := ⟨pe_callB hc.d hg hm hv ha.d hn hdb he hpl, se_cb ha.s hc.s⟩
theorem xe_callTy {T : String} {x : Str} {p : Pos} {r : List V → Hp → VK → Prop} {pr : PRL} (hc : XC K X (.type T) r pr) (hg : Gl X x) (hm : X.mg x = none) (hv : bootBuiltins x = some (.type T)) (ha : XA K X (e :: es) tl pl) (hn : x ≠ "__name__" := by decide) (hdb : (x == ("__debug__" : Str)) = false := by decide)
    (he : starEach (e :: es) X.env = (false, eval e X.env) :: starEach es X.env := by rfl) (hpl : (backTo pos (starEach es X.env)).any (·.1) = false := by rfl) : XE K X (.Call (.Name x p) (e :: es) [] pos) (tCB r tl) (pCB pr pl) := ⟨pe_callTy hc.d hg hm hv ha.d hn hdb he hpl, se_cb ha.s hc.s⟩
theorem xcall_len_seq (h : X.K = K := by rfl) : XC K X (.builtin "len") (fun xs H Q => ∃ p ys, xs = [.ref p] ∧ (SqL K H p ys ∨ SqT K H p ys) ∧ Q (.int ys.length) H) pLen := ⟨by subst h; exact call_len_seq, sc_len⟩
theorem xcall_list_of (h : X.K = K := by rfl) : XC K X (.type "list") (fun xs H Q => ∃ p ys, xs = [.ref p] ∧ (SqL K H p ys ∨ SqT K H p ys) ∧ ∀ l, H l = none → Q (.ref l) (upd H l (.lst ys))) pListOf := ⟨by subst h; exact call_list_of, sc_listOf⟩
theorem xcall_tuple_of (h : X.K = K := by rfl) : XC K X (.type "tuple") (fun xs H Q => ∃ p ys, xs = [.ref p] ∧ ((SqL K H p ys ∧ ∀ l, H l = none → Q (.ref l) (upd H l (.tup ys))) ∨ (SqT K H p ys ∧ Q (.ref p) H))) pTupOf := ⟨by subst h; exact call_tuple_of, sc_tupOf⟩
theorem xcall_min2 (hc : X.calm = true) : XC K X (.builtin "min") (fun xs H Q => ∃ i j, xs = [.int i, .int j] ∧ Q (.int (if j < i then j else i)) H) pMin2 := ⟨call_min2 hc, sc_min2⟩
theorem xcall_max2 (hc : X.calm = true) : XC K X (.builtin "max") (fun xs H Q => ∃ i j, xs = [.int i, .int j] ∧ Q (.int (if j > i then j else i)) H) pMax2 := ⟨call_max2 hc, sc_max2⟩
def pIsTup : PRL := fun xs Q => ∃ ys, xs = [.tup ys, .raw (.ty "tuple")] ∧ Q (.bl true)
theorem xcall_isTup : XC K X (.builtin "isinstance") RZ.rIsTy pIsTup := ⟨RZ.call_isTy, fun p c F O H n s xs vs rx Q Q' k ⟨ys, e, q⟩ => by
  subst e
  obtain ⟨v, ws, rfl, r, r2⟩ := rx.cons_inv
  obtain ⟨v2, ws2, rfl, r3, r4⟩ := r2.cons_inv
  cases r4
  obtain ⟨a, us, rfl, h1, h2⟩ := r.getT
  cases r3
  exact ⟨.ref a, "tuple", rfl, .tup (s.f _ _ h1), k _ _ F H (.refl s) (.bl _) q⟩⟩
def pIntOf : PRL := fun xs Q => ∃ i, xs = [.int i] ∧ Q (.int i)
theorem xcall_int1 : XC K X (.type "int") (fun xs H Q => (∃ i, xs = [.int i] ∧ Q (.int i) H) ∨ ∃ k, xs = [.bl k] ∧ Q (.int (if k then 1 else 0)) H) pIntOf := ⟨call_int1, fun p c F O H n s xs vs rx Q Q' k ⟨i, e, q⟩ => by
  subst e
  obtain ⟨v, ws, rfl, r, r2⟩ := rx.cons_inv
  cases r2
  rw [r.getI]
  exact Or.inl ⟨i, rfl, k _ _ F H (.refl s) (.int _) q⟩⟩
theorem xe_call {x : Str} {p : Pos} {k : Nat} {f : Addr} {fd : FuncData} {ps : List Str} {w : PSp} (F : FnOk X.prog X.w X.K X.mg X.base CX0 k f fd ps (lift K w)) (hr : Room k X.A) (hg : Gl X x) (hm : X.mg x = some (.ref f)) (hk : PySem.W.keepIn X.K (.ref f) = true) (hb : Binds X.K fd ps [])
    (ha : XA K X (e :: es) tl pl) (hdb : (x == ("__debug__" : Str)) = false := by decide) (he : starEach (e :: es) X.env = (false, eval e X.env) :: starEach es X.env := by rfl) (hpl : (backTo pos (starEach es X.env)).any (·.1) = false := by rfl) :
    XE K X (.Call (.Name x p) (e :: es) [] pos) (tCall (lift K w) [] (fun _ _ _ => False) tl) (pCall w pl) := ⟨pe_call F hr hg hm hk hb .nil pass0 ha.d hdb he hpl, se_call ha.s⟩
theorem xe_meth {m : Str} {C f : Addr} {k : Nat} {fd : FuncData} {ps : List Str} {w : PSp} {pq : Sem Bool} (he : XE K X o te pe) (c : Cls X.K C) (hm : Meth X.K C m f) (F : FnOk X.prog X.w X.K X.mg X.base CX0 k f fd ps (lift K w)) (hr : Room k X.A) (hb : Binds X.K fd ps []) (ha : XA K X (e :: es) tl pl)
    (hst : starEach (e :: es) X.env = (false, eval e X.env) :: starEach es X.env := by rfl) (hpl : (backTo pos (starEach es X.env)).any (·.1) = false := by rfl)
    (ht : eval (.Call (.Attribute o m apos) (e :: es) [] pos) X.env = (do
      let ov ← eval o X.env
      standAt apos.atName
      let (f, first) ← holding [ov] (getMethod ov m pq)
      callWith pos f first (backTo pos (starEach (e :: es) X.env)) (backToKw pos (keywordEach [] X.env))) := by rfl) :
    XE K X (.Call (.Attribute o m apos) (e :: es) [] pos) (tMeth C m (lift K w) [] (fun _ _ _ => False) te tl) (pMeth C m w pe pl) := ⟨pe_meth he.d c hm F hr hb .nil pass0 ha.d hst hpl ht, se_meth he.s ha.s⟩
theorem xe_meth0 {m : Str} {C f : Addr} {k : Nat} {fd : FuncData} {ps : List Str} {w : PSp} {pq : Sem Bool} (he : XE K X o te pe) (c : Cls X.K C) (hm : Meth X.K C m f) (F : FnOk X.prog X.w X.K X.mg X.base CX0 k f fd ps (lift K w)) (hr : Room k X.A) (hb : Binds X.K fd ps [])
    (ht : eval (.Call (.Attribute o m apos) [] [] pos) X.env = (do
      let ov ← eval o X.env
      standAt apos.atName
      let (f, first) ← holding [ov] (getMethod ov m pq)
      callWith pos f first (backTo pos (starEach [] X.env)) (backToKw pos (keywordEach [] X.env))) := by rfl) :
    XE K X (.Call (.Attribute o m apos) [] [] pos) (tMeth C m (lift K w) [] (fun _ _ _ => False) te tNil) (pMeth C m w pe pNil) := ⟨pe_meth0 he.d c hm F hr hb .nil pass0 ht, se_meth he.s sa_nil⟩
/-! targets, what is walked -/
theorem xg_name {i : Nat} {x : Str} (hN : X.N.Nodup) (hi : X.N[i]? = some x) (hx : Loc X.env.scope x) (hf : X.fn x = true ∨ X.env.scope.names.lookup x = some .local := by first | exact .inl rfl | exact .inr rfl | assumption) : XG K X (.Name x pos) (gName i) (pgName i) [i] := ⟨pg_name hN hi hx hf, sg_name⟩
theorem xgs_nil : XGs K X [] gNil pgNil [] := ⟨pgs_nil, sgs_nil⟩
theorem xgs_cons {g : TG} {gs : TGs} {pg : PTG} {pgs : PTGs} {vs ws : List Nat} (h1 : XG K X e g pg vs) (h2 : XGs K X es gs pgs ws) (hs : (assignEach (e :: es) X.env).map (·.2) = assign e X.env :: (assignEach es X.env).map (·.2) := by rfl) : XGs K X (e :: es) (gCons g gs) (pgCons pg pgs) (vs ++ ws) := ⟨pgs_cons h1.d h2.d hs, sgs_cons h1.s h2.s⟩
theorem xg_tup {k n : Nat} {gs : TGs} {pgs : PTGs} {vs : List Nat} (hc : X.calm = true) (h : XGs K X es gs pgs vs) (hn : (assignEach es X.env).length = n := by rfl) (hst : (assignEach es X.env).findIdx? (·.1) = none := by rfl) (hK : X.K = K := by rfl) : XG K X (.Tuple es k pos) (gTup K n gs) (pgTup n pgs) vs := ⟨by subst hK; exact pg_tup hc h.d hn hst, sg_tup h.s⟩
theorem xi_list {tg : Expr} (h : XE K X e te pe) (hK : X.K = K := by rfl) : XI K X tg e (iList K te) (piL pe) := ⟨by subst hK; exact pi_list h.d, si_list h.s⟩
theorem xi_tup {tg : Expr} (h : XE K X e te pe) (hK : X.K = K := by rfl) : XI K X tg e (iTup K te) (piT pe) := ⟨by subst hK; exact pi_tup h.d, si_tup h.s⟩
theorem xi_range1 {tg : Expr} {p : Pos} (hg : Gl X "range") (hm : X.mg "range" = none) (ha : XA K X [a] tl pl) (hs : starEach [a] X.env = [(false, eval a X.env)] := by rfl) : XI K X tg (.Call (.Name "range" p) [a] [] pos) (iRng1 tl) (piR1 pl) := ⟨pi_range1 hg hm ha.d hs, si_r1 ha.s⟩
theorem xi_range2 {tg : Expr} {p : Pos} (hg : Gl X "range") (hm : X.mg "range" = none) (ha : XA K X [a, b] tl pl) (hs : starEach [a, b] X.env = [(false, eval a X.env), (false, eval b X.env)] := by rfl) (hs2 : starEach [b] X.env = [(false, eval b X.env)] := by rfl) : XI K X tg (.Call (.Name "range" p) [a, b] [] pos) (iRng2 tl) (piR2 pl) := ⟨pi_range2 hg hm ha.d hs hs2, si_r2 ha.s⟩
theorem xe_lc {elt tg iter : Expr} {ifs : List Expr} {scope : Scope} {own : List (Str × Nat)} {wi : TI} {pi : PTI} {g : TG} {pg : PTG} {vs : List Nat} (hc : X.calm = true) (hN : X.N.Nodup) (hi : XI K X tg iter wi pi) (ok : BlkOk X.N X.env.scope scope own)
    (hg : ∀ (s : Shared) (H : Hp) (C : Addr) (cl : List (Str × Addr)) (fp : List Addr), XG K (X.blk s H scope (compEnvC scope cl C X.env) fp) tg g pg vs) (ht : ∀ (s : Shared) (H : Hp) (C : Addr) (cl : List (Str × Addr)) (fp : List Addr), XTs K (X.blk s H scope (compEnvC scope cl C X.env) fp) ifs tt pt)
    (he : ∀ (s : Shared) (H : Hp) (C : Addr) (cl : List (Str × Addr)) (fp : List Addr), XE K (X.blk s H scope (compEnvC scope cl C X.env) fp) elt te pe) (hs : ∀ x, foldedSetIterable iter X.env x = pure x := by intro _; rfl) (hv : vs = own.map (·.2) := by rfl) :
    XE K X (.ListComp elt [⟨tg, iter, ifs, 0⟩] scope pos) (tLc wi g tt te (own.map (·.2))) (pLc pi pg pt pe (own.map (·.2))) := by
  subst hv
  exact ⟨pe_lc hc hN hi.d ok (fun s H C cl fp => (hg s H C cl fp).d) (fun s H C cl fp => (ht s H C cl fp).d) (fun s H C cl fp => (he s H C cl fp).d) hs, se_lc hi.s (hg X.s_0 (fun _ => none) 0 [] []).s (ht X.s_0 (fun _ => none) 0 [] []).s (he X.s_0 (fun _ => none) 0 [] []).s⟩
/-! statements -/
variable {E : XK} {st : Stmt} {rest body : List Stmt} {ts us : TS} {ps qs : PTS}
theorem xss_cons (h1 : XS K E X st ts ps) (h2 : XSs K E X rest us qs) : XSs K E X (st :: rest) (tSeq ts us) (pSeq ps qs) := ⟨pss_cons h1.d h2.d, ss_seq h1.s h2.s⟩
theorem xss_one (h1 : XS K E X st ts ps) : XSs K E X [st] ts ps := ⟨pss_one h1.d, h1.s⟩
theorem xss_nil : XSs K E X [] tNext pNext := ⟨pss_nil, ss_next⟩
theorem xss_never : XSs K E X rest tNever pNever := ⟨pss_never, ss_never⟩
theorem xs_never : XS K E X st tNever pNever := ⟨ps_never, ss_never⟩
theorem xs_break : XS K E X (.Break pos) tBreak pBreak := ⟨ps_break, ss_break⟩
theorem xs_continue : XS K E X (.Continue pos) tCont pCont := ⟨ps_continue, ss_cont⟩
theorem xs_pass : XS K E X (.Pass pos) tNext pNext := ⟨ps_pass, ss_next⟩
theorem xs_set {i : Nat} {x : Str} {pos' : Pos} (hN : X.N.Nodup) (hi : X.N[i]? = some x) (hx : Loc X.env.scope x) (he : XE K X e te pe) (hs : swapsWith e (some (.Name x pos')) pos.line X.env = pure false := by rfl) (hf : X.fn x = true ∨ X.env.scope.names.lookup x = some .local := by first | exact .inl rfl | exact .inr rfl | assumption) :
    XS K E X (.Assign [.Name x pos'] e pos) (tAsg te (gName i)) (pAsg pe (pgName i)) := ⟨ps_set hN hi hx he.d hs hf, ss_asg he.s sg_name⟩
theorem xs_setV {i : Nat} {x : Str} {pos' : Pos} (hN : X.N.Nodup) (hi : X.N[i]? = some x) (hx : Loc X.env.scope x) (he : XE K X e te pe) (hs : swapsWith e (some (.Name x pos')) pos.line X.env = pure false := by rfl) (hf : X.fn x = true ∨ X.env.scope.names.lookup x = some .local := by first | exact .inl rfl | exact .inr rfl | assumption) :
    XS K E X (.Assign [.Name x pos'] e pos) (tAsg te (gName i)) (pAsgV i pe) := ⟨ps_set hN hi hx he.d hs hf, ss_asgV he.s⟩
theorem xs_setOw {i : Nat} {x : Str} {pos' : Pos} (hN : X.N.Nodup) (hi : X.N[i]? = some x) (hx : Loc X.env.scope x) (ha : XA K X es tl pl) (hs : swapsWith (.List es p2) (some (.Name x pos')) pos.line X.env = pure false := by rfl) (hf : X.fn x = true ∨ X.env.scope.names.lookup x = some .local := by first | exact .inl rfl | exact .inr rfl | assumption) :
    XS K E X (.Assign [.Name x pos'] (.List es p2) pos) (tAsg (tLst tl) (gName i)) (pSetOw i pl) := ⟨ps_set hN hi hx (pe_lst ha.d) hs hf, ss_setOw ha.s⟩
theorem xs_setLc {i : Nat} {y : Str} {py spos : Pos} {elt tg iter : Expr} {ifs : List Expr} {scope : Scope} {own : List (Str × Nat)} {wi : TI} {pi : PTI} {g : TG} {pg : PTG} {vs : List Nat} (hc : X.calm = true) (hN : X.N.Nodup) (hy : X.N[i]? = some y) (hyl : X.env.scope.names.lookup y = some .local)
    (hsw : swapsWith (.ListComp elt [⟨tg, iter, ifs, 0⟩] scope pos) (some (.Name y py)) spos.line X.env = pure true) (hi : XI K X tg iter wi pi) (ok : BlkOk X.N X.env.scope scope own)
    (hg : ∀ (s : Shared) (H : Hp) (C : Addr) (cl : List (Str × Addr)) (fp : List Addr), XG K (X.blk s H scope (compEnvC scope cl C X.env) fp) tg g pg vs) (ht : ∀ (s : Shared) (H : Hp) (C : Addr) (cl : List (Str × Addr)) (fp : List Addr), XTs K (X.blk s H scope (compEnvC scope cl C X.env) fp) ifs tt pt)
    (he : ∀ (s : Shared) (H : Hp) (C : Addr) (cl : List (Str × Addr)) (fp : List Addr), XE K (X.blk s H scope (compEnvC scope cl C X.env) fp) elt te pe) (hs : ∀ x, foldedSetIterable iter X.env x = pure x := by intro _; rfl) (hv : vs = own.map (·.2) := by rfl) :
    XS K E X (.Assign [.Name y py] (.ListComp elt [⟨tg, iter, ifs, 0⟩] scope pos) spos) (tAsg (tLc wi g tt te (own.map (·.2))) (gName i)) (pAsg (pLc pi pg pt pe (own.map (·.2))) (pgName i)) := by
  subst hv
  exact ⟨ps_setLc hc hN hy hyl hsw hi.d ok (fun s H C cl fp => (hg s H C cl fp).d) (fun s H C cl fp => (ht s H C cl fp).d) (fun s H C cl fp => (he s H C cl fp).d) hs, ss_asg (se_lc hi.s (hg X.s_0 (fun _ => none) 0 [] []).s (ht X.s_0 (fun _ => none) 0 [] []).s (he X.s_0 (fun _ => none) 0 [] []).s) sg_name⟩
theorem xs_asg {tg : Expr} {g : TG} {pg : PTG} {vs : List Nat} (he : XE K X e te pe) (hg : XG K X tg g pg vs) (hs : swapsWithSole [tg] e pos.line X.env = pure false := by rfl) (hw : swappedStores [tg] e X.env = pure none := by rfl)
    (h1 : (assignEach [tg] X.env).map (·.2) = [assign tg X.env] := by rfl) : XS K E X (.Assign [tg] e pos) (tAsg te g) (pAsg pe pg) := ⟨ps_asg he.d hg.d hs hw h1, ss_asg he.s hg.s⟩
theorem xs_par {i j : Nat} {x y : Str} {px py pt : Pos} {kt k2 pt2} (hc : X.calm = true) (hN : X.N.Nodup) (hi : X.N[i]? = some x) (hj : X.N[j]? = some y) (hij : i ≠ j)
    (hx : X.env.scope.names.lookup x = some .local) (hy : X.env.scope.names.lookup y = some .local) (ha : XA K X [a, b] tl pl)
    (hw : swappedStores [.Tuple [.Name x px, .Name y py] kt pt] (.Tuple [a, b] k2 pt2) X.env = pure (some [x, y]))
    (hs : swapsWithSole [.Tuple [.Name x px, .Name y py] kt pt] (.Tuple [a, b] k2 pt2) pos.line X.env = pure false := by rfl) :
    XS K E X (.Assign [.Tuple [.Name x px, .Name y py] kt pt] (.Tuple [a, b] k2 pt2) pos) (tPar i j tl) (pPar i j pl) := ⟨ps_par hc hN hi hj hij hx hy ha.d hw hs, ss_par ha.s⟩
theorem xs_par3 {i j l : Nat} {x y z : Str} {a b c : Expr} {px py pz pt : Pos} {kt k2 pt2} (hc : X.calm = true) (hN : X.N.Nodup) (hi : X.N[i]? = some x) (hj : X.N[j]? = some y) (hl : X.N[l]? = some z) (hij : i ≠ j) (hil : i ≠ l) (hjl : j ≠ l)
    (hx : X.env.scope.names.lookup x = some .local) (hy : X.env.scope.names.lookup y = some .local) (hz : X.env.scope.names.lookup z = some .local) (ha : XA K X [a, b, c] tl pl)
    (hw : swappedStores [.Tuple [.Name x px, .Name y py, .Name z pz] kt pt] (.Tuple [a, b, c] k2 pt2) X.env = pure (some [x, y, z]))
    (hs : swapsWithSole [.Tuple [.Name x px, .Name y py, .Name z pz] kt pt] (.Tuple [a, b, c] k2 pt2) pos.line X.env = pure false := by rfl) :
    XS K E X (.Assign [.Tuple [.Name x px, .Name y py, .Name z pz] kt pt] (.Tuple [a, b, c] k2 pt2) pos) (tPar3 i j l tl) (pPar3 i j l pl) := ⟨ps_par3 hc hN hi hj hl hij hil hjl hx hy hz ha.d hw hs, ss_par3 ha.s⟩
theorem xs_if {c : Expr} {bs : List Stmt} (hc : XT K X c tt pt) (ha : XSs K E X body ts ps) (hb : XSs K E X bs us qs) : XS K E X (.If c body bs pos) (tIfS tt ts us) (pIfS pt ps qs) := ⟨ps_if hc.d ha.d hb.d, ss_if hc.s ha.s hb.s⟩
theorem xs_for (ms : List Bool) {iter tg : Expr} {wi : TI} {pi : PTI} {g : TG} {pg : PTG} {vs : List Nat} (hp : PassesOwn (model X.prog X.w) X.A X.env X.xe) (hc : X.calm = true) (hi : XI K X tg iter wi pi) (hg : XG K X tg g pg vs) (hb : XSs K E X body ts ps)
    (hs : ∀ x, foldedSetIterable iter X.env x = pure x := by intro _; rfl) : XS K E X (.For tg iter body [] pos) (tFor wi g ts) (pFor ms pi pg ps) := ⟨ps_for hp hc hi.d hg.d hb.d hs, ss_for hi.s hg.s hb.s⟩
theorem xs_while (ms : List Bool) {c : Expr} (hp : PassesOwn (model X.prog X.w) X.A X.env X.xe) (hc : XT K X c tt pt) (hb : XSs K E X body ts ps) : XS K E X (.While c body [] pos) (tWhile tt ts) (pWhile ms pt ps) := ⟨ps_while hp hc.d hb.d, ss_while hc.s hb.s⟩
theorem xs_ret (he : XE K X e te pe) : XS K E X (.Return (some e) pos) (tRet te) (pRet pe) := ⟨ps_ret he.d, ss_ret he.s⟩
theorem xs_retN : XS K E X (.Return none pos) tRetN pRetN := ⟨ps_retN, ss_retN⟩
theorem xs_expr (he : XE K X e te pe) (hs : swapsWith e none pos.line X.env = pure false := by rfl) : XS K E X (.Expr e pos) (tDrop te) (pDrop pe) := ⟨ps_expr he.d hs, ss_drop he.s⟩
theorem xs_app (i : Nat) {x : Str} (he : XE K X e te pe) (hK : X.K = K := by rfl) (hN : X.N[i]? = some x := by rfl) (hv : Vis X.env.scope x := by first | exact Or.inl rfl | exact Or.inr (Or.inl rfl) | exact Or.inr (Or.inr rfl)) (hd : (x == ("__debug__" : Str)) = false := by decide) (hcd : (x == ("__classdict__" : Str)) = false := by decide)
    (hbase : attributeBase (.Name x p2) "append" X.env (eval (.Name x p2) X.env) = eval (.Name x p2) X.env := by rfl)
    (hfew : ((backTo cpos (starEach [e] X.env)).all (fun x => !x.1) && (backToKw cpos (keywordEach [] X.env)).all (fun x => x.1.isSome) && decide ([e].length + ([] : List Keyword).length + (if ([] : List Keyword).isEmpty then 0 else 1) < 30)) = true := by rfl)
    (hline : (apos.endLine == cpos.line) = true := by rfl) (hs : starEach [e] X.env = (false, eval e X.env) :: starEach [] X.env := by rfl) (hplain : (backTo cpos (starEach [] X.env)).any (·.1) = false := by rfl)
    (hsw : swapsWith (.Call (.Attribute (.Name x p2) "append" apos) [e] [] cpos) none pos.line X.env = pure false := by rfl) :
    XS K E X (.Expr (.Call (.Attribute (.Name x p2) "append" apos) [e] [] cpos) pos) (tDrop (tBM K "list" rAppend (tVar i) (tCons te tNil))) (pApp i pe) :=
  ⟨by subst hK; exact ps_expr (pe_bm PySem.F.plainAttrs_list PySem.F.slot_list_append PySem.F.type_list_append mt_append (pv i hN hv hd hcd) (pa_cons he.d pa_nil hs) hbase hfew hline hs hplain) hsw, ss_app he.s⟩
theorem xs_appV (i : Nat) {x : Str} (he : XE K X e te pe) (hK : X.K = K := by rfl) (hN : X.N[i]? = some x := by rfl) (hv : Vis X.env.scope x := by first | exact Or.inl rfl | exact Or.inr (Or.inl rfl) | exact Or.inr (Or.inr rfl)) (hd : (x == ("__debug__" : Str)) = false := by decide) (hcd : (x == ("__classdict__" : Str)) = false := by decide)
    (hbase : attributeBase (.Name x p2) "append" X.env (eval (.Name x p2) X.env) = eval (.Name x p2) X.env := by rfl)
    (hfew : ((backTo cpos (starEach [e] X.env)).all (fun x => !x.1) && (backToKw cpos (keywordEach [] X.env)).all (fun x => x.1.isSome) && decide ([e].length + ([] : List Keyword).length + (if ([] : List Keyword).isEmpty then 0 else 1) < 30)) = true := by rfl)
    (hline : (apos.endLine == cpos.line) = true := by rfl) (hs : starEach [e] X.env = (false, eval e X.env) :: starEach [] X.env := by rfl) (hplain : (backTo cpos (starEach [] X.env)).any (·.1) = false := by rfl)
    (hsw : swapsWith (.Call (.Attribute (.Name x p2) "append" apos) [e] [] cpos) none pos.line X.env = pure false := by rfl) :
    XS K E X (.Expr (.Call (.Attribute (.Name x p2) "append" apos) [e] [] cpos) pos) (tDrop (tBM K "list" rAppend (tVar i) (tCons te tNil))) (pAppV i pe) :=
  ⟨by subst hK; exact ps_expr (pe_bm PySem.F.plainAttrs_list PySem.F.slot_list_append PySem.F.type_list_append mt_append (pv i hN hv hd hcd) (pa_cons he.d pa_nil hs) hbase hfew hline hs hplain) hsw, ss_appV he.s⟩
theorem xs_putI (i : Nat) {x : Str} (hj : XE K X o to po) (he : XE K X e te pe) (hN : X.N[i]? = some x := by rfl) (hv : Vis X.env.scope x := by first | exact Or.inl rfl | exact Or.inr (Or.inl rfl) | exact Or.inr (Or.inr rfl)) (hd : (x == ("__debug__" : Str)) = false := by decide) (hcd : (x == ("__classdict__" : Str)) = false := by decide)
    (ha : ∀ v, assign (.Subscript (.Name x p2) o pos2) X.env v = (do
      let ov ← holding [v] (eval (.Name x p2) X.env)
      let iv ← holding [v, ov] (eval o X.env)
      standAt pos2
      holding [v, ov, iv] (setItem ov iv v)
      release [v, ov, iv] []) := by intro _; rfl)
    (hs : swapsWithSole [.Subscript (.Name x p2) o pos2] e pos.line X.env = pure false := by rfl) (hw : swappedStores [.Subscript (.Name x p2) o pos2] e X.env = pure none := by rfl)
    (h1 : (assignEach [.Subscript (.Name x p2) o pos2] X.env).map (·.2) = [assign (.Subscript (.Name x p2) o pos2) X.env] := by rfl) : XS K E X (.Assign [.Subscript (.Name x p2) o pos2] e pos) (tAsg te (gSub (tVar i) to rSetL)) (pPutI i po pe) :=
  ⟨ps_asg he.d (pg_sub (pv i hN hv hd hcd) hj.d set_list ha) hs hw h1, ss_putI hj.s he.s⟩
end
end Pu
namespace Pu
open PySem PySem.Spec PyProof.Rows L2 Evl
/-- a def keeps a promise that knows no heap -/
theorem okX {P : Program} {w0 : World} {K : PySem.W.Frag} {mg : Str → Option Value} {base0 : Heap} {x qual : Str} {params : Arguments} {body : List Stmt} {scope : Scope} {dvs : List V} {kws : List (Str × V)} {f : Addr} {fd : FuncData} {N ps : List Str} {k : Nat} {w : PSp}
    (F : FunD K x qual params body scope dvs kws f fd) (S : FnScope N ps scope) (len : ∀ xs n Q, w xs n Q → xs.length = ps.length)
    (hbody : ∀ (cdv : Value) (A : Around) (outer : List Env) (s : Shared) (H : Hp) (E : XK), Room k (A.deeper (envOfC qual scope s.heap.objs.size f cdv)) →
      ∃ ts pt, XSs K (fun _ _ _ => False) (cxOf CX0 P w0 K mg base0 N qual scope f cdv A outer s H E).nox body ts pt ∧ ∀ xs n Q', w xs n Q' → pt { nx := fun _ n => Q' .non n, rt := Q' } (startP N xs) n) : FnOk P w0 K mg base0 CX0 (k + 1) f fd ps (lift K w) :=
  okP F S len fun cdv A outer s H E hr => let ⟨ts, pt, d, h⟩ := hbody cdv A outer s H E hr; ⟨ts, pt, d.d, d.s, h⟩
end Pu

set_option Elab.async false
set_option linter.all false
set_option maxRecDepth 100000
set_option maxHeartbeats 2000000
/-! U7: words to go through readings by simp -/
namespace Pu
open PySem PySem.Spec PyProof.Rows L2 Evl
def pO : Option Int → PV
  | none => .non
  | some i => .int i
theorem pO_none : pO none = .non := rfl
theorem pO_some {i : Int} : pO (some i) = .int i := rfl
theorem isN_pO (o : Option Int) : (pO o).isN = o.isNone := by cases o <;> rfl
theorem isN_int (i : Int) : (PV.int i).isN = false := rfl
theorem isN_bl (i : Bool) : (PV.bl i).isN = false := rfl
theorem isN_str (i : Str) : (PV.str i).isN = false := rfl
theorem isN_non : PV.non.isN = true := rfl
theorem isN_tup (i : List PV) : (PV.tup i).isN = false := rfl
theorem isN_lst (i : List PV) : (PV.lst i).isN = false := rfl
theorem isN_ob (C : Addr) (i : List (Str × PV)) : (PV.ob C i).isN = false := rfl
theorem g0 {s : PS} {ρ : PR} : getV (s :: ρ) 0 = s.val := rfl
theorem g0r {s : PS} {ρ : PR} : getV (s :: ρ) (nat_lit 0) = s.val := rfl
theorem gS {s : PS} {ρ : PR} {i : Nat} : getV (s :: ρ) (i + 1) = getV ρ i := rfl
theorem v_fr {x : PV} : (PS.fr x).val = some x := rfl
theorem v_ow {x : List PV} : (PS.ow none x).val = some (.lst x) := rfl
theorem v_od {ks : List (List Key)} {x : List PV} : (PS.ow (some ks) x).val = some (.dic ks x) := rfl
theorem hid_nil : hide [] = [] := rfl
theorem hid_fr {x : PV} {ρ : PR} : hide (.fr x :: ρ) = .fr x :: hide ρ := rfl
theorem hid_no {ρ : PR} : hide (.no :: ρ) = .no :: hide ρ := rfl
theorem hid_ow {k : OK} {xs : List PV} {ρ : PR} : hide (.ow k xs :: ρ) = .no :: hide ρ := rfl
theorem keep_t {ms : List Bool} {s : PS} {ρ : PR} : keepP (true :: ms) (s :: ρ) = s :: keepP ms ρ := rfl
theorem keep_f {ms : List Bool} {s : PS} {ρ : PR} : keepP (false :: ms) (s :: ρ) = .no :: keepP ms ρ := rfl
theorem keep_nil {ρ : PR} : keepP [] ρ = ρ := by cases ρ <;> rfl
theorem noOw_nil : noOw [] = true := rfl
theorem noOw_fr {x : PV} {ρ : PR} : noOw (.fr x :: ρ) = noOw ρ := rfl
theorem noOw_no {ρ : PR} : noOw (.no :: ρ) = noOw ρ := rfl
theorem noOw_ow {k : OK} {xs : List PV} {ρ : PR} : noOw (.ow k xs :: ρ) = false := rfl
theorem noL_int {i : Int} : noL (.int i) = true := rfl
theorem noL_bl {i : Bool} : noL (.bl i) = true := rfl
theorem noL_str {i : Str} : noL (.str i) = true := rfl
theorem noL_non : noL .non = true := rfl
theorem noL_pO {o : Option Int} : noL (pO o) = true := by cases o <;> rfl
theorem noL_tup {xs : List PV} : noL (.tup xs) = noLL xs := rfl
theorem noLL_nil : noLL [] = true := rfl
theorem noLL_cons {x : PV} {xs : List PV} : noLL (x :: xs) = (noL x && noLL xs) := rfl
theorem stow_eq {ρ : PR} {x : PV} : stow ρ x = (noOw ρ || noL x) := rfl
theorem len_tup {xs : List PV} : (PV.tup xs).len? = some xs.length := rfl
theorem len_lst {xs : List PV} : (PV.lst xs).len? = some xs.length := rfl
theorem len_scr {k : Nat} : (PV.scr k).len? = some k := rfl
theorem at_nat {xs : List PV} {i : Nat} : atI xs (i : Int) = xs[i]? := by
  unfold atI ixN
  rw [if_pos (by omega)]
  by_cases h : (i : Int) < (xs.length : Int)
  · rw [if_pos h]
    rfl
  · rw [if_neg h]
    exact (List.getElem?_eq_none (by omega)).symm
theorem at_lit {xs : List PV} {i : Nat} : atI xs (OfNat.ofNat i : Int) = xs[i]? := at_nat
theorem at_0 {x : PV} {xs : List PV} : atI (x :: xs) 0 = some x := by
  rw [show (0 : Int) = ((0 : Nat) : Int) from rfl, at_nat]
  rfl
theorem at_1 {x y : PV} {xs : List PV} : atI (x :: y :: xs) 1 = some y := by
  rw [show (1 : Int) = ((1 : Nat) : Int) from rfl, at_nat]
  rfl
theorem at_2 {x y z : PV} {xs : List PV} : atI (x :: y :: z :: xs) 2 = some z := by
  rw [show (2 : Int) = ((2 : Nat) : Int) from rfl, at_nat]
  rfl
theorem at_3 {x y z u : PV} {xs : List PV} : atI (x :: y :: z :: u :: xs) 3 = some u := by
  rw [show (3 : Int) = ((3 : Nat) : Int) from rfl, at_nat]
  rfl
/-- numbers from 0 on, as places -/
theorem at_of {xs : List PV} {i : Int} {x : PV} (h : 0 ≤ i) (e : xs[i.toNat]? = some x) : atI xs i = some x := by
  rw [← Int.toNat_of_nonneg h, at_nat]
  exact e
theorem at_last {xs : List PV} {x : PV} (e : xs.getLast? = some x) : atI xs (-1) = some x := by
  have hne : xs ≠ [] := fun z => by rw [z] at e; cases e
  have hl : 0 < xs.length := List.length_pos_iff.mpr hne
  unfold atI ixN
  rw [if_neg (by decide), if_pos (by omega)]
  show xs[((-1 : Int) + (xs.length : Int)).toNat]? = _
  rw [show ((-1 : Int) + (xs.length : Int)).toNat = xs.length - 1 by omega, ← List.getLast?_eq_getElem?]
  exact e
theorem sc_int {i : Int} : (PV.int i).sc = some (.int i) := rfl
theorem sc_bl {i : Bool} : (PV.bl i).sc = some (.bl i) := rfl
theorem sc_str {i : Str} : (PV.str i).sc = some (.str i) := rfl
theorem sc_non : PV.non.sc = some .non := rfl
def vO : Option Int → V
  | none => .non
  | some i => .int i
theorem sc_pO {o : Option Int} : (pO o).sc = some (vO o) := by cases o <;> rfl
theorem vO_inj {a b : Option Int} : vO a = vO b ↔ a = b := by cases a <;> cases b <;> simp [vO]
theorem vO_int {a : Option Int} {i : Int} : vO a = .int i ↔ a = some i := by cases a <;> simp [vO]
theorem int_vO {a : Option Int} {i : Int} : V.int i = vO a ↔ a = some i := by cases a <;> simp [vO, eq_comm]
theorem scal_OO {a b : Option Int} : scal (vO a) (vO b) = true := by cases a <;> cases b <;> rfl
theorem scal_OI {a : Option Int} {i : Int} : scal (vO a) (.int i) = true := by cases a <;> rfl
theorem scal_IO {a : Option Int} {i : Int} : scal (.int i) (vO a) = true := by cases a <;> rfl
theorem scal_NN : scal .non .non = true := rfl
theorem scal_II {a i : Int} : scal (.int i) (.int a) = true := rfl
theorem scal_SS {a i : Str} : scal (.str i) (.str a) = true := rfl
theorem scal_BB {a i : Bool} : scal (.bl i) (.bl a) = true := rfl
/-- some readings told at once -/
theorem r_var {i : Nat} {ρ : PR} {n : Int} {Q : PV → Int → Prop} {x : PV} (h : getV ρ i = some x) : pVar i ρ n Q ↔ Q x n := ⟨fun ⟨y, hy, q⟩ => by rw [h] at hy; cases hy; exact q, fun q => ⟨x, h, q⟩⟩
theorem iff_ite {b : Bool} {p q : Prop} : (if b = true then p else q) ↔ (b = true → p) ∧ (b = false → q) := by cases b <;> simp
end Pu
namespace Pu
theorem rng_inv {lo : Int} {m i : Nat} {y : PV} (h : (rng lo m)[i]? = some y) : i < m ∧ y = .int (lo + (i : Nat)) := by
  rw [rng_at] at h
  split at h
  · rename_i hl
    cases h
    exact ⟨hl, rfl⟩
  · cases h
theorem enum_inv {xs : List PV} {i : Nat} {y : PV} (h : (enum xs)[i]? = some y) : ∃ x, xs[i]? = some x ∧ y = .tup [.int (i : Nat), x] := by
  rw [enum_at] at h
  obtain ⟨x, h1, rfl⟩ := Option.map_eq_some_iff.mp h
  exact ⟨x, h1, rfl⟩
end Pu

set_option Elab.async false
set_option linter.all false
set_option maxRecDepth 100000
set_option maxHeartbeats 2000000
/-! U8: comprehensions that draw nothing; data -/
namespace Pu
open PySem PySem.Spec PyProof.Rows L2 Evl
theorem lc_map {α : Type} {pi : PTI} {pg : PTG} {pt : PTT} {pe : PTE} {vs : List Nat} {ρ : PR} {n : Int} {Q : PV → Int → Prop} {L : List α} {e : α → PV} {f : α → Bool} {g : α → PV} (hi : ∀ R : List PV → Int → Prop, R (L.map e) n → pi ρ n R) (hl : L.length ≤ 40000)
    (hb : ∀ a ∈ L, ∀ R : Option PV → Prop, R (if f a = true then some (g a) else none) → pg (e a) (wipeP (hide ρ) vs) fun ρ2 => pt ρ2 n fun b n3 => if b = true then pe ρ2 n3 fun z n4 => n4 = n ∧ R (some z) else n3 = n ∧ R none)
    (q : Q (.lst ((L.filter f).map g)) n) : pLc pi pg pt pe vs ρ n Q := by
  refine hi _ ⟨by rw [List.length_map]; exact hl, fun i acc m => m = n ∧ acc = ((L.take i).filter f).map g, ⟨rfl, rfl⟩, ?_, ?_⟩
  · rintro i y acc m hy ⟨rfl, rfl⟩
    rw [List.getElem?_map] at hy
    obtain ⟨a, ha, rfl⟩ := Option.map_eq_some_iff.mp hy
    have et : L.take (i + 1) = L.take i ++ [a] := by rw [List.take_add_one, ha]; rfl
    refine hb a (List.mem_of_getElem? ha) (fun o => match o with
      | some z => ((L.take i).filter f).map g ++ [z] = ((L.take (i + 1)).filter f).map g
      | none => ((L.take i).filter f).map g = ((L.take (i + 1)).filter f).map g) ?_
    rw [et, List.filter_append, List.map_append]
    cases hf : f a with
    | true => simp [hf]
    | false => simp [hf]
  · rintro acc m ⟨rfl, rfl⟩
    rw [List.length_map, List.take_length]
    exact q
/-- the same over a range -/
theorem lc_rng {pi : PTI} {pg : PTG} {pt : PTT} {pe : PTE} {vs : List Nat} {ρ : PR} {n : Int} {Q : PV → Int → Prop} {lo : Int} {m : Nat} {f : Nat → Bool} {g : Nat → PV} (hi : ∀ R : List PV → Int → Prop, R (rng lo m) n → pi ρ n R) (hl : m ≤ 40000)
    (hb : ∀ i, i < m → ∀ R : Option PV → Prop, R (if f i = true then some (g i) else none) → pg (.int (lo + (i : Nat))) (wipeP (hide ρ) vs) fun ρ2 => pt ρ2 n fun b n3 => if b = true then pe ρ2 n3 fun z n4 => n4 = n ∧ R (some z) else n3 = n ∧ R none)
    (q : Q (.lst (((List.range m).filter f).map g)) n) : pLc pi pg pt pe vs ρ n Q :=
  lc_map (L := List.range m) (e := fun i => .int (lo + (i : Nat))) hi (by simpa using hl) (fun i h => hb i (List.mem_range.mp h)) q
theorem wipeP_nil {ρ : PR} : wipeP ρ [] = ρ := rfl
theorem wipeP_cons {ρ : PR} {v : Nat} {vs : List Nat} : wipeP ρ (v :: vs) = (wipeP ρ vs).set v .no := rfl
theorem toDL_map {α : Type} {f : α → PV} {d : α → PyData} : ∀ {L : List α}, (∀ a ∈ L, toD (f a) = some (d a)) → toDL (L.map f) = some (L.map d)
  | [], _ => rfl
  | a :: L, h => by
    have h1 := h a List.mem_cons_self
    have h2 := toDL_map (L := L) fun b hb => h b (List.mem_cons_of_mem _ hb)
    show (match toD (f a), toDL (L.map f) with
      | some d, some ds => some (d :: ds)
      | _, _ => none) = _
    rw [h1, h2]
    rfl
theorem toD_lst {xs : List PV} {ds : List PyData} (h : toDL xs = some ds) : toD (.lst xs) = some (.list ds) := by unfold toD; rw [h]; rfl
theorem toD_tup {xs : List PV} {ds : List PyData} (h : toDL xs = some ds) : toD (.tup xs) = some (.tuple ds) := by unfold toD; rw [h]; rfl
theorem toD_int {i : Int} : toD (.int i) = some (.int i) := rfl
theorem toD_str {i : Str} : toD (.str i) = some (.str i) := rfl
theorem toD_pO (o : Option Int) : toD (pO o) = some (Age.dO o) := by cases o <;> rfl
theorem eqD_of {x y : PV} {d e : PyData} {Q : PV → Prop} (h1 : toD x = some d) (h2 : toD y = some e) (h3 : SeqAt.shaped d = true) (h4 : SeqAt.shaped e = true) (q : Q (.bl (PyData.eqv d e))) : pEqD x y Q := ⟨d, e, h1, h2, h3, h4, q⟩
theorem neD_of {x y : PV} {d e : PyData} {Q : PV → Prop} (h1 : toD x = some d) (h2 : toD y = some e) (h3 : SeqAt.shaped d = true) (h4 : SeqAt.shaped e = true) (q : Q (.bl (!PyData.eqv d e))) : pNeD x y Q := ⟨d, e, h1, h2, h3, h4, q⟩
end Pu
namespace Pu
open PySem PySem.Spec PyProof.Rows L2 Evl
/-- a comprehension that may draw: what its elements are, how far the draws go -/
theorem lc_all {α : Type} {pi : PTI} {pg : PTG} {pe : PTE} {vs : List Nat} {ρ : PR} {n : Int} {Q : PV → Int → Prop} {L : List α} {e : α → PV} {R : PV → Prop} (D : Int) (hD : 0 ≤ D) (hi : ∀ R : List PV → Int → Prop, R (L.map e) n → pi ρ n R) (hl : L.length ≤ 40000)
    (hb : ∀ a ∈ L, ∀ m, n ≤ m → m ≤ n + D * L.length → ∀ Kt : PV → Int → Prop, (∀ z n4, R z → m ≤ n4 → n4 ≤ m + D → Kt z n4) → pg (e a) (wipeP (hide ρ) vs) fun ρ2 => pe ρ2 m Kt)
    (q : ∀ acc n', (∀ z ∈ acc, R z) → acc.length = L.length → n ≤ n' → n' ≤ n + D * L.length → Q (.lst acc) n') : pLc pi pg pYes pe vs ρ n Q := by
  refine hi _ ⟨by rw [List.length_map]; exact hl, fun i acc m => (∀ z ∈ acc, R z) ∧ acc.length = i ∧ n ≤ m ∧ m ≤ n + D * i, ⟨fun z h => (nomatch h), rfl, Int.le_refl _, by simp⟩, ?_, ?_⟩
  · rintro i y acc m hy ⟨h1, h2, h3, h4⟩
    rw [List.getElem?_map] at hy
    obtain ⟨a, ha, rfl⟩ := Option.map_eq_some_iff.mp hy
    have hil : i < L.length := (List.getElem?_eq_some_iff.mp ha).1
    have hle : D * i ≤ D * L.length := Int.mul_le_mul_of_nonneg_left (by omega) hD
    refine hb a (List.mem_of_getElem? ha) m h3 (by omega) _ fun z n4 hz g1 g2 => ⟨fun z' hz' => ?_, by simp [h2], by omega, ?_⟩
    · rcases List.mem_append.mp hz' with q | q
      · exact h1 z' q
      · rw [List.mem_singleton.mp q]; exact hz
    · have : D * ((i + 1 : Nat) : Int) = D * i + D := by rw [show ((i + 1 : Nat) : Int) = (i : Int) + 1 from rfl, Int.mul_add, Int.mul_one]
      omega
  · rintro acc m ⟨h1, h2, h3, h4⟩
    rw [List.length_map] at h2 h4
    exact q acc m h1 h2 h3 h4
end Pu
namespace Pu
theorem all_of {α : Type} {f : α → PV} {P : α → Prop} : ∀ {acc : List PV}, (∀ z ∈ acc, ∃ a, P a ∧ z = f a) → ∃ L : List α, acc = L.map f ∧ ∀ a ∈ L, P a
  | [], _ => ⟨[], rfl, fun a h => (nomatch h)⟩
  | z :: acc, h => by
    obtain ⟨L, e, hL⟩ := all_of (acc := acc) fun z h' => h z (List.mem_cons_of_mem _ h')
    obtain ⟨a, ha, e2⟩ := h z List.mem_cons_self
    refine ⟨a :: L, by rw [e2, e]; rfl, fun b hb => ?_⟩
    rcases List.mem_cons.mp hb with q | q
    · rw [q]; exact ha
    · exact hL b q
end Pu

set_option Elab.async false
set_option linter.all false
set_option maxRecDepth 100000
set_option maxHeartbeats 2000000
/-! U9: min and max of a list, with default= -/
namespace Pu
open PySem PySem.Spec PyProof.Rows L2 Evl PySem.W
theorem vals_at {ys : List V} {us : List Value} (h : Vals ys us) : ∀ {i : Nat} {u : Value}, us[i]? = some u → ∃ y, ys[i]? = some y ∧ RelV y u := by
  induction h with
  | nil => intro i u h; simp at h
  | cons a b ih =>
    intro i u h
    cases i with
    | zero => simp at h; subst h; exact ⟨_, rfl, a⟩
    | succ i => simpa using ih (by simpa using h)
theorem readsAll_get {h : Heap} : ∀ {vs : List Value} {ds : List PyData} {as : List Addr}, ReadsAll h vs ds as → ∀ {i : Nat} {v : Value}, vs[i]? = some v → ∃ d bs, ds[i]? = some d ∧ Reads h v d bs
  | _, _, _, .nil, i, v, hv => by simp at hv
  | _, _, _, .cons (d := d) r rs, 0, v, hv => by simp at hv; subst hv; exact ⟨d, _, rfl, r⟩
  | _, _, _, .cons (d := d) r rs, i + 1, v, hv => by simpa using readsAll_get rs (by simpa using hv)
section
variable {α : Type} [DecidableEq α] [DatumOrd α]
def rBest (K : PySem.W.Frag) (best : α → List α → α) : List V → List V → Hp → VK → Prop := fun xs zs H Q => ∃ (a : Addr) (ys : List V) (as : List α) (d : V), xs = [.ref a] ∧ zs = [d] ∧ SqL K H a ys ∧ DpAll K H ys (as.map Datum.toD) ∧ (as = [] → Q d H) ∧
  ∀ y r, as = y :: r → ∀ (i : Nat) v, ys[i]? = some v → as[i]? = some (best y r) → Q v H
theorem best_at {X : Cx} {h h' : Heap} {its : List Value} {as : List α} {bs : List Addr} {i : Nat} {v : Value} {z : α} (hr : ReadsAll h its (as.map Datum.toD) bs) (hv : its[i]? = some v) (hk : ∀ b o, h.get? b = some o → h'.get? b = some o) (hh : Holds h' v z) : as[i]? = some z := by
  obtain ⟨d, cs, hd, r1⟩ := readsAll_get hr hv
  rw [List.getElem?_map] at hd
  obtain ⟨a, ha, rfl⟩ := Option.map_eq_some_iff.mp hd
  obtain ⟨es, r2⟩ := hh
  have e := ((Reads.keeps hk r1).unique _ _ r2).1
  have e1 : PyData.eqv (Datum.toD a) (Datum.toD z) = true := by rw [← e, Datum.eqv]; exact decide_eq_true rfl
  rw [Datum.eqv] at e1
  rw [ha, of_decide_eq_true e1]
theorem crk_min {X : Cx} (hc : X.calm = true) (hu : X.A.units + 64 < cLine) (hd : Datum.depth α ≤ 60) : CallRK X (.builtin "min") ["default"] (rBest (α := α) X.K minOf) := by
  intro pins s σ H xs zs us ws Q I rx rz h
  obtain ⟨a, ys, as, d, rfl, rfl, hs, hD, q0, q1⟩ := h
  obtain ⟨its, rv, hl, _⟩ := I.list hs
  rw [Vals.ref1 rx]
  cases rz with
  | cons r1 r2 =>
    cases r2
    obtain ⟨bs, hr⟩ := Dp.readsAll I _ _ _ hD rv
    refine min_list_datum_default (α := α) (xs := as) (I.ok.hd hc) hl.isList ⟨bs, by simpa using hr⟩ (by omega) (fun e h' tk hk => ⟨d, H, I.kept hk, r1, q0 e⟩) fun y r i v h' tk e hv hh hk => ?_
    have hv : its[i]? = some v := by simpa using hv
    obtain ⟨yv, hy, ry⟩ := vals_at rv hv
    exact ⟨yv, H, I.kept hk, ry, q1 y r e i yv hy (best_at (X := X) hr hv hk hh)⟩
theorem crk_max {X : Cx} (hc : X.calm = true) (hu : X.A.units + 64 < cLine) (hd : Datum.depth α ≤ 60) : CallRK X (.builtin "max") ["default"] (rBest (α := α) X.K maxOf) := by
  intro pins s σ H xs zs us ws Q I rx rz h
  obtain ⟨a, ys, as, d, rfl, rfl, hs, hD, q0, q1⟩ := h
  obtain ⟨its, rv, hl, _⟩ := I.list hs
  rw [Vals.ref1 rx]
  cases rz with
  | cons r1 r2 =>
    cases r2
    obtain ⟨bs, hr⟩ := Dp.readsAll I _ _ _ hD rv
    refine max_list_datum_default (α := α) (xs := as) (I.ok.hd hc) hl.isList ⟨bs, by simpa using hr⟩ (by omega) (fun e h' tk hk => ⟨d, H, I.kept hk, r1, q0 e⟩) fun y r i v h' tk e hv hh hk => ?_
    have hv : its[i]? = some v := by simpa using hv
    obtain ⟨yv, hy, ry⟩ := vals_at rv hv
    exact ⟨yv, H, I.kept hk, ry, q1 y r e i yv hy (best_at (X := X) hr hv hk hh)⟩
/-! the same without a heap -/
abbrev PRK := List PV → List PV → (PV → Prop) → Prop
def pBest (e : α → PV) (best : α → List α → α) : PRK := fun xs zs Q => ∃ (as : List α) (d : PV), xs = [.lst (as.map e)] ∧ zs = [d] ∧ (as = [] → Q d) ∧ ∀ y r, as = y :: r → Q (e (best y r))
structure XCK (K : PySem.W.Frag) (X : Cx) (f : Value) (ks : List Str) (r : List V → List V → Hp → VK → Prop) (pr : PRK) : Prop where
  d : CallRK X f ks r
  s : ∀ p c F O H n, Pu.St K p c F O H n → ∀ xs vs zs ws, RepL K p F vs xs → RepL K p F ws zs → ∀ (Q : VK) (Q' : PV → Prop), (∀ z u F2 H2, Nx K p c F O F2 O H2 n → Rep K p F2 z u → Q' u → Q z H2) → pr xs zs Q' → r vs ws H Q
theorem best_sound {K : PySem.W.Frag} {e : α → PV} {best : α → List α → α} (he : ∀ a, Pu.toD (e a) = some (Datum.toD a)) : ∀ p c F O H n, Pu.St K p c F O H n → ∀ xs vs zs ws, RepL K p F vs xs → RepL K p F ws zs → ∀ (Q : VK) (Q' : PV → Prop), (∀ z u F2 H2, Nx K p c F O F2 O H2 n → Rep K p F2 z u → Q' u → Q z H2) → pBest e best xs zs Q' → rBest K best vs ws H Q := by
  rintro p c F O H n s xs vs zs ws rx rz Q Q' k ⟨as, d, rfl, rfl, q0, q1⟩
  obtain ⟨v, us, rfl, r1, r2⟩ := rx.cons_inv
  cases r2
  obtain ⟨v2, us2, rfl, r3, r4⟩ := rz.cons_inv
  cases r4
  obtain ⟨a, ys, rfl, h1, h2⟩ := r1.getL
  refine ⟨a, ys, as, v2, rfl, rfl, sq_of (s.f _ _ h1), dpL_rep s.f h2 (toDL_map fun a _ => he a), fun e => k _ _ F H (.refl s) r3 (q0 e), fun y r e i v hv hi => ?_⟩
  obtain ⟨v', hv', rv⟩ := h2.get (i := i) (x := _) (by rw [List.getElem?_map, hi]; rfl)
  rw [hv] at hv'
  cases hv'
  exact k _ _ F H (.refl s) rv (q1 y r e)
end
theorem xcrk_minI {K : PySem.W.Frag} {X : Cx} (hc : X.calm = true) (hu : X.A.units + 64 < cLine) (h : X.K = K := by rfl) : XCK K X (.builtin "min") ["default"] (rBest (α := Int) K minOf) (pBest PV.int minOf) := ⟨by subst h; exact crk_min hc hu (by decide), best_sound fun a => rfl⟩
theorem xcrk_maxI {K : PySem.W.Frag} {X : Cx} (hc : X.calm = true) (hu : X.A.units + 64 < cLine) (h : X.K = K := by rfl) : XCK K X (.builtin "max") ["default"] (rBest (α := Int) K maxOf) (pBest PV.int maxOf) := ⟨by subst h; exact crk_max hc hu (by decide), best_sound fun a => rfl⟩
def pII (p : Int × Int) : PV := .tup [.int p.1, .int p.2]
theorem xcrk_minP {K : PySem.W.Frag} {X : Cx} (hc : X.calm = true) (hu : X.A.units + 64 < cLine) (h : X.K = K := by rfl) : XCK K X (.builtin "min") ["default"] (rBest (α := Int × Int) K minOf) (pBest pII minOf) := ⟨by subst h; exact crk_min hc hu (by decide), best_sound fun a => rfl⟩
theorem xcrk_maxP {K : PySem.W.Frag} {X : Cx} (hc : X.calm = true) (hu : X.A.units + 64 < cLine) (h : X.K = K := by rfl) : XCK K X (.builtin "max") ["default"] (rBest (α := Int × Int) K maxOf) (pBest pII maxOf) := ⟨by subst h; exact crk_max hc hu (by decide), best_sound fun a => rfl⟩
structure XK (K : PySem.W.Frag) (X : Cx) (kws : List Keyword) (ta : TA) (pa : PTA) : Prop where
  d : PK X kws ta
  s : SA K ta pa
theorem xk_nil {K : PySem.W.Frag} {X : Cx} : XK K X [] tNil pNil := ⟨pk_nil, sa_nil⟩
theorem xk_cons {K : PySem.W.Frag} {X : Cx} {e : Expr} {te : TE} {pe : PTE} {kws : List Keyword} {t : TA} {pt : PTA} {nm : Option Str} {kpos : Pos} (ha : XE K X e te pe) (hr : XK K X kws t pt) : XK K X (⟨nm, e, kpos⟩ :: kws) (tCons te t) (pCons pe pt) := ⟨pk_cons ha.d hr.d, sa_cons ha.s hr.s⟩
def pCKw (r : PRK) (pa pk : PTA) : PTE := fun ρ n Q => pa ρ n fun xs n1 => pk ρ n1 fun zs n2 => r xs zs fun y => Q y n2
theorem xe_callBK {K : PySem.W.Frag} {X : Cx} {x : Str} {p pos : Pos} {e : Expr} {es : List Expr} {kws : List Keyword} {t tk : TA} {pt pk : PTA} {id : String} {ks : List Str} {r : List V → List V → Hp → VK → Prop} {pr : PRK} (hc : XCK K X (.builtin id) ks r pr) (hg : Gl X x) (hm : X.mg x = none) (hv : bootBuiltins x = some (.builtin id)) (ha : XA K X (e :: es) t pt) (hk : XK K X kws tk pk)
    (hn : x ≠ "__name__" := by decide) (hdb : (x == ("__debug__" : Str)) = false := by decide)
    (he : backTo pos (starEach (e :: es) X.env) = (false, eval e X.env) :: backTo pos (starEach es X.env) := by rfl) (hpl : (backTo pos (starEach (e :: es) X.env)).any (·.1) = false := by rfl)
    (hall : (backToKw pos (keywordEach kws X.env)).all (·.1.isSome) = true := by rfl) (hnone : (backToKw pos (keywordEach kws X.env)).any (·.1.isNone) = false := by rfl) (hks : (backToKw pos (keywordEach kws X.env)).filterMap (·.1) = ks := by rfl) :
    XE K X (.Call (.Name x p) (e :: es) kws pos) (tCKw r t tk) (pCKw pr pt pk) := ⟨pe_callBK hc.d hg hm hv ha.d hk.d hn hdb he hpl hall hnone hks, fun p c F O H σ ρ n s sl Q Q' k q =>
  ha.s p c F O H σ ρ n s sl _ _ (fun vs xs F2 O2 H2 n2 n1 rx q1 => hk.s p c F2 O2 H2 σ ρ n2 n1.s (sl.mono n1.e) _ _ (fun ws zs F3 O3 H3 n3 nn rz q2 =>
    hc.s p c F3 O3 H3 n3 nn.s xs vs zs ws (rx.mono nn.e) rz _ _ (fun z u F4 H4 n4 ru q3 => k z u F4 O3 H4 n3 ((n1.trans nn).trans n4) ru q3) q2) q1) q⟩
end Pu

set_option Elab.async false
set_option linter.all false
set_option maxRecDepth 100000
set_option maxHeartbeats 2000000
/-! U10: a def's own dict with tuples for keys; texts in tuples; enumerate -/
namespace Pu
open PySem PySem.Spec PyProof.Rows L2 Evl
def kP : Key → PV
  | .inl i => .int i
  | .inr s => .str s
theorem rep_kV {K : PySem.W.Frag} {p : Addr} {F : Hp} : ∀ {ys : List V} {k : List Key}, RepL K p F ys (k.map kP) → ys = k.map kV
  | ys, [], h => h.nil_inv
  | ys, a :: k, h => by
    obtain ⟨v, ws, rfl, r1, r2⟩ := h.cons_inv
    rw [rep_kV r2]
    cases a with
    | inl i => rw [r1.getI]; rfl
    | inr s => rw [r1.getS]; rfl
/-- what a dict with these keys and values holds -/
def lookP : List (List Key) → List PV → List Key → Option PV
  | k' :: ks, x :: xs, k => if k' = k then some x else lookP ks xs k
  | _, _, _ => none
theorem look_rep {K : PySem.W.Frag} {p : Addr} {F : Hp} {k : List Key} {x : PV} : ∀ {ks : List (List Key)} {ys : List V} {xs : List PV}, RepL K p F ys xs → lookP ks xs k = some x → ∃ v, valV (ks.zip ys) k = some v ∧ Rep K p F v x
  | [], _, _, _, h => by cases h
  | _ :: _, _, _, .nil, h => by cases h
  | k' :: ks, _, _, .cons (v := v) a b, h => by
    rw [lookP] at h
    rw [List.zip_cons_cons]
    by_cases e : k' = k
    · rw [if_pos e] at h
      cases h
      exact ⟨v, valV_pos (p := (k', v)) e, a⟩
    · rw [if_neg e] at h
      obtain ⟨w, h1, h2⟩ := look_rep b h
      exact ⟨w, by rw [valV_neg (p := (k', v)) e]; exact h1, h2⟩
theorem zip_new {k : List Key} : ∀ {ks : List (List Key)} {ys : List V}, k ∉ ks → valV (ks.zip ys) k = none
  | [], _, _ => rfl
  | _ :: _, [], _ => rfl
  | k' :: ks, y :: ys, h => by
    rw [List.zip_cons_cons, valV_neg (p := (k', y)) (fun z => h (by rw [show k' = k from z]; exact List.mem_cons_self))]
    exact zip_new fun z => h (List.mem_cons_of_mem _ z)
theorem zip_snoc {α β : Type} {a : α} {b : β} : ∀ {as : List α} {bs : List β}, as.length = bs.length → (as ++ [a]).zip (bs ++ [b]) = as.zip bs ++ [(a, b)]
  | [], [], _ => rfl
  | x :: as, y :: bs, h => by
    rw [List.cons_append, List.cons_append, List.zip_cons_cons, List.zip_cons_cons, zip_snoc (by simpa using h)]
    rfl
def pSetD (i : Nat) : PTS := fun D ρ n => D.nx (ρ.set i (.ow (some []) [])) n
def pPutD (i : Nat) (pj pe : PTE) : PTS := fun D ρ n => ∃ ks xs, ρ[i]? = some (.ow (some ks) xs) ∧ ks.length = xs.length ∧ ks.length < 1000 ∧ pe (hide ρ) n fun x n2 => pj (hide ρ) n2 fun y n3 => ∃ k : List Key, y = .tup (k.map kP) ∧ k ∉ ks ∧ D.nx (ρ.set i (.ow (some (ks ++ [k])) (xs ++ [x]))) n3
def pDGet (pe pj : PTE) : PTE := fun ρ n Q => pe ρ n fun x n1 => pj ρ n1 fun y n2 => ∃ ks xs, ∃ k : List Key, ∃ z, x = .dic ks xs ∧ y = .tup (k.map kP) ∧ lookP ks xs k = some z ∧ Q z n2
section
variable {K : PySem.W.Frag} {E : L2.XK} {te tj : TE} {pe pj : PTE}
theorem ss_setD {i : Nat} : SS K E (tAsg tDNewT (gName i)) (pSetD i) := fun p c M0 O0 D D' eo σ H ρ n F O b q => by
  intro a ha
  have b4 := b.step (F2 := F) (O2 := O) (H2 := upd H a (.dT [])) (n2 := n) ⟨Ex.refl _, .refl, b.st.grow (Ex.new ha)⟩
  exact eo.nx _ _ _ _ _ _ (b4.setOw (some []) (ys := []) (b.st.notF ha) (b.st.notO ha) upd_same .nil) q
theorem ss_putD {i : Nat} (hj : SE K tj pj) (he : SE K te pe) : SS K E (sDPut (tVar i) tj te) (pPutD i pj pe) := fun p c M0 O0 D D' eo σ H ρ n F O b ⟨ks, xs, hx, hl, hk, q⟩ => by
  obtain ⟨a, _, h1, _, _⟩ := b.sl.ow i _ xs hx
  refine he p c _ _ H σ _ n b.stB b.sl.hid _ _ (fun v x F2 O2 H2 n2 nn rx q1 => ?_) q
  obtain ⟨F3, O3, b3, e3⟩ := b.stepB nn
  refine ⟨.ref a, h1, ?_⟩
  refine hj p c _ _ H2 σ _ n2 b3.stB b3.sl.hid _ _ (fun w y F4 O4 H4 n4 nn4 ry ⟨k, e, hn, q2⟩ => ?_) q1
  obtain ⟨F5, O5, b5, e5⟩ := b3.stepB nn4
  subst e
  obtain ⟨t, us, rfl, g1, g2⟩ := ry.getT
  rw [rep_kV g2] at g1
  obtain ⟨a', ys, g3, g4, g5⟩ := b5.sl.ow i _ xs hx
  rw [h1] at g3
  cases g3
  have hly : ks.length = ys.length := by rw [hl, g5.len]
  have hn2 := zip_new (ys := ys) hn
  have hzl : (ks.zip ys).length < 1000 := by rw [List.length_zip]; omega
  have hlen : (ks.zip ys).length < sizeLine := Nat.lt_of_lt_of_le hzl (by decide)
  have e6 : Ex F4 H4 := nn4.s.f
  refine ⟨a, _, rfl, .t (b5.st.f _ _ g4) (e6 _ _ g1) hlen, ?_⟩
  rw [putK_new v hn2, ← zip_snoc hly]
  refine eo.nx _ _ _ _ _ _ (b5.put (some (ks ++ [k])) hx h1 (g5.app (.cons ?_ .nil))) q2
  rw [e5]
  rw [← e3] at rx
  exact Rep.mono nn4.e rx
theorem se_dgetD (he : SE K te pe) (hj : SE K tj pj) : SE K (tDGet te tj) (pDGet pe pj) := fun p c F O H σ ρ n s sl Q Q' k q =>
  he p c F O H σ ρ n s sl _ _ (fun v x F2 O2 H2 n2 n1 rx q1 => hj p c F2 O2 H2 σ ρ n2 n1.s (sl.mono n1.e) _ _ (fun w y F3 O3 H3 n3 nn ry ⟨ks, xs, kk, z, e1, e2, hz, q2⟩ => by
    subst e1 e2
    obtain ⟨a, ys, rfl, g1, g2⟩ := (rx.mono nn.e).getK
    obtain ⟨t, us, rfl, g3, g4⟩ := ry.getT
    rw [rep_kV g4] at g3
    obtain ⟨u, hu, ru⟩ := look_rep g2 hz
    refine ⟨a, u, rfl, ?_, k u z _ _ _ _ (n1.trans nn) ru q2⟩
    have := DGet.t (nn.s.f _ _ g1) (nn.s.f _ _ g3)
    rw [hu] at this
    exact this) q1) q
end
section
variable {K : PySem.W.Frag} {E : L2.XK} {X : Cx} {a b e o : Expr} {es : List Expr} {ta tb te to : TE} {pa pb pe po : PTE} {tl : TA} {pl : PTA} {pos p2 pos2 : Pos}
theorem xs_setD {i : Nat} {x : Str} {pos' : Pos} (hN : X.N.Nodup) (hi : X.N[i]? = some x) (hx : Loc X.env.scope x) (hs : swapsWith (.Dict [] [] p2) (some (.Name x pos')) pos.line X.env = pure false := by rfl) (hf : X.fn x = true ∨ X.env.scope.names.lookup x = some .local := by first | exact .inl rfl | exact .inr rfl | assumption) :
    XS K E X (.Assign [.Name x pos'] (.Dict [] [] p2) pos) (tAsg tDNewT (gName i)) (pSetD i) := ⟨ps_set hN hi hx pe_dnewT hs hf, ss_setD⟩
theorem xs_putD (i : Nat) {x : Str} (hu : X.A.units + 1 < cLine) (hj : XE K X o to po) (he : XE K X e te pe) (hs : swapsWith e (some (.Subscript (.Name x p2) o pos2)) pos.line X.env = pure false := by rfl) (hN : X.N[i]? = some x := by rfl) (hv : Vis X.env.scope x := by first | exact Or.inl rfl | exact Or.inr (Or.inl rfl) | exact Or.inr (Or.inr rfl)) (hd : (x == ("__debug__" : Str)) = false := by decide) (hcd : (x == ("__classdict__" : Str)) = false := by decide) :
    XS K E X (.Assign [.Subscript (.Name x p2) o pos2] e pos) (sDPut (tVar i) to te) (pPutD i po pe) := ⟨ps_dput hu (pv i hN hv hd hcd) hj.d he.d hs, ss_putD hj.s he.s⟩
theorem xe_dgetD (hu : X.A.units + 1 < cLine) (ho : XE K X o to po) (he : XE K X e te pe) (hs : NoSl e) : XE K X (.Subscript o e pos) (tDGet to te) (pDGet po pe) := ⟨pe_dget hu ho.d he.d hs, se_dgetD ho.s he.s⟩
/-! texts in tuples of texts -/
def pInS (neg : Bool) : PR2 := fun x y Q => ∃ (s : Str) (ws : List Str), x = .str s ∧ y = .tup (ws.map PV.str) ∧ Q (.bl (if neg then !decide (s ∈ ws) else decide (s ∈ ws)))
theorem rep_strs {p : Addr} {F : Hp} : ∀ {ys : List V} {ws : List Str}, RepL K p F ys (ws.map PV.str) → ys = ws.map V.str
  | ys, [], h => h.nil_inv
  | ys, a :: k, h => by
    obtain ⟨v, ws, rfl, r1, r2⟩ := h.cons_inv
    rw [rep_strs r2, r1.getS]
    rfl
theorem inV_str {s : Str} : ∀ ws : List Str, inV (.str s) (ws.map V.str) = decide (s ∈ ws)
  | [] => by simp [inV]
  | w :: ws => by
    have ih := inV_str (s := s) ws
    unfold inV at ih ⊢
    rw [List.map_cons, List.any_cons, ih]
    show (w == s || decide (s ∈ ws)) = _
    by_cases h : s = w
    · subst h
      simp
    · have h2 : (w == s) = false := beq_eq_false_iff_ne.mpr (Ne.symm h)
      simp [h, h2]
theorem sr_inS (neg : Bool) : SR K (rIn K neg) (pInS neg) := fun p c F O H n s x y v w rx ry Q Q' k ⟨u, ws, e1, e2, q⟩ => by
  subst e1 e2
  obtain ⟨a, ys, rfl, g1, g2⟩ := ry.getT
  rw [rep_strs g2] at g1
  rw [rx.getS]
  refine ⟨a, _, rfl, Or.inr (st_of (s.f _ _ g1)), rfl, by simp [flatV], ?_⟩
  rw [inV_str]
  exact k _ _ F H (.refl s) (.bl _) q
theorem xo_inS (h : X.K = K := by rfl) : XO K X (compareOp .In) (rIn K false) (pInS false) := ⟨by subst h; exact op_in_seq, sr_inS false⟩
theorem xo_notInS (h : X.K = K := by rfl) : XO K X (compareOp .NotIn) (rIn K true) (pInS true) := ⟨by subst h; exact op_notIn_seq, sr_inS true⟩
theorem xi_enum {p tpos : Pos} {elts : List Expr} {kk : Nat} (hg : Gl X "enumerate") (hm : X.mg "enumerate" = none) (ha : XA K X [e] tl pl) (hs : starEach [e] X.env = [(false, eval e X.env)] := by rfl) (hK : X.K = K := by rfl) :
    XI K X (.Tuple elts kk tpos) (.Call (.Name "enumerate" p) [e] [] pos) (iEnum K tl) (piEn pl) := ⟨by subst hK; exact pi_enum hg hm ha.d hs, si_en ha.s⟩
end
/-- a comprehension over as many turns as an expression tells -/
theorem lc_range {pe pel : PTE} {pg : PTG} {pt : PTT} {vs : List Nat} {ρ : PR} {n : Int} {Q : PV → Int → Prop} (h : pe ρ n fun x n1 => ∃ j : Int, [x] = [.int j] ∧ -100000 ≤ j ∧ j ≤ 100000 ∧ pLc (fun _ m R => R (rng 0 j.toNat) m) pg pt pel vs ρ n1 Q) :
    pLc (piR1 (pCons pe pNil)) pg pt pel vs ρ n Q := h
end Pu

set_option Elab.async false
set_option linter.all false
set_option maxRecDepth 100000
set_option maxHeartbeats 4000000
/-! U11: sorted(set(a list of ints)) -/
namespace Pu
open PySem PySem.Spec PyProof.Rows L2 Evl PySem.W PySem.Calls
section
variable {P : Program} {w : World} {A : Around} {E : Value → Shared → Prop} {s : Shared}
/-- the heap with a new set -/
abbrev withSet (w : World) (h : Heap) : Heap := h.push { cls := .type "set", dict := none, data := .set #[] 0 (.fresh 0 0 (!w.params.followText "set-order")) }
set_option maxHeartbeats 8000000 in
theorem call_set_lst {l : Addr} {items : Array Value} (ns : List Int) {Q : Value → Shared → Prop} (hh : A.handled = none) (hl : s.heap.IsList l items) (hit : IntsAre items.toList ns) (hb : ns.length + 1 < scanBound)
    (h : ∀ (h' : Heap) (tk c : Nat), SetR w h' s.heap.objs.size (fun j => decide (j ∈ ns)) c → c ≤ ns.length → (∀ b o, s.heap.get? b = some o → h'.get? b = some o) → Q (.ref s.heap.objs.size) { s with heap := h', toks := tk }) :
    wpAny (model P w) A (call (.type "set") [.ref l]) Q E s := by
  have hisz : items.size = ns.length := by
    have q := IntsAre.length hit
    rwa [Array.length_toList] at q
  obtain ⟨c, tl, hmro⟩ := F.called_set.mro
  have hmade := F.called_set.made
  have hsub := F.called_set.sub
  have h1 := F.called_set.notType
  have h2 := F.called_set.canCreate
  have hct := F.typeCall_set_1 (.ref l)
  refine wpAny_call (codeAny_of_tree ?_)
  show wpAny _ _ (callAny (.type "set") _) _ _ _
  refine wpAny_pure ⟨Code.quiet_builtin _ (by decide +kernel), codeAny_builtin F.entry_type_call ?_⟩
  rw [Around.under_plain (weight_type_call_type "set" [.ref l] []) rfl]
  repeat (any_goals (first | assumption | wp_step))
  refine codeAny_mono (code_set_led1 (.ref l) (E := E) (Q₁ := fun o t => o = .ref s.heap.objs.size ∧ t = { s with heap := withSet w s.heap }) ⟨rfl, rfl⟩) fun r t hr => ?_
  cases r with
  | error e => exact hr
  | ok fl =>
    cases fl with
    | ret obj =>
      obtain ⟨rfl, rfl⟩ := hr
      have hS : (withSet w s.heap).get? s.heap.objs.size = some { cls := .type "set", dict := none, data := .set #[] 0 (.fresh 0 0 (!w.params.followText "set-order")) } := Heap.get?_push_size _ rfl
      have hT : Shared.TypeIs { s with heap := withSet w s.heap } (.ref s.heap.objs.size) "set" := ⟨_, hS, rfl⟩
      have hli := F.called_set.init.lookup
      have hbi := F.called_set.init.bind (.ref s.heap.objs.size)
      repeat (any_goals (first | assumption | wp_step))
      refine codeAny_mono (codeAny_call_builtin (R := wants (fun r t => r = .none ∧ ∃ h' tk c, t = { s with heap := h', toks := tk } ∧ SetR w h' s.heap.objs.size (fun j => decide (j ∈ ns)) c ∧ c ≤ ns.length ∧ (∀ b o, s.heap.get? b = some o → h'.get? b = some o)) E) F.called_set.init.plain F.entry_set_init (check_set_init_1 hT ?_)) fun r₂ t₂ hr₂ => ?_
      · obtain ⟨⟨ocls, odict, odata, oslots⟩, hol, hcl, nl, hdl⟩ := hl
        simp only at hcl hdl
        subst hcl; subst hdl
        have hol' : (withSet w s.heap).get? l = some { cls := .type "list", dict := odict, data := .seq items nl, slots := oslots } := Heap.get?_push_of_some _ hol
        have hsls := F.sub_list_set
        have hslf := F.sub_list_frozenset
        have hne : (Value.type "list" == Value.type "dict") = false := by decide
        have hl1 : (withSet w s.heap).IsList l items := ⟨_, hol', rfl, nl, rfl⟩
        unfold Builtin.«set.__init__» noKeywords Builtin.Frozenset.updateFrom
        generalize hPI : pyIter = PI
        wp_walk
        subst hPI
        refine wpAny_pyIter_list hl1 ?_
        refine wpAny_bind (wpAny_runValue ?_)
        have hlS : l < s.heap.objs.size := Heap.lt_size hol
        have hh3 : A.in1.in1.in1.handled = none := by simp [hh]
        have hneI : l ≠ (withSet w s.heap).objs.size := by
          rw [Heap.size_push]; exact Nat.ne_of_lt (Nat.lt_succ_of_lt hlS)
        have hSf : s.heap.objs.size ∉ [(withSet w s.heap).objs.size, l] := by
          rw [Heap.size_push]
          simp only [List.mem_cons, List.mem_singleton, List.not_mem_nil, or_false, not_or]
          exact ⟨Nat.ne_of_lt (Nat.lt_succ_self _), Nat.ne_of_gt hlS⟩
        refine set_update_ints ((Walks.list hh3 _ l hneI items).toS) s.heap.objs.size hSf ns hisz hb (fun i v hv => ?_) (items.size - 0) 0 _ (by omega) (Nat.zero_le _) ⟨⟨_, Heap.get?_push_size _ rfl, rfl, rfl⟩, (hl1.push _)⟩ ?_ fun t' c' hm hc' hS' => ?_
        · have hi : i < ns.length := by rw [← hisz]; exact (Array.getElem?_eq_some_iff.mp hv).1
          obtain ⟨t, e⟩ := PyProof.Rows.IntsAre.int_at hit i v (by rw [Array.getElem?_toList]; exact hv)
          refine ⟨ns[i], t, List.getElem?_eq_getElem hi, ?_⟩
          rw [e, List.getD_eq_getElem?_getD, List.getElem?_eq_getElem hi] <;> rfl
        · exact ⟨0, Nat.le_refl 0, setR_new_at (Heap.get?_push_of_some _ hS)⟩
        · obtain ⟨h', g2, d', tk', os'⟩ := t'
          have eg : g2 = s.gens := hm.gens
          have ed : d' = s.drawn := hm.drawn
          have eo : os' = s.os := hm.os
          subst eg; subst ed; subst eo
          show wpAny _ _ _ _ _ _
          refine wpAny_pure ?_
          show wpAny _ _ (ret Value.none) _ _ _
          rw [hisz] at hc'
          refine wpAny_pure ⟨rfl, h', tk', c', rfl, hS', hc', fun b o e => ?_⟩
          have hb0 : b < s.heap.objs.size := Heap.lt_size e
          refine hm.heap b o ?_ (Heap.get?_push_of_some _ (Heap.get?_push_of_some _ e))
          simp only [List.mem_cons, List.mem_singleton, List.not_mem_nil, or_false, not_or]
          exact ⟨Nat.ne_of_lt hb0, by rw [Heap.size_push]; exact Nat.ne_of_lt (Nat.lt_succ_of_lt hb0)⟩
      · cases r₂ with
        | error e => exact hr₂
        | ok fl₂ =>
          cases fl₂ with
          | ret r =>
            obtain ⟨rfl, h', tk, c', rfl, hS', hc', hk'⟩ := hr₂
            repeat (any_goals (first | assumption | wp_step))
            exact h _ _ _ hS' hc' hk'
          | _ => exact hr₂.elim
    | _ => exact hr.elim
end
end Pu

set_option Elab.async false
set_option linter.all false
set_option maxRecDepth 100000
set_option maxHeartbeats 4000000
/-! U12: sorted(set(a list of ints)) as an expression -/
namespace Pu
open PySem PySem.Spec PyProof.Rows L2 Evl
section
variable {X : Cx}
def rSetL (K : PySem.W.Frag) (w : World) : List V → Hp → VK → Prop := fun vs H Q => ∃ (a : Addr) (ns : List Int), vs = [.ref a] ∧ SqL K H a (ns.map V.int) ∧ ns.length ≤ 4000 ∧ ∀ p c, H p = none → c ≤ ns.length → Q (.ref p) (upd H p (L2.SetO w p (fun j => decide (j ∈ ns)) c))
theorem cr_setL (hc : X.calm = true) : CallR X (.type "set") (rSetL X.K X.w) := by
  intro pins s σ H vs us Q I r h
  obtain ⟨a, ns, rfl, hq, hl, q⟩ := h
  rw [Vals.ref1 r]
  obtain ⟨its, rv, pl, _⟩ := I.list hq
  refine call_set_lst ns (I.ok.hd hc) pl.isList (by simpa using RZ.intsAre_vals rv) (by unfold scanBound; omega) fun h' tk c hS hc' hk => ?_
  exact ⟨.ref s.heap.objs.size, _, I.laid (t' := tk) hk (Nat.le_refl _) (setO_new hS), rfl, q _ c (I.hok.fresh (Nat.le_refl _)) hc'⟩
def pSortSet (pa : PTA) : PTE := fun ρ n Q => pa ρ n fun xs n1 => ∃ ns : List Int, xs = [.lst (ns.map PV.int)] ∧ ns.length < 64 ∧ ∀ ms : List Int, ms.Pairwise (· < ·) → (∀ k, k ∈ ms ↔ k ∈ ns) → Q (.lst (ms.map PV.int)) n1
theorem rep_ints {K : PySem.W.Frag} {p : Addr} {F : Hp} : ∀ {ys : List V} {ns : List Int}, RepL K p F ys (ns.map PV.int) → ys = ns.map V.int
  | ys, [], h => h.nil_inv
  | ys, a :: k, h => by
    obtain ⟨v, ws, rfl, r1, r2⟩ := h.cons_inv
    rw [rep_ints r2, r1.getI]
    rfl
theorem xe_sortSet {K : PySem.W.Frag} {e : Expr} {es : List Expr} {tl : TA} {pl : PTA} {p p2 q2 pos : Pos} (hc : X.calm = true) (hg : Gl X "sorted") (hm : X.mg "sorted" = none) (hg2 : Gl X "set") (hm2 : X.mg "set" = none) (ha : XA K X (e :: es) tl pl) (h : X.K = K := by rfl)
    (he : starEach (e :: es) X.env = (false, eval e X.env) :: starEach es X.env := by rfl) (hpl : (backTo q2 (starEach es X.env)).any (·.1) = false := by rfl)
    (he1 : starEach [.Call (.Name "set" p2) (e :: es) [] q2] X.env = (false, eval (.Call (.Name "set" p2) (e :: es) [] q2) X.env) :: starEach [] X.env := by rfl) (hpl1 : (backTo pos (starEach [] X.env)).any (·.1) = false := by rfl) :
    XE K X (.Call (.Name "sorted" p) [.Call (.Name "set" p2) (e :: es) [] q2] [] pos) (tCB (rSortedSet X.w) (tCons (tCB (rSetL K X.w) tl) tNil)) (pSortSet pl) := by
  subst h
  refine ⟨pe_callB (cr_sortedSet hc) hg hm (by decide +kernel) (pa_cons (pe_callTy (cr_setL hc) hg2 hm2 (by decide +kernel) ha.d (by decide) (by decide) he hpl) pa_nil he1) (by decide) (by decide) he1 hpl1, ?_⟩
  intro p c F O H σ ρ n s sl Q Q' k q
  refine ha.s p c F O H σ ρ n s sl _ _ (fun vs xs F2 O2 H2 n2 nn rx ⟨ns, e1, hl, q1⟩ => ?_) q
  subst e1
  obtain ⟨v, ws, rfl, r1, r2⟩ := rx.cons_inv
  cases r2
  obtain ⟨a, ys, rfl, h1, h2⟩ := r1.getL
  rw [rep_ints h2] at h1
  refine ⟨a, ns, rfl, sq_of (nn.s.f _ _ h1), by omega, fun b cc hb hcc => ?_⟩
  refine ⟨b, _, cc, rfl, upd_same, by omega, fun ms d hms hmem _ hd => ?_⟩
  have s2 : Pu.St X.K p c F2 O2 (upd H2 b (L2.SetO X.w b (fun j => decide (j ∈ ns)) cc)) n2 := nn.s.grow (Ex.new hb)
  refine k _ _ _ _ _ _ (nn.trans ((Nx.refl s2).trans (.new s2 hd))) (.lst upd_same (RepL.ints ms)) (q1 ms hms fun k => ?_)
  rw [hmem k]
  exact decide_eq_true_iff
end
end Pu

set_option Elab.async false
set_option linter.all false
set_option maxRecDepth 100000
set_option maxHeartbeats 4000000
/-! U13: what is raised, told without a heap -/
namespace Pu
open PySem PySem.Spec PyProof.Rows L2 Evl
abbrev PEx := Addr → List (Str × PV) → Int → Prop
abbrev PSpR := List PV → Int → (PV → Int → Prop) → PEx → Prop
/-- a promise that may raise: an own error of a class, with fields -/
def liftR (K : PySem.W.Frag) (w : PSpR) : Sp := fun vs H Q E => ∃ p c F O n xs Q' E', St K p c F O H n ∧ RepL K p F vs xs ∧ w xs n Q' E' ∧ (∀ y n' v F2 O2 H2, Q' y n' → Nx K p c F O F2 O2 H2 n' → Rep K p F2 v y → Q v H2) ∧
  ∀ C fs n' d vs2 F2 O2 H2, E' C fs n' → Nx K p c F O F2 O2 H2 n' → H2 d = some (.xd vs2) → RepF K p F2 vs2 fs → E (.ref C) (some d) H2
abbrev PTER := PR → Int → (PV → Int → Prop) → PEx → Prop
def SER (K : PySem.W.Frag) (E : L2.XK) (te : TE) (pe : PTER) : Prop := ∀ p c F O H σ ρ n, St K p c F O H n → Sl K p F σ ρ → ∀ (Q : VK) (Q' : PV → Int → Prop) (E' : PEx), (∀ v x F2 O2 H2 n2, Nx K p c F O F2 O2 H2 n2 → Rep K p F2 v x → Q' x n2 → Q v H2) →
  (∀ C fs n2 d vs F2 O2 H2, Nx K p c F O F2 O2 H2 n2 → H2 d = some (.xd vs) → RepF K p F2 vs fs → E' C fs n2 → E (.ref C) (some d) H2) → pe ρ n Q' E' → te σ H Q
structure XER (K : PySem.W.Frag) (E : L2.XK) (X : Cx) (e : Expr) (te : TE) (pe : PTER) : Prop where
  d : PE X e te
  s : SER K E te pe
def pCallR (w : PSpR) (pa : PTA) : PTER := fun ρ n Q E => pa ρ n fun xs n1 => w xs n1 Q E
def pMethR (C : Addr) (m : Str) (w : PSpR) (po : PTE) (pa : PTA) : PTER := fun ρ n Q E => po ρ n fun x n1 => ∃ fs, x = .ob C fs ∧ fs.lookup m = none ∧ pa ρ n1 fun xs n2 => w (x :: xs) n2 Q E
def pDropR (pe : PTER) : PTS := fun D ρ n => pe ρ n (fun _ n2 => D.nx ρ n2) D.ex
def pAsgR (pe : PTER) (pg : PTG) : PTS := fun D ρ n => pe (hide ρ) n (fun x n2 => pg x ρ fun ρ2 => D.nx ρ2 n2) D.ex
def pRetR (pe : PTER) : PTS := fun D ρ n => pe ρ n D.rt D.ex
def pRaise (C : Addr) (names : List Str) (pa : PTA) : PTS := fun D ρ n => pa ρ n fun xs n2 => xs.length = names.length ∧ xs.length ≤ 1000 ∧ D.ex C (names.zip xs).reverse n2
section
variable {K : PySem.W.Frag} {E : L2.XK} {te : TE} {pe : PTER} {po : PTE} {to : TE} {tl : TA} {pl : PTA} {g : TG} {pg : PTG} {vs : List Nat}
theorem ser_call {w : PSpR} (ha : SA K tl pl) : SER K E (tCall (liftR K w) [] E tl) (pCallR w pl) := fun p c F O H σ ρ n s sl Q Q' E' k kE q =>
  ha p c F O H σ ρ n s sl _ _ (fun vs xs F2 O2 H2 n2 n1 rx q1 => ⟨p, c, F2, O2, n2, xs, Q', E', n1.s, by rw [List.append_nil]; exact rx, q1, fun y n' v F3 O3 H3 q2 nn ry => k v y F3 O3 H3 n' (n1.trans nn) ry q2,
    fun C fs n' d vs2 F3 O3 H3 he nn h1 h2 => kE C fs n' d vs2 F3 O3 H3 (n1.trans nn) h1 h2 he⟩) q
theorem ser_meth {w : PSpR} {C : Addr} {m : Str} (ho : SE K to po) (ha : SA K tl pl) : SER K E (tMeth C m (liftR K w) [] E to tl) (pMethR C m w po pl) := fun p c F O H σ ρ n s sl Q Q' E' k kE q =>
  ho p c F O H σ ρ n s sl _ _ (fun v x F2 O2 H2 n2 n1 rx ⟨fs, e, hm, q1⟩ => by
    subst e
    obtain ⟨a, dx, ws, rfl, h1, h2⟩ := rx.getO
    refine ⟨a, dx, ws, rfl, n1.s.f _ _ h1, h2.lookup_none hm, ?_⟩
    exact ha p c F2 O2 H2 σ ρ n2 n1.s (sl.mono n1.e) _ _ (fun vs xs F3 O3 H3 n3 nn rr q2 => ⟨p, c, F3, O3, n3, _, Q', E', nn.s, by rw [List.append_nil]; exact .cons (rx.mono nn.e) rr, q2, fun y n' v F4 O4 H4 q3 n5 ry => k v y F4 O4 H4 n' ((n1.trans nn).trans n5) ry q3,
      fun C fs n' d vs2 F4 O4 H4 he n5 h1 h2 => kE C fs n' d vs2 F4 O4 H4 ((n1.trans nn).trans n5) h1 h2 he⟩) q1) q
theorem ss_dropR (he : SER K E te pe) : SS K E (tDrop te) (pDropR pe) := fun p c M0 O0 D D' eo σ H ρ n F O b q =>
  he p c _ _ H σ _ n b.st b.sl' _ _ _ (fun v x F2 O2 H2 n2 nn rx q1 => eo.nx _ _ _ _ _ _ (b.step nn) q1) (fun C fs n2 d vs F2 O2 H2 nn h1 h2 h3 => eo.ex C d vs fs F2 O2 H2 n2 ((b.m0.trans base_sub).trans nn.e) (b.off.trans nn.o) nn.s h1 h2 h3) q
theorem ss_retR (he : SER K E te pe) : SS K E (tRet te) (pRetR pe) := fun p c M0 O0 D D' eo σ H ρ n F O b q =>
  he p c _ _ H σ _ n b.st b.sl' _ _ _ (fun v x F2 O2 H2 n2 nn rx q1 => eo.rt v x F2 O2 H2 n2 ((b.m0.trans base_sub).trans nn.e) (b.off.trans nn.o) nn.s rx q1) (fun C fs n2 d vs F2 O2 H2 nn h1 h2 h3 => eo.ex C d vs fs F2 O2 H2 n2 ((b.m0.trans base_sub).trans nn.e) (b.off.trans nn.o) nn.s h1 h2 h3) q
theorem ss_asgR (he : SER K E te pe) (hg : SG K g pg vs) : SS K E (tAsg te g) (pAsgR pe pg) := fun p c M0 O0 D D' eo σ H ρ n F O b q =>
  he p c _ _ H σ _ n b.stB b.sl.hid _ _ _ (fun v x F2 O2 H2 n2 nn rx q1 => by
    obtain ⟨F3, O3, b3, e3⟩ := b.stepB nn
    exact hg p c M0 O0 σ H2 ρ n2 F3 O3 v x b3 (by rw [e3]; exact rx) _ _ (fun σ2 ρ2 b4 _ _ q2 => eo.nx _ _ _ _ _ _ b4 q2) q1)
    (fun C fs n2 d vs F2 O2 H2 nn h1 h2 h3 => by
      obtain ⟨F3, O3, b3, e3⟩ := b.stepB nn
      exact eo.ex C d vs fs F3 O3 H2 n2 (b3.m0.trans base_sub) b3.off b3.st h1 (h2.mono (by rw [← e3]; exact base_sub)) h3) q
/-- what an own error's __init__ does: it keeps its fields -/
def spErrI (K : PySem.W.Frag) (C : Addr) (names : List Str) : Sp := fun vs H Q _ => ∃ (a : Addr) (ys : List V), vs = .ref a :: ys ∧ ys.length = names.length ∧ OexC K C ∧ H a = some (exo a C none) ∧
  ∀ d H2, H d = none → (∀ b o, b ≠ a → H b = some o → H2 b = some o) → H2 a = some (exo a C (some d)) → H2 d = some (exd d (names.zip ys).reverse) → Q .non H2
theorem zip_rep {p : Addr} {F : Hp} : ∀ {names : List Str} {ys : List V} {xs : List PV}, RepL K p F ys xs → RepF K p F (names.zip ys) (names.zip xs)
  | [], _, _, _ => .nil
  | _ :: _, _, _, .nil => .nil
  | f :: names, _, _, .cons a b => .cons a (zip_rep b)
theorem RepF.snoc {p : Addr} {F : Hp} {f : Str} {v : V} {x : PV} (hx : Rep K p F v x) : ∀ {ws : List (Str × V)} {fs : List (Str × PV)}, RepF K p F ws fs → RepF K p F (ws ++ [(f, v)]) (fs ++ [(f, x)])
  | _, _, .nil => .cons hx .nil
  | _, _, .cons a b => .cons a (RepF.snoc hx b)
theorem RepF.rev {p : Addr} {F : Hp} : ∀ {ws : List (Str × V)} {fs : List (Str × PV)}, RepF K p F ws fs → RepF K p F ws.reverse fs.reverse
  | _, _, .nil => .nil
  | _, _, .cons a b => by
    rw [List.reverse_cons, List.reverse_cons]
    exact RepF.snoc a (RepF.rev b)
theorem ss_raise {C : Addr} {names : List Str} (ho : OexC K C) (ha : SA K tl pl) : SS K E (fun _ σ H => tMkO C (spErrI K C names) [] tl σ H fun cls d H' => E cls d H') (pRaise C names pl) := fun p c M0 O0 D D' eo σ H ρ n F O b q =>
  ha p c _ _ H σ _ n b.st b.sl' _ _ (fun ys xs F2 O2 H2 n2 nn rx ⟨hl, hl2, q1⟩ => by
    refine ⟨by rw [rx.len]; exact hl2, fun a ha => ⟨a, ys, by rw [List.append_nil], by rw [rx.len]; exact hl, ho, upd_same, fun d H3 hd hk h1 h2 => ⟨rfl, d, _, h1, h2, ?_, ?_⟩⟩⟩
    · by_cases e : d = a
      · rw [e]; exact ha
      · rwa [upd_ne e] at hd
    · have hda : d ≠ a := fun z => by
        rw [z, upd_same] at hd
        cases hd
      have hd2 : H2 d = none := by rwa [upd_ne hda] at hd
      have ex : Ex H2 (upd (del H3 a) d (.xd (names.zip ys).reverse)) := fun b2 o hb => by
        have n1 : b2 ≠ a := fun z => by rw [z, ha] at hb; cases hb
        have n3 : b2 ≠ d := fun z => by rw [z, hd2] at hb; cases hb
        rw [upd_ne n3, del_ne n1]
        exact hk b2 o n1 (by rw [upd_ne n1]; exact hb)
      exact eo.ex C d _ _ F2 O2 _ n2 ((b.m0.trans base_sub).trans nn.e) (b.off.trans nn.o) (nn.s.grow ex) upd_same (RepF.rev (zip_rep rx)) q1) q
end
section
variable {K : PySem.W.Frag} {E : L2.XK} {X : Cx} {e o : Expr} {es : List Expr} {te to : TE} {per : PTER} {po : PTE} {tl : TA} {pl : PTA} {pos p2 apos : Pos}
theorem xr_call {x : Str} {p : Pos} {k : Nat} {f : Addr} {fd : FuncData} {ps : List Str} {w : PSpR} (tk : Takes X fun cls d _ H => E cls d H) (F : FnOk X.prog X.w X.K X.mg X.base (L2.CX X.prog X.w) k f fd ps (liftR K w)) (hr : Room k X.A) (hg : Gl X x) (hm : X.mg x = some (.ref f)) (hk : PySem.W.keepIn X.K (.ref f) = true) (hb : Binds X.K fd ps [])
    (ha : XA K X (e :: es) tl pl) (hdb : (x == ("__debug__" : Str)) = false := by decide) (he : starEach (e :: es) X.env = (false, eval e X.env) :: starEach es X.env := by rfl) (hpl : (backTo pos (starEach es X.env)).any (·.1) = false := by rfl) :
    XER K E X (.Call (.Name x p) (e :: es) [] pos) (tCall (liftR K w) [] E tl) (pCallR w pl) := ⟨pe_call F hr hg hm hk hb .nil (passes_call tk fun _ _ _ _ h => h) ha.d hdb he hpl, ser_call ha.s⟩
theorem xr_meth {m : Str} {C f : Addr} {k : Nat} {fd : FuncData} {ps : List Str} {w : PSpR} {pq : Sem Bool} (tk : Takes X fun cls d _ H => E cls d H) (he : XE K X o to po) (c : Cls X.K C) (hm : Meth X.K C m f) (F : FnOk X.prog X.w X.K X.mg X.base (L2.CX X.prog X.w) k f fd ps (liftR K w)) (hr : Room k X.A) (hb : Binds X.K fd ps []) (ha : XA K X (e :: es) tl pl)
    (hst : starEach (e :: es) X.env = (false, eval e X.env) :: starEach es X.env := by rfl) (hpl : (backTo pos (starEach es X.env)).any (·.1) = false := by rfl)
    (ht : eval (.Call (.Attribute o m apos) (e :: es) [] pos) X.env = (do
      let ov ← eval o X.env
      standAt apos.atName
      let (f, first) ← holding [ov] (getMethod ov m pq)
      callWith pos f first (backTo pos (starEach (e :: es) X.env)) (backToKw pos (keywordEach [] X.env))) := by rfl) :
    XER K E X (.Call (.Attribute o m apos) (e :: es) [] pos) (tMeth C m (liftR K w) [] E to tl) (pMethR C m w po pl) := ⟨pe_meth he.d c hm F hr hb .nil (passes_call tk fun _ _ _ _ h => h) ha.d hst hpl ht, ser_meth he.s ha.s⟩
theorem xs_exprR (he : XER K E X e te per) (hs : swapsWith e none pos.line X.env = pure false := by rfl) : XS K E X (.Expr e pos) (tDrop te) (pDropR per) := ⟨ps_expr he.d hs, ss_dropR he.s⟩
theorem xs_retR (he : XER K E X e te per) : XS K E X (.Return (some e) pos) (tRet te) (pRetR per) := ⟨ps_ret he.d, ss_retR he.s⟩
theorem xs_asgR {tg : Expr} {g : TG} {pg : PTG} {vs : List Nat} (he : XER K E X e te per) (hg : XG K X tg g pg vs) (hs : swapsWithSole [tg] e pos.line X.env = pure false := by rfl) (hw : swappedStores [tg] e X.env = pure none := by rfl)
    (h1 : (assignEach [tg] X.env).map (·.2) = [assign tg X.env] := by rfl) : XS K E X (.Assign [tg] e pos) (tAsg te g) (pAsgR per pg) := ⟨ps_asg he.d hg.d hs hw h1, ss_asgR he.s hg.s⟩
theorem xs_setR {i : Nat} {x : Str} {pos' : Pos} (hN : X.N.Nodup) (hi : X.N[i]? = some x) (hx : Loc X.env.scope x) (he : XER K E X e te per) (hs : swapsWith e (some (.Name x pos')) pos.line X.env = pure false := by rfl) (hf : X.fn x = true ∨ X.env.scope.names.lookup x = some .local := by first | exact .inl rfl | exact .inr rfl | assumption) :
    XS K E X (.Assign [.Name x pos'] e pos) (tAsg te (gName i)) (pAsgR per (pgName i)) := ⟨ps_set hN hi hx he.d hs hf, ss_asgR he.s sg_name⟩
theorem xs_raise {x : Str} {C fI : Addr} {k : Nat} {fd : FuncData} {names : List Str} {p : Pos} (tk : Takes X fun cls d _ H => E cls d H) (hc : X.calm = true) (T : OexC X.K C) (iC : PySem.W.findIn X.K (.ref C) "__init__" = some (some (.ref fI))) (tI : PySem.W.typeIn X.K (.ref fI) = some (.type "function"))
    (F1 : FnOk X.prog X.w X.K X.mg X.base CX0 k fI fd ("self" :: names) (spErrI X.K C names)) (hr : Room (k + 1) X.A) (hb : Binds X.K fd ("self" :: names) []) (hg : Gl X x) (hm : X.mg x = some (.ref C)) (ha : XA K X (e :: es) tl pl) (hK : X.K = K := by rfl)
    (hdb : (x == ("__debug__" : Str)) = false := by decide) (he : starEach (e :: es) X.env = (false, eval e X.env) :: starEach es X.env := by rfl) (hpl : (backTo pos (starEach es X.env)).any (·.1) = false := by rfl) :
    XS K E X (.Raise (some (.Call (.Name x p) (e :: es) [] pos)) none p2) (fun _ σ H => tMkO C (spErrI K C names) [] tl σ H fun cls d H' => E cls d H') (pRaise C names pl) :=
  ⟨by subst hK; exact ps_raise hc tk (pmk_oex T iC tI F1 hr hb .nil pass0 hg hm ha.d hdb he hpl), ss_raise (by rw [← hK]; exact T) ha.s⟩
end
/-- a def that may raise keeps a promise that knows no heap -/
theorem okXR {P : Program} {w0 : World} {K : PySem.W.Frag} {mg : Str → Option Value} {base0 : Heap} {x qual : Str} {params : Arguments} {body : List Stmt} {scope : Scope} {dvs : List V} {kws : List (Str × V)} {f : Addr} {fd : FuncData} {N ps : List Str} {k : Nat} {w : PSpR}
    (F : FunD K x qual params body scope dvs kws f fd) (S : FnScope N ps scope) (len : ∀ xs n Q E, w xs n Q E → xs.length = ps.length)
    (hbody : ∀ (cdv : Value) (A : Around) (outer : List Env) (s : Shared) (H : Hp) (E : L2.XK), Room k (A.deeper (envOfC qual scope s.heap.objs.size f cdv)) →
      Takes (cxOf (L2.CX P w0) P w0 K mg base0 N qual scope f cdv A outer s H E) (fun cls d _ H => E cls d H) → PassesOwn (model P w0) (A.deeper (envOfC qual scope s.heap.objs.size f cdv)) (envOfC qual scope s.heap.objs.size f cdv) (cxOf (L2.CX P w0) P w0 K mg base0 N qual scope f cdv A outer s H E).xe →
      ∃ ts pt, XSs K E (cxOf (L2.CX P w0) P w0 K mg base0 N qual scope f cdv A outer s H E) body ts pt ∧ ∀ xs n Q' E', w xs n Q' E' → pt { nx := fun _ n => Q' .non n, rt := Q', ex := E' } (startP N xs) n) : FnOk P w0 K mg base0 (L2.CX P w0) (k + 1) f fd ps (liftR K w) := by
  refine F.ok S (fun vs H Q E h => ?_) (fun cdv A outer s H vs Q E hr h => ?_)
  · obtain ⟨p, c, F0, O, n, xs, Q', E', s, r, hw, _⟩ := h
    rw [r.len]
    exact len _ _ _ _ hw
  · obtain ⟨p, c, F0, O, n, xs, Q', E', st, r, hw, k, kE⟩ := h
    obtain ⟨ts, pt, d, hp⟩ := hbody cdv A outer s H E hr (takes_of rfl rfl rfl rfl) (passes_of rfl)
    refine ⟨ts, d.d, ?_⟩
    refine d.s p c F0 O _ { nx := fun _ n => Q' .non n, rt := Q', ex := E' } ⟨fun σ H ρ n F O2 b q => ?_, fun v x F2 O2 H2 n2 e o s r q => ?_, fun _ _ _ _ _ _ _ h => h.elim, fun _ _ _ _ _ _ _ h => h.elim, fun C d vs fs F2 O2 H2 n2 e o s h1 h2 q => ?_⟩ _ H _ n F0 O (start_b st r) (hp xs n Q' E' hw)
    · exact k _ _ _ _ _ _ q ⟨b.m0.trans base_sub, b.off, b.st⟩ .non
    · exact k _ _ _ _ _ _ q ⟨e, o, s⟩ r
    · exact kE _ _ _ _ _ _ _ _ q ⟨e, o, s⟩ h1 h2
end Pu

set_option Elab.async false
set_option linter.all false
set_option maxRecDepth 100000
set_option maxHeartbeats 4000000
/-! U14: try: x = f(..) / except C as e: x = something of e's fields -/
namespace Pu
open PySem PySem.Spec PyProof.Rows L2 Evl
/-- an expression of the handler: what it makes of the error's fields -/
abbrev PTH := List (Str × PV) → (PV → Prop) → Prop
abbrev PTHA := List (Str × PV) → (List PV → Prop) → Prop
structure XH (K : PySem.W.Frag) (X : Cx) (i : Nat) (C : Addr) (e : Expr) (te : Addr → Value → Option Addr → TE) (ph : PTH) : Prop where
  d : ∀ (a : Addr) (oe : Obj) (cls : Value) (d : Option Addr) (pn : List (Addr × Obj)), Zc cls d oe → (∃ vs, oe.data = .fields vs) → PE (X.suite a ((a, oe) :: pn)) e (te a cls d)
  s : ∀ p c F O H σ n a d vs fs, St K p c F O H n → σ[i]? = some (some (.ref a)) → H d = some (.xd vs) → RepF K p F vs fs → ∀ (Q : VK) (Q' : PV → Prop), (∀ v x F2 H2, Nx K p c F O F2 O H2 n → H2 d = some (.xd vs) → Rep K p F2 v x → Q' x → Q v H2) → ph fs Q' → te a (.ref C) (some d) σ H Q
structure XHA (K : PySem.W.Frag) (X : Cx) (i : Nat) (C : Addr) (es : List Expr) (ta : Addr → Value → Option Addr → TA) (ph : PTHA) : Prop where
  d : ∀ (a : Addr) (oe : Obj) (cls : Value) (d : Option Addr) (pn : List (Addr × Obj)), Zc cls d oe → (∃ vs, oe.data = .fields vs) → PA (X.suite a ((a, oe) :: pn)) es (ta a cls d)
  s : ∀ p c F O H σ n a d vs fs, St K p c F O H n → σ[i]? = some (some (.ref a)) → H d = some (.xd vs) → RepF K p F vs fs → ∀ (Q : List V → Hp → Prop) (Q' : List PV → Prop), (∀ ws xs F2 H2, Nx K p c F O F2 O H2 n → H2 d = some (.xd vs) → RepL K p F2 ws xs → Q' xs → Q ws H2) → ph fs Q' → ta a (.ref C) (some d) σ H Q
def hC (x : PV) : PTH := fun _ Q => Q x
def hFld (f : Str) : PTH := fun fs Q => ∃ y, fs.lookup f = some y ∧ Q y
def hNil : PTHA := fun _ Q => Q []
def hCons (h : PTH) (hs : PTHA) : PTHA := fun fs Q => h fs fun x => hs fs fun xs => Q (x :: xs)
def hTup (h : PTHA) : PTH := fun fs Q => h fs fun xs => xs.length ≤ 100000 ∧ Q (.tup xs)
def hLst (h : PTHA) : PTH := fun fs Q => h fs fun xs => xs.length ≤ 100000 ∧ Q (.lst xs)
section
variable {K : PySem.W.Frag} {X : Cx} {i : Nat} {C : Addr} {e : Expr} {es : List Expr} {te : Addr → Value → Option Addr → TE} {ta : Addr → Value → Option Addr → TA} {ph : PTH} {pha : PTHA} {pos p2 : Pos}
theorem xh_str {s : Str} {j p} : XH K X i C (.Constant (.str s) j p) (fun _ _ _ => tC (.str s)) (hC (.str s)) := ⟨fun _ _ _ _ _ _ _ => pe_str, fun p c F O H σ n a d vs fs s h1 h2 h3 Q Q' k q => k _ _ F H (.refl s) h2 (.str _) q⟩
theorem xh_fld {f nE : Str} {p : Pos} (T : XfC X.K C) (hno : PySem.W.findIn X.K (.ref C) f = some none) (hN : X.N[i]? = some nE := by rfl) (hv : Vis X.env.scope nE := by first | exact Or.inl rfl | exact Or.inr (Or.inl rfl) | exact Or.inr (Or.inr rfl)) (hd : (nE == ("__debug__" : Str)) = false := by decide) (hcd : (nE == ("__classdict__" : Str)) = false := by decide)
    (hb : attributeBase (.Name nE p2) f X.env (eval (.Name nE p2) X.env) = eval (.Name nE p2) X.env := by rfl) : XH K X i C (.Attribute (.Name nE p2) f p) (fun a cls d => tXf a cls d C f (tVar i)) (hFld f) :=
  ⟨fun a oe cls d pn hz hf => pe_xf T hno hz hf (pv (X := X.suite a ((a, oe) :: pn)) i hN hv hd hcd) hb, fun p c F O H σ n a d vs fs s h1 h2 h3 Q Q' k ⟨y, hy, q⟩ => by
    obtain ⟨v, hv, rv⟩ := h3.lookup hy
    exact ⟨_, h1, rfl, rfl, d, vs, v, rfl, h2, hv, k v y F H (.refl s) h2 rv q⟩⟩
theorem xha_nil : XHA K X i C [] (fun _ _ _ => tNil) hNil := ⟨fun _ _ _ _ _ _ _ => pa_nil, fun p c F O H σ n a d vs fs s h1 h2 h3 Q Q' k q => k [] [] F H (.refl s) h2 .nil q⟩
theorem xha_cons (h : XH K X i C e te ph) (hs : XHA K X i C es ta pha) (hst : starEach (e :: es) X.env = (false, eval e X.env) :: starEach es X.env := by rfl) : XHA K X i C (e :: es) (fun a cls d => tCons (te a cls d) (ta a cls d)) (hCons ph pha) :=
  ⟨fun a oe cls d pn hz hf => pa_cons (h.d a oe cls d pn hz hf) (hs.d a oe cls d pn hz hf) hst, fun p c F O H σ n a d vs fs s h1 h2 h3 Q Q' k q =>
    h.s p c F O H σ n a d vs fs s h1 h2 h3 _ _ (fun v x F2 H2 n1 g1 rx q1 => hs.s p c F2 O H2 σ n a d vs fs n1.s h1 g1 (h3.mono n1.e) _ _ (fun ws xs F3 H3 n2 g2 rs q2 => k (v :: ws) (x :: xs) F3 H3 (n1.trans n2) g2 (.cons (rx.mono n2.e) rs) q2) q1) q⟩
theorem xh_tup {x1} (h : XHA K X i C es ta pha) : XH K X i C (.Tuple es x1 pos) (fun a cls d => tTup (ta a cls d)) (hTup pha) :=
  ⟨fun a oe cls d pn hz hf => pe_tup (h.d a oe cls d pn hz hf), fun p c F O H σ n a d vs fs s h1 h2 h3 Q Q' k q =>
    h.s p c F O H σ n a d vs fs s h1 h2 h3 _ _ (fun ws xs F2 H2 n1 g1 rs ⟨hl, q1⟩ => ⟨by rw [rs.len]; exact sz_of hl, fun b hb => k _ _ _ _ (n1.trans (.new n1.s hb)) ((Ex.new hb) _ _ g1) (.tup upd_same (rs.mono (Ex.new (n1.s.notF hb)))) q1⟩) q⟩
theorem xh_lst (h : XHA K X i C es ta pha) : XH K X i C (.List es pos) (fun a cls d => tLst (ta a cls d)) (hLst pha) :=
  ⟨fun a oe cls d pn hz hf => pe_lst (h.d a oe cls d pn hz hf), fun p c F O H σ n a d vs fs s h1 h2 h3 Q Q' k q =>
    h.s p c F O H σ n a d vs fs s h1 h2 h3 _ _ (fun ws xs F2 H2 n1 g1 rs ⟨hl, q1⟩ => ⟨by rw [rs.len]; exact sz_of hl, fun b hb => k _ _ _ _ (n1.trans (.new n1.s hb)) ((Ex.new hb) _ _ g1) (.lst upd_same (rs.mono (Ex.new (n1.s.notF hb)))) q1⟩) q⟩
end
/-- what is in a slot of which nothing is known does not matter -/
theorem B.forget {K : PySem.W.Frag} {p c : Addr} {M0 O0 : Hp} {σ : L2.St} {H : Hp} {ρ : PR} {n : Int} {F O : Hp} (b : B K p c M0 O0 σ H ρ n F O) {i : Nat} (hi : ρ[i]? = some .no) (v : Option V) : B K p c M0 O0 (σ.set i v) H ρ n F O := by
  have at_ : ∀ {j : Nat} {s : PS}, ρ[j]? = some s → s ≠ .no → (σ.set i v)[j]? = σ[j]? := fun {j s} h hs => by
    have : i ≠ j := fun z => by
      subst z
      rw [hi] at h
      cases h
      exact hs rfl
    rw [List.getElem?_set_ne this]
  have ho : ∀ a, Own (σ.set i v) ρ a ↔ Own σ ρ a := fun a => ⟨fun ⟨j, k, xs, h1, h2⟩ => ⟨j, k, xs, h1, by rw [← at_ h1 (by intro z; cases z)]; exact h2⟩, fun ⟨j, k, xs, h1, h2⟩ => ⟨j, k, xs, h1, by rw [at_ h1 (by intro z; cases z)]; exact h2⟩⟩
  have hb : base (Own (σ.set i v) ρ) F = base (Own σ ρ) F := by
    funext a
    by_cases w : Own σ ρ a
    · rw [base_y w, base_y ((ho a).mpr w)]
    · rw [base_n w, base_n fun z => w ((ho a).mp z)]
  refine ⟨b.st, b.off, fun j l k1 k2 xs ys a h1 h2 h3 h4 => b.inj j l k1 k2 xs ys a h1 h2 (by rw [← at_ h1 (by intro z; cases z)]; exact h3) (by rw [← at_ h2 (by intro z; cases z)]; exact h4), b.mc, by rw [hb]; exact b.m0, ⟨by rw [List.length_set]; exact b.sl.len, fun j x hx => ?_, fun j k xs hx => ?_⟩⟩
  · rw [hb, at_ hx (by intro z; cases z)]
    exact b.sl.fr j x hx
  · rw [hb, at_ hx (by intro z; cases z)]
    exact b.sl.ow j k xs hx
/-- try: x = f(..) / except C as e: x = h -/
def pTrySet (i j : Nat) (C : Addr) (w : PSpR) (pa : PTA) (ph : PTH) : PTS := fun D ρ n => ρ[i]? = some .no ∧ pa (hide ρ) n fun xs n1 => w xs n1 (fun x n2 => D.nx (ρ.set j (.fr x)) n2) fun C' fs n2 => C' = C ∧ ph fs fun x => D.nx (ρ.set j (.fr x)) n2
section
variable {K : PySem.W.Frag} {E : L2.XK} {X : Cx}
theorem xs_trySet {i j : Nat} {nE y x fn : Str} {C f : Addr} {k : Nat} {fd : FuncData} {ps : List Str} {w : PSpR} {e : Expr} {es : List Expr} {tl : TA} {pl : PTA} {eh : Expr} {te : Addr → Value → Option Addr → TE} {ph : PTH} {np p cpos py apos py2 apos2 pos pos' : Pos}
    (hs : X.stack = X.env :: X.outer) (hf : X.env.frame = some X.env.locals) (hN : X.N.Nodup) (hi : X.N[i]? = some nE) (hj : X.N[j]? = some y) (hij : i ≠ j) (hln : X.env.kindOf nE = some .local) (hc : Names X x (.ref C)) (hx : PySem.W.exmOne X.K (.ref C) (.ref C) = some true)
    (F : FnOk X.prog X.w X.K X.mg X.base (L2.CX X.prog X.w) k f fd ps (liftR K w)) (hr : Room k X.A) (hg : Gl X fn) (hm : X.mg fn = some (.ref f)) (hk : PySem.W.keepIn X.K (.ref f) = true) (hb : Binds X.K fd ps [])
    (ha : ∀ (pn : List (Addr × Obj)) (xe : Value → Shared → Prop), XA K (X.tr pn xe) (e :: es) tl pl) (hh : XH K X i C eh te ph) (hy : Loc X.env.scope y) (hsw : swapsWith (.Call (.Name fn p) (e :: es) [] cpos) (some (.Name y py)) apos.line X.env = pure false := by rfl) (hsw2 : swapsWith eh (some (.Name y py2)) apos2.line X.env = pure false := by rfl)
    (hfy : X.fn y = true ∨ X.env.scope.names.lookup y = some .local := by first | exact .inl rfl | exact .inr rfl | assumption) (hdb : (fn == ("__debug__" : Str)) = false := by decide) (he : starEach (e :: es) X.env = (false, eval e X.env) :: starEach es X.env := by rfl) (hpl : (backTo cpos (starEach es X.env)).any (·.1) = false := by rfl) (hK : X.K = K := by rfl) :
    XS K E X (.Try [.Assign [.Name y py] (.Call (.Name fn p) (e :: es) [] cpos) apos] [.ExceptHandler (some (.Name x np)) (some nE) [.Assign [.Name y py2] eh apos2] pos'] [] [] pos)
      (fun D σ H => tAsg (tCallS (liftR K w) (WE (wAs X.K (.ref C) i (fun a cls d => tAsg (te a cls d) (gName j)) (fun _ _ _ _ => False) D)) tl) (gName j) D σ H) (pTrySet i j C w pl ph) := by
  refine ⟨ps_try_as (tb := fun W => tAsg (tCallS (liftR K w) (WE W) tl) (gName j)) hs hf hN hi hln hc LamX.takes0 (fun W pn xe tk _ => ?_) (fun a oe cls d pn hz hf2 => ?_), ?_⟩
  · exact pss_one (ps_set (X := X.tr pn xe) hN hj hy (pe_callS (X := X.tr pn xe) F hr hg hm hk hb (fun σ => passAt tk σ) (ha pn xe).d hdb he hpl) hsw hfy)
  · exact pss_one (ps_set (X := X.suite a ((a, oe) :: pn)) hN hj hy (hh.d a oe cls d pn hz hf2) hsw2 hfy)
  · subst hK
    intro p c M0 O0 D D' eo σ H ρ n F O b ⟨hρ, q⟩
    refine (ha [] X.xe).s p c _ _ H σ _ n b.stB b.sl.hid _ _ (fun vs xs F2 O2 H2 n2 nn rx q1 => ?_) q
    refine ⟨p, c, F2, O2, n2, xs, _, _, nn.s, rx, q1, fun x n' v F3 O3 H3 hq n3 r => ?_, fun C' fs n' d vs2 F3 O3 H3 hq n3 h1 h2 => ?_⟩
    · obtain ⟨F4, O4, b4, e4⟩ := b.stepB (nn.trans n3)
      exact eo.nx _ _ _ _ _ _ (b4.set (by rw [e4]; exact r)) hq
    · obtain ⟨hC, hq⟩ := hq
      subst hC
      obtain ⟨F4, O4, b4, e4⟩ := b.stepB (nn.trans n3)
      refine ⟨true, hx, fun _ a ha => ?_, fun z => by cases z⟩
      have hil : i < σ.length := by rw [b.sl.len]; exact (List.getElem?_eq_some_iff.mp hρ).1
      refine hh.s p c _ _ H3 (σ.set i (some (.ref a))) n' a d vs2 fs b4.stB (by rw [List.getElem?_set_self hil]) h1 (by rw [e4]; exact h2) _ _ (fun v x F5 H5 n5 _ rv qx => ?_) hq
      obtain ⟨F6, O6, b6, e6⟩ := b4.stepB n5
      have b7 := (b6.forget hρ (some (.ref a))).set (i := j) (v := v) (x := x) (by
        have hb2 : base (Own (σ.set i (some (.ref a))) ρ) F6 = base (Own σ ρ) F6 := by
          funext q
          have at_ : ∀ {l : Nat} {s : PS}, ρ[l]? = some s → s ≠ .no → (σ.set i (some (V.ref a)))[l]? = σ[l]? := fun {l s} h hs => by
            have : i ≠ l := fun z => by
              subst z
              rw [hρ] at h
              cases h
              exact hs rfl
            rw [List.getElem?_set_ne this]
          have ho : Own (σ.set i (some (.ref a))) ρ q ↔ Own σ ρ q := ⟨fun ⟨l, k, xs, h1, h2⟩ => ⟨l, k, xs, h1, by rw [← at_ h1 (by intro z; cases z)]; exact h2⟩, fun ⟨l, k, xs, h1, h2⟩ => ⟨l, k, xs, h1, by rw [at_ h1 (by intro z; cases z)]; exact h2⟩⟩
          by_cases w : Own σ ρ q
          · rw [base_y w, base_y (ho.mpr w)]
          · rw [base_n w, base_n fun z => w (ho.mp z)]
        rw [hb2, e6]
        exact rv)
      exact eo.nx _ _ _ _ _ _ (b7.forget (by rw [List.getElem?_set_ne (Ne.symm hij)]; exact hρ) none) qx
end
end Pu

set_option Elab.async false
set_option linter.all false
set_option maxRecDepth 100000
set_option maxHeartbeats 2000000
/-! U15: more words: xs[::-1], x in a list of data, isinstance(x, list), max and min of a list, a list unpacked, own lists made side by side, own lists made fast -/
namespace Pu
open PySem PySem.Spec PyProof.Rows L2 Evl
section
variable {K : PySem.W.Frag} {E : L2.XK} {X : Cx} {a b e : Expr} {es : List Expr} {ta tb te : TE} {pa pb pe : PTE} {tl : TA} {pl : PTA} {pos p1 p2 p3 : Pos}
def pRevL (pe : PTE) : PTE := fun ρ n Q => pe ρ n fun x n1 => ∃ xs, x = .lst xs ∧ Q (.lst xs.reverse) n1
theorem RepL.reverse {p : Addr} {F : Hp} : ∀ {ys : List V} {xs : List PV}, RepL K p F ys xs → RepL K p F ys.reverse xs.reverse
  | _, _, .nil => .nil
  | _, _, .cons a b => by
    rw [List.reverse_cons, List.reverse_cons]
    exact (RepL.reverse b).app (.cons a .nil)
theorem xe_revL {k : Nat} (he : XE K X e te pe) (hK : X.K = K := by rfl) : XE K X (.Subscript e (.Slice none none (some (.UnaryOp .USub (.Constant (.int 1) k p1) p2)) p3) pos) (tRevL K te) (pRevL pe) := ⟨by subst hK; exact pe_revL he.d, fun p c F O H σ ρ n s sl Q Q' k q =>
  he.s p c F O H σ ρ n s sl _ _ (fun v x F2 O2 H2 n2 nn rx ⟨xs, e1, q1⟩ => by
    subst e1
    obtain ⟨a, ys, rfl, h1, h2⟩ := rx.getL
    exact ⟨a, ys, rfl, sq_of (nn.s.f _ _ h1), fun d hd => k _ _ _ _ _ _ (nn.trans (.new nn.s hd)) (.lst upd_same ((h2.mono (Ex.new (nn.s.notF hd))).reverse)) q1⟩) q⟩
def pInD (neg : Bool) : PR2 := fun x y Q => ∃ d ds, toD x = some d ∧ toD y = some (.list ds) ∧ SeqAt.shaped d = true ∧ SeqAt.shaped (.list ds) = true ∧ Q (.bl (if neg then !(ds.any fun z => PyData.eqv z d) else ds.any fun z => PyData.eqv z d))
theorem xo_inD (hu : X.A.units + 65 < cLine) (h : X.K = K := by rfl) : XO K X (compareOp .In) (rInD K) (pInD false) := ⟨by subst h; exact op_inD hu, fun p c F O H n s x y v w rx ry Q Q' k ⟨d, ds, h1, h2, h3, h4, q⟩ =>
  ⟨d, ds, dp_rep s.f rx h1, dp_rep s.f ry h2, h3, h4, k _ _ F H (.refl s) (.bl _) q⟩⟩
theorem xo_notInD (hu : X.A.units + 65 < cLine) (h : X.K = K := by rfl) : XO K X (compareOp .NotIn) (rNotInD K) (pInD true) := ⟨by subst h; exact op_notInD hu, fun p c F O H n s x y v w rx ry Q Q' k ⟨d, ds, h1, h2, h3, h4, q⟩ =>
  ⟨d, ds, dp_rep s.f rx h1, dp_rep s.f ry h2, h3, h4, k _ _ F H (.refl s) (.bl _) q⟩⟩
/-- isinstance(x, list), of a list or a tuple -/
def rIsLst (K : PySem.W.Frag) : List V → Hp → VK → Prop := fun xs H Q => ∃ (a : Addr) (ys : List V), xs = [.ref a, .ty "list"] ∧ ((H a = some (.lst ys) ∧ Q (.bl true) H) ∨ (H a = some (.tup ys) ∧ Q (.bl false) H))
theorem cr_isLst : CallR X (.builtin "isinstance") (rIsLst X.K) := by
  intro pins s σ H xs us Q I r h
  obtain ⟨a, ys, rfl, hq⟩ := h
  cases r with
  | cons rx rr =>
    cases rr with
    | cons rt rr =>
      cases rr
      cases rt
      rcases hq with ⟨hq, q⟩ | ⟨hq, q⟩
      · have e : PySem.W.kitOne X.K (.type "list") (.type "list") = some true := if_pos (beq_self_eq_true _)
        exact isinst_ok I rx (RZ.Ty4.lst hq).tyOf e fun tk => ⟨.bl true, H, I.kept (t' := tk) fun _ _ z => z, rfl, q⟩
      · have e : PySem.W.kitOne X.K (.type "tuple") (.type "list") = some false := by rfl
        exact isinst_ok I rx (RZ.Ty4.tup hq).tyOf e fun tk => ⟨.bl false, H, I.kept (t' := tk) fun _ _ z => z, rfl, q⟩
def pIsLst : PRL := fun xs Q => ∃ ys, (xs = [.lst ys, .raw (.ty "list")] ∧ Q (.bl true)) ∨ (xs = [.tup ys, .raw (.ty "list")] ∧ Q (.bl false))
theorem xcall_isLst (h : X.K = K := by rfl) : XC K X (.builtin "isinstance") (rIsLst K) pIsLst := ⟨by subst h; exact cr_isLst, fun p c F O H n s xs vs rx Q Q' k ⟨ys, q⟩ => by
  rcases q with ⟨e, q⟩ | ⟨e, q⟩
  · subst e
    obtain ⟨v, ws, rfl, r, r2⟩ := rx.cons_inv
    obtain ⟨v2, ws2, rfl, r3, r4⟩ := r2.cons_inv
    cases r4
    obtain ⟨a, us, rfl, h1, h2⟩ := r.getL
    cases r3
    exact ⟨a, us, rfl, Or.inl ⟨s.f _ _ h1, k _ _ F H (.refl s) (.bl _) q⟩⟩
  · subst e
    obtain ⟨v, ws, rfl, r, r2⟩ := rx.cons_inv
    obtain ⟨v2, ws2, rfl, r3, r4⟩ := r2.cons_inv
    cases r4
    obtain ⟨a, us, rfl, h1, h2⟩ := r.getT
    cases r3
    exact ⟨a, us, rfl, Or.inr ⟨s.f _ _ h1, k _ _ F H (.refl s) (.bl _) q⟩⟩⟩
end
end Pu

set_option Elab.async false
set_option linter.all false
set_option maxRecDepth 100000
set_option maxHeartbeats 2000000
/-! U16: max and min of a list, a list unpacked, own lists made side by side, own lists made fast -/
namespace Pu
open PySem PySem.Spec PyProof.Rows L2 Evl
section
variable {K : PySem.W.Frag} {E : L2.XK} {X : Cx} {a b c e : Expr} {es : List Expr} {ta tb te : TE} {pa pb pe : PTE} {tl : TA} {pl : PTA} {pos p1 p2 p3 : Pos}
theorem rep_intsL {p : Addr} {F : Hp} : ∀ {ys : List V} {ns : List Int}, RepL K p F ys (ns.map PV.int) → ys = ns.map V.int
  | ys, [], h => h.nil_inv
  | ys, a :: k, h => by
    obtain ⟨v, ws, rfl, r1, r2⟩ := h.cons_inv
    rw [rep_intsL r2, r1.getI]
    rfl
def pMaxL : PRL := fun xs Q => ∃ ns : List Int, xs = [.lst (ns.map PV.int)] ∧ 0 < ns.length ∧ ∀ m, m ∈ ns → (∀ y, y ∈ ns → y ≤ m) → Q (.int m)
def pMinL : PRL := fun xs Q => ∃ ns : List Int, xs = [.lst (ns.map PV.int)] ∧ 0 < ns.length ∧ ∀ m, m ∈ ns → (∀ y, y ∈ ns → m ≤ y) → Q (.int m)
theorem xcr_max (hc : X.calm = true) (h : X.K = K := by rfl) : XC K X (.builtin "max") (rMax K) pMaxL := ⟨by subst h; exact cr_max hc, fun p c F O H n s xs vs rx Q Q' k ⟨ns, e, hl, q⟩ => by
  subst e
  obtain ⟨v, ws, rfl, r, r2⟩ := rx.cons_inv
  cases r2
  obtain ⟨a, us, rfl, h1, h2⟩ := r.getL
  rw [rep_intsL h2] at h1
  exact ⟨a, ns, rfl, sq_of (s.f _ _ h1), hl, fun m g1 g2 => k _ _ F H (.refl s) (.int _) (q m g1 g2)⟩⟩
theorem xcr_min (hc : X.calm = true) (h : X.K = K := by rfl) : XC K X (.builtin "min") (rMin K) pMinL := ⟨by subst h; exact cr_min hc, fun p c F O H n s xs vs rx Q Q' k ⟨ns, e, hl, q⟩ => by
  subst e
  obtain ⟨v, ws, rfl, r, r2⟩ := rx.cons_inv
  cases r2
  obtain ⟨a, us, rfl, h1, h2⟩ := r.getL
  rw [rep_intsL h2] at h1
  exact ⟨a, ns, rfl, sq_of (s.f _ _ h1), hl, fun m g1 g2 => k _ _ F H (.refl s) (.int _) (q m g1 g2)⟩⟩
def pgLst (n : Nat) (gs : PTGs) : PTG := fun x ρ Q => ∃ xs, x = .lst xs ∧ xs.length = n ∧ gs xs ρ Q
theorem xg_lst {k n : Nat} {gs : TGs} {pgs : PTGs} {vs : List Nat} (hc : X.calm = true) (h : XGs K X es gs pgs vs) (hn : (assignEach es X.env).length = n := by rfl) (hst : (assignEach es X.env).findIdx? (·.1) = none := by rfl) (hK : X.K = K := by rfl) : XG K X (.Tuple es k pos) (gLst K n gs) (pgLst n pgs) vs :=
  ⟨by subst hK; exact pg_lst hc h.d hn hst, fun p c M0 O0 σ H ρ n F O v x b r Q Q' k ⟨xs, e, hl, q⟩ => by
    subst e
    obtain ⟨a, ys, rfl, h1, h2⟩ := r.getL
    exact ⟨a, ys, rfl, sq_of (b.st.f _ _ (base_sub _ _ h1)), by rw [h2.len]; exact hl, h.s p c M0 O0 σ H ρ n F O ys xs b h2 Q Q' k q⟩⟩
/-! own lists made side by side with other things -/
def pParOw (i j : Nat) (pa : PTE) : PTS := fun D ρ n => pa (hide ρ) n fun x n2 => D.nx ((ρ.set i (.fr x)).set j (.ow none [])) n2
def pPar3Ow (i j l : Nat) (pa pb : PTE) : PTS := fun D ρ n => pa (hide ρ) n fun x n1 => pb (hide ρ) n1 fun y n2 => D.nx (((ρ.set i (.fr x)).set j (.fr y)).set l (.ow none [])) n2
theorem ss_parOw {i j : Nat} (ha : SE K ta pa) : SS K E (tPar i j (tCons ta (tCons (tLst tNil) tNil))) (pParOw i j pa) := fun p c M0 O0 D D' eo σ H ρ n F O b q =>
  ha p c _ _ H σ _ n b.stB b.sl.hid _ _ (fun v x F2 O2 H2 n2 nn rx q1 => by
    obtain ⟨F3, O3, b3, e3⟩ := b.stepB nn
    refine ⟨by show 0 ≤ sizeLine; exact Nat.zero_le _, fun d hd => ⟨v, .ref d, rfl, ?_⟩⟩
    have b4 := (b3.step (F2 := F3) (O2 := O3) (H2 := upd H2 d (.lst [])) (n2 := n2) ⟨Ex.refl _, .refl, b3.st.grow (Ex.new hd)⟩).set (i := i) (v := v) (x := x) (by rw [e3]; exact rx)
    exact eo.nx _ _ _ _ _ _ (b4.setOw none (ys := []) (b3.st.notF hd) (b3.st.notO hd) upd_same .nil) q1) q
theorem ss_par3Ow {i j l : Nat} (ha : SE K ta pa) (hb : SE K tb pb) : SS K E (tPar3 i j l (tCons ta (tCons tb (tCons (tLst tNil) tNil)))) (pPar3Ow i j l pa pb) := fun p c M0 O0 D D' eo σ H ρ n F O b q =>
  ha p c _ _ H σ _ n b.stB b.sl.hid _ _ (fun v x F2 O2 H2 n2 nn rx q1 => hb p c F2 O2 H2 σ _ n2 nn.s (b.sl.hid.mono nn.e) _ _ (fun w y F5 O5 H5 n5 n3 ry q2 => by
    obtain ⟨F3, O3, b3, e3⟩ := b.stepB (nn.trans n3)
    refine ⟨by show 0 ≤ sizeLine; exact Nat.zero_le _, fun d hd => ⟨v, w, .ref d, rfl, ?_⟩⟩
    have b4 := (b3.step (F2 := F3) (O2 := O3) (H2 := upd H5 d (.lst [])) (n2 := n5) ⟨Ex.refl _, .refl, b3.st.grow (Ex.new hd)⟩).set (i := i) (v := v) (x := x) (by rw [e3]; exact rx.mono n3.e)
    have b6 := b4.set (i := j) (v := w) (x := y) (Rep.mono (base_less fun a => own_set) (by rw [e3]; exact ry))
    exact eo.nx _ _ _ _ _ _ (b6.setOw none (ys := []) (b3.st.notF hd) (b3.st.notO hd) upd_same .nil) q2) q1) q
theorem xs_parOw {i j : Nat} {x y : Str} {px py pt : Pos} {kt k2 pt2} (hc : X.calm = true) (hN : X.N.Nodup) (hi : X.N[i]? = some x) (hj : X.N[j]? = some y) (hij : i ≠ j)
    (hx : X.env.scope.names.lookup x = some .local) (hy : X.env.scope.names.lookup y = some .local) (ha : XE K X a ta pa)
    (hw : swappedStores [.Tuple [.Name x px, .Name y py] kt pt] (.Tuple [a, .List [] p2] k2 pt2) X.env = pure (some [x, y]))
    (hs : swapsWithSole [.Tuple [.Name x px, .Name y py] kt pt] (.Tuple [a, .List [] p2] k2 pt2) pos.line X.env = pure false := by rfl) (hst : starEach [a, .List [] p2] X.env = (false, eval a X.env) :: starEach [.List [] p2] X.env := by rfl) :
    XS K E X (.Assign [.Tuple [.Name x px, .Name y py] kt pt] (.Tuple [a, .List [] p2] k2 pt2) pos) (tPar i j (tCons ta (tCons (tLst tNil) tNil))) (pParOw i j pa) := ⟨ps_par hc hN hi hj hij hx hy (pa_cons ha.d (pa_cons (pe_lst pa_nil) pa_nil) hst) hw hs, ss_parOw ha.s⟩
theorem xs_par3Ow {i j l : Nat} {x y z : Str} {px py pz pt : Pos} {kt k2 pt2} (hc : X.calm = true) (hN : X.N.Nodup) (hi : X.N[i]? = some x) (hj : X.N[j]? = some y) (hl : X.N[l]? = some z) (hij : i ≠ j) (hil : i ≠ l) (hjl : j ≠ l)
    (hx : X.env.scope.names.lookup x = some .local) (hy : X.env.scope.names.lookup y = some .local) (hz : X.env.scope.names.lookup z = some .local) (ha : XE K X a ta pa) (hb : XE K X b tb pb)
    (hw : swappedStores [.Tuple [.Name x px, .Name y py, .Name z pz] kt pt] (.Tuple [a, b, .List [] p2] k2 pt2) X.env = pure (some [x, y, z]))
    (hs : swapsWithSole [.Tuple [.Name x px, .Name y py, .Name z pz] kt pt] (.Tuple [a, b, .List [] p2] k2 pt2) pos.line X.env = pure false := by rfl) (hst : starEach [a, b, .List [] p2] X.env = (false, eval a X.env) :: starEach [b, .List [] p2] X.env := by rfl) (hst2 : starEach [b, .List [] p2] X.env = (false, eval b X.env) :: starEach [.List [] p2] X.env := by rfl) :
    XS K E X (.Assign [.Tuple [.Name x px, .Name y py, .Name z pz] kt pt] (.Tuple [a, b, .List [] p2] k2 pt2) pos) (tPar3 i j l (tCons ta (tCons tb (tCons (tLst tNil) tNil)))) (pPar3Ow i j l pa pb) := ⟨ps_par3 hc hN hi hj hl hij hil hjl hx hy hz (pa_cons ha.d (pa_cons hb.d (pa_cons (pe_lst pa_nil) pa_nil) hst2) hst) hw hs, ss_par3Ow ha.s hb.s⟩
/-! own lists made fast -/
def fast (i : Nat) (ρ : PR) : PR := match ρ[i]? with
  | some (.ow none xs) => ρ.set i (.fr (.lst xs))
  | _ => ρ
theorem B.fast {p c : Addr} {M0 O0 : Hp} {σ : L2.St} {H : Hp} {ρ : PR} {n : Int} {F O : Hp} (b : B K p c M0 O0 σ H ρ n F O) (i : Nat) : B K p c M0 O0 σ H (Pu.fast i ρ) n F O := by
  unfold Pu.fast
  split
  · rename_i xs hi
    obtain ⟨a, ys, h1, h2, h3⟩ := b.sl.ow i none xs hi
    have hil : i < ρ.length := (List.getElem?_eq_some_iff.mp hi).1
    have ow : ∀ {j : Nat} {k : OK} {zs : List PV}, (ρ.set i (.fr (.lst xs)))[j]? = some (.ow k zs) → i ≠ j ∧ ρ[j]? = some (.ow k zs) := fun {j k zs} h => by
      have hne : i ≠ j := fun z => by
        subst z
        rw [List.getElem?_set_self hil] at h
        cases h
      exact ⟨hne, by rw [List.getElem?_set_ne hne] at h; exact h⟩
    have hb : Ex (base (Own σ ρ) F) (base (Own σ (ρ.set i (.fr (.lst xs)))) F) := base_less fun q ⟨j, k, zs, g1, g2⟩ => ⟨j, k, zs, (ow g1).2, g2⟩
    have na : ¬ Own σ (ρ.set i (.fr (.lst xs))) a := fun ⟨j, k, zs, g1, g2⟩ => (ow g1).1 (b.inj i j none k xs zs a hi (ow g1).2 h1 g2)
    refine ⟨b.st, b.off, fun j l k1 k2 ys zs q g1 g2 => b.inj j l k1 k2 ys zs q (ow g1).2 (ow g2).2, b.mc, b.m0.trans hb, ⟨by rw [List.length_set]; exact b.sl.len, fun j x hx => ?_, fun j k zs hx => ?_⟩⟩
    · by_cases e : i = j
      · subst e
        rw [List.getElem?_set_self hil] at hx
        cases hx
        exact ⟨_, h1, .lst (by rw [base_n na]; exact h2) (h3.mono hb)⟩
      · rw [List.getElem?_set_ne e] at hx
        obtain ⟨v, q, r⟩ := b.sl.fr j x hx
        exact ⟨v, q, r.mono hb⟩
    · obtain ⟨v, ys, q, r, r2⟩ := b.sl.ow j k zs (ow hx).2
      exact ⟨v, ys, q, r, r2.mono hb⟩
  · exact b
def pFast (i : Nat) (ps : PTS) : PTS := fun D ρ n => ps { D with nx := fun ρ n => D.nx (fast i ρ) n } ρ n
theorem xs_fast (i : Nat) {st : Stmt} {ts : TS} {ps : PTS} (h : XS K E X st ts ps) : XS K E X st ts (pFast i ps) := ⟨h.d, fun p c M0 O0 D D' eo σ H ρ n F O b q =>
  h.s p c M0 O0 D { D' with nx := fun ρ n => D'.nx (fast i ρ) n } ⟨fun σ H ρ n F O b q => eo.nx _ _ _ _ _ _ (b.fast i) q, eo.rt, eo.bk, eo.ct, eo.ex⟩ σ H ρ n F O b q⟩
end
end Pu

set_option Elab.async false
set_option linter.all false
set_option maxRecDepth 100000
set_option maxHeartbeats 2000000
/-! U17: x, y = xs.pop() of an own list; sorted by the first item; defs that make lambdas -/
namespace Pu
open PySem PySem.Spec PyProof.Rows L2 Evl
theorem put_base {σ : L2.St} {ρ : PR} {F : Hp} {i : Nat} {a : Addr} {k0 : OK} (k : OK) {xs0 xs : List PV} {ys : List V} (h : ρ[i]? = some (.ow k0 xs0)) (ha : σ[i]? = some (some (.ref a))) : base (Own σ (ρ.set i (.ow k xs))) (upd F a (hoO k ys)) = base (Own σ ρ) F := by
  have hil : i < ρ.length := (List.getElem?_eq_some_iff.mp h).1
  have oa : Own σ ρ a := ⟨i, k0, xs0, h, ha⟩
  have look : ∀ {j : Nat} {s : PS}, j ≠ i → ((ρ.set i (.ow k xs))[j]? = some s ↔ ρ[j]? = some s) := fun {j s} hj => by rw [List.getElem?_set_ne (Ne.symm hj)]
  have self : (ρ.set i (.ow k xs))[i]? = some (.ow k xs) := by rw [List.getElem?_set_self hil]
  have ho : ∀ q, Own σ (ρ.set i (.ow k xs)) q ↔ Own σ ρ q := fun q => by
    constructor
    · rintro ⟨j, kz, zs, h1, h2⟩
      by_cases e : j = i
      · subst e; exact ⟨j, k0, xs0, h, h2⟩
      · exact ⟨j, kz, zs, (look e).mp h1, h2⟩
    · rintro ⟨j, kz, zs, h1, h2⟩
      by_cases e : j = i
      · subst e; exact ⟨j, k, xs, self, h2⟩
      · exact ⟨j, kz, zs, (look e).mpr h1, h2⟩
  funext q
  by_cases w : Own σ ρ q
  · rw [base_y w, base_y ((ho q).mpr w)]
  · rw [base_n w, base_n fun z => w ((ho q).mp z), upd_ne (show q ≠ a from fun z => w (by rw [z]; exact oa))]
section
variable {K : PySem.W.Frag} {E : L2.XK} {X : Cx} {g : TG} {pg : PTG} {vs : List Nat} {te : TE} {pe : PTE} {p : Addr} {F : Hp}
theorem RepL.snoc_inv {x : PV} : ∀ {ys : List V} {xs : List PV}, RepL K p F ys (xs ++ [x]) → ∃ ys0 v, ys = ys0 ++ [v] ∧ RepL K p F ys0 xs ∧ Rep K p F v x
  | ys, [], h => by
    obtain ⟨v, ws, rfl, r1, r2⟩ := h.cons_inv
    cases r2
    exact ⟨[], v, rfl, .nil, r1⟩
  | ys, a :: xs, h => by
    obtain ⟨v, ws, rfl, r1, r2⟩ := h.cons_inv
    obtain ⟨ys0, u, rfl, h1, h2⟩ := RepL.snoc_inv (xs := xs) r2
    exact ⟨v :: ys0, u, rfl, .cons r1 h1, h2⟩
def pPopAsg (i : Nat) (pg : PTG) : PTS := fun D ρ n => ∃ xs x, ρ[i]? = some (.ow none (xs ++ [x])) ∧ pg x (ρ.set i (.ow none xs)) fun ρ2 => D.nx ρ2 n
theorem ss_popAsg {i : Nat} (hg : SG K g pg vs) : SS K E (tAsg (tBM0 K "list" rPop (tVar i)) g) (pPopAsg i pg) := fun p c M0 O0 D D' eo σ H ρ n F O b ⟨xs, x, hx, q⟩ => by
  obtain ⟨a, ys, h1, h2, h3⟩ := b.sl.ow i _ (xs ++ [x]) hx
  obtain ⟨ys0, v, rfl, r0, rv⟩ := RepL.snoc_inv h3
  have hH := b.st.f _ _ h2
  refine ⟨.ref a, h1, Or.inl ⟨rfl, _, sq_of hH⟩, a, ys0 ++ [v], v, rfl, rfl, hH, by simp, ?_⟩
  rw [List.dropLast_concat]
  refine hg p c M0 O0 σ _ (ρ.set i (.ow none xs)) n (upd F a (hoO none ys0)) O v x (b.put none hx h1 r0) ?_ _ _ (fun σ2 ρ2 b2 _ _ q2 => eo.nx _ _ _ _ _ _ b2 q2) q
  rw [put_base none hx h1]
  exact rv
theorem xs_popAsg (i : Nat) {x : Str} {tg : Expr} {p2 apos cpos pos : Pos} (hg : XG K X tg g pg vs) (hK : X.K = K := by rfl) (hN : X.N[i]? = some x := by rfl) (hv : Vis X.env.scope x := by first | exact Or.inl rfl | exact Or.inr (Or.inl rfl) | exact Or.inr (Or.inr rfl)) (hd : (x == ("__debug__" : Str)) = false := by decide) (hcd : (x == ("__classdict__" : Str)) = false := by decide)
    (hbase : attributeBase (.Name x p2) "pop" X.env (eval (.Name x p2) X.env) = eval (.Name x p2) X.env := by rfl) (hline : (apos.endLine == cpos.line) = true := by rfl)
    (hs : swapsWithSole [tg] (.Call (.Attribute (.Name x p2) "pop" apos) [] [] cpos) pos.line X.env = pure false := by rfl) (hw : swappedStores [tg] (.Call (.Attribute (.Name x p2) "pop" apos) [] [] cpos) X.env = pure none := by rfl)
    (h1 : (assignEach [tg] X.env).map (·.2) = [assign tg X.env] := by rfl) : XS K E X (.Assign [tg] (.Call (.Attribute (.Name x p2) "pop" apos) [] [] cpos) pos) (tAsg (tBM0 K "list" rPop (tVar i)) g) (pPopAsg i pg) :=
  ⟨by subst hK; exact ps_asg (pe_bm0 PySem.F.plainAttrs_list PySem.F.slot_list_pop PySem.F.type_list_pop mt_pop (pv i hN hv hd hcd) hbase hline) hg.d hs hw h1, ss_popAsg hg.s⟩
/-! x, y = [], a constant -/
def pParOwC (i j : Nat) (x : PV) : PTS := fun D ρ n => D.nx ((ρ.set i (.ow none [])).set j (.fr x)) n
theorem ss_parOwC {i j : Nat} {v : V} {x : PV} (h : ∀ p F, Rep K p F v x) : SS K E (tPar i j (tCons (tLst tNil) (tCons (tC v) tNil))) (pParOwC i j x) := fun p c M0 O0 D D' eo σ H ρ n F O b q => by
  refine ⟨by show 0 ≤ sizeLine; exact Nat.zero_le _, fun d hd => ⟨.ref d, v, rfl, ?_⟩⟩
  have b3 := b.step (F2 := F) (O2 := O) (H2 := upd H d (.lst [])) (n2 := n) ⟨Ex.refl _, .refl, b.st.grow (Ex.new hd)⟩
  have b4 := b3.setOw (i := i) none (ys := []) (b.st.notF hd) (b.st.notO hd) upd_same .nil
  exact eo.nx _ _ _ _ _ _ (b4.set (i := j) (v := v) (x := x) (h _ _)) q
theorem xs_parOwF {i j : Nat} {x y : Str} {e : Expr} {v : V} {u : PV} {px py pt pos p2 : Pos} {kt k2 pt2} (hc : X.calm = true) (hN : X.N.Nodup) (hi : X.N[i]? = some x) (hj : X.N[j]? = some y) (hij : i ≠ j)
    (hx : X.env.scope.names.lookup x = some .local) (hy : X.env.scope.names.lookup y = some .local) (ha : XE K X e (tC v) (pC u))
    (hw : swappedStores [.Tuple [.Name x px, .Name y py] kt pt] (.Tuple [.List [] p2, e] k2 pt2) X.env = pure (some [x, y])) (hr : ∀ p F, Rep K p F v u := by intro _ _; constructor)
    (hs : swapsWithSole [.Tuple [.Name x px, .Name y py] kt pt] (.Tuple [.List [] p2, e] k2 pt2) pos.line X.env = pure false := by rfl) (hst : starEach [.List [] p2, e] X.env = (false, eval (.List [] p2) X.env) :: starEach [e] X.env := by rfl) (hst2 : starEach [e] X.env = (false, eval e X.env) :: starEach [] X.env := by rfl) :
    XS K E X (.Assign [.Tuple [.Name x px, .Name y py] kt pt] (.Tuple [.List [] p2, e] k2 pt2) pos) (tPar i j (tCons (tLst tNil) (tCons (tC v) tNil))) (pParOwC i j u) := ⟨ps_par hc hN hi hj hij hx hy (pa_cons (pe_lst pa_nil) (pa_cons ha.d pa_nil hst2) hst) hw hs, ss_parOwC hr⟩
/-! ### sorted by the first item -/
def pItem (q : Int × List PV) : PV := .tup (.int q.1 :: q.2)
def pSortK (pe : PTE) : PTE := fun ρ n Q => pe ρ n fun x n1 => ∃ L : List (Int × List PV), x = .lst (L.map pItem) ∧ L.length ≤ 100000 ∧ Q (.lst ((L.mergeSort fun a b => decide (a.1 ≤ b.1)).map pItem)) n1
theorem repL_zip {L : List (Int × List PV)} : ∀ {ys : List V} {L : List (Int × List PV)}, RepL K p F ys (L.map pItem) → ∃ Z : List (V × (Int × List PV)), ys = Z.map (·.1) ∧ L = Z.map (·.2) ∧ ∀ z ∈ Z, Rep K p F z.1 (pItem z.2)
  | ys, [], h => by rw [h.nil_inv]; exact ⟨[], rfl, rfl, fun z hz => nomatch hz⟩
  | ys, q :: L, h => by
    obtain ⟨v, ws, rfl, r1, r2⟩ := h.cons_inv
    obtain ⟨Z, h1, h2, h3⟩ := repL_zip (L := L) r2
    refine ⟨(v, q) :: Z, by rw [h1]; rfl, by rw [List.map_cons, ← h2], fun z hz => ?_⟩
    rcases List.mem_cons.mp hz with e | e
    · rw [e]; exact r1
    · exact h3 z e
theorem repL_of {α : Type} {f : α → V} {g : α → PV} : ∀ {Z : List α}, (∀ z ∈ Z, Rep K p F (f z) (g z)) → RepL K p F (Z.map f) (Z.map g)
  | [], _ => .nil
  | z :: Z, h => .cons (h z List.mem_cons_self) (repL_of fun y hy => h y (List.mem_cons_of_mem _ hy))
theorem sort_map {α β : Type} {f : α → β} {r : β → β → Bool} (L : List α) : (L.map f).mergeSort r = (L.mergeSort fun a b => r (f a) (f b)).map f := by
  rw [List.map_mergeSort (s := r)]
  intro a _ b _
  rfl
theorem se_sortK (h : SE K te pe) : SE K (Kl.tSortK K (tabsOf K) te) (pSortK pe) := fun p c F O H σ ρ n s sl Q Q' k q =>
  h p c F O H σ ρ n s sl _ _ (fun v x F2 O2 H2 n2 nn rx ⟨L, e, hl, q1⟩ => by
    subst e
    obtain ⟨a, ys, rfl, h1, h2⟩ := rx.getL
    obtain ⟨Z, rfl, rfl, hZ⟩ := repL_zip (L := []) h2
    have tabs : LamX.Tabs (tabsOf K) H2 := fun t ht => by
      obtain ⟨ps, a1, a2, a3⟩ := nn.s.tabs.all t ht
      refine ⟨ps, nn.s.o _ _ a1, a2, fun pos cv hcv => ?_⟩
      obtain ⟨cc, e1, e2⟩ := a3 pos cv hcv
      exact ⟨cc, e1, nn.s.f _ _ e2⟩
    refine ⟨tabs, a, Z.map (·.1), Z.map (·.2.1), rfl, sq_of (nn.s.f _ _ h1), by simpa using hl, ⟨by simp, fun i x k hx hk => ?_⟩, fun H3 l eN tH hl3 => ?_⟩
    · rw [List.getElem?_map] at hx hk
      obtain ⟨z, hz, rfl⟩ := Option.map_eq_some_iff.mp hx
      rw [hz] at hk
      cases hk
      obtain ⟨t, us, e1, e2, e3⟩ := (hZ z (List.mem_of_getElem? hz)).getT
      obtain ⟨u, ws, rfl, r1, r2⟩ := e3.cons_inv
      rw [r1.getI] at e2
      exact ⟨t, ws, e1, st_of (nn.s.f _ _ e2)⟩
    · obtain ⟨⟨O3, n3⟩, hard⟩ := nn.s.bigN eN tH
      have hsrt : Kl.sortedV (Z.map (·.1)) (Z.map (·.2.1)) = ((Z.mergeSort fun a b => decide (a.2.1 ≤ b.2.1)).map (·.1)) := by
        unfold Kl.sortedV
        have e0 : (Z.map (·.1)).zip (Z.map (·.2.1)) = Z.map fun z => (z.1, z.2.1) := by rw [List.zip_map']
        rw [e0, sort_map, List.map_map]
        rfl
      rw [sort_map] at q1
      rw [hsrt]
      refine k _ _ _ _ _ _ ((nn.trans n3).trans (.new n3.s hl3)) (.lst upd_same ?_) q1
      rw [List.map_map]
      refine RepL.mono (Ex.new (n3.s.notF hl3)) (RepL.mono n3.e (repL_of fun z hz => ?_))
      exact hZ z ((List.mergeSort_perm _ _).mem_iff.mp hz)) q
theorem xe_sortLam {d : He.Defn} {qn : Str} {e : Expr} {params : Arguments} {scope : Scope} {x : Str} {p p1 p2 p3 lpos kpos pos : Pos} {j : Nat} (hg : Gl X "sorted") (hm : X.mg "sorted" = none) (ha : XE K X e te pe) (TB : LamX.TabB X.base X.mg (He.cT K d).1 (He.cT K d).2) (hcode : X.env.code = .ref (He.cT K d).1)
    (hq : X.env.qual ++ "<lambda>" = qn) (hmT : ((He.cT K d).2, qn) ∈ tabsOf K) (hu : ∀ t ∈ tabsOf K, t.1 = (He.cT K d).2 → t.2 = qn) (hr : Room 0 X.A) (hK : X.K = K := by rfl)
    (hdef : defaultsOf params X.env = ([], []) := by rfl) (hclo : cloFrom X.env.cells scope.names [] = [] := by rfl) (hfree : ∀ y ∈ scope.names, y.2 ≠ .free := by decide +kernel)
    (hbind : ∀ (q : Str) (pm cv ctv v : Value), bindArgs (PySem.W.kla_fn "<lambda>" q params (.Subscript (.Name x p1) (.Constant (.int 0) j p2) p3) scope [] pm cv ctv) ⟨[v], []⟩ = pure [(x, v)] := by intro _ _ _ _ _; rfl)
    (hl : scope.names.lookup x = some .local := by rfl) (hcell : ∀ y ∈ scope.names, y.2 ≠ .cell := by decide +kernel) (hk : scope.kind = .function := by rfl) (hco : scope.isCoroutine = false := by rfl) (hgen : scope.isGenerator = false := by rfl) (hd : (x == ("__debug__" : Str)) = false := by decide)
    (hst : starEach [e] X.env = (false, eval e X.env) :: starEach [] X.env := by rfl) (he : backTo pos (starEach [e] X.env) = (false, eval e X.env) :: backTo pos (starEach [] X.env) := by rfl) (hpl : (backTo pos (starEach [e] X.env)).any (·.1) = false := by rfl) :
    XE K X (.Call (.Name "sorted" p) [e] [⟨some "key", .Lambda params (.Subscript (.Name x p1) (.Constant (.int 0) j p2) p3) scope lpos, kpos⟩] pos) (Kl.tSortK K (tabsOf K) te) (pSortK pe) :=
  ⟨by subst hK; subst hq; exact Kl.pe_sortLam hg hm ha.d TB hcode hmT hu hr hdef hclo hfree hbind hl hcell hk hco hgen hd hst he hpl, se_sortK ha.s⟩
end
/-- two promises of a def -/
theorem okOr {P : Program} {w0 : World} {K : PySem.W.Frag} {mg : Str → Option Value} {base0 : Heap} {CX : CXT} {k : Nat} {f : Addr} {fd : FuncData} {ps : List Str} {w1 w2 : PSp} (a : FnOk P w0 K mg base0 CX k f fd ps (lift K w1)) (b : FnOk P w0 K mg base0 CX k f fd ps (lift K w2)) : FnOk P w0 K mg base0 CX k f fd ps (lift K fun xs n Q => w1 xs n Q ∨ w2 xs n Q) := by
  have key : ∀ vs H Q E, lift K (fun xs n Q => w1 xs n Q ∨ w2 xs n Q) vs H Q E → lift K w1 vs H Q E ∨ lift K w2 vs H Q E := fun vs H Q E ⟨p, c, F, O, n, xs, Q', s, r, h, k⟩ => by
    rcases h with h | h
    · exact Or.inl ⟨p, c, F, O, n, xs, Q', s, r, h, k⟩
    · exact Or.inr ⟨p, c, F, O, n, xs, Q', s, r, h, k⟩
  refine ⟨fun vs H Q E h => ?_, fun A outer s H args us vs Q E hr e0 hb r h => ?_⟩
  · rcases key _ _ _ _ h with h | h
    · exact a.len _ _ _ _ h
    · exact b.len _ _ _ _ h
  · rcases key _ _ _ _ h with h | h
    · exact a.run A outer s H args us vs Q E hr e0 hb r h
    · exact b.run A outer s H args us vs Q E hr e0 hb r h
/-- a def that makes lambdas: its code object is known -/
theorem okXT {P : Program} {w0 : World} {K : PySem.W.Frag} {mg : Str → Option Value} {base0 : Heap} {x qual : Str} {params : Arguments} {body : List Stmt} {scope : Scope} {dvs : List V} {kws : List (Str × V)} {f : Addr} {fd : FuncData} {N ps : List Str} {k : Nat} {w : PSp} {d : He.Defn}
    (F : FunD K x qual params body scope dvs kws f fd) (hf : f = He.fAd K d) (S : FnScope N ps scope) (len : ∀ xs n Q, w xs n Q → xs.length = ps.length)
    (hbody : ∀ (cdv : Value) (A : Around) (outer : List Env) (s : Shared) (H : Hp) (E : L2.XK), cdv = .ref (He.cT K d).1 → Room k (A.deeper (envOfC qual scope s.heap.objs.size f cdv)) →
      ∃ ts pt, XSs K (fun _ _ _ => False) (cxOf CX0 P w0 K mg base0 N qual scope f cdv A outer s H E).nox body ts pt ∧ ∀ xs n Q', w xs n Q' → pt { nx := fun _ n => Q' .non n, rt := Q' } (startP N xs) n) : FnOk P w0 K mg base0 CX0 (k + 1) f fd ps (lift K w) := by
  obtain ⟨oc, od, dV, kV, doc, pm, an, cdv, ct, osl, rfl, lk, hcd, h1, h2⟩ := F.ex
  have hc : cdv = .ref (He.cT K d).1 := by
    obtain ⟨c, rfl⟩ := He.codeIn_ref hcd
    have := He.codeOf_eq (p := d) (by rw [← hf]; exact lk) rfl
    show Value.ref c = .ref (He.codeOf K d)
    rw [this]
  refine fn_of lk hcd S (fun vs H Q E h => ?_) (fun A outer s H vs Q E hr h => ?_)
  · obtain ⟨p, c, F0, O, n, xs, Q', s, r, hw, _⟩ := h
    rw [r.len]
    exact len _ _ _ hw
  · obtain ⟨p, c, F0, O, n, xs, Q', st, r, hw, k⟩ := h
    obtain ⟨ts, pt, dd, hp⟩ := hbody cdv A outer s H E hc hr
    refine ⟨ts, PSs.nox dd.d, ?_⟩
    refine dd.s p c F0 O _ { nx := fun _ n => Q' .non n, rt := Q' } ⟨fun σ H ρ n F O2 b q => ?_, fun v x F2 O2 H2 n2 e o s r q => ?_, fun _ _ _ _ _ _ _ h => h.elim, fun _ _ _ _ _ _ _ h => h.elim, fun _ _ _ _ _ _ _ _ _ _ _ _ _ h => h.elim⟩ _ H _ n F0 O (start_b st r) (hp xs n Q' hw)
    · exact k _ _ _ _ _ _ q ⟨b.m0.trans base_sub, b.off, b.st⟩ .non
    · exact k _ _ _ _ _ _ q ⟨e, o, s⟩ r
end Pu

set_option Elab.async false
set_option linter.all false
set_option maxRecDepth 100000
set_option maxHeartbeats 2000000
/-! U18: list(range(a, b)); isinstance of a built-in class -/
namespace Pu
open PySem PySem.Spec PyProof.Rows L2 Evl
section
variable {K : PySem.W.Frag} {X : Cx} {a b : Expr} {ta tb : TE} {pa pb : PTE}
def pListR2 (pa pb : PTE) : PTE := fun ρ n Q => pa ρ n fun x n1 => pb ρ n1 fun y n2 => ∃ i j : Int, x = .int i ∧ y = .int j ∧ -1000000 ≤ i ∧ i ≤ 1000000 ∧ -1000000 ≤ j ∧ j ≤ 1000000 ∧ Q (.lst (rng i (j - i).toNat)) n2
theorem repL_rng {p : Addr} {F : Hp} {i j : Int} : RepL K p F (rgV i j) (rng i (j - i).toNat) := by
  unfold rgV rng
  exact repL_of fun z _ => .int _
theorem xe_listR2 {p p2 pos pos2 : Pos} (hc : X.calm = true) (hg : Gl X "list") (hm : X.mg "list" = none) (hg2 : Gl X "range") (hm2 : X.mg "range" = none) (ha : XE K X a ta pa) (hb : XE K X b tb pb)
    (na : starEach [a, b] X.env = (false, eval a X.env) :: starEach [b] X.env := by rfl) (nb : starEach [b] X.env = (false, eval b X.env) :: starEach [] X.env := by rfl) (hp : (backTo pos2 (starEach [b] X.env)).any (·.1) = false := by rfl)
    (nn : starEach [.Call (.Name "range" p2) [a, b] [] pos2] X.env = (false, eval (.Call (.Name "range" p2) [a, b] [] pos2) X.env) :: starEach [] X.env := by rfl) :
    XE K X (.Call (.Name "list" p) [.Call (.Name "range" p2) [a, b] [] pos2] [] pos) (tLstRg (tRg2 ta tb)) (pListR2 pa pb) :=
  ⟨pe_listRg hc hg hm (prg_2 hg2 hm2 ha.d hb.d na nb hp) nn, fun p c F O H σ ρ n s sl Q Q' k q =>
    ha.s p c F O H σ ρ n s sl _ _ (fun v x F2 O2 H2 n2 n1 rx q1 => hb.s p c F2 O2 H2 σ ρ n2 n1.s (sl.mono n1.e) _ _ (fun w y F3 O3 H3 n3 nn ry ⟨i, j, e1, e2, h1, h2, h3, h4, q2⟩ => by
      subst e1 e2
      rw [rx.getI, ry.getI]
      refine ⟨i, j, rfl, rfl, ⟨by omega, by omega, by omega, by omega, by omega⟩, fun l hl => ?_⟩
      exact k _ _ _ _ _ _ ((n1.trans nn).trans (.new nn.s hl)) (.lst upd_same repL_rng) q2) q1) q⟩
def tyN : PV → Option String
  | .non => some "NoneType"
  | .bl _ => some "bool"
  | .int _ => some "int"
  | .str _ => some "str"
  | .lst _ => some "list"
  | .tup _ => some "tuple"
  | _ => none
def pIsi : PRL := fun xs Q => ∃ (x : PV) (T t : String) (b : Bool), xs = [x, .raw (.ty T)] ∧ tyN x = some t ∧ (∀ K : PySem.W.Frag, PySem.W.kitOne K (.type t) (.type T) = some b) ∧ Q (.bl b)
theorem xcall_isi (h : X.K = K := by rfl) : XC K X (.builtin "isinstance") (rIsi K) pIsi := ⟨by subst h; exact call_isi, fun p c F O H n s xs vs rx Q Q' k ⟨x, T, t, b, e, ht, hk, q⟩ => by
  subst e
  obtain ⟨v, ws, rfl, r, r2⟩ := rx.cons_inv
  obtain ⟨v2, ws2, rfl, r3, r4⟩ := r2.cons_inv
  cases r4
  cases r3
  refine ⟨v, _, .type t, .type T, b, rfl, .ty T, ?_, hk K, k _ _ F H (.refl s) (.bl _) q⟩
  cases r with
  | non => cases ht; exact .base .non
  | bl b => cases ht; exact .base (.bl b)
  | int b => cases ht; exact .base (.int b)
  | str b => cases ht; exact .base (.str b)
  | tup h1 h2 => cases ht; exact .base (.tup (s.f _ _ h1))
  | lst h1 h2 => cases ht; exact .base (.lst (s.f _ _ h1))
  | _ => cases ht⟩
/-! a call that may raise behind an if -/
def pIfR (pt : PTT) (pa : PTE) (pb : PTER) : PTER := fun ρ n Q E => pt ρ n fun k n2 => if k = true then pa ρ n2 Q else pb ρ n2 Q E
theorem ser_if {E : L2.XK} {tt : TT} {pt : PTT} {pbr : PTER} (ht : SEB K tt pt) (ha : SE K ta pa) (hb : SER K E tb pbr) : SER K E (tIf tt ta tb) (pIfR pt pa pbr) := fun p c F O H σ ρ n s sl Q Q' E' k kE q =>
  ht p c F O H σ ρ n s sl _ _ (fun b F2 O2 H2 n2 n1 q1 => by
    cases b with
    | true => exact ha p c F2 O2 H2 σ ρ n2 n1.s (sl.mono n1.e) Q Q' (fun v x F3 O3 H3 n3 nn => k v x F3 O3 H3 n3 (n1.trans nn)) q1
    | false => exact hb p c F2 O2 H2 σ ρ n2 n1.s (sl.mono n1.e) Q Q' E' (fun v x F3 O3 H3 n3 nn => k v x F3 O3 H3 n3 (n1.trans nn)) (fun C d vs fs F3 O3 H3 n3 nn => kE C d vs fs F3 O3 H3 n3 (n1.trans nn)) q1) q
theorem xr_ifExp {E : L2.XK} {c : Expr} {tt : TT} {pt : PTT} {pbr : PTER} {pos : Pos} (hc : XT K X c tt pt) (ha : XE K X a ta pa) (hb : XER K E X b tb pbr) : XER K E X (.IfExp c a b pos) (tIf tt ta tb) (pIfR pt pa pbr) := ⟨pe_ifExp hc.d ha.d hb.d, ser_if hc.s ha.s hb.s⟩
end
end Pu

set_option Elab.async false
set_option linter.all false
set_option maxRecDepth 100000
set_option maxHeartbeats 2000000
/-! U19: x, y = [a list], a constant; sorted(pairs of ints) -/
namespace Pu
open PySem PySem.Spec PyProof.Rows L2 Evl
section
variable {K : PySem.W.Frag} {E : L2.XK} {X : Cx} {ta : TA} {pa : PTA}
def pStrOf : PRL := fun xs Q => ∃ i : Int, xs = [.int i] ∧ i.natAbs.log2 < 1920 ∧ Q (.str (toString i))
def pCatS : PR2 := fun x y Q => ∃ i j, x = .str i ∧ y = .str j ∧ i.length + j.length ≤ 100000 ∧ Q (.str (i ++ j))
/-- told(lambda: e): what e tells, or what the handler makes of the fields of the error C -/
def pTold (C : Addr) (per : PTER) (ph : PTH) : PTE := fun ρ n Q => per ρ n Q fun C' fs n2 => C' = C ∧ ph fs fun x => Q x n2
def pParOwE (i j : Nat) (pa : PTA) (x : PV) : PTS := fun D ρ n => pa (hide ρ) n fun xs n2 => xs.length ≤ 100000 ∧ D.nx ((ρ.set i (.ow none xs)).set j (.fr x)) n2
theorem ss_parOwE {i j : Nat} {v : V} {x : PV} (ha : SA K ta pa) (h : ∀ p F, Rep K p F v x) : SS K E (tPar i j (tCons (tLst ta) (tCons (tC v) tNil))) (pParOwE i j pa x) := fun p c M0 O0 D D' eo σ H ρ n F O b q =>
  ha p c _ _ H σ _ n b.stB b.sl.hid _ _ (fun vs x F2 O2 H2 n2 nn rx ⟨hl, q1⟩ => by
    obtain ⟨F3, O3, b3, e3⟩ := b.stepB nn
    refine ⟨by rw [rx.len]; exact sz_of hl, fun a ha => ⟨.ref a, v, rfl, ?_⟩⟩
    have b4 := b3.step (F2 := F3) (O2 := O3) (H2 := upd H2 a (.lst vs)) (n2 := n2) ⟨Ex.refl _, .refl, b3.st.grow (Ex.new ha)⟩
    have b5 := b4.setOw (i := i) none (b3.st.notF ha) (b3.st.notO ha) upd_same (by rw [e3]; exact rx)
    exact eo.nx _ _ _ _ _ _ (b5.set (i := j) (v := v) (h _ _)) q1) q
theorem xs_parOwE {i j : Nat} {x y : Str} {es : List Expr} {e : Expr} {v : V} {u : PV} {px py pt pos p2 : Pos} {kt k2 pt2} (hc : X.calm = true) (hN : X.N.Nodup) (hi : X.N[i]? = some x) (hj : X.N[j]? = some y) (hij : i ≠ j)
    (hx : X.env.scope.names.lookup x = some .local) (hy : X.env.scope.names.lookup y = some .local) (hes : XA K X es ta pa) (ha : XE K X e (tC v) (pC u))
    (hw : swappedStores [.Tuple [.Name x px, .Name y py] kt pt] (.Tuple [.List es p2, e] k2 pt2) X.env = pure (some [x, y])) (hr : ∀ p F, Rep K p F v u := by intro _ _; constructor)
    (hs : swapsWithSole [.Tuple [.Name x px, .Name y py] kt pt] (.Tuple [.List es p2, e] k2 pt2) pos.line X.env = pure false := by rfl) (hst : starEach [.List es p2, e] X.env = (false, eval (.List es p2) X.env) :: starEach [e] X.env := by rfl) (hst2 : starEach [e] X.env = (false, eval e X.env) :: starEach [] X.env := by rfl) :
    XS K E X (.Assign [.Tuple [.Name x px, .Name y py] kt pt] (.Tuple [.List es p2, e] k2 pt2) pos) (tPar i j (tCons (tLst ta) (tCons (tC v) tNil))) (pParOwE i j pa u) := ⟨ps_par hc hN hi hj hij hx hy (pa_cons (pe_lst hes.d) (pa_cons ha.d pa_nil hst2) hst) hw hs, ss_parOwE hes.s hr⟩
/-! sorted(pairs) -/
def kPP (H : Hp) : V → Int × Int
  | .ref t => match H t with
    | some (.tup [.int a, .int b]) => (a, b)
    | _ => (0, 0)
  | _ => (0, 0)
theorem rep_II {p : Addr} {F : Hp} {v : V} {x : Int × Int} (h : Rep K p F v (pII x)) : ∃ t, v = .ref t ∧ F t = some (.tup [.int x.1, .int x.2]) := by
  obtain ⟨t, us, e1, e2, e3⟩ := h.getT
  obtain ⟨u, ws, rfl, r1, r2⟩ := e3.cons_inv
  obtain ⟨u2, ws2, rfl, r3, r4⟩ := r2.cons_inv
  rw [r1.getI, r3.getI, r4.nil_inv] at e2
  exact ⟨t, e1, e2⟩
theorem II_rep {p : Addr} {F : Hp} {t : Addr} {x : Int × Int} (h : F t = some (.tup [.int x.1, .int x.2])) : Rep K p F (.ref t) (pII x) := .tup h (.cons (.int _) (.cons (.int _) .nil))
theorem kPP_of {F : Hp} {t : Addr} {x : Int × Int} (h : F t = some (.tup [.int x.1, .int x.2])) : kPP F (.ref t) = x := by
  show (match F t with
    | some (.tup [.int a, .int b]) => (a, b)
    | _ => (0, 0)) = x
  rw [h]
theorem repL_II {p : Addr} {F : Hp} : ∀ {ys : List V} {L : List (Int × Int)}, RepL K p F ys (L.map pII) → ys.map (kPP F) = L ∧ ∀ y ∈ ys, ∃ t, y = .ref t ∧ F t = some (.tup [.int (kPP F y).1, .int (kPP F y).2])
  | ys, [], h => by rw [h.nil_inv]; exact ⟨rfl, fun y hy => nomatch hy⟩
  | ys, x :: L, h => by
    obtain ⟨v, ws, rfl, r1, r2⟩ := h.cons_inv
    obtain ⟨h1, h2⟩ := repL_II (L := L) r2
    obtain ⟨t, rfl, ht⟩ := rep_II r1
    have e := kPP_of ht
    refine ⟨by rw [List.map_cons, e, h1], fun y hy => ?_⟩
    rcases List.mem_cons.mp hy with rfl | hy
    · rw [e]; exact ⟨t, rfl, ht⟩
    · exact h2 y hy
def pSortII : PRL := fun xs Q => ∃ L : List (Int × Int), xs = [.lst (L.map pII)] ∧ ∀ L' : List (Int × Int), L'.Perm L → L'.Pairwise (fun x y => x.1 ≤ y.1) → Q (.lst (L'.map pII))
theorem xcall_sortedII (h : X.K = K := by rfl) : XC K X (.builtin "sorted") (rSortedPO K) pSortII := ⟨by subst h; exact cr_sortedPO, fun p c F O H n s xs vs rx Q Q' k ⟨L, e, q⟩ => by
  subst e
  obtain ⟨v, ws, rfl, r, r2⟩ := rx.cons_inv
  cases r2
  obtain ⟨a, ys, rfl, h1, h2⟩ := r.getL
  obtain ⟨e1, e2⟩ := repL_II h2
  refine ⟨a, ys, kPP F, rfl, sq_of (s.f _ _ h1), fun x hx => ?_, fun ys' d hs hst hd => ?_⟩
  · obtain ⟨t, e, ht⟩ := e2 x hx
    exact ⟨t, e, s.f _ _ ht⟩
  · refine k (.ref d) (.lst ((ys'.map (kPP F)).map pII)) _ _ (.new s hd) (.lst upd_same ?_) (q (ys'.map (kPP F)) ?_ ?_)
    · refine RepL.mono (Ex.new (s.notF hd)) ?_
      rw [List.map_map]
      have : ∀ zs : List V, (∀ z ∈ zs, z ∈ ys) → RepL K p F zs (zs.map (pII ∘ kPP F)) := fun zs => by
        induction zs with
        | nil => intro _; exact .nil
        | cons z zs ih =>
          intro hz
          refine .cons ?_ (ih fun y hy => hz y (List.mem_cons_of_mem _ hy))
          obtain ⟨t, e, ht⟩ := e2 z (hz z List.mem_cons_self)
          show Rep K p F z (pII (kPP F z))
          rw [e] at ht ⊢
          exact II_rep ht
      exact this ys' fun y hy => hst.perm.mem_iff.mp hy
    · rw [← e1]
      exact hst.perm.map _
    · rw [List.pairwise_map]
      refine List.Pairwise.imp (fun {x y} h => ?_) hs
      have := SrtO.lexB_no.mp h
      omega⟩
end
end Pu

set_option Elab.async false
set_option linter.all false
set_option maxRecDepth 100000
set_option maxHeartbeats 4000000
/-! U21: told(lambda: body), where told is: try: y = ask() / except C as e: return h / and then return y -/
namespace Pu
open PySem PySem.Spec PyProof.Rows L2 Evl
/-- what the def that asks makes of the body's reading -/
def TT2 (K : PySem.W.Frag) (C : Addr) (N i : Nat) (te : Addr → Value → Option Addr → TE) : (L2.XK → Hp → VK → Prop) → Hp → VK → Prop := fun tl H Q =>
  tl (fun cls d H' => ∃ b, PySem.W.exmOne K cls (.ref C) = some b ∧ (b = true → ∀ a, H' a = none → ∀ σ' : L2.St, σ'.length = N → te a cls d (σ'.set i (some (.ref a))) H' Q) ∧ (b = false → False)) H Q
theorem told2_gives {X : Cx} {Ng : List Str} {x a y e nE q : Str} {sg : Scope} {g C : Addr} {cdg : Value} {i j : Nat} {eh : Expr} {te : Addr → Value → Option Addr → TE} {p1 p2 p3 p4 p5 p6 p7 p8 p9 pa : Pos}
    (hNd : Ng.Nodup) (h0 : ∀ f : Addr, (L2.start Ng [V.ref f])[0]? = some (some (V.ref f))) (hi : Ng[i]? = some nE) (hj : Ng[j]? = some y) (hln : sg.names.lookup nE = some .local) (hy : sg.names.lookup y = some .local) (hge : sg.names.lookup e = some .globalImplicit) (hme : X.mg e = some (.ref C)) (hde : (e == ("__debug__" : Str)) = false)
    (hyd : (y == ("__debug__" : Str)) = false) (hyc : (y == ("__classdict__" : Str)) = false)
    (hsw : ∀ s H, swapsWith (.Call (.Name a p1) [] [] p2) (some (.Name y p3)) pa.line (cxOf C8.CX0 X.prog X.w X.K X.mg X.base Ng x sg g cdg X.A X.stack s H C8.E0).env = pure false)
    (hh : ∀ (s : Shared) (H : Hp) (b : Addr) (oe : Obj) (cls : Value) (d : Option Addr) (pn : List (Addr × Obj)), Zc cls d oe → (∃ vs, oe.data = .fields vs) → PE ((cxOf C8.CX0 X.prog X.w X.K X.mg X.base Ng x sg g cdg X.A X.stack s H C8.E0).nox.suite b ((b, oe) :: pn)) eh (te b cls d)) :
    LamX.GivesTo X Ng x sg g cdg [.Try [.Assign [.Name y p3] (.Call (.Name a p1) [] [] p2) pa] [.ExceptHandler (some (.Name e p4)) (some nE) [.Return (some eh) p5] p6] [] [] p7, .Return (some (.Name y p8)) p9] a q (TT2 X.K C Ng.length i te) := by
  intro f c' s H Q tl act hc h
  let X' := (cxOf C8.CX0 X.prog X.w X.K X.mg X.base Ng x sg g cdg X.A X.stack s H C8.E0).nox
  have hgl : Gl X' e := hge
  refine ⟨_, pss_cons (ps_try_as (X := X') (i := i) (c := .ref C)
      (tb := fun W D σ H => ∃ Ech : L2.XK, (∀ cls d σ' H', Ech cls d H' → W cls d σ' H') ∧ tAsg (fun σZ HZ Q => σZ[0]? = some (some (.ref f)) ∧ HZ c' = some (LamX.CodeO c' q) ∧ tl Ech HZ Q) (gName j) D σ H)
      (ts := fun b cls d D σ H => σ.length = Ng.length → tRet (te b cls d) D σ H)
      rfl rfl hNd hi hln ⟨hgl, hde, .inl hme⟩ LamX.takes0 (fun W pn xe tk _ => ?_) (fun b oe cls d pn hz hf => ?_)) (pss_one (ps_ret (pe_var hj (.inl hy) hyd hyc))), ?_⟩
  · refine ⟨fun pins s' σ H' D I h' => ?_⟩
    obtain ⟨Ech, hW, h1⟩ := h'
    have hp := act W pn xe Ech p1 p2 tk hW
    exact (pss_one (ps_set (X := X'.tr pn xe) hNd hj (.inl hy) hp (hsw s H) (.inr hy))).run pins s' σ H' D I h1
  · refine ⟨fun pins s' σ H' D I h' => ?_⟩
    exact (pss_one (ps_ret (pos := p5) (hh s H b oe cls d pn hz hf))).run pins s' σ H' D I (h' I.len)
  · refine ⟨fun cls d H' => ∃ b, PySem.W.exmOne X.K cls (.ref C) = some b ∧ (b = true → ∀ a, H' a = none → ∀ σ' : L2.St, σ'.length = Ng.length → te a cls d (σ'.set i (some (.ref a))) H' Q) ∧ (b = false → False), fun cls d σ' H' ⟨b, e1, e2, e3⟩ => ⟨b, e1, fun hb a ha hl => ?_, fun hb => e3 hb⟩, ?_⟩
    · exact e2 hb a ha σ' (by rw [List.length_set] at hl; exact hl)
    · have hlen : (L2.start Ng [V.ref f]).length = Ng.length := by
        have h1 := (List.getElem?_eq_some_iff.mp hj).1
        unfold L2.start
        rw [List.length_append, List.length_map, List.length_replicate, List.length_singleton]
        omega
      have hl : j < Ng.length := (List.getElem?_eq_some_iff.mp hj).1
      have e : (fun v H1 => gName j v (L2.start Ng [V.ref f]) H1 fun σ2 H2 => tRet (tVar j) { nx := fun _ H' => Q .non H', rt := Q } σ2 H2) = Q := by
        funext v H1
        refine propext ⟨fun h => ?_, fun h => ?_⟩
        · obtain ⟨w, hw, q⟩ := h
          rw [List.getElem?_set_self (by rw [hlen]; exact hl)] at hw
          cases hw
          exact q
        · exact ⟨v, by rw [List.getElem?_set_self (by rw [hlen]; exact hl)], h⟩
      show (L2.start Ng [V.ref f])[0]? = some (some (V.ref f)) ∧ H c' = some (LamX.CodeO c' q) ∧ tl _ H (fun v H1 => gName j v (L2.start Ng [V.ref f]) H1 fun σ2 H2 => tRet (tVar j) { nx := fun _ H' => Q .non H', rt := Q } σ2 H2)
      rw [e]
      exact ⟨h0 f, hc, h⟩
end Pu
namespace Pu
open PySem PySem.Spec PyProof.Rows L2 Evl
theorem se_told {K : PySem.W.Frag} {C : Addr} {N i : Nat} {te : Addr → Value → Option Addr → TE} {t : L2.XK → TE} {per : PTER} {ph : PTH} (hi : i < N) (hx : PySem.W.exmOne K (.ref C) (.ref C) = some true) (ht : ∀ E, SER K E (t E) per)
    (hh : ∀ p c F O H σ n a d vs fs, St K p c F O H n → σ[i]? = some (some (.ref a)) → H d = some (.xd vs) → RepF K p F vs fs → ∀ (Q : VK) (Q' : PV → Prop), (∀ v x F2 H2, Nx K p c F O F2 O H2 n → H2 d = some (.xd vs) → Rep K p F2 v x → Q' x → Q v H2) → ph fs Q' → te a (.ref C) (some d) σ H Q) :
    SE K (LamX.tLam (tabsOf K) (TT2 K C N i te) t) (pTold C per ph) := fun p c F O H σ ρ n s sl Q Q' k q => by
  refine ⟨fun t ht => ?_, fun H1 eN tH => ?_⟩
  · obtain ⟨ps, a1, a2, a3⟩ := s.tabs.all t ht
    refine ⟨ps, s.o _ _ a1, a2, fun pos cv hcv => ?_⟩
    obtain ⟨cc, e1, e2⟩ := a3 pos cv hcv
    exact ⟨cc, e1, s.f _ _ e2⟩
  · obtain ⟨⟨O1, n1⟩, hard⟩ := s.bigN eN tH
    refine ht _ p c _ O1 H1 σ ρ n n1.s (sl.mono n1.e) Q Q' _ (fun v x F2 O2 H2 n2 nn rx hq => k v x F2 O2 H2 n2 (n1.trans nn) rx hq) (fun C' fs n2 d vs F2 O2 H2 nn h1 h2 ⟨hC, hq⟩ => ⟨true, by rw [hC]; exact hx, fun _ a ha σ' hl => ?_, fun z => by cases z⟩) q
    rw [hC]
    exact hh p c F2 O2 H2 (σ'.set i (some (.ref a))) n2 a d vs fs nn.s (List.getElem?_set_self (by rw [hl]; exact hi)) h1 h2 Q _ (fun v x F3 H3 n3 _ rv qx => k v x F3 O2 H3 n2 ((n1.trans nn).trans n3) rv qx) hq
/-- the def that asks -/
structure ToldF (K : PySem.W.Frag) (mg : Str → Option Value) (x : Str) (st : Stmt) : Prop where
  ex : ∃ g fd, FunD K x x (defArgs st) (defBody st) (defScope st) [] [] g fd ∧ mg x = some (.ref g) ∧ PySem.W.keepIn K (.ref g) = true ∧ Binds K fd ["_law_ask"] []
section
variable {K : PySem.W.Frag} {X : Cx}
theorem xe_told {st : Stmt} {e y nE : Str} {C g : Addr} {fd : FuncData} {Ng : List Str} {i j k : Nat} {eh : Expr} {te : Addr → Value → Option Addr → TE} {ph : PTH} {qn : Str} {d : He.Defn}
    {params : Arguments} {body : Expr} {scope : Scope} {t : L2.XK → TE} {per : PTER} {x : Str} {p lpos pos p1 p2 p3 p4 p5 p6 p7 p8 p9 pa : Pos}
    (F : FunD K x x (defArgs st) [.Try [.Assign [.Name y p3] (.Call (.Name "_law_ask" p1) [] [] p2) pa] [.ExceptHandler (some (.Name e p4)) (some nE) [.Return (some eh) p5] p6] [] [] p7, .Return (some (.Name y p8)) p9] (defScope st) [] [] g fd)
    (Sg : FnScope Ng ["_law_ask"] (defScope st)) (hm : X.mg x = some (.ref g)) (hk : PySem.W.keepIn X.K (.ref g) = true) (bb : Binds X.K fd ["_law_ask"] []) (hg : Gl X x)
    (hN0 : Ng[0]? = some ("_law_ask" : Str)) (hi : Ng[i]? = some nE) (hj : Ng[j]? = some y) (hva : Vis (defScope st) "_law_ask") (hln : (defScope st).names.lookup nE = some .local) (hy : (defScope st).names.lookup y = some .local) (hge : (defScope st).names.lookup e = some .globalImplicit) (hme : X.mg e = some (.ref C)) (hx : PySem.W.exmOne X.K (.ref C) (.ref C) = some true)
    (hh : ∀ (cdg : Value) (s : Shared) (H : Hp), XH K (cxOf C8.CX0 X.prog X.w X.K X.mg X.base Ng x (defScope st) g cdg X.A X.stack s H C8.E0).nox i C eh te ph)
    (TB : LamX.TabB X.base X.mg (He.cT K d).1 (He.cT K d).2) (hcode : X.env.code = .ref (He.cT K d).1) (hq : X.env.qual ++ "<lambda>" = qn) (hmT : ((He.cT K d).2, qn) ∈ tabsOf K) (hu : ∀ t ∈ tabsOf K, t.1 = (He.cT K d).2 → t.2 = qn) (hr : Room (k + 2) X.A)
    (L : LamX.LamS X.env.scope scope)
    (hb : ∀ (A : Around) (outer : List Env) (s : Shared) (H : Hp) (E : L2.XK) (f c' : Addr), Room k (A.deeper (LamX.lamEnv X scope s.heap.objs.size f c')) → XER K E (LamX.lamCx X A outer s H E scope f c') body (t E) per)
    (hsw : ∀ (cdg : Value) s H, swapsWith (.Call (.Name "_law_ask" p1) [] [] p2) (some (.Name y p3)) pa.line (cxOf C8.CX0 X.prog X.w X.K X.mg X.base Ng x (defScope st) g cdg X.A X.stack s H C8.E0).env = pure false := by intros; rfl)
    (hdef : defaultsOf params X.env = ([], []) := by rfl) (hbind : ∀ (q : Str) (cl : List (Str × Addr)) (pm cv ctv : Value), bindArgs (PySem.W.kla_fn "<lambda>" q params body scope cl pm cv ctv) ⟨[], []⟩ = pure [] := by intros; rfl)
    (hK : X.K = K := by rfl) (hde : (e == ("__debug__" : Str)) = false := by decide) (hyd : (y == ("__debug__" : Str)) = false := by decide) (hyc : (y == ("__classdict__" : Str)) = false := by decide) (hdb : (x == ("__debug__" : Str)) = false := by decide) :
    XE K X (.Call (.Name x p) [.Lambda params body scope lpos] [] pos) (LamX.tLam (tabsOf K) (TT2 K C Ng.length i te) t) (pTold C per ph) := by
  subst hK
  subst hq
  obtain ⟨oc, od, dV, kV, doc, pm, an, cdv, ct, osl, rfl, lk, hcd, h1, h2⟩ := F.ex
  refine ⟨(LamX.pe_lamcall (hdb := hdb) hg hm hk lk hcd bb Sg hN0 hva (told2_gives Sg.nd (fun f => ?_) hi hj hln hy hge hme hde hyd hyc (hsw cdv) fun s H b oe cls dd pn hz hf => (hh cdv s H).d b oe cls dd pn hz hf) TB hcode hmT hu hr L hdef hbind fun A outer s H E f c' hr2 => (hb A outer s H E f c' hr2).d), ?_⟩
  · rfl
  · refine se_told (List.getElem?_eq_some_iff.mp hi).1 hx (fun E => (hb X.A X.stack X.s_0 X.H_0 E 0 0 ((hr.mono (Nat.le_succ _)).deeper _)).s) (hh cdv X.s_0 X.H_0).s
end
end Pu

set_option Elab.async false
set_option linter.all false
set_option maxRecDepth 100000
set_option maxHeartbeats 2000000
/-! U20: t + u of tuples -/
namespace Pu
open PySem PySem.Spec PyProof.Rows L2 Evl
section
variable {K : PySem.W.Frag} {X : Cx}
def pCatA : PR2 := fun x y Q => ∃ xs ys, x = .tup xs ∧ y = .tup ys ∧ xs.length + ys.length ≤ 100000 ∧ Q (.tup (xs ++ ys))
theorem sr_catA : SR K (rCatA K) pCatA := fun p c F O H n s x y v w rx ry Q Q' k ⟨xs, ys, e1, e2, hl, q⟩ => by
  subst e1 e2
  obtain ⟨a, vs, rfl, h1, h2⟩ := rx.getT
  obtain ⟨b, ws, rfl, g1, g2⟩ := ry.getT
  refine ⟨a, b, vs, ws, rfl, rfl, st_of (s.f _ _ h1), st_of (s.f _ _ g1), by rw [h2.len, g2.len]; exact sz_of hl, fun e => ?_, fun e e2 => ?_, fun _ _ q' hq => ?_⟩
  · subst e
    have : xs = [] := by
      have := h2.len
      exact List.length_eq_zero_iff.mp (by simpa using this.symm)
    subst this
    exact k _ _ _ _ (.refl s) (.tup g1 g2) q
  · subst e2
    have : ys = [] := by
      have := g2.len
      exact List.length_eq_zero_iff.mp (by simpa using this.symm)
    subst this
    rw [List.append_nil] at q
    exact k _ _ _ _ (.refl s) (.tup h1 h2) q
  · exact k _ _ _ _ (.new s hq) (.tup upd_same ((h2.app g2).mono (Ex.new (s.notF hq)))) q
theorem xo_catA (h : X.K = K := by rfl) : XO K X (binaryOp .Add) (rCatA K) pCatA := ⟨by subst h; exact op_catA, sr_catA⟩
end
end Pu

set_option Elab.async false
set_option linter.all false
set_option maxRecDepth 100000
set_option maxHeartbeats 4000000
/-! W1: promises of draws, rows, wordings, told without a heap -/
namespace Age
open PySem PySem.Spec PyProof.Rows L2 Evl Pu
def pRow (r : RowD) : PV := .tup [pO r.til, pO r.unit, .str r.way, .str r.word]
def pRows (rows : List RowD) : PV := .lst (rows.map pRow)
def pRowO (cR : Addr) (r : RowD) : PV := .ob cR [("until", pO r.til), ("unit", pO r.unit), ("way", .str r.way), ("word", .str r.word)]
def pSpanO (cR cS : Addr) (s : SpanD) : PV := .ob cS [("low", .int s.low), ("high", pO s.high), ("row", pRowO cR s.row), ("is_fresh", .bl s.fresh)]
def pWord (cR cS cW : Addr) (rows : List RowD) : PV := .ob cW [("rows", .tup (rows.map (pRowO cR))), ("spans", .tup ((spansFrom 0 none rows).map (pSpanO cR cS)))]
def pLab (l : Str × Option Int) : PV := .tup [.str l.1, pO l.2]
def pPair (p : Str2) : PV := .tup [.int p.1, pO p.2]
section
variable {K : PySem.W.Frag} {p c : Addr} {F O H H2 : Hp} {n m : Int}
theorem rep_oV (o : Option Int) : Rep K p F (oV o) (pO o) := by cases o <;> constructor
theorem rep_oV' {v : V} {o : Option Int} (h : Rep K p F v (pO o)) : v = oV o := by
  cases o with
  | none => exact h.getN
  | some i => exact h.getI
theorem rep_row {v : V} {r : RowD} (h : Rep K p F v (pRow r)) : DRow F v r := by
  obtain ⟨a, ys, rfl, h1, h2⟩ := h.getT
  obtain ⟨v1, y1, rfl, r1, h2⟩ := h2.cons_inv
  obtain ⟨v2, y2, rfl, r2, h2⟩ := h2.cons_inv
  obtain ⟨v3, y3, rfl, r3, h2⟩ := h2.cons_inv
  obtain ⟨v4, y4, rfl, r4, h2⟩ := h2.cons_inv
  cases h2
  rw [rep_oV' r1, rep_oV' r2, r3.getS, r4.getS] at h1
  exact ⟨a, rfl, h1⟩
theorem row_rep {v : V} {r : RowD} (h : DRow F v r) : Rep K p F v (pRow r) := by
  obtain ⟨t, rfl, h⟩ := h
  exact .tup h (.cons (rep_oV _) (.cons (rep_oV _) (.cons (.str _) (.cons (.str _) .nil))))
theorem rep_rowsL : ∀ {vs : List V} {rows : List RowD}, RepL K p F vs (rows.map pRow) → DRows F vs rows
  | vs, [], h => by rw [h.nil_inv]; exact .nil
  | vs, r :: rows, h => by
    obtain ⟨v, ws, rfl, r1, r2⟩ := h.cons_inv
    exact .cons (rep_row r1) (rep_rowsL r2)
theorem rows_repL : ∀ {vs : List V} {rows : List RowD}, DRows F vs rows → RepL K p F vs (rows.map pRow)
  | _, _, .nil => .nil
  | _, _, .cons a b => .cons (row_rep a) (rows_repL b)
theorem rep_rows {v : V} {rows : List RowD} (h : Rep K p F v (pRows rows)) : ∃ l xs, v = .ref l ∧ F l = some (.lst xs) ∧ DRows F xs rows := by
  obtain ⟨a, ys, rfl, h1, h2⟩ := h.getL
  exact ⟨a, ys, rfl, h1, rep_rowsL h2⟩
theorem rep_rowO {cR : Addr} {v : V} {r : RowD} (h : Rep K p F v (pRowO cR r)) : ∃ a, v = .ref a ∧ RowAt cR F a r := by
  obtain ⟨a, dx, ws, rfl, h1, h2⟩ := h.getO
  cases h2 with | cons r1 h2 => cases h2 with | cons r2 h2 => cases h2 with | cons r3 h2 => cases h2 with | cons r4 h2 =>
  cases h2
  rw [rep_oV' r1, rep_oV' r2, r3.getS, r4.getS] at h1
  exact ⟨a, rfl, dx, h1⟩
theorem rowO_rep {cR a : Addr} {r : RowD} (h : RowAt cR F a r) : Rep K p F (.ref a) (pRowO cR r) := by
  obtain ⟨dx, h⟩ := h
  exact .ob h (.cons (rep_oV _) (.cons (rep_oV _) (.cons (.str _) (.cons (.str _) .nil))))
theorem rep_spanO {cR cS : Addr} {v : V} {s : SpanD} (h : Rep K p F v (pSpanO cR cS s)) : ∃ a, v = .ref a ∧ SpanAt cR cS F a s := by
  obtain ⟨a, dx, ws, rfl, h1, h2⟩ := h.getO
  cases h2 with | cons r1 h2 => cases h2 with | cons r2 h2 => cases h2 with | cons r3 h2 => cases h2 with | cons r4 h2 =>
  cases h2
  obtain ⟨q, rfl, hq⟩ := rep_rowO r3
  rw [r1.getI, rep_oV' r2, r4.getB] at h1
  exact ⟨a, rfl, dx, q, h1, hq⟩
theorem spanO_rep {cR cS a : Addr} {s : SpanD} (h : SpanAt cR cS F a s) : Rep K p F (.ref a) (pSpanO cR cS s) := by
  obtain ⟨dx, q, h, hq⟩ := h
  exact .ob h (.cons (.int _) (.cons (rep_oV _) (.cons (rowO_rep hq) (.cons (.bl _) .nil))))
theorem rep_all {α : Type} {f : α → PV} {R : Addr → α → Prop} (hf : ∀ v a, Rep K p F v (f a) → ∃ q, v = .ref q ∧ R q a) : ∀ {vs : List V} {as : List α}, RepL K p F vs (as.map f) → vs.length = as.length ∧ ∀ (i : Nat) a, as[i]? = some a → ∃ q, vs[i]? = some (V.ref q) ∧ R q a
  | vs, [], h => by rw [h.nil_inv]; exact ⟨rfl, fun i a z => by simp at z⟩
  | vs, a :: as, h => by
    obtain ⟨v, ws, rfl, r1, r2⟩ := h.cons_inv
    obtain ⟨h1, h2⟩ := rep_all hf r2
    obtain ⟨q, rfl, hq⟩ := hf v a r1
    refine ⟨by simp [h1], fun i b hb => ?_⟩
    cases i with
    | zero => simp at hb; subst hb; exact ⟨q, rfl, hq⟩
    | succ i => simpa using h2 i b (by simpa using hb)
theorem all_rep {α : Type} {f : α → PV} {R : Addr → α → Prop} (hf : ∀ q a, R q a → Rep K p F (.ref q) (f a)) : ∀ {vs : List V} {as : List α}, vs.length = as.length → (∀ (i : Nat) a, as[i]? = some a → ∃ q, vs[i]? = some (V.ref q) ∧ R q a) → RepL K p F vs (as.map f)
  | [], [], _, _ => .nil
  | [], _ :: _, h, _ => by simp at h
  | _ :: _, [], h, _ => by simp at h
  | v :: vs, a :: as, h, g => by
    obtain ⟨q, hq, r⟩ := g 0 a rfl
    simp at hq
    subst hq
    exact .cons (hf q a r) (all_rep hf (by simpa using h) fun i b hb => by simpa using g (i + 1) b (by simpa using hb))
theorem rep_word {cR cS cW : Addr} {v : V} {rows : List RowD} (h : Rep K p F v (pWord cR cS cW rows)) : ∃ a, v = .ref a ∧ WordAt cR cS cW F a rows := by
  obtain ⟨a, dx, ws, rfl, h1, h2⟩ := h.getO
  cases h2 with | cons r1 h2 => cases h2 with | cons r2 h2 =>
  cases h2
  obtain ⟨ta, xs, rfl, g1, g2⟩ := r1.getT
  obtain ⟨tb, ys, rfl, g3, g4⟩ := r2.getT
  exact ⟨a, rfl, dx, ta, tb, xs, ys, h1, g1, rep_all (fun v a h => rep_rowO h) g2, g3, rep_all (fun v a h => rep_spanO h) g4⟩
theorem word_rep {cR cS cW a : Addr} {rows : List RowD} (h : WordAt cR cS cW F a rows) : Rep K p F (.ref a) (pWord cR cS cW rows) := by
  obtain ⟨dx, ta, tb, xs, ys, h1, h2, h3, h4, h5⟩ := h
  exact .ob h1 (.cons (.tup h2 (all_rep (fun q a h => rowO_rep h) h3.1 h3.2)) (.cons (.tup h4 (all_rep (fun q a h => spanO_rep h) h5.1 h5.2)) .nil))
/-- what is hard (no list, no dict) passes into a larger heap -/
theorem RowAt.hard {cR a : Addr} {r : RowD} (g : ∀ a u, H a = some u → soft u = false → F a = some u) (h : RowAt cR H a r) : RowAt cR F a r := let ⟨dx, z⟩ := h; ⟨dx, g _ _ z rfl⟩
theorem WordAt.hard {cR cS cW a : Addr} {rows : List RowD} (g : ∀ a u, H a = some u → soft u = false → F a = some u) (h : WordAt cR cS cW H a rows) : WordAt cR cS cW F a rows := by
  obtain ⟨dx, ta, tb, xs, ys, h1, h2, h3, h4, h5⟩ := h
  refine ⟨dx, ta, tb, xs, ys, g _ _ h1 rfl, g _ _ h2 rfl, ⟨h3.1, fun i r hi => ?_⟩, g _ _ h4 rfl, ⟨h5.1, fun i r hi => ?_⟩⟩
  · obtain ⟨q2, a, b⟩ := h3.2 i r hi
    exact ⟨q2, a, b.hard g⟩
  · obtain ⟨q2, a, dz, q3, b, b2⟩ := h5.2 i r hi
    exact ⟨q2, a, dz, q3, g _ _ b rfl, b2.hard g⟩
theorem DRows.hard {xs : List V} {rows : List RowD} (g : ∀ a u, H a = some u → soft u = false → F a = some u) (h : DRows H xs rows) : DRows F xs rows := All2.imp (fun y r ⟨t, e, ht⟩ => ⟨t, e, g _ _ ht rfl⟩) h
/-- the source of draws, as both sides tell it -/
theorem _root_.Pu.St.penAt (s : Pu.St K p c F O H n) : PenAt H p c n := by
  obtain ⟨at_, l, h1, h2, h3, h4⟩ := s.pen
  obtain ⟨cs, hc⟩ := s.cells
  exact ⟨at_, l, cs, s.o _ _ h1, s.f _ _ hc, h2, h3, h4⟩
theorem _root_.Pu.St.notp (s : Pu.St K p c F O H n) : F p = none := by
  obtain ⟨at_, l, h1, _⟩ := s.pen
  rcases s.d p with z | z
  · exact z
  · rw [h1] at z; cases z
theorem _root_.Pu.St.pT (s : Pu.St K p c F O H n) : ¬ isT K p := fun z => by
  obtain ⟨_, _, h1, _⟩ := s.pen
  obtain ⟨ps, q⟩ := s.tabs.isO z
  rw [h1] at q
  cases q
theorem _root_.Pu.St.pw (s : Pu.St K p c F O H n) (P : Pw p c m (wo p H) H2) : ∃ O2, Nx K p c F O F O2 H2 m := by
  obtain ⟨e, at_, l, cs, h1, h2, h3, h4, h5⟩ := P
  have old : ∀ a u, a ≠ p → H a = some u → H2 a = some u := fun a u ha hu => by
    have := e a u (by rw [wo_ne ha]; exact hu)
    rw [wo_ne ha] at this
    exact this
  obtain ⟨cs0, hc0⟩ := s.cells
  refine ⟨upd O p (.dK (Pu.penD c at_ l)), Ex.refl _, fun a ha _ => upd_ne ha, fun a u hu => old a u (fun z => by rw [z, s.notp] at hu; cases hu) (s.f _ _ hu), fun a u hu => ?_, fun a => ?_, fun a u hu => ?_, ⟨at_, l, upd_same, h3, h4, h5⟩, ⟨cs0, hc0⟩, s.tabs.mono (fun _ _ h => h) (fun a ha => upd_ne fun z => s.pT (z ▸ ha)) s.tabs.nt fun a ps h => ?_⟩
  · by_cases ha : a = p
    · subst ha; rw [upd_same] at hu; cases hu; exact h1
    · rw [upd_ne ha] at hu; exact old a u ha (s.o _ _ hu)
  · by_cases ha : a = p
    · subst ha; exact Or.inl s.notp
    · rw [upd_ne ha]; exact s.d a
  · by_cases ha : a = p
    · subst ha; rw [upd_same] at hu; cases hu; rfl
    · rw [upd_ne ha] at hu; exact s.k _ _ hu
  · by_cases ha : a = p
    · subst ha; rw [upd_same] at h; cases h
    · rw [upd_ne ha] at h; exact s.tabs.ot _ _ h
theorem _root_.Pu.St.addL {l : Addr} {u : HO} (s : Pu.St K p c F O H n) (hF : F l = none) (hO : O l = none) (h : H l = some u) (ho : ∀ ps, u ≠ .tbl ps := by intro _ z; cases z) : Nx K p c F O (upd F l u) O H n := by
  obtain ⟨cs, hc⟩ := s.cells
  refine ⟨Ex.new hF, .refl, fun a v hv => ?_, s.o, fun a => ?_, s.k, s.pen, ⟨cs, (Ex.new hF) _ _ hc⟩, s.tabs.upF hF ho⟩
  · by_cases e : a = l
    · subst e; rw [upd_same] at hv; cases hv; exact h
    · rw [upd_ne e] at hv; exact s.f _ _ hv
  · by_cases e : a = l
    · subst e; exact Or.inr hO
    · rw [upd_ne e]; exact s.d a
theorem big_soft {l : Addr} {u : HO} (hF : F l = none) (h : H l = some u) (hs : soft u = true) : Pu.big F H l = none := by
  rw [big_r hF, h]
  show (if soft u = true then none else some u) = none
  rw [if_pos hs]
theorem big_new {l : Addr} (hF : F l = none) (h : H l = none) : Pu.big F H l = none := by rw [big_r hF, h]
end
/-! ### promises -/
def wDraw : PSp := fun xs n Q => ∃ m : Int, xs = [.pen, .int m] ∧ 0 < m ∧ Sm m ∧ n < Big ∧ ∀ k, 0 ≤ k → k < m → Q (.int k) (n + 1)
def wPick : PSp := fun xs n Q => ∃ ys : List PV, xs = [.pen, .lst ys] ∧ ys ≠ [] ∧ ys.length ≤ 1000 ∧ n < Big ∧ ∀ y ∈ ys, Q y (n + 1)
def wNumber : PSp := fun xs n Q => xs = [.pen] ∧ n + 10 < Big ∧ ∀ k, 0 ≤ k → k < 90 → Q (.int k) (n + 5)
def wWay : PSp := fun xs n Q => xs = [.pen] ∧ n < Big ∧ ∀ s, Ways s → Q (.str s) (n + 1)
def wRows : PSp := fun xs n Q => ∃ (most : Int) (ws : List Str), xs = [.pen, .int most, .lst (ws.map PV.str)] ∧ n + 1000 < Big ∧ 1 ≤ most ∧ most ≤ 6 ∧ ws.length ≤ 100 ∧ (∀ s ∈ ws, PyData.strOk s = true) ∧ ∀ rows, Drawn ws most rows → Q (pRows rows) (n + 200)
def wTimes : PSp := fun xs n Q => ∃ (rows : List RowD) (f : Int), xs = [pRows rows, .int f] ∧ (∀ r ∈ rows, RowB r) ∧ Sm f ∧ rows.length ≤ 1000 ∧ Q (pRows (rows.map (timesR f))) n
def wMade (cR cS cW : Addr) : PSp := fun xs n Q => ∃ rows : List RowD, xs = [pRows rows] ∧ RowsOk rows ∧ Q (pWord cR cS cW rows) n
section
variable {P : Program} {w : World} {K : PySem.W.Frag} {mg : Str → Option Value} {base : Heap} {cR cS cW : Addr} {k : Nat} {name : Str} {ps : List Str}
theorem Cal.imp {sp sp' : Sp} (c : Cal P w K mg base CX0 k name ps sp) (h : ∀ vs H Q E, sp' vs H Q E → sp vs H Q E) : Cal P w K mg base CX0 k name ps sp' := let ⟨f, fd, a, b⟩ := c.ex; ⟨f, fd, a.imp h, b⟩
theorem Met.imp {C : Addr} {sp sp' : Sp} (c : Met P w K mg base CX0 k C name ps sp) (h : ∀ vs H Q E, sp' vs H Q E → sp vs H Q E) : Met P w K mg base CX0 k C name ps sp' := let ⟨f, fd, a, b⟩ := c.ex; ⟨f, fd, a.imp h, b⟩
theorem pu_draw (c : Cal P w K mg base CX0 k name ps spDraw) : Cal P w K mg base CX0 k name ps (lift K wDraw) := c.imp fun vs H Q E ⟨p, c, F, O, n, xs, Q', s, r, ⟨m, e, h1, h2, h3, h4⟩, q⟩ => by
  subst e
  obtain ⟨v1, y1, rfl, r1, r2⟩ := r.cons_inv
  obtain ⟨v2, y2, rfl, r3, r4⟩ := r2.cons_inv
  cases r4
  rw [r1.getP, r3.getI]
  refine ⟨p, c, m, n, rfl, s.penAt, h1, h2, h3, fun k H2 k0 k1 P => ?_⟩
  obtain ⟨O2, nn⟩ := s.pw P
  exact q _ _ _ F O2 H2 (h4 k k0 k1) nn (.int _)
theorem pu_pick (c : Cal P w K mg base CX0 k name ps spPick) : Cal P w K mg base CX0 k name ps (lift K wPick) := c.imp fun vs H Q E ⟨p, c, F, O, n, xs, Q', s, r, ⟨ys, e, h1, h2, h3, h4⟩, q⟩ => by
  subst e
  obtain ⟨v1, y1, rfl, r1, r2⟩ := r.cons_inv
  obtain ⟨v2, y2, rfl, r3, r4⟩ := r2.cons_inv
  cases r4
  rw [r1.getP]
  obtain ⟨l, us, rfl, g1, g2⟩ := r3.getL
  refine ⟨p, c, l, us, n, rfl, s.penAt, s.f _ _ g1, fun z => h1 (by
    subst z
    cases ys with
    | nil => rfl
    | cons a b => have := g2.len; simp at this), by rw [g2.len]; exact h2, h3, fun i v H2 hv P => ?_⟩
  obtain ⟨O2, nn⟩ := s.pw P
  obtain ⟨y, hy⟩ : ∃ y, ys[i]? = some y := ⟨_, List.getElem?_eq_getElem (by rw [← g2.len]; exact (List.getElem?_eq_some_iff.mp hv).1)⟩
  obtain ⟨v', hv', rv⟩ := g2.get hy
  rw [hv] at hv'
  cases hv'
  exact q _ _ _ F O2 H2 (h4 y (List.mem_of_getElem? hy)) nn rv
theorem pu_number (c : Cal P w K mg base CX0 k name ps spNumber) : Cal P w K mg base CX0 k name ps (lift K wNumber) := c.imp fun vs H Q E ⟨p, c, F, O, n, xs, Q', s, r, ⟨e, h1, h2⟩, q⟩ => by
  subst e
  obtain ⟨v1, y1, rfl, r1, r2⟩ := r.cons_inv
  cases r2
  rw [r1.getP]
  refine ⟨p, c, n, rfl, s.penAt, h1, fun k H2 k0 k1 P => ?_⟩
  obtain ⟨O2, nn⟩ := s.pw P
  exact q _ _ _ F O2 H2 (h2 k k0 k1) nn (.int _)
theorem pu_way (c : Cal P w K mg base CX0 k name ps spWay) : Cal P w K mg base CX0 k name ps (lift K wWay) := c.imp fun vs H Q E ⟨p, c, F, O, n, xs, Q', s, r, ⟨e, h1, h2⟩, q⟩ => by
  subst e
  obtain ⟨v1, y1, rfl, r1, r2⟩ := r.cons_inv
  cases r2
  rw [r1.getP]
  refine ⟨p, c, n, rfl, s.penAt, h1, fun k H2 k0 P => ?_⟩
  obtain ⟨O2, nn⟩ := s.pw P
  exact q _ _ _ F O2 H2 (h2 k k0) nn (.str _)
theorem rep_strs {p : Addr} {F : Hp} : ∀ {vs : List V} {ws : List Str}, RepL K p F vs (ws.map PV.str) → vs = ws.map V.str
  | vs, [], h => by rw [h.nil_inv]; rfl
  | vs, x :: ws, h => by
    obtain ⟨v, us, rfl, r1, r2⟩ := h.cons_inv
    rw [r1.getS, rep_strs r2]
    rfl
theorem pu_rows (c : Cal P w K mg base CX0 k name ps spRows) : Cal P w K mg base CX0 k name ps (lift K wRows) := c.imp fun vs H Q E ⟨p, c, F, O, n, xs, Q', s, r, ⟨most, ws, e, h1, h2, h3, h4, h5, h6⟩, q⟩ => by
  subst e
  obtain ⟨v1, y1, rfl, r1, r2⟩ := r.cons_inv
  obtain ⟨v2, y2, rfl, r3, r2⟩ := r2.cons_inv
  obtain ⟨v3, y3, rfl, r5, r2⟩ := r2.cons_inv
  cases r2
  rw [r1.getP, r3.getI]
  obtain ⟨l, us, rfl, g1, g2⟩ := r5.getL
  rw [rep_strs g2] at g1
  refine ⟨p, c, l, most, n, ws, rfl, s.penAt, h1, h2, h3, s.f _ _ g1, h4, h5, fun l2 us2 rows H2 P hl hl2 hD hW => ?_⟩
  obtain ⟨O2, nn⟩ := s.pw P
  obtain ⟨nb, hb⟩ := nn.s.big (Ex.refl _)
  have lp : l2 ≠ p := fun z => by
    obtain ⟨_, _, z1, _⟩ := s.pen
    rw [z, s.o _ _ z1] at hl
    cases hl
  have n3 := nb.s.addL (l := l2) (u := .lst us2) (big_soft (s.notF hl) hl2 rfl) (by rw [nn.o l2 lp (s.tabs.notT (s.notO hl))]; exact s.notO hl) hl2
  exact q _ _ _ _ O2 H2 (h6 rows hW) ((nn.trans nb).trans n3) (.lst upd_same (rows_repL ((hD.hard hb).mono n3.e)))
theorem pu_times (c : Cal P w K mg base CX0 k name ps spTimes) : Cal P w K mg base CX0 k name ps (lift K wTimes) := c.imp fun vs H Q E ⟨p, c, F, O, n, xs, Q', s, r, ⟨rows, f, e, h1, h2, h3, h4⟩, q⟩ => by
  subst e
  obtain ⟨v1, y1, rfl, r1, r2⟩ := r.cons_inv
  obtain ⟨v2, y2, rfl, r3, r2⟩ := r2.cons_inv
  cases r2
  obtain ⟨l, us, rfl, g1, g2⟩ := rep_rows r1
  rw [r3.getI]
  refine ⟨l, us, rows, f, rfl, s.f _ _ g1, g2.mono s.f, h1, h2, h3, fun l2 us2 H2 hl e hl2 hD => ?_⟩
  obtain ⟨nb, hb⟩ := s.big e
  have n3 := nb.s.addL (l := l2) (u := .lst us2) (big_soft (s.notF hl) hl2 rfl) (s.notO hl) hl2
  exact q _ _ _ _ O H2 h4 (nb.trans n3) (.lst upd_same (rows_repL ((hD.hard hb).mono n3.e)))
theorem pu_made (c : Cal P w K mg base CX0 k name ps (spMade cR cS cW)) : Cal P w K mg base CX0 k name ps (lift K (wMade cR cS cW)) := c.imp fun vs H Q E ⟨p, c, F, O, n, xs, Q', s, r, ⟨rows, e, h1, h2⟩, q⟩ => by
  subst e
  obtain ⟨v1, y1, rfl, r1, r2⟩ := r.cons_inv
  cases r2
  obtain ⟨l, us, rfl, g1, g2⟩ := rep_rows r1
  refine ⟨l, us, rows, rfl, s.f _ _ g1, g2.mono s.f, h1, fun a H2 ha e hW => ?_⟩
  obtain ⟨nb, hb⟩ := s.big e
  exact q _ _ _ _ O H2 h2 nb (word_rep (hW.hard hb))
end
end Age

set_option Elab.async false
set_option linter.all false
set_option maxRecDepth 100000
set_option maxHeartbeats 4000000
/-! W2: promises of labels, edges, ages, told without a heap -/
namespace Age
open PySem PySem.Spec PyProof.Rows L2 Evl Pu
section
variable {K : PySem.W.Frag} {p c : Addr} {F O H H2 : Hp} {n m : Int}
theorem rep_lab {v : V} {l : Str × Option Int} (h : Rep K p F v (pLab l)) : ∃ t, v = .ref t ∧ F t = some (.tup [.str l.1, oV l.2]) := by
  obtain ⟨a, ys, rfl, h1, h2⟩ := h.getT
  obtain ⟨v1, y1, rfl, r1, h2⟩ := h2.cons_inv
  obtain ⟨v2, y2, rfl, r2, h2⟩ := h2.cons_inv
  cases h2
  rw [r1.getS, rep_oV' r2] at h1
  exact ⟨a, rfl, h1⟩
theorem lab_rep {t : Addr} {l : Str × Option Int} (h : F t = some (.tup [.str l.1, oV l.2])) : Rep K p F (.ref t) (pLab l) := .tup h (.cons (.str _) (.cons (rep_oV _) .nil))
theorem pairs_repL (g : ∀ a u, H a = some u → soft u = false → F a = some u) : ∀ {ys : List V} {ps : List Str2}, PairsAt H ys ps → RepL K p F ys (ps.map pPair)
  | _, _, .nil => .nil
  | _, _, .cons ⟨t, e, h⟩ b => by
    subst e
    exact .cons (.tup (g _ _ h rfl) (.cons (.int _) (.cons (rep_oV _) .nil))) (pairs_repL g b)
theorem rep_pair {v : V} {x : Str2} (h : Rep K p F v (pPair x)) : PairAt F v x := by
  obtain ⟨a, ys, rfl, h1, h2⟩ := h.getT
  obtain ⟨v1, y1, rfl, r1, h2⟩ := h2.cons_inv
  obtain ⟨v2, y2, rfl, r2, h2⟩ := h2.cons_inv
  cases h2
  rw [r1.getI, rep_oV' r2] at h1
  exact ⟨a, rfl, h1⟩
theorem rep_pairs : ∀ {ys : List V} {ps : List Str2}, RepL K p F ys (ps.map pPair) → PairsAt F ys ps
  | vs, [], h => by rw [h.nil_inv]; exact .nil
  | vs, r :: rows, h => by
    obtain ⟨v, ws, rfl, r1, r2⟩ := h.cons_inv
    exact .cons (rep_pair r1) (rep_pairs r2)
end
def wLlabel : PSp := fun xs n Q => ∃ (rows : List RowD) (a : Int), xs = [pRows rows, .int a] ∧ RowsOk rows ∧ Sm a ∧ Q (pLab (labelOf rows a)) n
def wLlater : PSp := fun xs n Q => ∃ (rows : List RowD) (a : Int), xs = [pRows rows, .int a] ∧ RowsOk rows ∧ Ag a ∧ Q (pO (laterEdge (spansFrom 0 none rows) a)) n
def wLlast : PSp := fun xs n Q => ∃ (rows : List RowD) (a : Int), xs = [pRows rows, .int a] ∧ RowsOk rows ∧ Ag a ∧ Q (.int (lastEdge (spansFrom 0 none rows) a)) n
def wLabel (cR cS cW : Addr) : PSp := fun xs n Q => ∃ (rows : List RowD) (a : Int), xs = [pWord cR cS cW rows, .int a] ∧ RowsOk rows ∧ 0 ≤ a ∧ Q (pLab (labelOf rows a)) n
def wLater (cR cS cW : Addr) : PSp := fun xs n Q => ∃ (rows : List RowD) (a : Int), xs = [pWord cR cS cW rows, .int a] ∧ RowsOk rows ∧ Ag a ∧ Q (pO (laterEdge (spansFrom 0 none rows) a)) n
def wEdges (cR cS cW : Addr) : PSp := fun xs n Q => ∃ (rows : List RowD) (a b : Int), xs = [pWord cR cS cW rows, .int a, .int b] ∧ RowsOk rows ∧ Ag a ∧ Ag b ∧ Q (.int (numE (spansFrom 0 none rows) b - numE (spansFrom 0 none rows) a)) n
def wAges (cR cS cW : Addr) : PSp := fun xs n Q => ∃ (rows : List RowD) (l : Str × Option Int), xs = [pWord cR cS cW rows, pLab l] ∧ RowsOk rows ∧ Cok l.2 ∧ Q (.tup ((agesOf rows l.1 l.2).map pPair)) n
section
variable {P : Program} {w : World} {K : PySem.W.Frag} {mg : Str → Option Value} {base : Heap} {cR cS cW : Addr} {k : Nat} {name : Str} {ps : List Str} {C : Addr}
theorem pu_llabel (c : Cal P w K mg base CX0 k name ps spLlabel) : Cal P w K mg base CX0 k name ps (lift K wLlabel) := c.imp fun vs H Q E ⟨p, c, F, O, n, xs, Q', s, r, ⟨rows, a, e, h1, h2, h3⟩, q⟩ => by
  subst e
  obtain ⟨v1, y1, rfl, r1, r2⟩ := r.cons_inv
  obtain ⟨v2, y2, rfl, r3, r2⟩ := r2.cons_inv
  cases r2
  obtain ⟨l, us, rfl, g1, g2⟩ := rep_rows r1
  rw [r3.getI]
  refine ⟨l, rows, a, rfl, ⟨us, s.f _ _ g1, g2.mono s.f⟩, h1, h2, fun t H2 ht e ht2 => ?_⟩
  obtain ⟨nb, hb⟩ := s.big e
  exact q _ _ _ _ O H2 h3 nb (lab_rep (hb _ _ ht2 rfl))
theorem pu_llater (c : Cal P w K mg base CX0 k name ps spLlater) : Cal P w K mg base CX0 k name ps (lift K wLlater) := c.imp fun vs H Q E ⟨p, c, F, O, n, xs, Q', s, r, ⟨rows, a, e, h1, h2, h3⟩, q⟩ => by
  subst e
  obtain ⟨v1, y1, rfl, r1, r2⟩ := r.cons_inv
  obtain ⟨v2, y2, rfl, r3, r2⟩ := r2.cons_inv
  cases r2
  obtain ⟨l, us, rfl, g1, g2⟩ := rep_rows r1
  rw [r3.getI]
  exact ⟨l, rows, a, rfl, ⟨us, s.f _ _ g1, g2.mono s.f⟩, h1, h2, fun H2 e => q _ _ _ _ O H2 h3 ⟨Ex.refl _, .refl, s.grow e⟩ (rep_oV _)⟩
theorem pu_llast (c : Cal P w K mg base CX0 k name ps spLlast) : Cal P w K mg base CX0 k name ps (lift K wLlast) := c.imp fun vs H Q E ⟨p, c, F, O, n, xs, Q', s, r, ⟨rows, a, e, h1, h2, h3⟩, q⟩ => by
  subst e
  obtain ⟨v1, y1, rfl, r1, r2⟩ := r.cons_inv
  obtain ⟨v2, y2, rfl, r3, r2⟩ := r2.cons_inv
  cases r2
  obtain ⟨l, us, rfl, g1, g2⟩ := rep_rows r1
  rw [r3.getI]
  exact ⟨l, rows, a, rfl, ⟨us, s.f _ _ g1, g2.mono s.f⟩, h1, h2, fun H2 e => q _ _ _ _ O H2 h3 ⟨Ex.refl _, .refl, s.grow e⟩ (.int _)⟩
theorem pu_label (c : Met P w K mg base CX0 k C name ps (spLabel cR cS cW)) : Met P w K mg base CX0 k C name ps (lift K (wLabel cR cS cW)) := c.imp fun vs H Q E ⟨p, c, F, O, n, xs, Q', s, r, ⟨rows, a, e, h1, h2, h3⟩, q⟩ => by
  subst e
  obtain ⟨v1, y1, rfl, r1, r2⟩ := r.cons_inv
  obtain ⟨v2, y2, rfl, r3, r2⟩ := r2.cons_inv
  cases r2
  obtain ⟨l, rfl, g1⟩ := rep_word r1
  rw [r3.getI]
  refine ⟨l, rows, a, rfl, g1.mono s.f, h1, h2, fun t H2 ht e ht2 => ?_⟩
  obtain ⟨nb, hb⟩ := s.big e
  exact q _ _ _ _ O H2 h3 nb (lab_rep (hb _ _ ht2 rfl))
theorem pu_later (c : Met P w K mg base CX0 k C name ps (spLater cR cS cW)) : Met P w K mg base CX0 k C name ps (lift K (wLater cR cS cW)) := c.imp fun vs H Q E ⟨p, c, F, O, n, xs, Q', s, r, ⟨rows, a, e, h1, h2, h3⟩, q⟩ => by
  subst e
  obtain ⟨v1, y1, rfl, r1, r2⟩ := r.cons_inv
  obtain ⟨v2, y2, rfl, r3, r2⟩ := r2.cons_inv
  cases r2
  obtain ⟨l, rfl, g1⟩ := rep_word r1
  rw [r3.getI]
  exact ⟨l, rows, a, rfl, g1.mono s.f, h1, h2, fun H2 e => q _ _ _ _ O H2 h3 ⟨Ex.refl _, .refl, s.grow e⟩ (rep_oV _)⟩
theorem pu_edges (c : Met P w K mg base CX0 k C name ps (spEdges cR cS cW)) : Met P w K mg base CX0 k C name ps (lift K (wEdges cR cS cW)) := c.imp fun vs H Q E ⟨p, c, F, O, n, xs, Q', s, r, ⟨rows, a, b, e, h1, h2, h2b, h3⟩, q⟩ => by
  subst e
  obtain ⟨v1, y1, rfl, r1, r2⟩ := r.cons_inv
  obtain ⟨v2, y2, rfl, r3, r2⟩ := r2.cons_inv
  obtain ⟨v3, y3, rfl, r4, r2⟩ := r2.cons_inv
  cases r2
  obtain ⟨l, rfl, g1⟩ := rep_word r1
  rw [r3.getI, r4.getI]
  exact ⟨l, rows, a, b, rfl, g1.mono s.f, h1, h2, h2b, fun H2 e => q _ _ _ _ O H2 h3 ⟨Ex.refl _, .refl, s.grow e⟩ (.int _)⟩
end
end Age

set_option Elab.async false
set_option linter.all false
namespace Age
open PySem PySem.Spec PyProof.Rows L2 Evl Pu
abbrev St2 := Option Int × Option Int
def pSt (s : St2) : PV := .tup [pO s.1, pO s.2]
def apart (lo hi : Option Int) (d : Int) : Bool := match lo, hi with
  | some l, some u => decide (u - l ≥ d)
  | _, _ => true
def InS (s : St2) (h : Int) : Prop := (∀ l, s.1 = some l → l ≤ h) ∧ ∀ u, s.2 = some u → h ≤ u
end Age

set_option Elab.async false
set_option linter.all false
set_option maxRecDepth 100000
set_option maxHeartbeats 4000000
/-! J1: stretches that are joined -/
namespace Age
open PySem PySem.Spec PyProof.Rows L2 Evl Pu
def hiMax : Option Int → Option Int → Option Int
  | some a, some b => some (max a b)
  | _, _ => none
def joinStepG (acc : List St2) (x : St2) : List St2 := match acc.getLast? with
  | some l => if apart x.1 l.2 (-1) = true then acc.dropLast ++ [(l.1, hiMax l.2 x.2)] else acc ++ [x]
  | none => acc ++ [x]
def lowI (s : St2) : Int := s.1.getD 0
def sortS (ss : List St2) : List St2 := ss.mergeSort fun a b => decide (lowI a ≤ lowI b)
def inOrder (ss : List St2) : List St2 := (ss.filter fun s => s.1.isNone) ++ sortS (ss.filter fun s => s.1.isSome)
def joinG (ss : List St2) : List St2 := (inOrder ss).foldl joinStepG []
theorem inOrder_len (ss : List St2) : (inOrder ss).length = ss.length := by
  unfold inOrder sortS
  rw [List.length_append, List.length_mergeSort]
  induction ss with
  | nil => rfl
  | cons s ss ih =>
    obtain ⟨a, b⟩ := s
    cases a <;> simp at ih ⊢ <;> omega
theorem stepG_len (acc : List St2) (x : St2) : (joinStepG acc x).length ≤ acc.length + 1 := by
  unfold joinStepG
  split
  · split
    · simp; try omega
    · simp
  · simp
theorem foldG_len : ∀ (xs acc : List St2), (xs.foldl joinStepG acc).length ≤ acc.length + xs.length
  | [], acc => by simp
  | x :: xs, acc => by
    have h1 := foldG_len xs (joinStepG acc x)
    have h2 := stepG_len acc x
    rw [List.foldl_cons, List.length_cons]
    omega
theorem foldG_take {xs : List St2} {i : Nat} {x : St2} (h : xs[i]? = some x) : (xs.take (i + 1)).foldl joinStepG [] = joinStepG ((xs.take i).foldl joinStepG []) x := by
  rw [List.take_add_one, h]
  simp
theorem snoc_of {α : Type} {l : α} : ∀ {acc : List α}, acc.getLast? = some l → ∃ a0, acc = a0 ++ [l]
  | [], h => by cases h
  | [x], h => ⟨[], by simp at h; rw [h]; rfl⟩
  | x :: y :: r, h => by
    obtain ⟨a0, e⟩ := snoc_of (acc := y :: r) (by simpa using h)
    exact ⟨x :: a0, by rw [e]; rfl⟩
def dSt (s : St2) : PyData := .tuple [dO s.1, dO s.2]
theorem toD_st (s : St2) : toD (pSt s) = some (dSt s) := by
  unfold pSt dSt
  refine toD_tup ?_
  show (match toD (pO s.1), (match toD (pO s.2), toDL [] with
      | some d, some ds => some (d :: ds)
      | _, _ => none) with
      | some d, some ds => some (d :: ds)
      | _, _ => none) = _
  rw [toD_pO, toD_pO]
  rfl
theorem toDL_sts (ss : List St2) : toDL (ss.map pSt) = some (ss.map dSt) := toDL_map fun p _ => toD_st p
theorem canLay_dSt (p : St2) : (dSt p).canLay0 = true := by
  obtain ⟨a, b⟩ := p
  cases a <;> cases b <;> simp [dSt, dO, PyData.canLay0, PyData.canLayAll0]
theorem depth_dSt (p : St2) : (dSt p).depth = 1 := by
  obtain ⟨a, b⟩ := p
  cases a <;> cases b <;> simp [dSt, dO, PyData.depth, PyData.depthAll]
theorem canLay_dSts : ∀ ps : List St2, PyData.canLayAll0 (ps.map dSt) = true
  | [] => by simp [PyData.canLayAll0]
  | p :: ps => by simp [PyData.canLayAll0, canLay_dSt, canLay_dSts ps]
theorem depth_dSts : ∀ ps : List St2, PyData.depthAll (ps.map dSt) ≤ 1
  | [] => by simp [PyData.depthAll]
  | p :: ps => by
    have := depth_dSts ps
    simp only [List.map_cons, PyData.depthAll, depth_dSt]
    omega
theorem shaped_sts (ps : List St2) : SeqAt.shaped (.list (ps.map dSt)) = true := by
  have := depth_dSts ps
  simp only [SeqAt.shaped, PyData.canLay0, canLay_dSts, PyData.depth, Bool.true_and]
  exact decide_eq_true (by omega)
theorem sts_ne_nil {ps : List St2} {Q : PV → Prop} (q : Q (.bl (!ps.isEmpty))) : pNeD (.lst (ps.map pSt)) (.lst []) Q :=
  neD_of (toD_lst (toDL_sts ps)) (toD_lst rfl) (shaped_sts _) rfl (by rw [eqv_list_nil, show (ps.map dSt).isEmpty = ps.isEmpty by cases ps <;> rfl]; exact q)
def wApart : PSp := fun xs n Q => ∃ (a b : Option Int) (d : Int), xs = [pO a, pO b, .int d] ∧ Q (.bl (apart a b d)) n
def wJoined : PSp := fun xs n Q => ∃ ss : List St2, xs = [.lst (ss.map pSt)] ∧ ss.length ≤ 1000 ∧ Q (.tup ((joinG ss).map pSt)) n
structure TbJ (K : PySem.W.Frag) (base : Heap) (mg : Str → Option Value) : Prop where
  tb : LamX.TabB base mg (He.cT K ("joined", none)).1 (He.cT K ("joined", none)).2
section
variable {P : Program} {w : World} {K : PySem.W.Frag} {mg : Str → Option Value} {base : Heap}
theorem ok_apart {f : Addr} {fd : FuncData} (F : Fn K "is_apart" "is_apart" s_is_apart f fd) : FnOk P w K mg base CX0 1 f fd ["low", "high", "distance"] (lift K wApart) := by
  refine okX F sc_is_apart (fun xs n Q h => ?_) (fun cdv A outer s H E hr => ⟨_, _, (xss_one (xs_ret (xe_or (xe_cmp (xc_isN (xv 0)) rfl) (xe_or (xe_cmp (xc_isN (xv 1)) rfl) (xe_one (xe_cmpR xo_ge (xe_op xo_sub (xv 1) (xv 0)) (xv 2) (nomark _))))))), ?_⟩)
  · obtain ⟨a, b, d, rfl, _⟩ := h; rfl
  · rintro _ n Q ⟨a, b, d, rfl, q⟩
    cases a with
    | none => simp only [pStrOf, pCatS, pSortII, pParOwE, pParOwC, pIsi, pListR2, startP, List.map_cons, List.map_nil, List.length_cons, List.length_nil, Nat.reduceAdd, Nat.reduceSub, List.replicate_succ, List.replicate_zero, List.cons_append, List.nil_append, pSeq, pAsg, pAsgV, pPar, pPar3, pIfS, pRet, pRetN, pDrop, pNext, pNever, pSetOw, pSetD, pPutD, pDGet, pInS, pCKw, pSl, pSlL, pNoPart, pPart, piEn, v_od, PV.dic.injEq, pApp, pAppV, pPutI, pAug, pVar, pC, pOp, pUn, pI0, pI, pU, pIsN, pNotN, pNil, pCons, pTup, pLst, pFld, pIxL, pIxT, pEq, pNe, pAndV, pOrV, pNotV, pB, pAnd, pOr, pNot, pYes, pIf, pCB, pLen, pListOf, pTupOf, pMin2, pMax2, pCat, pIsTup, pIntOf, pgName, pgNil, pgCons, pgTup, piL, piT, piR1, piR2, piEn, piEnT,
    g0, g0r, gS, v_fr, v_ow, hid_nil, hid_fr, hid_no, hid_ow, keep_t, keep_f, keep_nil, noOw_nil, noOw_fr, noOw_no, noOw_ow, noL_int, noL_bl, noL_str, noL_non, noL_pO, noL_tup, noLL_nil, noLL_cons, stow_eq, len_tup, len_lst, len_scr, at_nat, at_0, at_1, at_2, at_3, sc_int, sc_bl, sc_str, sc_non, sc_pO, vO_inj, vO_int, int_vO, scal_NN, scal_OO, scal_OI, scal_IO, scal_II, scal_SS, scal_BB, isN_pO, isN_int, isN_bl, isN_str, isN_non, isN_tup, isN_lst, isN_ob, pO_some, pO_none,
    List.set_cons_zero, List.set_cons_succ, List.getElem?_cons_zero, List.getElem?_cons_succ, Option.some.injEq, PV.int.injEq, PV.bl.injEq, PV.str.injEq, PV.lst.injEq, PV.tup.injEq, PS.ow.injEq, PS.fr.injEq, List.cons.injEq, exists_eq_left, exists_eq_left', exists_eq_right, exists_and_left, exists_const, and_true, true_and, reduceCtorEq, false_and, and_false, exists_false, if_true, if_false, Bool.false_eq_true, ↓reduceIte, Bool.or_true, Bool.true_or, Bool.or_false, Bool.false_or, Bool.and_true, Bool.true_and, Bool.not_true, Bool.not_false, ite_true, ite_false, exists_eq, exists_eq', and_assoc, decide_eq_true_eq, V.int.injEq, V.str.injEq, V.bl.injEq, and_self, Nat.reduceLeDiff, exists_eq_right', exists_and_right, Option.isNone_none, Option.isNone_some]; exact q
    | some a =>
      cases b with
      | none => simp only [pStrOf, pCatS, pSortII, pParOwE, pParOwC, pIsi, pListR2, startP, List.map_cons, List.map_nil, List.length_cons, List.length_nil, Nat.reduceAdd, Nat.reduceSub, List.replicate_succ, List.replicate_zero, List.cons_append, List.nil_append, pSeq, pAsg, pAsgV, pPar, pPar3, pIfS, pRet, pRetN, pDrop, pNext, pNever, pSetOw, pSetD, pPutD, pDGet, pInS, pCKw, pSl, pSlL, pNoPart, pPart, piEn, v_od, PV.dic.injEq, pApp, pAppV, pPutI, pAug, pVar, pC, pOp, pUn, pI0, pI, pU, pIsN, pNotN, pNil, pCons, pTup, pLst, pFld, pIxL, pIxT, pEq, pNe, pAndV, pOrV, pNotV, pB, pAnd, pOr, pNot, pYes, pIf, pCB, pLen, pListOf, pTupOf, pMin2, pMax2, pCat, pIsTup, pIntOf, pgName, pgNil, pgCons, pgTup, piL, piT, piR1, piR2, piEn, piEnT,
    g0, g0r, gS, v_fr, v_ow, hid_nil, hid_fr, hid_no, hid_ow, keep_t, keep_f, keep_nil, noOw_nil, noOw_fr, noOw_no, noOw_ow, noL_int, noL_bl, noL_str, noL_non, noL_pO, noL_tup, noLL_nil, noLL_cons, stow_eq, len_tup, len_lst, len_scr, at_nat, at_0, at_1, at_2, at_3, sc_int, sc_bl, sc_str, sc_non, sc_pO, vO_inj, vO_int, int_vO, scal_NN, scal_OO, scal_OI, scal_IO, scal_II, scal_SS, scal_BB, isN_pO, isN_int, isN_bl, isN_str, isN_non, isN_tup, isN_lst, isN_ob, pO_some, pO_none,
    List.set_cons_zero, List.set_cons_succ, List.getElem?_cons_zero, List.getElem?_cons_succ, Option.some.injEq, PV.int.injEq, PV.bl.injEq, PV.str.injEq, PV.lst.injEq, PV.tup.injEq, PS.ow.injEq, PS.fr.injEq, List.cons.injEq, exists_eq_left, exists_eq_left', exists_eq_right, exists_and_left, exists_const, and_true, true_and, reduceCtorEq, false_and, and_false, exists_false, if_true, if_false, Bool.false_eq_true, ↓reduceIte, Bool.or_true, Bool.true_or, Bool.or_false, Bool.false_or, Bool.and_true, Bool.true_and, Bool.not_true, Bool.not_false, ite_true, ite_false, exists_eq, exists_eq', and_assoc, decide_eq_true_eq, V.int.injEq, V.str.injEq, V.bl.injEq, and_self, Nat.reduceLeDiff, exists_eq_right', exists_and_right, Option.isNone_none, Option.isNone_some]; exact q
      | some b =>
        simp only [pStrOf, pCatS, pSortII, pParOwE, pParOwC, pIsi, pListR2, startP, List.map_cons, List.map_nil, List.length_cons, List.length_nil, Nat.reduceAdd, Nat.reduceSub, List.replicate_succ, List.replicate_zero, List.cons_append, List.nil_append, pSeq, pAsg, pAsgV, pPar, pPar3, pIfS, pRet, pRetN, pDrop, pNext, pNever, pSetOw, pSetD, pPutD, pDGet, pInS, pCKw, pSl, pSlL, pNoPart, pPart, piEn, v_od, PV.dic.injEq, pApp, pAppV, pPutI, pAug, pVar, pC, pOp, pUn, pI0, pI, pU, pIsN, pNotN, pNil, pCons, pTup, pLst, pFld, pIxL, pIxT, pEq, pNe, pAndV, pOrV, pNotV, pB, pAnd, pOr, pNot, pYes, pIf, pCB, pLen, pListOf, pTupOf, pMin2, pMax2, pCat, pIsTup, pIntOf, pgName, pgNil, pgCons, pgTup, piL, piT, piR1, piR2, piEn, piEnT,
    g0, g0r, gS, v_fr, v_ow, hid_nil, hid_fr, hid_no, hid_ow, keep_t, keep_f, keep_nil, noOw_nil, noOw_fr, noOw_no, noOw_ow, noL_int, noL_bl, noL_str, noL_non, noL_pO, noL_tup, noLL_nil, noLL_cons, stow_eq, len_tup, len_lst, len_scr, at_nat, at_0, at_1, at_2, at_3, sc_int, sc_bl, sc_str, sc_non, sc_pO, vO_inj, vO_int, int_vO, scal_NN, scal_OO, scal_OI, scal_IO, scal_II, scal_SS, scal_BB, isN_pO, isN_int, isN_bl, isN_str, isN_non, isN_tup, isN_lst, isN_ob, pO_some, pO_none,
    List.set_cons_zero, List.set_cons_succ, List.getElem?_cons_zero, List.getElem?_cons_succ, Option.some.injEq, PV.int.injEq, PV.bl.injEq, PV.str.injEq, PV.lst.injEq, PV.tup.injEq, PS.ow.injEq, PS.fr.injEq, List.cons.injEq, exists_eq_left, exists_eq_left', exists_eq_right, exists_and_left, exists_const, and_true, true_and, reduceCtorEq, false_and, and_false, exists_false, if_true, if_false, Bool.false_eq_true, ↓reduceIte, Bool.or_true, Bool.true_or, Bool.or_false, Bool.false_or, Bool.and_true, Bool.true_and, Bool.not_true, Bool.not_false, ite_true, ite_false, exists_eq, exists_eq', and_assoc, decide_eq_true_eq, V.int.injEq, V.str.injEq, V.bl.injEq, and_self, Nat.reduceLeDiff, exists_eq_right', exists_and_right, Option.isNone_none, Option.isNone_some]
        exact q
theorem ok_joined {f : Addr} {fd : FuncData} (F : Fn K "joined" "joined" s_joined f fd) (hf : f = He.fAd K ("joined", none)) (TJ : TbJ K base mg) (B : Bn mg) (c1 : Cal P w K mg base CX0 1 "is_apart" ["low", "high", "distance"] (lift K wApart)) : FnOk P w K mg base CX0 2 f fd ["stretches"] (lift K wJoined) := by
  obtain ⟨f1, fd1, G_is_apart, m_is_apart, k_is_apart, b_is_apart⟩ := c1.ex
  have TBl := TJ.tb
  have mTl : ((He.cT K ("joined", none)).2, ("joined.<locals>.<lambda>" : Str)) ∈ tabsOf K := List.mem_map.mpr ⟨(("joined", none), "joined.<locals>.<lambda>"), List.mem_singleton.mpr rfl, rfl⟩
  have huL : ∀ t ∈ tabsOf K, t.1 = (He.cT K ("joined", none)).2 → t.2 = ("joined.<locals>.<lambda>" : Str) := fun t ht _ => by
    obtain ⟨d, hd, rfl⟩ := List.mem_map.mp ht
    rw [List.mem_singleton.mp hd]
  refine okXT F hf sc_joined (fun xs n Q h => ?_) (fun cdv A outer s H E hcl hr => ⟨_, _, (xss_cons (xs_setLc (i := 1) (own := [("stretch", 7)]) rfl sc_joined.nd rfl rfl (sw_true rfl rfl rfl (by decide +kernel)) (xi_list (xv 0)) (blkOk_by (own := [("stretch", 7)]) (N := ["stretches", "unbounded", "bounded", "found", "low", "high", "before", "stretch"]) (sc := defScope s_joined) (by decide +kernel)) (fun _ _ _ _ _ => (xg_name (i := 7) sc_joined.nd rfl (Or.inl rfl))) (fun _ _ _ _ _ => (xts_one (xt_cmp (xc_isN (xe_ix xix_tup (xv 7) xe_int (fun _ _ => rfl)))))) (fun _ _ _ _ _ => (xv 7))) (xss_cons (xs_set (i := 2) sc_joined.nd rfl (Or.inl rfl) (xe_sortLam (d := ("joined", none)) (qn := "joined.<locals>.<lambda>") (by rfl) B.sorted (xe_lc (own := [("stretch", 7)]) rfl sc_joined.nd (xi_list (xv 0)) (blkOk_by (own := [("stretch", 7)]) (N := ["stretches", "unbounded", "bounded", "found", "low", "high", "before", "stretch"]) (sc := defScope s_joined) (by decide +kernel)) (fun _ _ _ _ _ => (xg_name (i := 7) sc_joined.nd rfl (Or.inl rfl))) (fun _ _ _ _ _ => (xts_one (xt_cmp (xc_notN (xe_ix xix_tup (xv 7) xe_int (fun _ _ => rfl)))))) (fun _ _ _ _ _ => (xv 7))) TBl hcl (by rfl) mTl huL (hr.mono (by decide)))) (xss_cons (xs_setOw (i := 3) sc_joined.nd rfl (Or.inl rfl) xa_nil) (xss_cons (xs_for [false, false, false, true, false, false, false, false] PassesOwn.never rfl (xi_list (xe_op xo_cat (xv 1) (xv 2))) (xg_tup (n := 2) rfl (xgs_cons (xg_name (i := 4) sc_joined.nd rfl (Or.inl rfl)) (xgs_cons (xg_name (i := 5) sc_joined.nd rfl (Or.inl rfl)) xgs_nil))) (xss_cons (xs_if (xw_pt (xw_and (xt_cmpR (xo_neD hr.units) (xv 3) (xe_lst xa_nil) (nomark _)) (xw_and1 (xt_val (xe_call G_is_apart (hr.mono (by decide)) rfl m_is_apart k_is_apart b_is_apart (xa_cons (xv 4) (xa_cons (xe_ix xix_tup (xe_ix xix_list (xv 3) (xe_un xun_neg xe_int) (fun _ _ => rfl)) xe_int (fun _ _ => rfl)) (xa_cons (xe_un xun_neg xe_int) xa_nil)))))))) (xss_cons (xs_popAsg 3 (xg_tup (n := 2) rfl (xgs_cons (xg_name (i := 4) sc_joined.nd rfl (Or.inl rfl)) (xgs_cons (xg_name (i := 6) sc_joined.nd rfl (Or.inl rfl)) xgs_nil)))) (xss_one (xs_set (i := 5) sc_joined.nd rfl (Or.inl rfl) (xe_ifExp (xw_pt (xw_or (xt_cmp (xc_isN (xv 6))) (xw_or1 (xt_cmp (xc_isN (xv 5)))))) xe_non (xe_callB (xcall_max2 rfl) (by rfl) B.max (by decide +kernel) (xa_cons (xv 6) (xa_cons (xv 5) xa_nil))))))) xss_nil) (xss_one (xs_app 3 (xe_tup (xa_cons (xv 4) (xa_cons (xv 5) xa_nil))))))) (xss_one (xs_ret (xe_callTy xcall_tuple_of (by rfl) B.tuple (by decide +kernel) (xa_cons (xv 3) xa_nil)))))))), ?_⟩)
  · obtain ⟨ss, rfl, _⟩ := h; rfl
  · rintro _ n Q ⟨ss, rfl, hl, q⟩
    simp only [pStrOf, pCatS, pSortII, pParOwE, pParOwC, pIsi, pListR2, startP, List.map_cons, List.map_nil, List.length_cons, List.length_nil, Nat.reduceAdd, Nat.reduceSub, List.replicate_succ, List.replicate_zero, List.cons_append, List.nil_append, pSeq, pAsg, pAsgV, pPar, pPar3, pIfS, pRet, pRetN, pDrop, pNext, pNever, pSetOw, pSetD, pPutD, pDGet, pInS, pCKw, pSl, pSlL, pNoPart, pPart, piEn, v_od, PV.dic.injEq, pApp, pAppV, pPutI, pAug, pVar, pC, pOp, pUn, pI0, pI, pU, pIsN, pNotN, pNil, pCons, pTup, pLst, pFld, pIxL, pIxT, pEq, pNe, pAndV, pOrV, pNotV, pB, pAnd, pOr, pNot, pYes, pIf, pCB, pLen, pListOf, pTupOf, pMin2, pMax2, pCat, pIsTup, pIntOf, pgName, pgNil, pgCons, pgTup, piL, piT, piR1, piR2, piEn, piEnT,
    g0, g0r, gS, v_fr, v_ow, hid_nil, hid_fr, hid_no, hid_ow, keep_t, keep_f, keep_nil, noOw_nil, noOw_fr, noOw_no, noOw_ow, noL_int, noL_bl, noL_str, noL_non, noL_pO, noL_tup, noLL_nil, noLL_cons, stow_eq, len_tup, len_lst, len_scr, at_nat, at_0, at_1, at_2, at_3, sc_int, sc_bl, sc_str, sc_non, sc_pO, vO_inj, vO_int, int_vO, scal_NN, scal_OO, scal_OI, scal_IO, scal_II, scal_SS, scal_BB, isN_pO, isN_int, isN_bl, isN_str, isN_non, isN_tup, isN_lst, isN_ob, pO_some, pO_none,
    List.set_cons_zero, List.set_cons_succ, List.getElem?_cons_zero, List.getElem?_cons_succ, Option.some.injEq, PV.int.injEq, PV.bl.injEq, PV.str.injEq, PV.lst.injEq, PV.tup.injEq, PS.ow.injEq, PS.fr.injEq, List.cons.injEq, exists_eq_left, exists_eq_left', exists_eq_right, exists_and_left, exists_const, and_true, true_and, reduceCtorEq, false_and, and_false, exists_false, if_true, if_false, Bool.false_eq_true, ↓reduceIte, Bool.or_true, Bool.true_or, Bool.or_false, Bool.false_or, Bool.and_true, Bool.true_and, Bool.not_true, Bool.not_false, ite_true, ite_false, exists_eq, exists_eq', and_assoc, decide_eq_true_eq, V.int.injEq, V.str.injEq, V.bl.injEq, and_self, Nat.reduceLeDiff, exists_eq_right', exists_and_right, Option.isNone_none, Option.isNone_some, pSortK, pPopAsg]
    have lcA : ∀ (f : St2 → Bool) (pt : PTT) (ρ : PR) (Q2 : PV → Int → Prop), getV (hide ρ) 0 = some (.lst (ss.map pSt)) → (∀ s : St2, ∀ R : Bool → Int → Prop, R (f s) n → pgName 7 (pSt s) (wipeP (hide ρ) [7]) fun ρ2 => pt ρ2 n fun b n3 => R b n3) → True := fun _ _ _ _ _ _ => trivial
    clear lcA
    refine lc_map (L := ss) (e := pSt) (f := fun s => s.1.isNone) (g := pSt) (fun R r => by simp only [pStrOf, pCatS, pSortII, pParOwE, pParOwC, pIsi, pListR2, startP, List.map_cons, List.map_nil, List.length_cons, List.length_nil, Nat.reduceAdd, Nat.reduceSub, List.replicate_succ, List.replicate_zero, List.cons_append, List.nil_append, pSeq, pAsg, pAsgV, pPar, pPar3, pIfS, pRet, pRetN, pDrop, pNext, pNever, pSetOw, pSetD, pPutD, pDGet, pInS, pCKw, pSl, pSlL, pNoPart, pPart, piEn, v_od, PV.dic.injEq, pApp, pAppV, pPutI, pAug, pVar, pC, pOp, pUn, pI0, pI, pU, pIsN, pNotN, pNil, pCons, pTup, pLst, pFld, pIxL, pIxT, pEq, pNe, pAndV, pOrV, pNotV, pB, pAnd, pOr, pNot, pYes, pIf, pCB, pLen, pListOf, pTupOf, pMin2, pMax2, pCat, pIsTup, pIntOf, pgName, pgNil, pgCons, pgTup, piL, piT, piR1, piR2, piEn, piEnT,
    g0, g0r, gS, v_fr, v_ow, hid_nil, hid_fr, hid_no, hid_ow, keep_t, keep_f, keep_nil, noOw_nil, noOw_fr, noOw_no, noOw_ow, noL_int, noL_bl, noL_str, noL_non, noL_pO, noL_tup, noLL_nil, noLL_cons, stow_eq, len_tup, len_lst, len_scr, at_nat, at_0, at_1, at_2, at_3, sc_int, sc_bl, sc_str, sc_non, sc_pO, vO_inj, vO_int, int_vO, scal_NN, scal_OO, scal_OI, scal_IO, scal_II, scal_SS, scal_BB, isN_pO, isN_int, isN_bl, isN_str, isN_non, isN_tup, isN_lst, isN_ob, pO_some, pO_none,
    List.set_cons_zero, List.set_cons_succ, List.getElem?_cons_zero, List.getElem?_cons_succ, Option.some.injEq, PV.int.injEq, PV.bl.injEq, PV.str.injEq, PV.lst.injEq, PV.tup.injEq, PS.ow.injEq, PS.fr.injEq, List.cons.injEq, exists_eq_left, exists_eq_left', exists_eq_right, exists_and_left, exists_const, and_true, true_and, reduceCtorEq, false_and, and_false, exists_false, if_true, if_false, Bool.false_eq_true, ↓reduceIte, Bool.or_true, Bool.true_or, Bool.or_false, Bool.false_or, Bool.and_true, Bool.true_and, Bool.not_true, Bool.not_false, ite_true, ite_false, exists_eq, exists_eq', and_assoc, decide_eq_true_eq, V.int.injEq, V.str.injEq, V.bl.injEq, and_self, Nat.reduceLeDiff, exists_eq_right', exists_and_right, Option.isNone_none, Option.isNone_some]; exact r) (by omega) (fun s _ R r => ?_) ?_
    · obtain ⟨a, b⟩ := s
      cases a <;> (simp only [pStrOf, pCatS, pSortII, pParOwE, pParOwC, pIsi, pListR2, startP, List.map_cons, List.map_nil, List.length_cons, List.length_nil, Nat.reduceAdd, Nat.reduceSub, List.replicate_succ, List.replicate_zero, List.cons_append, List.nil_append, pSeq, pAsg, pAsgV, pPar, pPar3, pIfS, pRet, pRetN, pDrop, pNext, pNever, pSetOw, pSetD, pPutD, pDGet, pInS, pCKw, pSl, pSlL, pNoPart, pPart, piEn, v_od, PV.dic.injEq, pApp, pAppV, pPutI, pAug, pVar, pC, pOp, pUn, pI0, pI, pU, pIsN, pNotN, pNil, pCons, pTup, pLst, pFld, pIxL, pIxT, pEq, pNe, pAndV, pOrV, pNotV, pB, pAnd, pOr, pNot, pYes, pIf, pCB, pLen, pListOf, pTupOf, pMin2, pMax2, pCat, pIsTup, pIntOf, pgName, pgNil, pgCons, pgTup, piL, piT, piR1, piR2, piEn, piEnT,
    g0, g0r, gS, v_fr, v_ow, hid_nil, hid_fr, hid_no, hid_ow, keep_t, keep_f, keep_nil, noOw_nil, noOw_fr, noOw_no, noOw_ow, noL_int, noL_bl, noL_str, noL_non, noL_pO, noL_tup, noLL_nil, noLL_cons, stow_eq, len_tup, len_lst, len_scr, at_nat, at_0, at_1, at_2, at_3, sc_int, sc_bl, sc_str, sc_non, sc_pO, vO_inj, vO_int, int_vO, scal_NN, scal_OO, scal_OI, scal_IO, scal_II, scal_SS, scal_BB, isN_pO, isN_int, isN_bl, isN_str, isN_non, isN_tup, isN_lst, isN_ob, pO_some, pO_none,
    List.set_cons_zero, List.set_cons_succ, List.getElem?_cons_zero, List.getElem?_cons_succ, Option.some.injEq, PV.int.injEq, PV.bl.injEq, PV.str.injEq, PV.lst.injEq, PV.tup.injEq, PS.ow.injEq, PS.fr.injEq, List.cons.injEq, exists_eq_left, exists_eq_left', exists_eq_right, exists_and_left, exists_const, and_true, true_and, reduceCtorEq, false_and, and_false, exists_false, if_true, if_false, Bool.false_eq_true, ↓reduceIte, Bool.or_true, Bool.true_or, Bool.or_false, Bool.false_or, Bool.and_true, Bool.true_and, Bool.not_true, Bool.not_false, ite_true, ite_false, exists_eq, exists_eq', and_assoc, decide_eq_true_eq, V.int.injEq, V.str.injEq, V.bl.injEq, and_self, Nat.reduceLeDiff, exists_eq_right', exists_and_right, Option.isNone_none, Option.isNone_some, wipeP_cons, wipeP_nil, pSt] at r ⊢; simpa [pSt, pO] using r)
    refine lc_map (L := ss) (e := pSt) (f := fun s => s.1.isSome) (g := pSt) (fun R r => by simp only [pStrOf, pCatS, pSortII, pParOwE, pParOwC, pIsi, pListR2, startP, List.map_cons, List.map_nil, List.length_cons, List.length_nil, Nat.reduceAdd, Nat.reduceSub, List.replicate_succ, List.replicate_zero, List.cons_append, List.nil_append, pSeq, pAsg, pAsgV, pPar, pPar3, pIfS, pRet, pRetN, pDrop, pNext, pNever, pSetOw, pSetD, pPutD, pDGet, pInS, pCKw, pSl, pSlL, pNoPart, pPart, piEn, v_od, PV.dic.injEq, pApp, pAppV, pPutI, pAug, pVar, pC, pOp, pUn, pI0, pI, pU, pIsN, pNotN, pNil, pCons, pTup, pLst, pFld, pIxL, pIxT, pEq, pNe, pAndV, pOrV, pNotV, pB, pAnd, pOr, pNot, pYes, pIf, pCB, pLen, pListOf, pTupOf, pMin2, pMax2, pCat, pIsTup, pIntOf, pgName, pgNil, pgCons, pgTup, piL, piT, piR1, piR2, piEn, piEnT,
    g0, g0r, gS, v_fr, v_ow, hid_nil, hid_fr, hid_no, hid_ow, keep_t, keep_f, keep_nil, noOw_nil, noOw_fr, noOw_no, noOw_ow, noL_int, noL_bl, noL_str, noL_non, noL_pO, noL_tup, noLL_nil, noLL_cons, stow_eq, len_tup, len_lst, len_scr, at_nat, at_0, at_1, at_2, at_3, sc_int, sc_bl, sc_str, sc_non, sc_pO, vO_inj, vO_int, int_vO, scal_NN, scal_OO, scal_OI, scal_IO, scal_II, scal_SS, scal_BB, isN_pO, isN_int, isN_bl, isN_str, isN_non, isN_tup, isN_lst, isN_ob, pO_some, pO_none,
    List.set_cons_zero, List.set_cons_succ, List.getElem?_cons_zero, List.getElem?_cons_succ, Option.some.injEq, PV.int.injEq, PV.bl.injEq, PV.str.injEq, PV.lst.injEq, PV.tup.injEq, PS.ow.injEq, PS.fr.injEq, List.cons.injEq, exists_eq_left, exists_eq_left', exists_eq_right, exists_and_left, exists_const, and_true, true_and, reduceCtorEq, false_and, and_false, exists_false, if_true, if_false, Bool.false_eq_true, ↓reduceIte, Bool.or_true, Bool.true_or, Bool.or_false, Bool.false_or, Bool.and_true, Bool.true_and, Bool.not_true, Bool.not_false, ite_true, ite_false, exists_eq, exists_eq', and_assoc, decide_eq_true_eq, V.int.injEq, V.str.injEq, V.bl.injEq, and_self, Nat.reduceLeDiff, exists_eq_right', exists_and_right, Option.isNone_none, Option.isNone_some]; exact r) (by omega) (fun s _ R r => ?_) ?_
    · obtain ⟨a, b⟩ := s
      cases a <;> (simp only [pStrOf, pCatS, pSortII, pParOwE, pParOwC, pIsi, pListR2, startP, List.map_cons, List.map_nil, List.length_cons, List.length_nil, Nat.reduceAdd, Nat.reduceSub, List.replicate_succ, List.replicate_zero, List.cons_append, List.nil_append, pSeq, pAsg, pAsgV, pPar, pPar3, pIfS, pRet, pRetN, pDrop, pNext, pNever, pSetOw, pSetD, pPutD, pDGet, pInS, pCKw, pSl, pSlL, pNoPart, pPart, piEn, v_od, PV.dic.injEq, pApp, pAppV, pPutI, pAug, pVar, pC, pOp, pUn, pI0, pI, pU, pIsN, pNotN, pNil, pCons, pTup, pLst, pFld, pIxL, pIxT, pEq, pNe, pAndV, pOrV, pNotV, pB, pAnd, pOr, pNot, pYes, pIf, pCB, pLen, pListOf, pTupOf, pMin2, pMax2, pCat, pIsTup, pIntOf, pgName, pgNil, pgCons, pgTup, piL, piT, piR1, piR2, piEn, piEnT,
    g0, g0r, gS, v_fr, v_ow, hid_nil, hid_fr, hid_no, hid_ow, keep_t, keep_f, keep_nil, noOw_nil, noOw_fr, noOw_no, noOw_ow, noL_int, noL_bl, noL_str, noL_non, noL_pO, noL_tup, noLL_nil, noLL_cons, stow_eq, len_tup, len_lst, len_scr, at_nat, at_0, at_1, at_2, at_3, sc_int, sc_bl, sc_str, sc_non, sc_pO, vO_inj, vO_int, int_vO, scal_NN, scal_OO, scal_OI, scal_IO, scal_II, scal_SS, scal_BB, isN_pO, isN_int, isN_bl, isN_str, isN_non, isN_tup, isN_lst, isN_ob, pO_some, pO_none,
    List.set_cons_zero, List.set_cons_succ, List.getElem?_cons_zero, List.getElem?_cons_succ, Option.some.injEq, PV.int.injEq, PV.bl.injEq, PV.str.injEq, PV.lst.injEq, PV.tup.injEq, PS.ow.injEq, PS.fr.injEq, List.cons.injEq, exists_eq_left, exists_eq_left', exists_eq_right, exists_and_left, exists_const, and_true, true_and, reduceCtorEq, false_and, and_false, exists_false, if_true, if_false, Bool.false_eq_true, ↓reduceIte, Bool.or_true, Bool.true_or, Bool.or_false, Bool.false_or, Bool.and_true, Bool.true_and, Bool.not_true, Bool.not_false, ite_true, ite_false, exists_eq, exists_eq', and_assoc, decide_eq_true_eq, V.int.injEq, V.str.injEq, V.bl.injEq, and_self, Nat.reduceLeDiff, exists_eq_right', exists_and_right, Option.isNone_none, Option.isNone_some, wipeP_cons, wipeP_nil, pSt] at r ⊢; simpa [pSt, pO] using r)
    have hp : ∀ s : St2, s.1.isSome = true → pItem (lowI s, [pO s.2]) = pSt s := fun s hs => by
      obtain ⟨a, b⟩ := s
      cases a with
      | none => cases hs
      | some a => rfl
    have e1 : (ss.filter fun s => s.1.isSome).map pSt = ((ss.filter fun s => s.1.isSome).map fun s => (lowI s, [pO s.2])).map pItem := by
      rw [List.map_map]
      refine List.map_congr_left fun s hs => ?_
      exact (hp s (List.mem_filter.mp hs).2).symm
    have e2 : ((((ss.filter fun s => s.1.isSome).map fun s => (lowI s, [pO s.2])).mergeSort fun a b => decide (a.1 ≤ b.1)).map pItem) = (sortS (ss.filter fun s => s.1.isSome)).map pSt := by
      unfold sortS
      rw [sort_map, List.map_map]
      refine List.map_congr_left fun s hs => ?_
      exact hp s (List.mem_filter.mp ((List.mergeSort_perm _ _).mem_iff.mp hs)).2
    refine ⟨_, congrArg PV.lst e1, ?_, ?_⟩
    · rw [List.length_map]
      have := List.length_filter_le (fun s : St2 => s.1.isSome) ss
      omega
    rw [e2]
    have hlen := inOrder_len ss
    have e3 : (ss.filter fun s => s.1.isNone).map pSt ++ (sortS (ss.filter fun s => s.1.isSome)).map pSt = (inOrder ss).map pSt := by rw [← List.map_append]; rfl
    simp only [pStrOf, pCatS, pSortII, pParOwE, pParOwC, pIsi, pListR2, startP, List.map_cons, List.map_nil, List.length_cons, List.length_nil, Nat.reduceAdd, Nat.reduceSub, List.replicate_succ, List.replicate_zero, List.cons_append, List.nil_append, pSeq, pAsg, pAsgV, pPar, pPar3, pIfS, pRet, pRetN, pDrop, pNext, pNever, pSetOw, pSetD, pPutD, pDGet, pInS, pCKw, pSl, pSlL, pNoPart, pPart, piEn, v_od, PV.dic.injEq, pApp, pAppV, pPutI, pAug, pVar, pC, pOp, pUn, pI0, pI, pU, pIsN, pNotN, pNil, pCons, pTup, pLst, pFld, pIxL, pIxT, pEq, pNe, pAndV, pOrV, pNotV, pB, pAnd, pOr, pNot, pYes, pIf, pCB, pLen, pListOf, pTupOf, pMin2, pMax2, pCat, pIsTup, pIntOf, pgName, pgNil, pgCons, pgTup, piL, piT, piR1, piR2, piEn, piEnT,
    g0, g0r, gS, v_fr, v_ow, hid_nil, hid_fr, hid_no, hid_ow, keep_t, keep_f, keep_nil, noOw_nil, noOw_fr, noOw_no, noOw_ow, noL_int, noL_bl, noL_str, noL_non, noL_pO, noL_tup, noLL_nil, noLL_cons, stow_eq, len_tup, len_lst, len_scr, at_nat, at_0, at_1, at_2, at_3, sc_int, sc_bl, sc_str, sc_non, sc_pO, vO_inj, vO_int, int_vO, scal_NN, scal_OO, scal_OI, scal_IO, scal_II, scal_SS, scal_BB, isN_pO, isN_int, isN_bl, isN_str, isN_non, isN_tup, isN_lst, isN_ob, pO_some, pO_none,
    List.set_cons_zero, List.set_cons_succ, List.getElem?_cons_zero, List.getElem?_cons_succ, Option.some.injEq, PV.int.injEq, PV.bl.injEq, PV.str.injEq, PV.lst.injEq, PV.tup.injEq, PS.ow.injEq, PS.fr.injEq, List.cons.injEq, exists_eq_left, exists_eq_left', exists_eq_right, exists_and_left, exists_const, and_true, true_and, reduceCtorEq, false_and, and_false, exists_false, if_true, if_false, Bool.false_eq_true, ↓reduceIte, Bool.or_true, Bool.true_or, Bool.or_false, Bool.false_or, Bool.and_true, Bool.true_and, Bool.not_true, Bool.not_false, ite_true, ite_false, exists_eq, exists_eq', and_assoc, decide_eq_true_eq, V.int.injEq, V.str.injEq, V.bl.injEq, and_self, Nat.reduceLeDiff, exists_eq_right', exists_and_right, Option.isNone_none, Option.isNone_some, pFor]
    rw [e3]
    refine ⟨?_, fun i ρ m => m = n ∧ ρ = [.no, .no, .no, .ow none ((((inOrder ss).take i).foldl joinStepG []).map pSt), .no, .no, .no, .no], ⟨rfl, rfl⟩, ?_, ?_⟩
    · rw [← List.length_append, e3, List.length_map]
      omega
    · rintro i y ρ m hy ⟨rfl, rfl⟩
      rw [List.getElem?_map] at hy
      obtain ⟨s, hs, rfl⟩ := Option.map_eq_some_iff.mp hy
      have hst := foldG_take hs
      simp only [pStrOf, pCatS, pSortII, pParOwE, pParOwC, pIsi, pListR2, startP, List.map_cons, List.map_nil, List.length_cons, List.length_nil, Nat.reduceAdd, Nat.reduceSub, List.replicate_succ, List.replicate_zero, List.cons_append, List.nil_append, pSeq, pAsg, pAsgV, pPar, pPar3, pIfS, pRet, pRetN, pDrop, pNext, pNever, pSetOw, pSetD, pPutD, pDGet, pInS, pCKw, pSl, pSlL, pNoPart, pPart, piEn, v_od, PV.dic.injEq, pApp, pAppV, pPutI, pAug, pVar, pC, pOp, pUn, pI0, pI, pU, pIsN, pNotN, pNil, pCons, pTup, pLst, pFld, pIxL, pIxT, pEq, pNe, pAndV, pOrV, pNotV, pB, pAnd, pOr, pNot, pYes, pIf, pCB, pLen, pListOf, pTupOf, pMin2, pMax2, pCat, pIsTup, pIntOf, pgName, pgNil, pgCons, pgTup, piL, piT, piR1, piR2, piEn, piEnT,
    g0, g0r, gS, v_fr, v_ow, hid_nil, hid_fr, hid_no, hid_ow, keep_t, keep_f, keep_nil, noOw_nil, noOw_fr, noOw_no, noOw_ow, noL_int, noL_bl, noL_str, noL_non, noL_pO, noL_tup, noLL_nil, noLL_cons, stow_eq, len_tup, len_lst, len_scr, at_nat, at_0, at_1, at_2, at_3, sc_int, sc_bl, sc_str, sc_non, sc_pO, vO_inj, vO_int, int_vO, scal_NN, scal_OO, scal_OI, scal_IO, scal_II, scal_SS, scal_BB, isN_pO, isN_int, isN_bl, isN_str, isN_non, isN_tup, isN_lst, isN_ob, pO_some, pO_none,
    List.set_cons_zero, List.set_cons_succ, List.getElem?_cons_zero, List.getElem?_cons_succ, Option.some.injEq, PV.int.injEq, PV.bl.injEq, PV.str.injEq, PV.lst.injEq, PV.tup.injEq, PS.ow.injEq, PS.fr.injEq, List.cons.injEq, exists_eq_left, exists_eq_left', exists_eq_right, exists_and_left, exists_const, and_true, true_and, reduceCtorEq, false_and, and_false, exists_false, if_true, if_false, Bool.false_eq_true, ↓reduceIte, Bool.or_true, Bool.true_or, Bool.or_false, Bool.false_or, Bool.and_true, Bool.true_and, Bool.not_true, Bool.not_false, ite_true, ite_false, exists_eq, exists_eq', and_assoc, decide_eq_true_eq, V.int.injEq, V.str.injEq, V.bl.injEq, and_self, Nat.reduceLeDiff, exists_eq_right', exists_and_right, Option.isNone_none, Option.isNone_some, pCall, pPopAsg, hst]
      clear hst
      have hacc := foldG_len ((inOrder ss).take i) []
      have hil : i < (inOrder ss).length := (List.getElem?_eq_some_iff.mp hs).1
      rw [List.length_take] at hacc
      generalize ((inOrder ss).take i).foldl joinStepG [] = acc at hacc
      have hac : acc.length < 100000 := by simp at hacc; omega
      obtain ⟨lo, hi⟩ := s
      simp only [pStrOf, pCatS, pSortII, pParOwE, pParOwC, pIsi, pListR2, startP, List.map_cons, List.map_nil, List.length_cons, List.length_nil, Nat.reduceAdd, Nat.reduceSub, List.replicate_succ, List.replicate_zero, List.cons_append, List.nil_append, pSeq, pAsg, pAsgV, pPar, pPar3, pIfS, pRet, pRetN, pDrop, pNext, pNever, pSetOw, pSetD, pPutD, pDGet, pInS, pCKw, pSl, pSlL, pNoPart, pPart, piEn, v_od, PV.dic.injEq, pApp, pAppV, pPutI, pAug, pVar, pC, pOp, pUn, pI0, pI, pU, pIsN, pNotN, pNil, pCons, pTup, pLst, pFld, pIxL, pIxT, pEq, pNe, pAndV, pOrV, pNotV, pB, pAnd, pOr, pNot, pYes, pIf, pCB, pLen, pListOf, pTupOf, pMin2, pMax2, pCat, pIsTup, pIntOf, pgName, pgNil, pgCons, pgTup, piL, piT, piR1, piR2, piEn, piEnT,
    g0, g0r, gS, v_fr, v_ow, hid_nil, hid_fr, hid_no, hid_ow, keep_t, keep_f, keep_nil, noOw_nil, noOw_fr, noOw_no, noOw_ow, noL_int, noL_bl, noL_str, noL_non, noL_pO, noL_tup, noLL_nil, noLL_cons, stow_eq, len_tup, len_lst, len_scr, at_nat, at_0, at_1, at_2, at_3, sc_int, sc_bl, sc_str, sc_non, sc_pO, vO_inj, vO_int, int_vO, scal_NN, scal_OO, scal_OI, scal_IO, scal_II, scal_SS, scal_BB, isN_pO, isN_int, isN_bl, isN_str, isN_non, isN_tup, isN_lst, isN_ob, pO_some, pO_none,
    List.set_cons_zero, List.set_cons_succ, List.getElem?_cons_zero, List.getElem?_cons_succ, Option.some.injEq, PV.int.injEq, PV.bl.injEq, PV.str.injEq, PV.lst.injEq, PV.tup.injEq, PS.ow.injEq, PS.fr.injEq, List.cons.injEq, exists_eq_left, exists_eq_left', exists_eq_right, exists_and_left, exists_const, and_true, true_and, reduceCtorEq, false_and, and_false, exists_false, if_true, if_false, Bool.false_eq_true, ↓reduceIte, Bool.or_true, Bool.true_or, Bool.or_false, Bool.false_or, Bool.and_true, Bool.true_and, Bool.not_true, Bool.not_false, ite_true, ite_false, exists_eq, exists_eq', and_assoc, decide_eq_true_eq, V.int.injEq, V.str.injEq, V.bl.injEq, and_self, Nat.reduceLeDiff, exists_eq_right', exists_and_right, Option.isNone_none, Option.isNone_some, pSt]
      refine sts_ne_nil (ps := acc) ⟨_, rfl, ?_⟩
      cases hlast : acc.getLast? with
      | none =>
        have h0 : acc = [] := List.getLast?_eq_none_iff.mp hlast
        subst h0
        simp only [pStrOf, pCatS, pSortII, pParOwE, pParOwC, pIsi, pListR2, startP, List.map_cons, List.map_nil, List.length_cons, List.length_nil, Nat.reduceAdd, Nat.reduceSub, List.replicate_succ, List.replicate_zero, List.cons_append, List.nil_append, pSeq, pAsg, pAsgV, pPar, pPar3, pIfS, pRet, pRetN, pDrop, pNext, pNever, pSetOw, pSetD, pPutD, pDGet, pInS, pCKw, pSl, pSlL, pNoPart, pPart, piEn, v_od, PV.dic.injEq, pApp, pAppV, pPutI, pAug, pVar, pC, pOp, pUn, pI0, pI, pU, pIsN, pNotN, pNil, pCons, pTup, pLst, pFld, pIxL, pIxT, pEq, pNe, pAndV, pOrV, pNotV, pB, pAnd, pOr, pNot, pYes, pIf, pCB, pLen, pListOf, pTupOf, pMin2, pMax2, pCat, pIsTup, pIntOf, pgName, pgNil, pgCons, pgTup, piL, piT, piR1, piR2, piEn, piEnT,
    g0, g0r, gS, v_fr, v_ow, hid_nil, hid_fr, hid_no, hid_ow, keep_t, keep_f, keep_nil, noOw_nil, noOw_fr, noOw_no, noOw_ow, noL_int, noL_bl, noL_str, noL_non, noL_pO, noL_tup, noLL_nil, noLL_cons, stow_eq, len_tup, len_lst, len_scr, at_nat, at_0, at_1, at_2, at_3, sc_int, sc_bl, sc_str, sc_non, sc_pO, vO_inj, vO_int, int_vO, scal_NN, scal_OO, scal_OI, scal_IO, scal_II, scal_SS, scal_BB, isN_pO, isN_int, isN_bl, isN_str, isN_non, isN_tup, isN_lst, isN_ob, pO_some, pO_none,
    List.set_cons_zero, List.set_cons_succ, List.getElem?_cons_zero, List.getElem?_cons_succ, Option.some.injEq, PV.int.injEq, PV.bl.injEq, PV.str.injEq, PV.lst.injEq, PV.tup.injEq, PS.ow.injEq, PS.fr.injEq, List.cons.injEq, exists_eq_left, exists_eq_left', exists_eq_right, exists_and_left, exists_const, and_true, true_and, reduceCtorEq, false_and, and_false, exists_false, if_true, if_false, Bool.false_eq_true, ↓reduceIte, Bool.or_true, Bool.true_or, Bool.or_false, Bool.false_or, Bool.and_true, Bool.true_and, Bool.not_true, Bool.not_false, ite_true, ite_false, exists_eq, exists_eq', and_assoc, decide_eq_true_eq, V.int.injEq, V.str.injEq, V.bl.injEq, and_self, Nat.reduceLeDiff, exists_eq_right', exists_and_right, Option.isNone_none, Option.isNone_some, List.isEmpty_nil]
        exact ⟨by decide, rfl⟩
      | some l =>
        obtain ⟨acc0, rfl⟩ : ∃ acc0, acc = acc0 ++ [l] := snoc_of hlast
        obtain ⟨l1, l2⟩ := l
        have hne : (acc0 ++ [(l1, l2)]).isEmpty = false := by simp
        rw [hne]
        simp only [pStrOf, pCatS, pSortII, pParOwE, pParOwC, pIsi, pListR2, startP, List.map_cons, List.map_nil, List.length_cons, List.length_nil, Nat.reduceAdd, Nat.reduceSub, List.replicate_succ, List.replicate_zero, List.cons_append, List.nil_append, pSeq, pAsg, pAsgV, pPar, pPar3, pIfS, pRet, pRetN, pDrop, pNext, pNever, pSetOw, pSetD, pPutD, pDGet, pInS, pCKw, pSl, pSlL, pNoPart, pPart, piEn, v_od, PV.dic.injEq, pApp, pAppV, pPutI, pAug, pVar, pC, pOp, pUn, pI0, pI, pU, pIsN, pNotN, pNil, pCons, pTup, pLst, pFld, pIxL, pIxT, pEq, pNe, pAndV, pOrV, pNotV, pB, pAnd, pOr, pNot, pYes, pIf, pCB, pLen, pListOf, pTupOf, pMin2, pMax2, pCat, pIsTup, pIntOf, pgName, pgNil, pgCons, pgTup, piL, piT, piR1, piR2, piEn, piEnT,
    g0, g0r, gS, v_fr, v_ow, hid_nil, hid_fr, hid_no, hid_ow, keep_t, keep_f, keep_nil, noOw_nil, noOw_fr, noOw_no, noOw_ow, noL_int, noL_bl, noL_str, noL_non, noL_pO, noL_tup, noLL_nil, noLL_cons, stow_eq, len_tup, len_lst, len_scr, at_nat, at_0, at_1, at_2, at_3, sc_int, sc_bl, sc_str, sc_non, sc_pO, vO_inj, vO_int, int_vO, scal_NN, scal_OO, scal_OI, scal_IO, scal_II, scal_SS, scal_BB, isN_pO, isN_int, isN_bl, isN_str, isN_non, isN_tup, isN_lst, isN_ob, pO_some, pO_none,
    List.set_cons_zero, List.set_cons_succ, List.getElem?_cons_zero, List.getElem?_cons_succ, Option.some.injEq, PV.int.injEq, PV.bl.injEq, PV.str.injEq, PV.lst.injEq, PV.tup.injEq, PS.ow.injEq, PS.fr.injEq, List.cons.injEq, exists_eq_left, exists_eq_left', exists_eq_right, exists_and_left, exists_const, and_true, true_and, reduceCtorEq, false_and, and_false, exists_false, if_true, if_false, Bool.false_eq_true, ↓reduceIte, Bool.or_true, Bool.true_or, Bool.or_false, Bool.false_or, Bool.and_true, Bool.true_and, Bool.not_true, Bool.not_false, ite_true, ite_false, exists_eq, exists_eq', and_assoc, decide_eq_true_eq, V.int.injEq, V.str.injEq, V.bl.injEq, and_self, Nat.reduceLeDiff, exists_eq_right', exists_and_right, Option.isNone_none, Option.isNone_some]
        refine ⟨_, at_last (x := pSt (l1, l2)) (by simp), _, rfl, _, at_1, lo, l2, -1, rfl, _, rfl, ?_⟩
        have hstep : joinStepG (acc0 ++ [(l1, l2)]) (lo, hi) = if apart lo l2 (-1) = true then acc0 ++ [(l1, hiMax l2 hi)] else acc0 ++ [(l1, l2)] ++ [(lo, hi)] := by
          unfold joinStepG
          rw [List.getLast?_concat, List.dropLast_concat]
        rw [hstep]
        have hl0 : acc0.length < 100000 := by simp at hac; omega
        cases hap : apart lo l2 (-1) with
        | true =>
          simp only [if_true]
          refine ⟨acc0.map pSt, pSt (l1, l2), by simp, _, rfl, rfl, _, _, rfl, _, _, rfl, rfl, ?_⟩
          cases l2 with
          | none =>
            simp only [pStrOf, pCatS, pSortII, pParOwE, pParOwC, pIsi, pListR2, startP, List.map_cons, List.map_nil, List.length_cons, List.length_nil, Nat.reduceAdd, Nat.reduceSub, List.replicate_succ, List.replicate_zero, List.cons_append, List.nil_append, pSeq, pAsg, pAsgV, pPar, pPar3, pIfS, pRet, pRetN, pDrop, pNext, pNever, pSetOw, pSetD, pPutD, pDGet, pInS, pCKw, pSl, pSlL, pNoPart, pPart, piEn, v_od, PV.dic.injEq, pApp, pAppV, pPutI, pAug, pVar, pC, pOp, pUn, pI0, pI, pU, pIsN, pNotN, pNil, pCons, pTup, pLst, pFld, pIxL, pIxT, pEq, pNe, pAndV, pOrV, pNotV, pB, pAnd, pOr, pNot, pYes, pIf, pCB, pLen, pListOf, pTupOf, pMin2, pMax2, pCat, pIsTup, pIntOf, pgName, pgNil, pgCons, pgTup, piL, piT, piR1, piR2, piEn, piEnT,
    g0, g0r, gS, v_fr, v_ow, hid_nil, hid_fr, hid_no, hid_ow, keep_t, keep_f, keep_nil, noOw_nil, noOw_fr, noOw_no, noOw_ow, noL_int, noL_bl, noL_str, noL_non, noL_pO, noL_tup, noLL_nil, noLL_cons, stow_eq, len_tup, len_lst, len_scr, at_nat, at_0, at_1, at_2, at_3, sc_int, sc_bl, sc_str, sc_non, sc_pO, vO_inj, vO_int, int_vO, scal_NN, scal_OO, scal_OI, scal_IO, scal_II, scal_SS, scal_BB, isN_pO, isN_int, isN_bl, isN_str, isN_non, isN_tup, isN_lst, isN_ob, pO_some, pO_none,
    List.set_cons_zero, List.set_cons_succ, List.getElem?_cons_zero, List.getElem?_cons_succ, Option.some.injEq, PV.int.injEq, PV.bl.injEq, PV.str.injEq, PV.lst.injEq, PV.tup.injEq, PS.ow.injEq, PS.fr.injEq, List.cons.injEq, exists_eq_left, exists_eq_left', exists_eq_right, exists_and_left, exists_const, and_true, true_and, reduceCtorEq, false_and, and_false, exists_false, if_true, if_false, Bool.false_eq_true, ↓reduceIte, Bool.or_true, Bool.true_or, Bool.or_false, Bool.false_or, Bool.and_true, Bool.true_and, Bool.not_true, Bool.not_false, ite_true, ite_false, exists_eq, exists_eq', and_assoc, decide_eq_true_eq, V.int.injEq, V.str.injEq, V.bl.injEq, and_self, Nat.reduceLeDiff, exists_eq_right', exists_and_right, Option.isNone_none, Option.isNone_some]
            exact ⟨by simpa using hl0, by simp [hiMax, pSt, pO]⟩
          | some l2 =>
            cases hi with
            | none =>
              simp only [pStrOf, pCatS, pSortII, pParOwE, pParOwC, pIsi, pListR2, startP, List.map_cons, List.map_nil, List.length_cons, List.length_nil, Nat.reduceAdd, Nat.reduceSub, List.replicate_succ, List.replicate_zero, List.cons_append, List.nil_append, pSeq, pAsg, pAsgV, pPar, pPar3, pIfS, pRet, pRetN, pDrop, pNext, pNever, pSetOw, pSetD, pPutD, pDGet, pInS, pCKw, pSl, pSlL, pNoPart, pPart, piEn, v_od, PV.dic.injEq, pApp, pAppV, pPutI, pAug, pVar, pC, pOp, pUn, pI0, pI, pU, pIsN, pNotN, pNil, pCons, pTup, pLst, pFld, pIxL, pIxT, pEq, pNe, pAndV, pOrV, pNotV, pB, pAnd, pOr, pNot, pYes, pIf, pCB, pLen, pListOf, pTupOf, pMin2, pMax2, pCat, pIsTup, pIntOf, pgName, pgNil, pgCons, pgTup, piL, piT, piR1, piR2, piEn, piEnT,
    g0, g0r, gS, v_fr, v_ow, hid_nil, hid_fr, hid_no, hid_ow, keep_t, keep_f, keep_nil, noOw_nil, noOw_fr, noOw_no, noOw_ow, noL_int, noL_bl, noL_str, noL_non, noL_pO, noL_tup, noLL_nil, noLL_cons, stow_eq, len_tup, len_lst, len_scr, at_nat, at_0, at_1, at_2, at_3, sc_int, sc_bl, sc_str, sc_non, sc_pO, vO_inj, vO_int, int_vO, scal_NN, scal_OO, scal_OI, scal_IO, scal_II, scal_SS, scal_BB, isN_pO, isN_int, isN_bl, isN_str, isN_non, isN_tup, isN_lst, isN_ob, pO_some, pO_none,
    List.set_cons_zero, List.set_cons_succ, List.getElem?_cons_zero, List.getElem?_cons_succ, Option.some.injEq, PV.int.injEq, PV.bl.injEq, PV.str.injEq, PV.lst.injEq, PV.tup.injEq, PS.ow.injEq, PS.fr.injEq, List.cons.injEq, exists_eq_left, exists_eq_left', exists_eq_right, exists_and_left, exists_const, and_true, true_and, reduceCtorEq, false_and, and_false, exists_false, if_true, if_false, Bool.false_eq_true, ↓reduceIte, Bool.or_true, Bool.true_or, Bool.or_false, Bool.false_or, Bool.and_true, Bool.true_and, Bool.not_true, Bool.not_false, ite_true, ite_false, exists_eq, exists_eq', and_assoc, decide_eq_true_eq, V.int.injEq, V.str.injEq, V.bl.injEq, and_self, Nat.reduceLeDiff, exists_eq_right', exists_and_right, Option.isNone_none, Option.isNone_some]
              exact ⟨by simpa using hl0, by simp [hiMax, pSt, pO]⟩
            | some hi =>
              simp only [pStrOf, pCatS, pSortII, pParOwE, pParOwC, pIsi, pListR2, startP, List.map_cons, List.map_nil, List.length_cons, List.length_nil, Nat.reduceAdd, Nat.reduceSub, List.replicate_succ, List.replicate_zero, List.cons_append, List.nil_append, pSeq, pAsg, pAsgV, pPar, pPar3, pIfS, pRet, pRetN, pDrop, pNext, pNever, pSetOw, pSetD, pPutD, pDGet, pInS, pCKw, pSl, pSlL, pNoPart, pPart, piEn, v_od, PV.dic.injEq, pApp, pAppV, pPutI, pAug, pVar, pC, pOp, pUn, pI0, pI, pU, pIsN, pNotN, pNil, pCons, pTup, pLst, pFld, pIxL, pIxT, pEq, pNe, pAndV, pOrV, pNotV, pB, pAnd, pOr, pNot, pYes, pIf, pCB, pLen, pListOf, pTupOf, pMin2, pMax2, pCat, pIsTup, pIntOf, pgName, pgNil, pgCons, pgTup, piL, piT, piR1, piR2, piEn, piEnT,
    g0, g0r, gS, v_fr, v_ow, hid_nil, hid_fr, hid_no, hid_ow, keep_t, keep_f, keep_nil, noOw_nil, noOw_fr, noOw_no, noOw_ow, noL_int, noL_bl, noL_str, noL_non, noL_pO, noL_tup, noLL_nil, noLL_cons, stow_eq, len_tup, len_lst, len_scr, at_nat, at_0, at_1, at_2, at_3, sc_int, sc_bl, sc_str, sc_non, sc_pO, vO_inj, vO_int, int_vO, scal_NN, scal_OO, scal_OI, scal_IO, scal_II, scal_SS, scal_BB, isN_pO, isN_int, isN_bl, isN_str, isN_non, isN_tup, isN_lst, isN_ob, pO_some, pO_none,
    List.set_cons_zero, List.set_cons_succ, List.getElem?_cons_zero, List.getElem?_cons_succ, Option.some.injEq, PV.int.injEq, PV.bl.injEq, PV.str.injEq, PV.lst.injEq, PV.tup.injEq, PS.ow.injEq, PS.fr.injEq, List.cons.injEq, exists_eq_left, exists_eq_left', exists_eq_right, exists_and_left, exists_const, and_true, true_and, reduceCtorEq, false_and, and_false, exists_false, if_true, if_false, Bool.false_eq_true, ↓reduceIte, Bool.or_true, Bool.true_or, Bool.or_false, Bool.false_or, Bool.and_true, Bool.true_and, Bool.not_true, Bool.not_false, ite_true, ite_false, exists_eq, exists_eq', and_assoc, decide_eq_true_eq, V.int.injEq, V.str.injEq, V.bl.injEq, and_self, Nat.reduceLeDiff, exists_eq_right', exists_and_right, Option.isNone_none, Option.isNone_some]
              refine ⟨by simpa using hl0, ?_⟩
              have em : (if hi > l2 then hi else l2) = max l2 hi := by split <;> omega
              rw [em]
              simp [hiMax, pSt, pO]
        | false =>
          simp only [Bool.false_eq_true, if_false]
          exact ⟨by simpa using hac, trivial, by simp [pSt]⟩
    · rintro ρ m ⟨rfl, rfl⟩
      rw [List.length_map, List.take_length]
      simp only [pStrOf, pCatS, pSortII, pParOwE, pParOwC, pIsi, pListR2, startP, List.map_cons, List.map_nil, List.length_cons, List.length_nil, Nat.reduceAdd, Nat.reduceSub, List.replicate_succ, List.replicate_zero, List.cons_append, List.nil_append, pSeq, pAsg, pAsgV, pPar, pPar3, pIfS, pRet, pRetN, pDrop, pNext, pNever, pSetOw, pSetD, pPutD, pDGet, pInS, pCKw, pSl, pSlL, pNoPart, pPart, piEn, v_od, PV.dic.injEq, pApp, pAppV, pPutI, pAug, pVar, pC, pOp, pUn, pI0, pI, pU, pIsN, pNotN, pNil, pCons, pTup, pLst, pFld, pIxL, pIxT, pEq, pNe, pAndV, pOrV, pNotV, pB, pAnd, pOr, pNot, pYes, pIf, pCB, pLen, pListOf, pTupOf, pMin2, pMax2, pCat, pIsTup, pIntOf, pgName, pgNil, pgCons, pgTup, piL, piT, piR1, piR2, piEn, piEnT,
    g0, g0r, gS, v_fr, v_ow, hid_nil, hid_fr, hid_no, hid_ow, keep_t, keep_f, keep_nil, noOw_nil, noOw_fr, noOw_no, noOw_ow, noL_int, noL_bl, noL_str, noL_non, noL_pO, noL_tup, noLL_nil, noLL_cons, stow_eq, len_tup, len_lst, len_scr, at_nat, at_0, at_1, at_2, at_3, sc_int, sc_bl, sc_str, sc_non, sc_pO, vO_inj, vO_int, int_vO, scal_NN, scal_OO, scal_OI, scal_IO, scal_II, scal_SS, scal_BB, isN_pO, isN_int, isN_bl, isN_str, isN_non, isN_tup, isN_lst, isN_ob, pO_some, pO_none,
    List.set_cons_zero, List.set_cons_succ, List.getElem?_cons_zero, List.getElem?_cons_succ, Option.some.injEq, PV.int.injEq, PV.bl.injEq, PV.str.injEq, PV.lst.injEq, PV.tup.injEq, PS.ow.injEq, PS.fr.injEq, List.cons.injEq, exists_eq_left, exists_eq_left', exists_eq_right, exists_and_left, exists_const, and_true, true_and, reduceCtorEq, false_and, and_false, exists_false, if_true, if_false, Bool.false_eq_true, ↓reduceIte, Bool.or_true, Bool.true_or, Bool.or_false, Bool.false_or, Bool.and_true, Bool.true_and, Bool.not_true, Bool.not_false, ite_true, ite_false, exists_eq, exists_eq', and_assoc, decide_eq_true_eq, V.int.injEq, V.str.injEq, V.bl.injEq, and_self, Nat.reduceLeDiff, exists_eq_right', exists_and_right, Option.isNone_none, Option.isNone_some]
      exact ⟨_, Or.inl rfl, q⟩
end
end Age

set_option Elab.async false
set_option linter.all false
set_option maxRecDepth 100000
set_option maxHeartbeats 4000000
/-! J2: the ages with a label -/
namespace Age
open PySem PySem.Spec PyProof.Rows L2 Evl Pu
def emb (p : Str2) : St2 := (some p.1, p.2)
theorem emb_pair (p : Str2) : pSt (emb p) = pPair p := rfl
theorem fold_emb : ∀ (rest acc : List Str2), (∀ l, acc.getLast? = some l → ∀ x ∈ rest, ∃ h, l.2 = some h ∧ h < x.1) → Asc rest → (∀ p ∈ rest, InP p p.1) → (rest.map emb).foldl joinStepG (acc.map emb) = (rest.foldl joinStep acc).map emb
  | [], acc, _, _, _ => rfl
  | x :: rest, acc, h1, h2, h3 => by
    have h2' := List.pairwise_cons.mp h2
    have step : joinStepG (acc.map emb) (emb x) = (joinStep acc x).map emb := by
      cases hl : acc.getLast? with
      | none =>
        have h0 : acc = [] := List.getLast?_eq_none_iff.mp hl
        subst h0
        rfl
      | some l =>
        obtain ⟨acc0, rfl⟩ := snoc_of hl
        obtain ⟨l1, l2⟩ := l
        obtain ⟨h, e, hx⟩ := h1 _ hl x List.mem_cons_self
        have e : l2 = some h := e
        subst e
        have hin := h3 x List.mem_cons_self
        unfold joinStepG joinStep
        rw [hl, List.map_append, List.map_singleton, List.getLast?_concat, List.dropLast_concat, List.dropLast_concat]
        have hap : apart (emb x).1 (emb (l1, some h)).2 (-1) = decide (h - x.1 ≥ -1) := rfl
        by_cases c : h + 1 = x.1
        · simp only [hap]
          rw [if_pos (decide_eq_true (by omega)), if_pos c, List.map_append, List.map_singleton]
          congr 1
          obtain ⟨x1, x2⟩ := x
          have hx : h < x1 := hx
          cases x2 with
          | none => rfl
          | some u =>
            have hu : x1 ≤ u := hin.2 u rfl
            show [((emb (l1, some h)).1, some (max h u))] = [(some l1, some u)]
            rw [show max h u = u by omega]
            rfl
        · simp only [hap]
          rw [if_neg (by simp; omega), if_neg c, List.map_append, List.map_append, List.map_singleton, List.map_singleton]
    rw [List.map_cons, List.foldl_cons, step, List.foldl_cons]
    refine fold_emb rest (joinStep acc x) (fun l hl y hy => ?_) h2'.2 (fun p hp => h3 p (List.mem_cons_of_mem _ hp))
    obtain ⟨lo, hlo⟩ := joinStep_last acc x
    rw [hlo] at hl
    cases hl
    exact h2'.1 y hy
theorem joinG_emb {xs : List Str2} (h2 : Asc xs) (h3 : ∀ p ∈ xs, InP p p.1) : joinG (xs.map emb) = (joinS xs).map emb := by
  have e1 : (xs.map emb).filter (fun s => s.1.isNone) = [] := by
    rw [List.filter_eq_nil_iff]
    intro s hs
    obtain ⟨p, _, rfl⟩ := List.mem_map.mp hs
    simp [emb]
  have e2 : (xs.map emb).filter (fun s => s.1.isSome) = xs.map emb := by
    rw [List.filter_eq_self]
    intro s hs
    obtain ⟨p, _, rfl⟩ := List.mem_map.mp hs
    rfl
  have e3 : sortS (xs.map emb) = xs.map emb := by
    unfold sortS
    refine List.mergeSort_of_pairwise ?_
    rw [List.pairwise_map]
    refine List.Pairwise.imp_of_mem (fun {a b} ha hb ⟨h, e, hx⟩ => ?_) h2
    have := (h3 a ha).2 h e
    exact decide_eq_true (by show a.1 ≤ b.1; omega)
  unfold joinG inOrder
  rw [e1, e2, e3, List.nil_append]
  exact fold_emb xs [] (fun l hl => nomatch hl) h2 h3
def pStrO : Option Str2 → PV
  | none => .non
  | some p => pPair p
def wStretch (cR cS : Addr) : PSp := fun xs n Q => ∃ (s : SpanD) (l : Lab), xs = [pSpanO cR cS s, .str l.1, pO l.2] ∧ SpanOk s ∧ Cok l.2 ∧ Q (pStrO (stretchWith s l.1 l.2)) n
section
variable {P : Program} {w : World} {K : PySem.W.Frag} {mg : Str → Option Value} {base : Heap} {cR cS cW : Addr} {k : Nat} {name : Str} {ps : List Str} {C : Addr}
theorem pu_stretch_with (c : Met P w K mg base CX0 k C name ps (spStretch cR cS)) : Met P w K mg base CX0 k C name ps (lift K (wStretch cR cS)) := c.imp fun vs H Q E ⟨p, c, F, O, n, xs, Q', s, r, ⟨sp, l, e, h1, h2, h3⟩, q⟩ => by
  subst e
  obtain ⟨v1, y1, rfl, r1, r2⟩ := r.cons_inv
  obtain ⟨v2, y2, rfl, r3, r2⟩ := r2.cons_inv
  obtain ⟨v3, y3, rfl, r4, r2⟩ := r2.cons_inv
  cases r2
  obtain ⟨a, rfl, g1⟩ := rep_spanO r1
  rw [r3.getS, rep_oV' r4]
  refine ⟨a, sp, l.1, l.2, rfl, g1.mono s.f, h1, h2, ?_⟩
  cases hst : stretchWith sp l.1 l.2 with
  | none =>
    rw [hst] at h3
    exact fun H2 e => q _ _ _ _ O H2 h3 ⟨Ex.refl _, .refl, s.grow e⟩ .non
  | some pr =>
    rw [hst] at h3
    obtain ⟨lo, hi⟩ := pr
    intro t H2 ht e ht2
    obtain ⟨nb, hb⟩ := s.big e
    exact q _ _ _ _ O H2 h3 nb (.tup (hb _ _ ht2 rfl) (.cons (.int _) (.cons (rep_oV _) .nil)))
theorem ok_ages {f : Addr} {fd : FuncData} (F : Fn K "ages" "Wording.ages" s_Wording_ages f fd) (T : Tx K mg cR cS cW) (c1 : Cal P w K mg base CX0 2 "joined" ["stretches"] (lift K wJoined)) (c2 : Met P w K mg base CX0 3 cS "stretch_with" ["self", "word", "count"] (lift K (wStretch cR cS))) :
    FnOk P w K mg base CX0 4 f fd ["self", "label"] (lift K (wAges cR cS cW)) := by
  obtain ⟨f1, fd1, G_joined, m_joined, k_joined, b_joined⟩ := c1.ex
  obtain ⟨f2, fd2, G_Span_stretch_with, M_Span_stretch_with, b_Span_stretch_with⟩ := c2.ex
  refine okX F sc_Wording_ages (fun xs n Q h => ?_) (fun cdv A outer s H E hr => ⟨_, _, (xss_cons (xs_asg (xv 1) (xg_tup (n := 2) rfl (xgs_cons (xg_name (i := 2) sc_Wording_ages.nd rfl (Or.inr rfl)) (xgs_cons (xg_name (i := 3) sc_Wording_ages.nd rfl (Or.inr rfl)) xgs_nil)))) (xss_cons (xs_setLc (i := 4) (own := [("span", 5)]) rfl sc_Wording_ages.nd rfl rfl (sw_true rfl rfl rfl (by decide +kernel)) (xi_tup (xe_fld (xv 0) rfl)) (blkOk_by (own := [("span", 5)]) (N := ["self", "label", "word", "count", "stretches", "span", "stretch"]) (sc := defScope s_Wording_ages) (by decide +kernel)) (fun _ _ _ _ _ => (xg_name (i := 5) sc_Wording_ages.nd rfl (Or.inl rfl))) (fun _ _ _ _ _ => xts_nil) (fun _ _ _ _ _ => (xe_meth (xv 5) T.span M_Span_stretch_with G_Span_stretch_with (hr.mono (by decide)) b_Span_stretch_with (xa_cons (xv 2) (xa_cons (xv 3) xa_nil))))) (xss_one (xs_ret (xe_call G_joined (hr.mono (by decide)) rfl m_joined k_joined b_joined (xa_cons (xe_lc (own := [("stretch", 6)]) rfl sc_Wording_ages.nd (xi_list (xv 4)) (blkOk_by (own := [("stretch", 6)]) (N := ["self", "label", "word", "count", "stretches", "span", "stretch"]) (sc := defScope s_Wording_ages) (by decide +kernel)) (fun _ _ _ _ _ => (xg_name (i := 6) sc_Wording_ages.nd rfl (Or.inl rfl))) (fun _ _ _ _ _ => (xts_one (xt_cmp (xc_notN (xv 6))))) (fun _ _ _ _ _ => (xv 6))) xa_nil)))))), ?_⟩)
  · obtain ⟨rows, l, rfl, _⟩ := h; rfl
  · rintro _ n Q ⟨rows, l, rfl, ok, hc, q⟩
    have hlen : (spansFrom 0 none rows).length ≤ 1000 := by rw [spansFrom_len]; exact ok.n
    simp only [pStrOf, pCatS, pSortII, pParOwE, pParOwC, pIsi, pListR2, startP, List.map_cons, List.map_nil, List.length_cons, List.length_nil, Nat.reduceAdd, Nat.reduceSub, List.replicate_succ, List.replicate_zero, List.cons_append, List.nil_append, pSeq, pAsg, pAsgV, pPar, pPar3, pIfS, pRet, pRetN, pDrop, pNext, pNever, pSetOw, pSetD, pPutD, pDGet, pInS, pCKw, pSl, pSlL, pNoPart, pPart, piEn, v_od, PV.dic.injEq, pApp, pAppV, pPutI, pAug, pVar, pC, pOp, pUn, pI0, pI, pU, pIsN, pNotN, pNil, pCons, pTup, pLst, pFld, pIxL, pIxT, pEq, pNe, pAndV, pOrV, pNotV, pB, pAnd, pOr, pNot, pYes, pIf, pCB, pLen, pListOf, pTupOf, pMin2, pMax2, pCat, pIsTup, pIntOf, pgName, pgNil, pgCons, pgTup, piL, piT, piR1, piR2, piEn, piEnT,
    g0, g0r, gS, v_fr, v_ow, hid_nil, hid_fr, hid_no, hid_ow, keep_t, keep_f, keep_nil, noOw_nil, noOw_fr, noOw_no, noOw_ow, noL_int, noL_bl, noL_str, noL_non, noL_pO, noL_tup, noLL_nil, noLL_cons, stow_eq, len_tup, len_lst, len_scr, at_nat, at_0, at_1, at_2, at_3, sc_int, sc_bl, sc_str, sc_non, sc_pO, vO_inj, vO_int, int_vO, scal_NN, scal_OO, scal_OI, scal_IO, scal_II, scal_SS, scal_BB, isN_pO, isN_int, isN_bl, isN_str, isN_non, isN_tup, isN_lst, isN_ob, pO_some, pO_none,
    List.set_cons_zero, List.set_cons_succ, List.getElem?_cons_zero, List.getElem?_cons_succ, Option.some.injEq, PV.int.injEq, PV.bl.injEq, PV.str.injEq, PV.lst.injEq, PV.tup.injEq, PS.ow.injEq, PS.fr.injEq, List.cons.injEq, exists_eq_left, exists_eq_left', exists_eq_right, exists_and_left, exists_const, and_true, true_and, reduceCtorEq, false_and, and_false, exists_false, if_true, if_false, Bool.false_eq_true, ↓reduceIte, Bool.or_true, Bool.true_or, Bool.or_false, Bool.false_or, Bool.and_true, Bool.true_and, Bool.not_true, Bool.not_false, ite_true, ite_false, exists_eq, exists_eq', and_assoc, decide_eq_true_eq, V.int.injEq, V.str.injEq, V.bl.injEq, and_self, Nat.reduceLeDiff, exists_eq_right', exists_and_right, Option.isNone_none, Option.isNone_some, pCall, pMeth, pLab, pWord]
    refine lc_map (L := spansFrom 0 none rows) (e := pSpanO cR cS) (f := fun _ => true) (g := fun s => pStrO (stretchWith s l.1 l.2)) (fun R r => by simp only [pStrOf, pCatS, pSortII, pParOwE, pParOwC, pIsi, pListR2, startP, List.map_cons, List.map_nil, List.length_cons, List.length_nil, Nat.reduceAdd, Nat.reduceSub, List.replicate_succ, List.replicate_zero, List.cons_append, List.nil_append, pSeq, pAsg, pAsgV, pPar, pPar3, pIfS, pRet, pRetN, pDrop, pNext, pNever, pSetOw, pSetD, pPutD, pDGet, pInS, pCKw, pSl, pSlL, pNoPart, pPart, piEn, v_od, PV.dic.injEq, pApp, pAppV, pPutI, pAug, pVar, pC, pOp, pUn, pI0, pI, pU, pIsN, pNotN, pNil, pCons, pTup, pLst, pFld, pIxL, pIxT, pEq, pNe, pAndV, pOrV, pNotV, pB, pAnd, pOr, pNot, pYes, pIf, pCB, pLen, pListOf, pTupOf, pMin2, pMax2, pCat, pIsTup, pIntOf, pgName, pgNil, pgCons, pgTup, piL, piT, piR1, piR2, piEn, piEnT,
    g0, g0r, gS, v_fr, v_ow, hid_nil, hid_fr, hid_no, hid_ow, keep_t, keep_f, keep_nil, noOw_nil, noOw_fr, noOw_no, noOw_ow, noL_int, noL_bl, noL_str, noL_non, noL_pO, noL_tup, noLL_nil, noLL_cons, stow_eq, len_tup, len_lst, len_scr, at_nat, at_0, at_1, at_2, at_3, sc_int, sc_bl, sc_str, sc_non, sc_pO, vO_inj, vO_int, int_vO, scal_NN, scal_OO, scal_OI, scal_IO, scal_II, scal_SS, scal_BB, isN_pO, isN_int, isN_bl, isN_str, isN_non, isN_tup, isN_lst, isN_ob, pO_some, pO_none,
    List.set_cons_zero, List.set_cons_succ, List.getElem?_cons_zero, List.getElem?_cons_succ, Option.some.injEq, PV.int.injEq, PV.bl.injEq, PV.str.injEq, PV.lst.injEq, PV.tup.injEq, PS.ow.injEq, PS.fr.injEq, List.cons.injEq, exists_eq_left, exists_eq_left', exists_eq_right, exists_and_left, exists_const, and_true, true_and, reduceCtorEq, false_and, and_false, exists_false, if_true, if_false, Bool.false_eq_true, ↓reduceIte, Bool.or_true, Bool.true_or, Bool.or_false, Bool.false_or, Bool.and_true, Bool.true_and, Bool.not_true, Bool.not_false, ite_true, ite_false, exists_eq, exists_eq', and_assoc, decide_eq_true_eq, V.int.injEq, V.str.injEq, V.bl.injEq, and_self, Nat.reduceLeDiff, exists_eq_right', exists_and_right, Option.isNone_none, Option.isNone_some]; exact ⟨_, _, rfl, ⟨T.wording, T.w2⟩, _, rfl, _, rfl, r⟩) (by omega) (fun s hs R r => ?_) ?_
    · simp only [pStrOf, pCatS, pSortII, pParOwE, pParOwC, pIsi, pListR2, startP, List.map_cons, List.map_nil, List.length_cons, List.length_nil, Nat.reduceAdd, Nat.reduceSub, List.replicate_succ, List.replicate_zero, List.cons_append, List.nil_append, pSeq, pAsg, pAsgV, pPar, pPar3, pIfS, pRet, pRetN, pDrop, pNext, pNever, pSetOw, pSetD, pPutD, pDGet, pInS, pCKw, pSl, pSlL, pNoPart, pPart, piEn, v_od, PV.dic.injEq, pApp, pAppV, pPutI, pAug, pVar, pC, pOp, pUn, pI0, pI, pU, pIsN, pNotN, pNil, pCons, pTup, pLst, pFld, pIxL, pIxT, pEq, pNe, pAndV, pOrV, pNotV, pB, pAnd, pOr, pNot, pYes, pIf, pCB, pLen, pListOf, pTupOf, pMin2, pMax2, pCat, pIsTup, pIntOf, pgName, pgNil, pgCons, pgTup, piL, piT, piR1, piR2, piEn, piEnT,
    g0, g0r, gS, v_fr, v_ow, hid_nil, hid_fr, hid_no, hid_ow, keep_t, keep_f, keep_nil, noOw_nil, noOw_fr, noOw_no, noOw_ow, noL_int, noL_bl, noL_str, noL_non, noL_pO, noL_tup, noLL_nil, noLL_cons, stow_eq, len_tup, len_lst, len_scr, at_nat, at_0, at_1, at_2, at_3, sc_int, sc_bl, sc_str, sc_non, sc_pO, vO_inj, vO_int, int_vO, scal_NN, scal_OO, scal_OI, scal_IO, scal_II, scal_SS, scal_BB, isN_pO, isN_int, isN_bl, isN_str, isN_non, isN_tup, isN_lst, isN_ob, pO_some, pO_none,
    List.set_cons_zero, List.set_cons_succ, List.getElem?_cons_zero, List.getElem?_cons_succ, Option.some.injEq, PV.int.injEq, PV.bl.injEq, PV.str.injEq, PV.lst.injEq, PV.tup.injEq, PS.ow.injEq, PS.fr.injEq, List.cons.injEq, exists_eq_left, exists_eq_left', exists_eq_right, exists_and_left, exists_const, and_true, true_and, reduceCtorEq, false_and, and_false, exists_false, if_true, if_false, Bool.false_eq_true, ↓reduceIte, Bool.or_true, Bool.true_or, Bool.or_false, Bool.false_or, Bool.and_true, Bool.true_and, Bool.not_true, Bool.not_false, ite_true, ite_false, exists_eq, exists_eq', and_assoc, decide_eq_true_eq, V.int.injEq, V.str.injEq, V.bl.injEq, and_self, Nat.reduceLeDiff, exists_eq_right', exists_and_right, Option.isNone_none, Option.isNone_some, wipeP_cons, wipeP_nil, pMeth]
      exact ⟨_, rfl, rfl, s, l, rfl, ok.spans s hs, hc, rfl, by simpa using r⟩
    rw [List.filter_eq_self.mpr fun _ _ => rfl]
    have e0 : ((spansFrom 0 none rows).map fun s => pStrO (stretchWith s l.1 l.2)) = ((spansFrom 0 none rows).map (stretchWith · l.1 l.2)).map pStrO := by rw [List.map_map]; rfl
    rw [e0]
    refine lc_map (L := (spansFrom 0 none rows).map (stretchWith · l.1 l.2)) (e := pStrO) (f := fun o => o.isSome) (g := pStrO) (fun R r => by simp only [pStrOf, pCatS, pSortII, pParOwE, pParOwC, pIsi, pListR2, startP, List.map_cons, List.map_nil, List.length_cons, List.length_nil, Nat.reduceAdd, Nat.reduceSub, List.replicate_succ, List.replicate_zero, List.cons_append, List.nil_append, pSeq, pAsg, pAsgV, pPar, pPar3, pIfS, pRet, pRetN, pDrop, pNext, pNever, pSetOw, pSetD, pPutD, pDGet, pInS, pCKw, pSl, pSlL, pNoPart, pPart, piEn, v_od, PV.dic.injEq, pApp, pAppV, pPutI, pAug, pVar, pC, pOp, pUn, pI0, pI, pU, pIsN, pNotN, pNil, pCons, pTup, pLst, pFld, pIxL, pIxT, pEq, pNe, pAndV, pOrV, pNotV, pB, pAnd, pOr, pNot, pYes, pIf, pCB, pLen, pListOf, pTupOf, pMin2, pMax2, pCat, pIsTup, pIntOf, pgName, pgNil, pgCons, pgTup, piL, piT, piR1, piR2, piEn, piEnT,
    g0, g0r, gS, v_fr, v_ow, hid_nil, hid_fr, hid_no, hid_ow, keep_t, keep_f, keep_nil, noOw_nil, noOw_fr, noOw_no, noOw_ow, noL_int, noL_bl, noL_str, noL_non, noL_pO, noL_tup, noLL_nil, noLL_cons, stow_eq, len_tup, len_lst, len_scr, at_nat, at_0, at_1, at_2, at_3, sc_int, sc_bl, sc_str, sc_non, sc_pO, vO_inj, vO_int, int_vO, scal_NN, scal_OO, scal_OI, scal_IO, scal_II, scal_SS, scal_BB, isN_pO, isN_int, isN_bl, isN_str, isN_non, isN_tup, isN_lst, isN_ob, pO_some, pO_none,
    List.set_cons_zero, List.set_cons_succ, List.getElem?_cons_zero, List.getElem?_cons_succ, Option.some.injEq, PV.int.injEq, PV.bl.injEq, PV.str.injEq, PV.lst.injEq, PV.tup.injEq, PS.ow.injEq, PS.fr.injEq, List.cons.injEq, exists_eq_left, exists_eq_left', exists_eq_right, exists_and_left, exists_const, and_true, true_and, reduceCtorEq, false_and, and_false, exists_false, if_true, if_false, Bool.false_eq_true, ↓reduceIte, Bool.or_true, Bool.true_or, Bool.or_false, Bool.false_or, Bool.and_true, Bool.true_and, Bool.not_true, Bool.not_false, ite_true, ite_false, exists_eq, exists_eq', and_assoc, decide_eq_true_eq, V.int.injEq, V.str.injEq, V.bl.injEq, and_self, Nat.reduceLeDiff, exists_eq_right', exists_and_right, Option.isNone_none, Option.isNone_some]; exact r) (by rw [List.length_map]; omega) (fun o hs R r => ?_) ?_
    · cases o with
      | none => simp only [pStrOf, pCatS, pSortII, pParOwE, pParOwC, pIsi, pListR2, startP, List.map_cons, List.map_nil, List.length_cons, List.length_nil, Nat.reduceAdd, Nat.reduceSub, List.replicate_succ, List.replicate_zero, List.cons_append, List.nil_append, pSeq, pAsg, pAsgV, pPar, pPar3, pIfS, pRet, pRetN, pDrop, pNext, pNever, pSetOw, pSetD, pPutD, pDGet, pInS, pCKw, pSl, pSlL, pNoPart, pPart, piEn, v_od, PV.dic.injEq, pApp, pAppV, pPutI, pAug, pVar, pC, pOp, pUn, pI0, pI, pU, pIsN, pNotN, pNil, pCons, pTup, pLst, pFld, pIxL, pIxT, pEq, pNe, pAndV, pOrV, pNotV, pB, pAnd, pOr, pNot, pYes, pIf, pCB, pLen, pListOf, pTupOf, pMin2, pMax2, pCat, pIsTup, pIntOf, pgName, pgNil, pgCons, pgTup, piL, piT, piR1, piR2, piEn, piEnT,
    g0, g0r, gS, v_fr, v_ow, hid_nil, hid_fr, hid_no, hid_ow, keep_t, keep_f, keep_nil, noOw_nil, noOw_fr, noOw_no, noOw_ow, noL_int, noL_bl, noL_str, noL_non, noL_pO, noL_tup, noLL_nil, noLL_cons, stow_eq, len_tup, len_lst, len_scr, at_nat, at_0, at_1, at_2, at_3, sc_int, sc_bl, sc_str, sc_non, sc_pO, vO_inj, vO_int, int_vO, scal_NN, scal_OO, scal_OI, scal_IO, scal_II, scal_SS, scal_BB, isN_pO, isN_int, isN_bl, isN_str, isN_non, isN_tup, isN_lst, isN_ob, pO_some, pO_none,
    List.set_cons_zero, List.set_cons_succ, List.getElem?_cons_zero, List.getElem?_cons_succ, Option.some.injEq, PV.int.injEq, PV.bl.injEq, PV.str.injEq, PV.lst.injEq, PV.tup.injEq, PS.ow.injEq, PS.fr.injEq, List.cons.injEq, exists_eq_left, exists_eq_left', exists_eq_right, exists_and_left, exists_const, and_true, true_and, reduceCtorEq, false_and, and_false, exists_false, if_true, if_false, Bool.false_eq_true, ↓reduceIte, Bool.or_true, Bool.true_or, Bool.or_false, Bool.false_or, Bool.and_true, Bool.true_and, Bool.not_true, Bool.not_false, ite_true, ite_false, exists_eq, exists_eq', and_assoc, decide_eq_true_eq, V.int.injEq, V.str.injEq, V.bl.injEq, and_self, Nat.reduceLeDiff, exists_eq_right', exists_and_right, Option.isNone_none, Option.isNone_some, wipeP_cons, wipeP_nil, pStrO]; simpa using r
      | some p => simp only [pStrOf, pCatS, pSortII, pParOwE, pParOwC, pIsi, pListR2, startP, List.map_cons, List.map_nil, List.length_cons, List.length_nil, Nat.reduceAdd, Nat.reduceSub, List.replicate_succ, List.replicate_zero, List.cons_append, List.nil_append, pSeq, pAsg, pAsgV, pPar, pPar3, pIfS, pRet, pRetN, pDrop, pNext, pNever, pSetOw, pSetD, pPutD, pDGet, pInS, pCKw, pSl, pSlL, pNoPart, pPart, piEn, v_od, PV.dic.injEq, pApp, pAppV, pPutI, pAug, pVar, pC, pOp, pUn, pI0, pI, pU, pIsN, pNotN, pNil, pCons, pTup, pLst, pFld, pIxL, pIxT, pEq, pNe, pAndV, pOrV, pNotV, pB, pAnd, pOr, pNot, pYes, pIf, pCB, pLen, pListOf, pTupOf, pMin2, pMax2, pCat, pIsTup, pIntOf, pgName, pgNil, pgCons, pgTup, piL, piT, piR1, piR2, piEn, piEnT,
    g0, g0r, gS, v_fr, v_ow, hid_nil, hid_fr, hid_no, hid_ow, keep_t, keep_f, keep_nil, noOw_nil, noOw_fr, noOw_no, noOw_ow, noL_int, noL_bl, noL_str, noL_non, noL_pO, noL_tup, noLL_nil, noLL_cons, stow_eq, len_tup, len_lst, len_scr, at_nat, at_0, at_1, at_2, at_3, sc_int, sc_bl, sc_str, sc_non, sc_pO, vO_inj, vO_int, int_vO, scal_NN, scal_OO, scal_OI, scal_IO, scal_II, scal_SS, scal_BB, isN_pO, isN_int, isN_bl, isN_str, isN_non, isN_tup, isN_lst, isN_ob, pO_some, pO_none,
    List.set_cons_zero, List.set_cons_succ, List.getElem?_cons_zero, List.getElem?_cons_succ, Option.some.injEq, PV.int.injEq, PV.bl.injEq, PV.str.injEq, PV.lst.injEq, PV.tup.injEq, PS.ow.injEq, PS.fr.injEq, List.cons.injEq, exists_eq_left, exists_eq_left', exists_eq_right, exists_and_left, exists_const, and_true, true_and, reduceCtorEq, false_and, and_false, exists_false, if_true, if_false, Bool.false_eq_true, ↓reduceIte, Bool.or_true, Bool.true_or, Bool.or_false, Bool.false_or, Bool.and_true, Bool.true_and, Bool.not_true, Bool.not_false, ite_true, ite_false, exists_eq, exists_eq', and_assoc, decide_eq_true_eq, V.int.injEq, V.str.injEq, V.bl.injEq, and_self, Nat.reduceLeDiff, exists_eq_right', exists_and_right, Option.isNone_none, Option.isNone_some, wipeP_cons, wipeP_nil, pStrO, pPair]; simpa [pStrO, pPair] using r
    have e1 : (((spansFrom 0 none rows).map (stretchWith · l.1 l.2)).filter fun o => o.isSome).map pStrO = (((spansFrom 0 none rows).filterMap (stretchWith · l.1 l.2)).map emb).map pSt := by
      generalize spansFrom 0 none rows = ss
      induction ss with
      | nil => rfl
      | cons s ss ih =>
        cases hst : stretchWith s l.1 l.2 with
        | none => simpa [hst] using ih
        | some p =>
          simp [hst, pStrO, emb_pair]
          simpa [emb_pair] using ih
    rw [e1]
    obtain ⟨fit, ch⟩ := ok.fit
    obtain ⟨a1, a2, _⟩ := raw_spec l.1 l.2 ch fit
    refine ⟨_, rfl, ?_, ?_⟩
    · rw [List.length_map]
      have := List.length_filterMap_le (stretchWith · l.1 l.2) (spansFrom 0 none rows)
      omega
    · rw [joinG_emb a1 (fun p hp => (a2 p hp).1)]
      have e2 : ((joinS ((spansFrom 0 none rows).filterMap (stretchWith · l.1 l.2))).map emb).map pSt = (agesOf rows l.1 l.2).map pPair := by
        rw [List.map_map]
        rfl
      rw [e2]
      exact q
end
end Age

set_option Elab.async false
set_option linter.all false
set_option maxRecDepth 100000
set_option maxHeartbeats 1000000
/-! MZ: what stretches share -/
namespace Age
open PySem PySem.Spec PyProof.Rows L2 Evl Pu PySem.W
def hiO : List Int → Option Int
  | [] => none
  | x :: r => some (r.foldl max x)
def loO : List Int → Option Int
  | [] => none
  | x :: r => some (r.foldl min x)
theorem foldl_max_spec : ∀ (r : List Int) (x : Int), (r.foldl max x = x ∨ r.foldl max x ∈ r) ∧ x ≤ r.foldl max x ∧ ∀ y ∈ r, y ≤ r.foldl max x
  | [], x => ⟨Or.inl rfl, Int.le_refl _, fun y h => (nomatch h)⟩
  | z :: r, x => by
    obtain ⟨h1, h2, h3⟩ := foldl_max_spec r (max x z)
    rw [List.foldl_cons]
    refine ⟨?_, by omega, fun y hy => ?_⟩
    · rcases h1 with e | e
      · rw [e]
        rcases Int.le_total x z with q | q
        · right; rw [Int.max_eq_right q]; exact List.mem_cons_self
        · left; exact Int.max_eq_left q
      · exact Or.inr (List.mem_cons_of_mem _ e)
    · rcases List.mem_cons.mp hy with e | e
      · omega
      · exact h3 y e
theorem foldl_min_spec : ∀ (r : List Int) (x : Int), (r.foldl min x = x ∨ r.foldl min x ∈ r) ∧ r.foldl min x ≤ x ∧ ∀ y ∈ r, r.foldl min x ≤ y
  | [], x => ⟨Or.inl rfl, Int.le_refl _, fun y h => (nomatch h)⟩
  | z :: r, x => by
    obtain ⟨h1, h2, h3⟩ := foldl_min_spec r (min x z)
    rw [List.foldl_cons]
    refine ⟨?_, by omega, fun y hy => ?_⟩
    · rcases h1 with e | e
      · rw [e]
        rcases Int.le_total x z with q | q
        · left; exact Int.min_eq_left q
        · right; rw [Int.min_eq_right q]; exact List.mem_cons_self
      · exact Or.inr (List.mem_cons_of_mem _ e)
    · rcases List.mem_cons.mp hy with e | e
      · omega
      · exact h3 y e
theorem hiO_mem {xs : List Int} {m : Int} (h : hiO xs = some m) : m ∈ xs := by
  cases xs with
  | nil => cases h
  | cons x r =>
    have h : r.foldl max x = m := Option.some.inj h
    rcases (foldl_max_spec r x).1 with e | e
    · rw [← h, e]; exact List.mem_cons_self
    · rw [← h]; exact List.mem_cons_of_mem _ e
theorem hiO_ge {xs : List Int} {y : Int} (hy : y ∈ xs) : ∃ m, hiO xs = some m ∧ y ≤ m := by
  cases xs with
  | nil => cases hy
  | cons x r =>
    refine ⟨_, rfl, ?_⟩
    rcases List.mem_cons.mp hy with e | e
    · rw [e]; exact (foldl_max_spec r x).2.1
    · exact (foldl_max_spec r x).2.2 y e
theorem loO_mem {xs : List Int} {m : Int} (h : loO xs = some m) : m ∈ xs := by
  cases xs with
  | nil => cases h
  | cons x r =>
    have h : r.foldl min x = m := Option.some.inj h
    rcases (foldl_min_spec r x).1 with e | e
    · rw [← h, e]; exact List.mem_cons_self
    · rw [← h]; exact List.mem_cons_of_mem _ e
theorem loO_le {xs : List Int} {y : Int} (hy : y ∈ xs) : ∃ m, loO xs = some m ∧ m ≤ y := by
  cases xs with
  | nil => cases hy
  | cons x r =>
    refine ⟨_, rfl, ?_⟩
    rcases List.mem_cons.mp hy with e | e
    · rw [e]; exact (foldl_min_spec r x).2.1
    · exact (foldl_min_spec r x).2.2 y e
def meetS (ss : List St2) : St2 := (hiO (ss.filterMap (·.1)), loO (ss.filterMap (·.2)))
theorem meet_in {ss : List St2} {h : Int} (a : ∀ s ∈ ss, InS s h) : InS (meetS ss) h := by
  refine ⟨fun l e => ?_, fun u e => ?_⟩
  · obtain ⟨s, hs, e2⟩ := List.mem_filterMap.mp (hiO_mem e)
    exact (a s hs).1 l e2
  · obtain ⟨s, hs, e2⟩ := List.mem_filterMap.mp (loO_mem e)
    exact (a s hs).2 u e2
def SubS (s s' : St2) : Prop := (∀ l', s'.1 = some l' → ∃ l, s.1 = some l ∧ l' ≤ l) ∧ ∀ u', s'.2 = some u' → ∃ u, s.2 = some u ∧ u ≤ u'
theorem SubS.refl (s : St2) : SubS s s := ⟨fun l h => ⟨l, h, Int.le_refl _⟩, fun l h => ⟨l, h, Int.le_refl _⟩⟩
theorem meet_sub {ss ss' : List St2} (a : ∀ s ∈ ss', s ∈ ss) : SubS (meetS ss) (meetS ss') := by
  refine ⟨fun l e => ?_, fun u e => ?_⟩
  · obtain ⟨s, hs, e2⟩ := List.mem_filterMap.mp (hiO_mem e)
    exact hiO_ge (List.mem_filterMap.mpr ⟨s, a s hs, e2⟩)
  · obtain ⟨s, hs, e2⟩ := List.mem_filterMap.mp (loO_mem e)
    exact loO_le (List.mem_filterMap.mpr ⟨s, a s hs, e2⟩)
/-! ### max and min of pairs -/
theorem maxOf_fst : ∀ (r : List (Int × Int)) (y : Int × Int), (maxOf y r).1 = (r.map (·.1)).foldl max y.1
  | [], y => rfl
  | z :: r, y => by
    have ih := maxOf_fst r (if DatumOrd.lt y z = true then z else y)
    have e : maxOf y (z :: r) = maxOf (if DatumOrd.lt y z = true then z else y) r := rfl
    rw [e, ih, List.map_cons, List.foldl_cons]
    congr 1
    have e2 : DatumOrd.lt y z = if y.1 = z.1 then decide (y.2 < z.2) else decide (y.1 < z.1) := rfl
    rw [e2]
    by_cases h : y.1 = z.1
    · rw [if_pos h]
      split <;> omega
    · rw [if_neg h]
      split
      · rename_i q
        have := of_decide_eq_true q
        omega
      · rename_i q
        have : ¬ y.1 < z.1 := fun w => q (decide_eq_true w)
        omega
theorem minOf_fst : ∀ (r : List (Int × Int)) (y : Int × Int), (minOf y r).1 = (r.map (·.1)).foldl min y.1
  | [], y => rfl
  | z :: r, y => by
    have ih := minOf_fst r (if DatumOrd.lt z y = true then z else y)
    have e : minOf y (z :: r) = minOf (if DatumOrd.lt z y = true then z else y) r := rfl
    rw [e, ih, List.map_cons, List.foldl_cons]
    congr 1
    have e2 : DatumOrd.lt z y = if z.1 = y.1 then decide (z.2 < y.2) else decide (z.1 < y.1) := rfl
    rw [e2]
    by_cases h : z.1 = y.1
    · rw [if_pos h]
      split <;> omega
    · rw [if_neg h]
      split
      · rename_i q
        have := of_decide_eq_true q
        omega
      · rename_i q
        have : ¬ z.1 < y.1 := fun w => q (decide_eq_true w)
        omega
/-- the ends that there are, with their places -/
def ends (g : St2 → Option Int) (ss : List St2) : List (Int × Int) := (ss.zipIdx.filter fun p => (g p.1).isSome).map fun p => ((g p.1).getD 0, (p.2 : Int))
theorem ends_fst (g : St2 → Option Int) (ss : List St2) : (ends g ss).map (·.1) = ss.filterMap g := by
  have key : ∀ (ss : List St2) (k : Nat), ((((ss.zipIdx k).filter fun p => (g p.1).isSome).map fun p => ((g p.1).getD 0, (p.2 : Int))).map (·.1)) = ss.filterMap g := by
    intro ss
    induction ss with
    | nil => intro k; rfl
    | cons s ss ih =>
      intro k
      rw [List.zipIdx_cons]
      cases hs : g s with
      | none => rw [List.filter_cons_of_neg (by show ¬ (g s).isSome = true; rw [hs]; decide), List.filterMap_cons_none hs]; exact ih (k + 1)
      | some t =>
        rw [List.filter_cons_of_pos (by show (g s).isSome = true; rw [hs]; rfl), List.filterMap_cons_some hs, List.map_cons, List.map_cons, ih (k + 1)]
        show (g s).getD 0 :: _ = _
        rw [hs]
        rfl
  exact key ss 0
theorem maxOf_mem : ∀ (r : List (Int × Int)) (y : Int × Int), maxOf y r ∈ y :: r
  | [], y => List.mem_cons_self
  | z :: r, y => by
    have ih := maxOf_mem r (if DatumOrd.lt y z = true then z else y)
    have e : maxOf y (z :: r) = maxOf (if DatumOrd.lt y z = true then z else y) r := rfl
    rw [e]
    rcases List.mem_cons.mp ih with h | h
    · rw [h]
      split
      · exact List.mem_cons_of_mem _ List.mem_cons_self
      · exact List.mem_cons_self
    · exact List.mem_cons_of_mem _ (List.mem_cons_of_mem _ h)
theorem minOf_mem : ∀ (r : List (Int × Int)) (y : Int × Int), minOf y r ∈ y :: r
  | [], y => List.mem_cons_self
  | z :: r, y => by
    have ih := minOf_mem r (if DatumOrd.lt z y = true then z else y)
    have e : minOf y (z :: r) = minOf (if DatumOrd.lt z y = true then z else y) r := rfl
    rw [e]
    rcases List.mem_cons.mp ih with h | h
    · rw [h]
      split
      · exact List.mem_cons_of_mem _ List.mem_cons_self
      · exact List.mem_cons_self
    · exact List.mem_cons_of_mem _ (List.mem_cons_of_mem _ h)
theorem ends_mem {g : St2 → Option Int} {ss : List St2} {p : Int × Int} (h : p ∈ ends g ss) : ∃ (i : Nat) (s : St2), ss[i]? = some s ∧ g s = some p.1 ∧ p.2 = (i : Int) := by
  obtain ⟨⟨s, i⟩, hq, rfl⟩ := List.mem_map.mp h
  obtain ⟨h1, h2⟩ := List.mem_filter.mp hq
  have hz := List.mk_mem_zipIdx_iff_getElem?.mp h1
  obtain ⟨v, hv⟩ := Option.isSome_iff_exists.mp h2
  refine ⟨i, s, hz, ?_, rfl⟩
  show g s = some ((g s).getD 0)
  have hv : g s = some v := hv
  rw [hv]
  rfl
end Age

set_option Elab.async false
set_option linter.all false
set_option maxRecDepth 100000
set_option maxHeartbeats 4000000
/-! EE: own errors, how they are made and caught; BadAge raised -/
namespace Age
open PySem PySem.Spec PyProof.Rows L2 Evl Pu PySem.W
/-- an own error's class: how it is made -/
structure ErC (P : Program) (w : World) (K : PySem.W.Frag) (mg : Str → Option Value) (base : Heap) (x : Str) (C : Addr) (names : List Str) : Prop where
  ex : ∃ (fI : Addr) (fd : FuncData), OexC K C ∧ PySem.W.findIn K (.ref C) "__init__" = some (some (.ref fI)) ∧ PySem.W.typeIn K (.ref fI) = some (.type "function") ∧ FnOk P w K mg base CX0 1 fI fd ("self" :: names) (spErrI K C names) ∧ L2.Binds K fd ("self" :: names) [] ∧ mg x = some (.ref C)
/-- what is needed to catch an own error and read its fields -/
structure ErX (K : PySem.W.Frag) (mg : Str → Option Value) (x : Str) (C : Addr) : Prop where
  m : mg x = some (.ref C)
  exm : PySem.W.exmOne K (.ref C) (.ref C) = some true
  xf : XfC K C
/-- the law's table of code objects -/
structure TbL (K : PySem.W.Frag) (base : Heap) (mg : Str → Option Value) : Prop where
  tb : LamX.TabB base mg (He.cT K ("law", none)).1 (He.cT K ("law", none)).2
def wDemandR (cA : Addr) : PSpR := fun xs n _ E => ∃ a : Int, xs = [.int a] ∧ a < 0 ∧ E cA [("age", .int a)] n
section
variable {P : Program} {w : World} {K : PySem.W.Frag} {mg : Str → Option Value} {base : Heap} {cA : Addr}
theorem ok_BadAgeI {C : Addr} {f : Addr} {fd : FuncData} (F : Fn K "__init__" "BadAge.__init__" s_BadAge_init f fd) (n1 : PySem.W.findIn K (.ref C) "age" = some none) : FnOk P w K mg base CX0 1 f fd ["self", "age"] (spErrI K C ["age"]) := by
  refine F.ok sc_BadAge_init (fun vs H Q E h => ?_) (fun cdv A outer s H vs Q E hr h => ?_)
  · obtain ⟨a, ys, rfl, hl, _⟩ := h
    show ys.length + 1 = 2
    rw [hl]
    rfl
  · obtain ⟨a, ys, rfl, hl, ho, ha, q⟩ := h
    obtain ⟨y1, rfl⟩ : ∃ y1, ys = [y1] := by
      match ys, hl with
      | [x], _ => exact ⟨x, rfl⟩
    refine ⟨_, PSs.nox (pss_one (ps_ost (pv 0) (pv 1))), ?_⟩
    refine ⟨y1, rfl, .ref a, rfl, a, C, rfl, ho, n1, Or.inl ⟨ha, fun d hd hda => ?_⟩⟩
    refine q d _ hd (fun b o hb hbo => ?_) (by rw [upd_same]) (by rw [upd_ne hda, upd_same]; rfl)
    have hbd : b ≠ d := fun z => by rw [z, hd] at hbo; cases hbo
    rw [upd_ne hb, upd_ne hbd]
    exact hbo
theorem ok_demandR {f : Addr} {fd : FuncData} (F : Fn K "demand_age" "demand_age" s_demand_age f fd) (e1 : ErC P w K mg base "BadAge" cA ["age"]) : FnOk P w K mg base (L2.CX P w) 3 f fd ["age"] (liftR K (wDemandR cA)) := by
  obtain ⟨f4, fd4, T_BadAge, i_BadAge, t_BadAge, F_BadAge, b_BadAge, m_BadAge⟩ := e1.ex
  refine okXR F sc_demand_age (fun xs n Q E h => ?_) (fun cdv A outer s H E hr tk hpo => ⟨_, _, (xss_one (xs_if (xt_cmpR xo_lt (xv 0) xe_int (nomark _)) (xss_one (xs_raise tk (by rfl) T_BadAge i_BadAge t_BadAge F_BadAge (hr.mono (by decide)) b_BadAge (by rfl) m_BadAge (xa_cons (xv 0) xa_nil))) xss_nil)), ?_⟩)
  · obtain ⟨a, rfl, _⟩ := h; rfl
  · rintro _ n Q E' ⟨a, rfl, ha, q⟩
    simp only [pTold, pIfR, pDropR, pAsgR, pRetR, pRaise, pCallR, pMethR, pTrySet, hC, hFld, hNil, hCons, hTup, hLst, pStrOf, pCatS, pSortII, pParOwE, pParOwC, pIsi, pListR2, startP, List.map_cons, List.map_nil, List.length_cons, List.length_nil, Nat.reduceAdd, Nat.reduceSub, List.replicate_succ, List.replicate_zero, List.cons_append, List.nil_append, pSeq, pAsg, pAsgV, pPar, pPar3, pIfS, pRet, pRetN, pDrop, pNext, pNever, pSetOw, pSetD, pPutD, pDGet, pInS, pCKw, pSl, pSlL, pNoPart, pPart, piEn, v_od, PV.dic.injEq, pApp, pAppV, pPutI, pAug, pVar, pC, pOp, pUn, pI0, pI, pU, pIsN, pNotN, pNil, pCons, pTup, pLst, pFld, pIxL, pIxT, pEq, pNe, pAndV, pOrV, pNotV, pB, pAnd, pOr, pNot, pYes, pIf, pCB, pLen, pListOf, pTupOf, pMin2, pMax2, pCat, pIsTup, pIntOf, pgName, pgNil, pgCons, pgTup, piL, piT, piR1, piR2, piEn, piEnT,
    g0, g0r, gS, v_fr, v_ow, hid_nil, hid_fr, hid_no, hid_ow, keep_t, keep_f, keep_nil, noOw_nil, noOw_fr, noOw_no, noOw_ow, noL_int, noL_bl, noL_str, noL_non, noL_pO, noL_tup, noLL_nil, noLL_cons, stow_eq, len_tup, len_lst, len_scr, at_nat, at_0, at_1, at_2, at_3, sc_int, sc_bl, sc_str, sc_non, sc_pO, vO_inj, vO_int, int_vO, scal_NN, scal_OO, scal_OI, scal_IO, scal_II, scal_SS, scal_BB, isN_pO, isN_int, isN_bl, isN_str, isN_non, isN_tup, isN_lst, isN_ob, pO_some, pO_none,
    List.set_cons_zero, List.set_cons_succ, List.getElem?_cons_zero, List.getElem?_cons_succ, Option.some.injEq, PV.int.injEq, PV.bl.injEq, PV.str.injEq, PV.lst.injEq, PV.tup.injEq, PS.ow.injEq, PS.fr.injEq, List.cons.injEq, exists_eq_left, exists_eq_left', exists_eq_right, exists_and_left, exists_const, and_true, true_and, reduceCtorEq, false_and, and_false, exists_false, if_true, if_false, Bool.false_eq_true, ↓reduceIte, Bool.or_true, Bool.true_or, Bool.or_false, Bool.false_or, Bool.and_true, Bool.true_and, Bool.not_true, Bool.not_false, ite_true, ite_false, exists_eq, exists_eq', and_assoc, decide_eq_true_eq, V.int.injEq, V.str.injEq, V.bl.injEq, and_self, Nat.reduceLeDiff, exists_eq_right', exists_and_right, Option.isNone_none, Option.isNone_some]
    rw [if_pos ha]
    exact q
end
end Age

set_option Elab.async false
set_option linter.all false
set_option maxRecDepth 100000
set_option maxHeartbeats 4000000
/-! J3: what all stretches of a list share, or a Clash -/
namespace Age
open PySem PySem.Spec PyProof.Rows L2 Evl Pu PySem.W
def pStO : Option St2 → PV
  | none => .non
  | some s => pSt s
def wCommon : PSp := fun xs n Q => ∃ ss : List St2, xs = [.lst (ss.map pSt)] ∧ ss.length ≤ 1000 ∧ apart (meetS ss).1 (meetS ss).2 0 = true ∧ Q (pSt (meetS ss)) n
def wCommonR (cC : Addr) : PSpR := fun xs n Q E => ∃ os : List (Option St2), xs = [.lst (os.map pStO)] ∧ os.length ≤ 1000 ∧
  (∀ ss : List St2, os = ss.map some → apart (meetS ss).1 (meetS ss).2 0 = true → Q (pSt (meetS ss)) n) ∧
  (∀ i : Nat, os[i]? = some none → E cC [("second", .int (i : Nat)), ("first", .int (i : Nat))] n) ∧
  ∀ (ss : List St2) (i j : Nat) (si sj : St2) (l u : Int), os = ss.map some → i ≤ j → ss[i]? = some si → ss[j]? = some sj → ((si.1 = some l ∧ sj.2 = some u) ∨ (sj.1 = some l ∧ si.2 = some u)) → u < l → E cC [("second", .int (j : Nat)), ("first", .int (i : Nat))] n
theorem enum_map {α : Type} (f : α → PV) (L : List α) : enum (L.map f) = L.zipIdx.map fun p => .tup [.int (p.2 : Nat), f p.1] := by
  unfold enum
  rw [List.zipIdx_map, List.map_map]
  rfl
section
variable {P : Program} {w : World} {K : PySem.W.Frag} {mg : Str → Option Value} {base : Heap} {cC : Addr}
theorem all_some {os : List (Option St2)} (h : ∀ o ∈ os, o.isSome = true) : ∃ ss : List St2, os = ss.map some := by
  induction os with
  | nil => exact ⟨[], rfl⟩
  | cons o os ih =>
    obtain ⟨ss, e⟩ := ih fun o h' => h o (List.mem_cons_of_mem _ h')
    obtain ⟨s, hs⟩ := Option.isSome_iff_exists.mp (h o List.mem_cons_self)
    exact ⟨s :: ss, by rw [e, hs]; rfl⟩
end
end Age

set_option Elab.async false
set_option linter.all false
set_option maxRecDepth 100000
set_option maxHeartbeats 4000000
/-! W3: the law's own entry -/
namespace Age
open PySem PySem.Spec PyProof.Rows L2 Evl Pu
def spLaw (K : PySem.W.Frag) : Sp := fun vs H Q _ => ∃ (a : Addr) (ns : List Int), vs = [.ref a] ∧ SqL K H a (ns.map V.int) ∧ ns.length ≤ 1000 ∧ (∀ t ∈ tabsOf K, H t.1 = some (.tbl #[]) ∧ K.lookup t.1 = none) ∧ ∀ H', Q (.bl true) H'
theorem lawBody {X : Cx} {K : PySem.W.Frag} {st : Stmt} {rest : List Stmt} {t u : TS} {pt : PTS} (h1 : L2.PS X st t) (h2 : XSs K (fun _ _ _ => False) X rest u pt) : PSs X (st :: rest) (tSeq t u) ∧ SS K (fun _ _ _ => False) u pt := ⟨pss_cons h1 h2.d, h2.s⟩
def noTb : Option HO → Option HO
  | some (.tbl _) => none
  | u => u
theorem noTb_eq {u : Option HO} {o : HO} (h : noTb u = some o) : u = some o ∧ ∀ ps, o ≠ .tbl ps := by
  cases u with
  | none => cases h
  | some u =>
    cases u <;> first | (cases h; exact ⟨rfl, fun _ z => by cases z⟩) | cases h
open Classical in
/-- the law's def, its code object known -/
theorem okLawT {P : Program} {w0 : World} {K : PySem.W.Frag} {mg : Str → Option Value} {base0 : Heap} {x qual : Str} {params : Arguments} {body : List Stmt} {scope : Scope} {dvs : List V} {kws : List (Str × V)} {f : Addr} {fd : FuncData} {N : List Str} {k : Nat} {EX : XK}
    (F : FunD K x qual params body scope dvs kws f fd) (S : FnScope N ["_law_script"] scope) (hN : 2 ≤ N.length)
    (hbody : ∀ (cdv : Value) (A : Around) (outer : List Env) (s : Shared) (H : Hp) (E : XK), (∀ d : He.Defn, f = He.fAd K d → cdv = .ref (He.cT K d).1) → Room k (A.deeper (envOfC qual scope s.heap.objs.size f cdv)) →
      ∃ us pt, (PSs (cxOf CX0 P w0 K mg base0 N qual scope f cdv A outer s H E).nox body (tSeq (tAsg (tCall (spPen K) [] EX (tCons (tVar 0) tNil)) (gName 1)) us) ∧ SS K (fun _ _ _ => False) us pt) ∧
        ∀ m : Nat, m ≤ 1000 → pt { nx := fun _ _ => False, rt := fun x _ => x = .bl true } ((startP N [.scr m]).set 1 (.fr .pen)) 0) : FnOk P w0 K mg base0 CX0 (k + 1) f fd ["_law_script"] (spLaw K) := by
  obtain ⟨oc, od, dV, kV, doc, pm, an, cdv, ct, osl, rfl, lk, hcd, h1, h2⟩ := F.ex
  have hc : ∀ d : He.Defn, f = He.fAd K d → cdv = .ref (He.cT K d).1 := fun d hf => by
    obtain ⟨c, rfl⟩ := He.codeIn_ref hcd
    have := He.codeOf_eq (p := d) (by rw [← hf]; exact lk) rfl
    show Value.ref c = .ref (He.codeOf K d)
    rw [this]
  refine fn_of lk hcd S (fun vs H Q E h => ?_) (fun A outer s H vs Q E hr h => ?_)
  · obtain ⟨a, ns, rfl, _⟩ := h; rfl
  · obtain ⟨a, ns, rfl, hS, hns, hT, k⟩ := h
    obtain ⟨us, pt, ⟨d, sd⟩, hp⟩ := hbody cdv A outer s H E hc hr
    refine ⟨_, PSs.nox d, ?_⟩
    have h0 : (L2.start N [V.ref a])[0]? = some (some (.ref a)) := rfl
    refine ⟨.ref a, h0, a, ns, rfl, hS, fun p c H1 hp0 hc0 e1 hP1 => ?_⟩
    obtain ⟨at_, l, cs, g1, g2, g3, g4, g5⟩ := hP1
    have hcp : c ≠ p := fun z => by rw [z, g1] at g2; cases g2
    have hT1 : ∀ y, isT K y → H1 y = some (.tbl #[]) := fun y ⟨t, ht, e⟩ => by
      have h0 := (hT t ht).1
      rw [e] at h0
      have hyp : y ≠ p := fun z => by rw [z, hp0] at h0; cases h0
      have := e1 y _ h0
      rw [wo_ne hyp] at this
      exact this
    have pT : ¬ isT K p := fun z => by
      have := hT1 p z
      rw [g1] at this
      cases this
    have cT : ¬ isT K c := fun z => by
      have := hT1 c z
      rw [g2] at this
      cases this
    let F0 : Hp := fun y => if y = p then none else if isT K y then none else if y = a ∨ y = c then noTb (H1 y) else none
    let O0 : Hp := fun y => if y = p then H1 p else if isT K y then H1 y else none
    have F0n : ∀ y, y ≠ p → ¬ isT K y → F0 y = if y = a ∨ y = c then noTb (H1 y) else none := fun y h1 h2 => by
      show (if y = p then none else if isT K y then none else if y = a ∨ y = c then noTb (H1 y) else none) = _
      rw [if_neg h1, if_neg h2]
    have hF0 : Ex F0 H1 := fun y o hy => by
      have hy : (if y = p then none else if isT K y then none else if y = a ∨ y = c then noTb (H1 y) else none) = some o := hy
      split at hy
      · cases hy
      · split at hy
        · cases hy
        · split at hy
          · exact (noTb_eq hy).1
          · cases hy
    have st : Pu.St K p c F0 O0 H1 0 := by
      refine ⟨hF0, fun y o hy => ?_, fun y => ?_, fun y u hy => ?_, ⟨at_, l, ?_, g3, g4, g5⟩, ⟨cs, ?_⟩, ⟨fun t ht => ⟨#[], ?_, True.intro, fun pos cv hc => ?_⟩, fun y ps hy => ?_, fun y ps hy => ?_⟩⟩
      · have hy : (if y = p then H1 p else if isT K y then H1 y else none) = some o := hy
        split at hy
        · rename_i e; rw [e]; exact hy
        · split at hy
          · exact hy
          · cases hy
      · show (if y = p then none else if isT K y then none else if y = a ∨ y = c then noTb (H1 y) else none) = none ∨ (if y = p then H1 p else if isT K y then H1 y else none) = none
        by_cases e : y = p
        · exact Or.inl (if_pos e)
        · by_cases e2 : isT K y
          · exact Or.inl (by rw [if_neg e, if_pos e2])
          · exact Or.inr (by rw [if_neg e, if_neg e2])
      · have hy : (if y = p then H1 p else if isT K y then H1 y else none) = some u := hy
        split at hy
        · rw [g1] at hy; cases hy; rfl
        · split at hy
          · rename_i e2; rw [hT1 y e2] at hy; cases hy; rfl
          · cases hy
      · show (if p = p then H1 p else if isT K p then H1 p else none) = _
        rw [if_pos rfl]; exact g1
      · rw [F0n c hcp cT, if_pos (Or.inr rfl), g2]; rfl
      · have h2 : isT K t.1 := ⟨t, ht, rfl⟩
        have h3 : t.1 ≠ p := fun z => pT (z ▸ h2)
        show (if t.1 = p then H1 p else if isT K t.1 then H1 t.1 else none) = _
        rw [if_neg h3, if_pos h2]
        exact hT1 _ h2
      · have z : codeAmong pos [] = some cv := hc
        simp [codeAmong] at z
      · have hy : (if y = p then none else if isT K y then none else if y = a ∨ y = c then noTb (H1 y) else none) = some (HO.tbl ps) := hy
        split at hy
        · cases hy
        · split at hy
          · cases hy
          · split at hy
            · exact (noTb_eq hy).2 ps rfl
            · cases hy
      · have hy : (if y = p then H1 p else if isT K y then H1 y else none) = some (HO.tbl ps) := hy
        split at hy
        · rw [g1] at hy; cases hy
        · split at hy
          · rename_i e2; exact e2
          · cases hy
    have hsq : SqL K F0 a (ns.map V.int) := by
      rcases hS with hS | hS
      · refine Or.inl ?_
        have look : ∀ o, H a = some o → (∀ ps, o ≠ .tbl ps) → F0 a = some o := fun o ho hn => by
          have aT : ¬ isT K a := fun ⟨t, ht, e⟩ => by
            have h0 := (hT t ht).1
            rw [e, ho] at h0
            cases h0
            exact hn _ rfl
          have hap : a ≠ p := fun z => by rw [z, hp0] at ho; cases ho
          have := e1 a o ho
          rw [wo_ne hap] at this
          rw [F0n a hap aT, if_pos (Or.inl rfl), this]
          cases o <;> first | rfl | exact absurd rfl (hn _)
        rcases hS with h | ⟨o, h⟩
        · exact Or.inl (look _ h fun _ z => by cases z)
        · exact Or.inr ⟨o, look _ h fun _ z => by cases z⟩
      · exact Or.inr hS
    have b0 := start_b (K := K) (N := N) (vs := [V.ref a]) (xs := [.scr ns.length]) st (.cons (.scr hsq (by simp)) .nil)
    have b1 := b0.set (i := 1) (v := .ref p) (x := .pen) .pen
    refine sd p c F0 O0 _ { nx := fun _ _ => False, rt := fun x _ => x = .bl true } ⟨fun σ H ρ n F O2 b q => q.elim, fun v x F2 O2 H2 n2 e o s r q => ?_, fun _ _ _ _ _ _ _ h => h.elim, fun _ _ _ _ _ _ _ h => h.elim, fun _ _ _ _ _ _ _ _ _ _ _ _ _ h => h.elim⟩ _ H1 _ 0 F0 O0 b1 (hp ns.length hns)
    have q : x = .bl true := q
    subst q
    rw [r.getB]
    exact k H2
theorem okLaw {P : Program} {w0 : World} {K : PySem.W.Frag} {mg : Str → Option Value} {base0 : Heap} {x qual : Str} {params : Arguments} {body : List Stmt} {scope : Scope} {dvs : List V} {kws : List (Str × V)} {f : Addr} {fd : FuncData} {N : List Str} {k : Nat} {EX : XK}
    (F : FunD K x qual params body scope dvs kws f fd) (S : FnScope N ["_law_script"] scope) (hN : 2 ≤ N.length)
    (hbody : ∀ (cdv : Value) (A : Around) (outer : List Env) (s : Shared) (H : Hp) (E : XK), Room k (A.deeper (envOfC qual scope s.heap.objs.size f cdv)) →
      ∃ us pt, (PSs (cxOf CX0 P w0 K mg base0 N qual scope f cdv A outer s H E).nox body (tSeq (tAsg (tCall (spPen K) [] EX (tCons (tVar 0) tNil)) (gName 1)) us) ∧ SS K (fun _ _ _ => False) us pt) ∧
        ∀ m : Nat, m ≤ 1000 → pt { nx := fun _ _ => False, rt := fun x _ => x = .bl true } ((startP N [.scr m]).set 1 (.fr .pen)) 0) : FnOk P w0 K mg base0 CX0 (k + 1) f fd ["_law_script"] (spLaw K) :=
  okLawT F S hN fun cdv A outer s H E _ hr => hbody cdv A outer s H E hr
end Age

set_option Elab.async false
set_option linter.all false
set_option maxRecDepth 100000
set_option maxHeartbeats 2000000
/-! EX: own errors: what the head tells of their classes -/
namespace Pu
open PySem PySem.Spec PyProof.Rows L2 Evl
def excB (K : PySem.W.Frag) (C : Addr) : Bool := match K.lookup C with
  | some ⟨.type "type", dd, .cls cd, sl⟩ => (match cd.mro, sl.toList with
    | .ref C' :: bm, [_, _, _, _, some (.builtin n), _] => C' == C && (n == "ValueError.__new__" && (!cd.hasDel && (cd.hasDict && PySem.HandSPX.refsVE bm)))
    | _, _ => false)
  | _ => false
theorem excB_ok {K : PySem.W.Frag} {C : Addr} (q : excB K C = true) : ∃ nm q N bs bm sn sub ab col dd k0 k1 k2 k3 k5, K.lookup C = some (excClassObj nm q C N bs bm true sn sub ab col dd k0 k1 k2 k3 k5 "ValueError.__new__") ∧ PySem.HandSPX.refsVE bm = true := by
  unfold excB at q
  split at q
  · rename_i dd cd sl ho
    split at q
    · rename_i C' bm k0 k1 k2 k3 n k5 hm hs
      obtain ⟨h1, q⟩ := Bool.and_eq_true_iff.mp q
      obtain ⟨h2, q⟩ := Bool.and_eq_true_iff.mp q
      obtain ⟨h3, q⟩ := Bool.and_eq_true_iff.mp q
      obtain ⟨h4, h5⟩ := Bool.and_eq_true_iff.mp q
      obtain ⟨nm, bs, mro, ns, qn, hd, sn, sub, ab, col, hdel⟩ := cd
      have e1 : C' = C := beq_iff_eq.mp h1
      have e2 : n = "ValueError.__new__" := beq_iff_eq.mp h2
      have e3 : mro = .ref C' :: bm := hm
      have e4 : hd = true := h4
      have e5 : hdel = false := by
        have h3 : (!hdel) = true := h3
        cases hdel with
        | true => cases h3
        | false => rfl
      have e6 : sl = #[k0, k1, k2, k3, some (.builtin n), k5] := by
        rw [← Array.toArray_toList (xs := sl), hs]
      subst e1 e2 e3 e4 e5 e6
      exact ⟨nm, qn, ns, bs, bm, sn, sub, ab, col, dd, k0, k1, k2, k3, k5, ho, h5⟩
    · cases q
  · cases q
def errB (K : PySem.W.Frag) (fs : List Str) (x : Str) : Bool :=
  excB K (He.ga K x) && (decide (PySem.W.findIn K (.ref (He.ga K x)) "__setattr__" = some (some (.builtin "object.__setattr__"))) && (decide (PySem.W.subIn K (.ref (He.ga K x)) (.type "BaseException") = some true) && (decide (PySem.W.typeIn K (.ref (He.ga K x)) = some (.type "type")) && (PySem.W.keepIn K (.ref (He.ga K x)) &&
  (decide (PySem.W.findIn K (.ref (He.ga K x)) "__init__" = some (some (.ref (He.ma K (He.ga K x) "__init__")))) && (decide (PySem.W.typeIn K (.ref (He.ma K (He.ga K x) "__init__")) = some (.type "function")) && (decide (PySem.W.exmOne K (.ref (He.ga K x)) (.ref (He.ga K x)) = some true) && (xfB K (He.ga K x) &&
  fs.all fun f => decide (PySem.W.findIn K (.ref (He.ga K x)) f = some none)))))))))
structure ErK (K : PySem.W.Frag) (fs : List Str) (x : Str) : Prop where
  o : OexC K (He.ga K x)
  i : PySem.W.findIn K (.ref (He.ga K x)) "__init__" = some (some (.ref (He.ma K (He.ga K x) "__init__")))
  t : PySem.W.typeIn K (.ref (He.ma K (He.ga K x) "__init__")) = some (.type "function")
  m : PySem.W.exmOne K (.ref (He.ga K x)) (.ref (He.ga K x)) = some true
  xf : XfC K (He.ga K x)
  no : ∀ f ∈ fs, PySem.W.findIn K (.ref (He.ga K x)) f = some none
theorem errB_ok {K : PySem.W.Frag} {fs : List Str} {x : Str} (q : errB K fs x = true) : ErK K fs x := by
  unfold errB at q
  obtain ⟨h1, q⟩ := Bool.and_eq_true_iff.mp q
  obtain ⟨h2, q⟩ := Bool.and_eq_true_iff.mp q
  obtain ⟨h3, q⟩ := Bool.and_eq_true_iff.mp q
  obtain ⟨h4, q⟩ := Bool.and_eq_true_iff.mp q
  obtain ⟨h5, q⟩ := Bool.and_eq_true_iff.mp q
  obtain ⟨h6, q⟩ := Bool.and_eq_true_iff.mp q
  obtain ⟨h7, q⟩ := Bool.and_eq_true_iff.mp q
  obtain ⟨h8, q⟩ := Bool.and_eq_true_iff.mp q
  obtain ⟨h9, h10⟩ := Bool.and_eq_true_iff.mp q
  exact ⟨⟨excB_ok h1, of_decide_eq_true h2, of_decide_eq_true h3, of_decide_eq_true h4, h5⟩, of_decide_eq_true h6, of_decide_eq_true h7, of_decide_eq_true h8, xfB_ok h9, fun f hf => of_decide_eq_true (List.all_eq_true.mp h10 f hf)⟩
end Pu

set_option Elab.async false
set_option linter.all false
set_option maxHeartbeats 2000000
namespace Age
open PySem
/-! ### steady rows -/
def Steady (lab : Int → Lab) : Prop := ∀ n m x, 0 ≤ n → n ≤ x → x ≤ m → lab n = lab m → lab x = lab n
/-- rows of one word are one behind another, and go on -/
def Runs (rows : List RowD) : Prop := ∀ (i j : Nat) a b, i ≤ j → rows[i]? = some a → rows[j]? = some b → a.word = b.word → ∀ (m : Nat) r, i ≤ m → m ≤ j → rows[m]? = some r → r.word = a.word ∧ r.unit = a.unit ∧ r.way = a.way
theorem menu_nodup : menuW.Nodup := by decide +kernel
theorem step_word {rows : List RowD} (h : Steps rows) : ∀ (i : Nat) r, rows[i]? = some r → ∃ k, k ≤ i ∧ menuW[k]? = some r.word
  | 0, r, hr => by
    rcases h 0 r hr with z | ⟨j, r', z, _⟩
    · exact ⟨0, Nat.le_refl _, z⟩
    · cases z
  | i + 1, r, hr => by
    rcases h (i + 1) r hr with z | ⟨j, r', z, hr', _, _, hw⟩
    · exact ⟨i + 1, Nat.le_refl _, z⟩
    · have e : j = i := by omega
      subst e
      obtain ⟨k, a, b⟩ := step_word h j r' hr'
      exact ⟨k, by omega, by rw [b, hw]⟩
theorem steps_runs {rows : List RowD} (h : Steps rows) : Runs rows := by
  intro i j
  induction j with
  | zero =>
    intro a b hij ha hb hw m r h1 h2 hr
    have e1 : m = i := by omega
    subst e1
    rw [ha] at hr
    cases hr
    exact ⟨rfl, rfl, rfl⟩
  | succ j ih =>
    intro a b hij ha hb hw m r h1 h2 hr
    by_cases hi : i = j + 1
    · have e1 : m = i := by omega
      subst e1
      rw [ha] at hr
      cases hr
      exact ⟨rfl, rfl, rfl⟩
    · rcases h (j + 1) b hb with z | ⟨j2, r', z, hr', q1, q2, q3⟩
      · exfalso
        obtain ⟨k, k1, k2⟩ := step_word h i a ha
        have hkl := (List.getElem?_eq_some_iff.mp k2).1
        have : k = j + 1 := (List.getElem?_inj hkl menu_nodup).mp (by rw [k2, z, hw])
        omega
      · have e : j2 = j := by omega
        subst e
        have ih2 := ih a r' (by omega) ha hr' (by rw [hw, q3])
        by_cases hm : m = j2 + 1
        · subst hm
          rw [hb] at hr
          cases hr
          have := ih2 j2 r' (by omega) (Nat.le_refl _) hr'
          exact ⟨hw.symm, by rw [q1]; exact this.2.1, by rw [q2]; exact this.2.2⟩
        · exact ih2 m r h1 (by omega) hr
theorem runs_times {rows : List RowD} {f : Int} (h : Runs rows) : Runs (rows.map (timesR f)) := by
  intro i j a b hij ha hb hw m r h1 h2 hr
  rw [List.getElem?_map] at ha hb hr
  obtain ⟨a0, ha0, rfl⟩ := Option.map_eq_some_iff.mp ha
  obtain ⟨b0, hb0, rfl⟩ := Option.map_eq_some_iff.mp hb
  obtain ⟨r0, hr0, rfl⟩ := Option.map_eq_some_iff.mp hr
  obtain ⟨q1, q2, q3⟩ := h i j a0 b0 hij ha0 hb0 hw m r0 h1 h2 hr0
  refine ⟨q1, ?_, q3⟩
  show Option.map (· * f) r0.unit = Option.map (· * f) a0.unit
  rw [q2]
theorem rowNo_ex {rows : List RowD} (hu : UOk 0 rows) (n : Int) : ∃ i r, RowNo rows n i r := by
  obtain ⟨r, hf⟩ := hu.find (n := n)
  obtain ⟨h1, i, hi, e, h2⟩ := List.find?_eq_some_iff_getElem.mp hf
  refine ⟨i, r, ⟨by rw [List.getElem?_eq_getElem hi, e], h1, fun j r' hj hr => ?_⟩⟩
  have := h2 j hj
  have hjl := (List.getElem?_eq_some_iff.mp hr).1
  have e2 := (List.getElem?_eq_some_iff.mp hr).2
  rw [← e2]
  simpa using this
theorem RowNo.mono {rows : List RowD} {n x : Int} {i j : Nat} {r r' : RowD} (h : RowNo rows n i r) (h' : RowNo rows x j r') (hx : n ≤ x) : i ≤ j := by
  rcases Nat.lt_or_ge j i with z | z
  · have := h.no j r' z h'.at_
    rw [hit_mono h'.hit hx] at this
    cases this
  · exact z
theorem steady_of {rows : List RowD} (ok : RowsOk rows) (h : Runs rows) : Steady (labelOf rows) := by
  intro n m x n0 nx xm e
  obtain ⟨i, a, ha⟩ := rowNo_ex ok.u n
  obtain ⟨j, b, hb⟩ := rowNo_ex ok.u m
  obtain ⟨k, r, hr⟩ := rowNo_ex ok.u x
  rw [ha.label, hb.label] at e
  have ew : a.word = b.word := congrArg Prod.fst e
  have ec : cntO a n = cntO b m := congrArg Prod.snd e
  have hik := ha.mono hr nx
  have hkj := hr.mono hb xm
  obtain ⟨q1, q2, q3⟩ := h i j a b (Nat.le_trans hik hkj) ha.at_ hb.at_ ew k r hik hkj hr.at_
  obtain ⟨p1, p2, p3⟩ := h i j a b (Nat.le_trans hik hkj) ha.at_ hb.at_ ew j b (Nat.le_trans hik hkj) (Nat.le_refl _) hb.at_
  rw [hr.label, ha.label, q1]
  congr 1
  cases hu : a.unit with
  | none => rw [cntO_none hu, cntO_none (by rw [q2, hu])]
  | some u =>
    have u0 := ((ok.r a (List.mem_of_getElem? ha.at_)).1.un u hu).1
    rw [cntO_some hu, cntO_some (p2.trans hu), p3] at ec
    rw [cntO_some hu, cntO_some (q2.trans hu), q3]
    have a1 := cnt_mono (w := a.way) u0 nx
    have a2 := cnt_mono (w := a.way) u0 xm
    have d := Option.some.inj ec
    rw [show cnt x u a.way = cnt n u a.way by omega]
/-! ### no label comes back -/
theorem cnt_fst_eq {c u : Int} {w : Str} (hu : 0 < u) : cnt (fst c u w) u w = c := by
  unfold cnt fst
  rw [show c * u - shiftOf u w + shiftOf u w = c * u by omega]
  exact Int.mul_ediv_cancel c (by omega)
section
variable {lab : Int → Lab} {s e : SpanD}
theorem shared_spec (F1 : Fit1 lab s) (F2 : Fit1 lab e) {eh : Int} (hh : e.high = some eh) (hlt : eh < s.low) {b : Int} (h : edgeShared s e = some b) : EdgeF lab b ∧ ∃ x, 0 ≤ x ∧ x < b ∧ lab x = lab b := by
  have hel : e.low ≤ eh := F2.ne.2 eh hh
  have he0 := F2.lo
  unfold edgeShared at h
  split at h
  · rename_i hw
    split at h
    · rename_i hu hv
      split at h
      · rename_i hf
        cases h
        refine ⟨F1.fr.mp hf, e.low, he0, by omega, ?_⟩
        rw [F2.lb _ F2.ne, F1.lb _ F1.ne, cntO_none hu, cntO_none hv, hw]
      · cases h
    · rename_i u v hu hv
      have u0 := F1.un u hu
      have v0 := F2.un v hv
      have hc1 : cnt e.low v e.row.way ≤ sharedFrom s e u v ∧ cnt s.low u s.row.way + (if s.fresh = true then 0 else 1) ≤ sharedFrom s e u v := by
        unfold sharedFrom
        split <;> omega
      generalize sharedFrom s e u v = c at h hc1
      have sp := stretch_spec F1 s.row.word (some c)
      cases hq : stretchWith s s.row.word (some c) with
      | none => rw [hq] at h; cases h
      | some p =>
        rw [hq] at h sp
        obtain ⟨p1, p2, _, p4⟩ := sp
        have h' : (if c > cnt (e.high.getD 0) v e.row.way then none else some p.1) = some b := h
        split at h'
        · cases h'
        · rename_i hcc
          cases h'
          rw [hh] at hcc
          have hcc : ¬ c > cnt eh v e.row.way := hcc
          have hlp := ((p4 p.1).mp p1).2
          have hbl := p2.1
          constructor
          · by_cases hb : p.1 = s.low
            · have hf : s.fresh = true := by
                have e1 := F1.lb _ p2
                rw [hlp, cntO_some hu, hb] at e1
                have e2 : c = cnt s.low u s.row.way := Option.some.inj (congrArg Prod.snd e1)
                cases hf : s.fresh with
                | true => rfl
                | false =>
                  rw [hf] at hc1
                  have := hc1.2
                  simp at this
                  omega
              rw [hb]
              exact F1.fr.mp hf
            · have hl0 := F1.lo
              refine ⟨by omega, fun ee => ?_⟩
              have := (p4 (p.1 - 1)).mpr ⟨seg_pred p2 (by omega), by rw [← ee]; exact hlp⟩
              have := this.1
              omega
          · have hfe : fst c v e.row.way ≤ eh := (cnt_ge v0).mp (by omega)
            by_cases hx : fst c v e.row.way ≤ e.low
            · have g : c ≤ cnt e.low v e.row.way := (cnt_ge v0).mpr hx
              refine ⟨e.low, he0, by omega, ?_⟩
              rw [F2.lb _ F2.ne, hlp, cntO_some hv, hw, show cnt e.low v e.row.way = c by omega]
            · refine ⟨fst c v e.row.way, by omega, by omega, ?_⟩
              rw [F2.lb _ ⟨by omega, fun h z => by rw [hh] at z; cases z; exact hfe⟩, hlp, cntO_some hv, hw, cnt_fst_eq v0]
    · cases h
  · cases h
end
theorem chain_lt {ss : List SpanD} {b0 : Int} (hc : Chain b0 ss) : ∀ {i j : Nat} {s e : SpanD}, ss[j]? = some e → ss[i]? = some s → j < i → ∃ eh, e.high = some eh ∧ eh < s.low := by
  induction hc with
  | last h1 h2 =>
    intro i j s e hj hi hji
    have := (List.getElem?_eq_some_iff.mp hi).1
    simp at this
    omega
  | more h1 h2 h3 h4 ih =>
    intro i j s e hj hi hji
    cases i with
    | zero => omega
    | succ i =>
      rw [List.getElem?_cons_succ] at hi
      cases j with
      | zero =>
        have e1 := Option.some.inj hj
        rw [← e1]
        have := h4.low s (List.mem_of_getElem? hi)
        exact ⟨_, h2, by omega⟩
      | succ j =>
        rw [List.getElem?_cons_succ] at hj
        exact ih hj hi (by omega)
theorem returns_none {lab : Int → Lab} {ss : List SpanD} (hc : Chain 0 ss) (F : Fit lab ss) (st : Steady lab) : returnsOf ss = none := by
  have ha : ∀ i, againAt ss i = [] := fun i => by
    unfold againAt
    cases hs : ss[i]? with
    | none => rfl
    | some s =>
      refine List.filterMap_eq_nil_iff.mpr fun e he => ?_
      obtain ⟨j, hj⟩ := List.mem_iff_getElem?.mp he
      have hji : j < i := by
        have := (List.getElem?_eq_some_iff.mp hj).1
        rw [List.length_take] at this
        omega
      rw [List.getElem?_take_of_lt hji] at hj
      obtain ⟨eh, hh, hlt⟩ := chain_lt hc hj hs hji
      cases hq : edgeShared s e with
      | none => rfl
      | some b =>
        exfalso
        obtain ⟨hb, x, x0, x1, x2⟩ := shared_spec (F s (List.mem_of_getElem? hs)) (F e (List.mem_of_getElem? hj)) hh hlt hq
        exact hb.2 (by rw [st x b (b - 1) x0 (by omega) (by omega) x2]; exact x2.symm)
  have : ∀ k i, retFrom ss k i = none := by
    intro k
    induction k with
    | zero => intro i; rfl
    | succ k ih =>
      intro i
      unfold retFrom
      rw [ha i]
      exact ih (i + 1)
  exact this _ _
/-! ### the ages of a label -/
theorem ages_one {rows : List RowD} (ok : RowsOk rows) (st : Steady (labelOf rows)) {n : Int} (hn : 0 ≤ n) : agesOf rows (labelOf rows n).1 (labelOf rows n).2 = [(lastEdge (spansFrom 0 none rows) n, (laterEdge (spansFrom 0 none rows) n).map (· - 1))] := by
  obtain ⟨g, ne, un⟩ := ages_spec ok (labelOf rows n).1 (labelOf rows n).2
  obtain ⟨p, hp, hi⟩ := (un n).mpr ⟨hn, rfl⟩
  obtain ⟨e1, e2, e3, e4⟩ := ages_ends ok hp
  -- no two
  have no2 : ∀ a ∈ agesOf rows (labelOf rows n).1 (labelOf rows n).2, ∀ b ∈ agesOf rows (labelOf rows n).1 (labelOf rows n).2, ¬ ∃ h, a.2 = some h ∧ h + 1 < b.1 := by
    rintro a ha b hb ⟨h, h1, h2⟩
    obtain ⟨a1, a2, a3, a4⟩ := ages_ends ok ha
    obtain ⟨b1, b2, b3, b4⟩ := ages_ends ok hb
    have hla := a2 a.1 (ne a ha)
    have hlb := b2 b.1 (ne b hb)
    have hah := (ne a ha).2 h h1
    have l1 := st a.1 b.1 h a1 (by omega) (by omega) (by rw [hla, hlb])
    have l2 := st a.1 b.1 (h + 1) a1 (by omega) (by omega) (by rw [hla, hlb])
    exact (a4 h h1).2 (by rw [show h + 1 - 1 = h by omega, l1, l2])
  have hps : agesOf rows (labelOf rows n).1 (labelOf rows n).2 = [p] := by
    generalize agesOf rows (labelOf rows n).1 (labelOf rows n).2 = ps at hp g no2
    match ps, hp, g, no2 with
    | [q], hp, _, _ => rw [List.mem_singleton.mp hp]
    | a :: b :: r, _, g, no2 =>
      exact absurd ((List.pairwise_cons.mp g).1 b List.mem_cons_self) (no2 a List.mem_cons_self b (List.mem_cons_of_mem _ List.mem_cons_self))
  have hL : LastE (labelOf rows) n p.1 := ⟨e1, hi.1, e3, fun x h1 h2 ee => ee.2 (by
    rw [e2 x ⟨by omega, fun h z => by have := hi.2 h z; omega⟩, e2 (x - 1) ⟨by omega, fun h z => by have := hi.2 h z; omega⟩])⟩
  have hN : NextO (labelOf rows) n (p.2.map (· + 1)) := by
    cases hq : p.2 with
    | none => exact fun x hx ee => ee.2 (by rw [e2 x ⟨by have := hi.1; omega, fun h z => by rw [hq] at z; cases z⟩, e2 (x - 1) ⟨by have := hi.1; omega, fun h z => by rw [hq] at z; cases z⟩])
    | some h =>
      have hnh := hi.2 h hq
      show NextE (labelOf rows) n (h + 1)
      refine ⟨by omega, e4 h hq, fun x h1 h2 ee => ee.2 ?_⟩
      rw [e2 x ⟨by have := hi.1; omega, fun h' z => by rw [hq] at z; cases z; omega⟩, e2 (x - 1) ⟨by have := hi.1; omega, fun h' z => by rw [hq] at z; cases z; omega⟩]
  rw [hps, LastE.uniq (last_spec ok hn) hL, NextO.uniq (later_next ok hn) hN]
  obtain ⟨lo, hi2⟩ := p
  cases hi2 with
  | none => rfl
  | some h =>
    show [(lo, some h)] = [(lo, some (h + 1 - 1))]
    rw [show h + 1 - 1 = h by omega]
/-! ### counting -/
section
variable {rows : List RowD} {n b : Int}
theorem numE_flat2 (ok : RowsOk rows) (hn : 0 ≤ n) {m : Int} (hnm : n ≤ m) (h : ∀ x, n < x → x ≤ m → ¬ EdgeF (labelOf rows) x) : numE (spansFrom 0 none rows) m = numE (spansFrom 0 none rows) n := by
  obtain ⟨F, hc⟩ := ok.fit
  have := numE_flat hc F hn (m - n).toNat (fun x x1 x2 => h x x1 (by omega))
  rw [show n + ((m - n).toNat : Int) = m by omega] at this
  exact this
theorem numE_edge (ok : RowsOk rows) (h0 : 0 ≤ b) (h : EdgeF (labelOf rows) b) : numE (spansFrom 0 none rows) b = numE (spansFrom 0 none rows) (b - 1) + 1 := by
  obtain ⟨F, hc⟩ := ok.fit
  have := numE_step (lab := labelOf rows) b hc F h0
  have e : eI (labelOf rows) b = 1 := if_pos h
  omega
theorem numE_next (ok : RowsOk rows) (hn : 0 ≤ n) (h : NextE (labelOf rows) n b) : numE (spansFrom 0 none rows) b = numE (spansFrom 0 none rows) n + 1 ∧ numE (spansFrom 0 none rows) (b - 1) = numE (spansFrom 0 none rows) n := by
  have h1 := h.gt
  have h2 := numE_flat2 ok hn (m := b - 1) (by omega) (fun x x1 x2 => h.no x x1 (by omega))
  have h3 := numE_edge ok (by omega) h.ed
  omega
theorem numE_up (ok : RowsOk rows) (hn : 0 ≤ n) : ∀ k : Nat, numE (spansFrom 0 none rows) n ≤ numE (spansFrom 0 none rows) (n + k)
  | 0 => by simp
  | k + 1 => by
    have ih := numE_up ok hn k
    obtain ⟨F, hc⟩ := ok.fit
    have := numE_step (lab := labelOf rows) (n + ((k + 1 : Nat) : Int)) hc F (by omega)
    rw [show n + ((k + 1 : Nat) : Int) - 1 = n + k by omega] at this
    have : 0 ≤ eI (labelOf rows) (n + ((k + 1 : Nat) : Int)) := by unfold eI; split <;> decide
    omega
theorem numE_le (ok : RowsOk rows) (hn : 0 ≤ n) {m : Int} (h : n ≤ m) : numE (spansFrom 0 none rows) n ≤ numE (spansFrom 0 none rows) m := by
  have := numE_up ok hn (m - n).toNat
  rw [show n + ((m - n).toNat : Int) = m by omega] at this
  exact this
theorem same_iff (ok : RowsOk rows) (st : Steady (labelOf rows)) (hn : 0 ≤ n) {m : Int} (hnm : n ≤ m) : labelOf rows n = labelOf rows m ↔ numE (spansFrom 0 none rows) m - numE (spansFrom 0 none rows) n = 0 := by
  constructor
  · intro e
    have := numE_flat2 ok hn hnm (flat_no (lab := labelOf rows) (x := n) (y := m) fun z z1 z2 => st n m z hn z1 z2 e)
    omega
  · intro e
    refine (flat (lab := labelOf rows) hn (fun x x1 x2 ee => ?_) hnm).symm
    have h1 := numE_edge ok (by omega) ee
    have h2 := numE_le ok hn (show n ≤ x - 1 by omega)
    have h3 := numE_le ok (n := x) (by omega) x2
    omega
end
end Age

set_option Elab.async false
set_option linter.all false
set_option maxRecDepth 100000
set_option maxHeartbeats 4000000
/-! Q29a: two wordings beside each other -/
namespace Age
open PySem PySem.Spec PyProof.Rows L2 Evl Pu
theorem word_later {cR cS cW : Addr} {rows : List RowD} : ∃ fs, pWord cR cS cW rows = PV.ob cW fs ∧ List.lookup (Str.ofString "later_edge") fs = none := ⟨_, rfl, rfl⟩
theorem word_label {cR cS cW : Addr} {rows : List RowD} : ∃ fs, pWord cR cS cW rows = PV.ob cW fs ∧ List.lookup (Str.ofString "label") fs = none := ⟨_, rfl, rfl⟩
theorem some_ints (L : List (Option Int)) : ((L.filter fun o => o.isSome).map pO) = (L.filterMap id).map PV.int := by
  induction L with
  | nil => rfl
  | cons o L ih =>
    cases o with
    | none => exact ih
    | some v => rw [List.filter_cons_of_pos (by rfl), List.filterMap_cons_some (by rfl), List.map_cons, List.map_cons, ih]; rfl
theorem toD_lab (l : Str × Option Int) : toD (pLab l) = some (dL l) := by
  unfold pLab dL
  refine toD_tup ?_
  show (match some (PyData.str l.1), (match toD (pO l.2), toDL [] with
      | some d, some ds => some (d :: ds)
      | _, _ => none) with
      | some d, some ds => some (d :: ds)
      | _, _ => none) = _
  rw [toD_pO]
  rfl
theorem lab_ne2 {l m : Lab} {Q : PV → Prop} (h1 : PyData.strOk l.1 = true) (h2 : PyData.strOk m.1 = true) (q : Q (.bl (!decide (l = m)))) : pNeD (pLab l) (pLab m) Q :=
  neD_of (toD_lab l) (toD_lab m) (shaped_dL _ h1) (shaped_dL _ h2) (by rw [eqv_dL]; exact q)
def lows (rows : List RowD) : List Int := (spansFrom 0 none rows).map (·.low)
def wStarts (cR cS cW : Addr) : PSp := fun xs n Q => ∃ r1 r2 : List RowD, xs = [pWord cR cS cW r1, pWord cR cS cW r2] ∧ r1.length ≤ 30 ∧ r2.length ≤ 30 ∧ ∀ ms : List Int, ms.Pairwise (· < ·) → (∀ k, k ∈ ms ↔ k ∈ lows r1 ++ lows r2) → Q (.lst (ms.map PV.int)) n
def minO : List Int → Option Int
  | [] => none
  | y :: r => some (W.minOf y r)
def nextE (r1 r2 : List RowD) (a : Int) : Option Int := minO ([laterEdge (spansFrom 0 none r1) a, laterEdge (spansFrom 0 none r2) a].filterMap id)
def wNextE (cR cS cW : Addr) : PSp := fun xs n Q => ∃ (r1 r2 : List RowD) (a : Int), xs = [pWord cR cS cW r1, pWord cR cS cW r2, .int a] ∧ RowsOk r1 ∧ RowsOk r2 ∧ Ag a ∧ Q (pO (nextE r1 r2 a)) n
def triesOf (r1 r2 : List RowD) (a : Int) : List Int := a :: match nextE r1 r2 a with
  | none => []
  | some b => b :: (nextE r1 r2 b).toList
def wTries (cR cS cW : Addr) : PSp := fun xs n Q => ∃ (r1 r2 : List RowD) (a : Int), xs = [pWord cR cS cW r1, pWord cR cS cW r2, .int a] ∧ RowsOk r1 ∧ RowsOk r2 ∧ Ag a ∧ (∀ b, nextE r1 r2 a = some b → Ag b) ∧ Q (.lst ((triesOf r1 r2 a).map PV.int)) n
def alikeL (r1 r2 : List RowD) (ms : List Int) : Option Int := (ms.flatMap (triesOf r1 r2)).find? fun a => !decide (labelOf r1 a = labelOf r2 a)
def wAlike (cR cS cW : Addr) : PSp := fun xs n Q => ∃ (r1 r2 : List RowD), xs = [pWord cR cS cW r1, pWord cR cS cW r2] ∧ r1.length ≤ 30 ∧ r2.length ≤ 30 ∧ RowsOk r1 ∧ RowsOk r2 ∧ (∀ st ∈ lows r1 ++ lows r2, Ag st ∧ ∀ b, nextE r1 r2 st = some b → Ag b) ∧ (∀ st ∈ lows r1 ++ lows r2, ∀ a ∈ triesOf r1 r2 st, 0 ≤ a) ∧
  ∀ ms : List Int, ms.Pairwise (· < ·) → (∀ k, k ∈ ms ↔ k ∈ lows r1 ++ lows r2) → Q (pO (alikeL r1 r2 ms)) n
section
variable {P : Program} {w : World} {K : PySem.W.Frag} {mg : Str → Option Value} {base : Heap} {cR cS cW : Addr}
theorem ok_starts {f : Addr} {fd : FuncData} (F : Fn K "starts" "starts" s_starts f fd) (T : Tx K mg cR cS cW) (B : Bn mg) : FnOk P w K mg base CX0 1 f fd ["one", "other"] (lift K (wStarts cR cS cW)) := by
  refine okX F sc_starts (fun xs n Q h => ?_) (fun cdv A outer s H E hr => ⟨_, _, (xss_one (xs_ret (xe_sortSet rfl (by rfl) B.sorted (by rfl) B.set (xa_cons (xe_lc (own := [("span", 2)]) rfl sc_starts.nd (xi_tup (xe_op xo_catA (xe_fld (xv 0) rfl) (xe_fld (xv 1) rfl))) (blkOk_by (own := [("span", 2)]) (N := ["one", "other", "span"]) (sc := defScope s_starts) (by decide +kernel)) (fun _ _ _ _ _ => (xg_name (i := 2) sc_starts.nd rfl (Or.inl rfl))) (fun _ _ _ _ _ => xts_nil) (fun _ _ _ _ _ => (xe_fld (xv 2) rfl))) xa_nil)))), ?_⟩)
  · obtain ⟨r1, r2, rfl, _⟩ := h; rfl
  · rintro _ n Q ⟨r1, r2, rfl, h1, h2, q⟩
    simp only [pStrOf, pCatS, pSortII, pParOwE, pParOwC, pIsi, pListR2, startP, List.map_cons, List.map_nil, List.length_cons, List.length_nil, Nat.reduceAdd, Nat.reduceSub, List.replicate_succ, List.replicate_zero, List.cons_append, List.nil_append, pSeq, pAsg, pAsgV, pPar, pPar3, pIfS, pRet, pRetN, pDrop, pNext, pNever, pSetOw, pSetD, pPutD, pDGet, pInS, pCKw, pSl, pSlL, pNoPart, pPart, piEn, v_od, PV.dic.injEq, pApp, pAppV, pPutI, pAug, pVar, pC, pOp, pUn, pI0, pI, pU, pIsN, pNotN, pNil, pCons, pTup, pLst, pFld, pIxL, pIxT, pEq, pNe, pAndV, pOrV, pNotV, pB, pAnd, pOr, pNot, pYes, pIf, pCB, pLen, pListOf, pTupOf, pMin2, pMax2, pCat, pIsTup, pIntOf, pgName, pgNil, pgCons, pgTup, piL, piT, piR1, piR2, piEn, piEnT,
    g0, g0r, gS, v_fr, v_ow, hid_nil, hid_fr, hid_no, hid_ow, keep_t, keep_f, keep_nil, noOw_nil, noOw_fr, noOw_no, noOw_ow, noL_int, noL_bl, noL_str, noL_non, noL_pO, noL_tup, noLL_nil, noLL_cons, stow_eq, len_tup, len_lst, len_scr, at_nat, at_0, at_1, at_2, at_3, sc_int, sc_bl, sc_str, sc_non, sc_pO, vO_inj, vO_int, int_vO, scal_NN, scal_OO, scal_OI, scal_IO, scal_II, scal_SS, scal_BB, isN_pO, isN_int, isN_bl, isN_str, isN_non, isN_tup, isN_lst, isN_ob, pO_some, pO_none,
    List.set_cons_zero, List.set_cons_succ, List.getElem?_cons_zero, List.getElem?_cons_succ, Option.some.injEq, PV.int.injEq, PV.bl.injEq, PV.str.injEq, PV.lst.injEq, PV.tup.injEq, PS.ow.injEq, PS.fr.injEq, List.cons.injEq, exists_eq_left, exists_eq_left', exists_eq_right, exists_and_left, exists_const, and_true, true_and, reduceCtorEq, false_and, and_false, exists_false, if_true, if_false, Bool.false_eq_true, ↓reduceIte, Bool.or_true, Bool.true_or, Bool.or_false, Bool.false_or, Bool.and_true, Bool.true_and, Bool.not_true, Bool.not_false, ite_true, ite_false, exists_eq, exists_eq', and_assoc, decide_eq_true_eq, V.int.injEq, V.str.injEq, V.bl.injEq, and_self, Nat.reduceLeDiff, exists_eq_right', exists_and_right, Option.isNone_none, Option.isNone_some, pSortSet]
    refine lc_map (L := spansFrom 0 none r1 ++ spansFrom 0 none r2) (e := pSpanO cR cS) (f := fun _ => true) (g := fun s => .int s.low) (fun R r => ?_) (by rw [List.length_append, spansFrom_len, spansFrom_len]; omega) (fun z _ R r => ?_) ?_
    · simp only [pStrOf, pCatS, pSortII, pParOwE, pParOwC, pIsi, pListR2, startP, List.map_cons, List.map_nil, List.length_cons, List.length_nil, Nat.reduceAdd, Nat.reduceSub, List.replicate_succ, List.replicate_zero, List.cons_append, List.nil_append, pSeq, pAsg, pAsgV, pPar, pPar3, pIfS, pRet, pRetN, pDrop, pNext, pNever, pSetOw, pSetD, pPutD, pDGet, pInS, pCKw, pSl, pSlL, pNoPart, pPart, piEn, v_od, PV.dic.injEq, pApp, pAppV, pPutI, pAug, pVar, pC, pOp, pUn, pI0, pI, pU, pIsN, pNotN, pNil, pCons, pTup, pLst, pFld, pIxL, pIxT, pEq, pNe, pAndV, pOrV, pNotV, pB, pAnd, pOr, pNot, pYes, pIf, pCB, pLen, pListOf, pTupOf, pMin2, pMax2, pCat, pIsTup, pIntOf, pgName, pgNil, pgCons, pgTup, piL, piT, piR1, piR2, piEn, piEnT,
    g0, g0r, gS, v_fr, v_ow, hid_nil, hid_fr, hid_no, hid_ow, keep_t, keep_f, keep_nil, noOw_nil, noOw_fr, noOw_no, noOw_ow, noL_int, noL_bl, noL_str, noL_non, noL_pO, noL_tup, noLL_nil, noLL_cons, stow_eq, len_tup, len_lst, len_scr, at_nat, at_0, at_1, at_2, at_3, sc_int, sc_bl, sc_str, sc_non, sc_pO, vO_inj, vO_int, int_vO, scal_NN, scal_OO, scal_OI, scal_IO, scal_II, scal_SS, scal_BB, isN_pO, isN_int, isN_bl, isN_str, isN_non, isN_tup, isN_lst, isN_ob, pO_some, pO_none,
    List.set_cons_zero, List.set_cons_succ, List.getElem?_cons_zero, List.getElem?_cons_succ, Option.some.injEq, PV.int.injEq, PV.bl.injEq, PV.str.injEq, PV.lst.injEq, PV.tup.injEq, PS.ow.injEq, PS.fr.injEq, List.cons.injEq, exists_eq_left, exists_eq_left', exists_eq_right, exists_and_left, exists_const, and_true, true_and, reduceCtorEq, false_and, and_false, exists_false, if_true, if_false, Bool.false_eq_true, ↓reduceIte, Bool.or_true, Bool.true_or, Bool.or_false, Bool.false_or, Bool.and_true, Bool.true_and, Bool.not_true, Bool.not_false, ite_true, ite_false, exists_eq, exists_eq', and_assoc, decide_eq_true_eq, V.int.injEq, V.str.injEq, V.bl.injEq, and_self, Nat.reduceLeDiff, exists_eq_right', exists_and_right, Option.isNone_none, Option.isNone_some, pFld, pWord]
      exact ⟨_, _, rfl, ⟨T.wording, T.w2⟩, _, rfl, _, _, rfl, ⟨T.wording, T.w2⟩, _, rfl, _, _, rfl, rfl, by rw [List.length_map, List.length_map, spansFrom_len, spansFrom_len]; omega, _, rfl, by rw [List.map_append] at r; exact r⟩
    · simp only [pStrOf, pCatS, pSortII, pParOwE, pParOwC, pIsi, pListR2, startP, List.map_cons, List.map_nil, List.length_cons, List.length_nil, Nat.reduceAdd, Nat.reduceSub, List.replicate_succ, List.replicate_zero, List.cons_append, List.nil_append, pSeq, pAsg, pAsgV, pPar, pPar3, pIfS, pRet, pRetN, pDrop, pNext, pNever, pSetOw, pSetD, pPutD, pDGet, pInS, pCKw, pSl, pSlL, pNoPart, pPart, piEn, v_od, PV.dic.injEq, pApp, pAppV, pPutI, pAug, pVar, pC, pOp, pUn, pI0, pI, pU, pIsN, pNotN, pNil, pCons, pTup, pLst, pFld, pIxL, pIxT, pEq, pNe, pAndV, pOrV, pNotV, pB, pAnd, pOr, pNot, pYes, pIf, pCB, pLen, pListOf, pTupOf, pMin2, pMax2, pCat, pIsTup, pIntOf, pgName, pgNil, pgCons, pgTup, piL, piT, piR1, piR2, piEn, piEnT,
    g0, g0r, gS, v_fr, v_ow, hid_nil, hid_fr, hid_no, hid_ow, keep_t, keep_f, keep_nil, noOw_nil, noOw_fr, noOw_no, noOw_ow, noL_int, noL_bl, noL_str, noL_non, noL_pO, noL_tup, noLL_nil, noLL_cons, stow_eq, len_tup, len_lst, len_scr, at_nat, at_0, at_1, at_2, at_3, sc_int, sc_bl, sc_str, sc_non, sc_pO, vO_inj, vO_int, int_vO, scal_NN, scal_OO, scal_OI, scal_IO, scal_II, scal_SS, scal_BB, isN_pO, isN_int, isN_bl, isN_str, isN_non, isN_tup, isN_lst, isN_ob, pO_some, pO_none,
    List.set_cons_zero, List.set_cons_succ, List.getElem?_cons_zero, List.getElem?_cons_succ, Option.some.injEq, PV.int.injEq, PV.bl.injEq, PV.str.injEq, PV.lst.injEq, PV.tup.injEq, PS.ow.injEq, PS.fr.injEq, List.cons.injEq, exists_eq_left, exists_eq_left', exists_eq_right, exists_and_left, exists_const, and_true, true_and, reduceCtorEq, false_and, and_false, exists_false, if_true, if_false, Bool.false_eq_true, ↓reduceIte, Bool.or_true, Bool.true_or, Bool.or_false, Bool.false_or, Bool.and_true, Bool.true_and, Bool.not_true, Bool.not_false, ite_true, ite_false, exists_eq, exists_eq', and_assoc, decide_eq_true_eq, V.int.injEq, V.str.injEq, V.bl.injEq, and_self, Nat.reduceLeDiff, exists_eq_right', exists_and_right, Option.isNone_none, Option.isNone_some, wipeP_cons, wipeP_nil, pFld, pSpanO]
      exact ⟨_, _, rfl, ⟨T.span, T.s1⟩, _, rfl, by simpa using r⟩
    · have e1 : (((spansFrom 0 none r1 ++ spansFrom 0 none r2).filter fun _ => true).map fun s => PV.int s.low) = (lows r1 ++ lows r2).map PV.int := by
        rw [List.filter_eq_self.mpr fun _ _ => rfl]
        unfold lows
        rw [← List.map_append, List.map_map]
        rfl
      rw [e1]
      exact ⟨_, rfl, by unfold lows; rw [List.length_append, List.length_map, List.length_map, spansFrom_len, spansFrom_len]; omega, q⟩
theorem ok_nextE {f : Addr} {fd : FuncData} (F : Fn K "next_edge" "next_edge" s_next_edge f fd) (T : Tx K mg cR cS cW) (B : Bn mg) (m1 : Met P w K mg base CX0 5 cW "later_edge" ["self", "age"] (lift K (wLater cR cS cW))) : FnOk P w K mg base CX0 6 f fd ["one", "other", "age"] (lift K (wNextE cR cS cW)) := by
  obtain ⟨f1, fd1, G_Wording_later_edge, M_Wording_later_edge, b_Wording_later_edge⟩ := m1.ex
  refine okX F sc_next_edge (fun xs n Q h => ?_) (fun cdv A outer s H E hr => ⟨_, _, (xss_cons (xs_set (i := 3) sc_next_edge.nd rfl (Or.inl rfl) (xe_lst (xa_cons (xe_meth (xv 0) T.wording M_Wording_later_edge G_Wording_later_edge (hr.mono (by decide)) b_Wording_later_edge (xa_cons (xv 2) xa_nil)) (xa_cons (xe_meth (xv 1) T.wording M_Wording_later_edge G_Wording_later_edge (hr.mono (by decide)) b_Wording_later_edge (xa_cons (xv 2) xa_nil)) xa_nil)))) (xss_one (xs_ret (xe_callBK (xcrk_minI (by rfl) hr.units) (by rfl) B.min (by decide +kernel) (xa_cons (xe_lc (own := [("edge", 4)]) rfl sc_next_edge.nd (xi_list (xv 3)) (blkOk_by (own := [("edge", 4)]) (N := ["one", "other", "age", "edges", "edge"]) (sc := defScope s_next_edge) (by decide +kernel)) (fun _ _ _ _ _ => (xg_name (i := 4) sc_next_edge.nd rfl (Or.inl rfl))) (fun _ _ _ _ _ => (xts_one (xt_cmp (xc_notN (xv 4))))) (fun _ _ _ _ _ => (xv 4))) xa_nil) (xk_cons xe_non xk_nil))))), ?_⟩)
  · obtain ⟨r1, r2, a, rfl, _⟩ := h; rfl
  · rintro _ n Q ⟨r1, r2, a, rfl, ok1, ok2, ha, q⟩
    simp only [pStrOf, pCatS, pSortII, pParOwE, pParOwC, pIsi, pListR2, startP, List.map_cons, List.map_nil, List.length_cons, List.length_nil, Nat.reduceAdd, Nat.reduceSub, List.replicate_succ, List.replicate_zero, List.cons_append, List.nil_append, pSeq, pAsg, pAsgV, pPar, pPar3, pIfS, pRet, pRetN, pDrop, pNext, pNever, pSetOw, pSetD, pPutD, pDGet, pInS, pCKw, pSl, pSlL, pNoPart, pPart, piEn, v_od, PV.dic.injEq, pApp, pAppV, pPutI, pAug, pVar, pC, pOp, pUn, pI0, pI, pU, pIsN, pNotN, pNil, pCons, pTup, pLst, pFld, pIxL, pIxT, pEq, pNe, pAndV, pOrV, pNotV, pB, pAnd, pOr, pNot, pYes, pIf, pCB, pLen, pListOf, pTupOf, pMin2, pMax2, pCat, pIsTup, pIntOf, pgName, pgNil, pgCons, pgTup, piL, piT, piR1, piR2, piEn, piEnT,
    g0, g0r, gS, v_fr, v_ow, hid_nil, hid_fr, hid_no, hid_ow, keep_t, keep_f, keep_nil, noOw_nil, noOw_fr, noOw_no, noOw_ow, noL_int, noL_bl, noL_str, noL_non, noL_pO, noL_tup, noLL_nil, noLL_cons, stow_eq, len_tup, len_lst, len_scr, at_nat, at_0, at_1, at_2, at_3, sc_int, sc_bl, sc_str, sc_non, sc_pO, vO_inj, vO_int, int_vO, scal_NN, scal_OO, scal_OI, scal_IO, scal_II, scal_SS, scal_BB, isN_pO, isN_int, isN_bl, isN_str, isN_non, isN_tup, isN_lst, isN_ob, pO_some, pO_none,
    List.set_cons_zero, List.set_cons_succ, List.getElem?_cons_zero, List.getElem?_cons_succ, Option.some.injEq, PV.int.injEq, PV.bl.injEq, PV.str.injEq, PV.lst.injEq, PV.tup.injEq, PS.ow.injEq, PS.fr.injEq, List.cons.injEq, exists_eq_left, exists_eq_left', exists_eq_right, exists_and_left, exists_const, and_true, true_and, reduceCtorEq, false_and, and_false, exists_false, if_true, if_false, Bool.false_eq_true, ↓reduceIte, Bool.or_true, Bool.true_or, Bool.or_false, Bool.false_or, Bool.and_true, Bool.true_and, Bool.not_true, Bool.not_false, ite_true, ite_false, exists_eq, exists_eq', and_assoc, decide_eq_true_eq, V.int.injEq, V.str.injEq, V.bl.injEq, and_self, Nat.reduceLeDiff, exists_eq_right', exists_and_right, Option.isNone_none, Option.isNone_some, pCall, pMeth]
    obtain ⟨fs, hw, l1⟩ := word_later (cR := cR) (cS := cS) (cW := cW) (rows := r1)
    obtain ⟨gs, hg, l2⟩ := word_later (cR := cR) (cS := cS) (cW := cW) (rows := r2)
    refine ⟨fs, hw, l1, r1, a, rfl, ok1, ha, gs, hg, l2, r2, a, rfl, ok2, ha, ?_⟩
    refine lc_map (L := [laterEdge (spansFrom 0 none r1) a, laterEdge (spansFrom 0 none r2) a]) (e := pO) (f := fun o => o.isSome) (g := pO) (fun R r => by simp only [pStrOf, pCatS, pSortII, pParOwE, pParOwC, pIsi, pListR2, startP, List.map_cons, List.map_nil, List.length_cons, List.length_nil, Nat.reduceAdd, Nat.reduceSub, List.replicate_succ, List.replicate_zero, List.cons_append, List.nil_append, pSeq, pAsg, pAsgV, pPar, pPar3, pIfS, pRet, pRetN, pDrop, pNext, pNever, pSetOw, pSetD, pPutD, pDGet, pInS, pCKw, pSl, pSlL, pNoPart, pPart, piEn, v_od, PV.dic.injEq, pApp, pAppV, pPutI, pAug, pVar, pC, pOp, pUn, pI0, pI, pU, pIsN, pNotN, pNil, pCons, pTup, pLst, pFld, pIxL, pIxT, pEq, pNe, pAndV, pOrV, pNotV, pB, pAnd, pOr, pNot, pYes, pIf, pCB, pLen, pListOf, pTupOf, pMin2, pMax2, pCat, pIsTup, pIntOf, pgName, pgNil, pgCons, pgTup, piL, piT, piR1, piR2, piEn, piEnT,
    g0, g0r, gS, v_fr, v_ow, hid_nil, hid_fr, hid_no, hid_ow, keep_t, keep_f, keep_nil, noOw_nil, noOw_fr, noOw_no, noOw_ow, noL_int, noL_bl, noL_str, noL_non, noL_pO, noL_tup, noLL_nil, noLL_cons, stow_eq, len_tup, len_lst, len_scr, at_nat, at_0, at_1, at_2, at_3, sc_int, sc_bl, sc_str, sc_non, sc_pO, vO_inj, vO_int, int_vO, scal_NN, scal_OO, scal_OI, scal_IO, scal_II, scal_SS, scal_BB, isN_pO, isN_int, isN_bl, isN_str, isN_non, isN_tup, isN_lst, isN_ob, pO_some, pO_none,
    List.set_cons_zero, List.set_cons_succ, List.getElem?_cons_zero, List.getElem?_cons_succ, Option.some.injEq, PV.int.injEq, PV.bl.injEq, PV.str.injEq, PV.lst.injEq, PV.tup.injEq, PS.ow.injEq, PS.fr.injEq, List.cons.injEq, exists_eq_left, exists_eq_left', exists_eq_right, exists_and_left, exists_const, and_true, true_and, reduceCtorEq, false_and, and_false, exists_false, if_true, if_false, Bool.false_eq_true, ↓reduceIte, Bool.or_true, Bool.true_or, Bool.or_false, Bool.false_or, Bool.and_true, Bool.true_and, Bool.not_true, Bool.not_false, ite_true, ite_false, exists_eq, exists_eq', and_assoc, decide_eq_true_eq, V.int.injEq, V.str.injEq, V.bl.injEq, and_self, Nat.reduceLeDiff, exists_eq_right', exists_and_right, Option.isNone_none, Option.isNone_some]; exact r) (by show 2 ≤ 40000; decide) (fun o _ R r => ?_) ?_
    · simp only [pStrOf, pCatS, pSortII, pParOwE, pParOwC, pIsi, pListR2, startP, List.map_cons, List.map_nil, List.length_cons, List.length_nil, Nat.reduceAdd, Nat.reduceSub, List.replicate_succ, List.replicate_zero, List.cons_append, List.nil_append, pSeq, pAsg, pAsgV, pPar, pPar3, pIfS, pRet, pRetN, pDrop, pNext, pNever, pSetOw, pSetD, pPutD, pDGet, pInS, pCKw, pSl, pSlL, pNoPart, pPart, piEn, v_od, PV.dic.injEq, pApp, pAppV, pPutI, pAug, pVar, pC, pOp, pUn, pI0, pI, pU, pIsN, pNotN, pNil, pCons, pTup, pLst, pFld, pIxL, pIxT, pEq, pNe, pAndV, pOrV, pNotV, pB, pAnd, pOr, pNot, pYes, pIf, pCB, pLen, pListOf, pTupOf, pMin2, pMax2, pCat, pIsTup, pIntOf, pgName, pgNil, pgCons, pgTup, piL, piT, piR1, piR2, piEn, piEnT,
    g0, g0r, gS, v_fr, v_ow, hid_nil, hid_fr, hid_no, hid_ow, keep_t, keep_f, keep_nil, noOw_nil, noOw_fr, noOw_no, noOw_ow, noL_int, noL_bl, noL_str, noL_non, noL_pO, noL_tup, noLL_nil, noLL_cons, stow_eq, len_tup, len_lst, len_scr, at_nat, at_0, at_1, at_2, at_3, sc_int, sc_bl, sc_str, sc_non, sc_pO, vO_inj, vO_int, int_vO, scal_NN, scal_OO, scal_OI, scal_IO, scal_II, scal_SS, scal_BB, isN_pO, isN_int, isN_bl, isN_str, isN_non, isN_tup, isN_lst, isN_ob, pO_some, pO_none,
    List.set_cons_zero, List.set_cons_succ, List.getElem?_cons_zero, List.getElem?_cons_succ, Option.some.injEq, PV.int.injEq, PV.bl.injEq, PV.str.injEq, PV.lst.injEq, PV.tup.injEq, PS.ow.injEq, PS.fr.injEq, List.cons.injEq, exists_eq_left, exists_eq_left', exists_eq_right, exists_and_left, exists_const, and_true, true_and, reduceCtorEq, false_and, and_false, exists_false, if_true, if_false, Bool.false_eq_true, ↓reduceIte, Bool.or_true, Bool.true_or, Bool.or_false, Bool.false_or, Bool.and_true, Bool.true_and, Bool.not_true, Bool.not_false, ite_true, ite_false, exists_eq, exists_eq', and_assoc, decide_eq_true_eq, V.int.injEq, V.str.injEq, V.bl.injEq, and_self, Nat.reduceLeDiff, exists_eq_right', exists_and_right, Option.isNone_none, Option.isNone_some, wipeP_cons, wipeP_nil]
      cases o with
      | none => simpa [pO] using r
      | some v => simpa [pO] using r
    have e1 : ∀ L : List (Option Int), ((L.filter fun o => o.isSome).map pO) = (L.filterMap id).map PV.int := fun L => by
      induction L with
      | nil => rfl
      | cons o L ih =>
        cases o with
        | none => exact ih
        | some v => rw [List.filter_cons_of_pos (by rfl), List.filterMap_cons_some (by rfl), List.map_cons, List.map_cons, ih]; rfl
    rw [e1]
    unfold nextE at q
    refine ⟨_, .non, rfl, rfl, fun e => ?_, fun y r e => ?_⟩
    · rw [e] at q; exact q
    · rw [e] at q; exact q
theorem ok_tries {f : Addr} {fd : FuncData} (F : Fn K "ages_to_try" "ages_to_try" s_ages_to_try f fd) (B : Bn mg) (c1 : Cal P w K mg base CX0 6 "next_edge" ["one", "other", "age"] (lift K (wNextE cR cS cW))) : FnOk P w K mg base CX0 7 f fd ["one", "other", "start"] (lift K (wTries cR cS cW)) := by
  obtain ⟨f1, fd1, G_next_edge, m_next_edge, k_next_edge, b_next_edge⟩ := c1.ex
  refine okX F sc_ages_to_try (fun xs n Q h => ?_) (fun cdv A outer s H E hr => ⟨_, _, (xss_cons (xs_setOw (i := 3) sc_ages_to_try.nd rfl (Or.inl rfl) (xa_cons (xv 2) xa_nil)) (xss_cons (xs_while [true, true, false, true, false] PassesOwn.never (xw_pt (xw_and (xt_cmp (xc_notN (xe_ix xix_list (xv 3) (xe_un xun_neg xe_int) (fun _ _ => rfl)))) (xw_and1 (xt_cmpR xo_lt (xe_callB xcall_len_seq (by rfl) B.len (by decide +kernel) (xa_cons (xv 3) xa_nil)) xe_int (nomark _))))) (xss_one (xs_appV 3 (xe_call G_next_edge (hr.mono (by decide)) rfl m_next_edge k_next_edge b_next_edge (xa_cons (xv 0) (xa_cons (xv 1) (xa_cons (xe_ix xix_list (xv 3) (xe_un xun_neg xe_int) (fun _ _ => rfl)) xa_nil))))))) (xss_one (xs_ret (xe_lc (own := [("age", 4)]) rfl sc_ages_to_try.nd (xi_list (xv 3)) (blkOk_by (own := [("age", 4)]) (N := ["one", "other", "start", "ages", "age"]) (sc := defScope s_ages_to_try) (by decide +kernel)) (fun _ _ _ _ _ => (xg_name (i := 4) sc_ages_to_try.nd rfl (Or.inl rfl))) (fun _ _ _ _ _ => (xts_one (xt_cmp (xc_notN (xv 4))))) (fun _ _ _ _ _ => (xv 4))))))), ?_⟩)
  · obtain ⟨r1, r2, a, rfl, _⟩ := h; rfl
  · rintro _ n Q ⟨r1, r2, a, rfl, ok1, ok2, ha, hb, q⟩
    simp only [pStrOf, pCatS, pSortII, pParOwE, pParOwC, pIsi, pListR2, startP, List.map_cons, List.map_nil, List.length_cons, List.length_nil, Nat.reduceAdd, Nat.reduceSub, List.replicate_succ, List.replicate_zero, List.cons_append, List.nil_append, pSeq, pAsg, pAsgV, pPar, pPar3, pIfS, pRet, pRetN, pDrop, pNext, pNever, pSetOw, pSetD, pPutD, pDGet, pInS, pCKw, pSl, pSlL, pNoPart, pPart, piEn, v_od, PV.dic.injEq, pApp, pAppV, pPutI, pAug, pVar, pC, pOp, pUn, pI0, pI, pU, pIsN, pNotN, pNil, pCons, pTup, pLst, pFld, pIxL, pIxT, pEq, pNe, pAndV, pOrV, pNotV, pB, pAnd, pOr, pNot, pYes, pIf, pCB, pLen, pListOf, pTupOf, pMin2, pMax2, pCat, pIsTup, pIntOf, pgName, pgNil, pgCons, pgTup, piL, piT, piR1, piR2, piEn, piEnT,
    g0, g0r, gS, v_fr, v_ow, hid_nil, hid_fr, hid_no, hid_ow, keep_t, keep_f, keep_nil, noOw_nil, noOw_fr, noOw_no, noOw_ow, noL_int, noL_bl, noL_str, noL_non, noL_pO, noL_tup, noLL_nil, noLL_cons, stow_eq, len_tup, len_lst, len_scr, at_nat, at_0, at_1, at_2, at_3, sc_int, sc_bl, sc_str, sc_non, sc_pO, vO_inj, vO_int, int_vO, scal_NN, scal_OO, scal_OI, scal_IO, scal_II, scal_SS, scal_BB, isN_pO, isN_int, isN_bl, isN_str, isN_non, isN_tup, isN_lst, isN_ob, pO_some, pO_none,
    List.set_cons_zero, List.set_cons_succ, List.getElem?_cons_zero, List.getElem?_cons_succ, Option.some.injEq, PV.int.injEq, PV.bl.injEq, PV.str.injEq, PV.lst.injEq, PV.tup.injEq, PS.ow.injEq, PS.fr.injEq, List.cons.injEq, exists_eq_left, exists_eq_left', exists_eq_right, exists_and_left, exists_const, and_true, true_and, reduceCtorEq, false_and, and_false, exists_false, if_true, if_false, Bool.false_eq_true, ↓reduceIte, Bool.or_true, Bool.true_or, Bool.or_false, Bool.false_or, Bool.and_true, Bool.true_and, Bool.not_true, Bool.not_false, ite_true, ite_false, exists_eq, exists_eq', and_assoc, decide_eq_true_eq, V.int.injEq, V.str.injEq, V.bl.injEq, and_self, Nat.reduceLeDiff, exists_eq_right', exists_and_right, Option.isNone_none, Option.isNone_some, pCall, pMeth]
    simp only [pWhile, pStrOf, pCatS, pSortII, pParOwE, pParOwC, pIsi, pListR2, startP, List.map_cons, List.map_nil, List.length_cons, List.length_nil, Nat.reduceAdd, Nat.reduceSub, List.replicate_succ, List.replicate_zero, List.cons_append, List.nil_append, pSeq, pAsg, pAsgV, pPar, pPar3, pIfS, pRet, pRetN, pDrop, pNext, pNever, pSetOw, pSetD, pPutD, pDGet, pInS, pCKw, pSl, pSlL, pNoPart, pPart, piEn, v_od, PV.dic.injEq, pApp, pAppV, pPutI, pAug, pVar, pC, pOp, pUn, pI0, pI, pU, pIsN, pNotN, pNil, pCons, pTup, pLst, pFld, pIxL, pIxT, pEq, pNe, pAndV, pOrV, pNotV, pB, pAnd, pOr, pNot, pYes, pIf, pCB, pLen, pListOf, pTupOf, pMin2, pMax2, pCat, pIsTup, pIntOf, pgName, pgNil, pgCons, pgTup, piL, piT, piR1, piR2, piEn, piEnT,
    g0, g0r, gS, v_fr, v_ow, hid_nil, hid_fr, hid_no, hid_ow, keep_t, keep_f, keep_nil, noOw_nil, noOw_fr, noOw_no, noOw_ow, noL_int, noL_bl, noL_str, noL_non, noL_pO, noL_tup, noLL_nil, noLL_cons, stow_eq, len_tup, len_lst, len_scr, at_nat, at_0, at_1, at_2, at_3, sc_int, sc_bl, sc_str, sc_non, sc_pO, vO_inj, vO_int, int_vO, scal_NN, scal_OO, scal_OI, scal_IO, scal_II, scal_SS, scal_BB, isN_pO, isN_int, isN_bl, isN_str, isN_non, isN_tup, isN_lst, isN_ob, pO_some, pO_none,
    List.set_cons_zero, List.set_cons_succ, List.getElem?_cons_zero, List.getElem?_cons_succ, Option.some.injEq, PV.int.injEq, PV.bl.injEq, PV.str.injEq, PV.lst.injEq, PV.tup.injEq, PS.ow.injEq, PS.fr.injEq, List.cons.injEq, exists_eq_left, exists_eq_left', exists_eq_right, exists_and_left, exists_const, and_true, true_and, reduceCtorEq, false_and, and_false, exists_false, if_true, if_false, Bool.false_eq_true, ↓reduceIte, Bool.or_true, Bool.true_or, Bool.or_false, Bool.false_or, Bool.and_true, Bool.true_and, Bool.not_true, Bool.not_false, ite_true, ite_false, exists_eq, exists_eq', and_assoc, decide_eq_true_eq, V.int.injEq, V.str.injEq, V.bl.injEq, and_self, Nat.reduceLeDiff, exists_eq_right', exists_and_right, Option.isNone_none, Option.isNone_some, pCall]
    let st : List PV → PR := fun L => [.fr (pWord cR cS cW r1), .fr (pWord cR cS cW r2), .no, .ow none L, .no]
    have fin : ∀ (ls : List (Option Int)), ls.length ≤ 3 → ls.filterMap id = triesOf r1 r2 a → pLc (piL (pVar 3)) (pgName 4) (pB (pNotN (pVar 4))) (pVar 4) [4] (st (ls.map pO)) n Q := fun ls hl e => by
      refine lc_map (L := ls) (e := pO) (f := fun o => o.isSome) (g := pO) (fun R r => by simp only [pStrOf, pCatS, pSortII, pParOwE, pParOwC, pIsi, pListR2, startP, List.map_cons, List.map_nil, List.length_cons, List.length_nil, Nat.reduceAdd, Nat.reduceSub, List.replicate_succ, List.replicate_zero, List.cons_append, List.nil_append, pSeq, pAsg, pAsgV, pPar, pPar3, pIfS, pRet, pRetN, pDrop, pNext, pNever, pSetOw, pSetD, pPutD, pDGet, pInS, pCKw, pSl, pSlL, pNoPart, pPart, piEn, v_od, PV.dic.injEq, pApp, pAppV, pPutI, pAug, pVar, pC, pOp, pUn, pI0, pI, pU, pIsN, pNotN, pNil, pCons, pTup, pLst, pFld, pIxL, pIxT, pEq, pNe, pAndV, pOrV, pNotV, pB, pAnd, pOr, pNot, pYes, pIf, pCB, pLen, pListOf, pTupOf, pMin2, pMax2, pCat, pIsTup, pIntOf, pgName, pgNil, pgCons, pgTup, piL, piT, piR1, piR2, piEn, piEnT,
    g0, g0r, gS, v_fr, v_ow, hid_nil, hid_fr, hid_no, hid_ow, keep_t, keep_f, keep_nil, noOw_nil, noOw_fr, noOw_no, noOw_ow, noL_int, noL_bl, noL_str, noL_non, noL_pO, noL_tup, noLL_nil, noLL_cons, stow_eq, len_tup, len_lst, len_scr, at_nat, at_0, at_1, at_2, at_3, sc_int, sc_bl, sc_str, sc_non, sc_pO, vO_inj, vO_int, int_vO, scal_NN, scal_OO, scal_OI, scal_IO, scal_II, scal_SS, scal_BB, isN_pO, isN_int, isN_bl, isN_str, isN_non, isN_tup, isN_lst, isN_ob, pO_some, pO_none,
    List.set_cons_zero, List.set_cons_succ, List.getElem?_cons_zero, List.getElem?_cons_succ, Option.some.injEq, PV.int.injEq, PV.bl.injEq, PV.str.injEq, PV.lst.injEq, PV.tup.injEq, PS.ow.injEq, PS.fr.injEq, List.cons.injEq, exists_eq_left, exists_eq_left', exists_eq_right, exists_and_left, exists_const, and_true, true_and, reduceCtorEq, false_and, and_false, exists_false, if_true, if_false, Bool.false_eq_true, ↓reduceIte, Bool.or_true, Bool.true_or, Bool.or_false, Bool.false_or, Bool.and_true, Bool.true_and, Bool.not_true, Bool.not_false, ite_true, ite_false, exists_eq, exists_eq', and_assoc, decide_eq_true_eq, V.int.injEq, V.str.injEq, V.bl.injEq, and_self, Nat.reduceLeDiff, exists_eq_right', exists_and_right, Option.isNone_none, Option.isNone_some, st]; exact r) (by omega) (fun o _ R r => ?_) ?_
      · simp only [pStrOf, pCatS, pSortII, pParOwE, pParOwC, pIsi, pListR2, startP, List.map_cons, List.map_nil, List.length_cons, List.length_nil, Nat.reduceAdd, Nat.reduceSub, List.replicate_succ, List.replicate_zero, List.cons_append, List.nil_append, pSeq, pAsg, pAsgV, pPar, pPar3, pIfS, pRet, pRetN, pDrop, pNext, pNever, pSetOw, pSetD, pPutD, pDGet, pInS, pCKw, pSl, pSlL, pNoPart, pPart, piEn, v_od, PV.dic.injEq, pApp, pAppV, pPutI, pAug, pVar, pC, pOp, pUn, pI0, pI, pU, pIsN, pNotN, pNil, pCons, pTup, pLst, pFld, pIxL, pIxT, pEq, pNe, pAndV, pOrV, pNotV, pB, pAnd, pOr, pNot, pYes, pIf, pCB, pLen, pListOf, pTupOf, pMin2, pMax2, pCat, pIsTup, pIntOf, pgName, pgNil, pgCons, pgTup, piL, piT, piR1, piR2, piEn, piEnT,
    g0, g0r, gS, v_fr, v_ow, hid_nil, hid_fr, hid_no, hid_ow, keep_t, keep_f, keep_nil, noOw_nil, noOw_fr, noOw_no, noOw_ow, noL_int, noL_bl, noL_str, noL_non, noL_pO, noL_tup, noLL_nil, noLL_cons, stow_eq, len_tup, len_lst, len_scr, at_nat, at_0, at_1, at_2, at_3, sc_int, sc_bl, sc_str, sc_non, sc_pO, vO_inj, vO_int, int_vO, scal_NN, scal_OO, scal_OI, scal_IO, scal_II, scal_SS, scal_BB, isN_pO, isN_int, isN_bl, isN_str, isN_non, isN_tup, isN_lst, isN_ob, pO_some, pO_none,
    List.set_cons_zero, List.set_cons_succ, List.getElem?_cons_zero, List.getElem?_cons_succ, Option.some.injEq, PV.int.injEq, PV.bl.injEq, PV.str.injEq, PV.lst.injEq, PV.tup.injEq, PS.ow.injEq, PS.fr.injEq, List.cons.injEq, exists_eq_left, exists_eq_left', exists_eq_right, exists_and_left, exists_const, and_true, true_and, reduceCtorEq, false_and, and_false, exists_false, if_true, if_false, Bool.false_eq_true, ↓reduceIte, Bool.or_true, Bool.true_or, Bool.or_false, Bool.false_or, Bool.and_true, Bool.true_and, Bool.not_true, Bool.not_false, ite_true, ite_false, exists_eq, exists_eq', and_assoc, decide_eq_true_eq, V.int.injEq, V.str.injEq, V.bl.injEq, and_self, Nat.reduceLeDiff, exists_eq_right', exists_and_right, Option.isNone_none, Option.isNone_some, st, wipeP_cons, wipeP_nil]
        cases o with
        | none => simpa [pO] using r
        | some v => simpa [pO] using r
      · rw [some_ints, e]
        exact q
    refine ⟨fun m ρ n2 => n2 = n ∧ ∃ L, ρ = st L ∧ ((m = 3 ∧ L = [.int a]) ∨ (m = 2 ∧ L = [.int a, pO (nextE r1 r2 a)]) ∨ (m = 1 ∧ ∃ b, nextE r1 r2 a = some b ∧ L = [.int a, .int b, pO (nextE r1 r2 b)])), ⟨3, rfl, _, rfl, Or.inl ⟨rfl, rfl⟩⟩, ?_⟩
    rintro m ρ n2 ⟨rfl, L, rfl, ⟨rfl, rfl⟩ | ⟨rfl, rfl⟩ | ⟨rfl, b, hb2, rfl⟩⟩
    · simp only [pStrOf, pCatS, pSortII, pParOwE, pParOwC, pIsi, pListR2, startP, List.map_cons, List.map_nil, List.length_cons, List.length_nil, Nat.reduceAdd, Nat.reduceSub, List.replicate_succ, List.replicate_zero, List.cons_append, List.nil_append, pSeq, pAsg, pAsgV, pPar, pPar3, pIfS, pRet, pRetN, pDrop, pNext, pNever, pSetOw, pSetD, pPutD, pDGet, pInS, pCKw, pSl, pSlL, pNoPart, pPart, piEn, v_od, PV.dic.injEq, pApp, pAppV, pPutI, pAug, pVar, pC, pOp, pUn, pI0, pI, pU, pIsN, pNotN, pNil, pCons, pTup, pLst, pFld, pIxL, pIxT, pEq, pNe, pAndV, pOrV, pNotV, pB, pAnd, pOr, pNot, pYes, pIf, pCB, pLen, pListOf, pTupOf, pMin2, pMax2, pCat, pIsTup, pIntOf, pgName, pgNil, pgCons, pgTup, piL, piT, piR1, piR2, piEn, piEnT,
    g0, g0r, gS, v_fr, v_ow, hid_nil, hid_fr, hid_no, hid_ow, keep_t, keep_f, keep_nil, noOw_nil, noOw_fr, noOw_no, noOw_ow, noL_int, noL_bl, noL_str, noL_non, noL_pO, noL_tup, noLL_nil, noLL_cons, stow_eq, len_tup, len_lst, len_scr, at_nat, at_0, at_1, at_2, at_3, sc_int, sc_bl, sc_str, sc_non, sc_pO, vO_inj, vO_int, int_vO, scal_NN, scal_OO, scal_OI, scal_IO, scal_II, scal_SS, scal_BB, isN_pO, isN_int, isN_bl, isN_str, isN_non, isN_tup, isN_lst, isN_ob, pO_some, pO_none,
    List.set_cons_zero, List.set_cons_succ, List.getElem?_cons_zero, List.getElem?_cons_succ, Option.some.injEq, PV.int.injEq, PV.bl.injEq, PV.str.injEq, PV.lst.injEq, PV.tup.injEq, PS.ow.injEq, PS.fr.injEq, List.cons.injEq, exists_eq_left, exists_eq_left', exists_eq_right, exists_and_left, exists_const, and_true, true_and, reduceCtorEq, false_and, and_false, exists_false, if_true, if_false, Bool.false_eq_true, ↓reduceIte, Bool.or_true, Bool.true_or, Bool.or_false, Bool.false_or, Bool.and_true, Bool.true_and, Bool.not_true, Bool.not_false, ite_true, ite_false, exists_eq, exists_eq', and_assoc, decide_eq_true_eq, V.int.injEq, V.str.injEq, V.bl.injEq, and_self, Nat.reduceLeDiff, exists_eq_right', exists_and_right, Option.isNone_none, Option.isNone_some, st, pCall, pAppV]
      refine ⟨.int a, atI_last [] _, ?_⟩
      rw [if_pos (show (!(PV.int a).isN) = true from rfl), if_pos (by decide)]
      exact ⟨by decide, .int a, atI_last [] _, r1, r2, a, rfl, ok1, ok2, ha, noL_pO, 2, by decide, rfl, Or.inr (Or.inl ⟨rfl, rfl⟩)⟩
    · simp only [pStrOf, pCatS, pSortII, pParOwE, pParOwC, pIsi, pListR2, startP, List.map_cons, List.map_nil, List.length_cons, List.length_nil, Nat.reduceAdd, Nat.reduceSub, List.replicate_succ, List.replicate_zero, List.cons_append, List.nil_append, pSeq, pAsg, pAsgV, pPar, pPar3, pIfS, pRet, pRetN, pDrop, pNext, pNever, pSetOw, pSetD, pPutD, pDGet, pInS, pCKw, pSl, pSlL, pNoPart, pPart, piEn, v_od, PV.dic.injEq, pApp, pAppV, pPutI, pAug, pVar, pC, pOp, pUn, pI0, pI, pU, pIsN, pNotN, pNil, pCons, pTup, pLst, pFld, pIxL, pIxT, pEq, pNe, pAndV, pOrV, pNotV, pB, pAnd, pOr, pNot, pYes, pIf, pCB, pLen, pListOf, pTupOf, pMin2, pMax2, pCat, pIsTup, pIntOf, pgName, pgNil, pgCons, pgTup, piL, piT, piR1, piR2, piEn, piEnT,
    g0, g0r, gS, v_fr, v_ow, hid_nil, hid_fr, hid_no, hid_ow, keep_t, keep_f, keep_nil, noOw_nil, noOw_fr, noOw_no, noOw_ow, noL_int, noL_bl, noL_str, noL_non, noL_pO, noL_tup, noLL_nil, noLL_cons, stow_eq, len_tup, len_lst, len_scr, at_nat, at_0, at_1, at_2, at_3, sc_int, sc_bl, sc_str, sc_non, sc_pO, vO_inj, vO_int, int_vO, scal_NN, scal_OO, scal_OI, scal_IO, scal_II, scal_SS, scal_BB, isN_pO, isN_int, isN_bl, isN_str, isN_non, isN_tup, isN_lst, isN_ob, pO_some, pO_none,
    List.set_cons_zero, List.set_cons_succ, List.getElem?_cons_zero, List.getElem?_cons_succ, Option.some.injEq, PV.int.injEq, PV.bl.injEq, PV.str.injEq, PV.lst.injEq, PV.tup.injEq, PS.ow.injEq, PS.fr.injEq, List.cons.injEq, exists_eq_left, exists_eq_left', exists_eq_right, exists_and_left, exists_const, and_true, true_and, reduceCtorEq, false_and, and_false, exists_false, if_true, if_false, Bool.false_eq_true, ↓reduceIte, Bool.or_true, Bool.true_or, Bool.or_false, Bool.false_or, Bool.and_true, Bool.true_and, Bool.not_true, Bool.not_false, ite_true, ite_false, exists_eq, exists_eq', and_assoc, decide_eq_true_eq, V.int.injEq, V.str.injEq, V.bl.injEq, and_self, Nat.reduceLeDiff, exists_eq_right', exists_and_right, Option.isNone_none, Option.isNone_some, st, pCall, pAppV]
      refine ⟨pO (nextE r1 r2 a), atI_last [.int a] _, ?_⟩
      cases hn : nextE r1 r2 a with
      | none =>
        rw [if_neg (show ¬ (!(pO none).isN) = true from fun z => Bool.noConfusion z)]
        exact fin [some a, none] (by show 2 ≤ 3; decide) (by unfold triesOf; rw [hn]; rfl)
      | some b =>
        rw [if_pos (show (!(pO (some b)).isN) = true from rfl), if_pos (by decide)]
        exact ⟨by decide, .int b, atI_last [.int a] _, r1, r2, b, rfl, ok1, ok2, hb b hn, noL_pO, 1, by decide, rfl, Or.inr (Or.inr ⟨rfl, b, rfl, rfl, rfl⟩)⟩
    · simp only [pStrOf, pCatS, pSortII, pParOwE, pParOwC, pIsi, pListR2, startP, List.map_cons, List.map_nil, List.length_cons, List.length_nil, Nat.reduceAdd, Nat.reduceSub, List.replicate_succ, List.replicate_zero, List.cons_append, List.nil_append, pSeq, pAsg, pAsgV, pPar, pPar3, pIfS, pRet, pRetN, pDrop, pNext, pNever, pSetOw, pSetD, pPutD, pDGet, pInS, pCKw, pSl, pSlL, pNoPart, pPart, piEn, v_od, PV.dic.injEq, pApp, pAppV, pPutI, pAug, pVar, pC, pOp, pUn, pI0, pI, pU, pIsN, pNotN, pNil, pCons, pTup, pLst, pFld, pIxL, pIxT, pEq, pNe, pAndV, pOrV, pNotV, pB, pAnd, pOr, pNot, pYes, pIf, pCB, pLen, pListOf, pTupOf, pMin2, pMax2, pCat, pIsTup, pIntOf, pgName, pgNil, pgCons, pgTup, piL, piT, piR1, piR2, piEn, piEnT,
    g0, g0r, gS, v_fr, v_ow, hid_nil, hid_fr, hid_no, hid_ow, keep_t, keep_f, keep_nil, noOw_nil, noOw_fr, noOw_no, noOw_ow, noL_int, noL_bl, noL_str, noL_non, noL_pO, noL_tup, noLL_nil, noLL_cons, stow_eq, len_tup, len_lst, len_scr, at_nat, at_0, at_1, at_2, at_3, sc_int, sc_bl, sc_str, sc_non, sc_pO, vO_inj, vO_int, int_vO, scal_NN, scal_OO, scal_OI, scal_IO, scal_II, scal_SS, scal_BB, isN_pO, isN_int, isN_bl, isN_str, isN_non, isN_tup, isN_lst, isN_ob, pO_some, pO_none,
    List.set_cons_zero, List.set_cons_succ, List.getElem?_cons_zero, List.getElem?_cons_succ, Option.some.injEq, PV.int.injEq, PV.bl.injEq, PV.str.injEq, PV.lst.injEq, PV.tup.injEq, PS.ow.injEq, PS.fr.injEq, List.cons.injEq, exists_eq_left, exists_eq_left', exists_eq_right, exists_and_left, exists_const, and_true, true_and, reduceCtorEq, false_and, and_false, exists_false, if_true, if_false, Bool.false_eq_true, ↓reduceIte, Bool.or_true, Bool.true_or, Bool.or_false, Bool.false_or, Bool.and_true, Bool.true_and, Bool.not_true, Bool.not_false, ite_true, ite_false, exists_eq, exists_eq', and_assoc, decide_eq_true_eq, V.int.injEq, V.str.injEq, V.bl.injEq, and_self, Nat.reduceLeDiff, exists_eq_right', exists_and_right, Option.isNone_none, Option.isNone_some, st, pCall, pAppV]
      refine ⟨pO (nextE r1 r2 b), atI_last [.int a, .int b] _, ?_⟩
      have e3 : [some a, some b, nextE r1 r2 b].filterMap id = triesOf r1 r2 a := by
        unfold triesOf
        rw [hb2]
        cases h : nextE r1 r2 b with
        | none => simp [h]
        | some c => simp [h]
      have f3 := fin [some a, some b, nextE r1 r2 b] (by show 3 ≤ 3; decide) e3
      split
      · rw [if_neg (by decide)]
        exact f3
      · exact f3
theorem ok_alike {f : Addr} {fd : FuncData} (F : Fn K "alike" "alike" s_alike f fd) (T : Tx K mg cR cS cW) (B : Bn mg) (c1 : Cal P w K mg base CX0 1 "starts" ["one", "other"] (lift K (wStarts cR cS cW))) (c2 : Cal P w K mg base CX0 7 "ages_to_try" ["one", "other", "start"] (lift K (wTries cR cS cW))) (m1 : Met P w K mg base CX0 4 cW "label" ["self", "age"] (lift K (wLabel cR cS cW))) : FnOk P w K mg base CX0 8 f fd ["one", "other"] (lift K (wAlike cR cS cW)) := by
  obtain ⟨f1, fd1, G_starts, m_starts, k_starts, b_starts⟩ := c1.ex
  obtain ⟨f2, fd2, G_ages_to_try, m_ages_to_try, k_ages_to_try, b_ages_to_try⟩ := c2.ex
  obtain ⟨f3, fd3, G_Wording_label, M_Wording_label, b_Wording_label⟩ := m1.ex
  refine okX F sc_alike (fun xs n Q h => ?_) (fun cdv A outer s H E hr => ⟨_, _, (xss_cons (xs_for [true, true, false, false] PassesOwn.never rfl (xi_list (xe_call G_starts (hr.mono (by decide)) rfl m_starts k_starts b_starts (xa_cons (xv 0) (xa_cons (xv 1) xa_nil)))) (xg_name (i := 2) sc_alike.nd rfl (Or.inl rfl)) (xss_one (xs_for [true, true, false, false] PassesOwn.never rfl (xi_list (xe_call G_ages_to_try (hr.mono (by decide)) rfl m_ages_to_try k_ages_to_try b_ages_to_try (xa_cons (xv 0) (xa_cons (xv 1) (xa_cons (xv 2) xa_nil))))) (xg_name (i := 3) sc_alike.nd rfl (Or.inl rfl)) (xss_one (xs_if (xt_cmpR (xo_neD hr.units) (xe_meth (xv 0) T.wording M_Wording_label G_Wording_label (hr.mono (by decide)) b_Wording_label (xa_cons (xv 3) xa_nil)) (xe_meth (xv 1) T.wording M_Wording_label G_Wording_label (hr.mono (by decide)) b_Wording_label (xa_cons (xv 3) xa_nil)) (nomark _)) (xss_one (xs_ret (xv 3))) xss_nil))))) (xss_one (xs_ret xe_non))), ?_⟩)
  · obtain ⟨r1, r2, rfl, _⟩ := h; rfl
  · rintro _ n Q ⟨r1, r2, rfl, h1, h2, ok1, ok2, hst, hpos, q⟩
    simp only [pStrOf, pCatS, pSortII, pParOwE, pParOwC, pIsi, pListR2, startP, List.map_cons, List.map_nil, List.length_cons, List.length_nil, Nat.reduceAdd, Nat.reduceSub, List.replicate_succ, List.replicate_zero, List.cons_append, List.nil_append, pSeq, pAsg, pAsgV, pPar, pPar3, pIfS, pRet, pRetN, pDrop, pNext, pNever, pSetOw, pSetD, pPutD, pDGet, pInS, pCKw, pSl, pSlL, pNoPart, pPart, piEn, v_od, PV.dic.injEq, pApp, pAppV, pPutI, pAug, pVar, pC, pOp, pUn, pI0, pI, pU, pIsN, pNotN, pNil, pCons, pTup, pLst, pFld, pIxL, pIxT, pEq, pNe, pAndV, pOrV, pNotV, pB, pAnd, pOr, pNot, pYes, pIf, pCB, pLen, pListOf, pTupOf, pMin2, pMax2, pCat, pIsTup, pIntOf, pgName, pgNil, pgCons, pgTup, piL, piT, piR1, piR2, piEn, piEnT,
    g0, g0r, gS, v_fr, v_ow, hid_nil, hid_fr, hid_no, hid_ow, keep_t, keep_f, keep_nil, noOw_nil, noOw_fr, noOw_no, noOw_ow, noL_int, noL_bl, noL_str, noL_non, noL_pO, noL_tup, noLL_nil, noLL_cons, stow_eq, len_tup, len_lst, len_scr, at_nat, at_0, at_1, at_2, at_3, sc_int, sc_bl, sc_str, sc_non, sc_pO, vO_inj, vO_int, int_vO, scal_NN, scal_OO, scal_OI, scal_IO, scal_II, scal_SS, scal_BB, isN_pO, isN_int, isN_bl, isN_str, isN_non, isN_tup, isN_lst, isN_ob, pO_some, pO_none,
    List.set_cons_zero, List.set_cons_succ, List.getElem?_cons_zero, List.getElem?_cons_succ, Option.some.injEq, PV.int.injEq, PV.bl.injEq, PV.str.injEq, PV.lst.injEq, PV.tup.injEq, PS.ow.injEq, PS.fr.injEq, List.cons.injEq, exists_eq_left, exists_eq_left', exists_eq_right, exists_and_left, exists_const, and_true, true_and, reduceCtorEq, false_and, and_false, exists_false, if_true, if_false, Bool.false_eq_true, ↓reduceIte, Bool.or_true, Bool.true_or, Bool.or_false, Bool.false_or, Bool.and_true, Bool.true_and, Bool.not_true, Bool.not_false, ite_true, ite_false, exists_eq, exists_eq', and_assoc, decide_eq_true_eq, V.int.injEq, V.str.injEq, V.bl.injEq, and_self, Nat.reduceLeDiff, exists_eq_right', exists_and_right, Option.isNone_none, Option.isNone_some, pFor, pCall, pMeth]
    refine ⟨r1, r2, rfl, h1, h2, fun ms hms hmem => ?_⟩
    have q := q ms hms hmem
    refine ⟨_, rfl, fun i ρ n2 => n2 = n ∧ ρ = [.fr (pWord cR cS cW r1), .fr (pWord cR cS cW r2), .no, .no] ∧ ∀ a ∈ (ms.take i).flatMap (triesOf r1 r2), labelOf r1 a = labelOf r2 a, ⟨rfl, rfl, fun a ha => by simp at ha⟩, ?_, ?_⟩
    · rintro i y ρ n2 hy ⟨rfl, rfl, hall⟩
      rw [List.getElem?_map] at hy
      obtain ⟨st, hsi, rfl⟩ := Option.map_eq_some_iff.mp hy
      have hst2 := (hmem st).mp (List.mem_of_getElem? hsi)
      have hil := (List.getElem?_eq_some_iff.mp hsi).1
      have hsp : ms = ms.take i ++ st :: ms.drop (i + 1) := by
        obtain ⟨hlt, e⟩ := List.getElem?_eq_some_iff.mp hsi
        rw [← e, ← List.drop_eq_getElem_cons hlt, List.take_append_drop]
      have htk : ms.take (i + 1) = ms.take i ++ [st] := by rw [List.take_add_one, hsi]; rfl
      simp only [pStrOf, pCatS, pSortII, pParOwE, pParOwC, pIsi, pListR2, startP, List.map_cons, List.map_nil, List.length_cons, List.length_nil, Nat.reduceAdd, Nat.reduceSub, List.replicate_succ, List.replicate_zero, List.cons_append, List.nil_append, pSeq, pAsg, pAsgV, pPar, pPar3, pIfS, pRet, pRetN, pDrop, pNext, pNever, pSetOw, pSetD, pPutD, pDGet, pInS, pCKw, pSl, pSlL, pNoPart, pPart, piEn, v_od, PV.dic.injEq, pApp, pAppV, pPutI, pAug, pVar, pC, pOp, pUn, pI0, pI, pU, pIsN, pNotN, pNil, pCons, pTup, pLst, pFld, pIxL, pIxT, pEq, pNe, pAndV, pOrV, pNotV, pB, pAnd, pOr, pNot, pYes, pIf, pCB, pLen, pListOf, pTupOf, pMin2, pMax2, pCat, pIsTup, pIntOf, pgName, pgNil, pgCons, pgTup, piL, piT, piR1, piR2, piEn, piEnT,
    g0, g0r, gS, v_fr, v_ow, hid_nil, hid_fr, hid_no, hid_ow, keep_t, keep_f, keep_nil, noOw_nil, noOw_fr, noOw_no, noOw_ow, noL_int, noL_bl, noL_str, noL_non, noL_pO, noL_tup, noLL_nil, noLL_cons, stow_eq, len_tup, len_lst, len_scr, at_nat, at_0, at_1, at_2, at_3, sc_int, sc_bl, sc_str, sc_non, sc_pO, vO_inj, vO_int, int_vO, scal_NN, scal_OO, scal_OI, scal_IO, scal_II, scal_SS, scal_BB, isN_pO, isN_int, isN_bl, isN_str, isN_non, isN_tup, isN_lst, isN_ob, pO_some, pO_none,
    List.set_cons_zero, List.set_cons_succ, List.getElem?_cons_zero, List.getElem?_cons_succ, Option.some.injEq, PV.int.injEq, PV.bl.injEq, PV.str.injEq, PV.lst.injEq, PV.tup.injEq, PS.ow.injEq, PS.fr.injEq, List.cons.injEq, exists_eq_left, exists_eq_left', exists_eq_right, exists_and_left, exists_const, and_true, true_and, reduceCtorEq, false_and, and_false, exists_false, if_true, if_false, Bool.false_eq_true, ↓reduceIte, Bool.or_true, Bool.true_or, Bool.or_false, Bool.false_or, Bool.and_true, Bool.true_and, Bool.not_true, Bool.not_false, ite_true, ite_false, exists_eq, exists_eq', and_assoc, decide_eq_true_eq, V.int.injEq, V.str.injEq, V.bl.injEq, and_self, Nat.reduceLeDiff, exists_eq_right', exists_and_right, Option.isNone_none, Option.isNone_some, pCall, pFor, pMeth]
      refine ⟨r1, r2, st, rfl, ok1, ok2, (hst st hst2).1, (hst st hst2).2, _, rfl, fun j ρ n3 => n3 = n2 ∧ ρ = [.fr (pWord cR cS cW r1), .fr (pWord cR cS cW r2), .no, .no] ∧ ∀ a ∈ (triesOf r1 r2 st).take j, labelOf r1 a = labelOf r2 a, ⟨rfl, rfl, fun a ha => by simp at ha⟩, ?_, ?_⟩
      · rintro j y ρ n3 hy2 ⟨rfl, rfl, hall2⟩
        rw [List.getElem?_map] at hy2
        obtain ⟨a, haj, rfl⟩ := Option.map_eq_some_iff.mp hy2
        have ha0 := hpos st hst2 a (List.mem_of_getElem? haj)
        obtain ⟨fs, hw, l1⟩ := word_label (cR := cR) (cS := cS) (cW := cW) (rows := r1)
        obtain ⟨gs, hg, l2⟩ := word_label (cR := cR) (cS := cS) (cW := cW) (rows := r2)
        simp only [pStrOf, pCatS, pSortII, pParOwE, pParOwC, pIsi, pListR2, startP, List.map_cons, List.map_nil, List.length_cons, List.length_nil, Nat.reduceAdd, Nat.reduceSub, List.replicate_succ, List.replicate_zero, List.cons_append, List.nil_append, pSeq, pAsg, pAsgV, pPar, pPar3, pIfS, pRet, pRetN, pDrop, pNext, pNever, pSetOw, pSetD, pPutD, pDGet, pInS, pCKw, pSl, pSlL, pNoPart, pPart, piEn, v_od, PV.dic.injEq, pApp, pAppV, pPutI, pAug, pVar, pC, pOp, pUn, pI0, pI, pU, pIsN, pNotN, pNil, pCons, pTup, pLst, pFld, pIxL, pIxT, pEq, pNe, pAndV, pOrV, pNotV, pB, pAnd, pOr, pNot, pYes, pIf, pCB, pLen, pListOf, pTupOf, pMin2, pMax2, pCat, pIsTup, pIntOf, pgName, pgNil, pgCons, pgTup, piL, piT, piR1, piR2, piEn, piEnT,
    g0, g0r, gS, v_fr, v_ow, hid_nil, hid_fr, hid_no, hid_ow, keep_t, keep_f, keep_nil, noOw_nil, noOw_fr, noOw_no, noOw_ow, noL_int, noL_bl, noL_str, noL_non, noL_pO, noL_tup, noLL_nil, noLL_cons, stow_eq, len_tup, len_lst, len_scr, at_nat, at_0, at_1, at_2, at_3, sc_int, sc_bl, sc_str, sc_non, sc_pO, vO_inj, vO_int, int_vO, scal_NN, scal_OO, scal_OI, scal_IO, scal_II, scal_SS, scal_BB, isN_pO, isN_int, isN_bl, isN_str, isN_non, isN_tup, isN_lst, isN_ob, pO_some, pO_none,
    List.set_cons_zero, List.set_cons_succ, List.getElem?_cons_zero, List.getElem?_cons_succ, Option.some.injEq, PV.int.injEq, PV.bl.injEq, PV.str.injEq, PV.lst.injEq, PV.tup.injEq, PS.ow.injEq, PS.fr.injEq, List.cons.injEq, exists_eq_left, exists_eq_left', exists_eq_right, exists_and_left, exists_const, and_true, true_and, reduceCtorEq, false_and, and_false, exists_false, if_true, if_false, Bool.false_eq_true, ↓reduceIte, Bool.or_true, Bool.true_or, Bool.or_false, Bool.false_or, Bool.and_true, Bool.true_and, Bool.not_true, Bool.not_false, ite_true, ite_false, exists_eq, exists_eq', and_assoc, decide_eq_true_eq, V.int.injEq, V.str.injEq, V.bl.injEq, and_self, Nat.reduceLeDiff, exists_eq_right', exists_and_right, Option.isNone_none, Option.isNone_some, pCall, pFor, pMeth]
        refine ⟨fs, hw, l1, r1, a, rfl, ok1, ha0, gs, hg, l2, r2, a, rfl, ok2, ha0, ?_⟩
        refine lab_ne2 (label_str ok1 a) (label_str ok2 a) ⟨_, rfl, ?_⟩
        by_cases hl : labelOf r1 a = labelOf r2 a
        · rw [if_neg (by simpa using hl)]
          refine ⟨rfl, fun b hb => ?_⟩
          rw [List.take_add_one, haj] at hb
          rcases List.mem_append.mp hb with hb | hb
          · exact hall2 b hb
          · rw [show b = a by simpa using hb]; exact hl
        · rw [if_pos (by simpa using hl)]
          have key : alikeL r1 r2 ms = some a := by
            unfold alikeL
            have e1 : (triesOf r1 r2 st) = (triesOf r1 r2 st).take j ++ a :: (triesOf r1 r2 st).drop (j + 1) := by
              obtain ⟨hlt, e⟩ := List.getElem?_eq_some_iff.mp haj
              rw [← e, ← List.drop_eq_getElem_cons hlt, List.take_append_drop]
            rw [hsp, List.flatMap_append, List.flatMap_cons, e1]
            rw [List.find?_append, List.find?_eq_none.mpr (fun b hb => by simpa using hall b hb), Option.none_or, List.append_assoc, List.find?_append, List.find?_eq_none.mpr (fun b hb => by simpa using hall2 b hb), Option.none_or, List.cons_append, List.find?_cons_of_pos (by simpa using hl)]
          rw [key] at q
          exact q
      · rintro ρ n3 ⟨rfl, rfl, hall2⟩
        rw [List.length_map, List.take_of_length_le (Nat.le_refl _)] at hall2
        refine ⟨rfl, rfl, fun b hb => ?_⟩
        rw [htk, List.flatMap_append] at hb
        rcases List.mem_append.mp hb with hb | hb
        · exact hall b hb
        · exact hall2 b (by simpa using hb)
    · rintro ρ n2 ⟨rfl, rfl, hall⟩
      rw [List.length_map, List.take_of_length_le (Nat.le_refl _)] at hall
      have key : alikeL r1 r2 ms = none := by
        unfold alikeL
        exact List.find?_eq_none.mpr fun b hb => by simpa using hall b hb
      rw [key] at q
      exact q
end
end Age

set_option Elab.async false
set_option linter.all false
set_option maxRecDepth 100000
set_option maxHeartbeats 4000000
/-! Q30a: edges of one wording that another has not -/
namespace Age
open PySem PySem.Spec PyProof.Rows L2 Evl Pu
def wLast (cR cS cW : Addr) : PSp := fun xs n Q => ∃ (rows : List RowD) (a : Int), xs = [pWord cR cS cW rows, .int a] ∧ RowsOk rows ∧ Ag a ∧ Q (.int (lastEdge (spansFrom 0 none rows) a)) n
theorem word_last {cR cS cW : Addr} {rows : List RowD} : ∃ fs, pWord cR cS cW rows = PV.ob cW fs ∧ List.lookup (Str.ofString "last_edge") fs = none := ⟨_, rfl, rfl⟩
/-- what three looks at edges from one on say: some r, told; none, all are edges -/
def missStep (r1 r2 : List RowD) : Nat → Option Int → Option (Option Int)
  | 0, _ => none
  | _ + 1, none => some none
  | k + 1, some e => if lastEdge (spansFrom 0 none r1) e = e then missStep r1 r2 k (laterEdge (spansFrom 0 none r2) e) else some (some e)
def stE (r2 : List RowD) (st : Int) : Option Int := laterEdge (spansFrom 0 none r2) (max (st - 1) 0)
def missedL (r1 r2 : List RowD) (ms : List Int) : Option Int := (ms.findSome? fun st => missStep r1 r2 3 (stE r2 st)).getD none
/-- the edges that are asked for are not too great -/
def chainOk (r2 : List RowD) : Nat → Option Int → Prop
  | 0, _ => True
  | _ + 1, none => True
  | k + 1, some e => Ag e ∧ chainOk r2 k (laterEdge (spansFrom 0 none r2) e)
def wMissed (cR cS cW : Addr) : PSp := fun xs n Q => ∃ (r1 r2 : List RowD), xs = [pWord cR cS cW r1, pWord cR cS cW r2] ∧ r1.length ≤ 30 ∧ r2.length ≤ 30 ∧ RowsOk r1 ∧ RowsOk r2 ∧ (∀ st ∈ lows r1 ++ lows r2, Ag (max (st - 1) 0) ∧ chainOk r2 3 (stE r2 st)) ∧
  ∀ ms : List Int, ms.Pairwise (· < ·) → (∀ k, k ∈ ms ↔ k ∈ lows r1 ++ lows r2) → Q (pO (missedL r1 r2 ms)) n
def wReturns (cR cS cW : Addr) : PSp := fun xs n Q => ∃ rows : List RowD, xs = [pWord cR cS cW rows] ∧ RowsOk rows ∧ Q (pO (returnsOf (spansFrom 0 none rows))) n
def wSteadyG (cR cS cW : Addr) : PSp := fun xs n Q => ∃ rows : List RowD, xs = [pWord cR cS cW rows] ∧ RowsOk rows ∧ Steady (labelOf rows) ∧ Q .non n
theorem word_ret {cR cS cW : Addr} {rows : List RowD} : ∃ fs, pWord cR cS cW rows = PV.ob cW fs ∧ List.lookup (Str.ofString "ages") fs = none ∧ List.lookup (Str.ofString "returns") fs = none := ⟨_, rfl, rfl, rfl⟩
def wFiner (cR cS cW : Addr) : PSp := fun xs n Q => ∃ (r1 r2 : List RowD), xs = [pWord cR cS cW r1, pWord cR cS cW r2] ∧ RowsOk r1 ∧ Steady (labelOf r1) ∧ r1.length ≤ 30 ∧ r2.length ≤ 30 ∧ RowsOk r2 ∧ (∀ st ∈ lows r1 ++ lows r2, Ag (max (st - 1) 0) ∧ chainOk r2 3 (stE r2 st)) ∧
  ∀ ms : List Int, ms.Pairwise (· < ·) → (∀ k, k ∈ ms ↔ k ∈ lows r1 ++ lows r2) → Q (pO (missedL r1 r2 ms)) n
section
variable {P : Program} {w : World} {K : PySem.W.Frag} {mg : Str → Option Value} {base : Heap} {cR cS cW : Addr} {k : Nat} {name : Str} {ps : List Str} {C : Addr}
theorem pu_last (c : Met P w K mg base CX0 k C name ps (spLast cR cS cW)) : Met P w K mg base CX0 k C name ps (lift K (wLast cR cS cW)) := c.imp fun vs H Q E ⟨p, c, F, O, n, xs, Q', s, r, ⟨rows, a, e, h1, h2, h3⟩, q⟩ => by
  subst e
  obtain ⟨v1, y1, rfl, r1, r2⟩ := r.cons_inv
  obtain ⟨v2, y2, rfl, r3, r2⟩ := r2.cons_inv
  cases r2
  obtain ⟨l, rfl, g1⟩ := rep_word r1
  rw [r3.getI]
  exact ⟨l, rows, a, rfl, g1.mono s.f, h1, h2, fun H2 e => q _ _ _ _ O H2 h3 ⟨Ex.refl _, .refl, s.grow e⟩ (.int _)⟩
theorem pu_returns (c : Met P w K mg base CX0 k C name ps (spReturns cR cS cW)) : Met P w K mg base CX0 k C name ps (lift K (wReturns cR cS cW)) := c.imp fun vs H Q E ⟨p, c, F, O, n, xs, Q', s, r, ⟨rows, e, h1, h3⟩, q⟩ => by
  subst e
  obtain ⟨v1, y1, rfl, r1, r2⟩ := r.cons_inv
  cases r2
  obtain ⟨l, rfl, g1⟩ := rep_word r1
  exact ⟨l, rows, rfl, g1.mono s.f, h1, fun H2 e => q _ _ _ _ O H2 h3 ⟨Ex.refl _, .refl, s.grow e⟩ (rep_oV _)⟩
end
end Age

set_option Elab.async false
set_option linter.all false
set_option maxRecDepth 100000
set_option maxHeartbeats 4000000
/-! N2: the least edge that another wording has not -/
namespace Age
open PySem PySem.Spec PyProof.Rows L2 Evl Pu
def Inr (e : Option Int) (n : Int) : Prop := ∀ x, e = some x → n < x
/-- from s on, and below e, one row words -/
structure Sg (lab : Int → Lab) (s : Int) (e : Option Int) (r : RowD) : Prop where
  s0 : 0 ≤ s
  un : ∀ u, r.unit = some u → 0 < u
  lb : ∀ n, s ≤ n → Inr e n → lab n = (r.word, cntO r n)
theorem Inr.le {e : Option Int} {n m : Int} (h : Inr e n) (hm : m ≤ n) : Inr e m := fun x hx => by have := h x hx; omega
theorem Chain.first {ss : List SpanD} {b : Int} (h : Chain b ss) : ∃ s ∈ ss, s.low = b := by
  cases h with
  | last h1 h2 => exact ⟨_, List.mem_cons_self, h1⟩
  | more h1 h2 h3 h4 => exact ⟨_, List.mem_cons_self, h1⟩
theorem Chain.nxt : ∀ {ss : List SpanD} {b : Int}, Chain b ss → ∀ s ∈ ss, ∀ h, s.high = some h → ∃ t ∈ ss, t.low = h + 1
  | _, _, .last h1 h2, s, hs, h, hh => by rw [List.mem_singleton.mp hs, h2] at hh; cases hh
  | _, _, .more h1 h2 h3 h4, s, hs, h, hh => by
    rcases List.mem_cons.mp hs with z | z
    · rw [z, h2] at hh
      cases hh
      obtain ⟨t, ht, e⟩ := h4.first
      exact ⟨t, List.mem_cons_of_mem _ ht, e⟩
    · obtain ⟨t, ht, e⟩ := h4.nxt s z h hh
      exact ⟨t, List.mem_cons_of_mem _ ht, e⟩
theorem seg_row {rows : List RowD} (ok : RowsOk rows) {s : Int} (hs : 0 ≤ s) {e : Option Int} (hno : ∀ l ∈ lows rows, s < l → ∃ x, e = some x ∧ x ≤ l) : ∃ r, Sg (labelOf rows) s e r := by
  obtain ⟨F, hc⟩ := ok.fit
  obtain ⟨sp, hm, h1, h2⟩ := hc.cover s hs
  refine ⟨sp.row, hs, (F sp hm).un, fun n hn hi => (F sp hm).lb n ⟨by omega, fun h hh => ?_⟩⟩
  obtain ⟨t, ht, e1⟩ := hc.nxt sp hm h hh
  have := h2 h hh
  obtain ⟨x, e2, e3⟩ := hno (h + 1) (List.mem_map.mpr ⟨t, ht, e1⟩) (by omega)
  have := hi x e2
  omega
section
variable {lab : Int → Lab} {s : Int} {e : Option Int} {r : RowD}
theorem Sg.edge (S : Sg lab s e r) {n : Int} (h1 : s < n) (h2 : Inr e n) : EdgeF lab n ↔ cntO r n ≠ cntO r (n - 1) := by
  have h0 := S.s0
  unfold EdgeF
  rw [S.lb n (by omega) h2, S.lb (n - 1) (by omega) (h2.le (by omega))]
  constructor
  · rintro ⟨_, z⟩ e
    exact z (by rw [e])
  · intro z
    exact ⟨by omega, fun e => z (congrArg Prod.snd e)⟩
theorem Sg.non (S : Sg lab s e r) (hu : r.unit = none) {n : Int} (h1 : s < n) (h2 : Inr e n) : ¬ EdgeF lab n := by
  rw [S.edge h1 h2, cntO_none hu, cntO_none hu]
  simp
theorem Sg.som (S : Sg lab s e r) {u : Int} (hu : r.unit = some u) {n : Int} (h1 : s < n) (h2 : Inr e n) : EdgeF lab n ↔ ∃ c, n = fst c u r.way := by
  have u0 := S.un u hu
  rw [S.edge h1 h2, cntO_some hu, cntO_some hu]
  have a1 := cnt_mono (w := r.way) u0 (show n - 1 ≤ n by omega)
  constructor
  · intro z
    have z2 : cnt n u r.way ≠ cnt (n - 1) u r.way := fun e => z (by rw [e])
    have a2 := (cnt_ge (n := n) (c := cnt n u r.way) (w := r.way) u0).mp (Int.le_refl _)
    have a3 : ¬ fst (cnt n u r.way) u r.way ≤ n - 1 := fun q => by
      have := (cnt_ge (w := r.way) u0).mpr q
      omega
    exact ⟨cnt n u r.way, by omega⟩
  · rintro ⟨c, hc⟩ q
    have q := Option.some.inj q
    have a2 := (cnt_ge (n := n) (c := c) (w := r.way) u0).mpr (by omega)
    have a3 := (cnt_ge (n := n - 1) (c := c) (w := r.way) u0).mp (by omega)
    omega
/-- two edges of a row with none between -/
theorem Sg.two (S : Sg lab s e r) {u : Int} (hu : r.unit = Option.some u) {a b : Int} (h1 : s < a) (hab : a < b) (h2 : Inr e b) (ha : EdgeF lab a) (hb : EdgeF lab b) (hno : ∀ x, a < x → x < b → ¬ EdgeF lab x) : b = a + u := by
  have u0 := S.un u hu
  obtain ⟨c, hc⟩ := (S.som hu h1 (h2.le (by omega))).mp ha
  obtain ⟨d, hd⟩ := (S.som hu (by omega) h2).mp hb
  have e1 : fst (c + 1) u r.way = a + u := by rw [hc]; unfold fst; rw [Int.add_mul, Int.one_mul]; omega
  have hcd : c < d := by
    rcases Int.lt_or_le c d with z | z
    · exact z
    · have : d * u ≤ c * u := Int.mul_le_mul_of_nonneg_right z (by omega)
      unfold fst at hc hd
      omega
  have h3 : (c + 1) * u ≤ d * u := Int.mul_le_mul_of_nonneg_right (by omega) (by omega)
  have h4 : a + u ≤ b := by unfold fst at e1 hd; omega
  rcases Int.lt_or_le (a + u) b with z | z
  · exact absurd ((S.som hu (n := a + u) (by omega) (h2.le (by omega))).mpr ⟨c + 1, e1.symm⟩) (hno _ (by omega) z)
  · omega
end
theorem Sg.has {lab : Int → Lab} {s : Int} {e : Option Int} {r : RowD} (S : Sg lab s e r) {n : Int} (h1 : s < n) (h2 : Inr e n) (h : EdgeF lab n) : ∃ u, r.unit = some u := by
  cases hu : r.unit with
  | none => exact absurd h (S.non hu h1 h2)
  | some u => exact ⟨u, rfl⟩
/-- if two edges that follow one another are edges of the other wording, too, so are all of the row -/
theorem seg_clean {lab1 lab2 : Int → Lab} {s : Int} {e : Option Int} {r1 r2 : RowD} (S1 : Sg lab1 s e r1) (S2 : Sg lab2 s e r2) {a b : Int} (ha : s < a) (hab : a < b) (hb : Inr e b) (a2 : EdgeF lab2 a) (b2 : EdgeF lab2 b) (hno : ∀ x, a < x → x < b → ¬ EdgeF lab2 x) (a1 : EdgeF lab1 a) (b1 : EdgeF lab1 b) {n : Int} (hn : b < n) (hi : Inr e n) (hE : EdgeF lab2 n) : EdgeF lab1 n := by
  obtain ⟨u2, hu2⟩ := S2.has (by omega) hb b2
  obtain ⟨u1, hu1⟩ := S1.has (by omega) hb b1
  have h2 := S2.two hu2 ha hab hb a2 b2 hno
  obtain ⟨c, hc⟩ := (S2.som hu2 ha (hb.le (by omega))).mp a2
  obtain ⟨k, hk⟩ := (S2.som hu2 (by omega) hi).mp hE
  obtain ⟨p, hp⟩ := (S1.som hu1 ha (hb.le (by omega))).mp a1
  obtain ⟨q, hq⟩ := (S1.som hu1 (by omega) hb).mp b1
  refine (S1.som hu1 (by omega) hi).mpr ⟨p + (k - c) * (q - p), ?_⟩
  have e1 : u2 = (q - p) * u1 := by unfold fst at hp hq; rw [Int.sub_mul]; omega
  have e2 : n = a + (k - c) * u2 := by unfold fst at hc hk; rw [Int.sub_mul]; omega
  rw [e2, e1]
  unfold fst at hp ⊢
  rw [Int.add_mul, Int.mul_assoc]
  omega
def Stray (r1 r2 : List RowD) (b : Int) : Prop := EdgeF (labelOf r2) b ∧ ¬ EdgeF (labelOf r1) b
theorem last_edge_iff {rows : List RowD} (ok : RowsOk rows) {e : Int} (he : 0 < e) : lastEdge (spansFrom 0 none rows) e = e ↔ EdgeF (labelOf rows) e := by
  have h := last_spec ok (n := e) (by omega)
  constructor
  · intro q
    rw [q] at h
    exact h.ed he
  · intro q
    exact LastE.uniq h ⟨by omega, Int.le_refl _, fun _ => q, fun x h1 h2 => by omega⟩
section
variable {r1 r2 : List RowD}
theorem missStep_one (ok1 : RowsOk r1) (ok2 : RowsOk r2) {m : Int} (hm : 0 ≤ m) (hcl : ∀ x, x ≤ m → ¬ Stray r1 r2 x) (k : Nat) : match laterEdge (spansFrom 0 none r2) m with
    | none => missStep r1 r2 (k + 1) none = some none ∧ ∀ x, ¬ Stray r1 r2 x
    | some e => NextE (labelOf r2) m e ∧ (if lastEdge (spansFrom 0 none r1) e = e then missStep r1 r2 (k + 1) (some e) = missStep r1 r2 k (laterEdge (spansFrom 0 none r2) e) ∧ EdgeF (labelOf r1) e ∧ ∀ x, x ≤ e → ¬ Stray r1 r2 x
        else missStep r1 r2 (k + 1) (some e) = some (some e) ∧ Stray r1 r2 e ∧ ∀ x, x < e → ¬ Stray r1 r2 x) := by
  have h := later_next ok2 hm
  cases hl : laterEdge (spansFrom 0 none r2) m with
  | none =>
    rw [hl] at h
    refine ⟨rfl, fun x hx => ?_⟩
    rcases Int.lt_or_le m x with z | z
    · exact h x z hx.1
    · exact hcl x z hx
  | some e =>
    rw [hl] at h
    have h : NextE (labelOf r2) m e := h
    have e0 : 0 < e := h.ed.1
    have below : ∀ x, x < e → ¬ Stray r1 r2 x := fun x hx hs => by
      rcases Int.lt_or_le m x with z | z
      · exact h.no x z hx hs.1
      · exact hcl x z hs
    refine ⟨h, ?_⟩
    by_cases q : lastEdge (spansFrom 0 none r1) e = e
    · rw [if_pos q]
      have hE := (last_edge_iff ok1 e0).mp q
      refine ⟨by show (if _ then _ else _) = _; rw [if_pos q], hE, fun x hx hs => ?_⟩
      by_cases hxe : x = e
      · rw [hxe] at hs; exact hs.2 hE
      · exact below x (by omega) hs
    · rw [if_neg q]
      exact ⟨by show (if _ then _ else _) = _; rw [if_neg q], ⟨h.ed, fun z => q ((last_edge_iff ok1 e0).mpr z)⟩, below⟩
theorem step_spec (ok1 : RowsOk r1) (ok2 : RowsOk r2) {s : Int} {e : Option Int} {w1 w2 : RowD} (S1 : Sg (labelOf r1) s e w1) (S2 : Sg (labelOf r2) s e w2) (hcl : ∀ x, x < s → ¬ Stray r1 r2 x) : match missStep r1 r2 3 (stE r2 s) with
    | some (some b) => Stray r1 r2 b ∧ ∀ x, x < b → ¬ Stray r1 r2 x
    | some none => ∀ x, ¬ Stray r1 r2 x
    | none => ∀ x, Inr e x → ¬ Stray r1 r2 x := by
  have s0 := S1.s0
  have c0 : ∀ x, x ≤ max (s - 1) 0 → ¬ Stray r1 r2 x := fun x hx hs => by
    rcases Int.lt_or_le x s with z | z
    · exact hcl x z hs
    · have := hs.1.1; omega
  unfold stE
  have t1 := missStep_one ok1 ok2 (m := max (s - 1) 0) (by omega) c0 2
  cases h1 : laterEdge (spansFrom 0 none r2) (max (s - 1) 0) with
  | none => rw [h1] at t1; rw [t1.1]; exact t1.2
  | some a =>
    rw [h1] at t1
    obtain ⟨na, t1⟩ := t1
    have ga := na.gt
    by_cases qa : lastEdge (spansFrom 0 none r1) a = a
    · rw [if_pos qa] at t1
      rw [t1.1]
      have t2 := missStep_one ok1 ok2 (m := a) (by omega) t1.2.2 1
      cases h2 : laterEdge (spansFrom 0 none r2) a with
      | none => rw [h2] at t2; rw [t2.1]; exact t2.2
      | some b =>
        rw [h2] at t2
        obtain ⟨nb, t2⟩ := t2
        have gb := nb.gt
        by_cases qb : lastEdge (spansFrom 0 none r1) b = b
        · rw [if_pos qb] at t2
          rw [t2.1]
          have t3 := missStep_one ok1 ok2 (m := b) (by omega) t2.2.2 0
          cases h3 : laterEdge (spansFrom 0 none r2) b with
          | none => rw [h3] at t3; rw [t3.1]; exact t3.2
          | some c =>
            rw [h3] at t3
            obtain ⟨nc, t3⟩ := t3
            have gc := nc.gt
            by_cases qc : lastEdge (spansFrom 0 none r1) c = c
            · rw [if_pos qc] at t3
              rw [t3.1]
              show ∀ x, Inr e x → ¬ Stray r1 r2 x
              intro x hx hs
              rcases Int.lt_or_le c x with z | z
              · refine hs.2 (seg_clean S1 S2 (a := b) (b := c) (by omega) gc (hx.le (by omega)) nb.ed nc.ed nc.no t2.2.1 t3.2.1 z hx hs.1)
              · exact t3.2.2 x z hs
            · rw [if_neg qc] at t3
              rw [t3.1]
              exact t3.2
        · rw [if_neg qb] at t2
          rw [t2.1]
          exact t2.2
    · rw [if_neg qa] at t1
      rw [t1.1]
      exact t1.2
theorem missed_list (ok1 : RowsOk r1) (ok2 : RowsOk r2) : ∀ (ms : List Int) (s : Int), (s :: ms).Pairwise (· < ·) → (∀ l ∈ lows r1 ++ lows r2, s < l → l ∈ ms) → 0 ≤ s → (∀ x, x < s → ¬ Stray r1 r2 x) → match ((s :: ms).findSome? fun st => missStep r1 r2 3 (stE r2 st)).getD none with
    | some b => Stray r1 r2 b ∧ ∀ x, x < b → ¬ Stray r1 r2 x
    | none => ∀ x, ¬ Stray r1 r2 x
  | ms, s, hp, hin, hs, hcl => by
    have hno : ∀ l ∈ lows r1 ++ lows r2, s < l → ∃ x, ms.head? = some x ∧ x ≤ l := fun l hl hsl => by
      have := hin l hl hsl
      cases ms with
      | nil => cases this
      | cons y ys =>
        refine ⟨y, rfl, ?_⟩
        rcases List.mem_cons.mp this with z | z
        · omega
        · have := (List.pairwise_cons.mp (List.pairwise_cons.mp hp).2).1 l z
          omega
    obtain ⟨w1, S1⟩ := seg_row ok1 hs (e := ms.head?) fun l hl => hno l (List.mem_append_left _ hl)
    obtain ⟨w2, S2⟩ := seg_row ok2 hs (e := ms.head?) fun l hl => hno l (List.mem_append_right _ hl)
    have st := step_spec ok1 ok2 S1 S2 hcl
    rw [List.findSome?_cons]
    cases hm : missStep r1 r2 3 (stE r2 s) with
    | some o =>
      rw [hm] at st
      cases o with
      | none => exact st
      | some b => exact st
    | none =>
      rw [hm] at st
      have st : ∀ x, Inr ms.head? x → ¬ Stray r1 r2 x := st
      cases ms with
      | nil => exact fun x => st x fun y hy => by cases hy
      | cons y ys =>
        have hp2 := List.pairwise_cons.mp hp
        have hsy := hp2.1 y List.mem_cons_self
        refine missed_list ok1 ok2 ys y hp2.2 (fun l hl hyl => ?_) (by omega) fun x hx => st x fun z hz => by cases hz; exact hx
        rcases List.mem_cons.mp (hin l hl (by omega)) with z | z
        · omega
        · exact z
theorem low_0 (rows : List RowD) (h : rows ≠ []) : (0 : Int) ∈ lows rows := by
  cases rows with
  | nil => exact absurd rfl h
  | cons r rs => unfold lows spansFrom; cases r.til <;> simp
theorem low_ge (ok : RowsOk r1) : ∀ l ∈ lows r1, 0 ≤ l := fun l hl => by
  obtain ⟨s, hs, rfl⟩ := List.mem_map.mp hl
  exact (ok.fit.1 s hs).lo
theorem missed_spec (ok1 : RowsOk r1) (ok2 : RowsOk r2) {ms : List Int} (hp : ms.Pairwise (· < ·)) (hm : ∀ k, k ∈ ms ↔ k ∈ lows r1 ++ lows r2) : match missedL r1 r2 ms with
    | some b => Stray r1 r2 b ∧ ∀ x, x < b → ¬ Stray r1 r2 x
    | none => ∀ x, ¬ Stray r1 r2 x := by
  have h0 : (0 : Int) ∈ ms := (hm 0).mpr (List.mem_append_left _ (low_0 _ ok1.u.ne))
  have hge : ∀ l ∈ ms, 0 ≤ l := fun l hl => by
    rcases List.mem_append.mp ((hm l).mp hl) with z | z
    · exact low_ge ok1 l z
    · exact low_ge ok2 l z
  cases ms with
  | nil => cases h0
  | cons s rest =>
    have hs := hge s List.mem_cons_self
    unfold missedL
    refine missed_list ok1 ok2 rest s hp (fun l hl hsl => ?_) hs fun x hx hst => ?_
    · rcases List.mem_cons.mp ((hm l).mpr hl) with z | z
      · omega
      · exact z
    · have := hst.1.1
      have hs0 : s ≤ 0 := by
        rcases List.mem_cons.mp h0 with z | z
        · omega
        · have := (List.pairwise_cons.mp hp).1 0 z; omega
      omega
end
end Age

set_option Elab.async false
set_option linter.all false
set_option maxRecDepth 100000
set_option maxHeartbeats 4000000
/-! N1: bounds, labels beside each other, the last row, counting -/
namespace Age
open PySem PySem.Spec PyProof.Rows L2 Evl Pu
theorem toD_labN (l : Str × Option Int) : toD (pLab l) = some (dL l) := by
  unfold pLab dL
  refine toD_tup ?_
  show (match some (PyData.str l.1), (match toD (pO l.2), toDL [] with
      | some d, some ds => some (d :: ds)
      | _, _ => none) with
      | some d, some ds => some (d :: ds)
      | _, _ => none) = _
  rw [toD_pO]
  rfl
theorem word_lookN {cR cS cW : Addr} {rows : List RowD} : ∃ fs, pWord cR cS cW rows = PV.ob cW fs ∧ List.lookup (Str.ofString "ages") fs = none ∧ List.lookup (Str.ofString "label") fs = none ∧ List.lookup (Str.ofString "later_edge") fs = none ∧ List.lookup (Str.ofString "last_edge") fs = none ∧ List.lookup (Str.ofString "edges") fs = none ∧ List.lookup (Str.ofString "returns") fs = none ∧ List.lookup (Str.ofString "text") fs = none := ⟨_, rfl, rfl, rfl, rfl, rfl, rfl, rfl, rfl⟩
theorem label_cokN {rows : List RowD} (ok : RowsOk rows) {n : Int} (hn : Ag n) : Cok (labelOf rows n).2 := by
  obtain ⟨r, hr, e⟩ := label_row ok n
  rw [e]
  intro c hc
  have hc : cntO r n = some c := hc
  cases hu : r.unit with
  | none => rw [cntO_none hu] at hc; cases hc
  | some u =>
    rw [cntO_some hu] at hc
    have ⟨u0, u1⟩ := (ok.r r hr).1.un u hu
    have hb := cnt_bd r.way hn.1 u0
    rw [Option.some.inj hc] at hb
    unfold Ag at hn u1
    unfold Sm
    omega
/-- rows whose numbers are not above 10 ^ 23 -/
def BndN (rows : List RowD) : Prop := ∀ r ∈ rows, (∀ u, r.unit = some u → 0 < u ∧ u ≤ 100000000000000000000000) ∧ ∀ t, r.til = some t → 0 < t ∧ t ≤ 100000000000000000000000
theorem spans_bndN : ∀ {rows : List RowD} {b : Int} {sh : Option (Str × Option Int)}, BndN rows → 0 ≤ b ∧ b ≤ 100000000000000000000000 → ∀ s ∈ spansFrom b sh rows, (0 ≤ s.low ∧ s.low ≤ 100000000000000000000000) ∧ ∀ u, s.row.unit = some u → 0 < u ∧ u ≤ 100000000000000000000000
  | [], _, _, _, _ => fun s h => by simp [spansFrom] at h
  | r :: rs, b, sh, hd, hb => fun s h => by
    obtain ⟨h1, h2⟩ := hd r List.mem_cons_self
    have hd2 : BndN rs := fun r hr => hd r (List.mem_cons_of_mem _ hr)
    cases ht : r.til with
    | none =>
      simp only [spansFrom, ht] at h
      rcases List.mem_cons.mp h with z | z
      · rw [z]; exact ⟨hb, h1⟩
      · exact spans_bndN hd2 hb s z
    | some t =>
      have := h2 t ht
      simp only [spansFrom, ht] at h
      rcases List.mem_cons.mp h with z | z
      · rw [z]; exact ⟨hb, h1⟩
      · exact spans_bndN hd2 (by omega) s z
theorem later_upN {n : Int} (hn : 0 ≤ n) : ∀ {ss : List SpanD}, (∀ s ∈ ss, (0 ≤ s.low ∧ s.low ≤ 100000000000000000000000) ∧ ∀ u, s.row.unit = some u → 0 < u ∧ u ≤ 100000000000000000000000) → ∀ {b : Int}, laterEdge ss n = some b → b ≤ n + 200000000000000000000000
  | [], _, b, h => nomatch h
  | s :: ss, hd, b, h => by
    unfold laterEdge at h
    rw [List.findSome?_cons] at h
    cases he : edgeAfter s n with
    | none =>
      rw [he] at h
      exact later_upN hn (ss := ss) (fun s hs => hd s (List.mem_cons_of_mem _ hs)) h
    | some b' =>
      rw [he] at h
      cases h
      obtain ⟨h1, h2⟩ := hd s List.mem_cons_self
      by_cases c : s.fresh = true ∧ n < s.low
      · have e1 : edgeAfter s n = some s.low := if_pos c
        rw [e1] at he
        cases he
        omega
      · have e1 : edgeAfter s n = _ := if_neg c
        rw [e1] at he
        cases hu : s.row.unit with
        | none => rw [hu] at he; cases he
        | some u =>
          obtain ⟨u0, u1⟩ := h2 u hu
          have key : fst (cnt (if s.low > n then s.low else n) u s.row.way + 1) u s.row.way ≤ n + 200000000000000000000000 := by
            have hm : (if s.low > n then s.low else n) ≤ n + 100000000000000000000000 := by split <;> omega
            generalize (if s.low > n then s.low else n) = m at hm
            have h3 := (cnt_fst (m := m) (w := s.row.way) u0 rfl).2.1
            have h4 : fst (cnt m u s.row.way + 1) u s.row.way = fst (cnt m u s.row.way) u s.row.way + u := by
              unfold fst
              rw [Int.add_mul, Int.one_mul]
              omega
            omega
          rw [hu] at he
          cases hh : s.high with
          | none =>
            rw [hh] at he
            have he : fst (cnt (if s.low > n then s.low else n) u s.row.way + 1) u s.row.way = b := Option.some.inj he
            omega
          | some x =>
            rw [hh] at he
            have he : (if fst (cnt (if s.low > n then s.low else n) u s.row.way + 1) u s.row.way ≤ x then some (fst (cnt (if s.low > n then s.low else n) u s.row.way + 1) u s.row.way) else none) = some b := he
            generalize fst (cnt (if s.low > n then s.low else n) u s.row.way + 1) u s.row.way = e at he key
            split at he
            · cases he; exact key
            · cases he
theorem lab_eqN {l m : Lab} {Q : PV → Prop} (h1 : PyData.strOk l.1 = true) (h2 : PyData.strOk m.1 = true) (q : Q (.bl (decide (l = m)))) : pEqD (pLab l) (pLab m) Q :=
  eqD_of (toD_labN l) (toD_labN m) (shaped_dL _ h1) (shaped_dL _ h2) (by rw [eqv_dL]; exact q)
theorem lab_neN {l m : Lab} {Q : PV → Prop} (h1 : PyData.strOk l.1 = true) (h2 : PyData.strOk m.1 = true) (q : Q (.bl (!decide (l = m)))) : pNeD (pLab l) (pLab m) Q :=
  neD_of (toD_labN l) (toD_labN m) (shaped_dL _ h1) (shaped_dL _ h2) (by rw [eqv_dL]; exact q)
theorem atI_2 {α : Type} (xs : List α) (x y : α) : atI (xs ++ [x, y]) (-2) = some x := by
  unfold atI ixN
  rw [if_neg (by decide), List.length_append]
  have e : (-2 : Int) + ((xs.length + [x, y].length : Nat) : Int) = (xs.length : Int) := by simp; omega
  rw [if_pos (by simp; omega)]
  show (xs ++ [x, y])[((-2 : Int) + ((xs.length + [x, y].length : Nat) : Int)).toNat]? = some x
  rw [e, Int.toNat_natCast]
  simp
theorem atI_m1 {α : Type} (xs : List α) (x : α) : atI (xs ++ [x]) (-1) = some x := atI_last xs x
/-- the last row, from its first age on -/
theorem last_rowU : ∀ {rows : List RowD} {b : Int}, UOk b rows → 0 ≤ b → ∃ (r : RowD) (L : Int), r.til = none ∧ b ≤ L ∧ ((rows = [r] ∧ L = b) ∨ ∃ pre q, rows = pre ++ [q, r] ∧ q.til = some L) ∧ ∀ n, L ≤ n → labelOf rows n = (r.word, cntO r n)
  | _, b, .last (r := r) h, hb => ⟨r, b, h, Int.le_refl _, Or.inl ⟨rfl, rfl⟩, fun n hn => by
    rw [labelOf_cons, if_pos (show hit n r = true by unfold hit; rw [h])]⟩
  | _, b, .more (t := t) (r := r0) (rs := rs) h hbt hu, hb => by
    obtain ⟨r, L, h1, h2, h3, h4⟩ := last_rowU hu (by omega)
    refine ⟨r, L, h1, by omega, Or.inr ?_, fun n hn => ?_⟩
    · rcases h3 with ⟨rfl, rfl⟩ | ⟨pre, q, rfl, hq⟩
      · exact ⟨[], r0, rfl, h⟩
      · exact ⟨r0 :: pre, q, rfl, hq⟩
    · rw [labelOf_cons, if_neg, h4 n hn]
      unfold hit
      rw [h]
      simp
      omega
theorem last_row {rows : List RowD} (ok : RowsOk rows) : ∃ (r : RowD) (L : Int), r ∈ rows ∧ r.til = none ∧ 0 ≤ L ∧ ((rows = [r] ∧ L = 0) ∨ ∃ pre q, rows = pre ++ [q, r] ∧ q.til = some L) ∧ ∀ n, L ≤ n → labelOf rows n = (r.word, cntO r n) := by
  obtain ⟨r, L, h1, h2, h3, h4⟩ := last_rowU ok.u (Int.le_refl _)
  refine ⟨r, L, ?_, h1, h2, h3, h4⟩
  rcases h3 with ⟨e, _⟩ | ⟨pre, q, e, _⟩ <;> rw [e] <;> simp
def cntD (r : RowD) (n : Int) : Int := match r.unit with
  | none => 0
  | some u => cnt n u r.way
theorem numE_last {rows : List RowD} (ok : RowsOk rows) {r : RowD} {L : Int} (hr : r ∈ rows) (hL : 0 ≤ L) (h : ∀ n, L ≤ n → labelOf rows n = (r.word, cntO r n)) {lo : Int} (hlo : L ≤ lo) : ∀ k : Nat, numE (spansFrom 0 none rows) (lo + k) - numE (spansFrom 0 none rows) lo = cntD r (lo + k) - cntD r lo
  | 0 => by simp
  | k + 1 => by
    have ih := numE_last ok hr hL h hlo k
    obtain ⟨F, hc⟩ := ok.fit
    have st := numE_step (lab := labelOf rows) (lo + ((k + 1 : Nat) : Int)) hc F (by omega)
    rw [show lo + ((k + 1 : Nat) : Int) - 1 = lo + k by omega] at st
    have e1 := h (lo + ((k + 1 : Nat) : Int)) (by omega)
    have e2 := h (lo + k) (by omega)
    have key : eI (labelOf rows) (lo + ((k + 1 : Nat) : Int)) = cntD r (lo + ((k + 1 : Nat) : Int)) - cntD r (lo + k) := by
      unfold eI EdgeF
      rw [show lo + ((k + 1 : Nat) : Int) - 1 = lo + k by omega, e1, e2]
      unfold cntD
      cases hu : r.unit with
      | none => rw [cntO_none hu, cntO_none hu]; simp
      | some u =>
        have u0 := ((ok.r r hr).1.un u hu).1
        rw [cntO_some hu, cntO_some hu]
        have a1 := cnt_mono (w := r.way) u0 (show lo + (k : Int) ≤ lo + ((k + 1 : Nat) : Int) by omega)
        have a2 := cnt_succ (n := lo + (k : Int)) (w := r.way) u0
        rw [show lo + (k : Int) + 1 = lo + ((k + 1 : Nat) : Int) by omega] at a2
        dsimp only
        by_cases hq : cnt (lo + ((k + 1 : Nat) : Int)) u r.way = cnt (lo + k) u r.way
        · rw [if_neg (by rw [hq]; simp), hq]; omega
        · rw [if_pos ⟨by omega, by simpa using hq⟩]; omega
    omega
theorem cntD_add {r : RowD} {u n k : Int} (hu : r.unit = some u) (h0 : 0 < u) : cntD r (n + u * k) = cntD r n + k := by
  unfold cntD
  rw [hu]
  show cnt (n + u * k) u r.way = cnt n u r.way + k
  unfold cnt
  rw [show n + u * k + shiftOf u r.way = (n + shiftOf u r.way) + u * k by omega, Int.add_mul_ediv_left _ _ (by omega)]
/-- edges between two ages, counted one by one -/
theorem numE_count {rows : List RowD} (ok : RowsOk rows) {lo : Int} (h0 : 0 ≤ lo) : ∀ k : Nat, (((List.range k).filter fun j => !decide (labelOf rows (lo + 1 + (j : Nat)) = labelOf rows (lo + (j : Nat)))).length : Int) = numE (spansFrom 0 none rows) (lo + k) - numE (spansFrom 0 none rows) lo
  | 0 => by simp
  | k + 1 => by
    have ih := numE_count ok h0 k
    obtain ⟨F, hc⟩ := ok.fit
    have st := numE_step (lab := labelOf rows) (lo + ((k + 1 : Nat) : Int)) hc F (by omega)
    rw [show lo + ((k + 1 : Nat) : Int) - 1 = lo + k by omega] at st
    rw [List.range_succ, List.filter_append, List.length_append]
    have key : ((([k] : List Nat).filter fun j => !decide (labelOf rows (lo + 1 + (j : Nat)) = labelOf rows (lo + (j : Nat)))).length : Int) = eI (labelOf rows) (lo + ((k + 1 : Nat) : Int)) := by
      unfold eI EdgeF
      rw [show lo + ((k + 1 : Nat) : Int) - 1 = lo + k by omega, show lo + ((k + 1 : Nat) : Int) = lo + 1 + (k : Nat) by omega]
      by_cases hq : labelOf rows (lo + 1 + (k : Nat)) = labelOf rows (lo + k)
      · rw [List.filter_cons_of_neg (by simpa using hq), if_neg (by rw [hq]; simp)]; rfl
      · rw [List.filter_cons_of_pos (by simpa using hq), if_pos ⟨by omega, hq⟩]; rfl
    omega
/-- rows times a factor -/
theorem uok_timesN {f : Int} (hf : 0 < f) : ∀ {rows : List RowD} {b : Int}, UOk b rows → UOk (b * f) (rows.map (timesR f))
  | _, _, .last h => .last (by show Option.map _ _ = _; rw [h]; rfl)
  | _, _, .more (t := t) h hb hu => .more (t := t * f) (by show Option.map _ _ = _; rw [h]; rfl) (Int.mul_lt_mul_of_pos_right hb hf) (uok_timesN hf hu)
theorem mul_bd {u f : Int} (h0 : 0 ≤ u) (h1 : u ≤ 1000) (f0 : 0 < f) (f1 : f ≤ 100000000000000000000) : 0 ≤ u * f ∧ u * f ≤ 100000000000000000000000 :=
  ⟨Int.mul_nonneg h0 (by omega), by have := Int.mul_le_mul h1 f1 (by omega) (by decide); omega⟩
theorem rows_timesN {ws : List Str} {most f : Int} {rows : List RowD} (f0 : 0 < f) (f1 : f ≤ 100000000000000000000) (h : Drawn ws most rows) (hm : most ≤ 1000) (hw : ∀ s ∈ ws, PyData.strOk s = true) : RowsOk (rows.map (timesR f)) ∧ BndN (rows.map (timesR f)) := by
  have b : BndN (rows.map (timesR f)) := fun r hr => by
    obtain ⟨r0, h0, rfl⟩ := List.mem_map.mp hr
    have g := h.g r0 h0
    refine ⟨fun u hu => ?_, fun t ht => ?_⟩
    · obtain ⟨u0, e, rfl⟩ := Option.map_eq_some_iff.mp hu
      have := g.un u0 e
      exact ⟨Int.mul_pos this.1 f0, (mul_bd (by omega) (by omega) f0 f1).2⟩
    · obtain ⟨u0, e, rfl⟩ := Option.map_eq_some_iff.mp ht
      have := g.ti u0 e
      exact ⟨Int.mul_pos this.1 f0, (mul_bd (by omega) (by omega) f0 f1).2⟩
  refine ⟨⟨?_, fun r hr => ?_, ?_⟩, b⟩
  · have := uok_timesN f0 h.u
    rw [Int.zero_mul] at this
    exact this
  · have hb := b r hr
    obtain ⟨r0, h0, rfl⟩ := List.mem_map.mp hr
    have g := h.g r0 h0
    refine ⟨⟨fun u hu => ?_, ?_⟩, fun t ht => ?_⟩
    · have := hb.1 u hu
      exact ⟨this.1, by unfold Ag; omega⟩
    · rcases g.wd with z | z
      · exact hw _ z
      · exact strOk_menu _ z
    · have := hb.2 t ht
      unfold Ag
      omega
  · rw [List.length_map]
    have := h.n
    omega
theorem times_one (rows : List RowD) : rows.map (timesR 1) = rows := by
  have : ∀ r : RowD, timesR 1 r = r := fun r => by
    obtain ⟨a, b, c, d⟩ := r
    unfold timesR
    cases a <;> cases b <;> simp
  rw [List.map_congr_left (fun r _ => this r), List.map_id']
theorem rowB_drawnN {ws : List Str} {most : Int} {rows : List RowD} (h : Drawn ws most rows) : ∀ r ∈ rows, RowB r := fun r hr => by
  have g := h.g r hr
  exact ⟨fun u hu => by have := g.un u hu; unfold Sm; omega, fun u hu => by have := g.ti u hu; unfold Sm; omega⟩
end Age

set_option Elab.async false
set_option linter.all false
set_option maxRecDepth 100000
set_option maxHeartbeats 4000000
namespace Age
open PySem PySem.Spec PyProof.Rows L2 Evl RT
/-! ### texts of ages -/
def chunkV : Int := 10000000000000000000000000000000000000000000000000000000000000000
structure Gx (mg : Str → Option Value) : Prop where
  chunk : ∃ t, mg "CHUNK" = some (.int chunkV t)
def decS (n : Int) : Str := Str.ofString (toString n) ++ Txt.join (Str.ofString "") []
theorem sm_log {n : Int} (h : Sm n) : n.natAbs.log2 < 200 := by
  have h1 := h.nat
  by_cases hz : n.natAbs = 0
  · rw [hz]; decide
  · exact (Nat.log2_lt hz).mpr h1
theorem join_nil_len : (Txt.join (Str.ofString "") []).length = 0 := by decide +kernel
theorem decS_len {n : Int} (h : Sm n) : (decS n).length ≤ 201 := by
  unfold decS
  rw [Str.length_append, join_nil_len, PySem.ofString_length]
  have := int_text_length_le (k := 200) (by decide) (sm_log h)
  omega
def textS (l : Str × Option Int) : Str := match l.2 with
  | none => l.1
  | some c => ((Str.empty ++ decS c) ++ Str.ofString " ") ++ l.1
def spDecimal : Sp := fun vs H Q _ => ∃ n : Int, vs = [.int n] ∧ Sm n ∧ RetV (.str (decS n)) H Q
theorem spv_decimal {n : Int} {H : Hp} (h : Sm n) : SpV spDecimal [.int n] H (.str (decS n)) := fun H1 e Q q E => ⟨n, rfl, h, q⟩
def spText (cR cS cW : Addr) : Sp := fun vs H Q _ => ∃ (p : Addr) (rows : List RowD) (n : Int), vs = [.ref p, .int n] ∧ WordAt cR cS cW H p rows ∧ RowsOk rows ∧ Ag n ∧ (∀ r ∈ rows, r.word.length ≤ 1000) ∧ RetV (.str (textS (labelOf rows n))) H Q
section
variable {P : Program} {w : World} {K : PySem.W.Frag} {mg : Str → Option Value} {base : Heap} {cR cS cW : Addr}
theorem ok_decimal {f : Addr} {fd : FuncData} (F : Fn K "decimal" "decimal" s_decimal f fd) (B : Bn mg) (G : Gx mg) : FnOk P w K mg base CX0 1 f fd ["number"] spDecimal := by
  obtain ⟨tc, hCHUNK⟩ := G.chunk
  refine F.ok sc_decimal (fun vs H Q E h => ?_) (fun cdv A outer s H vs Q E hr h => ?_)
  · obtain ⟨n, rfl, _⟩ := h; rfl
  · obtain ⟨n, rfl, hn, k⟩ := h
    refine ⟨_, PSs.nox (pss_cons (ps_set (i := 1) sc_decimal.nd rfl (Or.inl rfl) (pe_lst pa_nil)) (pss_cons (ps_while PassesOwn.never (pt_cmpR op_ge (pv 0) (pe_glob (v := .int chunkV) (by rfl) hCHUNK ⟨_, rfl⟩) (nomark _)) pss_never) (pss_one (ps_ret (pe_op op_add_str (pe_callTy call_str_int (by rfl) B.str (by decide +kernel) (pa_cons (pv 0) pa_nil)) (pe_joinRev0 (by rfl) pe_str (by rfl) B.reversed (pv 1))))))), ?_⟩
    refine q_asgL (el_lst ea_nil (by show 0 ≤ 100000; decide)) fun l H1 hl0 e1 hl => ?_
    refine q_while (fun m σ H' => m = 0 ∧ Ex H1 H' ∧ σ = [some (.int n), some (.ref l)]) 0 ⟨rfl, Ex.refl _, rfl⟩ ?_
    rintro m σ' H' ⟨rfl, e2, rfl⟩
    refine ⟨false, ?_, fun z => Bool.noConfusion z, fun _ H2 e3 => ?_⟩
    · have hlt : decide (chunkV ≤ n) = false := decide_eq_false (by unfold chunkV; unfold Sm at hn; omega)
      have := et_test (σ := [some (V.int n), some (.ref l)]) (H := H') (ev_op (ev_var (i := 0) (v := .int n) rfl) (ev_c (v := .int chunkV)) (rv_I0 (g := fun i j => .bl (decide (j ≤ i)))))
      rw [hlt] at this
      exact this
    · refine ⟨_, rfl, n, rfl, Nat.lt_trans (sm_log hn) (by decide), _, rfl, _, rfl, l, rfl, sq_of ((e2.trans e3) _ _ hl), _, _, rfl, rfl, ?_, k H2 ((e1.trans e2).trans e3)⟩
      have := decS_len hn
      unfold decS at this
      rw [Str.length_append] at this
      rw [sizeLine_eq]
      exact Nat.le_trans this (by decide)
theorem ok_text {f : Addr} {fd : FuncData} (F : Fn K "text" "Wording.text" s_Wording_text f fd) (T : Tx K mg cR cS cW) (B : Bn mg) (c1 : Cal P w K mg base CX0 1 "decimal" ["number"] spDecimal) (c2 : Met P w K mg base CX0 4 cW "label" ["self", "age"] (spLabel cR cS cW)) :
    FnOk P w K mg base CX0 5 f fd ["self", "age"] (spText cR cS cW) := by
  obtain ⟨f1, fd1, G_decimal, m_decimal, k_decimal, b_decimal⟩ := c1.ex
  obtain ⟨f2, fd2, G_Wording_label, M_Wording_label, b_Wording_label⟩ := c2.ex
  refine F.ok sc_Wording_text (fun vs H Q E h => ?_) (fun cdv A outer s H vs Q E hr h => ?_)
  · obtain ⟨p, rows, n, rfl, _⟩ := h; rfl
  · obtain ⟨p, rows, n, rfl, hW, ok, hn, hwl, k⟩ := h
    refine ⟨_, PSs.nox (pss_cons (ps_asg (pe_meth (pv 0) T.wording M_Wording_label G_Wording_label (hr.mono (by decide)) b_Wording_label .nil pass0 (pa_cons (pv 1) pa_nil)) (pg_tup rfl (pgs_cons (pg_name (i := 2) sc_Wording_text.nd rfl (Or.inl rfl)) (pgs_cons (pg_name (i := 3) sc_Wording_text.nd rfl (Or.inl rfl)) pgs_nil)))) (pss_one (ps_ret (pe_ifExp (pt_cmp (pc_isN (pv 3))) (pv 2) (pe_joined (PJ.cons (pe_fmt (pe_call G_decimal (hr.mono (by decide)) rfl m_decimal k_decimal b_decimal .nil pass0 (pa_cons (pv 3) pa_nil))) (PJ.cons pe_str (PJ.cons (pe_fmt (pv 2)) PJ.nil)))))))), ?_⟩
    obtain ⟨dx, ta, tb, _, _, hp, _⟩ := id hW
    refine em_meth (ev_var rfl) hp rfl (ea_cons (ev_var rfl) ea_nil) fun H1 e1 => ⟨p, rows, n, rfl, hW.mono e1, ok, hn.1, fun t H2 ht e2 h2 => ?_⟩
    have e12 := e1.trans e2
    have hc : Cok (labelOf rows n).2 := by
      obtain ⟨r, hf⟩ := ok.u.find (n := n)
      have hrm := List.mem_of_find?_eq_some hf
      have e : labelOf rows n = (r.word, cntO r n) := by unfold labelOf; rw [hf]
      rw [e]
      intro c hc
      have hc : cntO r n = some c := hc
      unfold cntO at hc
      obtain ⟨u, hu, rfl⟩ := Option.map_eq_some_iff.mp hc
      have ⟨u0, u1⟩ := (ok.r r hrm).1.un u hu
      have := cnt_ok (w := r.way) hn u0 u1
      unfold Sm
      omega
    have hwd : (labelOf rows n).1.length ≤ 1000 := by
      obtain ⟨r, hf⟩ := ok.u.find (n := n)
      have e : labelOf rows n = (r.word, cntO r n) := by unfold labelOf; rw [hf]
      rw [e]
      exact hwl r (List.mem_of_find?_eq_some hf)
    generalize labelOf rows n = L at h2 k hc hwd
    obtain ⟨wd, c⟩ := L
    have hwd : wd.length ≤ 1000 := hwd
    refine ⟨t, _, rfl, st_of h2, rfl, _, _, rfl, _, _, rfl, rfl, ?_⟩
    dsimp only
    show tRet (tIf _ _ _) _ [some (.ref p), some (.int n), some (.str wd), some (oV c)] H2
    cases c with
    | none =>
      exact s_ret (ev_if (et_B (ev_isN (x := .non) (ev_var rfl))) (fun _ => ev_var rfl) (fun z => Bool.noConfusion z)) fun H3 e3 => k H3 (e12.trans e3)
    | some c =>
      have hcs := (hc c rfl).1
      have hd := decS_len hcs
      have hev : Ev (fun σ H Q => tJs [tFmt (tCall spDecimal [] E0 (tCons (tVar 3) tNil)), tC (.str " "), tFmt (tVar 2)] Str.empty σ H fun out H1 => Q (.str out) H1) [some (.ref p), some (.int n), some (.str wd), some (.int c)] H2 (.str (textS (wd, some c))) := by
        intro H3 e3 Q' q'
        have he0 : Str.empty.length = 0 := rfl
        refine (ev_call (ea_cons (ev_var rfl) ea_nil) (spv_decimal hcs)) H3 e3 _ fun H4 e4 => Or.inl ⟨_, rfl, by rw [sizeLine_eq]; omega, _, rfl, ?_, _, rfl, ?_, _, rfl, Or.inl ⟨_, rfl, by rw [sizeLine_eq]; omega, _, rfl, ?_, q' H4 e4⟩⟩
        · rw [Str.length_append, sizeLine_eq]; omega
        · rw [Str.length_append, Str.length_append, sizeLine_eq]
          have : (Str.ofString " ").length = 1 := by decide +kernel
          omega
        · rw [Str.length_append, Str.length_append, Str.length_append, sizeLine_eq]
          have : (Str.ofString " ").length = 1 := by decide +kernel
          omega
      exact s_ret (ev_if (et_B (ev_isN (x := .int c) (ev_var rfl))) (fun z => Bool.noConfusion z) (fun _ => hev)) fun H3 e3 => k H3 (e12.trans e3)
end
end Age

set_option Elab.async false
set_option linter.all false
set_option maxHeartbeats 2000000
namespace Age
open PySem
/-! ### rows that round down, times a number -/
def scO (f : Int) (o : Option Int) : Option Int := o.map (· * f)
def scH (f : Int) (o : Option Int) : Option Int := o.map fun h => (h + 1) * f - 1
def sc (f : Int) (s : SpanD) : SpanD := ⟨s.low * f, scH f s.high, timesR f s.row, s.fresh⟩
def scP (f : Int) (p : Str2) : Str2 := (p.1 * f, scH f p.2)
/-- x f + r, r below f -/
structure In (f x y : Int) : Prop where
  lo : x * f ≤ y
  hi : y < (x + 1) * f
section
variable {f x y z : Int}
theorem In.self (hf : 0 < f) : In f x (x * f) := ⟨Int.le_refl _, by rw [Int.add_mul]; omega⟩
theorem In.last (hf : 0 < f) : In f x ((x + 1) * f - 1) := ⟨by rw [Int.add_mul]; omega, by omega⟩
theorem mul_lt (hf : 0 < f) : x * f < z * f ↔ x < z := ⟨fun h => Int.lt_of_mul_lt_mul_right h (Int.le_of_lt hf), fun h => Int.mul_lt_mul_of_pos_right h hf⟩
theorem mul_le (hf : 0 < f) : x * f ≤ z * f ↔ x ≤ z := ⟨fun h => Int.le_of_mul_le_mul_right h hf, fun h => Int.mul_le_mul_of_nonneg_right h (Int.le_of_lt hf)⟩
theorem In.lt (hf : 0 < f) (h : In f x y) : y < z * f ↔ x < z :=
  ⟨fun a => (mul_lt hf).mp (Int.lt_of_le_of_lt h.lo a), fun a => Int.lt_of_lt_of_le h.hi ((mul_le hf).mpr a)⟩
theorem In.le (hf : 0 < f) (h : In f x y) : z * f ≤ y ↔ z ≤ x := by
  have := h.lt (z := z) hf
  omega
theorem In.div (hf : 0 < f) (h : In f x y) : y / f = x := by
  have h1 := h.lo
  have h2 := h.hi
  have a : x ≤ y / f := (Int.le_ediv_iff_mul_le hf).mpr h1
  have b : y / f < x + 1 := (Int.ediv_lt_iff_lt_mul hf).mpr h2
  omega
theorem In.cnt {u : Int} (hf : 0 < f) (h : In f x y) : cnt y (u * f) "down" = cnt x u "down" := by
  show (y + 0) / (u * f) = (x + 0) / u
  rw [Int.add_zero, Int.add_zero, Int.mul_comm u f, ← Int.ediv_ediv_of_nonneg (Int.le_of_lt hf), h.div hf]
end
def Down (rows : List RowD) : Prop := ∀ r ∈ rows, r.way = "down"
section
variable {f x y : Int} {s e : SpanD} {r : RowD}
theorem cntO_sc (hf : 0 < f) (h : In f x y) (hr : r.way = "down") : cntO (timesR f r) y = cntO r x := by
  obtain ⟨til, unit, way, word⟩ := r
  have hr : way = "down" := hr
  subst hr
  cases unit with
  | none => rfl
  | some u =>
    show some (cnt y (u * f) "down") = some (cnt x u "down")
    rw [h.cnt hf]
theorem label_sc (hf : 0 < f) (h : In f x y) {rows : List RowD} (hd : Down rows) : labelOf (rows.map (timesR f)) y = labelOf rows x := by
  have hh : ∀ r : RowD, hit y (timesR f r) = hit x r := fun r => by
    obtain ⟨til, unit, way, word⟩ := r
    cases til with
    | none => rfl
    | some t =>
      show decide (y < t * f) = decide (x < t)
      exact decide_eq_decide.mpr (h.lt hf)
  have hfi : ∀ rows : List RowD, (rows.map (timesR f)).find? (hit y) = (rows.find? (hit x)).map (timesR f) := fun rows => by
    rw [List.find?_map]
    congr 1
    congr 1
    exact funext hh
  unfold labelOf
  rw [hfi]
  cases hq : rows.find? (hit x) with
  | none => rfl
  | some r =>
    show ((timesR f r).word, cntO (timesR f r) y) = (r.word, cntO r x)
    rw [cntO_sc hf h (hd r (List.mem_of_find?_eq_some hq))]
    rfl
theorem spans_sc (hf : 0 < f) : ∀ {rows : List RowD} {b : Int} {sh : Option (Str × Option Int)}, Down rows → spansFrom (b * f) sh (rows.map (timesR f)) = (spansFrom b sh rows).map (sc f)
  | [], _, _, _ => rfl
  | r :: rs, b, sh, hd => by
    have h0 := hd r List.mem_cons_self
    have hd2 : Down rs := fun r hr => hd r (List.mem_cons_of_mem _ hr)
    have hb : decide (0 < b * f) = decide (0 < b) := decide_eq_decide.mpr (by
      have := mul_lt (x := 0) (z := b) hf
      rw [Int.zero_mul] at this
      exact this)
    have hc := cntO_sc (x := b) hf (In.self hf) h0
    cases ht : r.til with
    | none =>
      have ht2 : (timesR f r).til = none := by show Option.map _ _ = _; rw [ht]; rfl
      rw [List.map_cons]
      simp only [spansFrom, ht, ht2, List.map_cons]
      rw [hb, hc, spans_sc hf hd2]
      rfl
    | some t =>
      have ht2 : (timesR f r).til = some (t * f) := by show Option.map _ _ = _; rw [ht]; rfl
      have hl : In f (t - 1) (t * f - 1) := by
        have := In.last (x := t - 1) hf
        rw [show t - 1 + 1 = t by omega] at this
        exact this
      rw [List.map_cons]
      simp only [spansFrom, ht, ht2, List.map_cons]
      rw [hb, hc, cntO_sc hf hl h0, spans_sc hf hd2]
      have : sc f ⟨b, some (t - 1), r, decide (0 < b) && !decide (some (r.word, cntO r b) = sh)⟩ = ⟨b * f, some (t * f - 1), timesR f r, decide (0 < b) && !decide (some (r.word, cntO r b) = sh)⟩ := by
        show (⟨_, some ((t - 1 + 1) * f - 1), _, _⟩ : SpanD) = _
        rw [show t - 1 + 1 = t by omega]
      rw [this]
      rfl
/-! ### what is told of a span -/
theorem limO_sc (hf : 0 < f) (h : In f x y) : In f (limO s x) (limO (sc f s) y) := by
  obtain ⟨lo, hi, row, fr⟩ := s
  cases hi with
  | none => exact h
  | some b =>
    show In f (if b < x then b else x) (if (b + 1) * f - 1 < y then (b + 1) * f - 1 else y)
    by_cases c : b < x
    · have : (b + 1) * f ≤ y := (h.le hf).mpr (by omega)
      rw [if_pos c, if_pos (by omega)]
      exact In.last hf
    · have : ¬ (b + 1) * f ≤ y := fun z => by have := (h.le hf).mp z; omega
      rw [if_neg c, if_neg (by omega)]
      exact h
theorem limO_scE (hf : 0 < f) : limO (sc f s) ((x + 1) * f - 1) = (limO s x + 1) * f - 1 := by
  obtain ⟨lo, hi, row, fr⟩ := s
  have h := In.last (x := x) hf
  cases hi with
  | none => rfl
  | some b =>
    show (if (b + 1) * f - 1 < (x + 1) * f - 1 then (b + 1) * f - 1 else (x + 1) * f - 1) = ((if b < x then b else x) + 1) * f - 1
    by_cases c : b < x
    · have : (b + 1) * f ≤ (x + 1) * f - 1 := (h.le hf).mpr (by omega)
      rw [if_pos c, if_pos (by omega)]
    · have : ¬ (b + 1) * f ≤ (x + 1) * f - 1 := fun z => by have := (h.le hf).mp z; omega
      rw [if_neg c, if_neg (by omega)]
theorem fst_sc {c u : Int} : fst c (u * f) "down" = fst c u "down" * f := by
  show c * (u * f) - 0 = (c * u - 0) * f
  rw [Int.sub_zero, Int.sub_zero, Int.mul_assoc]
theorem max_in (hf : 0 < f) (h : In f x y) {lo : Int} : In f (if lo > x then lo else x) (if lo * f > y then lo * f else y) := by
  have := h.lt (z := lo) hf
  by_cases c : lo > x
  · rw [if_pos c, if_pos (by omega)]
    exact In.self hf
  · rw [if_neg c, if_neg (by omega)]
    exact h
theorem max_mul (hf : 0 < f) {a lo : Int} : (if a * f > lo * f then a * f else lo * f) = (if a > lo then a else lo) * f := by
  have := mul_lt (x := lo) (z := a) hf
  by_cases c : a > lo
  · rw [if_pos c, if_pos (by omega)]
  · rw [if_neg c, if_neg (by omega)]
theorem edgeAfter_sc (hf : 0 < f) (h : In f x y) (hr : s.row.way = "down") : edgeAfter (sc f s) y = scO f (edgeAfter s x) := by
  obtain ⟨lo, hi, ⟨til, unit, way, word⟩, fr⟩ := s
  have hr : way = "down" := hr
  subst hr
  have h1 := h.lt (z := lo) hf
  by_cases c : fr = true ∧ x < lo
  · have e1 : edgeAfter ⟨lo, hi, ⟨til, unit, "down", word⟩, fr⟩ x = some lo := if_pos c
    have e2 : edgeAfter (sc f ⟨lo, hi, ⟨til, unit, "down", word⟩, fr⟩) y = some (lo * f) := if_pos ⟨c.1, h1.mpr c.2⟩
    rw [e1, e2]; rfl
  · have e1 : edgeAfter ⟨lo, hi, ⟨til, unit, "down", word⟩, fr⟩ x = _ := if_neg c
    have e2 : edgeAfter (sc f ⟨lo, hi, ⟨til, unit, "down", word⟩, fr⟩) y = _ := if_neg (fun z => c ⟨z.1, h1.mp z.2⟩)
    rw [e1, e2]
    cases unit with
    | none => rfl
    | some u =>
      have hc : cnt (if lo * f > y then lo * f else y) (u * f) "down" = cnt (if lo > x then lo else x) u "down" := (max_in hf h).cnt hf
      cases hi with
      | none =>
        show some (fst (cnt (if lo * f > y then lo * f else y) (u * f) "down" + 1) (u * f) "down") = some (fst (cnt (if lo > x then lo else x) u "down" + 1) u "down" * f)
        rw [hc, fst_sc]
      | some b =>
        show (if fst (cnt (if lo * f > y then lo * f else y) (u * f) "down" + 1) (u * f) "down" ≤ (b + 1) * f - 1 then some (fst (cnt (if lo * f > y then lo * f else y) (u * f) "down" + 1) (u * f) "down") else none) =
          scO f (if fst (cnt (if lo > x then lo else x) u "down" + 1) u "down" ≤ b then some (fst (cnt (if lo > x then lo else x) u "down" + 1) u "down") else none)
        rw [hc, fst_sc]
        generalize fst (cnt (if lo > x then lo else x) u "down" + 1) u "down" = e
        have h2 := (In.last (x := b) hf).le (z := e) hf
        by_cases d : e ≤ b
        · rw [if_pos d, if_pos (h2.mpr d)]; rfl
        · rw [if_neg d, if_neg (fun z => d (h2.mp z))]; rfl
theorem lastUntil_sc (hf : 0 < f) (h : In f x y) (hr : s.row.way = "down") : lastUntil (sc f s) y = scO f (lastUntil s x) := by
  have hl := limO_sc (s := s) hf h
  obtain ⟨lo, hi, ⟨til, unit, way, word⟩, fr⟩ := s
  have hr : way = "down" := hr
  subst hr
  have hfr : (if fr = true then some (lo * f) else none) = scO f (if fr = true then some lo else none) := by split <;> rfl
  cases unit with
  | none => exact hfr
  | some u =>
    show (if fst (cnt (limO (sc f ⟨lo, hi, ⟨til, some u, "down", word⟩, fr⟩) y) (u * f) "down") (u * f) "down" > lo * f then some (fst (cnt (limO (sc f ⟨lo, hi, ⟨til, some u, "down", word⟩, fr⟩) y) (u * f) "down") (u * f) "down") else if fr = true then some (lo * f) else none) =
      scO f (if fst (cnt (limO ⟨lo, hi, ⟨til, some u, "down", word⟩, fr⟩ x) u "down") u "down" > lo then some (fst (cnt (limO ⟨lo, hi, ⟨til, some u, "down", word⟩, fr⟩ x) u "down") u "down") else if fr = true then some lo else none)
    rw [hl.cnt hf, fst_sc, hfr]
    generalize fst (cnt (limO ⟨lo, hi, ⟨til, some u, "down", word⟩, fr⟩ x) u "down") u "down" = e
    have h2 := mul_lt (x := lo) (z := e) hf
    by_cases d : e > lo
    · rw [if_pos d, if_pos (h2.mpr d)]; rfl
    · rw [if_neg d, if_neg (fun z => d (h2.mp z))]
theorem lastIn_sc (hf : 0 < f) (h : In f x y) (hr : s.row.way = "down") : lastIn y (sc f s) = scO f (lastIn x s) := by
  unfold lastIn
  have h1 : (sc f s).low ≤ y ↔ s.low ≤ x := h.le hf
  rw [lastUntil_sc hf h hr]
  by_cases c : s.low ≤ x
  · rw [if_pos c, if_pos (h1.mpr c)]
  · rw [if_neg c, if_neg (fun z => c (h1.mp z))]; rfl
theorem numUntil_sc (hf : 0 < f) (h : In f x y) (hr : s.row.way = "down") : numUntil (sc f s) y = numUntil s x := by
  have hl := limO_sc (s := s) hf h
  obtain ⟨lo, hi, ⟨til, unit, way, word⟩, fr⟩ := s
  have hr : way = "down" := hr
  subst hr
  cases unit with
  | none => rfl
  | some u =>
    show (if fr = true then 1 else 0) + cnt (limO (sc f ⟨lo, hi, ⟨til, some u, "down", word⟩, fr⟩) y) (u * f) "down" - cnt (lo * f) (u * f) "down" = (if fr = true then 1 else 0) + cnt (limO ⟨lo, hi, ⟨til, some u, "down", word⟩, fr⟩ x) u "down" - cnt lo u "down"
    rw [hl.cnt hf, (In.self hf).cnt hf]
theorem stretch_sc (hf : 0 < f) (hr : s.row.way = "down") {w : Str} {c : Option Int} : stretchWith (sc f s) w c = (stretchWith s w c).map (scP f) := by
  obtain ⟨lo, hi, ⟨til, unit, way, word⟩, fr⟩ := s
  have hr : way = "down" := hr
  subst hr
  by_cases hw : word = w
  · have e1 : stretchWith ⟨lo, hi, ⟨til, unit, "down", word⟩, fr⟩ w c = _ := if_pos hw
    have e2 : stretchWith (sc f ⟨lo, hi, ⟨til, unit, "down", word⟩, fr⟩) w c = _ := if_pos hw
    rw [e1, e2]
    cases unit with
    | none => cases c <;> rfl
    | some u =>
      cases c with
      | none => rfl
      | some c =>
        have hlim : limO (sc f ⟨lo, hi, ⟨til, some u, "down", word⟩, fr⟩) (fst (c + 1) (u * f) "down" - 1) = (limO ⟨lo, hi, ⟨til, some u, "down", word⟩, fr⟩ (fst (c + 1) u "down" - 1) + 1) * f - 1 := by
          have := limO_scE (s := ⟨lo, hi, ⟨til, some u, "down", word⟩, fr⟩) (x := fst (c + 1) u "down" - 1) hf
          rw [fst_sc]
          rw [show fst (c + 1) u "down" - 1 + 1 = fst (c + 1) u "down" by omega] at this
          exact this
        show (if (if fst c (u * f) "down" > lo * f then fst c (u * f) "down" else lo * f) ≤ limO (sc f ⟨lo, hi, ⟨til, some u, "down", word⟩, fr⟩) (fst (c + 1) (u * f) "down" - 1) then some ((if fst c (u * f) "down" > lo * f then fst c (u * f) "down" else lo * f), some (limO (sc f ⟨lo, hi, ⟨til, some u, "down", word⟩, fr⟩) (fst (c + 1) (u * f) "down" - 1))) else none) =
          Option.map (scP f) (if (if fst c u "down" > lo then fst c u "down" else lo) ≤ limO ⟨lo, hi, ⟨til, some u, "down", word⟩, fr⟩ (fst (c + 1) u "down" - 1) then some ((if fst c u "down" > lo then fst c u "down" else lo), some (limO ⟨lo, hi, ⟨til, some u, "down", word⟩, fr⟩ (fst (c + 1) u "down" - 1))) else none)
        rw [hlim, fst_sc, max_mul hf]
        generalize limO ⟨lo, hi, ⟨til, some u, "down", word⟩, fr⟩ (fst (c + 1) u "down" - 1) = m
        generalize (if fst c u "down" > lo then fst c u "down" else lo) = a
        have h2 := (In.last (x := m) hf).le (z := a) hf
        by_cases d : a ≤ m
        · rw [if_pos d, if_pos (h2.mpr d)]; rfl
        · rw [if_neg d, if_neg (fun z => d (h2.mp z))]; rfl
  · have e1 : stretchWith ⟨lo, hi, ⟨til, unit, "down", word⟩, fr⟩ w c = none := if_neg hw
    have e2 : stretchWith (sc f ⟨lo, hi, ⟨til, unit, "down", word⟩, fr⟩) w c = none := if_neg hw
    rw [e1, e2]; rfl
theorem shared_sc (hf : 0 < f) (hs : s.row.way = "down") (he : e.row.way = "down") : edgeShared (sc f s) (sc f e) = scO f (edgeShared s e) := by
  have hst := fun c => stretch_sc (s := s) (w := s.row.word) (c := c) hf hs
  obtain ⟨lo, hi, ⟨til, unit, way, word⟩, fr⟩ := s
  obtain ⟨lo2, hi2, ⟨til2, unit2, way2, word2⟩, fr2⟩ := e
  have hs : way = "down" := hs
  have he : way2 = "down" := he
  subst hs he
  by_cases hw : word = word2
  · have e1 : edgeShared ⟨lo, hi, ⟨til, unit, "down", word⟩, fr⟩ ⟨lo2, hi2, ⟨til2, unit2, "down", word2⟩, fr2⟩ = _ := if_pos hw
    have e2 : edgeShared (sc f ⟨lo, hi, ⟨til, unit, "down", word⟩, fr⟩) (sc f ⟨lo2, hi2, ⟨til2, unit2, "down", word2⟩, fr2⟩) = _ := if_pos hw
    rw [e1, e2]
    cases unit with
    | none =>
      cases unit2 with
      | none =>
        show (if fr = true then some (lo * f) else none) = scO f (if fr = true then some lo else none)
        split <;> rfl
      | some v => rfl
    | some u =>
      cases unit2 with
      | none => rfl
      | some v =>
        have hsf : sharedFrom (sc f ⟨lo, hi, ⟨til, some u, "down", word⟩, fr⟩) (sc f ⟨lo2, hi2, ⟨til2, some v, "down", word2⟩, fr2⟩) (u * f) (v * f) = sharedFrom ⟨lo, hi, ⟨til, some u, "down", word⟩, fr⟩ ⟨lo2, hi2, ⟨til2, some v, "down", word2⟩, fr2⟩ u v := by
          show (if cnt (lo2 * f) (v * f) "down" > cnt (lo * f) (u * f) "down" + (if fr = true then 0 else 1) then cnt (lo2 * f) (v * f) "down" else cnt (lo * f) (u * f) "down" + (if fr = true then 0 else 1)) = (if cnt lo2 v "down" > cnt lo u "down" + (if fr = true then 0 else 1) then cnt lo2 v "down" else cnt lo u "down" + (if fr = true then 0 else 1))
          rw [(In.self hf).cnt hf, (In.self hf).cnt hf]
        have hce : cnt ((scH f hi2).getD 0) (v * f) "down" = cnt (hi2.getD 0) v "down" := by
          cases hi2 with
          | none =>
            have := (In.self (x := 0) hf).cnt (u := v) hf
            rw [Int.zero_mul] at this
            exact this
          | some b => exact (In.last hf).cnt hf
        show (match stretchWith (sc f ⟨lo, hi, ⟨til, some u, "down", word⟩, fr⟩) word (some (sharedFrom (sc f ⟨lo, hi, ⟨til, some u, "down", word⟩, fr⟩) (sc f ⟨lo2, hi2, ⟨til2, some v, "down", word2⟩, fr2⟩) (u * f) (v * f))) with
            | none => none
            | some p => if sharedFrom (sc f ⟨lo, hi, ⟨til, some u, "down", word⟩, fr⟩) (sc f ⟨lo2, hi2, ⟨til2, some v, "down", word2⟩, fr2⟩) (u * f) (v * f) > cnt ((scH f hi2).getD 0) (v * f) "down" then none else some p.1) =
          scO f (match stretchWith ⟨lo, hi, ⟨til, some u, "down", word⟩, fr⟩ word (some (sharedFrom ⟨lo, hi, ⟨til, some u, "down", word⟩, fr⟩ ⟨lo2, hi2, ⟨til2, some v, "down", word2⟩, fr2⟩ u v)) with
            | none => none
            | some p => if sharedFrom ⟨lo, hi, ⟨til, some u, "down", word⟩, fr⟩ ⟨lo2, hi2, ⟨til2, some v, "down", word2⟩, fr2⟩ u v > cnt (hi2.getD 0) v "down" then none else some p.1)
        rw [hsf, hce, hst]
        generalize sharedFrom ⟨lo, hi, ⟨til, some u, "down", word⟩, fr⟩ ⟨lo2, hi2, ⟨til2, some v, "down", word2⟩, fr2⟩ u v = c
        cases stretchWith ⟨lo, hi, ⟨til, some u, "down", word⟩, fr⟩ word (some c) with
        | none => rfl
        | some p =>
          show (if c > cnt (hi2.getD 0) v "down" then none else some (p.1 * f)) = scO f (if c > cnt (hi2.getD 0) v "down" then none else some p.1)
          split <;> rfl
  · have e1 : edgeShared ⟨lo, hi, ⟨til, unit, "down", word⟩, fr⟩ ⟨lo2, hi2, ⟨til2, unit2, "down", word2⟩, fr2⟩ = none := if_neg hw
    have e2 : edgeShared (sc f ⟨lo, hi, ⟨til, unit, "down", word⟩, fr⟩) (sc f ⟨lo2, hi2, ⟨til2, unit2, "down", word2⟩, fr2⟩) = none := if_neg hw
    rw [e1, e2]; rfl
/-! ### what is told of them all -/
def DownS (ss : List SpanD) : Prop := ∀ s ∈ ss, s.row.way = "down"
theorem spans_down : ∀ {rows : List RowD} {b : Int} {sh : Option (Str × Option Int)}, Down rows → DownS (spansFrom b sh rows)
  | [], _, _, _ => fun s h => by simp [spansFrom] at h
  | r :: rs, b, sh, hd => fun s h => by
    have h0 := hd r List.mem_cons_self
    have hd2 : Down rs := fun r hr => hd r (List.mem_cons_of_mem _ hr)
    cases ht : r.til with
    | none =>
      simp only [spansFrom, ht] at h
      rcases List.mem_cons.mp h with z | z
      · rw [z]; exact h0
      · exact spans_down hd2 s z
    | some t =>
      simp only [spansFrom, ht] at h
      rcases List.mem_cons.mp h with z | z
      · rw [z]; exact h0
      · exact spans_down hd2 s z
theorem later_sc (hf : 0 < f) (h : In f x y) : ∀ {ss : List SpanD}, DownS ss → laterEdge (ss.map (sc f)) y = scO f (laterEdge ss x)
  | [], _ => rfl
  | s :: ss, hd => by
    have ih := later_sc hf h (ss := ss) fun s hs => hd s (List.mem_cons_of_mem _ hs)
    unfold laterEdge at ih ⊢
    rw [List.map_cons, List.findSome?_cons, List.findSome?_cons, edgeAfter_sc hf h (hd s List.mem_cons_self)]
    cases edgeAfter s x with
    | none => exact ih
    | some b => rfl
theorem findLast_sc (hf : 0 < f) (h : In f x y) : ∀ {ss : List SpanD}, DownS ss → (ss.map (sc f)).findSome? (lastIn y) = scO f (ss.findSome? (lastIn x))
  | [], _ => rfl
  | s :: ss, hd => by
    have ih := findLast_sc hf h (ss := ss) fun s hs => hd s (List.mem_cons_of_mem _ hs)
    rw [List.map_cons, List.findSome?_cons, List.findSome?_cons, lastIn_sc hf h (hd s List.mem_cons_self)]
    cases lastIn x s with
    | none => exact ih
    | some b => rfl
theorem last_sc (hf : 0 < f) (h : In f x y) {ss : List SpanD} (hd : DownS ss) : lastEdge (ss.map (sc f)) y = lastEdge ss x * f := by
  unfold lastEdge
  rw [← List.map_reverse, findLast_sc hf h (fun s hs => hd s (List.mem_reverse.mp hs))]
  cases ss.reverse.findSome? (lastIn x) with
  | none => exact (Int.zero_mul f).symm
  | some b => rfl
theorem numE_sc (hf : 0 < f) (h : In f x y) : ∀ {ss : List SpanD}, DownS ss → numE (ss.map (sc f)) y = numE ss x
  | [], _ => rfl
  | s :: ss, hd => by
    have ih := numE_sc hf h (ss := ss) fun s hs => hd s (List.mem_cons_of_mem _ hs)
    unfold numE at ih ⊢
    have h1 : (sc f s).low ≤ y ↔ s.low ≤ x := h.le hf
    rw [List.map_cons]
    by_cases c : s.low ≤ x
    · rw [List.filter_cons_of_pos (by exact decide_eq_true (h1.mpr c)), List.filter_cons_of_pos (by exact decide_eq_true c), List.map_cons, List.map_cons, List.sum_cons, List.sum_cons, ih, numUntil_sc hf h (hd s List.mem_cons_self)]
    · rw [List.filter_cons_of_neg (by simpa using fun z => c (h1.mp z)), List.filter_cons_of_neg (by simpa using c), ih]
theorem fm_sc (hf : 0 < f) {w : Str} {c : Option Int} : ∀ {ss : List SpanD}, DownS ss → (ss.map (sc f)).filterMap (stretchWith · w c) = (ss.filterMap (stretchWith · w c)).map (scP f)
  | [], _ => rfl
  | s :: ss, hd => by
    have ih := fm_sc hf (w := w) (c := c) (ss := ss) fun s hs => hd s (List.mem_cons_of_mem _ hs)
    have h0 := stretch_sc hf (hd s List.mem_cons_self) (w := w) (c := c)
    rw [List.map_cons]
    cases hq : stretchWith s w c with
    | none =>
      rw [hq] at h0
      rw [List.filterMap_cons_none (by exact h0), List.filterMap_cons_none (by exact hq), ih]
    | some p =>
      rw [hq] at h0
      rw [List.filterMap_cons_some (by exact h0), List.filterMap_cons_some (by exact hq), ih]
      rfl
theorem joinStep_sc (hf : 0 < f) (acc : List Str2) (p : Str2) : joinStep (acc.map (scP f)) (scP f p) = (joinStep acc p).map (scP f) := by
  unfold joinStep
  rw [List.getLast?_map]
  cases acc.getLast? with
  | none => simp
  | some q =>
    obtain ⟨lo, hi⟩ := q
    cases hi with
    | none => simp [scP, scH]
    | some b =>
      have e : ((b + 1) * f - 1 + 1 = p.1 * f) ↔ b + 1 = p.1 := by
        constructor
        · intro z
          exact Int.eq_of_mul_eq_mul_right (Int.ne_of_gt hf) (by omega)
        · intro z
          rw [← z]; omega
      show (if (b + 1) * f - 1 + 1 = p.1 * f then (acc.map (scP f)).dropLast ++ [(lo * f, scH f p.2)] else acc.map (scP f) ++ [scP f p]) = List.map (scP f) (if b + 1 = p.1 then acc.dropLast ++ [(lo, p.2)] else acc ++ [p])
      by_cases d : b + 1 = p.1
      · rw [if_pos d, if_pos (e.mpr d), List.map_append, List.map_dropLast]
        rfl
      · rw [if_neg d, if_neg (fun z => d (e.mp z)), List.map_append]
        rfl
theorem joinS_sc (hf : 0 < f) : ∀ (ps acc : List Str2), (ps.map (scP f)).foldl joinStep (acc.map (scP f)) = (ps.foldl joinStep acc).map (scP f)
  | [], acc => rfl
  | p :: ps, acc => by
    rw [List.map_cons, List.foldl_cons, List.foldl_cons, joinStep_sc hf, joinS_sc hf ps]
theorem ages_sc (hf : 0 < f) {rows : List RowD} (hd : Down rows) {w : Str} {c : Option Int} : agesOf (rows.map (timesR f)) w c = (agesOf rows w c).map (scP f) := by
  unfold agesOf joinS
  have h0 := spans_sc (b := 0) (sh := none) hf hd
  rw [Int.zero_mul] at h0
  rw [h0, fm_sc hf (spans_down hd)]
  exact joinS_sc hf _ []
theorem minL_sc (hf : 0 < f) : ∀ L : List Int, minL (L.map (· * f)) = scO f (minL L)
  | [] => rfl
  | a :: L => by
    have ih := minL_sc hf L
    rw [List.map_cons]
    unfold minL
    rw [ih]
    cases minL L with
    | none => rfl
    | some m =>
      have h2 := mul_lt (x := m) (z := a) hf
      show some (if m * f < a * f then m * f else a * f) = some ((if m < a then m else a) * f)
      by_cases d : m < a
      · rw [if_pos d, if_pos (h2.mpr d)]
      · rw [if_neg d, if_neg (fun z => d (h2.mp z))]
theorem fmShared_sc (hf : 0 < f) (hs : s.row.way = "down") : ∀ {es : List SpanD}, DownS es → (es.map (sc f)).filterMap (edgeShared (sc f s)) = (es.filterMap (edgeShared s)).map (· * f)
  | [], _ => rfl
  | e :: es, hd => by
    have ih := fmShared_sc hf hs (es := es) fun e he => hd e (List.mem_cons_of_mem _ he)
    have h0 := shared_sc hf hs (hd e List.mem_cons_self)
    rw [List.map_cons]
    cases hq : edgeShared s e with
    | none =>
      rw [hq] at h0
      rw [List.filterMap_cons_none (by exact h0), List.filterMap_cons_none hq, ih]
    | some p =>
      rw [hq] at h0
      rw [List.filterMap_cons_some (by exact h0), List.filterMap_cons_some hq, ih]
      rfl
theorem again_sc (hf : 0 < f) {ss : List SpanD} (hd : DownS ss) (i : Nat) : againAt (ss.map (sc f)) i = (againAt ss i).map (· * f) := by
  unfold againAt
  rw [List.getElem?_map]
  cases hq : ss[i]? with
  | none => rfl
  | some s =>
    show ((ss.map (sc f)).take i).filterMap (edgeShared (sc f s)) = _
    rw [← List.map_take, fmShared_sc hf (hd s (List.mem_of_getElem? hq)) (fun e he => hd e (List.mem_of_mem_take he))]
theorem ret_sc (hf : 0 < f) {ss : List SpanD} (hd : DownS ss) : ∀ k i, retFrom (ss.map (sc f)) k i = scO f (retFrom ss k i)
  | 0, _ => rfl
  | k + 1, i => by
    have ih := ret_sc hf hd k (i + 1)
    unfold retFrom
    rw [again_sc hf hd, minL_sc hf, ih]
    cases minL (againAt ss i) with
    | none => rfl
    | some m => rfl
theorem returns_sc (hf : 0 < f) {ss : List SpanD} (hd : DownS ss) : returnsOf (ss.map (sc f)) = scO f (returnsOf ss) := by
  unfold returnsOf
  rw [List.length_map, ret_sc hf hd]
end
end Age

set_option Elab.async false
set_option linter.all false
set_option maxRecDepth 100000
set_option maxHeartbeats 4000000
/-! W4: rows and wordings made within the layer -/
namespace Age
open PySem PySem.Spec PyProof.Rows L2 Evl Pu
def wMkRow (cR : Addr) : PSp := fun xs n Q => ∃ r : RowD, xs = [pO r.til, pO r.unit, .str r.way, .str r.word] ∧ Q (pRowO cR r) n
def wMkWord (cR cS cW : Addr) : PSp := fun xs n Q => ∃ rows : List RowD, xs = [.lst (rows.map (pRowO cR))] ∧ RowsOk rows ∧ Q (pWord cR cS cW rows) n
section
variable {K : PySem.W.Frag} {X : Cx} {cR cS cW : Addr} {tl : TA} {pl : PTA} {E : L2.XK}
theorem mk_ex {H2 H3 : Hp} {x dx C : Addr} (hx : H2 x = none) (hdx : H2 dx = none) (hne : dx ≠ x) (keep : ∀ b o, b ≠ x → upd (upd H2 dx (.own x)) x (.ins C dx []) b = some o → H3 b = some o) : Ex H2 H3 := fun b o hb => by
  have n1 : b ≠ x := fun z => by rw [z, hx] at hb; cases hb
  have n2 : b ≠ dx := fun z => by rw [z, hdx] at hb; cases hb
  exact keep b o n1 (by rw [upd_ne n1, upd_ne n2]; exact hb)
theorem se_mkRow (ha : SA K tl pl) : SE K (tMake cR (spRowI cR) [] E tl) (pCall (wMkRow cR) pl) := fun p c F O H σ ρ n s sl Q Q' k q =>
  ha p c F O H σ ρ n s sl _ _ (fun vs xs F2 O2 H2 n2 nn rx ⟨r, e, q1⟩ => fun x dx hx hdx hne => by
    subst e
    obtain ⟨v1, y1, rfl, r1, r2⟩ := rx.cons_inv
    obtain ⟨v2, y2, rfl, r3, r4⟩ := r2.cons_inv
    obtain ⟨v3, y3, rfl, r5, r6⟩ := r4.cons_inv
    obtain ⟨v4, y4, rfl, r7, r8⟩ := r6.cons_inv
    cases r8
    rw [rep_oV' r1, rep_oV' r3, r5.getS, r7.getS]
    refine ⟨x, dx, r, rfl, upd_same, fun H3 keep h3 => ⟨rfl, ?_⟩⟩
    obtain ⟨nb, hb⟩ := nn.s.big (mk_ex hx hdx hne keep)
    exact k _ _ _ _ _ _ (nn.trans nb) (rowO_rep (RowAt.hard hb ⟨dx, h3⟩)) q1) q
theorem se_mkWord (ha : SA K tl pl) : SE K (tMake cW (spWordI K cR cS cW) [] E tl) (pCall (wMkWord cR cS cW) pl) := fun p c F O H σ ρ n s sl Q Q' k q =>
  ha p c F O H σ ρ n s sl _ _ (fun vs xs F2 O2 H2 n2 nn rx ⟨rows, e, ok, q1⟩ => fun x dx hx hdx hne => by
    subst e
    obtain ⟨v1, y1, rfl, r1, r2⟩ := rx.cons_inv
    cases r2
    obtain ⟨a, ys, rfl, h1, h2⟩ := r1.getL
    have hRA : RowsAt cR F2 ys rows := rep_all (fun v a h => rep_rowO h) h2
    have e0 : Ex H2 (upd (upd H2 dx (.own x)) x (.ins cW dx [])) := (Ex.new hdx).trans (Ex.new (by rw [upd_ne hne.symm]; exact hx))
    refine ⟨x, dx, a, ys, rows, rfl, upd_same, Or.inl (sq_of (e0 _ _ (nn.s.f _ _ h1))), hRA.mono (nn.s.f.trans e0), ok, fun H3 ta tb zs keep h3 hta htb hS => ⟨rfl, ?_⟩⟩
    have e3 := mk_ex hx hdx hne keep
    obtain ⟨nb, hb⟩ := nn.s.big e3
    exact k _ _ _ _ _ _ (nn.trans nb) (word_rep (WordAt.hard hb ⟨dx, ta, tb, ys, zs, h3, hta, hRA.mono (nn.s.f.trans e3), htb, hS.mono wo_sub⟩)) q1) q
theorem xe_mkRow {f : Addr} {fd : FuncData} {k : Nat} {e : Expr} {es : List Expr} {p pos : Pos} (M : Mk X.K cR f) (F : FnOk X.prog X.w X.K X.mg X.base CX0 k f fd ["self", "until", "unit", "way", "word"] (spRowI cR)) (hr : Room (k + 1) X.A) (hg : Gl X "Row") (hm : X.mg "Row" = some (.ref cR)) (hb : Binds X.K fd ["self", "until", "unit", "way", "word"] [])
    (ha : XA K X (e :: es) tl pl) (he : starEach (e :: es) X.env = (false, eval e X.env) :: starEach es X.env := by rfl) (hpl : (backTo pos (starEach es X.env)).any (·.1) = false := by rfl) : XE K X (.Call (.Name "Row" p) (e :: es) [] pos) (tMake cR (spRowI cR) [] E0 tl) (pCall (wMkRow cR) pl) :=
  ⟨pe_make M F hr hg hm hb .nil pass0 ha.d (by decide) he hpl, se_mkRow ha.s⟩
theorem xe_mkWord {f : Addr} {fd : FuncData} {k : Nat} {e : Expr} {es : List Expr} {p pos : Pos} (M : Mk X.K cW f) (F : FnOk X.prog X.w X.K X.mg X.base CX0 k f fd ["self", "rows"] (spWordI X.K cR cS cW)) (hr : Room (k + 1) X.A) (hg : Gl X "Wording") (hm : X.mg "Wording" = some (.ref cW)) (hb : Binds X.K fd ["self", "rows"] [])
    (ha : XA K X (e :: es) tl pl) (hK : X.K = K := by rfl) (he : starEach (e :: es) X.env = (false, eval e X.env) :: starEach es X.env := by rfl) (hpl : (backTo pos (starEach es X.env)).any (·.1) = false := by rfl) : XE K X (.Call (.Name "Wording" p) (e :: es) [] pos) (tMake cW (spWordI K cR cS cW) [] E0 tl) (pCall (wMkWord cR cS cW) pl) :=
  ⟨by subst hK; exact pe_make M F hr hg hm hb .nil pass0 ha.d (by decide) he hpl, se_mkWord ha.s⟩
end
end Age

set_option Elab.async false
set_option linter.all false
set_option maxRecDepth 100000
set_option maxHeartbeats 4000000
/-! N3: ages that are rounded first -/
namespace Age
open PySem PySem.Spec PyProof.Rows L2 Evl Pu
def brR (u : Int) (w : Str) : List RowD := [⟨none, some u, w, "step"⟩]
theorem br_ok {u : Int} {w : Str} (hu : 0 < u) (ha : Ag u) : RowsOk (brR u w) := by
  refine ⟨.last rfl, fun r hr => ?_, by show 1 ≤ _; decide⟩
  rw [List.mem_singleton.mp hr]
  exact ⟨⟨fun v hv => by cases hv; exact ⟨hu, ha⟩, by show PyData.strOk "step" = true; decide +kernel⟩, fun t ht => by cases ht⟩
theorem br_label (u n : Int) (w : Str) : labelOf (brR u w) n = (("step" : Str), some (cnt n u w)) := rfl
theorem br_edge {u n : Int} {w : Str} : EdgeF (labelOf (brR u w)) n ↔ 0 < n ∧ cnt n u w ≠ cnt (n - 1) u w := by
  unfold EdgeF
  rw [br_label, br_label]
  simp
theorem br_sg {u s : Int} {w : Str} (hu : 0 < u) (hs : 0 ≤ s) (e : Option Int) : Sg (labelOf (brR u w)) s e ⟨none, some u, w, "step"⟩ := ⟨hs, fun v hv => by cases hv; exact hu, fun n _ _ => rfl⟩
/-- the age is changed by being rounded first -/
def Harm (rows : List RowD) (u : Int) (w : Str) (a : Int) : Prop := labelOf rows (cnt a u w * u) ≠ labelOf rows a
/-- the least harmed age, or none -/
def HarmO (rows : List RowD) (u : Int) (w : Str) : Option Int → Prop
  | none => ∀ a, 0 ≤ a → ¬ Harm rows u w a
  | some b => 0 ≤ b ∧ Harm rows u w b ∧ ∀ a, 0 ≤ a → a < b → ¬ Harm rows u w a
theorem HarmO.uniq {rows : List RowD} {u : Int} {w : Str} : ∀ {a b : Option Int}, HarmO rows u w a → HarmO rows u w b → a = b
  | none, none, _, _ => rfl
  | none, some b, h1, h2 => absurd h2.2.1 (h1 b h2.1)
  | some a, none, h1, h2 => absurd h1.2.1 (h2 a h1.1)
  | some a, some b, h1, h2 => by
    rcases Int.lt_trichotomy a b with z | z | z
    · exact absurd h1.2.1 (h2.2.2 a h1.1 z)
    · rw [z]
    · exact absurd h2.2.1 (h1.2.2 b h2.1 z)
theorem cnt_mul {c u : Int} {w : Str} (hu : 0 < u) : cnt (c * u) u w = c := by
  have s := shiftOf_bd w hu
  unfold cnt
  rw [Int.add_comm, Int.add_mul_ediv_right _ _ (by omega), Int.ediv_eq_zero_of_lt (by omega) (by omega)]
  omega
theorem cnt_pos {a u : Int} {w : Str} (hu : 0 < u) (ha : 0 ≤ a) : 0 ≤ cnt a u w := by
  have s := shiftOf_bd w hu
  exact Int.ediv_nonneg (by omega) (by omega)
/-- without strays from one class to another labels are those of the class -/
theorem lab_class {rows : List RowD} {u : Int} {w : Str} (hu : 0 < u) {lim : Int} (hcl : ∀ x, x ≤ lim → ¬ Stray (brR u w) rows x) {a b : Int} (ha : 0 ≤ a) (hab : a ≤ b) (hb : b ≤ lim) (hc : cnt a u w = cnt b u w) : labelOf rows b = labelOf rows a := by
  refine flat (lab := labelOf rows) ha (fun x h1 h2 hE => hcl x (by omega) ⟨hE, fun q => ?_⟩) hab
  obtain ⟨_, q⟩ := br_edge.mp q
  have a1 := cnt_mono (w := w) hu (show a ≤ x - 1 by omega)
  have a2 := cnt_mono (w := w) hu (show x - 1 ≤ x by omega)
  have a3 := cnt_mono (w := w) hu h2
  omega
theorem harm_none {rows : List RowD} {u : Int} {w : Str} (hu : 0 < u) (h : ∀ x, ¬ Stray (brR u w) rows x) : HarmO rows u w none := fun a ha z => by
  have c0 := cnt_pos (w := w) hu ha
  have m0 : 0 ≤ cnt a u w * u := Int.mul_nonneg c0 (by omega)
  have hc := cnt_mul (c := cnt a u w) (w := w) hu
  rcases Int.le_total a (cnt a u w * u) with q | q
  · exact z (lab_class hu (lim := cnt a u w * u) (fun x _ => h x) ha q (Int.le_refl _) hc.symm)
  · exact z (lab_class hu (lim := a) (fun x _ => h x) m0 q (Int.le_refl _) hc).symm
/-- below the class of the least stray nothing is harmed -/
theorem harm_below {rows : List RowD} {u : Int} {w : Str} (hu : 0 < u) {e : Int} (hs : Stray (brR u w) rows e) (hl : ∀ x, x < e → ¬ Stray (brR u w) rows x) {a : Int} (ha : 0 ≤ a) (hae : a < e) (hm : cnt a u w * u < e) : ¬ Harm rows u w a := fun z => by
  have c0 := cnt_pos (w := w) hu ha
  have m0 : 0 ≤ cnt a u w * u := Int.mul_nonneg c0 (by omega)
  have hc := cnt_mul (c := cnt a u w) (w := w) hu
  rcases Int.le_total a (cnt a u w * u) with q | q
  · exact z (lab_class hu (lim := cnt a u w * u) (fun x hx => hl x (by omega)) ha q (Int.le_refl _) hc.symm)
  · exact z (lab_class hu (lim := a) (fun x hx => hl x (by omega)) m0 q (Int.le_refl _) hc).symm
theorem stray_cnt {rows : List RowD} {u : Int} {w : Str} {e : Int} (hs : Stray (brR u w) rows e) : 0 < e ∧ cnt e u w = cnt (e - 1) u w ∧ labelOf rows e ≠ labelOf rows (e - 1) := by
  refine ⟨hs.1.1, ?_, hs.1.2⟩
  have := hs.2
  rw [br_edge] at this
  have h0 := hs.1.1
  exact Decidable.byContradiction fun q => this ⟨h0, q⟩
theorem harm_up {rows : List RowD} {u : Int} {w : Str} (hu : 0 < u) {e : Int} (hs : Stray (brR u w) rows e) (hl : ∀ x, x < e → ¬ Stray (brR u w) rows x) (hm : cnt e u w * u < e) : HarmO rows u w (some e) := by
  obtain ⟨e0, hc, hn⟩ := stray_cnt hs
  have c0 := cnt_pos (w := w) hu (show 0 ≤ e by omega)
  have m0 : 0 ≤ cnt e u w * u := Int.mul_nonneg c0 (by omega)
  have hcm := cnt_mul (c := cnt e u w) (w := w) hu
  refine ⟨by omega, fun z => hn ?_, fun a ha hae => ?_⟩
  · rw [← z]
    exact (lab_class hu (lim := e - 1) (fun x hx => hl x (by omega)) m0 (by omega) (Int.le_refl _) (by omega)).symm
  · refine harm_below hu hs hl ha hae ?_
    have a1 := cnt_mono (w := w) hu (show a ≤ e by omega)
    have : cnt a u w * u ≤ cnt e u w * u := Int.mul_le_mul_of_nonneg_right a1 (by omega)
    omega
theorem harm_down {rows : List RowD} (st : Steady (labelOf rows)) {u : Int} {w : Str} (hu : 0 < u) {e b : Int} (hs : Stray (brR u w) rows e) (hl : ∀ x, x < e → ¬ Stray (brR u w) rows x) (hm : e ≤ cnt e u w * u) (hb : LastE (labelOf (brR u w)) e b) : HarmO rows u w (some b) := by
  obtain ⟨e0, hc, hn⟩ := stray_cnt hs
  have b0 := hb.lo
  have b1 := hb.le
  have hbe : b < e := by
    rcases Int.lt_or_le b e with z | z
    · exact z
    · have hbe : b = e := by omega
      rw [hbe] at hb
      exact absurd (br_edge.mp (hb.ed e0)).2 (by omega)
  have cb : cnt b u w = cnt e u w := by
    have := flat (lab := labelOf (brR u w)) b0 hb.no b1
    rw [br_label, br_label] at this
    simpa using this.symm
  refine ⟨b0, fun z => ?_, fun a ha hab => ?_⟩
  · rw [cb] at z
    have h1 : labelOf rows (e - 1) = labelOf rows b := lab_class hu (lim := e - 1) (fun x hx => hl x (by omega)) b0 (by omega) (Int.le_refl _) (by omega)
    exact hn ((st (e - 1) (cnt e u w * u) e (by omega) (by omega) hm (by rw [h1, z])))
  · refine harm_below hu hs hl ha (by omega) ?_
    have a1 : cnt a u w < cnt e u w := by
      have a2 := cnt_mono (w := w) hu (show a ≤ b - 1 by omega)
      have a3 := cnt_mono (w := w) hu (show b - 1 ≤ b by omega)
      by_cases hb0 : 0 < b
      · have := (br_edge.mp (hb.ed hb0)).2
        omega
      · omega
    have h2 : (cnt a u w + 1) * u ≤ cnt e u w * u := Int.mul_le_mul_of_nonneg_right (by omega) (by omega)
    have s := shiftOf_bd w hu
    have h3 := (cnt_ge (n := b) (c := cnt e u w) (w := w) hu).mp (by omega)
    unfold fst at h3
    rw [Int.add_mul, Int.one_mul] at h2
    omega
/-- the least stray edge is not far -/
theorem stray_near {rows : List RowD} (ok : RowsOk rows) {u : Int} {w : Str} (hu : 0 < u) (ga : Ag u) {r : RowD} {L : Int} (hr : r ∈ rows) (hL : 0 ≤ L) (hlab : ∀ n, L ≤ n → labelOf rows n = (r.word, cntO r n)) {e : Int} (hs : Stray (brR u w) rows e) (hl : ∀ x, x < e → ¬ Stray (brR u w) rows x) : e ≤ L ∨ ∃ v, r.unit = some v ∧ e ≤ L + 3 * v := by
  rcases Int.lt_or_le L e with hLe | hLe
  · right
    have un : ∀ v, r.unit = some v → 0 < v := fun v hv => ((ok.r r hr).1.un v hv).1
    have S2 : Sg (labelOf rows) L none r := ⟨hL, un, fun n hn _ => hlab n hn⟩
    have S1 := br_sg (w := w) hu hL none
    have inr : ∀ n, Inr none n := fun n x hx => by cases hx
    obtain ⟨v, hv⟩ := S2.has hLe (inr _) hs.1
    have v0 := un v hv
    refine ⟨v, hv, ?_⟩
    rcases Int.lt_or_le (L + 3 * v) e with z | z
    · exfalso
      -- three edges behind L
      have ed : ∀ c : Int, L < fst c v r.way → EdgeF (labelOf rows) (fst c v r.way) := fun c hc => (S2.som hv hc (inr _)).mpr ⟨c, rfl⟩
      let c := cnt L v r.way + 1
      have f1 : L < fst c v r.way := by
        have := (cnt_ge (n := L) (c := c) (w := r.way) v0)
        omega
      have f0 := (cnt_ge (n := L) (c := cnt L v r.way) (w := r.way) v0).mp (Int.le_refl _)
      have g1 : fst c v r.way = fst (cnt L v r.way) v r.way + v := by unfold fst; show (cnt L v r.way + 1) * v - _ = _; rw [Int.add_mul, Int.one_mul]; omega
      have g2 : fst (c + 1) v r.way = fst c v r.way + v := by unfold fst; rw [Int.add_mul, Int.one_mul]; omega
      have notS : ∀ x, x < e → EdgeF (labelOf rows) x → EdgeF (labelOf (brR u w)) x := fun x hx hE => Classical.byContradiction fun q => hl x hx ⟨hE, q⟩
      have e1 := ed c f1
      have e2 := ed (c + 1) (by omega)
      refine hs.2 (seg_clean S1 S2 (a := fst c v r.way) (b := fst (c + 1) v r.way) f1 (by omega) (inr _) e1 e2 (fun x h1 h2 hx => ?_) (notS _ (by omega) e1) (notS _ (by omega) e2) (by omega) (inr _) hs.1)
      obtain ⟨d, hd⟩ := (S2.som hv (by omega) (inr _)).mp hx
      have d1 : c < d := by
        rcases Int.lt_or_le c d with q | q
        · exact q
        · have : d * v ≤ c * v := Int.mul_le_mul_of_nonneg_right q (by omega)
          unfold fst at hd h1; omega
      have d2 : (c + 1) * v ≤ d * v := Int.mul_le_mul_of_nonneg_right (by omega) (by omega)
      unfold fst at hd h2
      omega
    · exact z
  · exact Or.inl hLe
/-- scaling -/
theorem harm_sc {rows : List RowD} {f : Int} (hf : 0 < f) (hd : Down rows) {u : Int} (hu : 0 < u) : ∀ {o : Option Int}, HarmO rows u "down" o → HarmO (rows.map (timesR f)) (u * f) "down" (o.map (· * f)) := by
  have key : ∀ a, Harm (rows.map (timesR f)) (u * f) "down" a ↔ Harm rows u "down" (a / f) := fun a => by
    have hin : In f (a / f) a := ⟨Int.ediv_mul_le a (by omega), Int.lt_ediv_add_one_mul_self a hf⟩
    have e1 : cnt a (u * f) "down" * (u * f) = (cnt (a / f) u "down" * u) * f := by
      rw [hin.cnt hf, Int.mul_assoc]
    unfold Harm
    rw [e1, label_sc hf (In.self hf) hd, label_sc hf hin hd]
  intro o ho
  cases o with
  | none => exact fun a ha z => ho (a / f) (Int.ediv_nonneg ha (by omega)) ((key a).mp z)
  | some b =>
    refine ⟨Int.mul_nonneg ho.1 (by omega), (key _).mpr ?_, fun a ha hab z => ho.2.2 (a / f) (Int.ediv_nonneg ha (by omega)) ?_ ((key a).mp z)⟩
    · rw [Int.mul_ediv_cancel _ (by omega)]
      exact ho.2.1
    · exact Int.ediv_lt_of_lt_mul hf hab
theorem cnt_dnN (n u : Int) : cnt n u "down" = n / u := by
  unfold cnt shiftOf
  rw [if_pos rfl, Int.add_zero]
theorem fst_dnN (c u : Int) : fst c u "down" = c * u := by
  unfold fst shiftOf
  rw [if_pos rfl]
  omega
/-- a wording that is not steady -/
def backR (b u : Int) : List RowD := [⟨some (b * u), some u, "down", "s"⟩, ⟨none, some (b * u), "down", "s"⟩]
theorem back_returns {b u : Int} (hb : 3 ≤ b) (hu : 0 < u) : returnsOf (spansFrom 0 none (backR b u)) = some (b * u) := by
  have m0 : 0 < b * u := Int.mul_pos (by omega) hu
  have c1 : cnt (b * u) (b * u) "down" = 1 := by rw [cnt_dnN, Int.ediv_self (by omega)]
  have hbu : (b - 1) * u = b * u - u := by rw [Int.sub_mul, Int.one_mul]
  have c2 : cnt (b * u - 1) u "down" = b - 1 := by
    rw [cnt_dnN]
    rw [show b * u - 1 = (u - 1) + (b - 1) * u by omega, Int.add_mul_ediv_right _ _ (by omega), Int.ediv_eq_zero_of_lt (by omega) (by omega)]
    omega
  let s1 : SpanD := ⟨0, some (b * u - 1), ⟨some (b * u), some u, "down", "s"⟩, false⟩
  have hs : spansFrom 0 none (backR b u) = [s1, ⟨b * u, none, ⟨none, some (b * u), "down", "s"⟩, decide (0 < b * u) && !decide (some (("s" : Str), some (cnt (b * u) (b * u) "down")) = some (("s" : Str), some (cnt (b * u - 1) u "down")))⟩] := rfl
  have hfr : (decide (0 < b * u) && !decide (some (("s" : Str), some (cnt (b * u) (b * u) "down")) = some (("s" : Str), some (cnt (b * u - 1) u "down")))) = true := by
    rw [c1, c2]
    simp
    omega
  rw [hs, hfr]
  let s2 : SpanD := ⟨b * u, none, ⟨none, some (b * u), "down", "s"⟩, true⟩
  have sf : sharedFrom s2 s1 (b * u) u = 1 := by
    have c0 : cnt 0 u "down" = 0 := by rw [cnt_dnN, Int.zero_ediv]
    show (if cnt 0 u "down" > cnt (b * u) (b * u) "down" + 0 then cnt 0 u "down" else cnt (b * u) (b * u) "down" + 0) = 1
    rw [c0, c1]
    rfl
  have st : stretchWith s2 "s" (some 1) = some (b * u, some (fst (1 + 1) (b * u) "down" - 1)) := by
    show (if (if fst 1 (b * u) "down" > b * u then fst 1 (b * u) "down" else b * u) ≤ fst (1 + 1) (b * u) "down" - 1 then some (if fst 1 (b * u) "down" > b * u then fst 1 (b * u) "down" else b * u, some (fst (1 + 1) (b * u) "down" - 1)) else none) = _
    rw [fst_dnN, fst_dnN, Int.one_mul, if_neg (show ¬ b * u > b * u by omega), if_pos (by omega)]
  have e : edgeShared s2 s1 = some (b * u) := by
    show (match stretchWith s2 "s" (some (sharedFrom s2 s1 (b * u) u)) with
      | none => none
      | some p => if sharedFrom s2 s1 (b * u) u > cnt (b * u - 1) u "down" then none else some p.1) = _
    rw [sf, st]
    show (if (1 : Int) > cnt (b * u - 1) u "down" then none else some (b * u)) = _
    rw [c2, if_neg (by omega)]
  show (match minL (againAt [s1, s2] 0) with
    | some m => some m
    | none => (match minL (againAt [s1, s2] 1) with
      | some m => some m
      | none => none)) = _
  have a0 : againAt [s1, s2] 0 = [] := rfl
  have a1 : againAt [s1, s2] 1 = [b * u] := by
    show List.filterMap (edgeShared s2) [s1] = _
    rw [List.filterMap_cons_some e]
    rfl
  rw [a0, a1]
  rfl
end Age

set_option Elab.async false
set_option linter.all false
set_option maxRecDepth 100000
set_option maxHeartbeats 4000000
/-! N4: harmless as a promise; Unsteady -/
namespace Age
open PySem PySem.Spec PyProof.Rows L2 Evl Pu
def BndG (M : Int) (rows : List RowD) : Prop := ∀ r ∈ rows, (∀ u, r.unit = some u → 0 < u ∧ u ≤ M) ∧ ∀ t, r.til = some t → 0 < t ∧ t ≤ M
def SpG (M : Int) (s : SpanD) : Prop := (0 ≤ s.low ∧ s.low ≤ M) ∧ ∀ u, s.row.unit = some u → 0 < u ∧ u ≤ M
theorem spans_bndG {M : Int} : ∀ {rows : List RowD} {b : Int} {sh : Option (Str × Option Int)}, BndG M rows → 0 ≤ b ∧ b ≤ M → ∀ s ∈ spansFrom b sh rows, SpG M s
  | [], _, _, _, _ => fun s h => by simp [spansFrom] at h
  | r :: rs, b, sh, hd, hb => fun s h => by
    obtain ⟨h1, h2⟩ := hd r List.mem_cons_self
    have hd2 : BndG M rs := fun r hr => hd r (List.mem_cons_of_mem _ hr)
    cases ht : r.til with
    | none =>
      simp only [spansFrom, ht] at h
      rcases List.mem_cons.mp h with z | z
      · rw [z]; exact ⟨hb, h1⟩
      · exact spans_bndG hd2 hb s z
    | some t =>
      have := h2 t ht
      simp only [spansFrom, ht] at h
      rcases List.mem_cons.mp h with z | z
      · rw [z]; exact ⟨hb, h1⟩
      · exact spans_bndG hd2 (by omega) s z
theorem later_upG {M n : Int} (hM : 0 ≤ M) (hn : 0 ≤ n) : ∀ {ss : List SpanD}, (∀ s ∈ ss, SpG M s) → ∀ {b : Int}, laterEdge ss n = some b → b ≤ n + 2 * M
  | [], _, b, h => nomatch h
  | s :: ss, hd, b, h => by
    unfold laterEdge at h
    rw [List.findSome?_cons] at h
    cases he : edgeAfter s n with
    | none =>
      rw [he] at h
      exact later_upG hM hn (ss := ss) (fun s hs => hd s (List.mem_cons_of_mem _ hs)) h
    | some b' =>
      rw [he] at h
      cases h
      obtain ⟨h1, h2⟩ := hd s List.mem_cons_self
      by_cases c : s.fresh = true ∧ n < s.low
      · have e1 : edgeAfter s n = some s.low := if_pos c
        rw [e1] at he
        cases he
        omega
      · have e1 : edgeAfter s n = _ := if_neg c
        rw [e1] at he
        cases hu : s.row.unit with
        | none => rw [hu] at he; cases he
        | some u =>
          obtain ⟨u0, u1⟩ := h2 u hu
          have key : fst (cnt (if s.low > n then s.low else n) u s.row.way + 1) u s.row.way ≤ n + 2 * M := by
            have hm : (if s.low > n then s.low else n) ≤ n + M := by split <;> omega
            generalize (if s.low > n then s.low else n) = m at hm
            have h3 := (cnt_fst (m := m) (w := s.row.way) u0 rfl).2.1
            have h4 : fst (cnt m u s.row.way + 1) u s.row.way = fst (cnt m u s.row.way) u s.row.way + u := by
              unfold fst
              rw [Int.add_mul, Int.one_mul]
              omega
            omega
          rw [hu] at he
          cases hh : s.high with
          | none =>
            rw [hh] at he
            have he : fst (cnt (if s.low > n then s.low else n) u s.row.way + 1) u s.row.way = b := Option.some.inj he
            omega
          | some x =>
            rw [hh] at he
            have he : (if fst (cnt (if s.low > n then s.low else n) u s.row.way + 1) u s.row.way ≤ x then some (fst (cnt (if s.low > n then s.low else n) u s.row.way + 1) u s.row.way) else none) = some b := he
            generalize fst (cnt (if s.low > n then s.low else n) u s.row.way + 1) u s.row.way = e at he key
            split at he
            · cases he; exact key
            · cases he
abbrev M25 : Int := 10000000000000000000000000
theorem low_bndG {M : Int} (hM : 0 ≤ M) {rows : List RowD} (b : BndG M rows) : ∀ l ∈ lows rows, 0 ≤ l ∧ l ≤ M := fun l hl => by
  obtain ⟨s, hs, rfl⟩ := List.mem_map.mp hl
  exact (spans_bndG b ⟨Int.le_refl _, hM⟩ s hs).1
theorem chain_bndG {rows : List RowD} (ok : RowsOk rows) (b : BndG M25 rows) : ∀ (k : Nat) (n : Int), 0 ≤ n → n + 20000000000000000000000000 * (k : Int) ≤ 1000000000000000000000000000000 → chainOk rows k (laterEdge (spansFrom 0 none rows) n)
  | 0, _, _, _ => trivial
  | k + 1, n, h0, h1 => by
    cases hl : laterEdge (spansFrom 0 none rows) n with
    | none => exact trivial
    | some e =>
      have h2 : e ≤ n + 2 * 10000000000000000000000000 := later_upG (M := M25) (by decide) h0 (spans_bndG b ⟨by decide, by decide⟩) hl
      have h3 := later_next ok h0
      rw [hl] at h3
      have h3 : NextE (labelOf rows) n e := h3
      have := h3.gt
      have e1 : ((k + 1 : Nat) : Int) = (k : Int) + 1 := by omega
      rw [e1] at h1
      exact ⟨by unfold Ag; omega, chain_bndG ok b k e (by omega) (by omega)⟩
theorem stE_bndG {rows : List RowD} (ok : RowsOk rows) (b : BndG M25 rows) {st : Int} (h0 : 0 ≤ st) (h1 : st ≤ M25) : Ag (max (st - 1) 0) ∧ chainOk rows 3 (stE rows st) := by
  have h1 : st ≤ 10000000000000000000000000 := h1
  exact ⟨by unfold Ag; omega, chain_bndG ok b 3 _ (by omega) (by omega)⟩
def wMissed2 (cR cS cW : Addr) : PSp := wMissed cR cS cW
def wCntd : PSp := fun xs n Q => ∃ (a u : Int) (w : Str), xs = [.int a, .int u, .str w] ∧ 0 < u ∧ Sm u ∧ Q (.int (cnt a u w)) n
def wLcnt : PSp := fun xs n Q => ∃ (u : Int) (w : Str) (a : Int), xs = [.int u, .str w, .int a] ∧ 0 < u ∧ Ag u ∧ Sm a ∧ Q (.int (cnt a u w)) n
def wSteadyR (cR cS cW cU : Addr) : PSpR := fun xs n Q E => ∃ rows : List RowD, xs = [pWord cR cS cW rows] ∧ RowsOk rows ∧ (returnsOf (spansFrom 0 none rows) = none → Q .non n) ∧ ∀ b, returnsOf (spansFrom 0 none rows) = some b → E cU [("age", .int b)] n
def wHarmless (cR cS cW : Addr) : PSp := fun xs n Q => ∃ (rows : List RowD) (u : Int) (w : Str), xs = [pWord cR cS cW rows, .int u, .str w] ∧ RowsOk rows ∧ Steady (labelOf rows) ∧ BndG M25 rows ∧ rows.length ≤ 29 ∧ 0 < u ∧ u ≤ M25 ∧ ∀ o, HarmO rows u w o → Q (pO o) n
def wHarmlessR (cR cS cW cU : Addr) : PSpR := fun xs n Q E => ∃ (rows : List RowD) (u : Int) (w : Str), xs = [pWord cR cS cW rows, .int u, .str w] ∧ RowsOk rows ∧ (returnsOf (spansFrom 0 none rows) = none → Steady (labelOf rows) ∧ BndG M25 rows ∧ rows.length ≤ 29 ∧ 0 < u ∧ u ≤ M25 ∧ ∀ o, HarmO rows u w o → Q (pO o) n) ∧
  ∀ b, returnsOf (spansFrom 0 none rows) = some b → E cU [("age", .int b)] n
section
variable {P : Program} {w : World} {K : PySem.W.Frag} {mg : Str → Option Value} {base : Heap} {cR cS cW cU : Addr} {k : Nat} {name : Str} {ps : List Str}
theorem pu_counted (c : Cal P w K mg base CX0 k name ps spCounted) : Cal P w K mg base CX0 k name ps (lift K wCntd) := c.imp fun vs H Q E ⟨p, c, F, O, n, xs, Q', s, r, ⟨a, u, wy, e, h1, h2, h3⟩, q⟩ => by
  subst e
  obtain ⟨v1, y1, rfl, r1, r2⟩ := r.cons_inv
  obtain ⟨v2, y2, rfl, r3, r4⟩ := r2.cons_inv
  obtain ⟨v3, y3, rfl, r5, r6⟩ := r4.cons_inv
  cases r6
  rw [r1.getI, r3.getI, r5.getS]
  exact ⟨a, u, wy, rfl, h1, h2, fun H2 e => q _ _ _ _ O H2 h3 ⟨Ex.refl _, .refl, s.grow e⟩ (.int _)⟩
theorem pu_count (c : Cal P w K mg base CX0 k name ps spLcount) : Cal P w K mg base CX0 k name ps (lift K wLcnt) := c.imp fun vs H Q E ⟨p, c, F, O, n, xs, Q', s, r, ⟨u, wy, a, e, h1, h2, h4, h3⟩, q⟩ => by
  subst e
  obtain ⟨v1, y1, rfl, r1, r2⟩ := r.cons_inv
  obtain ⟨v2, y2, rfl, r3, r4⟩ := r2.cons_inv
  obtain ⟨v3, y3, rfl, r5, r6⟩ := r4.cons_inv
  cases r6
  rw [r1.getI, r3.getS, r5.getI]
  exact ⟨u, wy, a, rfl, h1, h2, h4, fun H2 e => q _ _ _ _ O H2 h3 ⟨Ex.refl _, .refl, s.grow e⟩ (.int _)⟩
/-- what harmless says behind the look at steadiness -/
theorem cnt_le {a u : Int} {w : Str} (hu : 0 < u) (ha : 0 ≤ a) : cnt a u w ≤ a := by
  have h := cnt_ge (n := a) (c := a + 1) (w := w) hu
  have h2 : ¬ fst (a + 1) u w ≤ a := by
    unfold fst
    have h3 := shiftOf_bd w hu
    have h4 : a * 1 ≤ a * u := Int.mul_le_mul_of_nonneg_left hu ha
    have h5 : (a + 1) * u = a * u + u := by rw [Int.add_mul, Int.one_mul]
    omega
  omega
theorem harm_tail {rows : List RowD} {u : Int} {wy : Str} (ok : RowsOk rows) (st : Steady (labelOf rows)) (b : BndG M25 rows) (hu : 0 < u) (hu1 : u ≤ M25) {ms : List Int} (hp : ms.Pairwise (· < ·)) (hm : ∀ k, k ∈ ms ↔ k ∈ lows (brR u wy) ++ lows rows) : match missedL (brR u wy) rows ms with
    | none => HarmO rows u wy none
    | some e => 0 < e ∧ e ≤ 4 * M25 ∧ (cnt e u wy * u < e → HarmO rows u wy (some e)) ∧ (e ≤ cnt e u wy * u → ∀ l, LastE (labelOf (brR u wy)) e l → HarmO rows u wy (some l)) := by
  have ga : Ag u := by unfold Ag; have : (M25 : Int) = 10000000000000000000000000 := rfl; omega
  have h := missed_spec (br_ok (w := wy) hu ga) ok hp hm
  cases hq : missedL (brR u wy) rows ms with
  | none => rw [hq] at h; exact harm_none hu h
  | some e =>
    rw [hq] at h
    obtain ⟨h1, h2⟩ := h
    obtain ⟨r, L, hr, hrt, hL0, hrows, hlab⟩ := last_row ok
    have hL1 : L ≤ M25 := by
      rcases hrows with ⟨_, e⟩ | ⟨pre, q, e, hq⟩
      · rw [e]; decide
      · exact ((b q (by rw [e]; simp)).2 L hq).2
    refine ⟨h1.1.1, ?_, fun q => harm_up hu h1 h2 q, fun q l hl => harm_down st hu h1 h2 q hl⟩
    rcases stray_near ok hu ga hr hL0 hlab h1 h2 with z | ⟨v, hv, z⟩
    · have : (0 : Int) ≤ M25 := by decide
      omega
    · have := ((b r hr).1 v hv).2
      omega
end
end Age

set_option Elab.async false
set_option linter.all false
set_option maxRecDepth 100000
set_option maxHeartbeats 4000000
/-! K31m: rows in other ways, times a factor; the least harmed age is there -/
namespace Age
open PySem PySem.Spec PyProof.Rows L2 Evl Pu
theorem least_nat (P : Nat → Prop) : ∀ n : Nat, P n → ∃ b, P b ∧ ∀ x, x < b → ¬ P x := by
  intro n
  induction n using Nat.strongRecOn with
  | ind n ih =>
    intro h
    by_cases q : ∃ m, m < n ∧ P m
    · obtain ⟨m, hm, hp⟩ := q
      exact ih m hm hp
    · exact ⟨n, h, fun x hx hp => q ⟨x, hx, hp⟩⟩
theorem least_int {P : Int → Prop} {n : Int} (h0 : 0 ≤ n) (h : P n) : ∃ b, 0 ≤ b ∧ P b ∧ ∀ x, 0 ≤ x → x < b → ¬ P x := by
  obtain ⟨b, h1, h2⟩ := least_nat (fun k => P (k : Int)) n.toNat (by show P (n.toNat : Int); rw [Int.toNat_of_nonneg h0]; exact h)
  exact ⟨b, by omega, h1, fun x hx hb hp => h2 x.toNat (by omega) (by show P (x.toNat : Int); rw [Int.toNat_of_nonneg hx]; exact hp)⟩
theorem harm_ex {rows : List RowD} (ok : RowsOk rows) (st : Steady (labelOf rows)) {u : Int} {w : Str} (hu : 0 < u) (ga : Ag u) {r : RowD} {L : Int} (hr : r ∈ rows) (hL : 0 ≤ L) (hlab : ∀ n, L ≤ n → labelOf rows n = (r.word, cntO r n)) : ∃ o, HarmO rows u w o ∧ ∀ b, o = some b → b ≤ L ∨ ∃ v, r.unit = some v ∧ b ≤ L + 3 * v := by
  by_cases hs : ∃ x, Stray (brR u w) rows x
  · obtain ⟨x, hx⟩ := hs
    obtain ⟨e, e0, h1, h2⟩ := least_int (P := Stray (brR u w) rows) (by have := hx.1.1; omega) hx
    have h3 : ∀ x, x < e → ¬ Stray (brR u w) rows x := fun x hxe hst => h2 x (by have := hst.1.1; omega) hxe hst
    have near := stray_near ok hu ga hr hL hlab h1 h3
    by_cases hlt : cnt e u w * u < e
    · exact ⟨some e, harm_up hu h1 h3 hlt, fun b hb => by cases hb; exact near⟩
    · have hl := last_spec (br_ok (w := w) hu ga) (n := e) e0
      refine ⟨some _, harm_down st hu h1 h3 (by omega) hl, fun b hb => ?_⟩
      have := hl.le
      have hb : lastEdge (spansFrom 0 none (brR u w)) e = b := Option.some.inj hb
      rcases near with z | ⟨v, hv, z⟩
      · exact Or.inl (by omega)
      · exact Or.inr ⟨v, hv, by omega⟩
  · exact ⟨none, harm_none hu fun x hx => hs ⟨x, hx⟩, fun b hb => by cases hb⟩
theorem max_ex : ∀ (L : List Int), L ≠ [] → ∃ m ∈ L, ∀ y ∈ L, y ≤ m
  | [], h => absurd rfl h
  | [x], _ => ⟨x, by simp, fun y hy => by rw [List.mem_singleton.mp hy]; exact Int.le_refl _⟩
  | x :: y :: L, _ => by
    obtain ⟨m, hm, h⟩ := max_ex (y :: L) (by simp)
    rcases Int.le_total x m with z | z
    · exact ⟨m, List.mem_cons_of_mem _ hm, fun w hw => by
        rcases List.mem_cons.mp hw with rfl | hw
        · exact z
        · exact h w hw⟩
    · exact ⟨x, List.mem_cons_self, fun w hw => by
        rcases List.mem_cons.mp hw with rfl | hw
        · exact Int.le_refl _
        · have := h w hw; omega⟩
theorem units_map (rows : List RowD) : ((rows.filter fun r => r.unit.isSome).map fun r => pO r.unit) = (rows.filterMap (·.unit)).map PV.int := by
  induction rows with
  | nil => rfl
  | cons r rs ih =>
    cases hu : r.unit with
    | none => rw [List.filter_cons_of_neg (by simp [hu]), List.filterMap_cons_none hu, ih]
    | some v => rw [List.filter_cons_of_pos (by simp [hu]), List.filterMap_cons_some hu, List.map_cons, List.map_cons, ih, hu]; rfl
def wayR (w : Str) (r : RowD) : RowD := ⟨r.til, r.unit, w, r.word⟩
theorem uway_ok (w : Str) : ∀ {rows : List RowD} {b : Int}, UOk b rows → UOk b (rows.map (wayR w))
  | _, _, .last h => .last h
  | _, _, .more h hb hu => .more h hb (uway_ok w hu)
theorem way_ok (w : Str) {rows : List RowD} (ok : RowsOk rows) : RowsOk (rows.map (wayR w)) := ⟨uway_ok w ok.u, fun r hr => by
  obtain ⟨r0, h0, rfl⟩ := List.mem_map.mp hr
  have h := ok.r r0 h0
  exact ⟨⟨h.1.un, h.1.wd⟩, h.2⟩, by rw [List.length_map]; exact ok.n⟩
theorem bnd_way (w : Str) {M : Int} {rows : List RowD} (b : BndG M rows) : BndG M (rows.map (wayR w)) := fun r hr => by
  obtain ⟨r0, h0, rfl⟩ := List.mem_map.mp hr
  exact b r0 h0
theorem runs_way (w : Str) {rows : List RowD} (h : Runs rows) : Runs (rows.map (wayR w)) := by
  intro i j a b hij ha hb hw m r h1 h2 hr
  rw [List.getElem?_map] at ha hb hr
  obtain ⟨a0, ha0, rfl⟩ := Option.map_eq_some_iff.mp ha
  obtain ⟨b0, hb0, rfl⟩ := Option.map_eq_some_iff.mp hb
  obtain ⟨r0, hr0, rfl⟩ := Option.map_eq_some_iff.mp hr
  obtain ⟨q1, q2, q3⟩ := h i j a0 b0 hij ha0 hb0 hw m r0 h1 h2 hr0
  exact ⟨q1, q2, rfl⟩
theorem bnd_mono {M M' : Int} (h : M ≤ M') {rows : List RowD} (b : BndG M rows) : BndG M' rows := fun r hr => ⟨fun u hu => by have := (b r hr).1 u hu; omega, fun t ht => by have := (b r hr).2 t ht; omega⟩
theorem bnd_times {M f : Int} (h0 : 0 ≤ M) (hf : 0 < f) {rows : List RowD} (b : BndG M rows) : BndG (M * f) (rows.map (timesR f)) := fun r hr => by
  obtain ⟨r0, h1, rfl⟩ := List.mem_map.mp hr
  refine ⟨fun u hu => ?_, fun t ht => ?_⟩
  · obtain ⟨u0, e, rfl⟩ := Option.map_eq_some_iff.mp hu
    have := (b r0 h1).1 u0 e
    exact ⟨Int.mul_pos this.1 hf, Int.mul_le_mul_of_nonneg_right this.2 (by omega)⟩
  · obtain ⟨u0, e, rfl⟩ := Option.map_eq_some_iff.mp ht
    have := (b r0 h1).2 u0 e
    exact ⟨Int.mul_pos this.1 hf, Int.mul_le_mul_of_nonneg_right this.2 (by omega)⟩
theorem times_okM {M f : Int} (hf : 0 < f) (h0 : 0 ≤ M) (hM : M * f ≤ M25) {rows : List RowD} (ok : RowsOk rows) (b : BndG M rows) : RowsOk (rows.map (timesR f)) := by
  have bt := bnd_times h0 hf b
  refine ⟨?_, fun r hr => ?_, by rw [List.length_map]; exact ok.n⟩
  · have := uok_timesN hf ok.u
    rw [Int.zero_mul] at this
    exact this
  · have hb := bt r hr
    obtain ⟨r0, h1, rfl⟩ := List.mem_map.mp hr
    have hM : M * f ≤ 10000000000000000000000000 := hM
    exact ⟨⟨fun u hu => by have := hb.1 u hu; exact ⟨this.1, by unfold Ag; omega⟩, (ok.r r0 h1).1.wd⟩, fun t ht => by have := hb.2 t ht; unfold Ag; omega⟩
theorem bnd_drawn {ws : List Str} {most : Int} {rows : List RowD} (h : Drawn ws most rows) : BndG 600 rows := fun r hr => by
  have g := h.g r hr
  exact ⟨fun u hu => by have := g.un u hu; omega, fun t ht => by have := g.ti t ht; omega⟩
theorem rowB_bnd {M : Int} (h : M ≤ M25) {rows : List RowD} (b : BndG M rows) : ∀ r ∈ rows, RowB r := fun r hr => by
  have h : M ≤ 10000000000000000000000000 := h
  exact ⟨fun u hu => by have := (b r hr).1 u hu; unfold Sm; omega, fun u hu => by have := (b r hr).2 u hu; unfold Sm; omega⟩
theorem down_way (rows : List RowD) : Down (rows.map (wayR "down")) := fun r hr => by
  obtain ⟨r0, h0, rfl⟩ := List.mem_map.mp hr
  rfl
theorem shaped_dO (o : Option Int) : SeqAt.shaped (dO o) = true := by cases o <;> rfl
theorem pO_neS {o : Option Int} {Q : PV → Prop} (q : Q (.bl false)) : pNeD (pO o) (pO o) Q := neD_of (toD_pO o) (toD_pO o) (shaped_dO o) (shaped_dO o) (by rw [eqv_dO]; simpa using q)
theorem harm_one {rows : List RowD} {w : Str} : HarmO rows 1 w none := fun a ha z => z (by
  have s := shiftOf_bd w (show (0 : Int) < 1 by decide)
  have e : cnt a 1 w = a := by
    unfold cnt
    rw [show shiftOf 1 w = 0 by omega, Int.add_zero, Int.ediv_one]
  rw [e, Int.mul_one])
theorem back_rows {b u : Int} (hb : 3 ≤ b) (hu : 0 < u) (h : b * u ≤ 100000) (hu2 : u ≤ 1000) : RowsOk (backR b u) := by
  have m0 : 0 < b * u := Int.mul_pos (by omega) hu
  refine ⟨.more rfl m0 (.last rfl), fun r hr => ?_, by show 2 ≤ 1000; decide⟩
  have hs : PyData.strOk "s" = true := by decide +kernel
  simp only [backR, List.mem_cons, List.not_mem_nil, or_false] at hr
  rcases hr with rfl | rfl
  · exact ⟨⟨fun v hv => by cases hv; exact ⟨hu, by unfold Ag; omega⟩, hs⟩, fun t ht => by cases ht; unfold Ag; omega⟩
  · exact ⟨⟨fun v hv => by cases hv; exact ⟨m0, by unfold Ag; omega⟩, hs⟩, fun t ht => by cases ht⟩
end Age

set_option Elab.async false
set_option linter.all false
set_option maxRecDepth 100000
set_option maxHeartbeats 4000000
/-! N5: the least age at which two wordings differ -/
namespace Age
open PySem PySem.Spec PyProof.Rows L2 Evl Pu
def UnlikeO (r1 r2 : List RowD) : Option Int → Prop
  | none => ∀ x, 0 ≤ x → labelOf r1 x = labelOf r2 x
  | some b => 0 ≤ b ∧ labelOf r1 b ≠ labelOf r2 b ∧ ∀ x, 0 ≤ x → x < b → labelOf r1 x = labelOf r2 x
theorem UnlikeO.uniq {r1 r2 : List RowD} : ∀ {a b : Option Int}, UnlikeO r1 r2 a → UnlikeO r1 r2 b → a = b
  | none, none, _, _ => rfl
  | none, some b, h1, h2 => absurd (h1 b h2.1) h2.2.1
  | some a, none, h1, h2 => absurd (h2 a h1.1) h1.2.1
  | some a, some b, h1, h2 => by
    rcases Int.lt_trichotomy a b with z | z | z
    · exact absurd (h2.2.2 a h1.1 z) h1.2.1
    · rw [z]
    · exact absurd (h1.2.2 b h2.1 z) h2.2.1
theorem UnlikeO.symm {r1 r2 : List RowD} : ∀ {a : Option Int}, UnlikeO r1 r2 a → UnlikeO r2 r1 a
  | none, h => fun x hx => (h x hx).symm
  | some b, h => ⟨h.1, fun e => h.2.1 e.symm, fun x h1 h2 => (h.2.2 x h1 h2).symm⟩
def BothE (r1 r2 : List RowD) (x : Int) : Prop := EdgeF (labelOf r1) x ∨ EdgeF (labelOf r2) x
structure NextB (r1 r2 : List RowD) (n b : Int) : Prop where
  gt : n < b
  ed : BothE r1 r2 b
  no : ∀ x, n < x → x < b → ¬ BothE r1 r2 x
theorem nextE_spec {r1 r2 : List RowD} (ok1 : RowsOk r1) (ok2 : RowsOk r2) {n : Int} (hn : 0 ≤ n) : match nextE r1 r2 n with
    | none => ∀ x, n < x → ¬ BothE r1 r2 x
    | some b => NextB r1 r2 n b := by
  have h1 := later_next ok1 hn
  have h2 := later_next ok2 hn
  unfold nextE
  cases e1 : laterEdge (spansFrom 0 none r1) n with
  | none =>
    rw [e1] at h1
    have h1 : ∀ x, n < x → ¬ EdgeF (labelOf r1) x := h1
    cases e2 : laterEdge (spansFrom 0 none r2) n with
    | none =>
      rw [e2] at h2
      have h2 : ∀ x, n < x → ¬ EdgeF (labelOf r2) x := h2
      exact fun x hx z => z.elim (h1 x hx) (h2 x hx)
    | some b =>
      rw [e2] at h2
      have h2 : NextE (labelOf r2) n b := h2
      exact ⟨h2.gt, Or.inr h2.ed, fun x a b z => z.elim (h1 x a) (h2.no x a b)⟩
  | some a =>
    rw [e1] at h1
    have h1 : NextE (labelOf r1) n a := h1
    cases e2 : laterEdge (spansFrom 0 none r2) n with
    | none =>
      rw [e2] at h2
      have h2 : ∀ x, n < x → ¬ EdgeF (labelOf r2) x := h2
      exact ⟨h1.gt, Or.inl h1.ed, fun x a b z => z.elim (h1.no x a b) (h2 x a)⟩
    | some b =>
      rw [e2] at h2
      have h2 : NextE (labelOf r2) n b := h2
      have g1 := h1.gt
      have g2 := h2.gt
      show NextB r1 r2 n (if W.DatumOrd.lt b a = true then b else a)
      have hlt : (W.DatumOrd.lt b a = true) ↔ b < a := by
        show (decide (b < a) = true) ↔ b < a
        simp
      by_cases c : b < a
      · rw [if_pos (hlt.mpr c)]
        exact ⟨g2, Or.inr h2.ed, fun x y z w => w.elim (h1.no x y (by omega)) (h2.no x y z)⟩
      · rw [if_neg fun z => c (hlt.mp z)]
        exact ⟨g1, Or.inl h1.ed, fun x y z w => w.elim (h1.no x y z) (h2.no x y (by omega))⟩
theorem lab_same {lab : Int → Lab} {a : Int} (h0 : 0 ≤ a) : ∀ (k : Nat), (∀ y, a < y → y ≤ a + k → ¬ EdgeF lab y) → lab (a + k) = lab a
  | 0, _ => by rw [show a + ((0 : Nat) : Int) = a by omega]
  | k + 1, h => by
    rw [← lab_same h0 k fun y h1 h2 => h y h1 (by omega)]
    exact Classical.byContradiction fun q => h (a + ((k + 1 : Nat) : Int)) (by omega) (Int.le_refl _) ⟨by omega, by rw [show a + ((k + 1 : Nat) : Int) - 1 = a + (k : Int) by omega]; exact q⟩
theorem lab_same2 {lab : Int → Lab} {a x : Int} (h0 : 0 ≤ a) (hx : a ≤ x) (h : ∀ y, a < y → y ≤ x → ¬ EdgeF lab y) : lab x = lab a := by
  have := lab_same (lab := lab) h0 (x - a).toNat fun y h1 h2 => h y h1 (by omega)
  rw [show a + (((x - a).toNat : Nat) : Int) = x by omega] at this
  exact this
section
variable {r1 r2 : List RowD}
theorem like_run {a b : Int} (h0 : 0 ≤ a) (e : labelOf r1 a = labelOf r2 a) (hno : ∀ x, a < x → x < b → ¬ BothE r1 r2 x) : ∀ x, a ≤ x → x < b → labelOf r1 x = labelOf r2 x := fun x h1 h2 => by
  rw [lab_same2 (lab := labelOf r1) h0 h1 fun y g1 g2 z => hno y g1 (by omega) (Or.inl z), lab_same2 (lab := labelOf r2) h0 h1 fun y g1 g2 z => hno y g1 (by omega) (Or.inr z)]
  exact e
theorem like_edges {a : Int} (h1 : labelOf r1 a = labelOf r2 a) (h2 : labelOf r1 (a - 1) = labelOf r2 (a - 1)) (h : BothE r1 r2 a) : EdgeF (labelOf r1) a ∧ EdgeF (labelOf r2) a := by
  rcases h with h | h
  · exact ⟨h, h.1, by rw [← h1, ← h2]; exact h.2⟩
  · exact ⟨⟨h.1, by rw [h1, h2]; exact h.2⟩, h⟩
/-- two rows with the same word, the same count at a, and the same two edges that follow one another -/
theorem seg_like {s : Int} {e : Option Int} {w1 w2 : RowD} (S1 : Sg (labelOf r1) s e w1) (S2 : Sg (labelOf r2) s e w2) {a b : Int} (ha : s < a) (hab : a < b) (hb : Inr e b) (la : labelOf r1 a = labelOf r2 a) (a1 : EdgeF (labelOf r1) a) (b1 : EdgeF (labelOf r1) b) (a2 : EdgeF (labelOf r2) a) (b2 : EdgeF (labelOf r2) b) (hno : ∀ x, a < x → x < b → ¬ BothE r1 r2 x) {n : Int} (hn : s ≤ n) (hi : Inr e n) : labelOf r1 n = labelOf r2 n := by
  have ia := hb.le (show a ≤ b by omega)
  obtain ⟨u1, hu1⟩ := S1.has ha ia a1
  obtain ⟨u2, hu2⟩ := S2.has ha ia a2
  have t1 := S1.two hu1 ha hab hb a1 b1 fun x h1 h2 z => hno x h1 h2 (Or.inl z)
  have t2 := S2.two hu2 ha hab hb a2 b2 fun x h1 h2 z => hno x h1 h2 (Or.inr z)
  obtain rfl : u1 = u2 := by omega
  have u0 := S1.un u1 hu1
  rw [S1.lb a (by omega) ia, S2.lb a (by omega) ia, cntO_some hu1, cntO_some hu2] at la
  have hw : w1.word = w2.word := congrArg Prod.fst la
  have hc : cnt a u1 w1.way = cnt a u1 w2.way := Option.some.inj (congrArg Prod.snd la)
  have ed : ∀ {lab : Int → Lab} {w : RowD} (S : Sg lab s e w), w.unit = some u1 → EdgeF lab a → a = fst (cnt a u1 w.way) u1 w.way := fun {lab w} S hu h => by
    obtain ⟨c, hc⟩ := (S.som hu ha ia).mp h
    have h1 := (cnt_ge (n := a) (c := c) (w := w.way) u0).mpr (by omega)
    have h2 := (cnt_ge (n := a) (c := cnt a u1 w.way) (w := w.way) u0).mp (Int.le_refl _)
    have h3 : c * u1 ≤ cnt a u1 w.way * u1 := Int.mul_le_mul_of_nonneg_right h1 (by omega)
    unfold fst at hc h2 ⊢
    omega
  have f1 := ed S1 hu1 a1
  have f2 := ed S2 hu2 a2
  rw [hc] at f1
  have hs : shiftOf u1 w1.way = shiftOf u1 w2.way := by
    unfold fst at f1 f2
    omega
  have hcn : cnt n u1 w1.way = cnt n u1 w2.way := by
    have g1 := (cnt_ge (n := n) (c := cnt n u1 w1.way) (w := w1.way) u0).mp (Int.le_refl _)
    have g2 := (cnt_ge (n := n) (c := cnt n u1 w2.way) (w := w2.way) u0).mp (Int.le_refl _)
    have g3 := (cnt_ge (n := n) (c := cnt n u1 w1.way) (w := w2.way) u0).mpr (by unfold fst at g1 ⊢; omega)
    have g4 := (cnt_ge (n := n) (c := cnt n u1 w2.way) (w := w1.way) u0).mpr (by unfold fst at g2 ⊢; omega)
    omega
  rw [S1.lb n hn hi, S2.lb n hn hi, cntO_some hu1, cntO_some hu2, hw, hcn]
theorem tries_spec (ok1 : RowsOk r1) (ok2 : RowsOk r2) {s : Int} {e : Option Int} {w1 w2 : RowD} (S1 : Sg (labelOf r1) s e w1) (S2 : Sg (labelOf r2) s e w2) : match (triesOf r1 r2 s).find? (fun a => !decide (labelOf r1 a = labelOf r2 a)) with
    | some b => s ≤ b ∧ labelOf r1 b ≠ labelOf r2 b ∧ ∀ x, s ≤ x → x < b → labelOf r1 x = labelOf r2 x
    | none => ∀ x, s ≤ x → Inr e x → labelOf r1 x = labelOf r2 x := by
  have s0 := S1.s0
  unfold triesOf
  by_cases q0 : labelOf r1 s = labelOf r2 s
  · rw [List.find?_cons_of_neg (by simpa using q0)]
    have n1 := nextE_spec ok1 ok2 s0
    cases e1 : nextE r1 r2 s with
    | none =>
      rw [e1] at n1
      exact fun x hx _ => like_run s0 q0 (b := x + 1) (fun y h1 _ => n1 y h1) x hx (by omega)
    | some a =>
      rw [e1] at n1
      have n1 : NextB r1 r2 s a := n1
      have g1 := n1.gt
      have run1 := like_run s0 q0 n1.no
      dsimp only
      by_cases q1 : labelOf r1 a = labelOf r2 a
      · rw [List.find?_cons_of_neg (by simpa using q1)]
        have n2 := nextE_spec ok1 ok2 (n := a) (by omega)
        cases e2 : nextE r1 r2 a with
        | none =>
          rw [e2] at n2
          intro x hx _
          rcases Int.lt_or_le x a with z | z
          · exact run1 x hx z
          · exact like_run (by omega) q1 (b := x + 1) (fun y h1 _ => n2 y h1) x z (by omega)
        | some b =>
          rw [e2] at n2
          have n2 : NextB r1 r2 a b := n2
          have g2 := n2.gt
          have run2 := like_run (show 0 ≤ a by omega) q1 n2.no
          have run : ∀ x, s ≤ x → x < b → labelOf r1 x = labelOf r2 x := fun x h1 h2 => by
            rcases Int.lt_or_le x a with z | z
            · exact run1 x h1 z
            · exact run2 x z h2
          show match List.find? _ [b] with
            | some b => _
            | none => _
          by_cases q2 : labelOf r1 b = labelOf r2 b
          · rw [List.find?_cons_of_neg (by simpa using q2)]
            intro x hx hi
            rcases Int.lt_or_le x b with z | z
            · exact run x hx z
            · have ib : Inr e b := hi.le z
              have d1 := like_edges q1 (run1 (a - 1) (by omega) (by omega)) n1.ed
              have d2 := like_edges q2 (run2 (b - 1) (by omega) (by omega)) n2.ed
              exact seg_like S1 S2 g1 g2 ib q1 d1.1 d2.1 d1.2 d2.2 n2.no hx hi
          · rw [List.find?_cons_of_pos (by simpa using q2)]
            exact ⟨by omega, q2, run⟩
      · rw [List.find?_cons_of_pos (by simpa using q1)]
        exact ⟨by omega, q1, run1⟩
  · rw [List.find?_cons_of_pos (by simpa using q0)]
    exact ⟨Int.le_refl _, q0, fun x h1 h2 => by omega⟩
theorem alike_list (ok1 : RowsOk r1) (ok2 : RowsOk r2) : ∀ (ms : List Int) (s : Int), (s :: ms).Pairwise (· < ·) → (∀ l ∈ lows r1 ++ lows r2, s < l → l ∈ ms) → 0 ≤ s → (∀ x, 0 ≤ x → x < s → labelOf r1 x = labelOf r2 x) → UnlikeO r1 r2 (alikeL r1 r2 (s :: ms))
  | ms, s, hp, hin, hs, hcl => by
    have hno : ∀ l ∈ lows r1 ++ lows r2, s < l → ∃ x, ms.head? = some x ∧ x ≤ l := fun l hl hsl => by
      have := hin l hl hsl
      cases ms with
      | nil => cases this
      | cons y ys =>
        refine ⟨y, rfl, ?_⟩
        rcases List.mem_cons.mp this with z | z
        · omega
        · have := (List.pairwise_cons.mp (List.pairwise_cons.mp hp).2).1 l z
          omega
    obtain ⟨w1, S1⟩ := seg_row ok1 hs (e := ms.head?) fun l hl => hno l (List.mem_append_left _ hl)
    obtain ⟨w2, S2⟩ := seg_row ok2 hs (e := ms.head?) fun l hl => hno l (List.mem_append_right _ hl)
    have st := tries_spec ok1 ok2 S1 S2
    unfold alikeL
    rw [List.flatMap_cons, List.find?_append]
    cases hm : (triesOf r1 r2 s).find? (fun a => !decide (labelOf r1 a = labelOf r2 a)) with
    | some b =>
      rw [hm] at st
      have st : s ≤ b ∧ labelOf r1 b ≠ labelOf r2 b ∧ ∀ x, s ≤ x → x < b → labelOf r1 x = labelOf r2 x := st
      refine ⟨by omega, st.2.1, fun x h1 h2 => ?_⟩
      rcases Int.lt_or_le x s with z | z
      · exact hcl x h1 z
      · exact st.2.2 x z h2
    | none =>
      rw [hm] at st
      have st : ∀ x, s ≤ x → Inr ms.head? x → labelOf r1 x = labelOf r2 x := st
      rw [Option.none_or]
      cases ms with
      | nil =>
        intro x hx
        rcases Int.lt_or_le x s with z | z
        · exact hcl x hx z
        · exact st x z fun y hy => by cases hy
      | cons y ys =>
        have hp2 := List.pairwise_cons.mp hp
        have hsy := hp2.1 y List.mem_cons_self
        refine alike_list ok1 ok2 ys y hp2.2 (fun l hl hyl => ?_) (by omega) fun x hx hxy => ?_
        · rcases List.mem_cons.mp (hin l hl (by omega)) with z | z
          · omega
          · exact z
        · rcases Int.lt_or_le x s with z | z
          · exact hcl x hx z
          · exact st x z fun v hv => by cases hv; exact hxy
theorem alike_spec (ok1 : RowsOk r1) (ok2 : RowsOk r2) {ms : List Int} (hp : ms.Pairwise (· < ·)) (hm : ∀ k, k ∈ ms ↔ k ∈ lows r1 ++ lows r2) : UnlikeO r1 r2 (alikeL r1 r2 ms) := by
  have h0 : (0 : Int) ∈ ms := (hm 0).mpr (List.mem_append_left _ (low_0 _ ok1.u.ne))
  have hge : ∀ l ∈ ms, 0 ≤ l := fun l hl => by
    rcases List.mem_append.mp ((hm l).mp hl) with z | z
    · exact low_ge ok1 l z
    · exact low_ge ok2 l z
  cases ms with
  | nil => cases h0
  | cons s rest =>
    have hs := hge s List.mem_cons_self
    refine alike_list ok1 ok2 rest s hp (fun l hl hsl => ?_) hs fun x hx hxs => ?_
    · rcases List.mem_cons.mp ((hm l).mpr hl) with z | z
      · omega
      · exact z
    · have hs0 : s ≤ 0 := by
        rcases List.mem_cons.mp h0 with z | z
        · omega
        · have := (List.pairwise_cons.mp hp).1 0 z; omega
      omega
/-- the premises of alike's promise -/
theorem nextE_bnd (ok1 : RowsOk r1) (ok2 : RowsOk r2) {M : Int} (hM : 0 ≤ M) (b1 : BndG M r1) (b2 : BndG M r2) {n b : Int} (hn : 0 ≤ n) (h : nextE r1 r2 n = some b) : n < b ∧ b ≤ n + 2 * M := by
  have hs := nextE_spec ok1 ok2 hn
  rw [h] at hs
  have hs : NextB r1 r2 n b := hs
  refine ⟨hs.gt, ?_⟩
  have key : ∀ {rows : List RowD}, RowsOk rows → BndG M rows → EdgeF (labelOf rows) b → (∀ x, n < x → x < b → ¬ EdgeF (labelOf rows) x) → b ≤ n + 2 * M := fun {rows} ok bd hE hno => by
    have h1 := later_next ok hn
    cases hl : laterEdge (spansFrom 0 none rows) n with
    | none => rw [hl] at h1; exact absurd hE (h1 b hs.gt)
    | some c =>
      rw [hl] at h1
      have h1 : NextE (labelOf rows) n c := h1
      have := later_upG hM hn (spans_bndG bd ⟨Int.le_refl _, hM⟩) hl
      rcases Int.lt_or_le c b with z | z
      · exact absurd h1.ed (hno c h1.gt z)
      · omega
  rcases hs.ed with z | z
  · exact key ok1 b1 z fun x h1 h2 q => hs.no x h1 h2 (Or.inl q)
  · exact key ok2 b2 z fun x h1 h2 q => hs.no x h1 h2 (Or.inr q)
theorem alike_bnd (ok1 : RowsOk r1) (ok2 : RowsOk r2) (b1 : BndG M25 r1) (b2 : BndG M25 r2) : (∀ st ∈ lows r1 ++ lows r2, Ag st ∧ ∀ b, nextE r1 r2 st = some b → Ag b) ∧ ∀ st ∈ lows r1 ++ lows r2, ∀ a ∈ triesOf r1 r2 st, 0 ≤ a := by
  have hl : ∀ st ∈ lows r1 ++ lows r2, 0 ≤ st ∧ st ≤ M25 := fun st h => by
    rcases List.mem_append.mp h with z | z
    · exact low_bndG (by decide) b1 st z
    · exact low_bndG (by decide) b2 st z
  refine ⟨fun st h => ?_, fun st h a ha => ?_⟩
  · obtain ⟨h0, h1⟩ := hl st h
    have h1 : st ≤ 10000000000000000000000000 := h1
    refine ⟨by unfold Ag; omega, fun b hb => ?_⟩
    obtain ⟨g1, g2⟩ := nextE_bnd ok1 ok2 (by decide) b1 b2 h0 hb
    have g2 : b ≤ st + 2 * 10000000000000000000000000 := g2
    unfold Ag; omega
  · obtain ⟨h0, h1⟩ := hl st h
    unfold triesOf at ha
    rcases List.mem_cons.mp ha with z | z
    · omega
    · cases e1 : nextE r1 r2 st with
      | none => rw [e1] at z; cases z
      | some b =>
        rw [e1] at z
        have g1 := (nextE_bnd ok1 ok2 (by decide) b1 b2 h0 e1).1
        rcases List.mem_cons.mp z with z | z
        · omega
        · have z := Option.mem_toList.mp z
          have := (nextE_bnd ok1 ok2 (by decide) b1 b2 (by omega) z).1
          omega
end
end Age

set_option Elab.async false
set_option linter.all false
set_option maxRecDepth 100000
set_option maxHeartbeats 4000000
/-! K29a: rows split, rows bent, the law's walk -/
namespace Age
open PySem PySem.Spec PyProof.Rows L2 Evl Pu
def wFirstU : PSp := fun xs n Q => ∃ r1 r2 : List RowD, xs = [pRows r1, pRows r2] ∧ RowsOk r1 ∧ RowsOk r2 ∧ BndG 4000 r1 ∧ BndG 4000 r2 ∧ r1.length ≤ 29 ∧ r2.length ≤ 29 ∧ ∀ o, UnlikeO r1 r2 o → Q (pO o) n
/-- what is behind a statement may be taken as anything that goes on from what the statement leaves -/
theorem seq_cut {a b : PTS} {D : PEnds} {ρ : PR} {n : Int} (M : PR → Int → Prop) (hM : ∀ ρ n, M ρ n → b D ρ n) (h : ∀ T : PTS, (∀ ρ n, M ρ n → T D ρ n) → pSeq a T D ρ n) : pSeq a b D ρ n := h b hM
theorem nextE_near {r1 r2 : List RowD} (ok1 : RowsOk r1) (ok2 : RowsOk r2) {w1 w2 : RowD} {L : Int} (S1 : Sg (labelOf r1) L none w1) (S2 : Sg (labelOf r2) L none w2) {uc : Int} (h1 : ∀ u, w1.unit = some u → u ≤ uc) (h2 : ∀ u, w2.unit = some u → u ≤ uc) {n b : Int} (hn : L ≤ n) (h : nextE r1 r2 n = some b) : n < b ∧ b ≤ n + uc := by
  have s0 := S1.s0
  have hs := nextE_spec ok1 ok2 (n := n) (by omega)
  rw [h] at hs
  have hs : NextB r1 r2 n b := hs
  have gt := hs.gt
  refine ⟨gt, ?_⟩
  have inr : ∀ x, Inr none x := fun x y hy => by cases hy
  have key : ∀ {lab : Int → Lab} {w : RowD}, Sg lab L none w → (∀ u, w.unit = some u → u ≤ uc) → EdgeF lab b → (∀ x, n < x → x < b → ¬ EdgeF lab x) → b ≤ n + uc := fun {lab w} S hu hE hno => by
    obtain ⟨u, e⟩ := S.has (by omega) (inr b) hE
    have u0 := S.un u e
    have := hu u e
    have f0 := (cnt_ge (n := n) (c := cnt n u w.way) (w := w.way) u0).mp (Int.le_refl _)
    have f1 : n < fst (cnt n u w.way + 1) u w.way := by
      have := (cnt_ge (n := n) (c := cnt n u w.way + 1) (w := w.way) u0)
      omega
    have f2 : fst (cnt n u w.way + 1) u w.way = fst (cnt n u w.way) u w.way + u := by unfold fst; rw [Int.add_mul, Int.one_mul]; omega
    rcases Int.lt_or_le (fst (cnt n u w.way + 1) u w.way) b with z | z
    · exact absurd ((S.som e (by omega) (inr _)).mpr ⟨_, rfl⟩) (hno _ f1 z)
    · omega
  rcases hs.ed with z | z
  · exact key S1 h1 z fun x g1 g2 q => hs.no x g1 g2 (Or.inl q)
  · exact key S2 h2 z fun x g1 g2 q => hs.no x g1 g2 (Or.inr q)
theorem last_of29 {rows : List RowD} {r : RowD} {L : Int} (h : (rows = [r] ∧ L = 0) ∨ ∃ pre q, rows = pre ++ [q, r] ∧ q.til = some L) : L = 0 ∨ ∃ q ∈ rows, q.til = some L := by
  rcases h with ⟨_, e⟩ | ⟨pre, q, e, hq⟩
  · exact Or.inl e
  · exact Or.inr ⟨q, by rw [e]; simp, hq⟩
/-- the least age of unlike labels is there, and it is not far -/
theorem unlike_ex {r1 r2 : List RowD} (ok1 : RowsOk r1) (ok2 : RowsOk r2) {ut uc : Int} (h0 : 0 ≤ ut) (hc : 0 ≤ uc) (ht1 : ∀ r ∈ r1, ∀ t, r.til = some t → t ≤ ut) (ht2 : ∀ r ∈ r2, ∀ t, r.til = some t → t ≤ ut) (hu1 : ∀ r ∈ r1, ∀ u, r.unit = some u → u ≤ uc) (hu2 : ∀ r ∈ r2, ∀ u, r.unit = some u → u ≤ uc) : ∃ o, UnlikeO r1 r2 o ∧ ∀ b, o = some b → b ≤ ut + 2 * uc := by
  by_cases hs : ∃ x, 0 ≤ x ∧ labelOf r1 x ≠ labelOf r2 x
  · obtain ⟨x, hx0, hx⟩ := hs
    obtain ⟨e, e0, h1, h2⟩ := least_int (P := fun x => labelOf r1 x ≠ labelOf r2 x) hx0 hx
    have h3 : ∀ x, 0 ≤ x → x < e → labelOf r1 x = labelOf r2 x := fun x a b => Classical.byContradiction fun q => h2 x a b q
    obtain ⟨w1, L1, m1, _, l10, hr1, lab1⟩ := last_row ok1
    obtain ⟨w2, L2, m2, _, l20, hr2, lab2⟩ := last_row ok2
    have b1 : L1 ≤ ut := by
      rcases last_of29 hr1 with z | ⟨q, hq, z⟩
      · omega
      · exact ht1 q hq L1 z
    have b2 : L2 ≤ ut := by
      rcases last_of29 hr2 with z | ⟨q, hq, z⟩
      · omega
      · exact ht2 q hq L2 z
    have S1 : Sg (labelOf r1) (max L1 L2) none w1 := ⟨by omega, fun v hv => ((ok1.r w1 m1).1.un v hv).1, fun n hn _ => lab1 n (by omega)⟩
    have S2 : Sg (labelOf r2) (max L1 L2) none w2 := ⟨by omega, fun v hv => ((ok2.r w2 m2).1.un v hv).1, fun n hn _ => lab2 n (by omega)⟩
    refine ⟨some e, ⟨e0, h1, h3⟩, fun b hb => ?_⟩
    cases hb
    rcases Int.lt_or_le (max L1 L2) e with z | z
    · have st := tries_spec ok1 ok2 S1 S2
      cases hf : (triesOf r1 r2 (max L1 L2)).find? (fun a => !decide (labelOf r1 a = labelOf r2 a)) with
      | none =>
        rw [hf] at st
        exact absurd (st e (by omega) fun y hy => by cases hy) h1
      | some b =>
        rw [hf] at st
        have st : max L1 L2 ≤ b ∧ labelOf r1 b ≠ labelOf r2 b ∧ ∀ x, max L1 L2 ≤ x → x < b → labelOf r1 x = labelOf r2 x := st
        have hbe : e ≤ b := by
          rcases Int.lt_or_le b e with q | q
          · exact absurd (h3 b (by omega) q) st.2.1
          · exact q
        have hb := List.mem_of_find?_eq_some hf
        unfold triesOf at hb
        have near := fun (n c : Int) (hn : max L1 L2 ≤ n) (h : nextE r1 r2 n = some c) => nextE_near ok1 ok2 S1 S2 (uc := uc) (fun u hu => hu1 w1 m1 u hu) (fun u hu => hu2 w2 m2 u hu) hn h
        rcases List.mem_cons.mp hb with q | q
        · omega
        · cases e1 : nextE r1 r2 (max L1 L2) with
          | none => rw [e1] at q; cases q
          | some a =>
            rw [e1] at q
            have g1 := near _ _ (Int.le_refl _) e1
            rcases List.mem_cons.mp q with q | q
            · omega
            · have q := Option.mem_toList.mp q
              have := near a b (by omega) q
              omega
    · omega
  · exact ⟨none, fun x hx => Classical.byContradiction fun q => hs ⟨x, hx, q⟩, fun b hb => by cases hb⟩
theorem unlike_sc {r1 r2 : List RowD} {f : Int} (hf : 0 < f) (d1 : Down r1) (d2 : Down r2) : ∀ {o : Option Int}, UnlikeO r1 r2 o → UnlikeO (r1.map (timesR f)) (r2.map (timesR f)) (o.map (· * f)) := by
  have key : ∀ a, (labelOf (r1.map (timesR f)) a = labelOf (r2.map (timesR f)) a) ↔ labelOf r1 (a / f) = labelOf r2 (a / f) := fun a => by
    have hin : In f (a / f) a := ⟨Int.ediv_mul_le a (by omega), Int.lt_ediv_add_one_mul_self a hf⟩
    rw [label_sc hf hin d1, label_sc hf hin d2]
  intro o ho
  cases o with
  | none => exact fun a ha => (key a).mpr (ho (a / f) (Int.ediv_nonneg ha (by omega)))
  | some b =>
    refine ⟨Int.mul_nonneg ho.1 (by omega), fun z => ho.2.1 ?_, fun a ha hab => (key a).mpr (ho.2.2 (a / f) (Int.ediv_nonneg ha (by omega)) (Int.ediv_lt_of_lt_mul hf hab))⟩
    have := (key _).mp z
    rwa [Int.mul_ediv_cancel _ (by omega)] at this
/-- rows as the law makes them out of each other -/
structure Good (M : Int) (rows : List RowD) : Prop where
  u : UOk 0 rows
  b : BndG M rows
  w : ∀ r ∈ rows, PyData.strOk r.word = true
theorem Good.ok {M : Int} {rows : List RowD} (g : Good M rows) (hM : M ≤ 4000) (hl : rows.length ≤ 29) : RowsOk rows ∧ BndG 4000 rows := by
  refine ⟨⟨g.u, fun r hr => ⟨⟨fun u hu => ?_, g.w r hr⟩, fun t ht => ?_⟩, by omega⟩, bnd_mono hM g.b⟩
  · have := (g.b r hr).1 u hu
    exact ⟨this.1, by unfold Ag; omega⟩
  · have := (g.b r hr).2 t ht
    unfold Ag; omega
theorem uok_less {b c : Int} {rows : List RowD} (h : UOk b rows) (hc : c ≤ b) : UOk c rows := by
  cases h with
  | last h => exact .last h
  | more h1 h2 h3 => exact .more h1 (by omega) h3
/-- other rows in the place of one -/
theorem uok_repl : ∀ {rows : List RowD} {b : Int} (k : Nat) (r : RowD), UOk b rows → rows[k]? = some r → ∃ low, b ≤ low ∧ (k = 0 → low = b) ∧ (∀ q, 0 < k → rows[k - 1]? = some q → q.til = some low) ∧ (∀ t, r.til = some t → low < t) ∧ ∀ X : List RowD, (∀ post, UOk low (r :: post) → UOk low (X ++ post)) → UOk b (rows.take k ++ X ++ rows.drop (k + 1))
  | [], b, k, r, h, hk => by simp at hk
  | q :: qs, b, 0, r, h, hk => by
    have e : q = r := by simpa using hk
    subst e
    refine ⟨b, Int.le_refl _, fun _ => rfl, fun _ h => absurd h (by decide), fun t ht => ?_, fun X hX => by simpa using hX qs h⟩
    cases h with
    | last h1 => rw [h1] at ht; cases ht
    | more h1 h2 h3 => rw [h1] at ht; cases ht; exact h2
  | q :: qs, b, k + 1, r, h, hk => by
    cases h with
    | last h1 => simp at hk
    | more h1 h2 h3 =>
      rename_i t
      obtain ⟨low, g1, g2, g3, g4, g5⟩ := uok_repl k r h3 (by simpa using hk)
      refine ⟨low, by omega, fun h => by omega, fun p _ hp => ?_, g4, fun X hX => ?_⟩
      · cases k with
        | zero =>
          have e : q = p := by simpa using hp
          rw [← e, h1, g2 rfl]
        | succ k => exact g3 p (by omega) (by simpa using hp)
      · have := g5 X hX
        simpa using UOk.more h1 h2 this
theorem good_repl {M M' : Int} {rows X : List RowD} {k : Nat} (g : Good M rows) (hM : M ≤ M') (hu : UOk 0 (rows.take k ++ X ++ rows.drop (k + 1))) (hX : ∀ r ∈ X, ((∀ u, r.unit = some u → 0 < u ∧ u ≤ M') ∧ ∀ t, r.til = some t → 0 < t ∧ t ≤ M') ∧ PyData.strOk r.word = true) : Good M' (rows.take k ++ X ++ rows.drop (k + 1)) := by
  have b := bnd_mono hM g.b
  refine ⟨hu, fun r hr => ?_, fun r hr => ?_⟩
  · rcases List.mem_append.mp hr with z | z
    · rcases List.mem_append.mp z with z | z
      · exact b r (List.mem_of_mem_take z)
      · exact (hX r z).1
    · exact b r (List.mem_of_mem_drop z)
  · rcases List.mem_append.mp hr with z | z
    · rcases List.mem_append.mp z with z | z
      · exact g.w r (List.mem_of_mem_take z)
      · exact (hX r z).2
    · exact g.w r (List.mem_of_mem_drop z)
theorem cut_to {α : Type} (f : α → PV) (L : List α) (k : Nat) (hk : k ≤ L.length) : pCut (L.map f) none (some (k : Int)) = (L.take k).map f := by
  unfold pCut
  have h1 : HT.sIx (L.map f).length (L.map f).length (some (k : Int)) = min k (L.map f).length := HT.sIx_nat _ _ k
  rw [h1, HT.sIx_none, List.length_map, Nat.min_eq_left hk, List.drop_zero, Nat.sub_zero, List.map_take]
theorem cut_from {α : Type} (f : α → PV) (L : List α) (k : Nat) (hk : k ≤ L.length) : pCut (L.map f) (some (k : Int)) none = (L.drop k).map f := by
  unfold pCut
  have h1 : HT.sIx (L.map f).length 0 (some (k : Int)) = min k (L.map f).length := HT.sIx_nat _ _ k
  rw [h1, HT.sIx_none, List.length_map, Nat.min_eq_left hk, List.map_drop]
  exact List.take_of_length_le (by rw [List.length_drop, List.length_map]; omega)
theorem atI_at29 {α : Type} {xs : List α} {k : Int} {x : α} (h0 : 0 ≤ k) (h : xs[k.toNat]? = some x) : atI xs k = some x := by
  unfold atI ixN
  have := (List.getElem?_eq_some_iff.mp h).1
  rw [if_pos h0, if_pos (by omega)]
  exact h
theorem tils_map29 (rows : List RowD) : ((rows.filter fun r => r.til.isSome).map fun r => pO r.til) = (rows.filterMap (fun r : RowD => r.til)).map PV.int := by
  induction rows with
  | nil => rfl
  | cons r rs ih =>
    cases hu : r.til with
    | none => rw [List.filter_cons_of_neg (by simp [hu]), List.filterMap_cons_none hu, ih]
    | some v => rw [List.filter_cons_of_pos (by simp [hu]), List.filterMap_cons_some hu, List.map_cons, List.map_cons, ih, hu]; rfl
def wSplit : PSp := fun xs n Q => ∃ (rows : List RowD) (M : Int), xs = [.pen, pRows rows] ∧ Good M rows ∧ 0 ≤ M ∧ M ≤ 2000 ∧ rows.length ≤ 20 ∧ n + 1000 < Big ∧ ∀ R m, Good (M + 40) R → R.length ≤ rows.length + 1 → n ≤ m → m ≤ n + 10 → Q (pRows R) m
def wBent : PSp := fun xs n Q => ∃ (rows : List RowD) (M : Int), xs = [.pen, pRows rows] ∧ Good M rows ∧ 0 ≤ M ∧ M ≤ 2000 ∧ rows.length ≤ 20 ∧ n + 1000 < Big ∧ ∀ R m, Good (M + 40) R → R.length ≤ rows.length + 1 → n ≤ m → m ≤ n + 10 → Q (pRows R) m
section
variable {P : Program} {w : World} {K : PySem.W.Frag} {mg : Str → Option Value} {base : Heap} {cR cS cW : Addr}
theorem ok_split {f : Addr} {fd : FuncData} (F : Fn K "_law_split" "_law_split" s__law_split f fd) (B : Bn mg) (c1 : Cal P w K mg base CX0 1 "_law_draw" ["_law_pen_here", "_law_many"] (lift K wDraw)) : FnOk P w K mg base CX0 2 f fd ["_law_pen_here", "_law_rows_here"] (lift K wSplit) := by
  obtain ⟨f1, fd1, G__law_draw, m__law_draw, k__law_draw, b__law_draw⟩ := c1.ex
  refine okX F sc__law_split (fun xs n Q h => ?_) (fun cdv A outer s H E hr => ⟨_, _, (xss_cons (xs_set (i := 2) sc__law_split.nd rfl (Or.inl rfl) (xe_call G__law_draw (hr.mono (by decide)) rfl m__law_draw k__law_draw b__law_draw (xa_cons (xv 0) (xa_cons (xe_callB xcall_len_seq (by rfl) B.len (by decide +kernel) (xa_cons (xv 1) xa_nil)) xa_nil)))) (xss_cons (xs_set (i := 3) sc__law_split.nd rfl (Or.inl rfl) (xe_ifExp (xt_cmpR xo_gt (xv 2) xe_int (nomark _)) (xe_ix xix_tup (xe_ix xix_list (xv 1) (xe_op xo_sub (xv 2) xe_int) (fun _ _ => rfl)) xe_int (fun _ _ => rfl)) xe_int)) (xss_cons (xs_asg (xe_ix xix_list (xv 1) (xv 2) (fun _ _ => rfl)) (xg_tup (n := 4) rfl (xgs_cons (xg_name (i := 4) sc__law_split.nd rfl (Or.inl rfl)) (xgs_cons (xg_name (i := 5) sc__law_split.nd rfl (Or.inl rfl)) (xgs_cons (xg_name (i := 6) sc__law_split.nd rfl (Or.inl rfl)) (xgs_cons (xg_name (i := 7) sc__law_split.nd rfl (Or.inl rfl)) xgs_nil)))))) (xss_cons (xs_if (xw_pt (xw_and (xt_cmp (xc_notN (xv 4))) (xw_and1 (xt_cmpR xo_lt (xv 4) (xe_op xo_add (xv 3) xe_int) (nomark _))))) (xss_one (xs_ret (xv 1))) xss_nil) (xss_cons (xs_set (i := 8) sc__law_split.nd rfl (Or.inl rfl) (xe_op xo_add (xe_op xo_add (xv 3) xe_int) (xe_call G__law_draw (hr.mono (by decide)) rfl m__law_draw k__law_draw b__law_draw (xa_cons (xv 0) (xa_cons (xe_ifExp (xt_cmp (xc_isN (xv 4))) xe_int (xe_op xo_sub (xe_op xo_sub (xv 4) (xv 3)) xe_int)) xa_nil))))) (xss_one (xs_ret (xe_op xo_cat (xe_op xo_cat (xe_slice xsl_list (xv 1) xpo_none (xpo_some (xv 2))) (xe_lst (xa_cons (xe_tup (xa_cons (xv 8) (xa_cons (xv 5) (xa_cons (xv 6) (xa_cons (xv 7) xa_nil))))) (xa_cons (xe_tup (xa_cons (xv 4) (xa_cons (xv 5) (xa_cons (xv 6) (xa_cons (xv 7) xa_nil))))) xa_nil)))) (xe_slice xsl_list (xv 1) (xpo_some (xe_op xo_add (xv 2) xe_int)) xpo_none))))))))), ?_⟩)
  · obtain ⟨rows, M, rfl, _⟩ := h; rfl
  · rintro _ n Q ⟨rows, M, rfl, g, M0, M1, hl, big, q⟩
    have hlen : (pRows rows).len? = some rows.length := by show some (rows.map pRow).length = _; rw [List.length_map]
    have hne : 0 < rows.length := List.length_pos_iff.mpr g.u.ne
    refine seq_cut (fun ρ m => m = n + 1 ∧ ∃ k : Nat, k < rows.length ∧ ρ = [.fr .pen, .fr (pRows rows), .fr (.int k), .no, .no, .no, .no, .no, .no]) ?tail fun T hT => ?head
    case head =>
      simp only [pStrOf, pCatS, pSortII, pParOwE, pParOwC, pIsi, pListR2, startP, List.map_cons, List.map_nil, List.length_cons, List.length_nil, Nat.reduceAdd, Nat.reduceSub, List.replicate_succ, List.replicate_zero, List.cons_append, List.nil_append, pSeq, pAsg, pAsgV, pPar, pPar3, pIfS, pRet, pRetN, pDrop, pNext, pNever, pSetOw, pSetD, pPutD, pDGet, pInS, pCKw, pSl, pSlL, pNoPart, pPart, piEn, v_od, PV.dic.injEq, pApp, pAppV, pPutI, pAug, pVar, pC, pOp, pUn, pI0, pI, pU, pIsN, pNotN, pNil, pCons, pTup, pLst, pFld, pIxL, pIxT, pEq, pNe, pAndV, pOrV, pNotV, pB, pAnd, pOr, pNot, pYes, pIf, pCB, pLen, pListOf, pTupOf, pMin2, pMax2, pCat, pIsTup, pIntOf, pgName, pgNil, pgCons, pgTup, piL, piT, piR1, piR2, piEn, piEnT,
    g0, g0r, gS, v_fr, v_ow, hid_nil, hid_fr, hid_no, hid_ow, keep_t, keep_f, keep_nil, noOw_nil, noOw_fr, noOw_no, noOw_ow, noL_int, noL_bl, noL_str, noL_non, noL_pO, noL_tup, noLL_nil, noLL_cons, stow_eq, len_tup, len_lst, len_scr, at_nat, at_0, at_1, at_2, at_3, sc_int, sc_bl, sc_str, sc_non, sc_pO, vO_inj, vO_int, int_vO, scal_NN, scal_OO, scal_OI, scal_IO, scal_II, scal_SS, scal_BB, isN_pO, isN_int, isN_bl, isN_str, isN_non, isN_tup, isN_lst, isN_ob, pO_some, pO_none,
    List.set_cons_zero, List.set_cons_succ, List.getElem?_cons_zero, List.getElem?_cons_succ, Option.some.injEq, PV.int.injEq, PV.bl.injEq, PV.str.injEq, PV.lst.injEq, PV.tup.injEq, PS.ow.injEq, PS.fr.injEq, List.cons.injEq, exists_eq_left, exists_eq_left', exists_eq_right, exists_and_left, exists_const, and_true, true_and, reduceCtorEq, false_and, and_false, exists_false, if_true, if_false, Bool.false_eq_true, ↓reduceIte, Bool.or_true, Bool.true_or, Bool.or_false, Bool.false_or, Bool.and_true, Bool.true_and, Bool.not_true, Bool.not_false, ite_true, ite_false, exists_eq, exists_eq', and_assoc, decide_eq_true_eq, V.int.injEq, V.str.injEq, V.bl.injEq, and_self, Nat.reduceLeDiff, exists_eq_right', exists_and_right, Option.isNone_none, Option.isNone_some, pCall]
      exact ⟨_, hlen, _, rfl, by omega, by unfold Sm; omega, by omega, fun k k0 k1 => hT _ _ ⟨rfl, k.toNat, by omega, by rw [Int.toNat_of_nonneg k0]⟩⟩
    case tail =>
    rintro ρ m ⟨rfl, k, hk, rfl⟩
    obtain ⟨r, hr⟩ : ∃ r, rows[k]? = some r := ⟨rows[k], List.getElem?_eq_getElem hk⟩
    obtain ⟨low, l0, l1, l2, l3, l4⟩ := uok_repl k r g.u hr
    have hlM : low ≤ M := by
      rcases Nat.eq_zero_or_pos k with z | z
      · rw [l1 z]; exact M0
      · obtain ⟨q, hq⟩ : ∃ q, rows[k - 1]? = some q := ⟨rows[k - 1], List.getElem?_eq_getElem (by omega)⟩
        exact ((g.b q (List.mem_of_getElem? hq)).2 low (l2 q z hq)).2
    refine seq_cut (fun ρ m => m = n + 1 ∧ ρ = [.fr .pen, .fr (pRows rows), .fr (.int k), .fr (.int low), .no, .no, .no, .no, .no]) ?tail fun T hT => ?head
    case head =>
      simp only [pStrOf, pCatS, pSortII, pParOwE, pParOwC, pIsi, pListR2, startP, List.map_cons, List.map_nil, List.length_cons, List.length_nil, Nat.reduceAdd, Nat.reduceSub, List.replicate_succ, List.replicate_zero, List.cons_append, List.nil_append, pSeq, pAsg, pAsgV, pPar, pPar3, pIfS, pRet, pRetN, pDrop, pNext, pNever, pSetOw, pSetD, pPutD, pDGet, pInS, pCKw, pSl, pSlL, pNoPart, pPart, piEn, v_od, PV.dic.injEq, pApp, pAppV, pPutI, pAug, pVar, pC, pOp, pUn, pI0, pI, pU, pIsN, pNotN, pNil, pCons, pTup, pLst, pFld, pIxL, pIxT, pEq, pNe, pAndV, pOrV, pNotV, pB, pAnd, pOr, pNot, pYes, pIf, pCB, pLen, pListOf, pTupOf, pMin2, pMax2, pCat, pIsTup, pIntOf, pgName, pgNil, pgCons, pgTup, piL, piT, piR1, piR2, piEn, piEnT,
    g0, g0r, gS, v_fr, v_ow, hid_nil, hid_fr, hid_no, hid_ow, keep_t, keep_f, keep_nil, noOw_nil, noOw_fr, noOw_no, noOw_ow, noL_int, noL_bl, noL_str, noL_non, noL_pO, noL_tup, noLL_nil, noLL_cons, stow_eq, len_tup, len_lst, len_scr, at_nat, at_0, at_1, at_2, at_3, sc_int, sc_bl, sc_str, sc_non, sc_pO, vO_inj, vO_int, int_vO, scal_NN, scal_OO, scal_OI, scal_IO, scal_II, scal_SS, scal_BB, isN_pO, isN_int, isN_bl, isN_str, isN_non, isN_tup, isN_lst, isN_ob, pO_some, pO_none,
    List.set_cons_zero, List.set_cons_succ, List.getElem?_cons_zero, List.getElem?_cons_succ, Option.some.injEq, PV.int.injEq, PV.bl.injEq, PV.str.injEq, PV.lst.injEq, PV.tup.injEq, PS.ow.injEq, PS.fr.injEq, List.cons.injEq, exists_eq_left, exists_eq_left', exists_eq_right, exists_and_left, exists_const, and_true, true_and, reduceCtorEq, false_and, and_false, exists_false, if_true, if_false, Bool.false_eq_true, ↓reduceIte, Bool.or_true, Bool.true_or, Bool.or_false, Bool.false_or, Bool.and_true, Bool.true_and, Bool.not_true, Bool.not_false, ite_true, ite_false, exists_eq, exists_eq', and_assoc, decide_eq_true_eq, V.int.injEq, V.str.injEq, V.bl.injEq, and_self, Nat.reduceLeDiff, exists_eq_right', exists_and_right, Option.isNone_none, Option.isNone_some, pCall]
      rcases Nat.eq_zero_or_pos k with z | z
      · rw [if_neg (by omega)]
        rw [l1 z] at hT
        exact hT _ _ ⟨rfl, rfl⟩
      · rw [if_pos (by omega)]
        obtain ⟨q, hq⟩ : ∃ q, rows[k - 1]? = some q := ⟨rows[k - 1], List.getElem?_eq_getElem (by omega)⟩
        refine ⟨_, rfl, pRow q, ?_, _, rfl, pO q.til, rfl, ?_⟩
        · refine atI_at29 (by omega) ?_
          rw [show ((k : Int) - 1).toNat = k - 1 by omega, List.getElem?_map, hq]; rfl
        · rw [l2 q z hq]
          exact hT _ _ ⟨rfl, rfl⟩
    case tail =>
    rintro ρ m ⟨rfl, rfl⟩
    refine seq_cut (fun ρ m => m = n + 1 ∧ ρ = [.fr .pen, .fr (pRows rows), .fr (.int k), .fr (.int low), .fr (pO r.til), .fr (pO r.unit), .fr (.str r.way), .fr (.str r.word), .no]) ?tail fun T hT => ?head
    case head =>
      simp only [pStrOf, pCatS, pSortII, pParOwE, pParOwC, pIsi, pListR2, startP, List.map_cons, List.map_nil, List.length_cons, List.length_nil, Nat.reduceAdd, Nat.reduceSub, List.replicate_succ, List.replicate_zero, List.cons_append, List.nil_append, pSeq, pAsg, pAsgV, pPar, pPar3, pIfS, pRet, pRetN, pDrop, pNext, pNever, pSetOw, pSetD, pPutD, pDGet, pInS, pCKw, pSl, pSlL, pNoPart, pPart, piEn, v_od, PV.dic.injEq, pApp, pAppV, pPutI, pAug, pVar, pC, pOp, pUn, pI0, pI, pU, pIsN, pNotN, pNil, pCons, pTup, pLst, pFld, pIxL, pIxT, pEq, pNe, pAndV, pOrV, pNotV, pB, pAnd, pOr, pNot, pYes, pIf, pCB, pLen, pListOf, pTupOf, pMin2, pMax2, pCat, pIsTup, pIntOf, pgName, pgNil, pgCons, pgTup, piL, piT, piR1, piR2, piEn, piEnT,
    g0, g0r, gS, v_fr, v_ow, hid_nil, hid_fr, hid_no, hid_ow, keep_t, keep_f, keep_nil, noOw_nil, noOw_fr, noOw_no, noOw_ow, noL_int, noL_bl, noL_str, noL_non, noL_pO, noL_tup, noLL_nil, noLL_cons, stow_eq, len_tup, len_lst, len_scr, at_nat, at_0, at_1, at_2, at_3, sc_int, sc_bl, sc_str, sc_non, sc_pO, vO_inj, vO_int, int_vO, scal_NN, scal_OO, scal_OI, scal_IO, scal_II, scal_SS, scal_BB, isN_pO, isN_int, isN_bl, isN_str, isN_non, isN_tup, isN_lst, isN_ob, pO_some, pO_none,
    List.set_cons_zero, List.set_cons_succ, List.getElem?_cons_zero, List.getElem?_cons_succ, Option.some.injEq, PV.int.injEq, PV.bl.injEq, PV.str.injEq, PV.lst.injEq, PV.tup.injEq, PS.ow.injEq, PS.fr.injEq, List.cons.injEq, exists_eq_left, exists_eq_left', exists_eq_right, exists_and_left, exists_const, and_true, true_and, reduceCtorEq, false_and, and_false, exists_false, if_true, if_false, Bool.false_eq_true, ↓reduceIte, Bool.or_true, Bool.true_or, Bool.or_false, Bool.false_or, Bool.and_true, Bool.true_and, Bool.not_true, Bool.not_false, ite_true, ite_false, exists_eq, exists_eq', and_assoc, decide_eq_true_eq, V.int.injEq, V.str.injEq, V.bl.injEq, and_self, Nat.reduceLeDiff, exists_eq_right', exists_and_right, Option.isNone_none, Option.isNone_some, pCall]
      refine ⟨_, rfl, pRow r, by rw [List.getElem?_map, hr]; rfl, _, rfl, rfl, _, _, rfl, _, _, rfl, _, _, rfl, _, _, rfl, rfl, hT _ _ ⟨rfl, rfl⟩⟩
    case tail =>
    rintro ρ m ⟨rfl, rfl⟩
    simp only [pStrOf, pCatS, pSortII, pParOwE, pParOwC, pIsi, pListR2, startP, List.map_cons, List.map_nil, List.length_cons, List.length_nil, Nat.reduceAdd, Nat.reduceSub, List.replicate_succ, List.replicate_zero, List.cons_append, List.nil_append, pSeq, pAsg, pAsgV, pPar, pPar3, pIfS, pRet, pRetN, pDrop, pNext, pNever, pSetOw, pSetD, pPutD, pDGet, pInS, pCKw, pSl, pSlL, pNoPart, pPart, piEn, v_od, PV.dic.injEq, pApp, pAppV, pPutI, pAug, pVar, pC, pOp, pUn, pI0, pI, pU, pIsN, pNotN, pNil, pCons, pTup, pLst, pFld, pIxL, pIxT, pEq, pNe, pAndV, pOrV, pNotV, pB, pAnd, pOr, pNot, pYes, pIf, pCB, pLen, pListOf, pTupOf, pMin2, pMax2, pCat, pIsTup, pIntOf, pgName, pgNil, pgCons, pgTup, piL, piT, piR1, piR2, piEn, piEnT,
    g0, g0r, gS, v_fr, v_ow, hid_nil, hid_fr, hid_no, hid_ow, keep_t, keep_f, keep_nil, noOw_nil, noOw_fr, noOw_no, noOw_ow, noL_int, noL_bl, noL_str, noL_non, noL_pO, noL_tup, noLL_nil, noLL_cons, stow_eq, len_tup, len_lst, len_scr, at_nat, at_0, at_1, at_2, at_3, sc_int, sc_bl, sc_str, sc_non, sc_pO, vO_inj, vO_int, int_vO, scal_NN, scal_OO, scal_OI, scal_IO, scal_II, scal_SS, scal_BB, isN_pO, isN_int, isN_bl, isN_str, isN_non, isN_tup, isN_lst, isN_ob, pO_some, pO_none,
    List.set_cons_zero, List.set_cons_succ, List.getElem?_cons_zero, List.getElem?_cons_succ, Option.some.injEq, PV.int.injEq, PV.bl.injEq, PV.str.injEq, PV.lst.injEq, PV.tup.injEq, PS.ow.injEq, PS.fr.injEq, List.cons.injEq, exists_eq_left, exists_eq_left', exists_eq_right, exists_and_left, exists_const, and_true, true_and, reduceCtorEq, false_and, and_false, exists_false, if_true, if_false, Bool.false_eq_true, ↓reduceIte, Bool.or_true, Bool.true_or, Bool.or_false, Bool.false_or, Bool.and_true, Bool.true_and, Bool.not_true, Bool.not_false, ite_true, ite_false, exists_eq, exists_eq', and_assoc, decide_eq_true_eq, V.int.injEq, V.str.injEq, V.bl.injEq, and_self, Nat.reduceLeDiff, exists_eq_right', exists_and_right, Option.isNone_none, Option.isNone_some, pCall]
    have hb := g.b r (List.mem_of_getElem? hr)
    have hw := g.w r (List.mem_of_getElem? hr)
    have hend : ∀ at_ : Int, low < at_ → at_ ≤ M + 40 → (∀ t, r.til = some t → at_ < t) → ∃ xs, pRows rows = PV.lst xs ∧ (pCut xs none (some (k : Int))).length ≤ 99998 ∧ ∃ xs_1, pRows rows = PV.lst xs_1 ∧ (pCut xs none (some (k : Int)) ++ [PV.tup [PV.int at_, pO r.unit, PV.str r.way, PV.str r.word], PV.tup [pO r.til, pO r.unit, PV.str r.way, PV.str r.word]]).length + (pCut xs_1 (some ((k : Int) + 1)) none).length ≤ 100000 ∧ Q (PV.lst (pCut xs none (some (k : Int)) ++ [PV.tup [PV.int at_, pO r.unit, PV.str r.way, PV.str r.word], PV.tup [pO r.til, pO r.unit, PV.str r.way, PV.str r.word]] ++ pCut xs_1 (some ((k : Int) + 1)) none)) (n + 1 + 1) := fun at_ h1 h2 h3 => by
      have e1 : pCut (rows.map pRow) none (some (k : Int)) = (rows.take k).map pRow := cut_to pRow rows k (by omega)
      have e2 : pCut (rows.map pRow) (some ((k : Int) + 1)) none = (rows.drop (k + 1)).map pRow := cut_from pRow rows (k + 1) (by omega)
      refine ⟨_, rfl, by rw [e1, List.length_map, List.length_take]; omega, _, rfl, ?_, ?_⟩
      · rw [e1, e2, List.length_append, List.length_map, List.length_map, List.length_take, List.length_drop]
        simp only [List.length_cons, List.length_nil]
        omega
      · rw [e1, e2]
        have e3 : (rows.take k).map pRow ++ [PV.tup [PV.int at_, pO r.unit, PV.str r.way, PV.str r.word], PV.tup [pO r.til, pO r.unit, PV.str r.way, PV.str r.word]] ++ (rows.drop (k + 1)).map pRow = (rows.take k ++ [⟨some at_, r.unit, r.way, r.word⟩, r] ++ rows.drop (k + 1)).map pRow := by
          rw [List.map_append, List.map_append]
          rfl
        rw [e3]
        refine q _ _ (good_repl g (by omega) (l4 _ fun post hu => ?_) fun x hx => ?_) ?_ (by omega) (by omega)
        · cases hu with
          | last h => exact .more rfl h1 (.last h)
          | more a1 a2 a3 => exact .more rfl h1 (.more a1 (h3 _ a1) a3)
        · simp only [List.mem_cons, List.not_mem_nil, or_false] at hx
          rcases hx with rfl | rfl
          · exact ⟨⟨fun u hu => by have := hb.1 u hu; omega, fun t ht => by cases ht; omega⟩, hw⟩
          · exact ⟨⟨fun u hu => by have := hb.1 u hu; omega, fun t ht => by have := hb.2 t ht; omega⟩, hw⟩
        · rw [List.length_append, List.length_append, List.length_take, List.length_drop]
          simp only [List.length_cons, List.length_nil]
          omega
    cases ht : r.til with
    | none =>
      rw [ht] at hend
      rw [if_neg (by decide), if_pos (show (none : Option Int).isNone = true from rfl)]
      exact ⟨40, rfl, by decide, by unfold Sm; omega, by omega, fun x x0 x1 => ⟨x, rfl, hend _ (by omega) (by omega) fun t h => by cases h⟩⟩
    | some t =>
      rw [ht] at hend
      have hlt := l3 t ht
      have htM := (hb.2 t ht).2
      rw [if_pos (show (!(some t).isNone) = true from rfl)]
      refine ⟨t, rfl, ?_⟩
      by_cases hc : t < low + 2
      · rw [if_pos hc]
        exact q rows _ ⟨g.u, bnd_mono (by omega) g.b, g.w⟩ (by omega) (by omega) (by omega)
      · rw [if_neg hc, if_neg (show ¬ (some t).isNone = true from fun z => Bool.noConfusion z)]
        exact ⟨t, rfl, _, rfl, by omega, by unfold Sm; omega, by omega, fun x x0 x1 => ⟨x, rfl, hend _ (by omega) (by omega) fun t2 h => by cases h; omega⟩⟩
theorem ok_bent {f : Addr} {fd : FuncData} (F : Fn K "_law_bent" "_law_bent" s__law_bent f fd) (B : Bn mg) (c1 : Cal P w K mg base CX0 1 "_law_draw" ["_law_pen_here", "_law_many"] (lift K wDraw)) (c2 : Cal P w K mg base CX0 2 "_law_pick" ["_law_pen_here", "_law_items"] (lift K wPick)) (c3 : Cal P w K mg base CX0 3 "_law_way" ["_law_pen_here"] (lift K wWay)) : FnOk P w K mg base CX0 4 f fd ["_law_pen_here", "_law_rows_here"] (lift K wBent) := by
  obtain ⟨f1, fd1, G__law_draw, m__law_draw, k__law_draw, b__law_draw⟩ := c1.ex
  obtain ⟨f2, fd2, G__law_pick, m__law_pick, k__law_pick, b__law_pick⟩ := c2.ex
  obtain ⟨f3, fd3, G__law_way, m__law_way, k__law_way, b__law_way⟩ := c3.ex
  refine okX F sc__law_bent (fun xs n Q h => ?_) (fun cdv A outer s H E hr => ⟨_, _, (xss_cons (xs_par (i := 2) (j := 3) (by rfl) sc__law_bent.nd rfl rfl (by decide) rfl rfl (xa_cons (xe_call G__law_draw (hr.mono (by decide)) rfl m__law_draw k__law_draw b__law_draw (xa_cons (xv 0) (xa_cons (xe_callB xcall_len_seq (by rfl) B.len (by decide +kernel) (xa_cons (xv 1) xa_nil)) xa_nil))) (xa_cons (xe_call G__law_draw (hr.mono (by decide)) rfl m__law_draw k__law_draw b__law_draw (xa_cons (xv 0) (xa_cons xe_int xa_nil))) xa_nil)) (by rfl)) (xss_cons (xs_asg (xe_ix xix_list (xv 1) (xv 2) (fun _ _ => rfl)) (xg_tup (n := 4) rfl (xgs_cons (xg_name (i := 4) sc__law_bent.nd rfl (Or.inl rfl)) (xgs_cons (xg_name (i := 5) sc__law_bent.nd rfl (Or.inl rfl)) (xgs_cons (xg_name (i := 6) sc__law_bent.nd rfl (Or.inl rfl)) (xgs_cons (xg_name (i := 7) sc__law_bent.nd rfl (Or.inl rfl)) xgs_nil)))))) (xss_cons (xs_set (i := 8) sc__law_bent.nd rfl (Or.inl rfl) (xe_ifExp (xt_cmpR xo_gt (xv 2) xe_int (nomark _)) (xe_ix xix_tup (xe_ix xix_list (xv 1) (xe_op xo_sub (xv 2) xe_int) (fun _ _ => rfl)) xe_int (fun _ _ => rfl)) xe_int)) (xss_cons (xs_if (xt_cmpR xo_eq (xv 3) xe_int (nomark _)) (xss_one (xs_set (i := 5) sc__law_bent.nd rfl (Or.inl rfl) (xe_call G__law_pick (hr.mono (by decide)) rfl m__law_pick k__law_pick b__law_pick (xa_cons (xv 0) (xa_cons (xe_lst (xa_cons xe_non (xa_cons (xe_op xo_add xe_int (xe_call G__law_draw (hr.mono (by decide)) rfl m__law_draw k__law_draw b__law_draw (xa_cons (xv 0) (xa_cons xe_int xa_nil)))) (xa_cons (xe_ifExp (xt_cmp (xc_isN (xv 5))) xe_int (xe_op xo_add (xv 5) xe_int)) xa_nil)))) xa_nil))))) xss_nil) (xss_cons (xs_if (xt_cmpR xo_eq (xv 3) xe_int (nomark _)) (xss_one (xs_set (i := 6) sc__law_bent.nd rfl (Or.inl rfl) (xe_call G__law_way (hr.mono (by decide)) rfl m__law_way k__law_way b__law_way (xa_cons (xv 0) xa_nil)))) xss_nil) (xss_cons (xs_if (xt_cmpR xo_eq (xv 3) xe_int (nomark _)) (xss_one (xs_set (i := 7) sc__law_bent.nd rfl (Or.inl rfl) (xe_call G__law_pick (hr.mono (by decide)) rfl m__law_pick k__law_pick b__law_pick (xa_cons (xv 0) (xa_cons (xe_lst (xa_cons xe_str (xa_cons xe_str (xa_cons xe_str xa_nil)))) xa_nil))))) xss_nil) (xss_cons (xs_if (xw_pt (xw_and (xt_cmpR xo_eq (xv 3) xe_int (nomark _)) (xw_and1 (xt_cmp (xc_notN (xv 4)))))) (xss_one (xs_set (i := 4) sc__law_bent.nd rfl (Or.inl rfl) (xe_op xo_add (xe_op xo_add (xv 8) xe_int) (xe_call G__law_draw (hr.mono (by decide)) rfl m__law_draw k__law_draw b__law_draw (xa_cons (xv 0) (xa_cons (xe_op xo_sub (xv 4) (xv 8)) xa_nil)))))) xss_nil) (xss_one (xs_ret (xe_op xo_cat (xe_op xo_cat (xe_slice xsl_list (xv 1) xpo_none (xpo_some (xv 2))) (xe_lst (xa_cons (xe_tup (xa_cons (xv 4) (xa_cons (xv 5) (xa_cons (xv 6) (xa_cons (xv 7) xa_nil))))) xa_nil))) (xe_slice xsl_list (xv 1) (xpo_some (xe_op xo_add (xv 2) xe_int)) xpo_none))))))))))), ?_⟩)
  · obtain ⟨rows, M, rfl, _⟩ := h; rfl
  · rintro _ n Q ⟨rows, M, rfl, g, M0, M1, hl, big, q⟩
    have hlen : (pRows rows).len? = some rows.length := by show some (rows.map pRow).length = _; rw [List.length_map]
    have hne : 0 < rows.length := List.length_pos_iff.mpr g.u.ne
    refine seq_cut (fun ρ m => m = n + 2 ∧ ∃ (k : Nat) (so : Int), k < rows.length ∧ ρ = [.fr .pen, .fr (pRows rows), .fr (.int k), .fr (.int so), .no, .no, .no, .no, .no]) ?tail fun T hT => ?head
    case head =>
      simp only [pStrOf, pCatS, pSortII, pParOwE, pParOwC, pIsi, pListR2, startP, List.map_cons, List.map_nil, List.length_cons, List.length_nil, Nat.reduceAdd, Nat.reduceSub, List.replicate_succ, List.replicate_zero, List.cons_append, List.nil_append, pSeq, pAsg, pAsgV, pPar, pPar3, pIfS, pRet, pRetN, pDrop, pNext, pNever, pSetOw, pSetD, pPutD, pDGet, pInS, pCKw, pSl, pSlL, pNoPart, pPart, piEn, v_od, PV.dic.injEq, pApp, pAppV, pPutI, pAug, pVar, pC, pOp, pUn, pI0, pI, pU, pIsN, pNotN, pNil, pCons, pTup, pLst, pFld, pIxL, pIxT, pEq, pNe, pAndV, pOrV, pNotV, pB, pAnd, pOr, pNot, pYes, pIf, pCB, pLen, pListOf, pTupOf, pMin2, pMax2, pCat, pIsTup, pIntOf, pgName, pgNil, pgCons, pgTup, piL, piT, piR1, piR2, piEn, piEnT,
    g0, g0r, gS, v_fr, v_ow, hid_nil, hid_fr, hid_no, hid_ow, keep_t, keep_f, keep_nil, noOw_nil, noOw_fr, noOw_no, noOw_ow, noL_int, noL_bl, noL_str, noL_non, noL_pO, noL_tup, noLL_nil, noLL_cons, stow_eq, len_tup, len_lst, len_scr, at_nat, at_0, at_1, at_2, at_3, sc_int, sc_bl, sc_str, sc_non, sc_pO, vO_inj, vO_int, int_vO, scal_NN, scal_OO, scal_OI, scal_IO, scal_II, scal_SS, scal_BB, isN_pO, isN_int, isN_bl, isN_str, isN_non, isN_tup, isN_lst, isN_ob, pO_some, pO_none,
    List.set_cons_zero, List.set_cons_succ, List.getElem?_cons_zero, List.getElem?_cons_succ, Option.some.injEq, PV.int.injEq, PV.bl.injEq, PV.str.injEq, PV.lst.injEq, PV.tup.injEq, PS.ow.injEq, PS.fr.injEq, List.cons.injEq, exists_eq_left, exists_eq_left', exists_eq_right, exists_and_left, exists_const, and_true, true_and, reduceCtorEq, false_and, and_false, exists_false, if_true, if_false, Bool.false_eq_true, ↓reduceIte, Bool.or_true, Bool.true_or, Bool.or_false, Bool.false_or, Bool.and_true, Bool.true_and, Bool.not_true, Bool.not_false, ite_true, ite_false, exists_eq, exists_eq', and_assoc, decide_eq_true_eq, V.int.injEq, V.str.injEq, V.bl.injEq, and_self, Nat.reduceLeDiff, exists_eq_right', exists_and_right, Option.isNone_none, Option.isNone_some, pCall]
      exact ⟨_, hlen, _, rfl, by omega, by unfold Sm; omega, by omega, fun k k0 k1 => ⟨4, rfl, by decide, by unfold Sm; omega, by omega, fun so s0 s1 => hT _ _ ⟨by omega, k.toNat, so, by omega, by rw [Int.toNat_of_nonneg k0]⟩⟩⟩
    case tail =>
    rintro ρ m ⟨rfl, k, so, hk, rfl⟩
    obtain ⟨r, hr⟩ : ∃ r, rows[k]? = some r := ⟨rows[k], List.getElem?_eq_getElem hk⟩
    obtain ⟨low, l0, l1, l2, l3, l4⟩ := uok_repl k r g.u hr
    have hb := g.b r (List.mem_of_getElem? hr)
    have hw := g.w r (List.mem_of_getElem? hr)
    refine seq_cut (fun ρ m => m = n + 2 ∧ ρ = [.fr .pen, .fr (pRows rows), .fr (.int k), .fr (.int so), .fr (pO r.til), .fr (pO r.unit), .fr (.str r.way), .fr (.str r.word), .no]) ?tail fun T hT => ?head
    case head =>
      simp only [pStrOf, pCatS, pSortII, pParOwE, pParOwC, pIsi, pListR2, startP, List.map_cons, List.map_nil, List.length_cons, List.length_nil, Nat.reduceAdd, Nat.reduceSub, List.replicate_succ, List.replicate_zero, List.cons_append, List.nil_append, pSeq, pAsg, pAsgV, pPar, pPar3, pIfS, pRet, pRetN, pDrop, pNext, pNever, pSetOw, pSetD, pPutD, pDGet, pInS, pCKw, pSl, pSlL, pNoPart, pPart, piEn, v_od, PV.dic.injEq, pApp, pAppV, pPutI, pAug, pVar, pC, pOp, pUn, pI0, pI, pU, pIsN, pNotN, pNil, pCons, pTup, pLst, pFld, pIxL, pIxT, pEq, pNe, pAndV, pOrV, pNotV, pB, pAnd, pOr, pNot, pYes, pIf, pCB, pLen, pListOf, pTupOf, pMin2, pMax2, pCat, pIsTup, pIntOf, pgName, pgNil, pgCons, pgTup, piL, piT, piR1, piR2, piEn, piEnT,
    g0, g0r, gS, v_fr, v_ow, hid_nil, hid_fr, hid_no, hid_ow, keep_t, keep_f, keep_nil, noOw_nil, noOw_fr, noOw_no, noOw_ow, noL_int, noL_bl, noL_str, noL_non, noL_pO, noL_tup, noLL_nil, noLL_cons, stow_eq, len_tup, len_lst, len_scr, at_nat, at_0, at_1, at_2, at_3, sc_int, sc_bl, sc_str, sc_non, sc_pO, vO_inj, vO_int, int_vO, scal_NN, scal_OO, scal_OI, scal_IO, scal_II, scal_SS, scal_BB, isN_pO, isN_int, isN_bl, isN_str, isN_non, isN_tup, isN_lst, isN_ob, pO_some, pO_none,
    List.set_cons_zero, List.set_cons_succ, List.getElem?_cons_zero, List.getElem?_cons_succ, Option.some.injEq, PV.int.injEq, PV.bl.injEq, PV.str.injEq, PV.lst.injEq, PV.tup.injEq, PS.ow.injEq, PS.fr.injEq, List.cons.injEq, exists_eq_left, exists_eq_left', exists_eq_right, exists_and_left, exists_const, and_true, true_and, reduceCtorEq, false_and, and_false, exists_false, if_true, if_false, Bool.false_eq_true, ↓reduceIte, Bool.or_true, Bool.true_or, Bool.or_false, Bool.false_or, Bool.and_true, Bool.true_and, Bool.not_true, Bool.not_false, ite_true, ite_false, exists_eq, exists_eq', and_assoc, decide_eq_true_eq, V.int.injEq, V.str.injEq, V.bl.injEq, and_self, Nat.reduceLeDiff, exists_eq_right', exists_and_right, Option.isNone_none, Option.isNone_some, pCall]
      refine ⟨_, rfl, pRow r, by rw [List.getElem?_map, hr]; rfl, _, rfl, rfl, _, _, rfl, _, _, rfl, _, _, rfl, _, _, rfl, rfl, hT _ _ ⟨rfl, rfl⟩⟩
    case tail =>
    rintro ρ m ⟨rfl, rfl⟩
    have mid : ∀ (m : Int) (so : Int) (til un : Option Int) (wy wd : Str), True := fun _ _ _ _ _ _ => trivial
    clear mid
    refine seq_cut (fun ρ m => m = n + 2 ∧ ρ = [.fr .pen, .fr (pRows rows), .fr (.int k), .fr (.int so), .fr (pO r.til), .fr (pO r.unit), .fr (.str r.way), .fr (.str r.word), .fr (.int low)]) ?tail fun T hT => ?head
    case head =>
      simp only [pStrOf, pCatS, pSortII, pParOwE, pParOwC, pIsi, pListR2, startP, List.map_cons, List.map_nil, List.length_cons, List.length_nil, Nat.reduceAdd, Nat.reduceSub, List.replicate_succ, List.replicate_zero, List.cons_append, List.nil_append, pSeq, pAsg, pAsgV, pPar, pPar3, pIfS, pRet, pRetN, pDrop, pNext, pNever, pSetOw, pSetD, pPutD, pDGet, pInS, pCKw, pSl, pSlL, pNoPart, pPart, piEn, v_od, PV.dic.injEq, pApp, pAppV, pPutI, pAug, pVar, pC, pOp, pUn, pI0, pI, pU, pIsN, pNotN, pNil, pCons, pTup, pLst, pFld, pIxL, pIxT, pEq, pNe, pAndV, pOrV, pNotV, pB, pAnd, pOr, pNot, pYes, pIf, pCB, pLen, pListOf, pTupOf, pMin2, pMax2, pCat, pIsTup, pIntOf, pgName, pgNil, pgCons, pgTup, piL, piT, piR1, piR2, piEn, piEnT,
    g0, g0r, gS, v_fr, v_ow, hid_nil, hid_fr, hid_no, hid_ow, keep_t, keep_f, keep_nil, noOw_nil, noOw_fr, noOw_no, noOw_ow, noL_int, noL_bl, noL_str, noL_non, noL_pO, noL_tup, noLL_nil, noLL_cons, stow_eq, len_tup, len_lst, len_scr, at_nat, at_0, at_1, at_2, at_3, sc_int, sc_bl, sc_str, sc_non, sc_pO, vO_inj, vO_int, int_vO, scal_NN, scal_OO, scal_OI, scal_IO, scal_II, scal_SS, scal_BB, isN_pO, isN_int, isN_bl, isN_str, isN_non, isN_tup, isN_lst, isN_ob, pO_some, pO_none,
    List.set_cons_zero, List.set_cons_succ, List.getElem?_cons_zero, List.getElem?_cons_succ, Option.some.injEq, PV.int.injEq, PV.bl.injEq, PV.str.injEq, PV.lst.injEq, PV.tup.injEq, PS.ow.injEq, PS.fr.injEq, List.cons.injEq, exists_eq_left, exists_eq_left', exists_eq_right, exists_and_left, exists_const, and_true, true_and, reduceCtorEq, false_and, and_false, exists_false, if_true, if_false, Bool.false_eq_true, ↓reduceIte, Bool.or_true, Bool.true_or, Bool.or_false, Bool.false_or, Bool.and_true, Bool.true_and, Bool.not_true, Bool.not_false, ite_true, ite_false, exists_eq, exists_eq', and_assoc, decide_eq_true_eq, V.int.injEq, V.str.injEq, V.bl.injEq, and_self, Nat.reduceLeDiff, exists_eq_right', exists_and_right, Option.isNone_none, Option.isNone_some, pCall]
      rcases Nat.eq_zero_or_pos k with z | z
      · rw [if_neg (by omega)]
        rw [l1 z] at hT
        exact hT _ _ ⟨rfl, rfl⟩
      · rw [if_pos (by omega)]
        obtain ⟨q, hq⟩ : ∃ q, rows[k - 1]? = some q := ⟨rows[k - 1], List.getElem?_eq_getElem (by omega)⟩
        refine ⟨_, rfl, pRow q, ?_, _, rfl, pO q.til, rfl, ?_⟩
        · refine atI_at29 (by omega) ?_
          rw [show ((k : Int) - 1).toNat = k - 1 by omega, List.getElem?_map, hq]; rfl
        · rw [l2 q z hq]
          exact hT _ _ ⟨rfl, rfl⟩
    case tail =>
    rintro ρ m ⟨rfl, rfl⟩
    refine seq_cut (fun ρ m => n + 2 ≤ m ∧ m ≤ n + 6 ∧ ∃ un : Option Int, (∀ u, un = some u → 0 < u ∧ u ≤ M + 40) ∧ ρ = [.fr .pen, .fr (pRows rows), .fr (.int k), .fr (.int so), .fr (pO r.til), .fr (pO un), .fr (.str r.way), .fr (.str r.word), .fr (.int low)]) ?tail fun T hT => ?head
    case head =>
      simp only [pStrOf, pCatS, pSortII, pParOwE, pParOwC, pIsi, pListR2, startP, List.map_cons, List.map_nil, List.length_cons, List.length_nil, Nat.reduceAdd, Nat.reduceSub, List.replicate_succ, List.replicate_zero, List.cons_append, List.nil_append, pSeq, pAsg, pAsgV, pPar, pPar3, pIfS, pRet, pRetN, pDrop, pNext, pNever, pSetOw, pSetD, pPutD, pDGet, pInS, pCKw, pSl, pSlL, pNoPart, pPart, piEn, v_od, PV.dic.injEq, pApp, pAppV, pPutI, pAug, pVar, pC, pOp, pUn, pI0, pI, pU, pIsN, pNotN, pNil, pCons, pTup, pLst, pFld, pIxL, pIxT, pEq, pNe, pAndV, pOrV, pNotV, pB, pAnd, pOr, pNot, pYes, pIf, pCB, pLen, pListOf, pTupOf, pMin2, pMax2, pCat, pIsTup, pIntOf, pgName, pgNil, pgCons, pgTup, piL, piT, piR1, piR2, piEn, piEnT,
    g0, g0r, gS, v_fr, v_ow, hid_nil, hid_fr, hid_no, hid_ow, keep_t, keep_f, keep_nil, noOw_nil, noOw_fr, noOw_no, noOw_ow, noL_int, noL_bl, noL_str, noL_non, noL_pO, noL_tup, noLL_nil, noLL_cons, stow_eq, len_tup, len_lst, len_scr, at_nat, at_0, at_1, at_2, at_3, sc_int, sc_bl, sc_str, sc_non, sc_pO, vO_inj, vO_int, int_vO, scal_NN, scal_OO, scal_OI, scal_IO, scal_II, scal_SS, scal_BB, isN_pO, isN_int, isN_bl, isN_str, isN_non, isN_tup, isN_lst, isN_ob, pO_some, pO_none,
    List.set_cons_zero, List.set_cons_succ, List.getElem?_cons_zero, List.getElem?_cons_succ, Option.some.injEq, PV.int.injEq, PV.bl.injEq, PV.str.injEq, PV.lst.injEq, PV.tup.injEq, PS.ow.injEq, PS.fr.injEq, List.cons.injEq, exists_eq_left, exists_eq_left', exists_eq_right, exists_and_left, exists_const, and_true, true_and, reduceCtorEq, false_and, and_false, exists_false, if_true, if_false, Bool.false_eq_true, ↓reduceIte, Bool.or_true, Bool.true_or, Bool.or_false, Bool.false_or, Bool.and_true, Bool.true_and, Bool.not_true, Bool.not_false, ite_true, ite_false, exists_eq, exists_eq', and_assoc, decide_eq_true_eq, V.int.injEq, V.str.injEq, V.bl.injEq, and_self, Nat.reduceLeDiff, exists_eq_right', exists_and_right, Option.isNone_none, Option.isNone_some, pCall]
      by_cases hs : so = 0
      · rw [if_pos hs]
        refine ⟨30, rfl, by decide, by unfold Sm; omega, by omega, fun x x0 x1 => ⟨x, rfl, ?_⟩⟩
        cases hu : r.unit with
        | none =>
          rw [if_pos (show (none : Option Int).isNone = true from rfl)]
          refine ⟨_, rfl, by simp, by simp, by omega, fun y hy => ?_⟩
          simp only [List.mem_cons, List.not_mem_nil, or_false] at hy
          rcases hy with rfl | rfl | rfl
          · exact hT _ _ ⟨by omega, by omega, none, fun u h => (nomatch h), rfl⟩
          · exact hT _ _ ⟨by omega, by omega, some (1 + x), fun u h => by cases h; omega, rfl⟩
          · exact hT _ _ ⟨by omega, by omega, some 2, fun u h => by cases h; omega, rfl⟩
        | some u =>
          have hu2 := hb.1 u hu
          rw [if_neg (show ¬ (some u).isNone = true from fun z => Bool.noConfusion z)]
          refine ⟨u, rfl, _, rfl, by simp, by simp, by omega, fun y hy => ?_⟩
          simp only [List.mem_cons, List.not_mem_nil, or_false] at hy
          rcases hy with rfl | rfl | rfl
          · exact hT _ _ ⟨by omega, by omega, none, fun u h => (nomatch h), rfl⟩
          · exact hT _ _ ⟨by omega, by omega, some (1 + x), fun u h => by cases h; omega, rfl⟩
          · exact hT _ _ ⟨by omega, by omega, some (u + 1), fun u h => by cases h; omega, rfl⟩
      · rw [if_neg hs]
        exact hT _ _ ⟨by omega, by omega, r.unit, fun u h => by have := hb.1 u h; omega, rfl⟩
    case tail =>
    rintro ρ m ⟨hm0, hm1, un, hun, rfl⟩
    refine seq_cut (fun ρ m => n + 2 ≤ m ∧ m ≤ n + 7 ∧ ∃ wy : Str, ρ = [.fr .pen, .fr (pRows rows), .fr (.int k), .fr (.int so), .fr (pO r.til), .fr (pO un), .fr (.str wy), .fr (.str r.word), .fr (.int low)]) ?tail fun T hT => ?head
    case head =>
      simp only [pStrOf, pCatS, pSortII, pParOwE, pParOwC, pIsi, pListR2, startP, List.map_cons, List.map_nil, List.length_cons, List.length_nil, Nat.reduceAdd, Nat.reduceSub, List.replicate_succ, List.replicate_zero, List.cons_append, List.nil_append, pSeq, pAsg, pAsgV, pPar, pPar3, pIfS, pRet, pRetN, pDrop, pNext, pNever, pSetOw, pSetD, pPutD, pDGet, pInS, pCKw, pSl, pSlL, pNoPart, pPart, piEn, v_od, PV.dic.injEq, pApp, pAppV, pPutI, pAug, pVar, pC, pOp, pUn, pI0, pI, pU, pIsN, pNotN, pNil, pCons, pTup, pLst, pFld, pIxL, pIxT, pEq, pNe, pAndV, pOrV, pNotV, pB, pAnd, pOr, pNot, pYes, pIf, pCB, pLen, pListOf, pTupOf, pMin2, pMax2, pCat, pIsTup, pIntOf, pgName, pgNil, pgCons, pgTup, piL, piT, piR1, piR2, piEn, piEnT,
    g0, g0r, gS, v_fr, v_ow, hid_nil, hid_fr, hid_no, hid_ow, keep_t, keep_f, keep_nil, noOw_nil, noOw_fr, noOw_no, noOw_ow, noL_int, noL_bl, noL_str, noL_non, noL_pO, noL_tup, noLL_nil, noLL_cons, stow_eq, len_tup, len_lst, len_scr, at_nat, at_0, at_1, at_2, at_3, sc_int, sc_bl, sc_str, sc_non, sc_pO, vO_inj, vO_int, int_vO, scal_NN, scal_OO, scal_OI, scal_IO, scal_II, scal_SS, scal_BB, isN_pO, isN_int, isN_bl, isN_str, isN_non, isN_tup, isN_lst, isN_ob, pO_some, pO_none,
    List.set_cons_zero, List.set_cons_succ, List.getElem?_cons_zero, List.getElem?_cons_succ, Option.some.injEq, PV.int.injEq, PV.bl.injEq, PV.str.injEq, PV.lst.injEq, PV.tup.injEq, PS.ow.injEq, PS.fr.injEq, List.cons.injEq, exists_eq_left, exists_eq_left', exists_eq_right, exists_and_left, exists_const, and_true, true_and, reduceCtorEq, false_and, and_false, exists_false, if_true, if_false, Bool.false_eq_true, ↓reduceIte, Bool.or_true, Bool.true_or, Bool.or_false, Bool.false_or, Bool.and_true, Bool.true_and, Bool.not_true, Bool.not_false, ite_true, ite_false, exists_eq, exists_eq', and_assoc, decide_eq_true_eq, V.int.injEq, V.str.injEq, V.bl.injEq, and_self, Nat.reduceLeDiff, exists_eq_right', exists_and_right, Option.isNone_none, Option.isNone_some, pCall]
      by_cases hs : so = 1
      · rw [if_pos hs]
        exact ⟨rfl, by omega, fun s _ => hT _ _ ⟨by omega, by omega, s, rfl⟩⟩
      · rw [if_neg hs]
        exact hT _ _ ⟨by omega, by omega, r.way, rfl⟩
    case tail =>
    rintro ρ m ⟨hm0, hm1, wy, rfl⟩
    refine seq_cut (fun ρ m => n + 2 ≤ m ∧ m ≤ n + 8 ∧ ∃ wd : Str, PyData.strOk wd = true ∧ ρ = [.fr .pen, .fr (pRows rows), .fr (.int k), .fr (.int so), .fr (pO r.til), .fr (pO un), .fr (.str wy), .fr (.str wd), .fr (.int low)]) ?tail fun T hT => ?head
    case head =>
      simp only [pStrOf, pCatS, pSortII, pParOwE, pParOwC, pIsi, pListR2, startP, List.map_cons, List.map_nil, List.length_cons, List.length_nil, Nat.reduceAdd, Nat.reduceSub, List.replicate_succ, List.replicate_zero, List.cons_append, List.nil_append, pSeq, pAsg, pAsgV, pPar, pPar3, pIfS, pRet, pRetN, pDrop, pNext, pNever, pSetOw, pSetD, pPutD, pDGet, pInS, pCKw, pSl, pSlL, pNoPart, pPart, piEn, v_od, PV.dic.injEq, pApp, pAppV, pPutI, pAug, pVar, pC, pOp, pUn, pI0, pI, pU, pIsN, pNotN, pNil, pCons, pTup, pLst, pFld, pIxL, pIxT, pEq, pNe, pAndV, pOrV, pNotV, pB, pAnd, pOr, pNot, pYes, pIf, pCB, pLen, pListOf, pTupOf, pMin2, pMax2, pCat, pIsTup, pIntOf, pgName, pgNil, pgCons, pgTup, piL, piT, piR1, piR2, piEn, piEnT,
    g0, g0r, gS, v_fr, v_ow, hid_nil, hid_fr, hid_no, hid_ow, keep_t, keep_f, keep_nil, noOw_nil, noOw_fr, noOw_no, noOw_ow, noL_int, noL_bl, noL_str, noL_non, noL_pO, noL_tup, noLL_nil, noLL_cons, stow_eq, len_tup, len_lst, len_scr, at_nat, at_0, at_1, at_2, at_3, sc_int, sc_bl, sc_str, sc_non, sc_pO, vO_inj, vO_int, int_vO, scal_NN, scal_OO, scal_OI, scal_IO, scal_II, scal_SS, scal_BB, isN_pO, isN_int, isN_bl, isN_str, isN_non, isN_tup, isN_lst, isN_ob, pO_some, pO_none,
    List.set_cons_zero, List.set_cons_succ, List.getElem?_cons_zero, List.getElem?_cons_succ, Option.some.injEq, PV.int.injEq, PV.bl.injEq, PV.str.injEq, PV.lst.injEq, PV.tup.injEq, PS.ow.injEq, PS.fr.injEq, List.cons.injEq, exists_eq_left, exists_eq_left', exists_eq_right, exists_and_left, exists_const, and_true, true_and, reduceCtorEq, false_and, and_false, exists_false, if_true, if_false, Bool.false_eq_true, ↓reduceIte, Bool.or_true, Bool.true_or, Bool.or_false, Bool.false_or, Bool.and_true, Bool.true_and, Bool.not_true, Bool.not_false, ite_true, ite_false, exists_eq, exists_eq', and_assoc, decide_eq_true_eq, V.int.injEq, V.str.injEq, V.bl.injEq, and_self, Nat.reduceLeDiff, exists_eq_right', exists_and_right, Option.isNone_none, Option.isNone_some, pCall]
      by_cases hs : so = 2
      · rw [if_pos hs]
        refine ⟨_, rfl, by simp, by simp, by omega, fun y hy => ?_⟩
        simp only [List.mem_cons, List.not_mem_nil, or_false] at hy
        rcases hy with rfl | rfl | rfl
        · exact hT _ _ ⟨by omega, by omega, "s", by decide +kernel, rfl⟩
        · exact hT _ _ ⟨by omega, by omega, "m", by decide +kernel, rfl⟩
        · exact hT _ _ ⟨by omega, by omega, "h", by decide +kernel, rfl⟩
      · rw [if_neg hs]
        exact hT _ _ ⟨by omega, by omega, r.word, hw, rfl⟩
    case tail =>
    rintro ρ m ⟨hm0, hm1, wd, hwd, rfl⟩
    refine seq_cut (fun ρ m => n + 2 ≤ m ∧ m ≤ n + 9 ∧ ∃ til : Option Int, (til = r.til ∨ ∃ t t2, r.til = some t ∧ til = some t2 ∧ low < t2 ∧ t2 ≤ t) ∧ ρ = [.fr .pen, .fr (pRows rows), .fr (.int k), .fr (.int so), .fr (pO til), .fr (pO un), .fr (.str wy), .fr (.str wd), .fr (.int low)]) ?tail fun T hT => ?head
    case head =>
      simp only [pStrOf, pCatS, pSortII, pParOwE, pParOwC, pIsi, pListR2, startP, List.map_cons, List.map_nil, List.length_cons, List.length_nil, Nat.reduceAdd, Nat.reduceSub, List.replicate_succ, List.replicate_zero, List.cons_append, List.nil_append, pSeq, pAsg, pAsgV, pPar, pPar3, pIfS, pRet, pRetN, pDrop, pNext, pNever, pSetOw, pSetD, pPutD, pDGet, pInS, pCKw, pSl, pSlL, pNoPart, pPart, piEn, v_od, PV.dic.injEq, pApp, pAppV, pPutI, pAug, pVar, pC, pOp, pUn, pI0, pI, pU, pIsN, pNotN, pNil, pCons, pTup, pLst, pFld, pIxL, pIxT, pEq, pNe, pAndV, pOrV, pNotV, pB, pAnd, pOr, pNot, pYes, pIf, pCB, pLen, pListOf, pTupOf, pMin2, pMax2, pCat, pIsTup, pIntOf, pgName, pgNil, pgCons, pgTup, piL, piT, piR1, piR2, piEn, piEnT,
    g0, g0r, gS, v_fr, v_ow, hid_nil, hid_fr, hid_no, hid_ow, keep_t, keep_f, keep_nil, noOw_nil, noOw_fr, noOw_no, noOw_ow, noL_int, noL_bl, noL_str, noL_non, noL_pO, noL_tup, noLL_nil, noLL_cons, stow_eq, len_tup, len_lst, len_scr, at_nat, at_0, at_1, at_2, at_3, sc_int, sc_bl, sc_str, sc_non, sc_pO, vO_inj, vO_int, int_vO, scal_NN, scal_OO, scal_OI, scal_IO, scal_II, scal_SS, scal_BB, isN_pO, isN_int, isN_bl, isN_str, isN_non, isN_tup, isN_lst, isN_ob, pO_some, pO_none,
    List.set_cons_zero, List.set_cons_succ, List.getElem?_cons_zero, List.getElem?_cons_succ, Option.some.injEq, PV.int.injEq, PV.bl.injEq, PV.str.injEq, PV.lst.injEq, PV.tup.injEq, PS.ow.injEq, PS.fr.injEq, List.cons.injEq, exists_eq_left, exists_eq_left', exists_eq_right, exists_and_left, exists_const, and_true, true_and, reduceCtorEq, false_and, and_false, exists_false, if_true, if_false, Bool.false_eq_true, ↓reduceIte, Bool.or_true, Bool.true_or, Bool.or_false, Bool.false_or, Bool.and_true, Bool.true_and, Bool.not_true, Bool.not_false, ite_true, ite_false, exists_eq, exists_eq', and_assoc, decide_eq_true_eq, V.int.injEq, V.str.injEq, V.bl.injEq, and_self, Nat.reduceLeDiff, exists_eq_right', exists_and_right, Option.isNone_none, Option.isNone_some, pCall]
      by_cases hs : so = 3
      · rw [if_pos hs]
        cases ht : r.til with
        | none =>
          rw [if_neg (by decide)]
          exact hT _ _ ⟨by omega, by omega, none, Or.inl ht.symm, rfl⟩
        | some t =>
          have hlt := l3 t ht
          have htM := (hb.2 t ht).2
          rw [if_pos (show (!(some t).isNone) = true from rfl)]
          refine ⟨t, rfl, _, rfl, by omega, by unfold Sm; omega, by omega, fun x x0 x1 => ⟨x, rfl, ?_⟩⟩
          exact hT _ _ ⟨by omega, by omega, some (low + 1 + x), Or.inr ⟨t, low + 1 + x, ht, rfl, by omega, by omega⟩, rfl⟩
      · rw [if_neg hs]
        exact hT _ _ ⟨by omega, by omega, r.til, Or.inl rfl, rfl⟩
    case tail =>
    rintro ρ m ⟨hm0, hm1, til, htil, rfl⟩
    simp only [pStrOf, pCatS, pSortII, pParOwE, pParOwC, pIsi, pListR2, startP, List.map_cons, List.map_nil, List.length_cons, List.length_nil, Nat.reduceAdd, Nat.reduceSub, List.replicate_succ, List.replicate_zero, List.cons_append, List.nil_append, pSeq, pAsg, pAsgV, pPar, pPar3, pIfS, pRet, pRetN, pDrop, pNext, pNever, pSetOw, pSetD, pPutD, pDGet, pInS, pCKw, pSl, pSlL, pNoPart, pPart, piEn, v_od, PV.dic.injEq, pApp, pAppV, pPutI, pAug, pVar, pC, pOp, pUn, pI0, pI, pU, pIsN, pNotN, pNil, pCons, pTup, pLst, pFld, pIxL, pIxT, pEq, pNe, pAndV, pOrV, pNotV, pB, pAnd, pOr, pNot, pYes, pIf, pCB, pLen, pListOf, pTupOf, pMin2, pMax2, pCat, pIsTup, pIntOf, pgName, pgNil, pgCons, pgTup, piL, piT, piR1, piR2, piEn, piEnT,
    g0, g0r, gS, v_fr, v_ow, hid_nil, hid_fr, hid_no, hid_ow, keep_t, keep_f, keep_nil, noOw_nil, noOw_fr, noOw_no, noOw_ow, noL_int, noL_bl, noL_str, noL_non, noL_pO, noL_tup, noLL_nil, noLL_cons, stow_eq, len_tup, len_lst, len_scr, at_nat, at_0, at_1, at_2, at_3, sc_int, sc_bl, sc_str, sc_non, sc_pO, vO_inj, vO_int, int_vO, scal_NN, scal_OO, scal_OI, scal_IO, scal_II, scal_SS, scal_BB, isN_pO, isN_int, isN_bl, isN_str, isN_non, isN_tup, isN_lst, isN_ob, pO_some, pO_none,
    List.set_cons_zero, List.set_cons_succ, List.getElem?_cons_zero, List.getElem?_cons_succ, Option.some.injEq, PV.int.injEq, PV.bl.injEq, PV.str.injEq, PV.lst.injEq, PV.tup.injEq, PS.ow.injEq, PS.fr.injEq, List.cons.injEq, exists_eq_left, exists_eq_left', exists_eq_right, exists_and_left, exists_const, and_true, true_and, reduceCtorEq, false_and, and_false, exists_false, if_true, if_false, Bool.false_eq_true, ↓reduceIte, Bool.or_true, Bool.true_or, Bool.or_false, Bool.false_or, Bool.and_true, Bool.true_and, Bool.not_true, Bool.not_false, ite_true, ite_false, exists_eq, exists_eq', and_assoc, decide_eq_true_eq, V.int.injEq, V.str.injEq, V.bl.injEq, and_self, Nat.reduceLeDiff, exists_eq_right', exists_and_right, Option.isNone_none, Option.isNone_some, pCall]
    have e1 : pCut (rows.map pRow) none (some (k : Int)) = (rows.take k).map pRow := cut_to pRow rows k (by omega)
    have e2 : pCut (rows.map pRow) (some ((k : Int) + 1)) none = (rows.drop (k + 1)).map pRow := cut_from pRow rows (k + 1) (by omega)
    refine ⟨_, rfl, by rw [e1, List.length_map, List.length_take]; omega, _, rfl, ?_, ?_⟩
    · rw [e1, e2, List.length_append, List.length_map, List.length_map, List.length_take, List.length_drop]
      simp only [List.length_cons, List.length_nil]
      omega
    · rw [e1, e2]
      have e3 : (rows.take k).map pRow ++ [PV.tup [pO til, pO un, PV.str wy, PV.str wd]] ++ (rows.drop (k + 1)).map pRow = (rows.take k ++ [(⟨til, un, wy, wd⟩ : RowD)] ++ rows.drop (k + 1)).map pRow := by
        rw [List.map_append, List.map_append]
        rfl
      rw [e3]
      refine q _ _ (good_repl g (by omega) (l4 _ fun post hu => ?_) fun x hx => ?_) ?_ (by omega) (by omega)
      · rcases htil with e | ⟨t, t2, ht, e, a1, a2⟩
        · subst e
          cases hu with
          | last h => exact .last h
          | more a1 a2 a3 => exact .more a1 a2 a3
        · cases hu with
          | last h => rw [h] at ht; cases ht
          | more b1 b2 b3 =>
            rw [b1] at ht
            cases ht
            exact .more e a1 (uok_less b3 a2)
      · rw [List.mem_singleton.mp hx]
        refine ⟨⟨hun, fun t ht => ?_⟩, hwd⟩
        rcases htil with e | ⟨t1, t2, ht1, e, a1, a2⟩
        · rw [e] at ht
          have := hb.2 t ht
          omega
        · have ht : til = some t := ht
          rw [e] at ht
          cases ht
          have := hb.2 t1 ht1
          omega
      · rw [List.length_append, List.length_append, List.length_take, List.length_drop]
        simp only [List.length_cons, List.length_nil]
        omega
theorem ok_firstU {f : Addr} {fd : FuncData} (F : Fn K "_law_first_unlike" "_law_first_unlike" s__law_first_unlike f fd) (B : Bn mg) (c1 : Cal P w K mg base CX0 2 "_law_label" ["_law_rows_here", "_law_age"] (lift K wLlabel)) : FnOk P w K mg base CX0 3 f fd ["_law_one", "_law_other"] (lift K wFirstU) := by
  obtain ⟨f1, fd1, G__law_label, m__law_label, k__law_label, b__law_label⟩ := c1.ex
  refine okX F sc__law_first_unlike (fun xs n Q h => ?_) (fun cdv A outer s H E hr => ⟨_, _, (xss_cons (xs_setLc (i := 2) (own := [("_law_row", 5)]) rfl sc__law_first_unlike.nd rfl rfl (sw_true rfl rfl rfl (by decide +kernel)) (xi_list (xe_op xo_cat (xv 0) (xv 1))) (blkOk_by (own := [("_law_row", 5)]) (N := ["_law_one", "_law_other", "_law_untils", "_law_counted", "_law_age", "_law_row"]) (sc := defScope s__law_first_unlike) (by decide +kernel)) (fun _ _ _ _ _ => (xg_name (i := 5) sc__law_first_unlike.nd rfl (Or.inl rfl))) (fun _ _ _ _ _ => (xts_one (xt_cmp (xc_notN (xe_ix xix_tup (xv 5) xe_int (fun _ _ => rfl)))))) (fun _ _ _ _ _ => (xe_ix xix_tup (xv 5) xe_int (fun _ _ => rfl)))) (xss_cons (xs_setLc (i := 3) (own := [("_law_row", 5)]) rfl sc__law_first_unlike.nd rfl rfl (sw_true rfl rfl rfl (by decide +kernel)) (xi_list (xe_op xo_cat (xv 0) (xv 1))) (blkOk_by (own := [("_law_row", 5)]) (N := ["_law_one", "_law_other", "_law_untils", "_law_counted", "_law_age", "_law_row"]) (sc := defScope s__law_first_unlike) (by decide +kernel)) (fun _ _ _ _ _ => (xg_name (i := 5) sc__law_first_unlike.nd rfl (Or.inl rfl))) (fun _ _ _ _ _ => (xts_one (xt_cmp (xc_notN (xe_ix xix_tup (xv 5) xe_int (fun _ _ => rfl)))))) (fun _ _ _ _ _ => (xe_ix xix_tup (xv 5) xe_int (fun _ _ => rfl)))) (xss_cons (xs_for [true, true, false, false, false, false] PassesOwn.never rfl (xi_range1 rfl B.range (xa_cons (xe_op xo_add (xe_op xo_add (xe_callB (xcr_max (by rfl)) (by rfl) B.max (by decide +kernel) (xa_cons (xe_op xo_cat (xv 2) (xe_lst (xa_cons xe_int xa_nil))) xa_nil)) (xe_op xo_mulW xe_int (xe_callB (xcr_max (by rfl)) (by rfl) B.max (by decide +kernel) (xa_cons (xe_op xo_cat (xv 3) (xe_lst (xa_cons xe_int xa_nil))) xa_nil)))) xe_int) xa_nil)) (xg_name (i := 4) sc__law_first_unlike.nd rfl (Or.inl rfl)) (xss_one (xs_if (xt_cmpR (xo_neD hr.units) (xe_call G__law_label (hr.mono (by decide)) rfl m__law_label k__law_label b__law_label (xa_cons (xv 0) (xa_cons (xv 4) xa_nil))) (xe_call G__law_label (hr.mono (by decide)) rfl m__law_label k__law_label b__law_label (xa_cons (xv 1) (xa_cons (xv 4) xa_nil))) (nomark _)) (xss_one (xs_ret (xv 4))) xss_nil))) (xss_one (xs_ret xe_non))))), ?_⟩)
  · obtain ⟨r1, r2, rfl, _⟩ := h; rfl
  · rintro _ n Q ⟨r1, r2, rfl, ok1, ok2, b1, b2, h1, h2, q⟩
    simp only [pStrOf, pCatS, pSortII, pParOwE, pParOwC, pIsi, pListR2, startP, List.map_cons, List.map_nil, List.length_cons, List.length_nil, Nat.reduceAdd, Nat.reduceSub, List.replicate_succ, List.replicate_zero, List.cons_append, List.nil_append, pSeq, pAsg, pAsgV, pPar, pPar3, pIfS, pRet, pRetN, pDrop, pNext, pNever, pSetOw, pSetD, pPutD, pDGet, pInS, pCKw, pSl, pSlL, pNoPart, pPart, piEn, v_od, PV.dic.injEq, pApp, pAppV, pPutI, pAug, pVar, pC, pOp, pUn, pI0, pI, pU, pIsN, pNotN, pNil, pCons, pTup, pLst, pFld, pIxL, pIxT, pEq, pNe, pAndV, pOrV, pNotV, pB, pAnd, pOr, pNot, pYes, pIf, pCB, pLen, pListOf, pTupOf, pMin2, pMax2, pCat, pIsTup, pIntOf, pgName, pgNil, pgCons, pgTup, piL, piT, piR1, piR2, piEn, piEnT,
    g0, g0r, gS, v_fr, v_ow, hid_nil, hid_fr, hid_no, hid_ow, keep_t, keep_f, keep_nil, noOw_nil, noOw_fr, noOw_no, noOw_ow, noL_int, noL_bl, noL_str, noL_non, noL_pO, noL_tup, noLL_nil, noLL_cons, stow_eq, len_tup, len_lst, len_scr, at_nat, at_0, at_1, at_2, at_3, sc_int, sc_bl, sc_str, sc_non, sc_pO, vO_inj, vO_int, int_vO, scal_NN, scal_OO, scal_OI, scal_IO, scal_II, scal_SS, scal_BB, isN_pO, isN_int, isN_bl, isN_str, isN_non, isN_tup, isN_lst, isN_ob, pO_some, pO_none,
    List.set_cons_zero, List.set_cons_succ, List.getElem?_cons_zero, List.getElem?_cons_succ, Option.some.injEq, PV.int.injEq, PV.bl.injEq, PV.str.injEq, PV.lst.injEq, PV.tup.injEq, PS.ow.injEq, PS.fr.injEq, List.cons.injEq, exists_eq_left, exists_eq_left', exists_eq_right, exists_and_left, exists_const, and_true, true_and, reduceCtorEq, false_and, and_false, exists_false, if_true, if_false, Bool.false_eq_true, ↓reduceIte, Bool.or_true, Bool.true_or, Bool.or_false, Bool.false_or, Bool.and_true, Bool.true_and, Bool.not_true, Bool.not_false, ite_true, ite_false, exists_eq, exists_eq', and_assoc, decide_eq_true_eq, V.int.injEq, V.str.injEq, V.bl.injEq, and_self, Nat.reduceLeDiff, exists_eq_right', exists_and_right, Option.isNone_none, Option.isNone_some, pFor, pCall]
    have fl : (r1 ++ r2).length ≤ 58 := by rw [List.length_append]; omega
    refine lc_map (L := r1 ++ r2) (e := pRow) (f := fun r => r.til.isSome) (g := fun r => pO r.til) (fun R r => by rw [List.map_append] at r; simp only [pStrOf, pCatS, pSortII, pParOwE, pParOwC, pIsi, pListR2, startP, List.map_cons, List.map_nil, List.length_cons, List.length_nil, Nat.reduceAdd, Nat.reduceSub, List.replicate_succ, List.replicate_zero, List.cons_append, List.nil_append, pSeq, pAsg, pAsgV, pPar, pPar3, pIfS, pRet, pRetN, pDrop, pNext, pNever, pSetOw, pSetD, pPutD, pDGet, pInS, pCKw, pSl, pSlL, pNoPart, pPart, piEn, v_od, PV.dic.injEq, pApp, pAppV, pPutI, pAug, pVar, pC, pOp, pUn, pI0, pI, pU, pIsN, pNotN, pNil, pCons, pTup, pLst, pFld, pIxL, pIxT, pEq, pNe, pAndV, pOrV, pNotV, pB, pAnd, pOr, pNot, pYes, pIf, pCB, pLen, pListOf, pTupOf, pMin2, pMax2, pCat, pIsTup, pIntOf, pgName, pgNil, pgCons, pgTup, piL, piT, piR1, piR2, piEn, piEnT,
    g0, g0r, gS, v_fr, v_ow, hid_nil, hid_fr, hid_no, hid_ow, keep_t, keep_f, keep_nil, noOw_nil, noOw_fr, noOw_no, noOw_ow, noL_int, noL_bl, noL_str, noL_non, noL_pO, noL_tup, noLL_nil, noLL_cons, stow_eq, len_tup, len_lst, len_scr, at_nat, at_0, at_1, at_2, at_3, sc_int, sc_bl, sc_str, sc_non, sc_pO, vO_inj, vO_int, int_vO, scal_NN, scal_OO, scal_OI, scal_IO, scal_II, scal_SS, scal_BB, isN_pO, isN_int, isN_bl, isN_str, isN_non, isN_tup, isN_lst, isN_ob, pO_some, pO_none,
    List.set_cons_zero, List.set_cons_succ, List.getElem?_cons_zero, List.getElem?_cons_succ, Option.some.injEq, PV.int.injEq, PV.bl.injEq, PV.str.injEq, PV.lst.injEq, PV.tup.injEq, PS.ow.injEq, PS.fr.injEq, List.cons.injEq, exists_eq_left, exists_eq_left', exists_eq_right, exists_and_left, exists_const, and_true, true_and, reduceCtorEq, false_and, and_false, exists_false, if_true, if_false, Bool.false_eq_true, ↓reduceIte, Bool.or_true, Bool.true_or, Bool.or_false, Bool.false_or, Bool.and_true, Bool.true_and, Bool.not_true, Bool.not_false, ite_true, ite_false, exists_eq, exists_eq', and_assoc, decide_eq_true_eq, V.int.injEq, V.str.injEq, V.bl.injEq, and_self, Nat.reduceLeDiff, exists_eq_right', exists_and_right, Option.isNone_none, Option.isNone_some]; exact ⟨_, rfl, _, rfl, by rw [List.length_map, List.length_map]; omega, r⟩) (by omega) (fun r hr R q => ?_) ?_
    · simp only [pStrOf, pCatS, pSortII, pParOwE, pParOwC, pIsi, pListR2, startP, List.map_cons, List.map_nil, List.length_cons, List.length_nil, Nat.reduceAdd, Nat.reduceSub, List.replicate_succ, List.replicate_zero, List.cons_append, List.nil_append, pSeq, pAsg, pAsgV, pPar, pPar3, pIfS, pRet, pRetN, pDrop, pNext, pNever, pSetOw, pSetD, pPutD, pDGet, pInS, pCKw, pSl, pSlL, pNoPart, pPart, piEn, v_od, PV.dic.injEq, pApp, pAppV, pPutI, pAug, pVar, pC, pOp, pUn, pI0, pI, pU, pIsN, pNotN, pNil, pCons, pTup, pLst, pFld, pIxL, pIxT, pEq, pNe, pAndV, pOrV, pNotV, pB, pAnd, pOr, pNot, pYes, pIf, pCB, pLen, pListOf, pTupOf, pMin2, pMax2, pCat, pIsTup, pIntOf, pgName, pgNil, pgCons, pgTup, piL, piT, piR1, piR2, piEn, piEnT,
    g0, g0r, gS, v_fr, v_ow, hid_nil, hid_fr, hid_no, hid_ow, keep_t, keep_f, keep_nil, noOw_nil, noOw_fr, noOw_no, noOw_ow, noL_int, noL_bl, noL_str, noL_non, noL_pO, noL_tup, noLL_nil, noLL_cons, stow_eq, len_tup, len_lst, len_scr, at_nat, at_0, at_1, at_2, at_3, sc_int, sc_bl, sc_str, sc_non, sc_pO, vO_inj, vO_int, int_vO, scal_NN, scal_OO, scal_OI, scal_IO, scal_II, scal_SS, scal_BB, isN_pO, isN_int, isN_bl, isN_str, isN_non, isN_tup, isN_lst, isN_ob, pO_some, pO_none,
    List.set_cons_zero, List.set_cons_succ, List.getElem?_cons_zero, List.getElem?_cons_succ, Option.some.injEq, PV.int.injEq, PV.bl.injEq, PV.str.injEq, PV.lst.injEq, PV.tup.injEq, PS.ow.injEq, PS.fr.injEq, List.cons.injEq, exists_eq_left, exists_eq_left', exists_eq_right, exists_and_left, exists_const, and_true, true_and, reduceCtorEq, false_and, and_false, exists_false, if_true, if_false, Bool.false_eq_true, ↓reduceIte, Bool.or_true, Bool.true_or, Bool.or_false, Bool.false_or, Bool.and_true, Bool.true_and, Bool.not_true, Bool.not_false, ite_true, ite_false, exists_eq, exists_eq', and_assoc, decide_eq_true_eq, V.int.injEq, V.str.injEq, V.bl.injEq, and_self, Nat.reduceLeDiff, exists_eq_right', exists_and_right, Option.isNone_none, Option.isNone_some, wipeP_cons, wipeP_nil, pRow]
      cases hh : r.til with
      | none => rw [hh] at q; exact q
      | some t => rw [hh] at q; exact q
    rw [tils_map29]
    refine lc_map (L := r1 ++ r2) (e := pRow) (f := fun r => r.unit.isSome) (g := fun r => pO r.unit) (fun R r => by rw [List.map_append] at r; simp only [pStrOf, pCatS, pSortII, pParOwE, pParOwC, pIsi, pListR2, startP, List.map_cons, List.map_nil, List.length_cons, List.length_nil, Nat.reduceAdd, Nat.reduceSub, List.replicate_succ, List.replicate_zero, List.cons_append, List.nil_append, pSeq, pAsg, pAsgV, pPar, pPar3, pIfS, pRet, pRetN, pDrop, pNext, pNever, pSetOw, pSetD, pPutD, pDGet, pInS, pCKw, pSl, pSlL, pNoPart, pPart, piEn, v_od, PV.dic.injEq, pApp, pAppV, pPutI, pAug, pVar, pC, pOp, pUn, pI0, pI, pU, pIsN, pNotN, pNil, pCons, pTup, pLst, pFld, pIxL, pIxT, pEq, pNe, pAndV, pOrV, pNotV, pB, pAnd, pOr, pNot, pYes, pIf, pCB, pLen, pListOf, pTupOf, pMin2, pMax2, pCat, pIsTup, pIntOf, pgName, pgNil, pgCons, pgTup, piL, piT, piR1, piR2, piEn, piEnT,
    g0, g0r, gS, v_fr, v_ow, hid_nil, hid_fr, hid_no, hid_ow, keep_t, keep_f, keep_nil, noOw_nil, noOw_fr, noOw_no, noOw_ow, noL_int, noL_bl, noL_str, noL_non, noL_pO, noL_tup, noLL_nil, noLL_cons, stow_eq, len_tup, len_lst, len_scr, at_nat, at_0, at_1, at_2, at_3, sc_int, sc_bl, sc_str, sc_non, sc_pO, vO_inj, vO_int, int_vO, scal_NN, scal_OO, scal_OI, scal_IO, scal_II, scal_SS, scal_BB, isN_pO, isN_int, isN_bl, isN_str, isN_non, isN_tup, isN_lst, isN_ob, pO_some, pO_none,
    List.set_cons_zero, List.set_cons_succ, List.getElem?_cons_zero, List.getElem?_cons_succ, Option.some.injEq, PV.int.injEq, PV.bl.injEq, PV.str.injEq, PV.lst.injEq, PV.tup.injEq, PS.ow.injEq, PS.fr.injEq, List.cons.injEq, exists_eq_left, exists_eq_left', exists_eq_right, exists_and_left, exists_const, and_true, true_and, reduceCtorEq, false_and, and_false, exists_false, if_true, if_false, Bool.false_eq_true, ↓reduceIte, Bool.or_true, Bool.true_or, Bool.or_false, Bool.false_or, Bool.and_true, Bool.true_and, Bool.not_true, Bool.not_false, ite_true, ite_false, exists_eq, exists_eq', and_assoc, decide_eq_true_eq, V.int.injEq, V.str.injEq, V.bl.injEq, and_self, Nat.reduceLeDiff, exists_eq_right', exists_and_right, Option.isNone_none, Option.isNone_some]; exact ⟨_, rfl, _, rfl, by rw [List.length_map, List.length_map]; omega, r⟩) (by omega) (fun r hr R q => ?_) ?_
    · simp only [pStrOf, pCatS, pSortII, pParOwE, pParOwC, pIsi, pListR2, startP, List.map_cons, List.map_nil, List.length_cons, List.length_nil, Nat.reduceAdd, Nat.reduceSub, List.replicate_succ, List.replicate_zero, List.cons_append, List.nil_append, pSeq, pAsg, pAsgV, pPar, pPar3, pIfS, pRet, pRetN, pDrop, pNext, pNever, pSetOw, pSetD, pPutD, pDGet, pInS, pCKw, pSl, pSlL, pNoPart, pPart, piEn, v_od, PV.dic.injEq, pApp, pAppV, pPutI, pAug, pVar, pC, pOp, pUn, pI0, pI, pU, pIsN, pNotN, pNil, pCons, pTup, pLst, pFld, pIxL, pIxT, pEq, pNe, pAndV, pOrV, pNotV, pB, pAnd, pOr, pNot, pYes, pIf, pCB, pLen, pListOf, pTupOf, pMin2, pMax2, pCat, pIsTup, pIntOf, pgName, pgNil, pgCons, pgTup, piL, piT, piR1, piR2, piEn, piEnT,
    g0, g0r, gS, v_fr, v_ow, hid_nil, hid_fr, hid_no, hid_ow, keep_t, keep_f, keep_nil, noOw_nil, noOw_fr, noOw_no, noOw_ow, noL_int, noL_bl, noL_str, noL_non, noL_pO, noL_tup, noLL_nil, noLL_cons, stow_eq, len_tup, len_lst, len_scr, at_nat, at_0, at_1, at_2, at_3, sc_int, sc_bl, sc_str, sc_non, sc_pO, vO_inj, vO_int, int_vO, scal_NN, scal_OO, scal_OI, scal_IO, scal_II, scal_SS, scal_BB, isN_pO, isN_int, isN_bl, isN_str, isN_non, isN_tup, isN_lst, isN_ob, pO_some, pO_none,
    List.set_cons_zero, List.set_cons_succ, List.getElem?_cons_zero, List.getElem?_cons_succ, Option.some.injEq, PV.int.injEq, PV.bl.injEq, PV.str.injEq, PV.lst.injEq, PV.tup.injEq, PS.ow.injEq, PS.fr.injEq, List.cons.injEq, exists_eq_left, exists_eq_left', exists_eq_right, exists_and_left, exists_const, and_true, true_and, reduceCtorEq, false_and, and_false, exists_false, if_true, if_false, Bool.false_eq_true, ↓reduceIte, Bool.or_true, Bool.true_or, Bool.or_false, Bool.false_or, Bool.and_true, Bool.true_and, Bool.not_true, Bool.not_false, ite_true, ite_false, exists_eq, exists_eq', and_assoc, decide_eq_true_eq, V.int.injEq, V.str.injEq, V.bl.injEq, and_self, Nat.reduceLeDiff, exists_eq_right', exists_and_right, Option.isNone_none, Option.isNone_some, wipeP_cons, wipeP_nil, pRow]
      cases hh : r.unit with
      | none => rw [hh] at q; exact q
      | some t => rw [hh] at q; exact q
    rw [units_map]
    have mem : ∀ r ∈ r1 ++ r2, (∀ u, r.unit = some u → 0 < u ∧ u ≤ 4000) ∧ ∀ t, r.til = some t → 0 < t ∧ t ≤ 4000 := fun r hr => by
      rcases List.mem_append.mp hr with z | z
      · exact b1 r z
      · exact b2 r z
    obtain ⟨ut, hut, hut2⟩ := max_ex ((r1 ++ r2).filterMap (fun r : RowD => r.til) ++ [0]) (by simp)
    obtain ⟨uc, huc, huc2⟩ := max_ex ((r1 ++ r2).filterMap (fun r : RowD => r.unit) ++ [1]) (by simp)
    have ut0 : 0 ≤ ut := hut2 0 (by simp)
    have uc0 : 1 ≤ uc := huc2 1 (by simp)
    have ut1 : ut ≤ 4000 := by
      rcases List.mem_append.mp hut with z | z
      · obtain ⟨r, hr, hv⟩ := List.mem_filterMap.mp z
        exact ((mem r hr).2 ut hv).2
      · rw [List.mem_singleton.mp z]; decide
    have uc1 : uc ≤ 4000 := by
      rcases List.mem_append.mp huc with z | z
      · obtain ⟨r, hr, hv⟩ := List.mem_filterMap.mp z
        exact ((mem r hr).1 uc hv).2
      · rw [List.mem_singleton.mp z]; decide
    have tl : ∀ r ∈ r1 ++ r2, ∀ t, r.til = some t → t ≤ ut := fun r hr t ht => hut2 t (List.mem_append_left _ (List.mem_filterMap.mpr ⟨r, hr, ht⟩))
    have ul : ∀ r ∈ r1 ++ r2, ∀ u, r.unit = some u → u ≤ uc := fun r hr u hu => huc2 u (List.mem_append_left _ (List.mem_filterMap.mpr ⟨r, hr, hu⟩))
    obtain ⟨o, ho, hob⟩ := unlike_ex ok1 ok2 ut0 (by omega) (fun r hr => tl r (List.mem_append_left _ hr)) (fun r hr => tl r (List.mem_append_right _ hr)) (fun r hr => ul r (List.mem_append_left _ hr)) (fun r hr => ul r (List.mem_append_right _ hr))
    have fl1 : (((r1 ++ r2).filterMap (fun r : RowD => r.til)).map PV.int).length ≤ 99999 := by rw [List.length_map]; have := List.length_filterMap_le (fun r : RowD => r.til) (r1 ++ r2); omega
    have fl2 : (((r1 ++ r2).filterMap (fun r : RowD => r.unit)).map PV.int).length ≤ 99999 := by rw [List.length_map]; have := List.length_filterMap_le (fun r : RowD => r.unit) (r1 ++ r2); omega
    have e1 : ((r1 ++ r2).filterMap (fun r : RowD => r.til)).map PV.int ++ [PV.int 0] = ((r1 ++ r2).filterMap (fun r : RowD => r.til) ++ [0]).map PV.int := by simp
    have e2 : ((r1 ++ r2).filterMap (fun r : RowD => r.unit)).map PV.int ++ [PV.int 1] = ((r1 ++ r2).filterMap (fun r : RowD => r.unit) ++ [1]).map PV.int := by simp
    refine ⟨_, rfl, fl1, ?_⟩
    rw [e1]
    refine ⟨_, rfl, by simp; omega, fun m1 hm1 hm12 => ⟨_, rfl, fl2, ?_⟩⟩
    obtain rfl : m1 = ut := Int.le_antisymm (hut2 m1 hm1) (hm12 ut hut)
    rw [e2]
    refine ⟨_, rfl, by simp; omega, fun m2 hm2 hm22 => ⟨m2, rfl, ?_⟩⟩
    obtain rfl : m2 = uc := Int.le_antisymm (huc2 m2 hm2) (hm22 uc huc)
    obtain ⟨bd, hbd, bd0, bd1⟩ : ∃ bd : Int, m1 + 3 * m2 + 2 = bd ∧ 2 ≤ bd ∧ bd ≤ 100000 := ⟨_, rfl, by omega, by omega⟩
    refine ⟨⟨by unfold Sml; omega, by unfold Sml; omega⟩, m1, rfl, ?_⟩
    rw [hbd]
    refine ⟨by omega, by omega, fun i ρ q => q = n ∧ ρ = [.fr (pRows r1), .fr (pRows r2), .no, .no, .no, .no] ∧ ∀ a : Int, 0 ≤ a → a < i → labelOf r1 a = labelOf r2 a, ⟨rfl, rfl, fun a h0 hs => by omega⟩, ?_, ?_⟩
    · rintro i y ρ q2 hy ⟨rfl, rfl, hno⟩
      obtain ⟨hi, rfl⟩ := rng_inv hy
      simp only [pStrOf, pCatS, pSortII, pParOwE, pParOwC, pIsi, pListR2, startP, List.map_cons, List.map_nil, List.length_cons, List.length_nil, Nat.reduceAdd, Nat.reduceSub, List.replicate_succ, List.replicate_zero, List.cons_append, List.nil_append, pSeq, pAsg, pAsgV, pPar, pPar3, pIfS, pRet, pRetN, pDrop, pNext, pNever, pSetOw, pSetD, pPutD, pDGet, pInS, pCKw, pSl, pSlL, pNoPart, pPart, piEn, v_od, PV.dic.injEq, pApp, pAppV, pPutI, pAug, pVar, pC, pOp, pUn, pI0, pI, pU, pIsN, pNotN, pNil, pCons, pTup, pLst, pFld, pIxL, pIxT, pEq, pNe, pAndV, pOrV, pNotV, pB, pAnd, pOr, pNot, pYes, pIf, pCB, pLen, pListOf, pTupOf, pMin2, pMax2, pCat, pIsTup, pIntOf, pgName, pgNil, pgCons, pgTup, piL, piT, piR1, piR2, piEn, piEnT,
    g0, g0r, gS, v_fr, v_ow, hid_nil, hid_fr, hid_no, hid_ow, keep_t, keep_f, keep_nil, noOw_nil, noOw_fr, noOw_no, noOw_ow, noL_int, noL_bl, noL_str, noL_non, noL_pO, noL_tup, noLL_nil, noLL_cons, stow_eq, len_tup, len_lst, len_scr, at_nat, at_0, at_1, at_2, at_3, sc_int, sc_bl, sc_str, sc_non, sc_pO, vO_inj, vO_int, int_vO, scal_NN, scal_OO, scal_OI, scal_IO, scal_II, scal_SS, scal_BB, isN_pO, isN_int, isN_bl, isN_str, isN_non, isN_tup, isN_lst, isN_ob, pO_some, pO_none,
    List.set_cons_zero, List.set_cons_succ, List.getElem?_cons_zero, List.getElem?_cons_succ, Option.some.injEq, PV.int.injEq, PV.bl.injEq, PV.str.injEq, PV.lst.injEq, PV.tup.injEq, PS.ow.injEq, PS.fr.injEq, List.cons.injEq, exists_eq_left, exists_eq_left', exists_eq_right, exists_and_left, exists_const, and_true, true_and, reduceCtorEq, false_and, and_false, exists_false, if_true, if_false, Bool.false_eq_true, ↓reduceIte, Bool.or_true, Bool.true_or, Bool.or_false, Bool.false_or, Bool.and_true, Bool.true_and, Bool.not_true, Bool.not_false, ite_true, ite_false, exists_eq, exists_eq', and_assoc, decide_eq_true_eq, V.int.injEq, V.str.injEq, V.bl.injEq, and_self, Nat.reduceLeDiff, exists_eq_right', exists_and_right, Option.isNone_none, Option.isNone_some, pCall]
      rw [Int.zero_add]
      refine ⟨r1, _, rfl, ok1, by unfold Sm; omega, r2, _, rfl, ok2, by unfold Sm; omega, lab_neN (label_str ok1 _) (label_str ok2 _) ⟨_, rfl, ?_⟩⟩
      by_cases hh : labelOf r1 (i : Int) = labelOf r2 (i : Int)
      · rw [if_neg (by simpa using hh)]
        refine ⟨rfl, fun a h0 ha => ?_⟩
        by_cases e : a = (i : Int)
        · rw [e]; exact hh
        · exact hno a h0 (by omega)
      · rw [if_pos (by simpa using hh)]
        exact q (some (i : Int)) ⟨by omega, hh, hno⟩
    · rintro ρ q2 ⟨rfl, rfl, hno⟩
      rw [rng_len] at hno
      cases o with
      | none => exact q none ho
      | some b => exact absurd (hno b ho.1 (by have := hob b rfl; omega)) ho.2.1
end
end Age

set_option Elab.async false
set_option linter.all false
set_option maxRecDepth 100000
set_option maxHeartbeats 8000000
/-! K29: the law about wordings that are alike -/
namespace Age
open PySem PySem.Spec PyProof.Rows L2 Evl Pu
theorem good_drawn {ws : List Str} {most : Int} {rows : List RowD} (h : Drawn ws most rows) (hw : ∀ s ∈ ws, PyData.strOk s = true) : Good 600 rows := ⟨h.u, bnd_drawn h, fun r hr => by
  rcases (h.g r hr).wd with z | z
  · exact hw _ z
  · exact strOk_menu _ z⟩
theorem Good.mono {M M' : Int} {rows : List RowD} (g : Good M rows) (h : M ≤ M') : Good M' rows := ⟨g.u, bnd_mono h g.b, g.w⟩
section
variable {P : Program} {w : World} {K : PySem.W.Frag} {mg : Str → Option Value} {base : Heap} {cR cS cW : Addr}
theorem ok_law {f : Addr} {fd : FuncData} (F : Fn K "law" "law" s_law f fd) (T : Tx K mg cR cS cW) (B : Bn mg) (c1 : Cal P w K mg base CX0 1 "_law_pen" ["_law_script"] (spPen K)) (c2 : Cal P w K mg base CX0 4 "_law_rows" ["_law_pen_here", "_law_most", "_law_words"] (lift K wRows))
    (c3 : Cal P w K mg base CX0 2 "_law_pick" ["_law_pen_here", "_law_items"] (lift K wPick)) (c4 : Cal P w K mg base CX0 1 "_law_times" ["_law_rows_here", "_law_factor"] (lift K wTimes)) (c5 : Cal P w K mg base CX0 7 "_law_made" ["_law_rows_here"] (lift K (wMade cR cS cW)))
    (c6 : Cal P w K mg base CX0 2 "_law_split" ["_law_pen_here", "_law_rows_here"] (lift K wSplit)) (c7 : Cal P w K mg base CX0 1 "_law_draw" ["_law_pen_here", "_law_many"] (lift K wDraw)) (c8 : Cal P w K mg base CX0 4 "_law_bent" ["_law_pen_here", "_law_rows_here"] (lift K wBent))
    (c9 : Cal P w K mg base CX0 3 "_law_first_unlike" ["_law_one", "_law_other"] (lift K wFirstU)) (c10 : Cal P w K mg base CX0 8 "alike" ["one", "other"] (lift K (wAlike cR cS cW))) :
    FnOk P w K mg base CX0 10 f fd ["_law_script"] (spLaw K) := by
  obtain ⟨f1, fd1, G__law_pen, m__law_pen, k__law_pen, b__law_pen⟩ := c1.ex
  obtain ⟨f2, fd2, G__law_rows, m__law_rows, k__law_rows, b__law_rows⟩ := c2.ex
  obtain ⟨f3, fd3, G__law_pick, m__law_pick, k__law_pick, b__law_pick⟩ := c3.ex
  obtain ⟨f4, fd4, G__law_times, m__law_times, k__law_times, b__law_times⟩ := c4.ex
  obtain ⟨f5, fd5, G__law_made, m__law_made, k__law_made, b__law_made⟩ := c5.ex
  obtain ⟨f6, fd6, G__law_split, m__law_split, k__law_split, b__law_split⟩ := c6.ex
  obtain ⟨f7, fd7, G__law_draw, m__law_draw, k__law_draw, b__law_draw⟩ := c7.ex
  obtain ⟨f8, fd8, G__law_bent, m__law_bent, k__law_bent, b__law_bent⟩ := c8.ex
  obtain ⟨f9, fd9, G__law_first_unlike, m__law_first_unlike, k__law_first_unlike, b__law_first_unlike⟩ := c9.ex
  obtain ⟨f10, fd10, G_alike, m_alike, k_alike, b_alike⟩ := c10.ex
  refine okLaw F sc_law (by decide) (fun cdv A outer s H E hr => ⟨_, _, (lawBody (ps_set (i := 1) sc_law.nd rfl (Or.inl rfl) (pe_call G__law_pen (hr.mono (by decide)) rfl m__law_pen k__law_pen b__law_pen .nil pass0 (pa_cons (pv 0) pa_nil))) (xss_cons (xs_for [false, true, false, false, false, false, false, false, false, false, false, false] PassesOwn.never rfl (xi_range1 rfl B.range (xa_cons (xe_op xo_add xe_int (xe_callB (xcall_min2 rfl) (by rfl) B.min (by decide +kernel) (xa_cons xe_int (xa_cons (xe_callB xcall_len_seq (by rfl) B.len (by decide +kernel) (xa_cons (xv 0) xa_nil)) xa_nil)))) xa_nil)) (xg_name (i := 2) sc_law.nd rfl (Or.inl rfl)) (xss_cons (xs_set (i := 3) sc_law.nd rfl (Or.inl rfl) (xe_call G__law_rows (hr.mono (by decide)) rfl m__law_rows k__law_rows b__law_rows (xa_cons (xv 1) (xa_cons xe_int (xa_cons (xe_call G__law_pick (hr.mono (by decide)) rfl m__law_pick k__law_pick b__law_pick (xa_cons (xv 1) (xa_cons (xe_lst (xa_cons (xe_lst xa_nil) (xa_cons (xe_lst (xa_cons xe_str (xa_cons xe_str xa_nil))) xa_nil))) xa_nil))) xa_nil))))) (xss_cons (xs_set (i := 4) sc_law.nd rfl (Or.inl rfl) (xe_call G__law_pick (hr.mono (by decide)) rfl m__law_pick k__law_pick b__law_pick (xa_cons (xv 1) (xa_cons (xe_lst (xa_cons (xv 3) (xa_cons (xv 3) (xa_cons (xe_call G__law_split (hr.mono (by decide)) rfl m__law_split k__law_split b__law_split (xa_cons (xv 1) (xa_cons (xv 3) xa_nil))) (xa_cons (xe_call G__law_rows (hr.mono (by decide)) rfl m__law_rows k__law_rows b__law_rows (xa_cons (xv 1) (xa_cons xe_int (xa_cons (xe_lst (xa_cons xe_str (xa_cons xe_str xa_nil))) xa_nil)))) xa_nil))))) xa_nil)))) (xss_cons (xs_for [false, true, false, true, true, false, false, false, false, false, false, false] PassesOwn.never rfl (xi_range1 rfl B.range (xa_cons (xe_call G__law_draw (hr.mono (by decide)) rfl m__law_draw k__law_draw b__law_draw (xa_cons (xv 1) (xa_cons xe_int xa_nil))) xa_nil)) (xg_name (i := 5) sc_law.nd rfl (Or.inl rfl)) (xss_one (xs_set (i := 4) sc_law.nd rfl (Or.inl rfl) (xe_ifExp (xw_pt (xw_and (xt_cmpR xo_lt (xe_callB xcall_len_seq (by rfl) B.len (by decide +kernel) (xa_cons (xv 4) xa_nil)) xe_int (nomark _)) (xw_and1 (xt_cmpR xo_eq (xe_call G__law_draw (hr.mono (by decide)) rfl m__law_draw k__law_draw b__law_draw (xa_cons (xv 1) (xa_cons xe_int xa_nil))) xe_int (nomark _))))) (xe_call G__law_split (hr.mono (by decide)) rfl m__law_split k__law_split b__law_split (xa_cons (xv 1) (xa_cons (xv 4) xa_nil))) (xe_call G__law_bent (hr.mono (by decide)) rfl m__law_bent k__law_bent b__law_bent (xa_cons (xv 1) (xa_cons (xv 4) xa_nil))))))) (xss_cons (xs_set (i := 6) sc_law.nd rfl (Or.inl rfl) (xe_call G__law_first_unlike (hr.mono (by decide)) rfl m__law_first_unlike k__law_first_unlike b__law_first_unlike (xa_cons (xv 3) (xa_cons (xv 4) xa_nil)))) (xss_cons (xs_par (i := 7) (j := 8) (by rfl) sc_law.nd rfl rfl (by decide) rfl rfl (xa_cons (xe_call G__law_made (hr.mono (by decide)) rfl m__law_made k__law_made b__law_made (xa_cons (xv 3) xa_nil)) (xa_cons (xe_call G__law_made (hr.mono (by decide)) rfl m__law_made k__law_made b__law_made (xa_cons (xv 4) xa_nil)) xa_nil)) (by rfl)) (xss_cons (xs_if (xw_pt (xw_or (xt_cmpR (xo_neD hr.units) (xe_call G_alike (hr.mono (by decide)) rfl m_alike k_alike b_alike (xa_cons (xv 7) (xa_cons (xv 8) xa_nil))) (xv 6) (nomark _)) (xw_or (xt_cmpR (xo_neD hr.units) (xe_call G_alike (hr.mono (by decide)) rfl m_alike k_alike b_alike (xa_cons (xv 8) (xa_cons (xv 7) xa_nil))) (xv 6) (nomark _)) (xw_or1 (xt_cmp (xc_notN (xe_call G_alike (hr.mono (by decide)) rfl m_alike k_alike b_alike (xa_cons (xv 7) (xa_cons (xe_call G__law_made (hr.mono (by decide)) rfl m__law_made k__law_made b__law_made (xa_cons (xv 3) xa_nil)) xa_nil))))))))) (xss_one (xs_ret xe_bl)) xss_nil) (xss_cons (xs_set (i := 9) sc_law.nd rfl (Or.inl rfl) (xe_call G__law_pick (hr.mono (by decide)) rfl m__law_pick k__law_pick b__law_pick (xa_cons (xv 1) (xa_cons (xe_lst (xa_cons xe_int (xa_cons (xe_op xo_pow xe_int xe_int) xa_nil))) xa_nil)))) (xss_cons (xs_setLc (i := 3) (own := [("_law_row", 11)]) rfl sc_law.nd rfl rfl (sw_true rfl rfl rfl (by decide +kernel)) (xi_list (xv 3)) (blkOk_by (own := [("_law_row", 11)]) (N := ["_law_script", "_law_pen_here", "_law_turn", "_law_one", "_law_other", "_law_change", "_law_due", "_law_mine", "_law_yours", "_law_factor", "_law_great", "_law_row"]) (sc := defScope s_law) (by decide +kernel)) (fun _ _ _ _ _ => (xg_name (i := 11) sc_law.nd rfl (Or.inl rfl))) (fun _ _ _ _ _ => xts_nil) (fun _ _ _ _ _ => (xe_tup (xa_cons (xe_ix xix_tup (xv 11) xe_int (fun _ _ => rfl)) (xa_cons (xe_ix xix_tup (xv 11) xe_int (fun _ _ => rfl)) (xa_cons xe_str (xa_cons (xe_ix xix_tup (xv 11) xe_int (fun _ _ => rfl)) xa_nil))))))) (xss_cons (xs_setLc (i := 4) (own := [("_law_row", 11)]) rfl sc_law.nd rfl rfl (sw_true rfl rfl rfl (by decide +kernel)) (xi_list (xv 4)) (blkOk_by (own := [("_law_row", 11)]) (N := ["_law_script", "_law_pen_here", "_law_turn", "_law_one", "_law_other", "_law_change", "_law_due", "_law_mine", "_law_yours", "_law_factor", "_law_great", "_law_row"]) (sc := defScope s_law) (by decide +kernel)) (fun _ _ _ _ _ => (xg_name (i := 11) sc_law.nd rfl (Or.inl rfl))) (fun _ _ _ _ _ => xts_nil) (fun _ _ _ _ _ => (xe_tup (xa_cons (xe_ix xix_tup (xv 11) xe_int (fun _ _ => rfl)) (xa_cons (xe_ix xix_tup (xv 11) xe_int (fun _ _ => rfl)) (xa_cons xe_str (xa_cons (xe_ix xix_tup (xv 11) xe_int (fun _ _ => rfl)) xa_nil))))))) (xss_cons (xs_set (i := 6) sc_law.nd rfl (Or.inl rfl) (xe_call G_alike (hr.mono (by decide)) rfl m_alike k_alike b_alike (xa_cons (xe_call G__law_made (hr.mono (by decide)) rfl m__law_made k__law_made b__law_made (xa_cons (xv 3) xa_nil)) (xa_cons (xe_call G__law_made (hr.mono (by decide)) rfl m__law_made k__law_made b__law_made (xa_cons (xv 4) xa_nil)) xa_nil)))) (xss_cons (xs_set (i := 10) sc_law.nd rfl (Or.inl rfl) (xe_call G_alike (hr.mono (by decide)) rfl m_alike k_alike b_alike (xa_cons (xe_call G__law_made (hr.mono (by decide)) rfl m__law_made k__law_made b__law_made (xa_cons (xe_call G__law_times (hr.mono (by decide)) rfl m__law_times k__law_times b__law_times (xa_cons (xv 3) (xa_cons (xv 9) xa_nil))) xa_nil)) (xa_cons (xe_call G__law_made (hr.mono (by decide)) rfl m__law_made k__law_made b__law_made (xa_cons (xe_call G__law_times (hr.mono (by decide)) rfl m__law_times k__law_times b__law_times (xa_cons (xv 4) (xa_cons (xv 9) xa_nil))) xa_nil)) xa_nil)))) (xss_one (xs_if (xt_cmpR (xo_neD hr.units) (xv 10) (xe_ifExp (xt_cmp (xc_isN (xv 6))) xe_non (xe_op xo_mulW (xv 6) (xv 9))) (nomark _)) (xss_one (xs_ret xe_bl)) xss_nil)))))))))))))) (xss_one (xs_ret xe_bl)))), fun m hm => ?_⟩)
  simp (maxSteps := 3000000) only [pTold, pIfR, pDropR, pAsgR, pRetR, pRaise, pCallR, pMethR, pTrySet, hC, hFld, hNil, hCons, hTup, hLst, pStrOf, pCatS, pSortII, pParOwE, pParOwC, pIsi, pListR2, startP, List.map_cons, List.map_nil, List.length_cons, List.length_nil, Nat.reduceAdd, Nat.reduceSub, List.replicate_succ, List.replicate_zero, List.cons_append, List.nil_append, pSeq, pAsg, pAsgV, pPar, pPar3, pIfS, pRet, pRetN, pDrop, pNext, pNever, pSetOw, pSetD, pPutD, pDGet, pInS, pCKw, pSl, pSlL, pNoPart, pPart, piEn, v_od, PV.dic.injEq, pApp, pAppV, pPutI, pAug, pVar, pC, pOp, pUn, pI0, pI, pU, pIsN, pNotN, pNil, pCons, pTup, pLst, pFld, pIxL, pIxT, pEq, pNe, pAndV, pOrV, pNotV, pB, pAnd, pOr, pNot, pYes, pIf, pCB, pLen, pListOf, pTupOf, pMin2, pMax2, pCat, pIsTup, pIntOf, pgName, pgNil, pgCons, pgTup, piL, piT, piR1, piR2, piEn, piEnT,
    g0, g0r, gS, v_fr, v_ow, hid_nil, hid_fr, hid_no, hid_ow, keep_t, keep_f, keep_nil, noOw_nil, noOw_fr, noOw_no, noOw_ow, noL_int, noL_bl, noL_str, noL_non, noL_pO, noL_tup, noLL_nil, noLL_cons, stow_eq, len_tup, len_lst, len_scr, at_nat, at_0, at_1, at_2, at_3, sc_int, sc_bl, sc_str, sc_non, sc_pO, vO_inj, vO_int, int_vO, scal_NN, scal_OO, scal_OI, scal_IO, scal_II, scal_SS, scal_BB, isN_pO, isN_int, isN_bl, isN_str, isN_non, isN_tup, isN_lst, isN_ob, pO_some, pO_none,
    List.set_cons_zero, List.set_cons_succ, List.getElem?_cons_zero, List.getElem?_cons_succ, Option.some.injEq, PV.int.injEq, PV.bl.injEq, PV.str.injEq, PV.lst.injEq, PV.tup.injEq, PS.ow.injEq, PS.fr.injEq, List.cons.injEq, exists_eq_left, exists_eq_left', exists_eq_right, exists_and_left, exists_const, and_true, true_and, reduceCtorEq, false_and, and_false, exists_false, if_true, if_false, Bool.false_eq_true, ↓reduceIte, Bool.or_true, Bool.true_or, Bool.or_false, Bool.false_or, Bool.and_true, Bool.true_and, Bool.not_true, Bool.not_false, ite_true, ite_false, exists_eq, exists_eq', and_assoc, decide_eq_true_eq, V.int.injEq, V.str.injEq, V.bl.injEq, and_self, Nat.reduceLeDiff, exists_eq_right', exists_and_right, Option.isNone_none, Option.isNone_some, pFor, pCall, pMeth]
  refine ⟨by split <;> omega, by split <;> omega, fun i ρ n => n ≤ 1000 * i ∧ ρ = [.no, .fr .pen, .no, .no, .no, .no, .no, .no, .no, .no, .no, .no], ⟨by omega, rfl⟩, ?_, ?_⟩
  · rintro i y ρ n hy ⟨hn, rfl⟩
    obtain ⟨hi, rfl⟩ := rng_inv hy
    have hi10 : i ≤ 13 := by split at hi <;> omega
    have big : n + 4000 < Big := by unfold Big; omega
    simp (maxSteps := 3000000) only [pTold, pIfR, pDropR, pAsgR, pRetR, pRaise, pCallR, pMethR, pTrySet, hC, hFld, hNil, hCons, hTup, hLst, pStrOf, pCatS, pSortII, pParOwE, pParOwC, pIsi, pListR2, startP, List.map_cons, List.map_nil, List.length_cons, List.length_nil, Nat.reduceAdd, Nat.reduceSub, List.replicate_succ, List.replicate_zero, List.cons_append, List.nil_append, pSeq, pAsg, pAsgV, pPar, pPar3, pIfS, pRet, pRetN, pDrop, pNext, pNever, pSetOw, pSetD, pPutD, pDGet, pInS, pCKw, pSl, pSlL, pNoPart, pPart, piEn, v_od, PV.dic.injEq, pApp, pAppV, pPutI, pAug, pVar, pC, pOp, pUn, pI0, pI, pU, pIsN, pNotN, pNil, pCons, pTup, pLst, pFld, pIxL, pIxT, pEq, pNe, pAndV, pOrV, pNotV, pB, pAnd, pOr, pNot, pYes, pIf, pCB, pLen, pListOf, pTupOf, pMin2, pMax2, pCat, pIsTup, pIntOf, pgName, pgNil, pgCons, pgTup, piL, piT, piR1, piR2, piEn, piEnT,
    g0, g0r, gS, v_fr, v_ow, hid_nil, hid_fr, hid_no, hid_ow, keep_t, keep_f, keep_nil, noOw_nil, noOw_fr, noOw_no, noOw_ow, noL_int, noL_bl, noL_str, noL_non, noL_pO, noL_tup, noLL_nil, noLL_cons, stow_eq, len_tup, len_lst, len_scr, at_nat, at_0, at_1, at_2, at_3, sc_int, sc_bl, sc_str, sc_non, sc_pO, vO_inj, vO_int, int_vO, scal_NN, scal_OO, scal_OI, scal_IO, scal_II, scal_SS, scal_BB, isN_pO, isN_int, isN_bl, isN_str, isN_non, isN_tup, isN_lst, isN_ob, pO_some, pO_none,
    List.set_cons_zero, List.set_cons_succ, List.getElem?_cons_zero, List.getElem?_cons_succ, Option.some.injEq, PV.int.injEq, PV.bl.injEq, PV.str.injEq, PV.lst.injEq, PV.tup.injEq, PS.ow.injEq, PS.fr.injEq, List.cons.injEq, exists_eq_left, exists_eq_left', exists_eq_right, exists_and_left, exists_const, and_true, true_and, reduceCtorEq, false_and, and_false, exists_false, if_true, if_false, Bool.false_eq_true, ↓reduceIte, Bool.or_true, Bool.true_or, Bool.or_false, Bool.false_or, Bool.and_true, Bool.true_and, Bool.not_true, Bool.not_false, ite_true, ite_false, exists_eq, exists_eq', and_assoc, decide_eq_true_eq, V.int.injEq, V.str.injEq, V.bl.injEq, and_self, Nat.reduceLeDiff, exists_eq_right', exists_and_right, Option.isNone_none, Option.isNone_some, pCall, pMeth, pFor]
    have e20 : (10 : Int) ^ (20 : Int).toNat = 100000000000000000000 := by decide +kernel
    have al : ∀ {a b : List RowD} {q : Int} {Q : PV → Int → Prop}, RowsOk a → RowsOk b → BndG M25 a → BndG M25 b → a.length ≤ 29 → b.length ≤ 29 → (∀ o, UnlikeO a b o → Q (pO o) q) → wAlike cR cS cW [pWord cR cS cW a, pWord cR cS cW b] q Q := fun {a b q Q} h1 h2 h3 h4 h5 h6 hQ => ⟨a, b, rfl, by omega, by omega, h1, h2, (alike_bnd h1 h2 h3 h4).1, (alike_bnd h1 h2 h3 h4).2, fun ms hp hm => hQ _ (alike_spec h1 h2 hp hm)⟩
    have smok : ∀ s ∈ ([("s" : Str), ("m" : Str)] : List Str), PyData.strOk s = true := by decide +kernel
    refine ⟨_, rfl, by simp, by simp, by omega, fun wv hwv => ?_⟩
    obtain ⟨ws, rfl, wsok, wlen⟩ : ∃ L : List Str, wv = .lst (L.map PV.str) ∧ (∀ s ∈ L, PyData.strOk s = true) ∧ L.length ≤ 2 := by
      simp only [List.mem_cons, List.not_mem_nil, or_false] at hwv
      rcases hwv with rfl | rfl
      · exact ⟨[], rfl, fun s hs => (nomatch hs), by decide⟩
      · exact ⟨["s", "m"], rfl, smok, by decide⟩
    clear hwv
    refine ⟨3, ws, rfl, by omega, by decide, by decide, by omega, wsok, fun r1 hDw => ?_⟩
    have hn1 : r1.length ≤ 3 := by have := hDw.n; omega
    have g1 := good_drawn hDw wsok
    clear hDw
    refine ⟨r1, 600, rfl, g1, by decide, by decide, by omega, by omega, fun R1 m1 gR1 lR1 m10 m11 => ?_⟩
    refine ⟨3, ["s", "m"], rfl, by omega, by decide, by decide, by decide, smok, fun r3 hD3 => ?_⟩
    refine ⟨_, rfl, by simp, by simp, by omega, fun y hy2 => ?_⟩
    obtain ⟨r2, rfl, g2, hn2⟩ : ∃ r2, y = pRows r2 ∧ Good 640 r2 ∧ r2.length ≤ 4 := by
      simp only [List.mem_cons, List.not_mem_nil, or_false] at hy2
      rcases hy2 with rfl | rfl | rfl | rfl
      · exact ⟨r1, rfl, g1.mono (by decide), by omega⟩
      · exact ⟨r1, rfl, g1.mono (by decide), by omega⟩
      · exact ⟨R1, rfl, gR1.mono (by decide), by omega⟩
      · exact ⟨r3, rfl, (good_drawn hD3 smok).mono (by decide), by have := hD3.n; omega⟩
    clear hy2 hD3 gR1
    obtain ⟨m, hm, m0, m1⟩ : ∃ m, m1 + 200 + 1 = m ∧ n ≤ m ∧ m ≤ n + 500 := ⟨_, rfl, by omega, by omega⟩
    rw [hm]
    clear hm
    refine ⟨3, rfl, by decide, by unfold Sm; omega, by omega, fun d d0 d1 => ⟨d, rfl, by omega, by omega, ?_⟩⟩
    refine ⟨fun k ρ q => n ≤ q ∧ q ≤ n + 501 + 20 * k ∧ ∃ r2, Good (640 + 40 * k) r2 ∧ r2.length ≤ 4 + k ∧ ρ = [.no, .fr .pen, .no, .fr (pRows r1), .fr (pRows r2), .no, .no, .no, .no, .no, .no, .no], ⟨by omega, by omega, r2, by simpa using g2, by omega, rfl⟩, ?_, ?_⟩
    · rintro k y ρ q hy3 ⟨q0, q1, r2, g2, hl2, rfl⟩
      obtain ⟨hk, rfl⟩ := rng_inv hy3
      simp (maxSteps := 3000000) only [pTold, pIfR, pDropR, pAsgR, pRetR, pRaise, pCallR, pMethR, pTrySet, hC, hFld, hNil, hCons, hTup, hLst, pStrOf, pCatS, pSortII, pParOwE, pParOwC, pIsi, pListR2, startP, List.map_cons, List.map_nil, List.length_cons, List.length_nil, Nat.reduceAdd, Nat.reduceSub, List.replicate_succ, List.replicate_zero, List.cons_append, List.nil_append, pSeq, pAsg, pAsgV, pPar, pPar3, pIfS, pRet, pRetN, pDrop, pNext, pNever, pSetOw, pSetD, pPutD, pDGet, pInS, pCKw, pSl, pSlL, pNoPart, pPart, piEn, v_od, PV.dic.injEq, pApp, pAppV, pPutI, pAug, pVar, pC, pOp, pUn, pI0, pI, pU, pIsN, pNotN, pNil, pCons, pTup, pLst, pFld, pIxL, pIxT, pEq, pNe, pAndV, pOrV, pNotV, pB, pAnd, pOr, pNot, pYes, pIf, pCB, pLen, pListOf, pTupOf, pMin2, pMax2, pCat, pIsTup, pIntOf, pgName, pgNil, pgCons, pgTup, piL, piT, piR1, piR2, piEn, piEnT,
    g0, g0r, gS, v_fr, v_ow, hid_nil, hid_fr, hid_no, hid_ow, keep_t, keep_f, keep_nil, noOw_nil, noOw_fr, noOw_no, noOw_ow, noL_int, noL_bl, noL_str, noL_non, noL_pO, noL_tup, noLL_nil, noLL_cons, stow_eq, len_tup, len_lst, len_scr, at_nat, at_0, at_1, at_2, at_3, sc_int, sc_bl, sc_str, sc_non, sc_pO, vO_inj, vO_int, int_vO, scal_NN, scal_OO, scal_OI, scal_IO, scal_II, scal_SS, scal_BB, isN_pO, isN_int, isN_bl, isN_str, isN_non, isN_tup, isN_lst, isN_ob, pO_some, pO_none,
    List.set_cons_zero, List.set_cons_succ, List.getElem?_cons_zero, List.getElem?_cons_succ, Option.some.injEq, PV.int.injEq, PV.bl.injEq, PV.str.injEq, PV.lst.injEq, PV.tup.injEq, PS.ow.injEq, PS.fr.injEq, List.cons.injEq, exists_eq_left, exists_eq_left', exists_eq_right, exists_and_left, exists_const, and_true, true_and, reduceCtorEq, false_and, and_false, exists_false, if_true, if_false, Bool.false_eq_true, ↓reduceIte, Bool.or_true, Bool.true_or, Bool.or_false, Bool.false_or, Bool.and_true, Bool.true_and, Bool.not_true, Bool.not_false, ite_true, ite_false, exists_eq, exists_eq', and_assoc, decide_eq_true_eq, V.int.injEq, V.str.injEq, V.bl.injEq, and_self, Nat.reduceLeDiff, exists_eq_right', exists_and_right, Option.isNone_none, Option.isNone_some, pCall, pMeth]
      have hlen : (pRows r2).len? = some r2.length := by show some (r2.map pRow).length = _; rw [List.length_map]
      have eM : (640 : Int) + 40 * ((k + 1 : Nat) : Int) = 640 + 40 * (k : Int) + 40 := by omega
      refine ⟨_, hlen, ?_⟩
      by_cases h6 : ((r2.length : Nat) : Int) < 6
      · rw [if_pos h6]
        refine ⟨2, rfl, by decide, by unfold Sm; omega, by omega, fun x x0 x1 => ⟨_, rfl, rfl, ?_⟩⟩
        by_cases hx : V.int x = V.int 0
        · rw [if_pos hx]
          refine ⟨r2, _, rfl, g2, by omega, by omega, by omega, by omega, fun R m' gR lR a b => ⟨by omega, by omega, R, ?_, by omega, rfl⟩⟩
          rw [eM]; exact gR
        · rw [if_neg hx]
          refine ⟨r2, _, rfl, g2, by omega, by omega, by omega, by omega, fun R m' gR lR a b => ⟨by omega, by omega, R, by rw [eM]; exact gR, by omega, rfl⟩⟩
      · rw [if_neg h6]
        refine ⟨r2, _, rfl, g2, by omega, by omega, by omega, by omega, fun R m' gR lR a b => ⟨by omega, by omega, R, by rw [eM]; exact gR, by omega, rfl⟩⟩
    · rintro ρ q ⟨q0, q1, r2, g2, hl2, rfl⟩
      rw [rng_len] at g2 hl2 q1
      have hd : d.toNat ≤ 2 := by omega
      have hl2 : r2.length ≤ 6 := by omega
      have hq1 : q ≤ n + 600 := by omega
      have g2 : Good 1000 r2 := g2.mono (by omega)
      clear q1 hd
      obtain ⟨ok1, b1⟩ := g1.ok (by decide) (by omega)
      obtain ⟨ok2, b2⟩ := g2.ok (by decide) (by omega)
      have b125 : BndG M25 r1 := bnd_mono (by decide) b1
      have b225 : BndG M25 r2 := bnd_mono (by decide) b2
      simp (maxSteps := 3000000) only [pTold, pIfR, pDropR, pAsgR, pRetR, pRaise, pCallR, pMethR, pTrySet, hC, hFld, hNil, hCons, hTup, hLst, pStrOf, pCatS, pSortII, pParOwE, pParOwC, pIsi, pListR2, startP, List.map_cons, List.map_nil, List.length_cons, List.length_nil, Nat.reduceAdd, Nat.reduceSub, List.replicate_succ, List.replicate_zero, List.cons_append, List.nil_append, pSeq, pAsg, pAsgV, pPar, pPar3, pIfS, pRet, pRetN, pDrop, pNext, pNever, pSetOw, pSetD, pPutD, pDGet, pInS, pCKw, pSl, pSlL, pNoPart, pPart, piEn, v_od, PV.dic.injEq, pApp, pAppV, pPutI, pAug, pVar, pC, pOp, pUn, pI0, pI, pU, pIsN, pNotN, pNil, pCons, pTup, pLst, pFld, pIxL, pIxT, pEq, pNe, pAndV, pOrV, pNotV, pB, pAnd, pOr, pNot, pYes, pIf, pCB, pLen, pListOf, pTupOf, pMin2, pMax2, pCat, pIsTup, pIntOf, pgName, pgNil, pgCons, pgTup, piL, piT, piR1, piR2, piEn, piEnT,
    g0, g0r, gS, v_fr, v_ow, hid_nil, hid_fr, hid_no, hid_ow, keep_t, keep_f, keep_nil, noOw_nil, noOw_fr, noOw_no, noOw_ow, noL_int, noL_bl, noL_str, noL_non, noL_pO, noL_tup, noLL_nil, noLL_cons, stow_eq, len_tup, len_lst, len_scr, at_nat, at_0, at_1, at_2, at_3, sc_int, sc_bl, sc_str, sc_non, sc_pO, vO_inj, vO_int, int_vO, scal_NN, scal_OO, scal_OI, scal_IO, scal_II, scal_SS, scal_BB, isN_pO, isN_int, isN_bl, isN_str, isN_non, isN_tup, isN_lst, isN_ob, pO_some, pO_none,
    List.set_cons_zero, List.set_cons_succ, List.getElem?_cons_zero, List.getElem?_cons_succ, Option.some.injEq, PV.int.injEq, PV.bl.injEq, PV.str.injEq, PV.lst.injEq, PV.tup.injEq, PS.ow.injEq, PS.fr.injEq, List.cons.injEq, exists_eq_left, exists_eq_left', exists_eq_right, exists_and_left, exists_const, and_true, true_and, reduceCtorEq, false_and, and_false, exists_false, if_true, if_false, Bool.false_eq_true, ↓reduceIte, Bool.or_true, Bool.true_or, Bool.or_false, Bool.false_or, Bool.and_true, Bool.true_and, Bool.not_true, Bool.not_false, ite_true, ite_false, exists_eq, exists_eq', and_assoc, decide_eq_true_eq, V.int.injEq, V.str.injEq, V.bl.injEq, and_self, Nat.reduceLeDiff, exists_eq_right', exists_and_right, Option.isNone_none, Option.isNone_some, pCall, pMeth]
      refine ⟨r1, r2, rfl, ok1, ok2, b1, b2, by omega, by omega, fun o ho => ?_⟩
      refine ⟨r1, rfl, ok1, r2, rfl, ok2, ?_⟩
      refine al ok1 ok2 b125 b225 (by omega) (by omega) fun o2 ho2 => ?_
      rw [UnlikeO.uniq ho2 ho]
      refine pO_neS ⟨_, rfl, ?_⟩
      rw [if_neg (by decide)]
      refine al ok2 ok1 b225 b125 (by omega) (by omega) fun o3 ho3 => ?_
      rw [UnlikeO.uniq ho3.symm ho]
      refine pO_neS ⟨_, rfl, ?_⟩
      rw [if_neg (by decide)]
      refine ⟨r1, rfl, ok1, ?_⟩
      refine al ok1 ok1 b125 b125 (by omega) (by omega) fun o4 ho4 => ?_
      rw [UnlikeO.uniq (b := none) ho4 fun x _ => rfl]
      rw [if_neg (show ¬ (!(pO none).isN) = true from fun z => Bool.noConfusion z)]
      refine ⟨⟨by decide, by decide, by decide⟩, _, rfl, by simp, by simp, by omega, fun y hy2 => ?_⟩
      rw [e20] at hy2
      obtain ⟨fc, rfl, f0, f1⟩ : ∃ fc : Int, y = .int fc ∧ 0 < fc ∧ fc ≤ 100000000000000000000 := by
        simp only [List.mem_cons, List.not_mem_nil, or_false] at hy2
        rcases hy2 with rfl | rfl <;> exact ⟨_, rfl, by omega, by omega⟩
      clear hy2
      refine lc_map (L := r1) (e := pRow) (f := fun _ => true) (g := fun r => pRow (wayR "down" r)) (fun R r => by simp only [pTold, pIfR, pDropR, pAsgR, pRetR, pRaise, pCallR, pMethR, pTrySet, hC, hFld, hNil, hCons, hTup, hLst, pStrOf, pCatS, pSortII, pParOwE, pParOwC, pIsi, pListR2, startP, List.map_cons, List.map_nil, List.length_cons, List.length_nil, Nat.reduceAdd, Nat.reduceSub, List.replicate_succ, List.replicate_zero, List.cons_append, List.nil_append, pSeq, pAsg, pAsgV, pPar, pPar3, pIfS, pRet, pRetN, pDrop, pNext, pNever, pSetOw, pSetD, pPutD, pDGet, pInS, pCKw, pSl, pSlL, pNoPart, pPart, piEn, v_od, PV.dic.injEq, pApp, pAppV, pPutI, pAug, pVar, pC, pOp, pUn, pI0, pI, pU, pIsN, pNotN, pNil, pCons, pTup, pLst, pFld, pIxL, pIxT, pEq, pNe, pAndV, pOrV, pNotV, pB, pAnd, pOr, pNot, pYes, pIf, pCB, pLen, pListOf, pTupOf, pMin2, pMax2, pCat, pIsTup, pIntOf, pgName, pgNil, pgCons, pgTup, piL, piT, piR1, piR2, piEn, piEnT,
    g0, g0r, gS, v_fr, v_ow, hid_nil, hid_fr, hid_no, hid_ow, keep_t, keep_f, keep_nil, noOw_nil, noOw_fr, noOw_no, noOw_ow, noL_int, noL_bl, noL_str, noL_non, noL_pO, noL_tup, noLL_nil, noLL_cons, stow_eq, len_tup, len_lst, len_scr, at_nat, at_0, at_1, at_2, at_3, sc_int, sc_bl, sc_str, sc_non, sc_pO, vO_inj, vO_int, int_vO, scal_NN, scal_OO, scal_OI, scal_IO, scal_II, scal_SS, scal_BB, isN_pO, isN_int, isN_bl, isN_str, isN_non, isN_tup, isN_lst, isN_ob, pO_some, pO_none,
    List.set_cons_zero, List.set_cons_succ, List.getElem?_cons_zero, List.getElem?_cons_succ, Option.some.injEq, PV.int.injEq, PV.bl.injEq, PV.str.injEq, PV.lst.injEq, PV.tup.injEq, PS.ow.injEq, PS.fr.injEq, List.cons.injEq, exists_eq_left, exists_eq_left', exists_eq_right, exists_and_left, exists_const, and_true, true_and, reduceCtorEq, false_and, and_false, exists_false, if_true, if_false, Bool.false_eq_true, ↓reduceIte, Bool.or_true, Bool.true_or, Bool.or_false, Bool.false_or, Bool.and_true, Bool.true_and, Bool.not_true, Bool.not_false, ite_true, ite_false, exists_eq, exists_eq', and_assoc, decide_eq_true_eq, V.int.injEq, V.str.injEq, V.bl.injEq, and_self, Nat.reduceLeDiff, exists_eq_right', exists_and_right, Option.isNone_none, Option.isNone_some]; exact ⟨_, rfl, r⟩) (by omega) (fun r hr R q => ?_) ?_
      · simp only [pTold, pIfR, pDropR, pAsgR, pRetR, pRaise, pCallR, pMethR, pTrySet, hC, hFld, hNil, hCons, hTup, hLst, pStrOf, pCatS, pSortII, pParOwE, pParOwC, pIsi, pListR2, startP, List.map_cons, List.map_nil, List.length_cons, List.length_nil, Nat.reduceAdd, Nat.reduceSub, List.replicate_succ, List.replicate_zero, List.cons_append, List.nil_append, pSeq, pAsg, pAsgV, pPar, pPar3, pIfS, pRet, pRetN, pDrop, pNext, pNever, pSetOw, pSetD, pPutD, pDGet, pInS, pCKw, pSl, pSlL, pNoPart, pPart, piEn, v_od, PV.dic.injEq, pApp, pAppV, pPutI, pAug, pVar, pC, pOp, pUn, pI0, pI, pU, pIsN, pNotN, pNil, pCons, pTup, pLst, pFld, pIxL, pIxT, pEq, pNe, pAndV, pOrV, pNotV, pB, pAnd, pOr, pNot, pYes, pIf, pCB, pLen, pListOf, pTupOf, pMin2, pMax2, pCat, pIsTup, pIntOf, pgName, pgNil, pgCons, pgTup, piL, piT, piR1, piR2, piEn, piEnT,
    g0, g0r, gS, v_fr, v_ow, hid_nil, hid_fr, hid_no, hid_ow, keep_t, keep_f, keep_nil, noOw_nil, noOw_fr, noOw_no, noOw_ow, noL_int, noL_bl, noL_str, noL_non, noL_pO, noL_tup, noLL_nil, noLL_cons, stow_eq, len_tup, len_lst, len_scr, at_nat, at_0, at_1, at_2, at_3, sc_int, sc_bl, sc_str, sc_non, sc_pO, vO_inj, vO_int, int_vO, scal_NN, scal_OO, scal_OI, scal_IO, scal_II, scal_SS, scal_BB, isN_pO, isN_int, isN_bl, isN_str, isN_non, isN_tup, isN_lst, isN_ob, pO_some, pO_none,
    List.set_cons_zero, List.set_cons_succ, List.getElem?_cons_zero, List.getElem?_cons_succ, Option.some.injEq, PV.int.injEq, PV.bl.injEq, PV.str.injEq, PV.lst.injEq, PV.tup.injEq, PS.ow.injEq, PS.fr.injEq, List.cons.injEq, exists_eq_left, exists_eq_left', exists_eq_right, exists_and_left, exists_const, and_true, true_and, reduceCtorEq, false_and, and_false, exists_false, if_true, if_false, Bool.false_eq_true, ↓reduceIte, Bool.or_true, Bool.true_or, Bool.or_false, Bool.false_or, Bool.and_true, Bool.true_and, Bool.not_true, Bool.not_false, ite_true, ite_false, exists_eq, exists_eq', and_assoc, decide_eq_true_eq, V.int.injEq, V.str.injEq, V.bl.injEq, and_self, Nat.reduceLeDiff, exists_eq_right', exists_and_right, Option.isNone_none, Option.isNone_some, wipeP_cons, wipeP_nil, pRow]
        simpa [pRow, wayR] using q
      rw [List.filter_eq_self.mpr fun _ _ => rfl, show r1.map (fun r => pRow (wayR "down" r)) = (r1.map (wayR "down")).map pRow by rw [List.map_map]; rfl]
      refine lc_map (L := r2) (e := pRow) (f := fun _ => true) (g := fun r => pRow (wayR "down" r)) (fun R r => by simp only [pTold, pIfR, pDropR, pAsgR, pRetR, pRaise, pCallR, pMethR, pTrySet, hC, hFld, hNil, hCons, hTup, hLst, pStrOf, pCatS, pSortII, pParOwE, pParOwC, pIsi, pListR2, startP, List.map_cons, List.map_nil, List.length_cons, List.length_nil, Nat.reduceAdd, Nat.reduceSub, List.replicate_succ, List.replicate_zero, List.cons_append, List.nil_append, pSeq, pAsg, pAsgV, pPar, pPar3, pIfS, pRet, pRetN, pDrop, pNext, pNever, pSetOw, pSetD, pPutD, pDGet, pInS, pCKw, pSl, pSlL, pNoPart, pPart, piEn, v_od, PV.dic.injEq, pApp, pAppV, pPutI, pAug, pVar, pC, pOp, pUn, pI0, pI, pU, pIsN, pNotN, pNil, pCons, pTup, pLst, pFld, pIxL, pIxT, pEq, pNe, pAndV, pOrV, pNotV, pB, pAnd, pOr, pNot, pYes, pIf, pCB, pLen, pListOf, pTupOf, pMin2, pMax2, pCat, pIsTup, pIntOf, pgName, pgNil, pgCons, pgTup, piL, piT, piR1, piR2, piEn, piEnT,
    g0, g0r, gS, v_fr, v_ow, hid_nil, hid_fr, hid_no, hid_ow, keep_t, keep_f, keep_nil, noOw_nil, noOw_fr, noOw_no, noOw_ow, noL_int, noL_bl, noL_str, noL_non, noL_pO, noL_tup, noLL_nil, noLL_cons, stow_eq, len_tup, len_lst, len_scr, at_nat, at_0, at_1, at_2, at_3, sc_int, sc_bl, sc_str, sc_non, sc_pO, vO_inj, vO_int, int_vO, scal_NN, scal_OO, scal_OI, scal_IO, scal_II, scal_SS, scal_BB, isN_pO, isN_int, isN_bl, isN_str, isN_non, isN_tup, isN_lst, isN_ob, pO_some, pO_none,
    List.set_cons_zero, List.set_cons_succ, List.getElem?_cons_zero, List.getElem?_cons_succ, Option.some.injEq, PV.int.injEq, PV.bl.injEq, PV.str.injEq, PV.lst.injEq, PV.tup.injEq, PS.ow.injEq, PS.fr.injEq, List.cons.injEq, exists_eq_left, exists_eq_left', exists_eq_right, exists_and_left, exists_const, and_true, true_and, reduceCtorEq, false_and, and_false, exists_false, if_true, if_false, Bool.false_eq_true, ↓reduceIte, Bool.or_true, Bool.true_or, Bool.or_false, Bool.false_or, Bool.and_true, Bool.true_and, Bool.not_true, Bool.not_false, ite_true, ite_false, exists_eq, exists_eq', and_assoc, decide_eq_true_eq, V.int.injEq, V.str.injEq, V.bl.injEq, and_self, Nat.reduceLeDiff, exists_eq_right', exists_and_right, Option.isNone_none, Option.isNone_some]; exact ⟨_, rfl, r⟩) (by omega) (fun r hr R q => ?_) ?_
      · simp only [pTold, pIfR, pDropR, pAsgR, pRetR, pRaise, pCallR, pMethR, pTrySet, hC, hFld, hNil, hCons, hTup, hLst, pStrOf, pCatS, pSortII, pParOwE, pParOwC, pIsi, pListR2, startP, List.map_cons, List.map_nil, List.length_cons, List.length_nil, Nat.reduceAdd, Nat.reduceSub, List.replicate_succ, List.replicate_zero, List.cons_append, List.nil_append, pSeq, pAsg, pAsgV, pPar, pPar3, pIfS, pRet, pRetN, pDrop, pNext, pNever, pSetOw, pSetD, pPutD, pDGet, pInS, pCKw, pSl, pSlL, pNoPart, pPart, piEn, v_od, PV.dic.injEq, pApp, pAppV, pPutI, pAug, pVar, pC, pOp, pUn, pI0, pI, pU, pIsN, pNotN, pNil, pCons, pTup, pLst, pFld, pIxL, pIxT, pEq, pNe, pAndV, pOrV, pNotV, pB, pAnd, pOr, pNot, pYes, pIf, pCB, pLen, pListOf, pTupOf, pMin2, pMax2, pCat, pIsTup, pIntOf, pgName, pgNil, pgCons, pgTup, piL, piT, piR1, piR2, piEn, piEnT,
    g0, g0r, gS, v_fr, v_ow, hid_nil, hid_fr, hid_no, hid_ow, keep_t, keep_f, keep_nil, noOw_nil, noOw_fr, noOw_no, noOw_ow, noL_int, noL_bl, noL_str, noL_non, noL_pO, noL_tup, noLL_nil, noLL_cons, stow_eq, len_tup, len_lst, len_scr, at_nat, at_0, at_1, at_2, at_3, sc_int, sc_bl, sc_str, sc_non, sc_pO, vO_inj, vO_int, int_vO, scal_NN, scal_OO, scal_OI, scal_IO, scal_II, scal_SS, scal_BB, isN_pO, isN_int, isN_bl, isN_str, isN_non, isN_tup, isN_lst, isN_ob, pO_some, pO_none,
    List.set_cons_zero, List.set_cons_succ, List.getElem?_cons_zero, List.getElem?_cons_succ, Option.some.injEq, PV.int.injEq, PV.bl.injEq, PV.str.injEq, PV.lst.injEq, PV.tup.injEq, PS.ow.injEq, PS.fr.injEq, List.cons.injEq, exists_eq_left, exists_eq_left', exists_eq_right, exists_and_left, exists_const, and_true, true_and, reduceCtorEq, false_and, and_false, exists_false, if_true, if_false, Bool.false_eq_true, ↓reduceIte, Bool.or_true, Bool.true_or, Bool.or_false, Bool.false_or, Bool.and_true, Bool.true_and, Bool.not_true, Bool.not_false, ite_true, ite_false, exists_eq, exists_eq', and_assoc, decide_eq_true_eq, V.int.injEq, V.str.injEq, V.bl.injEq, and_self, Nat.reduceLeDiff, exists_eq_right', exists_and_right, Option.isNone_none, Option.isNone_some, wipeP_cons, wipeP_nil, pRow]
        simpa [pRow, wayR] using q
      rw [List.filter_eq_self.mpr fun _ _ => rfl, show r2.map (fun r => pRow (wayR "down" r)) = (r2.map (wayR "down")).map pRow by rw [List.map_map]; rfl]
      have hD1 : (r1.map (wayR "down")).length ≤ 6 := by rw [List.length_map]; omega
      have okD1 := way_ok "down" ok1
      have bD1 := bnd_way "down" b1
      have dD1 := down_way r1
      generalize r1.map (wayR "down") = D1 at hD1 okD1 bD1 dD1
      have hD2 : (r2.map (wayR "down")).length ≤ 6 := by rw [List.length_map]; omega
      have okD2 := way_ok "down" ok2
      have bD2 := bnd_way "down" b2
      have dD2 := down_way r2
      generalize r2.map (wayR "down") = D2 at hD2 okD2 bD2 dD2
      have okT1 := times_okM (M := 4000) f0 (by decide) (by show 4000 * fc ≤ 10000000000000000000000000; omega) okD1 bD1
      have bT1 : BndG M25 (D1.map (timesR fc)) := bnd_mono (by show 4000 * fc ≤ 10000000000000000000000000; omega) (bnd_times (M := 4000) (by decide) f0 bD1)
      have okT2 := times_okM (M := 4000) f0 (by decide) (by show 4000 * fc ≤ 10000000000000000000000000; omega) okD2 bD2
      have bT2 : BndG M25 (D2.map (timesR fc)) := bnd_mono (by show 4000 * fc ≤ 10000000000000000000000000; omega) (bnd_times (M := 4000) (by decide) f0 bD2)
      refine ⟨D1, rfl, okD1, D2, rfl, okD2, ?_⟩
      refine al okD1 okD2 (bnd_mono (by decide) bD1) (bnd_mono (by decide) bD2) (by omega) (by omega) fun o5 ho5 => ?_
      refine ⟨D1, fc, rfl, rowB_bnd (by decide) bD1, by unfold Sm; omega, by omega, D1.map (timesR fc), rfl, okT1, ?_⟩
      refine ⟨D2, fc, rfl, rowB_bnd (by decide) bD2, by unfold Sm; omega, by omega, D2.map (timesR fc), rfl, okT2, ?_⟩
      refine al okT1 okT2 bT1 bT2 (by rw [List.length_map]; omega) (by rw [List.length_map]; omega) fun o6 ho6 => ?_
      rw [UnlikeO.uniq ho6 (unlike_sc f0 dD1 dD2 ho5)]
      cases o5 with
      | none =>
        rw [if_pos (show (pO none).isN = true from rfl)]
        refine pO_neS (o := none) ⟨_, rfl, ?_⟩
        rw [if_neg (by decide)]
        omega
      | some b =>
        rw [if_neg (show ¬ (pO (some b)).isN = true from fun z => Bool.noConfusion z)]
        obtain ⟨o7, ho7, hb7⟩ := unlike_ex okD1 okD2 (ut := 4000) (uc := 4000) (by decide) (by decide) (fun r hr t ht => ((bD1 r hr).2 t ht).2) (fun r hr t ht => ((bD2 r hr).2 t ht).2) (fun r hr t ht => ((bD1 r hr).1 t ht).2) (fun r hr t ht => ((bD2 r hr).1 t ht).2)
        have hb := hb7 b (UnlikeO.uniq ho7 ho5)
        have hb0 := ho5.1
        refine ⟨b, rfl, fc, rfl, ⟨by unfold Sml; omega, by unfold Sml; omega⟩, ?_⟩
        refine pO_neS (o := some (b * fc)) ⟨_, rfl, ?_⟩
        rw [if_neg (by decide)]
        omega
  · rintro ρ n ⟨hn, rfl⟩
    trivial
end
end Age

set_option Elab.async false
set_option linter.all false
set_option maxRecDepth 100000
set_option maxHeartbeats 0
namespace Age
open PySem PySem.Spec PyProof.Rows L2
/-! ### the head: where each def stands, what the module's names are -/
def dd (p : Str × Option Str) (x q : Str) (st : Stmt) : He.DefD := ⟨p, x, q, defArgs st, defBody st, defScope st, [], []⟩
def fn : List He.DefD := [dd ("_law_pen", none) "_law_pen" "_law_pen" s__law_pen,
  dd ("_law_draw", none) "_law_draw" "_law_draw" s__law_draw,
  dd ("_law_pick", none) "_law_pick" "_law_pick" s__law_pick,
  dd ("_law_number", none) "_law_number" "_law_number" s__law_number,
  dd ("_law_way", none) "_law_way" "_law_way" s__law_way,
  dd ("_law_rows", none) "_law_rows" "_law_rows" s__law_rows,
  dd ("_law_times", none) "_law_times" "_law_times" s__law_times,
  dd ("Row", some "__init__") "__init__" "Row.__init__" s_Row_init,
  dd ("check_untils", none) "check_untils" "check_untils" s_check_untils,
  dd ("shift_of", none) "shift_of" "shift_of" s_shift_of,
  dd ("counted", none) "counted" "counted" s_counted,
  dd ("count_in", none) "count_in" "count_in" s_count_in,
  dd ("Span", some "__init__") "__init__" "Span.__init__" s_Span_init,
  dd ("spans_of", none) "spans_of" "spans_of" s_spans_of,
  dd ("Wording", some "__init__") "__init__" "Wording.__init__" s_Wording_init,
  dd ("_law_made", none) "_law_made" "_law_made" s__law_made,
  dd ("_law_split", none) "_law_split" "_law_split" s__law_split,
  dd ("_law_bent", none) "_law_bent" "_law_bent" s__law_bent,
  dd ("_law_row_of", none) "_law_row_of" "_law_row_of" s__law_row_of,
  dd ("_law_count", none) "_law_count" "_law_count" s__law_count,
  dd ("_law_label", none) "_law_label" "_law_label" s__law_label,
  dd ("_law_first_unlike", none) "_law_first_unlike" "_law_first_unlike" s__law_first_unlike,
  dd ("starts", none) "starts" "starts" s_starts,
  dd ("demand_age", none) "demand_age" "demand_age" s_demand_age,
  dd ("first_with", none) "first_with" "first_with" s_first_with,
  dd ("Span", some "edge_after") "edge_after" "Span.edge_after" s_Span_edge_after,
  dd ("Wording", some "later_edge") "later_edge" "Wording.later_edge" s_Wording_later_edge,
  dd ("next_edge", none) "next_edge" "next_edge" s_next_edge,
  dd ("ages_to_try", none) "ages_to_try" "ages_to_try" s_ages_to_try,
  dd ("row_of", none) "row_of" "row_of" s_row_of,
  dd ("Wording", some "label") "label" "Wording.label" s_Wording_label,
  dd ("alike", none) "alike" "alike" s_alike,
  dd ("law", none) "law" "law" s_law]
def fa : List He.Fa := [.glo "_law_pen", .glo "_law_draw", .glo "_law_pick", .glo "_law_number", .glo "_law_way", .glo "_law_rows", .glo "_law_times", .glo "check_untils", .glo "shift_of", .glo "counted", .glo "count_in", .glo "spans_of", .glo "_law_made", .glo "_law_split", .glo "_law_bent", .glo "_law_row_of", .glo "_law_count", .glo "_law_label", .glo "_law_first_unlike", .glo "starts", .glo "demand_age", .glo "first_with", .glo "next_edge", .glo "ages_to_try", .glo "row_of", .glo "alike", .glo "law", .glo "Row", .cls "Row", .noat "Row" "until", .noat "Row" "unit", .noat "Row" "way", .noat "Row" "word", .glo "Span", .cls "Span", .noat "Span" "low", .noat "Span" "high", .noat "Span" "row", .noat "Span" "is_fresh", .glo "Wording", .cls "Wording", .noat "Wording" "rows", .noat "Wording" "spans", .free "len", .free "list", .free "tuple", .free "int", .free "min", .free "max", .free "sum", .free "range", .free "enumerate", .free "reversed", .free "sorted", .free "str", .free "all", .free "isinstance", .free "zip", .free "bool", .free "set", .free "dict", .free "any", .mkr "Row", .mkr "Span", .mkr "Wording", .meth "Span" "edge_after", .meth "Wording" "later_edge", .meth "Wording" "label"]
def tf : List He.Defn := Pu.tabDefs.map (·.1)
def exK (K : PySem.W.Frag) : Bool := true
abbrev R : PySem.W.OpenRow := PySem.W.OpenLaw.row PySem.Challenge.rw_agewords_k29_whole_wordings_alike
abbrev hk : PySem.W.Hook := He.hookX 5 fa fn [] tf exK
def ob (s : PySem.W.SharedT) : He.AlX := He.obsX 5 fa fn [] tf exK (HandSHeadRun.getT s)
theorem ob_eq (s : PySem.W.SharedT) : ob s = hk.obs s.abs := He.obsX_eq (HandSHeadRun.getT_eq s)
def names : List PySem.Str := (["_wall", "shift_of", "counted", "first_with", "AgeError", "BadRow", "BadText", "BadAge", "is_apart", "joined", "WAYS", "DIGITS", "LETTERS", "MOST_DIGITS", "MOST_LETTERS", "MOST_ROWS", "CHUNK_DIGITS", "CHUNK", "decimal", "number_or_dash"] : List PySem.Str) ++ (["row_line", "made_of", "is_number", "is_row", "value_of", "until_fits", "read_rows", "Row", "Span", "Wording", "demand_age", "check_untils", "row_of", "count_in", "spans_of", "number_of_edges", "alike", "starts", "ages_to_try", "next_edge"] : List PySem.Str) ++ (["_law_pen", "_law_draw", "_law_pick", "_law_number", "_law_way", "_law_rows", "_law_times", "_law_made", "_law_count", "_law_row_of", "_law_label", "_law_split", "_law_bent", "_law_first_unlike"] : List PySem.Str)
theorem run (w : World) : HandSHeadRun.RunEq R (PySem.W.view R.prog [61]) hk ob 8000 names w := by
  intro os
  kernel_rfl
def cs (K : PySem.W.Frag) : List (Addr × Addr) := tf.map (He.cT K)
theorem facts {P : Program} {w : World} {K : PySem.W.Frag} {h : Heap} {mg : Str → Option Value} {f : Addr} (X : K.In h) (G : h.Ns mainGlobals mg) (hfa : mg ("law" : Str) = some (.ref f)) (c : He.SaysX fa fn [] tf exK w h K) :
    ∃ fd : FuncData, (∀ (s : Shared) (v : Value), BindsTo s fd ⟨[v], []⟩ [("_law_script", v)]) ∧ ∀ base : Heap, K.In base → base.Ns mainGlobals mg → (∀ p ∈ cs K, LamX.TabB base mg p.1 p.2) → FnOk P w K mg base CX0 10 f fd ["_law_script"] (spLaw K) := by
  have T : Tx K mg (He.ga K "Row") (He.ga K "Span") (He.ga K "Wording") := ⟨He.cls_ok (c.t.d.fact 28 (f := .cls "Row") rfl), He.cls_ok (c.t.d.fact 34 (f := .cls "Span") rfl), He.cls_ok (c.t.d.fact 40 (f := .cls "Wording") rfl), He.glo_ok X G (c.t.d.fact 27 (f := .glo "Row") rfl), He.glo_ok X G (c.t.d.fact 33 (f := .glo "Span") rfl), He.glo_ok X G (c.t.d.fact 39 (f := .glo "Wording") rfl),
    He.noat_ok (c.t.d.fact 29 (f := .noat "Row" "until") rfl), He.noat_ok (c.t.d.fact 30 (f := .noat "Row" "unit") rfl), He.noat_ok (c.t.d.fact 31 (f := .noat "Row" "way") rfl), He.noat_ok (c.t.d.fact 32 (f := .noat "Row" "word") rfl), He.noat_ok (c.t.d.fact 35 (f := .noat "Span" "low") rfl), He.noat_ok (c.t.d.fact 36 (f := .noat "Span" "high") rfl), He.noat_ok (c.t.d.fact 37 (f := .noat "Span" "row") rfl), He.noat_ok (c.t.d.fact 38 (f := .noat "Span" "is_fresh") rfl), He.noat_ok (c.t.d.fact 41 (f := .noat "Wording" "rows") rfl), He.noat_ok (c.t.d.fact 42 (f := .noat "Wording" "spans") rfl)⟩
  have B : Bn mg := ⟨He.free_ok X G (c.t.d.fact 43 (f := .free "len") rfl), He.free_ok X G (c.t.d.fact 44 (f := .free "list") rfl), He.free_ok X G (c.t.d.fact 45 (f := .free "tuple") rfl), He.free_ok X G (c.t.d.fact 46 (f := .free "int") rfl), He.free_ok X G (c.t.d.fact 47 (f := .free "min") rfl), He.free_ok X G (c.t.d.fact 48 (f := .free "max") rfl), He.free_ok X G (c.t.d.fact 49 (f := .free "sum") rfl), He.free_ok X G (c.t.d.fact 50 (f := .free "range") rfl), He.free_ok X G (c.t.d.fact 51 (f := .free "enumerate") rfl), He.free_ok X G (c.t.d.fact 52 (f := .free "reversed") rfl), He.free_ok X G (c.t.d.fact 53 (f := .free "sorted") rfl), He.free_ok X G (c.t.d.fact 54 (f := .free "str") rfl), He.free_ok X G (c.t.d.fact 55 (f := .free "all") rfl), He.free_ok X G (c.t.d.fact 56 (f := .free "isinstance") rfl), He.free_ok X G (c.t.d.fact 57 (f := .free "zip") rfl), He.free_ok X G (c.t.d.fact 58 (f := .free "bool") rfl), He.free_ok X G (c.t.d.fact 59 (f := .free "set") rfl), He.free_ok X G (c.t.d.fact 60 (f := .free "dict") rfl), He.free_ok X G (c.t.d.fact 61 (f := .free "any") rfl)⟩
  obtain ⟨fd0, F0⟩ := c.t.d.def_ 0 (d := dd ("_law_pen", none) "_law_pen" "_law_pen" s__law_pen) rfl
  have F0 : Fn K "_law_pen" "_law_pen" s__law_pen (He.ga K "_law_pen") fd0 := F0
  have b0 : Binds K fd0 ["_law_script"] [] := F0.bindsN fun _ _ _ _ _ _ us hl => match us, hl with | [_], _ => rfl
  obtain ⟨fd1, F1⟩ := c.t.d.def_ 1 (d := dd ("_law_draw", none) "_law_draw" "_law_draw" s__law_draw) rfl
  have F1 : Fn K "_law_draw" "_law_draw" s__law_draw (He.ga K "_law_draw") fd1 := F1
  have b1 : Binds K fd1 ["_law_pen_here", "_law_many"] [] := F1.bindsN fun _ _ _ _ _ _ us hl => match us, hl with | [_, _], _ => rfl
  obtain ⟨fd2, F2⟩ := c.t.d.def_ 2 (d := dd ("_law_pick", none) "_law_pick" "_law_pick" s__law_pick) rfl
  have F2 : Fn K "_law_pick" "_law_pick" s__law_pick (He.ga K "_law_pick") fd2 := F2
  have b2 : Binds K fd2 ["_law_pen_here", "_law_items"] [] := F2.bindsN fun _ _ _ _ _ _ us hl => match us, hl with | [_, _], _ => rfl
  obtain ⟨fd3, F3⟩ := c.t.d.def_ 3 (d := dd ("_law_number", none) "_law_number" "_law_number" s__law_number) rfl
  have F3 : Fn K "_law_number" "_law_number" s__law_number (He.ga K "_law_number") fd3 := F3
  have b3 : Binds K fd3 ["_law_pen_here"] [] := F3.bindsN fun _ _ _ _ _ _ us hl => match us, hl with | [_], _ => rfl
  obtain ⟨fd4, F4⟩ := c.t.d.def_ 4 (d := dd ("_law_way", none) "_law_way" "_law_way" s__law_way) rfl
  have F4 : Fn K "_law_way" "_law_way" s__law_way (He.ga K "_law_way") fd4 := F4
  have b4 : Binds K fd4 ["_law_pen_here"] [] := F4.bindsN fun _ _ _ _ _ _ us hl => match us, hl with | [_], _ => rfl
  obtain ⟨fd5, F5⟩ := c.t.d.def_ 5 (d := dd ("_law_rows", none) "_law_rows" "_law_rows" s__law_rows) rfl
  have F5 : Fn K "_law_rows" "_law_rows" s__law_rows (He.ga K "_law_rows") fd5 := F5
  have b5 : Binds K fd5 ["_law_pen_here", "_law_most", "_law_words"] [] := F5.bindsN fun _ _ _ _ _ _ us hl => match us, hl with | [_, _, _], _ => rfl
  obtain ⟨fd6, F6⟩ := c.t.d.def_ 6 (d := dd ("_law_times", none) "_law_times" "_law_times" s__law_times) rfl
  have F6 : Fn K "_law_times" "_law_times" s__law_times (He.ga K "_law_times") fd6 := F6
  have b6 : Binds K fd6 ["_law_rows_here", "_law_factor"] [] := F6.bindsN fun _ _ _ _ _ _ us hl => match us, hl with | [_, _], _ => rfl
  obtain ⟨fd7, F7⟩ := c.t.d.def_ 7 (d := dd ("Row", some "__init__") "__init__" "Row.__init__" s_Row_init) rfl
  have F7 : Fn K "__init__" "Row.__init__" s_Row_init (He.ma K (He.ga K "Row") "__init__") fd7 := F7
  have b7 : Binds K fd7 ["self", "until", "unit", "way", "word"] [] := F7.bindsN fun _ _ _ _ _ _ us hl => match us, hl with | [_, _, _, _, _], _ => rfl
  obtain ⟨fd8, F8⟩ := c.t.d.def_ 8 (d := dd ("check_untils", none) "check_untils" "check_untils" s_check_untils) rfl
  have F8 : Fn K "check_untils" "check_untils" s_check_untils (He.ga K "check_untils") fd8 := F8
  have b8 : Binds K fd8 ["rows"] [] := F8.bindsN fun _ _ _ _ _ _ us hl => match us, hl with | [_], _ => rfl
  obtain ⟨fd9, F9⟩ := c.t.d.def_ 9 (d := dd ("shift_of", none) "shift_of" "shift_of" s_shift_of) rfl
  have F9 : Fn K "shift_of" "shift_of" s_shift_of (He.ga K "shift_of") fd9 := F9
  have b9 : Binds K fd9 ["unit", "way"] [] := F9.bindsN fun _ _ _ _ _ _ us hl => match us, hl with | [_, _], _ => rfl
  obtain ⟨fd10, F10⟩ := c.t.d.def_ 10 (d := dd ("counted", none) "counted" "counted" s_counted) rfl
  have F10 : Fn K "counted" "counted" s_counted (He.ga K "counted") fd10 := F10
  have b10 : Binds K fd10 ["number", "unit", "way"] [] := F10.bindsN fun _ _ _ _ _ _ us hl => match us, hl with | [_, _, _], _ => rfl
  obtain ⟨fd11, F11⟩ := c.t.d.def_ 11 (d := dd ("count_in", none) "count_in" "count_in" s_count_in) rfl
  have F11 : Fn K "count_in" "count_in" s_count_in (He.ga K "count_in") fd11 := F11
  have b11 : Binds K fd11 ["row", "age"] [] := F11.bindsN fun _ _ _ _ _ _ us hl => match us, hl with | [_, _], _ => rfl
  obtain ⟨fd12, F12⟩ := c.t.d.def_ 12 (d := dd ("Span", some "__init__") "__init__" "Span.__init__" s_Span_init) rfl
  have F12 : Fn K "__init__" "Span.__init__" s_Span_init (He.ma K (He.ga K "Span") "__init__") fd12 := F12
  have b12 : Binds K fd12 ["self", "low", "high", "row", "is_fresh"] [] := F12.bindsN fun _ _ _ _ _ _ us hl => match us, hl with | [_, _, _, _, _], _ => rfl
  obtain ⟨fd13, F13⟩ := c.t.d.def_ 13 (d := dd ("spans_of", none) "spans_of" "spans_of" s_spans_of) rfl
  have F13 : Fn K "spans_of" "spans_of" s_spans_of (He.ga K "spans_of") fd13 := F13
  have b13 : Binds K fd13 ["rows"] [] := F13.bindsN fun _ _ _ _ _ _ us hl => match us, hl with | [_], _ => rfl
  obtain ⟨fd14, F14⟩ := c.t.d.def_ 14 (d := dd ("Wording", some "__init__") "__init__" "Wording.__init__" s_Wording_init) rfl
  have F14 : Fn K "__init__" "Wording.__init__" s_Wording_init (He.ma K (He.ga K "Wording") "__init__") fd14 := F14
  have b14 : Binds K fd14 ["self", "rows"] [] := F14.bindsN fun _ _ _ _ _ _ us hl => match us, hl with | [_, _], _ => rfl
  obtain ⟨fd15, F15⟩ := c.t.d.def_ 15 (d := dd ("_law_made", none) "_law_made" "_law_made" s__law_made) rfl
  have F15 : Fn K "_law_made" "_law_made" s__law_made (He.ga K "_law_made") fd15 := F15
  have b15 : Binds K fd15 ["_law_rows_here"] [] := F15.bindsN fun _ _ _ _ _ _ us hl => match us, hl with | [_], _ => rfl
  obtain ⟨fd16, F16⟩ := c.t.d.def_ 16 (d := dd ("_law_split", none) "_law_split" "_law_split" s__law_split) rfl
  have F16 : Fn K "_law_split" "_law_split" s__law_split (He.ga K "_law_split") fd16 := F16
  have b16 : Binds K fd16 ["_law_pen_here", "_law_rows_here"] [] := F16.bindsN fun _ _ _ _ _ _ us hl => match us, hl with | [_, _], _ => rfl
  obtain ⟨fd17, F17⟩ := c.t.d.def_ 17 (d := dd ("_law_bent", none) "_law_bent" "_law_bent" s__law_bent) rfl
  have F17 : Fn K "_law_bent" "_law_bent" s__law_bent (He.ga K "_law_bent") fd17 := F17
  have b17 : Binds K fd17 ["_law_pen_here", "_law_rows_here"] [] := F17.bindsN fun _ _ _ _ _ _ us hl => match us, hl with | [_, _], _ => rfl
  obtain ⟨fd18, F18⟩ := c.t.d.def_ 18 (d := dd ("_law_row_of", none) "_law_row_of" "_law_row_of" s__law_row_of) rfl
  have F18 : Fn K "_law_row_of" "_law_row_of" s__law_row_of (He.ga K "_law_row_of") fd18 := F18
  have b18 : Binds K fd18 ["_law_rows_here", "_law_age"] [] := F18.bindsN fun _ _ _ _ _ _ us hl => match us, hl with | [_, _], _ => rfl
  obtain ⟨fd19, F19⟩ := c.t.d.def_ 19 (d := dd ("_law_count", none) "_law_count" "_law_count" s__law_count) rfl
  have F19 : Fn K "_law_count" "_law_count" s__law_count (He.ga K "_law_count") fd19 := F19
  have b19 : Binds K fd19 ["_law_unit", "_law_way_here", "_law_age"] [] := F19.bindsN fun _ _ _ _ _ _ us hl => match us, hl with | [_, _, _], _ => rfl
  obtain ⟨fd20, F20⟩ := c.t.d.def_ 20 (d := dd ("_law_label", none) "_law_label" "_law_label" s__law_label) rfl
  have F20 : Fn K "_law_label" "_law_label" s__law_label (He.ga K "_law_label") fd20 := F20
  have b20 : Binds K fd20 ["_law_rows_here", "_law_age"] [] := F20.bindsN fun _ _ _ _ _ _ us hl => match us, hl with | [_, _], _ => rfl
  obtain ⟨fd21, F21⟩ := c.t.d.def_ 21 (d := dd ("_law_first_unlike", none) "_law_first_unlike" "_law_first_unlike" s__law_first_unlike) rfl
  have F21 : Fn K "_law_first_unlike" "_law_first_unlike" s__law_first_unlike (He.ga K "_law_first_unlike") fd21 := F21
  have b21 : Binds K fd21 ["_law_one", "_law_other"] [] := F21.bindsN fun _ _ _ _ _ _ us hl => match us, hl with | [_, _], _ => rfl
  obtain ⟨fd22, F22⟩ := c.t.d.def_ 22 (d := dd ("starts", none) "starts" "starts" s_starts) rfl
  have F22 : Fn K "starts" "starts" s_starts (He.ga K "starts") fd22 := F22
  have b22 : Binds K fd22 ["one", "other"] [] := F22.bindsN fun _ _ _ _ _ _ us hl => match us, hl with | [_, _], _ => rfl
  obtain ⟨fd23, F23⟩ := c.t.d.def_ 23 (d := dd ("demand_age", none) "demand_age" "demand_age" s_demand_age) rfl
  have F23 : Fn K "demand_age" "demand_age" s_demand_age (He.ga K "demand_age") fd23 := F23
  have b23 : Binds K fd23 ["age"] [] := F23.bindsN fun _ _ _ _ _ _ us hl => match us, hl with | [_], _ => rfl
  obtain ⟨fd24, F24⟩ := c.t.d.def_ 24 (d := dd ("first_with", none) "first_with" "first_with" s_first_with) rfl
  have F24 : Fn K "first_with" "first_with" s_first_with (He.ga K "first_with") fd24 := F24
  have b24 : Binds K fd24 ["count", "unit", "way"] [] := F24.bindsN fun _ _ _ _ _ _ us hl => match us, hl with | [_, _, _], _ => rfl
  obtain ⟨fd25, F25⟩ := c.t.d.def_ 25 (d := dd ("Span", some "edge_after") "edge_after" "Span.edge_after" s_Span_edge_after) rfl
  have F25 : Fn K "edge_after" "Span.edge_after" s_Span_edge_after (He.ma K (He.ga K "Span") "edge_after") fd25 := F25
  have b25 : Binds K fd25 ["self", "age"] [] := F25.bindsN fun _ _ _ _ _ _ us hl => match us, hl with | [_, _], _ => rfl
  obtain ⟨fd26, F26⟩ := c.t.d.def_ 26 (d := dd ("Wording", some "later_edge") "later_edge" "Wording.later_edge" s_Wording_later_edge) rfl
  have F26 : Fn K "later_edge" "Wording.later_edge" s_Wording_later_edge (He.ma K (He.ga K "Wording") "later_edge") fd26 := F26
  have b26 : Binds K fd26 ["self", "age"] [] := F26.bindsN fun _ _ _ _ _ _ us hl => match us, hl with | [_, _], _ => rfl
  obtain ⟨fd27, F27⟩ := c.t.d.def_ 27 (d := dd ("next_edge", none) "next_edge" "next_edge" s_next_edge) rfl
  have F27 : Fn K "next_edge" "next_edge" s_next_edge (He.ga K "next_edge") fd27 := F27
  have b27 : Binds K fd27 ["one", "other", "age"] [] := F27.bindsN fun _ _ _ _ _ _ us hl => match us, hl with | [_, _, _], _ => rfl
  obtain ⟨fd28, F28⟩ := c.t.d.def_ 28 (d := dd ("ages_to_try", none) "ages_to_try" "ages_to_try" s_ages_to_try) rfl
  have F28 : Fn K "ages_to_try" "ages_to_try" s_ages_to_try (He.ga K "ages_to_try") fd28 := F28
  have b28 : Binds K fd28 ["one", "other", "start"] [] := F28.bindsN fun _ _ _ _ _ _ us hl => match us, hl with | [_, _, _], _ => rfl
  obtain ⟨fd29, F29⟩ := c.t.d.def_ 29 (d := dd ("row_of", none) "row_of" "row_of" s_row_of) rfl
  have F29 : Fn K "row_of" "row_of" s_row_of (He.ga K "row_of") fd29 := F29
  have b29 : Binds K fd29 ["rows", "age"] [] := F29.bindsN fun _ _ _ _ _ _ us hl => match us, hl with | [_, _], _ => rfl
  obtain ⟨fd30, F30⟩ := c.t.d.def_ 30 (d := dd ("Wording", some "label") "label" "Wording.label" s_Wording_label) rfl
  have F30 : Fn K "label" "Wording.label" s_Wording_label (He.ma K (He.ga K "Wording") "label") fd30 := F30
  have b30 : Binds K fd30 ["self", "age"] [] := F30.bindsN fun _ _ _ _ _ _ us hl => match us, hl with | [_, _], _ => rfl
  obtain ⟨fd31, F31⟩ := c.t.d.def_ 31 (d := dd ("alike", none) "alike" "alike" s_alike) rfl
  have F31 : Fn K "alike" "alike" s_alike (He.ga K "alike") fd31 := F31
  have b31 : Binds K fd31 ["one", "other"] [] := F31.bindsN fun _ _ _ _ _ _ us hl => match us, hl with | [_, _], _ => rfl
  obtain ⟨fd32, F32⟩ := c.t.d.def_ 32 (d := dd ("law", none) "law" "law" s_law) rfl
  have F32 : Fn K "law" "law" s_law (He.ga K "law") fd32 := F32
  have e := hfa.symm.trans (He.glo_ok X G (c.t.d.fact 26 (f := .glo "law") rfl))
  cases e
  have b := FunD.bindsA (ps := ["_law_script"]) F32 fun _ _ _ _ _ _ us hl => match us, hl with | [_], _ => rfl
  refine ⟨fd32, fun s v => b s [v] rfl, fun base _ _ tb => ?_⟩
  have c__law_pen : Cal P w K mg base CX0 1 "_law_pen" ["_law_script"] (spPen K) := ⟨_, _, ok_pen (P := P) (w := w) (base := base) F0 B, He.glo_ok X G (c.t.d.fact 0 (f := .glo "_law_pen") rfl), F0.kp, b0⟩
  have c__law_draw : Cal P w K mg base CX0 1 "_law_draw" ["_law_pen_here", "_law_many"] spDraw := ⟨_, _, ok_draw (P := P) (w := w) (base := base) F1 B, He.glo_ok X G (c.t.d.fact 1 (f := .glo "_law_draw") rfl), F1.kp, b1⟩
  have c__law_pick : Cal P w K mg base CX0 2 "_law_pick" ["_law_pen_here", "_law_items"] spPick := ⟨_, _, ok_pick (P := P) (w := w) (base := base) F2 B c__law_draw, He.glo_ok X G (c.t.d.fact 2 (f := .glo "_law_pick") rfl), F2.kp, b2⟩
  have c__law_number : Cal P w K mg base CX0 3 "_law_number" ["_law_pen_here"] spNumber := ⟨_, _, ok_number (P := P) (w := w) (base := base) F3 c__law_draw c__law_pick, He.glo_ok X G (c.t.d.fact 3 (f := .glo "_law_number") rfl), F3.kp, b3⟩
  have c__law_way : Cal P w K mg base CX0 3 "_law_way" ["_law_pen_here"] spWay := ⟨_, _, ok_way (P := P) (w := w) (base := base) F4 c__law_pick, He.glo_ok X G (c.t.d.fact 4 (f := .glo "_law_way") rfl), F4.kp, b4⟩
  have c__law_rows : Cal P w K mg base CX0 4 "_law_rows" ["_law_pen_here", "_law_most", "_law_words"] spRows := ⟨_, _, ok_rowsF (P := P) (w := w) (base := base) F5 B c__law_draw c__law_pick c__law_number c__law_way, He.glo_ok X G (c.t.d.fact 5 (f := .glo "_law_rows") rfl), F5.kp, b5⟩
  have c__law_times : Cal P w K mg base CX0 1 "_law_times" ["_law_rows_here", "_law_factor"] spTimes := ⟨_, _, ok_times (P := P) (w := w) (base := base) F6 , He.glo_ok X G (c.t.d.fact 6 (f := .glo "_law_times") rfl), F6.kp, b6⟩
  have c_Row_init : Mak P w K mg base CX0 1 (He.ga K "Row") ["self", "until", "unit", "way", "word"] (spRowI (He.ga K "Row")) := ⟨_, _, ok_row (P := P) (w := w) (base := base) F7 T, He.mkr_ok (c.t.d.fact 62 (f := .mkr "Row") rfl), b7⟩
  have c_check_untils : Cal P w K mg base CX0 1 "check_untils" ["rows"] (spCheck (He.ga K "Row")) := ⟨_, _, ok_check (P := P) (w := w) (base := base) F8 T B, He.glo_ok X G (c.t.d.fact 7 (f := .glo "check_untils") rfl), F8.kp, b8⟩
  have c_shift_of : Cal P w K mg base CX0 1 "shift_of" ["unit", "way"] spShift := ⟨_, _, ok_shift (P := P) (w := w) (base := base) F9 , He.glo_ok X G (c.t.d.fact 8 (f := .glo "shift_of") rfl), F9.kp, b9⟩
  have c_counted : Cal P w K mg base CX0 2 "counted" ["number", "unit", "way"] spCounted := ⟨_, _, ok_counted (P := P) (w := w) (base := base) F10 c_shift_of, He.glo_ok X G (c.t.d.fact 9 (f := .glo "counted") rfl), F10.kp, b10⟩
  have c_count_in : Cal P w K mg base CX0 3 "count_in" ["row", "age"] (spCountIn (He.ga K "Row")) := ⟨_, _, ok_countIn (P := P) (w := w) (base := base) F11 T c_counted, He.glo_ok X G (c.t.d.fact 10 (f := .glo "count_in") rfl), F11.kp, b11⟩
  have c_Span_init : Mak P w K mg base CX0 1 (He.ga K "Span") ["self", "low", "high", "row", "is_fresh"] (spSpanI (He.ga K "Span")) := ⟨_, _, ok_spanI (P := P) (w := w) (base := base) F12 T, He.mkr_ok (c.t.d.fact 63 (f := .mkr "Span") rfl), b12⟩
  have c_spans_of : Cal P w K mg base CX0 4 "spans_of" ["rows"] (spSpans (He.ga K "Row") (He.ga K "Span")) := ⟨_, _, ok_spans (P := P) (w := w) (base := base) F13 T B c_count_in c_Span_init, He.glo_ok X G (c.t.d.fact 11 (f := .glo "spans_of") rfl), F13.kp, b13⟩
  have c_Wording_init : Mak P w K mg base CX0 5 (He.ga K "Wording") ["self", "rows"] (spWordI K (He.ga K "Row") (He.ga K "Span") (He.ga K "Wording")) := ⟨_, _, ok_wordI (P := P) (w := w) (base := base) F14 T B c_check_untils c_spans_of, He.mkr_ok (c.t.d.fact 64 (f := .mkr "Wording") rfl), b14⟩
  have c__law_made : Cal P w K mg base CX0 7 "_law_made" ["_law_rows_here"] (spMade (He.ga K "Row") (He.ga K "Span") (He.ga K "Wording")) := ⟨_, _, ok_made (P := P) (w := w) (base := base) F15 T c_Row_init c_Wording_init, He.glo_ok X G (c.t.d.fact 12 (f := .glo "_law_made") rfl), F15.kp, b15⟩
  have c__law_split : Cal P w K mg base CX0 2 "_law_split" ["_law_pen_here", "_law_rows_here"] (Pu.lift K wSplit) := ⟨_, _, ok_split (P := P) (w := w) (base := base) F16 B (pu_draw c__law_draw), He.glo_ok X G (c.t.d.fact 13 (f := .glo "_law_split") rfl), F16.kp, b16⟩
  have c__law_bent : Cal P w K mg base CX0 4 "_law_bent" ["_law_pen_here", "_law_rows_here"] (Pu.lift K wBent) := ⟨_, _, ok_bent (P := P) (w := w) (base := base) F17 B (pu_draw c__law_draw) (pu_pick c__law_pick) (pu_way c__law_way), He.glo_ok X G (c.t.d.fact 14 (f := .glo "_law_bent") rfl), F17.kp, b17⟩
  have c__law_row_of : Cal P w K mg base CX0 1 "_law_row_of" ["_law_rows_here", "_law_age"] spLrow := ⟨_, _, ok_lrow (P := P) (w := w) (base := base) F18 B, He.glo_ok X G (c.t.d.fact 15 (f := .glo "_law_row_of") rfl), F18.kp, b18⟩
  have c__law_count : Cal P w K mg base CX0 1 "_law_count" ["_law_unit", "_law_way_here", "_law_age"] spLcount := ⟨_, _, ok_lcount (P := P) (w := w) (base := base) F19 , He.glo_ok X G (c.t.d.fact 16 (f := .glo "_law_count") rfl), F19.kp, b19⟩
  have c__law_label : Cal P w K mg base CX0 2 "_law_label" ["_law_rows_here", "_law_age"] spLlabel := ⟨_, _, ok_llabel (P := P) (w := w) (base := base) F20 c__law_row_of c__law_count, He.glo_ok X G (c.t.d.fact 17 (f := .glo "_law_label") rfl), F20.kp, b20⟩
  have c__law_first_unlike : Cal P w K mg base CX0 3 "_law_first_unlike" ["_law_one", "_law_other"] (Pu.lift K wFirstU) := ⟨_, _, ok_firstU (P := P) (w := w) (base := base) F21 B (pu_llabel c__law_label), He.glo_ok X G (c.t.d.fact 18 (f := .glo "_law_first_unlike") rfl), F21.kp, b21⟩
  have c_starts : Cal P w K mg base CX0 1 "starts" ["one", "other"] (Pu.lift K (wStarts (He.ga K "Row") (He.ga K "Span") (He.ga K "Wording"))) := ⟨_, _, ok_starts (P := P) (w := w) (base := base) F22 T B, He.glo_ok X G (c.t.d.fact 19 (f := .glo "starts") rfl), F22.kp, b22⟩
  have c_demand_age : Cal P w K mg base CX0 1 "demand_age" ["age"] spDemand := ⟨_, _, ok_demand (P := P) (w := w) (base := base) F23 , He.glo_ok X G (c.t.d.fact 20 (f := .glo "demand_age") rfl), F23.kp, b23⟩
  have c_first_with : Cal P w K mg base CX0 2 "first_with" ["count", "unit", "way"] spFirst := ⟨_, _, ok_first (P := P) (w := w) (base := base) F24 c_shift_of, He.glo_ok X G (c.t.d.fact 21 (f := .glo "first_with") rfl), F24.kp, b24⟩
  have c_Span_edge_after : Met P w K mg base CX0 4 (He.ga K "Span") "edge_after" ["self", "age"] (spEdgeAfter (He.ga K "Row") (He.ga K "Span")) := ⟨_, _, ok_edgeAfter (P := P) (w := w) (base := base) F25 T B c_count_in c_first_with, He.meth_ok (c.t.d.fact 65 (f := .meth "Span" "edge_after") rfl), b25⟩
  have c_Wording_later_edge : Met P w K mg base CX0 5 (He.ga K "Wording") "later_edge" ["self", "age"] (spLater (He.ga K "Row") (He.ga K "Span") (He.ga K "Wording")) := ⟨_, _, ok_later (P := P) (w := w) (base := base) F26 T c_demand_age c_Span_edge_after, He.meth_ok (c.t.d.fact 66 (f := .meth "Wording" "later_edge") rfl), b26⟩
  have c_next_edge : Cal P w K mg base CX0 6 "next_edge" ["one", "other", "age"] (Pu.lift K (wNextE (He.ga K "Row") (He.ga K "Span") (He.ga K "Wording"))) := ⟨_, _, ok_nextE (P := P) (w := w) (base := base) F27 T B (pu_later c_Wording_later_edge), He.glo_ok X G (c.t.d.fact 22 (f := .glo "next_edge") rfl), F27.kp, b27⟩
  have c_ages_to_try : Cal P w K mg base CX0 7 "ages_to_try" ["one", "other", "start"] (Pu.lift K (wTries (He.ga K "Row") (He.ga K "Span") (He.ga K "Wording"))) := ⟨_, _, ok_tries (P := P) (w := w) (base := base) F28 B c_next_edge, He.glo_ok X G (c.t.d.fact 23 (f := .glo "ages_to_try") rfl), F28.kp, b28⟩
  have c_row_of : Cal P w K mg base CX0 1 "row_of" ["rows", "age"] (spRowOf (He.ga K "Row")) := ⟨_, _, ok_rowOf (P := P) (w := w) (base := base) F29 T, He.glo_ok X G (c.t.d.fact 24 (f := .glo "row_of") rfl), F29.kp, b29⟩
  have c_Wording_label : Met P w K mg base CX0 4 (He.ga K "Wording") "label" ["self", "age"] (spLabel (He.ga K "Row") (He.ga K "Span") (He.ga K "Wording")) := ⟨_, _, ok_label (P := P) (w := w) (base := base) F30 T c_demand_age c_row_of c_count_in, He.meth_ok (c.t.d.fact 67 (f := .meth "Wording" "label") rfl), b30⟩
  have c_alike : Cal P w K mg base CX0 8 "alike" ["one", "other"] (Pu.lift K (wAlike (He.ga K "Row") (He.ga K "Span") (He.ga K "Wording"))) := ⟨_, _, ok_alike (P := P) (w := w) (base := base) F31 T B c_starts c_ages_to_try (pu_label c_Wording_label), He.glo_ok X G (c.t.d.fact 25 (f := .glo "alike") rfl), F31.kp, b31⟩
  exact ok_law (P := P) (w := w) (base := base) F32 T B c__law_pen (pu_rows c__law_rows) (pu_pick c__law_pick) (pu_times c__law_times) (pu_made c__law_made) c__law_split (pu_draw c__law_draw) c__law_bent c__law_first_unlike c_alike
end Age
open PySem PySem.W PySem.Calls PyProof.Rows
theorem PySem.Challenge.cw_agewords_k29_whole_wordings_alike_holds : PySem.Challenge.rw_agewords_k29_whole_wordings_alike.Holds := by
  w_on; o_law
  refine HandSHeadRun.head_any (r := Age.R) (q := view Age.R.prog [61]) (H := Age.hk) (ob := Age.ob) (M := 8000) (loose := Age.names) (d := HandSHeadRun.topDef Age.R.prog 61) (kwd := []) Age.ob_eq
    (by kernel_rfl) (fun s => by kernel_rfl) Age.run (by kernel_rfl) (by kernel_rfl) (by kernel_rfl) (by rfl) (by first | assumption | decide +kernel) (by decide +kernel) ⟨rfl, rfl, rfl, rfl, rfl, by decide +kernel⟩ ?hw ?hc
  case hw => w_witness2
  case hc =>
    refine LamX.walk_ofTsE (l := PySem.Challenge.rw_agewords_k29_whole_wordings_alike) (n := 63) (k := 10) (x := "_law_script") (CX := fun _ => L2.CX0) rfl (by decide) (by kernel_rfl) ⟨rfl, by decide, by decide⟩ ?F (fun _ _ _ _ _ z => z)
    intro w mg fa h Y G hmg0
    obtain ⟨K, KX, c⟩ := Y
    have hmg : mg ("law" : PySem.Str) = some (.ref fa) := by
      have e : (HandSHeadRun.topDef Age.R.prog 61).name = ("law" : PySem.Str) := by kernel_rfl
      rw [← e]
      exact hmg0
    obtain ⟨fd, hb, hF⟩ := Age.facts (P := (PySem.Challenge.rw_agewords_k29_whole_wordings_alike).prog) (w := w) KX G hmg c
    have inT : ∀ p ∈ Age.cs K, ∃ d ∈ Age.tf, p = He.cT K d := fun p hp => by
      obtain ⟨d, hd, e⟩ := List.mem_map.mp hp
      exact ⟨d, hd, e.symm⟩
    refine ⟨K, KX, fd, Age.cs K, Age.spLaw K, fun p hp => ?_, fun p hp => ?_, fun p hp => ?_, hb, fun H a ns hl _ hT hS => ⟨a, ns, rfl, hS, Nat.le_trans hl (by decide), fun t ht => ?_, fun _ => rfl⟩, hF⟩
    · obtain ⟨d, hd, rfl⟩ := inT p hp
      exact c.empty d hd
    · obtain ⟨d, hd, rfl⟩ := inT p hp
      exact c.out d hd
    · obtain ⟨d, hd, rfl⟩ := inT p hp
      exact PySem.W.codeHd_of_K KX (c.hd d hd)
    · obtain ⟨d, hd, rfl⟩ := List.mem_map.mp ht
      have hd1 : d.1 ∈ Age.tf := List.mem_map.mpr ⟨d, hd, rfl⟩
      exact ⟨hT (He.cT K d.1) (List.mem_map.mpr ⟨d.1, hd1, rfl⟩), c.out d.1 hd1⟩
