import PyProof.Rows.All
import Wide.All
import OpenK.AllK
import Wide.FinOn
import KE.GoesEnum
import HandS.ForMost
import HandS.Walk
import KE.KRevSl
import PyProof.ReprReads
import PyProof.ReprRoads
import HandS.IsInst
import HandS.Defaults
import HandS.TupAny
import HandS.TupMul
import HandS.Conv
import HandS.Zip
import HandS.SortInts
import HandS.WordsExc
import HandS.ExcOwn
import HandS.ExcIs
import HandS.ExcInit
import KE.KMathGC
import PyProof.ReprLen
import HandS.NoneIn
import HandS.DictComp
import KE.KDictPairs
import HandS.TupLe
import HandS.SetFor
import PySem.Challenge.RW_keyriders_k24_whole_kinds_of_tables
set_option Elab.async false
set_option linter.all false
set_option maxRecDepth 100000
set_option maxHeartbeats 4000000
namespace Kr
open PySem PySem.Spec PyProof.Rows L2
open AutoSeq1 (wpAny_loadPart')

theorem enum_new_tup (l : Addr) (items : Array Value) :
    Meets (Builtin.«enumerate.__new__» ⟨[.type "enumerate", .ref l], []⟩) (fun _ R s => s.heap.IsTuple l items ∧
      R (.ok (.ret (.ref (s.heap.push { cls := .type "tuple_iterator", data := .fields #[.ref l, .int 0 0] }).objs.size)))
        { s with heap := (s.heap.push { cls := .type "tuple_iterator", data := .fields #[.ref l, .int 0 0] }).push { cls := .type "enumerate", data := .fields #[.none, .bool false, .ref s.heap.objs.size, rawInt 0, .none, .none] } }) :=
  .of_wp fun prog w A R s h => by
    obtain ⟨hp, g, d, tk, os⟩ := s
    obtain ⟨hL, h⟩ := h
    have hsub := sub_enumerate
    wp_walk using wpAny_pyIter_tuple hL
    refine wpAny_stack_any fun st => wpAny_pure ?_
    split
    · rename_i c _ _ _ _ _
      cases (c == Value.type "enumerate")
      all_goals
        wp_walk using wpAny_pyIter_tuple hL
        exact ⟨_, rfl, h⟩
    · wp_walk using wpAny_pyIter_tuple hL
      exact ⟨_, rfl, h⟩

section
variable {prog : Program} {w : World} {A : Around} {E : Value → Shared → Prop} {s : Shared}
theorem enum_call_tup {l : Addr} {items : Array Value} {Q : Value → Shared → Prop} (hL : s.heap.IsTuple l items)
    (h : ∀ h', IsEnum h' (s.heap.objs.size + 1) s.heap.objs.size 0 .none → h'.IsTupleIter s.heap.objs.size l 0 → h'.objs.size = s.heap.objs.size + 2 →
      (∀ b o, s.heap.get? b = some o → h'.get? b = some o) → Q (.ref (s.heap.objs.size + 1)) { s with heap := h' }) :
    wpAny (model prog w) A (call (.type "enumerate") [.ref l]) Q E s := by
  refine callType_new F.called_enumerate (by decide) (F.typeCall_enumerate_1 _) (F.newCall_enumerate_1 _) (fun obj => F.args_object_init_2 obj _) F.entry_enumerate_new
    (enum_new_tup l items) ⟨hL, ?_⟩
  generalize hh1 : s.heap.push { cls := .type "tuple_iterator", data := .fields #[.ref l, .int 0 0] } = h1
  have hz : h1.objs.size = s.heap.objs.size + 1 := by rw [← hh1]; exact Heap.size_push ..
  have g1 : h1.get? s.heap.objs.size = some { cls := .type "tuple_iterator", data := .fields #[.ref l, .int 0 0] } := by rw [← hh1]; exact Heap.get?_push_size _ rfl
  have k1 : ∀ b o, s.heap.get? b = some o → h1.get? b = some o := fun b o e => by rw [← hh1]; exact Heap.get?_push_of_some _ e
  have he : IsEnum (h1.push { cls := .type "enumerate", data := .fields #[.none, .bool false, .ref s.heap.objs.size, rawInt 0, .none, .none] }) (s.heap.objs.size + 1) s.heap.objs.size 0 .none := by
    have q := Heap.get?_push_size h1 (o := { cls := .type "enumerate", data := .fields #[.none, .bool false, .ref s.heap.objs.size, rawInt 0, .none, .none] }) rfl
    rw [hz] at q
    exact q
  show _ ∧ _
  rw [hz]
  exact ⟨⟨_, he, rfl⟩, h _ he ⟨_, Heap.get?_push_of_some _ g1, rfl, rfl⟩ (by rw [Heap.size_push, hz]) fun b o x => Heap.get?_push_of_some _ (k1 b o x)⟩
end

/-- the tuple at a, each item in a new pair -/
def Itet (K : PySem.W.Frag) (a : Addr) : It :=
  ⟨fun i H => ∃ (xs : List V) (x : V), SqT K H a xs ∧ xs[i]? = some x,
    fun i H v H' => ∃ T x, v = .ref T ∧ H T = none ∧ H' = upd H T (.tup [.int (i : Nat), x]) ∧ ∀ xs, SqT K H a xs → xs[i]? = some x,
    fun i H => ∃ xs : List V, SqT K H a xs ∧ xs.length = i⟩
theorem tup_ne {h : Heap} {a it : Addr} {items : Array Value} {o : Obj} (p : IsTup h a items) (ho : h.get? it = some o) (hc : o.cls ≠ .type "tuple") : a ≠ it := fun z => by
  obtain ⟨u, hu, hcu, _⟩ := p
  rw [z, ho] at hu
  cases hu
  exact hc hcu
theorem turn_enumT {P : Program} {w : World} {K : PySem.W.Frag} {elts : List Expr} {kk : Nat} {tpos : Pos} (a e it : Addr) :
    Turn P w K (.Tuple elts kk tpos) (Itet K a) [e, it] e (fun i h => (∃ old, IsEnum h e it ((i : Nat) : Int) old) ∧ h.IsTupleIter it a i ∧ e ≠ it) where
  mem := by simp
  obj := fun i h st b hb => by
    obtain ⟨⟨old, he⟩, ⟨o, ho, hc, hd⟩, _⟩ := st
    rcases (show b = e ∨ b = it by simpa using hb) with z | z
    · rw [z]; exact ⟨_, he, fun v q => nomatch q⟩
    · rw [z]; exact ⟨o, ho, fun v q => by rw [hd] at q; cases q⟩
  keep := fun i h h' st k => let ⟨⟨old, he⟩, hi, hne⟩ := st; ⟨⟨old, k e (by simp) _ he⟩, hi.at fun o q => k it (by simp) o q, hne⟩
  item := by
    intro X hP hw hK hc i pins s σ H E I hf st hg
    subst hP hw hK
    obtain ⟨⟨old, he⟩, hit, hne⟩ := st
    obtain ⟨xs, x, hq, hx⟩ := hg
    obtain ⟨its, rv, p, hz⟩ := I.tuple hq
    obtain ⟨u, hu, ru⟩ := rv.get hx
    have hel : e < s.heap.objs.size := Heap.lt_size he
    have hil : it < s.heap.objs.size := by obtain ⟨_, q, _⟩ := hit; exact Heap.lt_size q
    have nai : a ≠ it := by
      obtain ⟨o, ho, hcl, _⟩ := id hit
      exact tup_ne p ho (by rw [hcl]; decide)
    have hlt : i < its.toArray.size := by
      rw [List.size_toArray]
      exact (List.getElem?_eq_some_iff.mp hu).1
    have nea : e ≠ a := fun z => tup_ne p he (by show Value.type "enumerate" ≠ Value.type "tuple"; decide) z.symm
    refine PySem.wpAny_pyNext_enum_itemC (Draws.tuple (A := X.A.in1) (I.ok.hd hc) it a nai its.toArray) he ⟨hit, p⟩ hlt hne (by simp [hne, nea]) fun y h' tk hy ho hst hT hsz hk => ?_
    have ey : y = u := by
      have : its.toArray[i]? = some y := hy
      rw [List.getElem?_toArray, hu] at this
      exact (Option.some.inj this).symm
    subst ey
    refine ⟨_, rfl, wpAny_letOwnedTupleGo_enum (s := { s with heap := h', toks := tk + 1 }) ho fun h'' he' sb => ?_⟩
    have hT2 : h''.get? s.heap.objs.size = some { cls := .type "tuple", data := .seq #[.int i tk, y] } := (sb.2 _ (Nat.ne_of_gt hel)).trans hT
    have new : ObjOk X.prog X.w (upd H s.heap.objs.size (.tup [.int (i : Nat), x])) h'' s.heap.objs.size (.tup [.int (i : Nat), x]) :=
      ⟨by show 2 ≤ sizeLine; decide, [.int i tk, y], .cons ⟨_, rfl⟩ (.cons ru .nil), ⟨_, hT2, rfl, _, rfl⟩⟩
    have I1 : Inv X pins σ (upd H s.heap.objs.size (.tup [.int (i : Nat), x])) { s with heap := h'', toks := tk + 1 } :=
      I.turnedNew (ch := [e, it]) (fun b ob hb q => (sb.2 b (fun z => hb (by simp [z]))).trans (hk b ob (fun z => hb (by simp [z])) (fun z => hb (by simp [z])) q)) hf (Nat.le_refl _) new
    refine ⟨.ref s.heap.objs.size, _, I1, rfl, ⟨_, x, rfl, I.hok.fresh (Nat.le_refl _), rfl, fun ys hy => by rw [I.tuple_inj hy hq]; exact hx⟩, ⟨⟨y, ?_⟩, hst.1.at fun o q => (sb.2 it (Ne.symm hne)).trans q, hne⟩, fun b hb => ?_⟩
    · rw [show ((i + 1 : Nat) : Int) = (i : Int) + 1 by omega]
      exact he'
    · have hb' : b < s.heap.objs.size := by
        rcases (show b = e ∨ b = it by simpa using hb) with z | z
        · rw [z]; exact hel
        · rw [z]; exact hil
      rw [upd_ne (Nat.ne_of_lt hb')]
      exact (hf b hb).1
  done := by
    intro X hP hw hK hc i pins s σ H E I hf st hg
    subst hP hw hK
    obtain ⟨⟨old, he⟩, hit, hne⟩ := st
    obtain ⟨xs, hq, hx⟩ := hg
    obtain ⟨its, rv, p, hz⟩ := I.tuple hq
    obtain ⟨f0, f1, f2, f3, f4, f5⟩ := hf it (by simp)
    have nai : a ≠ it := by
      obtain ⟨o, ho, hcl, _⟩ := id hit
      exact tup_ne p ho (by rw [hcl]; decide)
    have ez : its.toArray.size = i := by
      rw [List.size_toArray, ← rv.length, hx]
    refine PySem.wpAny_pyNext_enum_endD (Draws.tuple (A := X.A.in1) (I.ok.hd hc) it a nai its.toArray) he ?_ fun h' eb => ⟨rfl, I.turned (t' := s.toks) (fun b o hb q => eb b o hb q) f0 f1 f3 f4 f5⟩
    rw [ez]
    exact ⟨hit, p⟩
  self := fun A i s Q E st h => let ⟨⟨_, he⟩, _⟩ := st; wpAny_pyIter_enum he h
def iEnumT (K : PySem.W.Frag) (ta : TA) : TI := fun σ H R => ta σ H fun vs H1 => ∃ a xs, vs = [.ref a] ∧ SqT K H1 a xs ∧ R (Itet K a) H1
theorem pi_enumT {X : Cx} {e : Expr} {ta : TA} {p pos tpos : Pos} {elts : List Expr} {kk : Nat} (hg : Gl X "enumerate") (hm : X.mg "enumerate" = none) (ha : PA X [e] ta) (hs : starEach [e] X.env = [(false, eval e X.env)] := by rfl) :
    PI X (.Tuple elts kk tpos) (.Call (.Name "enumerate" p) [e] [] pos) (iEnumT X.K ta) := by
  refine ⟨fun pins s σ H R I h => Call_ (ld_blt I hg hm boot_enumerate (PyProof.Rows.callWith_type1 (thn (ha.run pos pins s σ H _ I h) fun us s1 ⟨vs, H1, I1, r1, q1⟩ => ?_) hs rfl))⟩
  obtain ⟨a, xs, rfl, hq, q⟩ := q1
  obtain rfl := Vals.ref1 r1
  obtain ⟨its, rv, p', hz⟩ := I1.tuple hq
  refine enum_call_tup p' fun h' he hit hsz hk => wpAny_pyIter_enum he ?_
  have I2 : Inv X pins σ H1 { s1 with heap := h' } := I1.kept (t' := s1.toks) hk
  refine ⟨s1.heap.objs.size + 1, [s1.heap.objs.size + 1, s1.heap.objs.size], _, _, H1, rfl, I2, turn_enumT a (s1.heap.objs.size + 1) s1.heap.objs.size, ⟨⟨.none, he⟩, hit, Nat.succ_ne_self _⟩, fun b hb => ?_, q⟩
  have hle : s1.heap.objs.size ≤ b := by
    rcases (show b = s1.heap.objs.size + 1 ∨ b = s1.heap.objs.size by simpa using hb) with z | z <;> rw [z]
    · exact Nat.le_succ _
    · exact Nat.le_refl _
  exact I1.fpOk hle (I1.hok.fresh hle)

theorem walk_enumT {K : PySem.W.Frag} {a : Addr} {xs : List V} : Walk (Itet K a) xs.length (fun H => SqT K H a xs) (YPair (fun i => some (.int (i : Nat))) (fun i => xs[i]?)) := by
  refine ⟨fun i _ hi q => ⟨xs, xs[i], q, List.getElem?_eq_getElem hi⟩, fun _ q => ⟨xs, q, rfl⟩, fun i H v H' _ q y => ?_⟩
  obtain ⟨T, x, e1, e2, e3, e4⟩ := y
  exact ⟨T, _, x, e1, e2, e3, rfl, e4 xs q⟩
end Kr
namespace Kr
open PySem PySem.Spec PyProof.Rows L2 HT
theorem adj_rev (n : Nat) : Builtin.Slice.sliceAdjust none none (-1) (n : Int) = ((n : Int) - 1, -1) := by
  unfold Builtin.Slice.sliceAdjust
  simp
theorem pla_rev (n : Nat) : Builtin.Slice.slicePlaces ((n : Int) - 1) (-1) (-1) = n := by
  unfold Builtin.Slice.slicePlaces
  simp
  omega
theorem pick_rev (xs : Array Value) : ((List.range xs.size).filterMap fun (m : Nat) => xs[(((xs.size : Nat) : Int) - 1 + (m : Int) * (-1)).toNat]?).toArray = xs.toList.reverse.toArray := by
  have e : (fun (m : Nat) => xs[(((xs.size : Nat) : Int) - 1 + (m : Int) * (-1)).toNat]?) = (fun k => xs[k]?) ∘ fun (m : Nat) => xs.size - 1 - m := by
    funext m
    show _ = xs[xs.size - 1 - m]?
    rw [show (((xs.size : Nat) : Int) - 1 + (m : Int) * (-1)).toNat = xs.size - 1 - m by omega]
  rw [e, ← List.filterMap_map, PySem.W.krv_range, List.filterMap_reverse, PySem.W.krv_all]
section
variable {prog : Program} {w : World} {A : Around} {E : Value → Shared → Prop} {s : Shared}
theorem applied_rev {sl : Addr} {vk : Value} {n : Nat} {Q : Int × Int × Nat → Shared → Prop} (hs : s.heap.IsSliceOf sl .none .none vk) (pk : IsPart vk (some (-1)))
    (h : Q ((n : Int) - 1, -1, n) s) : wpAny (model prog w) A (Builtin.Slice.sliceApplied (.ref sl) (pure (n : Int))) Q E s := by
  obtain ⟨os, hos, hcs, hds⟩ := id hs
  unfold Builtin.Slice.sliceApplied Builtin.Slice.sliceFields
  refine wpAny_bind (wpAny_bind (wpAny_field hos hds (x := .none) rfl (wpAny_bind (wpAny_field hos hds (x := .none) rfl (wpAny_bind (wpAny_field hos hds (x := vk) rfl (wpAny_pure ?_)))))))
  refine wpAny_bind (slicePart_ pk ?_)
  show wpAny _ _ (if ((-1 : Int) == 0) = true then _ else _) _ _ s
  rw [if_neg (by decide)]
  refine wpAny_bind (slicePart_none (wpAny_bind (slicePart_none (wpAny_bind (wpAny_pure ?_)))))
  show wpAny _ _ (match Builtin.Slice.sliceAdjust none none (-1) (n : Int) with | (lo, hi) => pure (lo, (-1 : Int), Builtin.Slice.slicePlaces lo hi (-1))) _ _ s
  rw [adj_rev n]
  show wpAny _ _ (pure ((n : Int) - 1, (-1 : Int), Builtin.Slice.slicePlaces ((n : Int) - 1) (-1) (-1))) _ _ s
  rw [pla_rev]
  exact wpAny_pure h
theorem tuple_rev {t sl : Addr} {items : Array Value} {vk : Value} {Q : Value → Shared → Prop} (ht : IsTup s.heap t items) (hs : s.heap.IsSliceOf sl .none .none vk) (pk : IsPart vk (some (-1)))
    (h : Q (.ref s.heap.objs.size) { s with heap := s.heap.push { cls := .type "tuple", data := .seq items.toList.reverse.toArray } })
    (hsz : items.size ≤ sizeLine) : wpAny (model prog w) A (getItem (.ref t) (.ref sl)) Q E s := by
  have hok : sizeOk (.seq items.toList.reverse.toArray) := by
    show items.toList.reverse.toArray.size ≤ sizeLine
    rw [List.size_toArray, List.length_reverse, Array.length_toList]
    exact hsz
  obtain ⟨os, hos, hcs, hds⟩ := id hs
  have hTs : s.TypeIs (.ref sl) "slice" := ⟨os, hos, hcs⟩
  unfold getItem
  try with_reducible refine wpAny_holding ?_
  first | refine wpAny_bind (wpAny_pure ?_) | skip
  refine wpAny_bind (wpAny_sequenceKey ht.typeIs (by decide) ?_)
  refine wpAny_bind (wpAny_callSpecial?_slot (name := Str.ofString "__getitem__") ht.typeIs PyProof.Rows.slot_tuple_getitem
    (wpAny_call_entry PyProof.Rows.slot_tuple_getitem ht.typeIs entry_tuple_getitem ?_ (args_tuple_getitem _ _)))
  show wpAny _ _ (Builtin.Tuple.tupleItemsOf (.ref t) >>= _) _ _ s
  refine wpAny_bind (tupleItemsOf_ ht (wpAny_bind (wpAny_typeOf hTs ?_)))
  rw [if_pos (by decide)]
  refine wpAny_bind (applied_rev hs pk ?_)
  have hno : ¬ (((((items.size : Nat) : Int) - 1) == 0 && (-1 : Int) == 1 && items.size == items.size) = true) := by
    rw [show ((-1 : Int) == 1) = false by decide, Bool.and_false, Bool.false_and]
    exact Bool.false_ne_true
  show wpAny _ _ (if ((((items.size : Nat) : Int) - 1) == 0 && (-1 : Int) == 1 && items.size == items.size) = true then _ else _) _ _ s
  rw [if_neg hno, pick_rev]
  first
    | exact wpAny_bind (wpAny_bind (m := Builtin.Tuple.tupleExact _) (wpAny_newObj_type (wpAny_pure ⟨_, rfl, wpAny_pure h⟩) hok))
    | exact wpAny_bind (m := Builtin.Tuple.tupleExact _) (wpAny_newObj_type (wpAny_pure ⟨_, rfl, wpAny_pure h⟩) hok)
    | exact wpAny_bind (m := Builtin.Tuple.tupleExact _) (wpAny_newObj_type (wpAny_bind (wpAny_pure (wpAny_pure ⟨_, rfl, wpAny_pure h⟩))) hok)
    | exact wpAny_bind (wpAny_bind (m := Builtin.Tuple.tupleExact _) (wpAny_newObj_type (wpAny_pure (wpAny_pure ⟨_, rfl, wpAny_pure h⟩)) hok))
end
section
variable {X : Cx}
/-- t[::-1] of a tuple -/
def tRevT (K : PySem.W.Frag) (te : TE) : TE := fun σ H Q => te σ H fun x H1 => ∃ a xs, x = .ref a ∧ SqT K H1 a xs ∧ ∀ p, H1 p = none → Q (.ref p) (upd H1 p (.tup xs.reverse))
theorem pe_revT {e : Expr} {te : TE} {k : Nat} {p1 p2 p3 pos : Pos} (he : PE X e te) : PE X (.Subscript e (.Slice none none (some (.UnaryOp .USub (.Constant (.int 1) k p1) p2)) p3) pos) (tRevT X.K te) := by
  refine ⟨fun pins s σ H Q I h => Subscript_ (thn (he.run pins s σ H _ I h) fun v s1 ⟨x, H1, I1, r1, q1⟩ => ?_)⟩
  obtain ⟨a, xs, rfl, hx, q⟩ := q1
  cases r1
  have hst : PO X (some (.UnaryOp .USub (.Constant (.int 1) k p1) p2)) (tPart (tUn (rU fun i => .int (-i)) (tC (.int 1)))) := po_some (pe_un un_neg pe_int)
  refine wpAny_Slice (thn (po_none.run pins s1 σ H1 (fun o H2 => o = none ∧ H2 = H1) I1 ⟨rfl, rfl⟩) fun vl s2 ⟨l, H2, I2, pl, el, e2⟩ => ?_)
  subst el e2
  refine thn (po_none.run pins s2 σ H2 (fun o H3 => o = none ∧ H3 = H2) I2 ⟨rfl, rfl⟩) fun vu s3 ⟨u, H3, I3, pu, eu, e3⟩ => ?_
  subst eu e3
  refine thn (hst.run pins s3 σ H3 (fun o H4 => o = some (-1) ∧ H4 = H3) I3 ⟨1, rfl, -1, rfl, rfl, rfl⟩) fun vs s4 ⟨o, H4, I4, ps, eo, e4⟩ => ?_
  subst eo e4
  cases pl
  cases pu
  have I5 : Inv X pins σ H4 { s4 with heap := s4.heap.push { cls := .type "slice", data := .fields #[.none, .none, vs] } } := I4.kept (t' := s4.toks) fun b ob q => Heap.get?_push_of_some _ q
  obtain ⟨its, r, ht, hz⟩ := I5.tuple hx
  have hlen := r.length
  show wpAny (model X.prog X.w) X.A (subscriptTail e (.Slice none none (some (.UnaryOp .USub (.Constant (.int 1) k p1) p2)) p3) (.ref a) (.ref s4.heap.objs.size)) (EP X pins σ Q) X.xe { s4 with heap := s4.heap.push { cls := .type "slice", data := .fields #[.none, .none, vs] } }
  refine tail_any (ops := [.ref a, .ref s4.heap.objs.size]) ht.typeIs (PyProof.Rows.slot_tuple_getitem.lookup) ?_ (by with_unfolding_all rfl)
  refine tuple_rev ht (Heap.IsSliceOf.new _ .none .none vs) ps ?_ (by rw [List.size_toArray]; omega)
  refine ⟨.ref _, _, I5.laid (t' := s4.toks) (o := .tup xs.reverse) (fun b ob q => Heap.get?_push_of_some _ q) (Nat.le_refl _) ?_, rfl, q _ (I5.hok.fresh (Nat.le_refl _))⟩
  exact ⟨by rw [List.length_reverse]; exact hz, _, r.reverse, IsTup.new _ _⟩
end
end Kr
namespace Kr
open PySem PySem.Spec PyProof.Rows L2
/-! ### data over the abstract heap: None, bools, ints, texts, lists, tuples, {} -/
mutual
inductive Dq (H : Hp) : V → PyData → Prop
  | non : Dq H .non .none
  | bl (b : Bool) : Dq H (.bl b) (.bool b)
  | int (i : Int) : Dq H (.int i) (.int i)
  | str (x : Str) : Dq H (.str x) (.str x)
  | lst {a : Addr} {xs : List V} {ds : List PyData} (e : H a = some (.lst xs)) (q : DqA H xs ds) : Dq H (.ref a) (.list ds)
  | tup {a : Addr} {xs : List V} {ds : List PyData} (e : H a = some (.tup xs)) (q : DqA H xs ds) : Dq H (.ref a) (.tuple ds)
  | dic {a : Addr} (e : H a = some (.dK [])) : Dq H (.ref a) (.dict [])
inductive DqA (H : Hp) : List V → List PyData → Prop
  | nil : DqA H [] []
  | cons {v : V} {vs : List V} {d : PyData} {ds : List PyData} (h : Dq H v d) (t : DqA H vs ds) : DqA H (v :: vs) (d :: ds)
end
mutual
theorem Dq.up {H H' : Hp} (s : Same H H') : ∀ {v : V} {d : PyData}, Dq H v d → Dq H' v d
  | _, _, .non => .non
  | _, _, .bl b => .bl b
  | _, _, .int i => .int i
  | _, _, .str x => .str x
  | _, _, .lst e q => .lst (s _ _ e) (DqA.up s q)
  | _, _, .tup e q => .tup (s _ _ e) (DqA.up s q)
  | _, _, .dic e => .dic (s _ _ e)
theorem DqA.up {H H' : Hp} (s : Same H H') : ∀ {vs : List V} {ds : List PyData}, DqA H vs ds → DqA H' vs ds
  | _, _, .nil => .nil
  | _, _, .cons h t => .cons (Dq.up s h) (DqA.up s t)
end
theorem DqA.len {H : Hp} : ∀ {vs : List V} {ds : List PyData}, DqA H vs ds → vs.length = ds.length
  | _, _, .nil => rfl
  | _, _, .cons _ t => by rw [List.length_cons, List.length_cons, DqA.len t]
theorem DqA.get {H : Hp} : ∀ {vs : List V} {ds : List PyData} {i : Nat} {v : V}, DqA H vs ds → vs[i]? = some v → ∃ d, ds[i]? = some d ∧ Dq H v d
  | _, _, _, _, .nil, e => by simp at e
  | _, _, 0, _, .cons h _, e => by
    simp at e
    subst e
    exact ⟨_, rfl, h⟩
  | _, _, i + 1, _, .cons _ t, e => by
    obtain ⟨d, h1, h2⟩ := DqA.get (i := i) t (by simpa using e)
    exact ⟨d, by simpa using h1, h2⟩
theorem DqA.app {H : Hp} : ∀ {vs us : List V} {ds es : List PyData}, DqA H vs ds → DqA H us es → DqA H (vs ++ us) (ds ++ es)
  | _, _, _, _, .nil, q => q
  | _, _, _, _, .cons h t, q => .cons h (DqA.app t q)
theorem DqA.take {H : Hp} : ∀ {vs : List V} {ds : List PyData} (n : Nat), DqA H vs ds → DqA H (vs.take n) (ds.take n)
  | _, _, 0, _ => .nil
  | _, _, _ + 1, .nil => .nil
  | _, _, n + 1, .cons h t => .cons h (DqA.take n t)
theorem DqA.drop {H : Hp} : ∀ {vs : List V} {ds : List PyData} (n : Nat), DqA H vs ds → DqA H (vs.drop n) (ds.drop n)
  | _, _, 0, q => q
  | _, _, _ + 1, .nil => .nil
  | _, _, n + 1, .cons _ t => DqA.drop n t
theorem DqA.set {H : Hp} {v : V} {d : PyData} (q : Dq H v d) : ∀ {vs : List V} {ds : List PyData} (i : Nat), DqA H vs ds → DqA H (vs.set i v) (ds.set i d)
  | _, _, _, .nil => .nil
  | _, _, 0, .cons _ t => .cons q t
  | _, _, i + 1, .cons h t => .cons h (DqA.set q i t)
theorem DqA.one {H : Hp} {v : V} {d : PyData} (q : Dq H v d) : DqA H [v] [d] := .cons q .nil
theorem DqA.rev {H : Hp} : ∀ {vs : List V} {ds : List PyData}, DqA H vs ds → DqA H vs.reverse ds.reverse
  | _, _, .nil => .nil
  | _, _, .cons h t => by
    rw [List.reverse_cons, List.reverse_cons]
    exact DqA.app (DqA.rev t) (.one h)
theorem DqA.ints {H : Hp} : ∀ ns : List Int, DqA H (ns.map V.int) (ns.map PyData.int)
  | [] => .nil
  | n :: r => .cons (.int n) (DqA.ints r)
theorem DqA.rep {H : Hp} {v : V} {d : PyData} (q : Dq H v d) : ∀ n : Nat, DqA H (List.replicate n v) (List.replicate n d)
  | 0 => .nil
  | n + 1 => .cons q (DqA.rep q n)
theorem Dq.tup_inv {H : Hp} {v : V} {ds : List PyData} (q : Dq H v (.tuple ds)) : ∃ a xs, v = .ref a ∧ H a = some (.tup xs) ∧ DqA H xs ds := by
  cases q with
  | tup e h => exact ⟨_, _, rfl, e, h⟩

/-! ### how long what is shown is -/
mutual
def big : PyData → Nat
  | .none | .bool _ => 5
  | .int i => (toString i : Str).length
  | .str x => (reprText x).length
  | .list xs | .tuple xs => bigA xs + 3
  | .dict _ => 2
def bigA : List PyData → Nat
  | [] => 0
  | x :: xs => big x + 2 + bigA xs
end

section
variable {X : Cx} {pins : List (Addr × Obj)} {σ : L2.St} {H : Hp} {s : Shared}
mutual
theorem Dq.reprs (I : Inv X pins σ H s) : ∀ (d : PyData) (v : V) (u : Value), Dq H v d → RelV v u → d.showable = true → d.shown.length ≤ sizeLine →
    ∃ as, Reads s.heap u d as ∧ ∃ bs, ReadAtMost s.heap d.depth bs ∧ ReprK X.prog X.w bs s.heap d.depth u d.shown
  | .none, _, _, h, r, _, _ => by
    cases h
    cases r
    exact ⟨_, .none, [], (fun _ h => nomatch h), by simp only [PyData.shown]; exact .of_is ReprIs.none _ _ _⟩
  | .bool b, _, _, h, r, _, _ => by
    cases h
    cases r
    exact ⟨_, .bool b, [], (fun _ h => nomatch h), by simp only [PyData.shown]; exact .of_is (ReprIs.bool b) _ _ _⟩
  | .int i, _, _, h, r, hs, _ => by
    cases h
    obtain ⟨t, rfl⟩ := r
    exact ⟨_, .int i t, [], (fun _ h => nomatch h), by simp only [PyData.shown]; exact .of_is (ReprIs.int t (by simpa [PyData.showable] using hs)) _ _ _⟩
  | .str x, _, _, h, r, _, hz => by
    cases h
    obtain ⟨t, rfl⟩ := r
    exact ⟨_, .str x t, [], (fun _ h => nomatch h), by simp only [PyData.shown]; exact .of_is (ReprIs.str x t (by simpa only [PyData.shown] using hz)) _ _ _⟩
  | .list ds, _, _, h, r, hs, hz => by
    cases h with
    | @lst a xs _ e ha =>
      cases r
      have hz' : (listText (PyData.shownAll ds)).length ≤ sizeLine := by simpa only [PyData.shown] using hz
      obtain ⟨its, rv, ⟨o, n, ho, hc, _, hd⟩, _⟩ := I.list (SqL.of (K := X.K) e)
      obtain ⟨as, hr, bs, hb, hk⟩ := DqA.reprs I ds _ its ha rv (by simpa [PyData.showable] using hs) fun t ht => Nat.le_trans (listText_mem_le ht) hz'
      have rd : Reads s.heap (.ref a) (.list ds) _ := .list ho hc hd hr
      have hna : a ∉ bs := not_mem_of_deeper rd (by simp only [PyData.depth]; omega) hb
      refine ⟨_, rd, a :: bs, ReadAtMost.cons rd (by simp only [PyData.depth]; omega) hb, ?_⟩
      simp only [PyData.depth, PyData.shown]
      cases its with
      | nil =>
        cases hr
        simp only [PyData.shownAll, listText_nil]
        exact ReprK.listEmpty ho hc hd
      | cons y l => exact ReprK.list ho hc hd hna (by simpa using hk.length_eq) (fun i y e => hk.item i y (by simpa using e))
  | .tuple ds, _, _, h, r, hs, hz => by
    cases h with
    | @tup a xs _ e ha =>
      cases r
      have hz' : (tupleText (PyData.shownAll ds)).length ≤ sizeLine := by simpa only [PyData.shown] using hz
      obtain ⟨its, rv, ⟨o, ho, hc, n, hd⟩, _⟩ := I.tuple (SqT.of (K := X.K) e)
      obtain ⟨as, hr, bs, hb, hk⟩ := DqA.reprs I ds _ its ha rv (by simpa [PyData.showable] using hs) fun t ht => Nat.le_trans (tupleText_mem_le ht) hz'
      have rd : Reads s.heap (.ref a) (.tuple ds) _ := .tuple ho hc hd hr
      have hna : a ∉ bs := not_mem_of_deeper rd (by simp only [PyData.depth]; omega) hb
      refine ⟨_, rd, a :: bs, ReadAtMost.cons rd (by simp only [PyData.depth]; omega) hb, ?_⟩
      simp only [PyData.depth, PyData.shown]
      exact ReprK.tuple ho hc hd hna (by simpa using hk)
  | .dict kv, _, _, h, r, _, _ => by
    cases h with
    | @dic a e =>
      cases r
      obtain ⟨_, hsys, vs, rel, o, es, ep, ho, hx, hd, _, hp, _⟩ := I.hok a _ e
      cases rel
      have hes : es = #[] := by
        obtain ⟨l⟩ := es
        have : l = [] := by
          cases l with
          | nil => rfl
          | cons y l => exact nomatch hp
        rw [this]
      subst hes
      have rd : Reads s.heap (.ref a) (.dict []) _ := .dict ho hx.1 hd .nil .nil
      refine ⟨_, rd, [a], ReadAtMost.cons rd (Nat.zero_le _) (fun _ h => nomatch h), ?_⟩
      have := ReprK.dict (prog := X.prog) (w := X.w) (as := []) (d := 0) ho hx.1 hd hsys (fun h => nomatch h) .nil
      simpa only [PyData.depth, PyData.depthKv, PyData.shown, PyData.shownKv] using this
theorem DqA.reprs (I : Inv X pins σ H s) : ∀ (ds : List PyData) (vs : List V) (us : List Value), DqA H vs ds → Vals vs us → PyData.showableAll ds = true → (∀ t ∈ PyData.shownAll ds, t.length ≤ sizeLine) →
    ∃ as, ReadsAll s.heap us ds as ∧ ∃ bs, ReadAtMost s.heap (PyData.depthAll ds) bs ∧ ReprAllK X.prog X.w bs s.heap (PyData.depthAll ds) us (PyData.shownAll ds)
  | [], _, _, h, r, _, _ => by
    cases h
    cases r
    exact ⟨_, .nil, [], (fun _ h => nomatch h), by simp only [PyData.shownAll]; exact .nil⟩
  | d :: ds, _, _, h, r, hs, hz => by
    cases h with
    | cons h1 h2 =>
      cases r with
      | cons r1 r2 =>
        have hs' : d.showable = true ∧ PyData.showableAll ds = true := by simpa [PyData.showableAll] using hs
        obtain ⟨as, q1, b1, hb1, k1⟩ := Dq.reprs I d _ _ h1 r1 hs'.1 (hz _ (by simp only [PyData.shownAll]; exact List.mem_cons_self ..))
        obtain ⟨cs, q2, b2, hb2, k2⟩ := DqA.reprs I ds _ _ h2 r2 hs'.2 (fun t ht => hz t (by simp only [PyData.shownAll]; exact List.mem_cons_of_mem _ ht))
        refine ⟨_, .cons q1 q2, b1 ++ b2, ?_, ?_⟩
        · simp only [PyData.depthAll]
          exact (hb1.mono (Nat.le_max_left _ _)).append (hb2.mono (Nat.le_max_right _ _))
        · simp only [PyData.depthAll, PyData.shownAll]
          exact .cons ((k1.more fun b hb => List.mem_append_left _ hb).level_le (Nat.le_max_left _ _)) (k2.more_le (fun b hb => List.mem_append_right _ hb) (Nat.le_max_right _ _))
end
end

/-- repr(x) of data, where no repr is under way -/
def rRepr : List V → Hp → VK → Prop := fun xs H Q => ∃ v d, xs = [v] ∧ Dq H v d ∧ d.showable = true ∧ d.depth ≤ 40 ∧ d.shown.length ≤ sizeLine ∧ Q (.str d.shown) H
theorem call_repr {X : Cx} (hg : X.A.guards = some []) (hu : X.A.units + 64 < cLine) : CallR X (.builtin "repr") rRepr := by
  intro pins s σ H xs us Q I r h
  obtain ⟨v, d, rfl, hd, hs, hdep, hz, q⟩ := h
  obtain ⟨u, rfl, r1⟩ : ∃ u, us = [u] ∧ RelV v u := by
    cases r with
    | cons a b =>
      cases b
      exact ⟨_, rfl, a⟩
  have fin : ∀ (h' : Heap) (t : Tok) (tk : Nat), (∀ b o, s.heap.get? b = some o → h'.get? b = some o) → EP X pins σ Q (.str d.shown t) { s with heap := h', toks := tk } :=
    fun h' t tk hk => ⟨.str d.shown, H, I.kept (t' := tk) hk, ⟨t, rfl⟩, q⟩
  cases hd with
  | non =>
    simp only [PyData.shown] at fin
    cases r1
    exact PySem.P.repr_of_none (fin s.heap _ _ fun _ _ e => e)
  | bl b =>
    simp only [PyData.shown] at fin
    cases r1
    have := PySem.P.repr_of_bool (prog := X.prog) (w := X.w) (A := X.A) (E := X.xe) (b := b) (s := s) (Q := EP X pins σ Q)
    refine this ?_
    have f := fin s.heap s.toks (s.toks + 1) fun _ _ e => e
    cases b <;> exact f
  | int i =>
    simp only [PyData.shown] at fin
    obtain ⟨t, rfl⟩ := r1
    exact PySem.P.repr_of_int (by simpa [PyData.showable] using hs) (fin s.heap _ _ fun _ _ e => e)
  | str x =>
    simp only [PyData.shown] at fin hz
    obtain ⟨t, rfl⟩ := r1
    exact PySem.P.repr_of_str (fin s.heap _ _ fun _ _ e => e) hz
  | @lst a xs ds e ha =>
    obtain rfl : u = Value.ref a := r1
    simp only [PyData.depth] at hdep
    have hz' : (listText (PyData.shownAll ds)).length ≤ sizeLine := by simpa only [PyData.shown] using hz
    simp only [PyData.shown] at fin
    obtain ⟨its, rv, ⟨o, n, ho, hc, _, hd⟩, _⟩ := I.list (SqL.of (K := X.K) e)
    obtain ⟨as, hr, bs, hb, hk⟩ := DqA.reprs I ds _ its ha rv (by simpa [PyData.showable] using hs) fun t ht => Nat.le_trans (listText_mem_le ht) hz'
    have rd : Reads s.heap (.ref a) (.list ds) _ := .list ho hc hd hr
    have hna : a ∉ bs := not_mem_of_deeper rd (by simp only [PyData.depth]; omega) hb
    refine call_repr_slot (by omega) ⟨o, ho, hc⟩ F.slot_list_repr.toG ?_
    cases its with
    | nil =>
      cases hr
      have e0 : listText (PyData.shownAll []) = ("[]" : Str) := by simp only [PyData.shownAll, listText_nil]
      rw [e0] at fin
      exact call_list_repr_empty ⟨o, ho, hc⟩ ho hd ⟨_, _, rfl, fin s.heap _ _ fun _ _ e => e⟩
    | cons y l =>
      exact call_list_reprK ho hc hd hna (by simpa using hk.length_eq) (fun i y e => hk.item i y (by simpa using e)) hg (fun b _ => Clear.nil b) (by show X.A.units + 1 + _ < cLine; omega) (fun _ _ e => e) (fun h' t tk hk => ⟨_, _, rfl, fin h' t tk hk⟩) hz'
  | @tup a xs ds e ha =>
    obtain rfl : u = Value.ref a := r1
    simp only [PyData.depth] at hdep
    have hz' : (tupleText (PyData.shownAll ds)).length ≤ sizeLine := by simpa only [PyData.shown] using hz
    simp only [PyData.shown] at fin
    obtain ⟨its, rv, ⟨o, ho, hc, n, hd⟩, _⟩ := I.tuple (SqT.of (K := X.K) e)
    obtain ⟨as, hr, bs, hb, hk⟩ := DqA.reprs I ds _ its ha rv (by simpa [PyData.showable] using hs) fun t ht => Nat.le_trans (tupleText_mem_le ht) hz'
    have rd : Reads s.heap (.ref a) (.tuple ds) _ := .tuple ho hc hd hr
    have hna : a ∉ bs := not_mem_of_deeper rd (by simp only [PyData.depth]; omega) hb
    refine call_repr_slot (by omega) ⟨o, ho, hc⟩ F.slot_tuple_repr ?_
    exact call_tuple_reprK ho hc hd hna (by simpa using hk) hg (fun b _ => Clear.nil b) (by show X.A.units + 1 + _ < cLine; omega) (fun _ _ e => e) (fun h' t tk hk => ⟨_, _, rfl, fin h' t tk hk⟩) hz'
  | @dic a e =>
    obtain rfl : u = Value.ref a := r1
    obtain ⟨_, hsys, vs, rel, o, es, ep, ho, hx, hd, _, hp, _⟩ := I.hok a _ e
    cases rel
    have hes : es = #[] := by
      obtain ⟨l⟩ := es
      have : l = [] := by
        cases l with
        | nil => rfl
        | cons y l => exact nomatch hp
      rw [this]
    subst hes
    simp only [PyData.shown, PyData.shownKv] at fin hz
    refine call_repr_slot (by omega) ⟨o, ho, hx.1⟩ F.slot_dict_repr ?_
    exact call_dict_reprK (as := []) (d := 0) ho hx.1 hd hsys (fun h => nomatch h) .nil hg (fun b _ => Clear.nil b) (by show X.A.units + 1 + _ < cLine; omega) (fun _ _ e => e) (fun h' t tk hk => ⟨_, _, rfl, fin h' t tk hk⟩) hz
end Kr
namespace Kr
open PySem PySem.Spec PyProof.Rows L2
/-! ### defs that are called where no repr is under way -/
structure FnG (P : Program) (w : World) (K : PySem.W.Frag) (mg : Str → Option Value) (base : Heap) (CX : CXT) (k : Nat) (f : Addr) (fd : FuncData) (ps : List Str) (sp : Sp) : Prop where
  len : ∀ vs H Q E, sp vs H Q E → vs.length = ps.length
  run : ∀ (A : Around) (outer : List Env) (s : Shared) (H : Hp) (args : Args) (us : List Value) (vs : List V) (Q : VK) (E : XK), A.guards = some [] → Room k A → Env0 P w K mg base A outer s H → BindsTo s fd args (ps.zip us) → Vals vs us → sp vs H Q E →
    codeAny (model P w) A (.call (.ref f) args) (CR CX outer P w H s Q E) s
section
variable {P : Program} {w : World} {K : PySem.W.Frag} {mg : Str → Option Value} {base : Heap} {CX : CXT}
theorem FnG.mono {j k : Nat} {f : Addr} {fd : FuncData} {ps : List Str} {sp : Sp} (F : FnG P w K mg base CX j f fd ps sp) (h : j ≤ k) : FnG P w K mg base CX k f fd ps sp :=
  ⟨F.len, fun A outer s H args us vs Q E hg hr => F.run A outer s H args us vs Q E hg (hr.mono h)⟩
/-- by the body, as Fun.ok; the body is told that no repr is under way -/
theorem okG {x qual : Str} {st : Stmt} {f : Addr} {fd : FuncData} {N ps : List Str} {k : Nat} {sp : Sp} (F : Fun K x qual st f fd) (S : FnScope N ps (defScope st)) (len : ∀ vs H Q E, sp vs H Q E → vs.length = ps.length)
    (hbody : ∀ (cdv : Value) (A : Around) (outer : List Env) (s : Shared) (H : Hp) (vs : List V) (Q : VK) (E : XK), (A.deeper (envOfC qual (defScope st) s.heap.objs.size f cdv)).guards = some [] → Room k (A.deeper (envOfC qual (defScope st) s.heap.objs.size f cdv)) → sp vs H Q E →
      ∃ t, PSs (cxOf CX0 P w K mg base N qual (defScope st) f cdv A outer s H E).nox (defBody st) t ∧ t { nx := fun _ H' => Q .non H', rt := Q } (start N vs) H) : FnG P w K mg base CX0 (k + 1) f fd ps sp := by
  obtain ⟨oc, od, kV, doc, pm, an, cdv, ct, osl, rfl, lk, hcd⟩ := F.ex
  refine ⟨len, fun A outer s H args us vs Q E hg hr e0 hb r hsp => ?_⟩
  have KX : K.In s.heap := e0.mod.kin.keeps fun b o e => (e0.bs b o e).1
  have lim : s.heap.NoLimit := e0.mod.nolimit.keeps fun b o e => (e0.bs b o e).1
  refine codeAny_call_function hr.depth (KX _ _ lk) rfl S.co S.gen rfl (PySem.W.codeRec_of KX hcd) (hb _ _ _ _ ?_)
  have kinds : ∀ y ∈ ps.zip us, (defScope st).names.lookup y.1 = some .local ∨ ((defScope st).names.lookup y.1 = some .cell ∧ ((cellsFrom (s.heap.objs.size + 1) (defScope st).names []).lookup y.1).isSome = true) := by
    rintro ⟨n, v⟩ hy
    rcases S.par n (List.of_mem_zip hy).1 with q | q
    · exact .inl q
    · exact .inr ⟨q, PySem.W.cellsFrom_some _ _ _ (.inl q)⟩
  refine wpAny_newFunctionEnv_cells S.kind kinds fun env he s1 x => ?_
  subst he
  refine ⟨lim.keeps x.toInCall.keep, codeAny_func ?_⟩
  obtain ⟨t, ht, hq⟩ := hbody cdv A outer s H vs Q E (by first | exact hg | simpa [Around.deeper] using hg) (hr.deeper _) hsp
  have I : Inv (cxOf CX0 P w K mg base N qual (defScope st) f cdv A outer s H E) [] (start N vs) H s1 := inv_start S hr.hd e0 (len _ _ _ _ hsp) r x
  refine wpAny_mono (ht.nox.run [] s1 (start N vs) H _ I hq) (fun fl s' hs => ?_) fun e s' hs => hs
  cases fl with
  | ret u =>
    obtain ⟨v, σ', H', J, rv, q⟩ := hs
    exact ⟨v, H', J.os, J.bare, J.base, J.hok, rv, q⟩
  | next =>
    obtain ⟨σ', H', J, q⟩ := hs
    exact ⟨.non, H', J.os, J.bare, J.base, J.hok, rfl, q⟩
  | brk => exact hs.elim fun _ h => h.elim fun _ h => h.2.elim
  | cont => exact hs.elim fun _ h => h.elim fun _ h => h.2.elim
end
section
variable {X : Cx} {CX : CXT} {k : Nat} {f : Addr} {fd : FuncData} {ps : List Str} {sp : Sp} {dvs : List V} {ds : List Value} {E : XK} {x : Str} {p pos : Pos} {e : Expr} {es : List Expr} {t : TA}
/-- such a def's call, from a body of the same kind -/
theorem pe_callG (F : FnG X.prog X.w X.K X.mg X.base CX k f fd ps sp) (gd : X.A.guards = some []) (hr : Room k X.A) (hg : Gl X x) (hm : X.mg x = some (.ref f)) (hk : PySem.W.keepIn X.K (.ref f) = true) (hb : Binds X.K fd ps ds) (hd : Vals dvs ds) (hx : Passes CX X E)
    (ha : PA X (e :: es) t) (hdb : (x == ("__debug__" : Str)) = false := by decide) (he : starEach (e :: es) X.env = (false, eval e X.env) :: starEach es X.env := by rfl) (hpl : (backTo pos (starEach es X.env)).any (·.1) = false := by rfl) :
    PE X (.Call (.Name x p) (e :: es) [] pos) (tCall sp dvs E t) := by
  refine ⟨fun pins s σ H Q I h => wpAny_Call_Name_kw (ld_glob I hg hm ?_ hdb)⟩
  refine PySem.W.callWith_K (h₀ := X.base) I.ok.mod.kin hk (thn (ha.run pos pins s σ H _ I h) fun us s1 ⟨vs, H1, I1, r, q⟩ => ⟨I1.kIn, ?_⟩) he hpl
  have r2 : Vals (vs ++ dvs) (us ++ ds) := r.append hd
  have hl : (us ++ ds).length = ps.length := r2.length.symm.trans (F.len _ _ _ _ q)
  refine wpAny_call (codeAny_mono (F.run X.A X.stack s1 H1 ⟨us, []⟩ (us ++ ds) (vs ++ dvs) Q E gd hr I1.env0 (hb s1 us I1.kIn hl) r2 q) fun r s' hq => ?_)
  cases r with
  | error e => exact hx pins σ H1 s1 e s' I1 hq
  | ok fl =>
    cases fl with
    | ret u => exact I1.after hq
    | next => exact hq.elim
    | brk => exact hq.elim
    | cont => exact hq.elim
end

/-! ### the head: the law is called where nothing is under way -/
theorem law_callG {P : Program} {w : World} {K : PySem.W.Frag} {mg mb : Str → Option Value} {k : Nat} {fa a : Addr} {fd : FuncData} {x : Str} {sp : Sp} {s₁ : Shared} {vs : List Value} {ns : List Int}
    (KX : K.In s₁.heap) (hns : s₁.heap.Ns mainGlobals mg) (hb : s₁.heap.Ns builtinsNs mb) (hbb : ∀ x : Str, x ≠ "__name__" → mb x = bootBuiltins x) (hlim : s₁.heap.NoLimit) (hg : s₁.gens = #[])
    (ha : s₁.heap.get? a = some { cls := .type "list", data := .seq vs.toArray }) (hi : IntsAre vs ns) (hl : ns.length ≤ sizeLine) (hr : Room k callerA)
    (F : ∀ base : Heap, K.In base → base.Ns mainGlobals mg → FnG P w K mg base CX0 k fa fd [x] sp) (hbind : ∀ (s : Shared) (u : Value), BindsTo s fd ⟨[u], []⟩ [(x, u)])
    (hsp : ∀ H : Hp, Only H → SqL K H a (ns.map V.int) → sp [.ref a] H (fun v _ => v = .bl true) fun _ _ _ => False) :
    codeAny (model P w) callerA (.call (.ref fa) ⟨[.ref a], []⟩) (fun r s' => r = .ok (.ret (.bool true)) ∧ OldK s₁.heap s'.heap ∧ s'.os = s₁.os ∧ AllBare s'.gens) s₁ := by
  have rv := vals_ints hi
  have lenV := hi.length
  have step : ∀ H : Hp, Only H → SqL K H a (ns.map V.int) → HOk P w H s₁.heap → (∀ b, H b ≠ none → b = a) → (H a ≠ none → K.lookup a = none) →
      codeAny (model P w) callerA (.call (.ref fa) ⟨[.ref a], []⟩) (fun r s' => r = .ok (.ret (.bool true)) ∧ OldK s₁.heap s'.heap ∧ s'.os = s₁.os ∧ AllBare s'.gens) s₁ := by
    intro H hO hS hok only hK
    have free : ∀ {b : Addr} {o : Obj}, s₁.heap.get? b = some o → (b = a → H b = none) → (hidT s₁.heap H).get? b = some o := fun {b o} e n => hidT_get e (by
      cases q : H b with
      | none => rfl
      | some u => rw [n (only b (by rw [q]; simp))] at q; cases q)
    have ns2 : ∀ {b : Addr} {m : Str → Option Value}, s₁.heap.Ns b m → (hidT s₁.heap H).Ns b m := by
      rintro b m ⟨o, es, ep, e, d, r⟩
      refine ⟨o, es, ep, free e fun z => ?_, d, r⟩
      subst z
      rw [ha] at e
      cases e
      cases (show Data.seq vs.toArray _ = Data.dict es ep from d)
    have kin : K.In (hidT s₁.heap H) := fun b o e => free (KX b o e) fun z => by
      subst z
      cases q : H b with
      | none => rfl
      | some u => rw [hK (by rw [q]; simp)] at e; cases e
    have md : Mod K mg (hidT s₁.heap H) := ⟨kin, ns2 hns, ⟨mb, ns2 hb, hbb⟩, hlim.elim fun mc h => ⟨mc, ns2 h.1, h.2⟩⟩
    have e0 : Env0 P w K mg (hidT s₁.heap H) callerA [] s₁ H :=
      ⟨rfl, md, fun b o e => of_hidT e, Nat.le_of_eq (hidT_size _ _), trivial, fun b hb => absurd (show b ∈ ([] : List Addr) from hb) (by simp), hok, .of_eq hg⟩
    refine codeAny_mono ((F _ kin (ns2 hns)).run callerA [] s₁ H ⟨[.ref a], []⟩ [.ref a] [.ref a] _ _ rfl hr e0 (hbind s₁ (.ref a)) (.cons rfl .nil) (hsp H hO hS)) fun r s' h => ?_
    cases r with
    | error e => exact h.elim
    | ok fl =>
      cases fl with
      | next => exact h.elim
      | brk => exact h.elim
      | cont => exact h.elim
      | ret u =>
        obtain ⟨v, H', os, bare, un, hok', r', q⟩ := h
        obtain rfl : v = .bl true := q
        obtain rfl : u = Value.bool true := r'
        refine ⟨rfl, OldK.of_keep fun b o e => ?_, os, bare⟩
        rcases hO b with z | ⟨ob, xs, z⟩
        · exact un.keep b o e z (fun q => absurd (show b ∈ ([] : List Addr) from q) (by simp)) (by simp)
        · have e1 := (hok b _ z).1
          have e2 := (hok' b _ (un.frzs b ob _ z)).1
          rw [e] at e1
          cases e1
          exact e2
  cases hk : K.lookup a with
  | some o =>
    have e := KX a o hk
    rw [ha] at e
    cases e
    exact step (fun _ => none) (fun _ => .inl rfl) (.inr ⟨_, vs.toArray, _, hk, rfl, rfl, rfl, by rw [List.size_toArray, lenV]; exact hl, by simpa using rv⟩) (fun b u z => nomatch (show (none : Option HO) = some u from z)) (fun b z => absurd rfl z) fun z => absurd rfl z
  | none =>
    refine step (fun b => if b = a then some (.frz { cls := .type "list", data := .seq vs.toArray } (.lst (ns.map V.int))) else none) (fun b => ?_) (.inl (.inr ⟨_, if_pos rfl⟩)) (fun b u z => ?_) (fun b z => ?_) fun _ => hk
    · by_cases q : b = a
      · exact .inr ⟨_, _, if_pos q⟩
      · exact .inl (if_neg q)
    · by_cases q : b = a
      · cases (if_pos q).symm.trans z
        subst q
        exact ⟨ha, by rw [List.length_map]; exact hl, vs, _, rv, ha⟩
      · cases (if_neg q).symm.trans z
    · by_cases q : b = a
      · exact q
      · exact absurd (if_neg q) z
theorem walkG {l : PySem.W.OpenLaw} {n k : Nat} {q : Program} {loose : List Str} {XP : (Str → Option Value) → Heap → Prop} {YP : World → Heap → Prop} {d : DefRec} {K : Params → PySem.W.Frag} {sp : PySem.W.Frag → Sp} {x : Str}
    (hn : l.most = some n) (hn2 : n ≤ sizeLine) (hdf : d.params.defaults = []) (hr : Room k callerA) (hY : ∀ (w : World) (h : Heap), YP w h → (K w.params).In h)
    (F : ∀ (w : World) (mg : Str → Option Value) (fa : Addr) (h : Heap), (K w.params).In h → h.Ns mainGlobals mg → mg d.name = some (.ref fa) →
      ∃ fd : FuncData, (∀ (s : Shared) (u : Value), BindsTo s fd ⟨[u], []⟩ [(x, u)]) ∧ ∀ base : Heap, (K w.params).In base → base.Ns mainGlobals mg → FnG l.prog w (K w.params) mg base CX0 k fa fd [x] (sp (K w.params)))
    (hsp : ∀ (K : PySem.W.Frag) (H : Hp) (a : Addr) (ns : List Int), ns.length ≤ n → Only H → SqL K H a (ns.map V.int) → sp K [.ref a] H (fun v _ => v = .bl true) fun _ _ _ => False) :
    PySem.W.WalkO q loose XP YP l.row.toRowW d [] (fun f vs => PySem.call f vs) := by
  refine Att.attach_call hn hdf fun w s₀ s₁ mg mb fa o pm cd doc a vs ns G Y ho hd hcd hmg hobj hints hlen hg => ?_
  obtain ⟨fd, hb, hF⟩ := F w mg fa _ (hY w _ Y) G.T.g hmg
  exact law_callG (hY w _ Y) G.T.g G.T.b G.T.builtins G.T.nolimit hg hobj hints (Nat.le_trans hlen hn2) hr hF hb fun H hO hS => hsp _ H a ns hlen hO hS
end Kr
namespace Kr
open PySem PySem.Spec PyProof.Rows L2
/-- f(k = v, ..), names alone: how they bind -/
theorem kbn_of {K : PySem.W.Frag} {x qual : Str} {st : Stmt} {f : Addr} {fd : FuncData} {ps ks : List Str} (F : Fun K x qual st f fd) (g : {α : Type} → List α → List α)
    (hrel : ∀ {zs : List V} {ws : List Value}, Vals zs ws → Vals (g zs) (g ws))
    (h : ∀ (kV doc pm : Value) (an : Option Addr) (cdv ct : Value) (ws : List Value), ws.length = ks.length → bindArgs (PySem.W.fnOf x qual (defArgs st) (defBody st) (defScope st) .none kV doc pm an cdv ct) ⟨[], ks.zip ws⟩ = pure (ps.zip (g ws))) :
    KBn K fd ps 0 ks (fun _ ws => g ws) (fun _ zs => g zs) := by
  obtain ⟨oc, od, kV, doc, pm, an, cdv, ct, osl, rfl, lk, hcd⟩ := F.ex
  refine ⟨fun s us ws _ hu hw => ?_, fun _ r => hrel r⟩
  obtain rfl : us = [] := List.length_eq_zero_iff.mp hu
  exact .of_eq (h kV doc pm an cdv ct ws hw)
theorem vals_swap {zs : List V} {ws : List Value} (r : Vals zs ws) : Vals zs.reverse ws.reverse := r.reverse
section
variable {X : Cx} {CX : CXT} {k : Nat} {f : Addr} {fd : FuncData} {ps ks : List Str} {sp : Sp} {E : XK} {x : Str} {p pos : Pos} {kws : List Keyword} {tk : TA} {g : List Value → List Value → List Value} {gV : List V → List V → List V}
def tCallN (m : Nat) (sp : Sp) (gV : List V → List V → List V) (E : XK) (tk : TA) : TE := fun σ H Q => tk σ H fun zs H1 => zs.length = m ∧ sp (gV [] zs) H1 Q E
theorem pe_callN (F : FnOk X.prog X.w X.K X.mg X.base CX k f fd ps sp) (hr : Room k X.A) (hg : Gl X x) (hm : X.mg x = some (.ref f)) (hk : PySem.W.keepIn X.K (.ref f) = true) (hb : KBn X.K fd ps 0 ks g gV) (hx : Passes CX X E) (hkw : PK X kws tk)
    (hall : (backToKw pos (keywordEach kws X.env)).all (·.1.isSome) = true := by rfl) (hks : (backToKw pos (keywordEach kws X.env)).filterMap (·.1) = ks := by rfl) (hdb : (x == ("__debug__" : Str)) = false := by decide)
    (hpl : ((backTo pos (starEach [] X.env)).any (·.1) || (backToKw pos (keywordEach kws X.env)).any (·.1.isNone)) = false := by rfl) :
    PE X (.Call (.Name x p) [] kws pos) (tCallN ks.length sp gV E tk) := by
  refine ⟨fun pins s σ H Q I h => wpAny_Call_Name_kw (ld_glob I hg hm ?_ hdb)⟩
  refine PySem.W.callWith_KW0 (h₀ := X.base) I.ok.mod.kin hk hall ?_ hpl
  refine thn (hkw.run pos pins s σ H _ I h) fun ws s2 ⟨zs, H2, I2, rz, l2, q2⟩ => ⟨I2.kIn, ?_⟩
  rw [hks]
  have r2 := hb.rel .nil rz
  refine wpAny_call (codeAny_mono (F.run X.A X.stack s2 H2 ⟨[], ks.zip ws⟩ (g [] ws) (gV [] zs) _ E hr I2.env0 (hb.to s2 [] ws I2.kIn rfl (rz.length.symm.trans l2)) r2 q2) fun r s' hq => ?_)
  cases r with
  | error e => exact hx pins σ _ _ e s' I2 hq
  | ok fl =>
    cases fl with
    | ret u => exact I2.after hq
    | next => exact hq.elim
    | brk => exact hq.elim
    | cont => exact hq.elim
end
end Kr
namespace Kr
open PySem L2
def top (i : Nat) : Stmt := PySem.Challenge.pw_keyriders_k24_whole_kinds_of_tables.main.body.getD i (.Pass ⟨0, 0, 0, 0⟩)
abbrev sRidersError : Stmt := top 3
abbrev sTooMany : Stmt := top 4
abbrev sLotsOf : Stmt := top 6
abbrev sAllLots : Stmt := top 7
abbrev sLotNum : Stmt := top 8
abbrev sNumbersOf : Stmt := top 9
abbrev sGoal : Stmt := top 11
abbrev sNumbers : Stmt := top 12
abbrev sAims : Stmt := top 13
abbrev sSignsOf : Stmt := top 15
abbrev sCarryingsSign : Stmt := top 16
abbrev sSignOf : Stmt := top 17
abbrev sKindSigns : Stmt := top 18
abbrev sChoices : Stmt := top 19
abbrev sSumRows : Stmt := top 20
abbrev sKindsIn : Stmt := top 21
abbrev sDeck : Stmt := top 23
abbrev sDraw : Stmt := top 24
abbrev sPick : Stmt := top 25
abbrev sMixed : Stmt := top 26
abbrev sLLots : Stmt := top 27
abbrev sLFlat : Stmt := top 28
abbrev sDeed : Stmt := top 29
abbrev sLMoves : Stmt := top 30
abbrev sLEnd : Stmt := top 31
abbrev sLAfter : Stmt := top 32
abbrev sDrawn : Stmt := top 33
abbrev sLOdd : Stmt := top 34
abbrev sLSigns : Stmt := top 35
abbrev sLSum : Stmt := top 36
abbrev sLChoose : Stmt := top 37
abbrev sLKind : Stmt := top 38
abbrev sLWithin : Stmt := top 39
abbrev sLWhole : Stmt := top 40
abbrev sLWidened : Stmt := top 41
abbrev sLSpoilt : Stmt := top 42
abbrev sLIsTold : Stmt := top 43
abbrev sLaw : Stmt := top 44
end Kr
namespace Kr
open PySem PySem.Spec PyProof.Rows L2
/-! ### a module's name that holds a built-in (from math import comb) -/
theorem pe_callBG {X : Cx} {id : String} {r : List V → Hp → VK → Prop} {x : Str} {e : Expr} {es : List Expr} {t : TA} {p pos : Pos} (hc : CallR X (.builtin id) r) (hg : Gl X x) (hm : X.mg x = some (.builtin id)) (ha : PA X (e :: es) t) (hdb : (x == ("__debug__" : Str)) = false := by decide)
    (he : starEach (e :: es) X.env = (false, eval e X.env) :: starEach es X.env := by rfl) (hpl : (backTo pos (starEach es X.env)).any (·.1) = false := by rfl) : PE X (.Call (.Name x p) (e :: es) [] pos) (tCB r t) :=
  ⟨fun pn sh st hp W Iv hh => wpAny_Call_Name_kw (ld_glob Iv hg hm (PyProof.Rows.callWith_builtin1 (thn (ha.run pos pn sh st hp _ Iv hh) fun us s1 ⟨vs, H1, I1, r1, q1⟩ => hc pn s1 st H1 vs us W I1 r1 q1) he hpl) hdb)⟩
/-- comb(a, b) -/
def rComb : List V → Hp → VK → Prop := fun vs H Q => ∃ a b : Int, vs = [.int a, .int b] ∧ 0 ≤ a ∧ 0 ≤ b ∧ a < 1000 ∧ Q (.int (PySem.W.mcComb a b)) H
theorem call_comb {X : Cx} : CallR X (.builtin "math.comb") rComb := by
  intro pn sh st hp xs us Q Iv r h
  obtain ⟨a, b, rfl, h1, h2, h3, q⟩ := h
  cases r with
  | cons ra r =>
    cases r with
    | cons rb r =>
      cases r
      obtain ⟨t, rfl⟩ := ra
      obtain ⟨u, rfl⟩ := rb
      exact PySem.W.mc_comb h1 h2 (by omega) (.inr (by omega)) fun _ => ⟨.int (PySem.W.mcComb a b), hp, Iv.kept (t' := sh.toks + 1) (fun _ _ e => e), ⟨_, rfl⟩, q⟩
end Kr
namespace Kr
open PySem PySem.Spec PyProof.Rows L2
/-! ### data without lists and dicts: it stays while tuples stay -/
def TS (H H' : Hp) : Prop := ∀ b xs, H b = some (.tup xs) → H' b = some (.tup xs)
theorem TS.rfl {H : Hp} : TS H H := fun _ _ h => h
theorem TS.trans {H H' H'' : Hp} (a : TS H H') (b : TS H' H'') : TS H H'' := fun c xs h => b c xs (a c xs h)
theorem TS.of {H H' : Hp} (s : Same H H') : TS H H' := fun b xs h => s _ _ h
theorem TS.lst {H : Hp} {D : Addr} {xs ys : List V} (h : H D = some (.lst xs)) : TS H (upd H D (.lst ys)) := fun b zs e => by
  rw [upd_ne (ne_of e h (by intro z; cases z))]
  exact e
theorem TS.new {H : Hp} {q : Addr} {o : HO} (h : H q = none) : TS H (upd H q o) := fun b zs e => by
  rw [upd_ne (ne_of_none e h)]
  exact e
mutual
def flatT : PyData → Bool
  | .none | .bool _ | .int _ | .str _ => true
  | .tuple xs => flatTA xs
  | .list _ | .dict _ => false
def flatTA : List PyData → Bool
  | [] => true
  | x :: xs => flatT x && flatTA xs
end
mutual
theorem Dq.upT {H H' : Hp} (s : TS H H') : ∀ {v : V} {d : PyData}, flatT d = true → Dq H v d → Dq H' v d
  | _, _, _, .non => .non
  | _, _, _, .bl b => .bl b
  | _, _, _, .int i => .int i
  | _, _, _, .str x => .str x
  | _, _, h, .lst _ _ => by simp [flatT] at h
  | _, _, h, .tup e q => .tup (s _ _ e) (DqA.upT s (by simpa [flatT] using h) q)
  | _, _, h, .dic _ => by simp [flatT] at h
theorem DqA.upT {H H' : Hp} (s : TS H H') : ∀ {vs : List V} {ds : List PyData}, flatTA ds = true → DqA H vs ds → DqA H' vs ds
  | _, _, _, .nil => .nil
  | _ :: _, d :: ds, h, .cons a t => by
    have h2 : flatT d = true ∧ flatTA ds = true := by simpa [flatTA] using h
    exact .cons (Dq.upT s h2.1 a) (DqA.upT s h2.2 t)
end
theorem flatTA_of : ∀ {ds : List PyData}, (∀ d ∈ ds, flatT d = true) → flatTA ds = true
  | [], _ => rfl
  | d :: ds, h => by
    have h1 := h d List.mem_cons_self
    have h2 := flatTA_of (ds := ds) fun e he => h e (List.mem_cons_of_mem _ he)
    simp [flatTA, h1, h2]
mutual
/-- as the layer's own data, for == -/
theorem Dq.dp {K : PySem.W.Frag} {H : Hp} : ∀ {v : V} {d : PyData}, flatT d = true → Dq H v d → Dp K H v d
  | _, _, _, .non => .non
  | _, _, _, .bl b => .bl b
  | _, _, _, .int i => .int i
  | _, _, _, .str x => .str x
  | _, _, h, .lst _ _ => by simp [flatT] at h
  | _, _, h, .tup e q => .tup (SqT.of e) (DqA.dp (by simpa [flatT] using h) q)
  | _, _, h, .dic _ => by simp [flatT] at h
theorem DqA.dp {K : PySem.W.Frag} {H : Hp} : ∀ {vs : List V} {ds : List PyData}, flatTA ds = true → DqA H vs ds → DpAll K H vs ds
  | _, _, _, .nil => .nil
  | _ :: _, d :: ds, h, .cons a t => by
    have h2 : flatT d = true ∧ flatTA ds = true := by simpa [flatTA] using h
    exact .cons (Dq.dp h2.1 a) (DqA.dp h2.2 t)
end
theorem dqa_snoc {H : Hp} {vs : List V} {ds : List PyData} {v : V} {d : PyData} (a : DqA H vs ds) (b : Dq H v d) : DqA H (vs ++ [v]) (ds ++ [d]) := a.app (.one b)
/-! ### rows of signs -/
abbrev Row := List (Bool × Bool)
def bi (b : Bool) : Int := if b = true then 1 else 0
def pairD (p : Bool × Bool) : PyData := .tuple [.int (bi p.1), .int (bi p.2)]
def rowD (r : Row) : PyData := .tuple (r.map pairD)
theorem pair_flat (p : Bool × Bool) : flatT (pairD p) = true := by simp [pairD, flatT, flatTA]
theorem pairs_flat (r : Row) : flatTA (r.map pairD) = true := flatTA_of fun d hd => by
  obtain ⟨p, _, rfl⟩ := List.mem_map.mp hd
  exact pair_flat p
theorem row_flat (r : Row) : flatT (rowD r) = true := by
  simp only [rowD, flatT]
  exact pairs_flat r
theorem bi_inj {a b : Bool} : bi a = bi b ↔ a = b := by cases a <;> cases b <;> decide
theorem bi_one (a : Bool) : decide (bi a = 1) = a := by cases a <;> rfl
theorem bi_xor (a b : Bool) : Builtin.bitXor (bi a) (bi b) = bi (a ^^ b) := by cases a <;> cases b <;> decide +kernel
theorem bi_sum (a b : Bool) : (bi a + bi b) % 2 = bi (a ^^ b) := by cases a <;> cases b <;> decide +kernel
theorem pair_at {H : Hp} {b : Addr} {p : Bool × Bool} (h : H b = some (.tup [.int (bi p.1), .int (bi p.2)])) : Dq H (.ref b) (pairD p) := .tup h (.cons (.int _) (.cons (.int _) .nil))
theorem pair_inv {H : Hp} {v : V} {p : Bool × Bool} (h : Dq H v (pairD p)) : ∃ b, v = .ref b ∧ H b = some (.tup [.int (bi p.1), .int (bi p.2)]) := by
  obtain ⟨b, xs, rfl, e, q⟩ := Dq.tup_inv (show Dq H v (.tuple [.int (bi p.1), .int (bi p.2)]) from h)
  cases q with
  | cons h1 q =>
    cases q with
    | cons h2 q =>
      cases q
      cases h1
      cases h2
      exact ⟨b, rfl, e⟩
theorem row_inv {H : Hp} {v : V} {r : Row} (h : Dq H v (rowD r)) : ∃ a xs, v = .ref a ∧ H a = some (.tup xs) ∧ DqA H xs (r.map pairD) := Dq.tup_inv h
theorem pairs_get {H : Hp} {xs : List V} {r : Row} {i : Nat} {y : V} (q : DqA H xs (r.map pairD)) (e : xs[i]? = some y) : ∃ p, r[i]? = some p ∧ ∃ b, y = .ref b ∧ H b = some (.tup [.int (bi p.1), .int (bi p.2)]) := by
  obtain ⟨d, h1, h2⟩ := q.get e
  rw [List.getElem?_map] at h1
  cases hr : r[i]? with
  | none => rw [hr] at h1; cases h1
  | some p =>
    rw [hr] at h1
    cases Option.some.inj h1
    exact ⟨p, rfl, pair_inv h2⟩
theorem pairs_len {H : Hp} {xs : List V} {r : Row} (q : DqA H xs (r.map pairD)) : xs.length = r.length := by rw [q.len, List.length_map]
theorem pairD_inj {p q : Bool × Bool} : PyData.eqv (pairD p) (pairD q) = decide (p = q) := by
  obtain ⟨a, b⟩ := p
  obtain ⟨c, d⟩ := q
  cases a <;> cases b <;> cases c <;> cases d <;> decide +kernel
theorem rows_eqv : ∀ a b : Row, PyData.eqv (rowD a) (rowD b) = decide (a = b)
  | [], [] => by simp [rowD, PyData.eqv, PyData.eqvAll]
  | [], _ :: _ => by simp [rowD, PyData.eqv, PyData.eqvAll]
  | _ :: _, [] => by simp [rowD, PyData.eqv, PyData.eqvAll]
  | x :: a, y :: b => by
    have ih := rows_eqv a b
    simp only [rowD, PyData.eqv] at ih
    simp only [rowD, List.map_cons, PyData.eqv, PyData.eqvAll]
    rw [ih, pairD_inj, Bool.eq_iff_iff]
    simp
theorem pairs_lay : ∀ r : Row, PyData.canLayAll0 (r.map pairD) = true ∧ PyData.depthAll (r.map pairD) ≤ 2
  | [] => by simp [PyData.canLayAll0, PyData.depthAll]
  | p :: r => by
    obtain ⟨h1, h2⟩ := pairs_lay r
    simp only [List.map_cons, PyData.canLayAll0, PyData.depthAll, pairD, PyData.canLay0, PyData.depth, h1]
    refine ⟨by simp, by omega⟩
theorem row_shaped (r : Row) : SeqAt.shaped (rowD r) = true := by
  obtain ⟨h1, h2⟩ := pairs_lay r
  unfold SeqAt.shaped
  simp only [rowD, PyData.canLay0, PyData.depth, h1, Bool.true_and, decide_eq_true_eq]
  omega
theorem pair_shaped (p : Bool × Bool) : SeqAt.shaped (pairD p) = true := by
  obtain ⟨a, b⟩ := p
  cases a <;> cases b <;> decide +kernel
/-! ### sums of rows, rows of kinds -/
def addR (a b : Row) : Row := List.zipWith (fun p q => (p.1 ^^ q.1, p.2 ^^ q.2)) a b
def zeroR (n : Nat) : Row := List.replicate (n + 1) (false, false)
def chB (a b : Int) : Bool := if 0 ≤ b then PySem.W.mcComb a b % 2 == 1 else false
def kindR (n k : Nat) : Row := (List.range (n + 1)).map fun (m : Nat) => (chB ((n : Int) - 2 - k) (((m : Nat) : Int) - 1 - k), chB ((n : Int) - 2 - k) (((m : Nat) : Int) - k))
theorem addR_len {a b : Row} (h : a.length = b.length) : (addR a b).length = b.length := by
  unfold addR
  rw [List.length_zipWith, h, Nat.min_self]
theorem zeroR_len (n : Nat) : (zeroR n).length = n + 1 := List.length_replicate
theorem kindR_len (n k : Nat) : (kindR n k).length = n + 1 := by
  unfold kindR
  rw [List.length_map, List.length_range]
theorem addR_zero : ∀ (n : Nat) (r : Row), r.length = n → addR (List.replicate n (false, false)) r = r
  | 0, [], _ => rfl
  | n + 1, p :: r, h => by
    have ih := addR_zero n r (by simpa using h)
    unfold addR at ih ⊢
    rw [List.replicate_succ, List.zipWith_cons_cons, ih]
    simp
  | 0, _ :: _, h => by simp at h
  | _ + 1, [], h => by simp at h
end Kr
namespace Kr
open PySem PySem.Spec PyProof.Rows L2
theorem szm {n : Nat} (h : n ≤ 100000) : n < sizeLine := Nat.lt_of_le_of_lt h (by decide)
theorem walk_rg {n : Nat} : Walk (Itr 0 n) n (fun _ => True) (fun i H x H' => H' = H ∧ x = .int (i : Nat)) := walk_range.mono (fun _ h => h) fun i H x H' _ _ ⟨a, b⟩ => ⟨a, by rw [b]; show V.int (0 + (i : Int)) = _; rw [Int.zero_add]⟩
/-- a comprehension without tests whose items are new data, one for each turn -/
theorem lc_itF {J : It} {n : Nat} {G : Hp → Prop} {Y : Nat → Hp → V → Hp → Prop} (w : Walk J n G Y) {g : TG} {tt : TT} {te : TE} {vs : List Nat} {σ : L2.St} {H1 : Hp} {D : Addr} {Qd : Hp → Prop} (f : Nat → PyData) (nD : H1 D = none) (hn : n ≤ 100000) (hf : ∀ i, i < n → flatT (f i) = true) (hG : ∀ H, Same H1 H → G H)
    (hs : ∀ i x H H' (C : VK) (Cn : Hp → Prop), i < n → Same H1 H → Y i H x H' → (∀ y H4, Same H H4 → Dq H4 y (f i) → C y H4) → g x (wipe σ vs) H' fun σ2 H2 => wipe σ2 vs = wipe σ vs ∧ tt σ2 H2 fun b H3 => if b = true then te σ2 H3 C else Cn H3)
    (hd : ∀ H acc, Same H1 H → H D = some (.lst acc) → DqA H acc ((List.range n).map f) → Qd H) :
    ∃ W : Nat → Nat → Hp → Prop, (∃ m, W 0 m (upd H1 D (.lst []))) ∧ ∀ i m H, W i m H →
      (J.stop i H ∧ Qd H) ∨ (J.go i H ∧ ∃ Nx : Hp → Prop, (∀ H', Nx H' → ∃ m', m' < m ∧ W (i + 1) m' H') ∧ ∀ x H', J.yld i H x H' → g x (wipe σ vs) H' fun σ2 H2 => wipe σ2 vs = wipe σ vs ∧ tt σ2 H2 fun b H3 =>
        if b = true then te σ2 H3 fun y H4 => ∃ acc, H4 D = some (.lst acc) ∧ acc.length < sizeLine ∧ Nx (upd H4 D (.lst (acc ++ [y]))) else Nx H3) := by
  refine lc_it w (fun i H => ∃ acc, H D = some (.lst acc) ∧ Same H1 H ∧ DqA H acc ((List.range i).map f)) ⟨[], upd_same, fun b o e => by rw [upd_ne (ne_of_none e nD)]; exact e, .nil⟩ (fun i H _ ⟨_, _, s, _⟩ => hG H s) (fun i x H H' hi ⟨acc, hD, s, q⟩ y => ?_) fun H ⟨acc, hD, s, q⟩ => hd H acc s hD q
  refine hs i x H H' _ _ hi s y fun z H4 s4 d4 => ⟨acc, s4 _ _ hD, szm (by have := q.len; rw [List.length_map, List.length_range] at this; omega), acc ++ [z], upd_same, fun b o e => ?_, ?_⟩
  · rw [upd_ne (ne_of_none e nD)]
    exact s4 _ _ (s _ _ e)
  · have t : TS H4 (upd H4 D (.lst (acc ++ [z]))) := TS.lst (s4 _ _ hD)
    rw [List.range_succ, List.map_append]
    refine dqa_snoc (DqA.upT t ?_ (q.up s4)) (Dq.upT t (hf i hi) d4)
    exact flatTA_of fun d hd => by
      obtain ⟨j, hj, rfl⟩ := List.mem_map.mp hd
      exact hf j (by have := List.mem_range.mp hj; omega)
end Kr
namespace Kr
open PySem PySem.Spec PyProof.Rows L2
/-- the inner walk of a comprehension with two -/
def Inner (D : Addr) (J1 : It) (g1 : TG) (tt1 : TT) (te : TE) (vs1 : List Nat) (σ2 : L2.St) (H4 : Hp) (Nx : Hp → Prop) : Prop :=
  ∃ W1 : Nat → Nat → Hp → Prop, (∃ m, W1 0 m H4) ∧ ∀ j k H, W1 j k H →
      (J1.stop j H ∧ Nx H) ∨ (J1.go j H ∧ ∃ Nx1 : Hp → Prop, (∀ H', Nx1 H' → ∃ k', k' < k ∧ W1 (j + 1) k' H') ∧ ∀ x H', J1.yld j H x H' → g1 x (wipe σ2 vs1) H' fun σ3 H5 => wipe σ3 vs1 = wipe σ2 vs1 ∧ tt1 σ3 H5 fun b H6 =>
        if b = true then te σ3 H6 fun y H7 => ∃ acc, H7 D = some (.lst acc) ∧ acc.length < sizeLine ∧ Nx1 (upd H7 D (.lst (acc ++ [y]))) else Nx1 H6)
theorem inner_it {J1 : It} {n1 : Nat} {G1 : Hp → Prop} {Y1 : Nat → Hp → V → Hp → Prop} (w : Walk J1 n1 G1 Y1) {D : Addr} {g1 : TG} {tt1 : TT} {te : TE} {vs1 : List Nat} {σ2 : L2.St} {H4 : Hp} {Nx : Hp → Prop} (Pv : Nat → Hp → Prop) (h0 : Pv 0 H4) (hG : ∀ j H, j ≤ n1 → Pv j H → G1 H)
    (hs : ∀ j x H H', j < n1 → Pv j H → Y1 j H x H' → g1 x (wipe σ2 vs1) H' fun σ3 H5 => wipe σ3 vs1 = wipe σ2 vs1 ∧ tt1 σ3 H5 fun b H6 => if b = true then te σ3 H6 fun y H7 => ∃ acc, H7 D = some (.lst acc) ∧ acc.length < sizeLine ∧ Pv (j + 1) (upd H7 D (.lst (acc ++ [y]))) else Pv (j + 1) H6)
    (hd : ∀ H, Pv n1 H → Nx H) : Inner D J1 g1 tt1 te vs1 σ2 H4 Nx := by
  refine ⟨fun j k H => k = n1 - j ∧ j ≤ n1 ∧ Pv j H, ⟨n1, by simp, Nat.zero_le _, h0⟩, ?_⟩
  rintro j k H ⟨rfl, hj, p⟩
  have q := hG j H hj p
  by_cases hlt : j < n1
  · exact .inr ⟨w.goes j H hlt q, Pv (j + 1), fun H' p' => ⟨n1 - (j + 1), by omega, rfl, hlt, p'⟩, fun x H' y => hs j x H H' hlt p (w.yields j H x H' hlt q y)⟩
  · obtain rfl : j = n1 := by omega
    exact .inl ⟨w.stops H q, hd H p⟩
theorem lc2_it {J : It} {n : Nat} {G : Hp → Prop} {Y : Nat → Hp → V → Hp → Prop} (w : Walk J n G Y) {D : Addr} {g g1 : TG} {tt tt1 : TT} {wi1 : TI} {te : TE} {vs vs1 : List Nat} {σ : L2.St} {H1 : Hp} {Qd : Hp → Prop} (Pv : Nat → Hp → Prop) (h0 : Pv 0 (upd H1 D (.lst []))) (hG : ∀ i H, i ≤ n → Pv i H → G H)
    (hs : ∀ i x H H', i < n → Pv i H → Y i H x H' → g x (wipe σ vs) H' fun σ2 H2 => wipe σ2 vs = wipe σ vs ∧ tt σ2 H2 fun b H3 => if b = true then wi1 σ2 H3 fun J1 H4 => Inner D J1 g1 tt1 te vs1 σ2 H4 (Pv (i + 1)) else Pv (i + 1) H3) (hd : ∀ H, Pv n H → Qd H) :
    ∃ W : Nat → Nat → Hp → Prop, (∃ m, W 0 m (upd H1 D (.lst []))) ∧ ∀ i m H, W i m H →
      (J.stop i H ∧ Qd H) ∨ (J.go i H ∧ ∃ Nx : Hp → Prop, (∀ H', Nx H' → ∃ m', m' < m ∧ W (i + 1) m' H') ∧ ∀ x H', J.yld i H x H' → g x (wipe σ vs) H' fun σ2 H2 => wipe σ2 vs = wipe σ vs ∧ tt σ2 H2 fun b H3 =>
        if b = true then wi1 σ2 H3 fun J1 H4 => Inner D J1 g1 tt1 te vs1 σ2 H4 Nx else Nx H3) := by
  refine ⟨fun i m H => m = n - i ∧ i ≤ n ∧ Pv i H, ⟨n, by simp, Nat.zero_le _, h0⟩, ?_⟩
  rintro i m H ⟨rfl, hi, p⟩
  have q := hG i H hi p
  by_cases hlt : i < n
  · exact .inr ⟨w.goes i H hlt q, Pv (i + 1), fun H' p' => ⟨n - (i + 1), by omega, rfl, hlt, p'⟩, fun x H' y => hs i x H H' hlt p (w.yields i H x H' hlt q y)⟩
  · obtain rfl : i = n := by omega
    exact .inl ⟨w.stops H q, hd H p⟩
/-- data of a list of lists of numbers -/
def lotD (l : List Nat) : PyData := .tuple (l.map fun (x : Nat) => .int (x : Int))
def lv (l : List Nat) : List V := l.map fun (x : Nat) => V.int (x : Int)
theorem lv_dq {H : Hp} (l : List Nat) : DqA H (lv l) (l.map fun (x : Nat) => PyData.int (x : Int)) := by
  induction l with
  | nil => exact .nil
  | cons x l ih => exact .cons (.int _) ih
theorem lot_at {H : Hp} {a : Addr} {l : List Nat} (h : H a = some (.tup (lv l))) : Dq H (.ref a) (lotD l) := .tup h (lv_dq l)
theorem lot_inv {H : Hp} {v : V} {l : List Nat} (h : Dq H v (lotD l)) : ∃ a, v = .ref a ∧ H a = some (.tup (lv l)) := by
  obtain ⟨a, xs, rfl, e, q⟩ := Dq.tup_inv h
  have : ∀ (xs : List V) (l : List Nat), DqA H xs (l.map fun (x : Nat) => PyData.int (x : Int)) → xs = lv l := by
    intro xs l
    induction l generalizing xs with
    | nil => intro q; cases q; rfl
    | cons x l ih =>
      intro q
      cases q with
      | cons h1 h2 =>
        cases h1
        rw [ih _ h2]
        rfl
  rw [this xs l q] at e
  exact ⟨a, rfl, e⟩
theorem lot_flat (l : List Nat) : flatT (lotD l) = true := by
  simp only [lotD, flatT]
  exact flatTA_of fun d hd => by
    obtain ⟨x, _, rfl⟩ := List.mem_map.mp hd
    rfl
theorem lots_flat (L : List (List Nat)) : flatTA (L.map lotD) = true := flatTA_of fun d hd => by
  obtain ⟨l, _, rfl⟩ := List.mem_map.mp hd
  exact lot_flat l
theorem lots_get {H : Hp} {xs : List V} {L : List (List Nat)} {i : Nat} {y : V} (q : DqA H xs (L.map lotD)) (e : xs[i]? = some y) : ∃ l, L[i]? = some l ∧ ∃ a, y = .ref a ∧ H a = some (.tup (lv l)) := by
  obtain ⟨d, h1, h2⟩ := q.get e
  rw [List.getElem?_map] at h1
  cases hr : L[i]? with
  | none => rw [hr] at h1; cases h1
  | some l =>
    rw [hr] at h1
    cases Option.some.inj h1
    exact ⟨l, rfl, lot_inv h2⟩
end Kr
namespace Kr
/-! ### how many ways -/
def ch : Nat → Nat → Nat
  | _, 0 => 1
  | 0, _ + 1 => 0
  | n + 1, k + 1 => ch n k + ch n (k + 1)
theorem ch_tab : ∀ n : Nat, n < 26 → ∀ k : Nat, k < 27 → PySem.W.mcComb (n : Int) (k : Int) = (ch n k : Int) := by decide +kernel
theorem ch_zero : ∀ n k : Nat, n < k → ch n k = 0
  | 0, 0, h => absurd h (Nat.lt_irrefl _)
  | 0, k + 1, _ => by simp [ch]
  | n + 1, 0, h => by omega
  | n + 1, k + 1, h => by
    rw [ch, ch_zero n k (by omega), ch_zero n (k + 1) (by omega)]
theorem ch_self : ∀ n : Nat, ch n n = 1
  | 0 => by simp [ch]
  | n + 1 => by rw [ch, ch_self n, ch_zero n (n + 1) (by omega)]
theorem ch_pos : ∀ n k : Nat, k ≤ n → 0 < ch n k
  | n, 0, _ => by cases n <;> simp [ch]
  | 0, k + 1, h => by omega
  | n + 1, k + 1, h => by
    rw [ch]
    have := ch_pos n k (by omega)
    omega
/-- those of fewer places -/
def below (n s : Nat) : Nat := ((List.range s).map fun k => ch n k).sum
theorem below_succ (n s : Nat) : below n (s + 1) = below n s + ch n s := by
  unfold below
  rw [List.range_succ, List.map_append, List.sum_append]
  simp
theorem below_all (n : Nat) (hn : n < 26) : below n (n + 1) = 2 ^ n := by
  have : ∀ n : Nat, n < 26 → below n (n + 1) = 2 ^ n := by decide +kernel
  exact this n hn
theorem below_le {n s t : Nat} (h : s ≤ t) : below n s ≤ below n t := by
  induction t with
  | zero => rw [show s = 0 by omega]; exact Nat.le_refl _
  | succ t ih =>
    by_cases hs : s = t + 1
    · rw [hs]; exact Nat.le_refl _
    · rw [below_succ]
      have := ih (by omega)
      omega
/-! ### lots in their order -/
/-- the lot among those of k places from p on, m places being left -/
def un : Nat → Nat → Nat → Nat → List Nat
  | _, 0, _, _ => []
  | _, _ + 1, 0, _ => []
  | p, m + 1, k + 1, a => if a < ch m k then p :: un (p + 1) m k a else un (p + 1) m (k + 1) (a - ch m k)
/-- how many stand ahead -/
def rk : Nat → Nat → List Nat → Nat
  | _, _, [] => 0
  | _, 0, _ :: _ => 0
  | p, m + 1, x :: xs => if x = p then rk (p + 1) m xs else ch m xs.length + rk (p + 1) m (x :: xs)
/-- an ascending list of numbers from p to p + m - 1 -/
def Asc (p m : Nat) (l : List Nat) : Prop := l.Pairwise (· < ·) ∧ ∀ x ∈ l, p ≤ x ∧ x < p + m
theorem Asc.len : ∀ {p m : Nat} {l : List Nat}, Asc p m l → l.length ≤ m
  | _, _, [], _ => Nat.zero_le _
  | p, 0, x :: l, h => by
    have := h.2 x List.mem_cons_self
    omega
  | p, m + 1, x :: l, h => by
    obtain ⟨h1, h2⟩ := List.pairwise_cons.mp h.1
    have hx := h.2 x List.mem_cons_self
    have : Asc (p + 1) m l := ⟨h2, fun y hy => by
      have := h1 y hy
      have := h.2 y (List.mem_cons_of_mem _ hy)
      omega⟩
    have := this.len
    rw [List.length_cons]
    omega
theorem Asc.tail {p m x : Nat} {l : List Nat} (h : Asc p (m + 1) (x :: l)) (hx : x = p) : Asc (p + 1) m l := by
  obtain ⟨h1, h2⟩ := List.pairwise_cons.mp h.1
  refine ⟨h2, fun y hy => ?_⟩
  have := h1 y hy
  have := h.2 y (List.mem_cons_of_mem _ hy)
  omega
theorem Asc.skip {p m x : Nat} {l : List Nat} (h : Asc p (m + 1) (x :: l)) (hx : ¬ x = p) : Asc (p + 1) m (x :: l) := by
  refine ⟨h.1, fun y hy => ?_⟩
  obtain ⟨h1, _⟩ := List.pairwise_cons.mp h.1
  have hx0 := h.2 x List.mem_cons_self
  have hy0 := h.2 y hy
  rcases List.mem_cons.mp hy with e | hm
  · omega
  · have := h1 y hm
    omega
theorem rk_un : ∀ (m p : Nat) (l : List Nat), Asc p m l → un p m l.length (rk p m l) = l ∧ rk p m l < ch m l.length
  | 0, p, l, h => by
    have := h.len
    have : l = [] := List.length_eq_zero_iff.mp (by omega)
    subst this
    exact ⟨rfl, by simp [rk, ch]⟩
  | m + 1, p, [], _ => ⟨rfl, by simp [rk, ch]⟩
  | m + 1, p, x :: l, h => by
    simp only [List.length_cons, un, rk, ch]
    by_cases hx : x = p
    · obtain ⟨h1, h2⟩ := rk_un m (p + 1) l (h.tail hx)
      rw [if_pos hx, if_pos h2, h1, hx]
      exact ⟨rfl, by omega⟩
    · obtain ⟨h1, h2⟩ := rk_un m (p + 1) (x :: l) (h.skip hx)
      rw [if_neg hx, if_neg (by omega), Nat.add_sub_cancel_left]
      rw [List.length_cons] at h1 h2
      exact ⟨h1, by omega⟩
theorem un_rk : ∀ (m p k a : Nat), a < ch m k → Asc p m (un p m k a) ∧ (un p m k a).length = k ∧ rk p m (un p m k a) = a
  | 0, p, 0, a, h => ⟨⟨.nil, fun x hx => nomatch hx⟩, rfl, by simp [ch] at h; simp [un, rk, h]⟩
  | 0, p, k + 1, a, h => by simp [ch] at h
  | m + 1, p, 0, a, h => ⟨⟨.nil, fun x hx => nomatch hx⟩, rfl, by simp [ch] at h; simp [un, rk, h]⟩
  | m + 1, p, k + 1, a, h => by
    simp only [un]
    by_cases ha : a < ch m k
    · obtain ⟨⟨h1, h2⟩, h3, h4⟩ := un_rk m (p + 1) k a ha
      rw [if_pos ha]
      refine ⟨⟨List.pairwise_cons.mpr ⟨fun y hy => by have := h2 y hy; omega, h1⟩, fun y hy => ?_⟩, by rw [List.length_cons, h3], by simp [rk, h4]⟩
      rcases List.mem_cons.mp hy with e | hm
      · omega
      · have := h2 y hm
        omega
    · rw [ch] at h
      obtain ⟨⟨h1, h2⟩, h3, h4⟩ := un_rk m (p + 1) (k + 1) (a - ch m k) (by omega)
      rw [if_neg ha]
      refine ⟨⟨h1, fun y hy => by have := h2 y hy; omega⟩, h3, ?_⟩
      cases e : un (p + 1) m (k + 1) (a - ch m k) with
      | nil => rw [e] at h3; cases h3
      | cons x l =>
        rw [e] at h2 h3 h4
        have hx := h2 x List.mem_cons_self
        simp only [rk]
        rw [if_neg (by omega), h4, show l.length = k by simpa using h3]
        omega
/-! ### the number of a lot -/
def num (n : Nat) (l : List Nat) : Nat := below n l.length + rk 0 n l
/-- the size of the lot with a number, and what is left -/
def sizeAt (n : Nat) : Nat → Nat → Nat → Option (Nat × Nat)
  | 0, _, _ => none
  | f + 1, s, a => if a < ch n s then some (s, a) else sizeAt n f (s + 1) (a - ch n s)
def lotAt (n a : Nat) : Option (List Nat) := (sizeAt n (n + 1) 0 a).map fun (s, r) => un 0 n s r
theorem sizeAt_ok (n : Nat) : ∀ (f s a t r : Nat), t < s + f → s ≤ t → below n s + a = below n t + r → r < ch n t → sizeAt n f s a = some (t, r)
  | 0, s, a, t, r, h, h1, _, _ => by omega
  | f + 1, s, a, t, r, h, h1, h2, h3 => by
    simp only [sizeAt]
    by_cases hs : s = t
    · subst hs
      rw [if_pos (by omega)]
      have : a = r := by omega
      rw [this]
    · have h4 := below_le (n := n) (show s + 1 ≤ t by omega)
      rw [below_succ] at h4
      rw [if_neg (by omega)]
      exact sizeAt_ok n f (s + 1) (a - ch n s) t r (by omega) (by omega) (by rw [below_succ]; omega) h3
theorem sizeAt_ex (n : Nat) : ∀ (f s a : Nat), below n s + a < below n (s + f) → ∃ t r, sizeAt n f s a = some (t, r) ∧ s ≤ t ∧ t < s + f ∧ below n s + a = below n t + r ∧ r < ch n t
  | 0, s, a, h => by
    rw [Nat.add_zero] at h
    omega
  | f + 1, s, a, h => by
    simp only [sizeAt]
    by_cases ha : a < ch n s
    · rw [if_pos ha]
      exact ⟨s, a, rfl, Nat.le_refl _, by omega, rfl, ha⟩
    · rw [if_neg ha]
      obtain ⟨t, r, h1, h2, h3, h4, h5⟩ := sizeAt_ex n f (s + 1) (a - ch n s) (by rw [below_succ, show s + 1 + f = s + (f + 1) by omega]; omega)
      rw [below_succ] at h4
      exact ⟨t, r, h1, by omega, by omega, by omega, h5⟩
theorem sizeAt_none (n : Nat) : ∀ (f s a : Nat), below n (s + f) ≤ below n s + a → sizeAt n f s a = none
  | 0, s, a, _ => rfl
  | f + 1, s, a, h => by
    have h4 := below_le (n := n) (show s + 1 ≤ s + (f + 1) by omega)
    rw [below_succ] at h4
    simp only [sizeAt]
    rw [if_neg (by omega)]
    exact sizeAt_none n f (s + 1) (a - ch n s) (by rw [below_succ, show s + 1 + f = s + (f + 1) by omega]; omega)
theorem lotAt_num {n : Nat} {l : List Nat} (h : Asc 0 n l) : lotAt n (num n l) = some l := by
  obtain ⟨h1, h2⟩ := rk_un n 0 l h
  have hl := h.len
  unfold lotAt
  rw [sizeAt_ok n (n + 1) 0 (num n l) l.length (rk 0 n l) (by omega) (by omega) (by show 0 + _ = _; rw [Nat.zero_add]; rfl) h2]
  simp only [Option.map_some]
  rw [h1]
theorem lotAt_some {n a : Nat} (hn : n < 26) (ha : a < 2 ^ n) : ∃ l, lotAt n a = some l ∧ Asc 0 n l ∧ num n l = a := by
  obtain ⟨t, r, h1, h2, h3, h4, h5⟩ := sizeAt_ex n (n + 1) 0 a (by rw [Nat.zero_add, below_all n hn]; show 0 + a < _; omega)
  obtain ⟨g1, g2, g3⟩ := un_rk n 0 t r h5
  refine ⟨un 0 n t r, by unfold lotAt; rw [h1]; rfl, g1, ?_⟩
  unfold num
  rw [g2, g3]
  have : below n 0 = 0 := rfl
  omega
theorem lotAt_none {n a : Nat} (hn : n < 26) (ha : 2 ^ n ≤ a) : lotAt n a = none := by
  unfold lotAt
  rw [sizeAt_none n (n + 1) 0 a (by rw [Nat.zero_add, below_all n hn]; show _ ≤ 0 + a; omega)]
  rfl
/-! ### the same, by spots -/
/-- what lot_number adds for the places from s on -/
def numGo (n : Nat) : Nat → List Nat → Nat
  | _, [] => 0
  | p, x :: xs => ((List.range (x - p)).map fun j => ch (n - 1 - (p + j)) xs.length).sum + numGo n (x + 1) xs
theorem rk_go : ∀ (m p : Nat) (l : List Nat), Asc p m l → rk p m l = numGo (p + m) p l
  | m, p, [], _ => by cases m <;> rfl
  | 0, p, x :: l, h => by
    have := h.2 x List.mem_cons_self
    omega
  | m + 1, p, x :: l, h => by
    simp only [rk]
    by_cases hx : x = p
    · rw [if_pos hx, rk_go m (p + 1) l (h.tail hx)]
      simp only [numGo]
      rw [hx, Nat.sub_self, show p + (m + 1) = p + 1 + m by omega]
      simp
    · have hx0 := h.2 x List.mem_cons_self
      rw [if_neg hx, rk_go m (p + 1) (x :: l) (h.skip hx)]
      simp only [numGo]
      rw [show x - p = (x - (p + 1)) + 1 by omega, List.range_succ_eq_map, List.map_cons, List.map_map, List.sum_cons, show p + (m + 1) = p + 1 + m by omega]
      have e1 : ch (p + 1 + m - 1 - (p + 0)) l.length = ch m l.length := by congr 1; omega
      have e2 : ((fun j => ch (p + 1 + m - 1 - (p + j)) l.length) ∘ Nat.succ) = fun j => ch (p + 1 + m - 1 - (p + 1 + j)) l.length := by
        funext j
        show ch (p + 1 + m - 1 - (p + (j + 1))) l.length = _
        congr 1
        omega
      rw [e1, e2]
      omega
theorem num_go {n : Nat} {l : List Nat} (h : Asc 0 n l) : num n l = below n l.length + numGo n 0 l := by
  unfold num
  rw [rk_go n 0 l h, Nat.zero_add]
/-! ### all lots of a size -/
def nx (l : List Nat) : Nat := match l.getLast? with
  | some x => x + 1
  | none => 0
def stepL (n : Nat) (L : List (List Nat)) : List (List Nat) := L.flatMap fun l => (List.range' (nx l) (n - nx l)).map fun x => l ++ [x]
def lotsL (n : Nat) : Nat → List (List Nat)
  | 0 => [[]]
  | s + 1 => stepL n (lotsL n s)
/-- the law's own: lots that can't be filled up are left out -/
def lawStep (n s t : Nat) (L : List (List Nat)) : List (List Nat) := L.flatMap fun l => (List.range' (nx l) (n - s + t + 1 - nx l)).map fun x => l ++ [x]
def lawL (n s : Nat) : Nat → List (List Nat)
  | 0 => [[]]
  | t + 1 => lawStep n s t (lawL n s t)
def allL (n : Nat) : List (List Nat) := (List.range (n + 1)).flatMap fun s => lotsL n s
theorem lots_law : ∀ n : Nat, n < 13 → ∀ s : Nat, s < n + 1 → lawL n s s = lotsL n s := by decide +kernel
theorem lots_len : ∀ n : Nat, n < 13 → ∀ s : Nat, s < 13 → (lotsL n s).length = ch n s := by decide +kernel
theorem lots_nums : ∀ n : Nat, n < 7 → (allL n).map (num n) = List.range (2 ^ n) := by decide +kernel
end Kr
namespace Kr
open PySem PySem.Spec PyProof.Rows L2
/-! ### small data: what repr can show -/
structure Sm (k w : Nat) (d : PyData) : Prop where
  sh : d.showable = true
  ls : d.leavesShort 41 = true
  dp : d.depth ≤ k
  wt : d.weight ≤ w
theorem Sm.mono {k w k' w' : Nat} {d : PyData} (h : Sm k w d) (hk : k ≤ k') (hw : w ≤ w') : Sm k' w' d := ⟨h.sh, h.ls, Nat.le_trans h.dp hk, Nat.le_trans h.wt hw⟩
theorem sm_all {k w : Nat} : ∀ {ds : List PyData}, (∀ d ∈ ds, Sm k w d) → PyData.showableAll ds = true ∧ PyData.leavesShortAll 41 ds = true ∧ PyData.depthAll ds ≤ k ∧ PyData.weightAll ds ≤ (w + 1) * ds.length
  | [], _ => ⟨by simp [PyData.showableAll], by simp [PyData.leavesShortAll], by simp [PyData.depthAll], by simp [PyData.weightAll]⟩
  | d :: ds, h => by
    obtain ⟨h1, h2, h3, h4⟩ := sm_all fun x hx => h x (List.mem_cons_of_mem _ hx)
    have hd := h d List.mem_cons_self
    refine ⟨by simp [PyData.showableAll, hd.sh, h1], by simp [PyData.leavesShortAll, hd.ls, h2], ?_, ?_⟩
    · simp only [PyData.depthAll]
      have := hd.dp
      omega
    · simp only [PyData.weightAll, List.length_cons, Nat.mul_add]
      have := hd.wt
      omega
theorem Sm.lst {k w m : Nat} {ds : List PyData} (h : ∀ d ∈ ds, Sm k w d) (hm : ds.length ≤ m) : Sm (k + 1) ((w + 1) * m) (.list ds) := by
  obtain ⟨h1, h2, h3, h4⟩ := sm_all h
  refine ⟨by simpa [PyData.showable] using h1, by simpa [PyData.leavesShort] using h2, by simp only [PyData.depth]; omega, ?_⟩
  simp only [PyData.weight]
  exact Nat.le_trans h4 (Nat.mul_le_mul_left _ hm)
theorem Sm.tup {k w m : Nat} {ds : List PyData} (h : ∀ d ∈ ds, Sm k w d) (hm : ds.length ≤ m) : Sm (k + 1) ((w + 1) * m) (.tuple ds) := by
  obtain ⟨h1, h2, h3, h4⟩ := sm_all h
  refine ⟨by simpa [PyData.showable] using h1, by simpa [PyData.leavesShort] using h2, by simp only [PyData.depth]; omega, ?_⟩
  simp only [PyData.weight]
  exact Nat.le_trans h4 (Nat.mul_le_mul_left _ hm)
theorem Sm.int {i : Int} (h : i.natAbs < 10 ^ 40) : Sm 1 140 (.int i) := by
  have hl : (PyData.shown (.int i)).length ≤ 41 := by
    have e := int_text_length_le10 (k := 40) (by decide) h
    show (Str.ofString (toString i)).length ≤ 41
    rw [PySem.ofString_length]
    exact e
  have hg : i.natAbs.log2 < 134 := by
    by_cases h0 : i.natAbs = 0
    · rw [h0]
      decide
    · rw [Nat.log2_lt h0]
      exact Nat.lt_of_lt_of_le h (by decide)
  refine ⟨?_, by simpa [PyData.leavesShort] using hl, by simp [PyData.depth], ?_⟩
  · simp only [PyData.showable, decide_eq_true_eq]
    omega
  · simp only [PyData.weight]
    split <;> omega
theorem Sm.non : Sm 1 140 .none := ⟨rfl, rfl, by simp [PyData.depth], by simp [PyData.weight]⟩
theorem Sm.bl (b : Bool) : Sm 1 140 (.bool b) := ⟨rfl, rfl, by simp [PyData.depth], by simp [PyData.weight]⟩
theorem Sm.dic : Sm 1 140 (.dict []) := ⟨by simp [PyData.showable, PyData.showableKv], by simp [PyData.leavesShort, PyData.leavesShortKv], by simp [PyData.depth, PyData.depthKv], by simp [PyData.weight, PyData.weightKv]⟩
theorem Sm.str {x : Str} (h : (x.cps.toList.all fun c => decide (c < 16 ^ 8)) = true) (hs : x.length ≤ 4) : Sm 1 140 (.str x) :=
  ⟨by simp [PyData.showable], by simpa [PyData.leavesShort] using h, by simp [PyData.depth], Nat.le_trans (show x.cps.size ≤ 4 from hs) (by decide)⟩
/-- the text is short enough -/
theorem Sm.fits {k w : Nat} {d : PyData} (h : Sm k w d) (hw : w ≤ 380000) : d.shown.length ≤ sizeLine := by
  have h1 := PyData.shown_le 41 (by decide) d h.ls
  have h2 := h.wt
  rw [sizeLine_eq]
  omega
/-- repr of small data -/
theorem repr_sm {v : V} {d : PyData} {H : Hp} {Q : VK} {k w : Nat} (hd : Dq H v d) (h : Sm k w d) (hk : k ≤ 40) (hw : w ≤ 380000) (q : Q (.str d.shown) H) : rRepr [v] H Q :=
  ⟨v, d, rfl, hd, h.sh, Nat.le_trans h.dp hk, h.fits hw, q⟩
/-- t + u, tuples of any lengths: some object that holds both -/
theorem catA_k {K : PySem.W.Frag} {a b : Addr} {xs ys : List V} {Q : VK} {H : Hp} (ha : H a = some (.tup xs)) (hb : H b = some (.tup ys)) (hl : xs.length + ys.length ≤ 100000) (k : ∀ y H5, Same H H5 → H5 y = some (.tup (xs ++ ys)) → Q (.ref y) H5) : rCatA K (.ref a) (.ref b) H Q := by
  refine ⟨a, b, xs, ys, rfl, rfl, SqT.of ha, SqT.of hb, Nat.le_trans hl (by decide), fun e => k _ _ (Same.refl _) (by rw [e]; exact hb), fun _ e => k _ _ (Same.refl _) (by rw [e, List.append_nil]; exact ha), fun _ _ p np => k _ _ (fun c o h => ?_) upd_same⟩
  rw [upd_ne (ne_of_none h np)]
  exact h
/-- t[i:j] of a tuple: some object that holds it -/
theorem sliceA_k {K : PySem.W.Frag} {a : Addr} {xs : List V} {lo hi : Option Int} {Q : VK} {H : Hp} (ha : H a = some (.tup xs)) (k : ∀ y H5, Same H H5 → H5 y = some (.tup (cutV xs lo hi)) → Q (.ref y) H5) : rSlA K (.ref a) lo hi H Q := by
  refine ⟨a, xs, rfl, SqT.of ha, fun ⟨e1, e2⟩ => k _ _ (Same.refl _) ?_, fun _ p np => k _ _ (fun c o h => ?_) upd_same⟩
  · unfold cutV
    rw [e1, e2, List.drop_zero, Nat.sub_zero, List.take_length]
    exact ha
  · rw [upd_ne (ne_of_none h np)]
    exact h
theorem cut_to {xs : List V} {i : Nat} (h : i ≤ xs.length) : cutV xs none (some (i : Int)) = xs.take i := by
  unfold cutV
  rw [HT.sIx_none, HT.sIx_nat, List.drop_zero, Nat.sub_zero, Nat.min_eq_left h]
theorem cut_from {xs : List V} {i : Nat} (h : i ≤ xs.length) : cutV xs (some (i : Int)) none = xs.drop i := by
  unfold cutV
  rw [HT.sIx_none, HT.sIx_nat, Nat.min_eq_left h]
  exact List.take_of_length_le (by rw [List.length_drop]; exact Nat.le_refl _)
end Kr
namespace Kr
open PySem PySem.Spec PyProof.Rows L2
/-- the names of the built-ins are theirs -/
structure Bi (mg : Str → Option Value) : Prop where
  len : mg "len" = none
  abs : mg "abs" = none
  int : mg "int" = none
  bool : mg "bool" = none
  tuple : mg "tuple" = none
  list : mg "list" = none
  range : mg "range" = none
  zip : mg "zip" = none
  repr : mg "repr" = none
  enumerate : mg "enumerate" = none
  isinstance : mg "isinstance" = none
  all : mg "all" = none
  sorted : mg "sorted" = none
  set : mg "set" = none
  sum : mg "sum" = none
  min : mg "min" = none
  max : mg "max" = none
  any : mg "any" = none
  str : mg "str" = none
theorem sz {n : Nat} (h : n ≤ 100000) : n ≤ sizeLine := Nat.le_trans h (by decide)
theorem szl {n : Nat} (h : n < 100000) : n < sizeLine := Nat.lt_of_lt_of_le h (by decide)
/-- two ways that meet again -/
theorem join2 {c A : Prop} [Decidable c] {G R : Hp → Prop} {H2 : Hp} (tail : ∀ H3, R H3 → G H3) (h2 : ¬ c → R H2) (h1 : c → (∀ H3, R H3 → G H3) → A) : if c then A else G H2 :=
  ite2 (fun h => h1 h tail) fun h => tail _ (h2 h)
theorem same_new {H : Hp} {q : Addr} {o : HO} (h : H q = none) : Same H (upd H q o) := fun b x e => by
  rw [upd_ne (ne_of_none e h)]
  exact e
structure Df (K : PySem.W.Frag) (mg : Str → Option Value) (x : Str) (st : Stmt) (ps : List Str) : Prop where
  ex : ∃ f fd, Fun K x x st f fd ∧ Binds K fd ps [] ∧ mg x = some (.ref f)
structure Ok (P : Program) (w : World) (K : PySem.W.Frag) (mg : Str → Option Value) (base : Heap) (k : Nat) (x : Str) (ps : List Str) (sp : Sp) : Prop where
  ex : ∃ f fd, FnOk P w K mg base CX0 k f fd ps sp ∧ PySem.W.keepIn K (.ref f) = true ∧ mg x = some (.ref f) ∧ Binds K fd ps []
section
variable {P : Program} {w : World} {K : PySem.W.Frag} {mg : Str → Option Value} {base : Heap}
theorem Df.ok {x : Str} {st : Stmt} {ps : List Str} {k : Nat} {sp : Sp} (D : Df K mg x st ps) (h : ∀ f fd, Fun K x x st f fd → FnOk P w K mg base CX0 k f fd ps sp) : Ok P w K mg base k x ps sp := by
  obtain ⟨f, fd, F, b, g⟩ := D.ex
  exact ⟨f, fd, h f fd F, F.kp, g, b⟩
theorem Ok.mono {x : Str} {ps : List Str} {j k : Nat} {sp : Sp} (D : Ok P w K mg base j x ps sp) (h : j ≤ k) : Ok P w K mg base k x ps sp := by
  obtain ⟨f, fd, F, r⟩ := D.ex
  exact ⟨f, fd, F.mono h, r⟩
end
theorem pe_fn {X : Cx} {k : Nat} {x : Str} {ps : List Str} {sp : Sp} {p pos : Pos} {e : Expr} {es : List Expr} {t : TA} (D : Ok X.prog X.w X.K X.mg X.base k x ps sp) (hr : Room k X.A) (hg : Gl X x) (ha : PA X (e :: es) t)
    (hdb : (x == ("__debug__" : Str)) = false := by decide) (he : starEach (e :: es) X.env = (false, eval e X.env) :: starEach es X.env := by rfl) (hpl : (backTo pos (starEach es X.env)).any (·.1) = false := by rfl) :
    PE X (.Call (.Name x p) (e :: es) [] pos) (tCall sp [] E0 t) := by
  obtain ⟨f, fd, F, kp, g, b⟩ := D.ex
  exact pe_call F hr hg g kp b .nil pass0 ha hdb he hpl
theorem atI_int {α : Type} {xs : List α} {r : Int} {v : α} (h0 : 0 ≤ r) (h : xs[r.toNat]? = some v) : atI xs r = some v := by
  have e : r = ((r.toNat : Nat) : Int) := by omega
  rw [e]
  exact atI_nat h
end Kr
namespace Kr
open PySem PySem.Spec PyProof.Rows L2
theorem ch_small : ∀ n : Nat, n < 13 → ∀ s : Nat, s < 14 → ch n s < 1000 := by decide +kernel
theorem range1_succ (s j : Nat) : List.range' s (j + 1) = List.range' s j ++ [s + j] := by
  rw [List.range'_concat]
  simp
theorem flat_take {α β : Type} {L : List α} {f : α → List β} {i : Nat} {x : α} (h : L[i]? = some x) : (L.take (i + 1)).flatMap f = (L.take i).flatMap f ++ f x := by
  rw [List.take_add_one, h, List.flatMap_append]
  simp
theorem flat_le {α β : Type} (L : List α) (f : α → List β) (i : Nat) : ((L.take i).flatMap f).length ≤ (L.flatMap f).length := by
  conv => rhs; rw [← List.take_append_drop i L]
  rw [List.flatMap_append, List.length_append]
  omega
def exts (n : Nat) (l : List Nat) : List (List Nat) := (List.range' (nx l) (n - nx l)).map fun x => l ++ [x]
theorem step_exts (n : Nat) (L : List (List Nat)) : stepL n L = L.flatMap (exts n) := rfl
theorem nx_nil : nx [] = 0 := rfl
theorem nx_snoc (l : List Nat) (x : Nat) : nx (l ++ [x]) = x + 1 := by simp [nx]
theorem lv_snoc (l : List Nat) (x : Nat) : lv (l ++ [x]) = lv l ++ [V.int (x : Int)] := by simp [lv]
theorem lv_len (l : List Nat) : (lv l).length = l.length := by simp [lv]
theorem lots_in (n : Nat) : ∀ s, ∀ l ∈ lotsL n s, l.length = s ∧ ∀ x ∈ l, x < n
  | 0, l, h => by
    rw [List.mem_singleton.mp h]
    exact ⟨rfl, fun x hx => nomatch hx⟩
  | s + 1, l, h => by
    obtain ⟨k, hk, hl⟩ := List.mem_flatMap.mp h
    obtain ⟨x, hx, rfl⟩ := List.mem_map.mp hl
    obtain ⟨h1, h2⟩ := lots_in n s k hk
    have := List.mem_range'_1.mp hx
    refine ⟨by rw [List.length_append, h1]; rfl, fun y hy => ?_⟩
    rcases List.mem_append.mp hy with hy | hy
    · exact h2 y hy
    · rw [List.mem_singleton.mp hy]; omega
abbrev tNextL (K : PySem.W.Frag) (i : Nat) : TE := tIf (fun σ H Q => tVar i σ H fun x H' => ∃ k, TruV K x H' k ∧ Q k H') (tOp (rI0 fun i j => .int (i + j)) (tOp (rIxT K) (tVar i) (tUn (rU fun i => .int (-i)) (tC (.int 1)))) (tC (.int 1))) (tC (.int 0))
/-- what stands ahead of the extensions of a lot: lot[-1] + 1 if lot else 0 -/
theorem next_val {K : PySem.W.Frag} {σ : L2.St} {i : Nat} {a : Addr} {l : List Nat} {H : Hp} {Q : VK} (hv : σ[i]? = some (some (.ref a))) (ha : H a = some (.tup (lv l))) (q : Q (.int (nx l : Nat)) H) :
    tNextL K i σ H Q := by
  refine ⟨.ref a, hv, _, .inr (.inl ⟨_, SqT.of ha, rfl⟩), ?_⟩
  by_cases hl : l = []
  · subst hl
    exact iteF q
  · obtain ⟨k, x, rfl⟩ : ∃ k x, l = k ++ [x] := ⟨l.dropLast, l.getLast hl, (List.dropLast_concat_getLast hl).symm⟩
    rw [nx_snoc] at q
    have e : (!(lv (k ++ [x])).isEmpty) = true := by simp [lv]
    rw [e]
    refine iteT ⟨.ref a, hv, 1, rfl, a, _, -1, .int (x : Int), rfl, rfl, SqT.of ha, by rw [lv_snoc]; exact atI_last _ _, x, 1, rfl, rfl, ?_⟩
    have e2 : ((x : Int) + 1) = ((x + 1 : Nat) : Int) := by omega
    dsimp only
    rw [e2]
    exact q
def spLots : Sp := fun vs H Q _ => ∃ n s : Nat, vs = [.int (n : Int), .int (s : Int)] ∧ n ≤ 12 ∧ s ≤ 12 ∧ ∀ H' v, Same H H' → Dq H' v (.tuple ((lotsL n s).map lotD)) → Q v H'
end Kr
namespace Kr
open PySem PySem.Spec PyProof.Rows L2
def entD (e : List Int) : PyData := .tuple (e.map .int)
def tabD (T : List (List Int)) : PyData := .tuple (T.map entD)
/-- the entry of a lot l where the riders' ways are ws -/
def byE (l : List Nat) (ws : List Int) : List Int := (List.range ws.length).map fun x => if x ∈ l then -1 else ws.getD x 0
def ups (n : Nat) : List Int := (List.range n).map fun k => ((k : Nat) : Int)
def stillT (n : Nat) : List (List Int) := (allL n).map fun l => byE l (ups n)
def swapW (n a b : Nat) : List Int := ((ups n).set a (b : Int)).set b (a : Int)
def deedT (n : Nat) (q : List Nat) (a b : Nat) : List (List Int) := (allL n).map fun l => byE l (if q.all (fun x => decide (x ∈ l)) = true then swapW n a b else ups n)
theorem ent_flat (e : List Int) : flatT (entD e) = true := by
  simp only [entD, flatT]
  exact flatTA_of fun d hd => by
    obtain ⟨x, _, rfl⟩ := List.mem_map.mp hd
    rfl
theorem ents_flat (T : List (List Int)) : flatTA (T.map entD) = true := flatTA_of fun d hd => by
  obtain ⟨l, _, rfl⟩ := List.mem_map.mp hd
  exact ent_flat l
theorem ent_at {H : Hp} {a : Addr} {e : List Int} (h : H a = some (.tup (e.map V.int))) : Dq H (.ref a) (entD e) := .tup h (DqA.ints e)
theorem dqa_int {H : Hp} : ∀ {xs : List V} {ns : List Int}, DqA H xs (ns.map .int) → xs = ns.map V.int
  | _, [], .nil => rfl
  | _, n :: ns, .cons (.int _) t => by rw [dqa_int t]; rfl
theorem inV_lot (x : Nat) (l : List Nat) : inV (.int (x : Int)) (lv l) = decide (x ∈ l) := by
  unfold inV lv
  rw [Bool.eq_iff_iff, List.any_eq_true, decide_eq_true_iff]
  constructor
  · rintro ⟨v, hv, e⟩
    obtain ⟨y, hy, rfl⟩ := List.mem_map.mp hv
    have : (y : Int) = (x : Int) := by simpa [eqV] using e
    have : y = x := by omega
    rw [← this]
    exact hy
  · intro h
    exact ⟨_, List.mem_map.mpr ⟨x, h, rfl⟩, by simp [eqV]⟩
theorem lv_fl (l : List Nat) : (lv l).all flatV = true := by
  unfold lv
  rw [List.all_map]
  exact List.all_eq_true.mpr fun _ _ => rfl
/-- a statement that no run reaches -/
theorem ps_never {X : Cx} {st : Stmt} : PS X st (fun _ _ _ => False) := ⟨fun _ _ _ _ _ _ h => False.elim h⟩
def spAll6 : Sp := fun vs H Q _ => ∃ n : Nat, vs = [.int (n : Int)] ∧ n ≤ 6 ∧ ∀ H' v, Same H H' → Dq H' v (.tuple ((allL n).map lotD)) → Q v H'
def spEntBy : Sp := fun vs H Q _ => ∃ (a b : Addr) (l : List Nat) (ws : List Int), vs = [.ref a, .ref b] ∧ H a = some (.tup (lv l)) ∧ H b = some (.lst (ws.map V.int)) ∧ ws.length ≤ 100 ∧ ∀ H' t, Same H H' → H' t = some (.tup ((byE l ws).map V.int)) → Q (.ref t) H'
def spStill : Sp := fun vs H Q _ => ∃ n : Nat, vs = [.int (n : Int)] ∧ n ≤ 6 ∧ ∀ H' v, Same H H' → Dq H' v (tabD (stillT n)) → Q v H'
theorem rg_ups (n : Nat) : rgV 0 (n : Nat) = (ups n).map V.int := by
  unfold rgV ups
  rw [List.map_map, show ((n : Int) - 0).toNat = n by omega]
  exact List.map_congr_left fun i _ => by simp
theorem all_few : ∀ n : Nat, n < 7 → (allL n).length ≤ 64 := by decide +kernel
theorem all_len : ∀ n : Nat, n < 7 → (allL n).length = 2 ^ n := by decide +kernel
theorem map_getD {α β : Type} (g : α → β) (d : α) (L : List α) : (List.range L.length).map (fun i => g (L.getD i d)) = L.map g := by
  refine List.ext_getElem? fun i => ?_
  rw [List.getElem?_map, List.getElem?_map]
  by_cases h : i < L.length
  · rw [List.getElem?_range h, List.getElem?_eq_getElem h]
    show some (g (L.getD i d)) = some (g L[i])
    rw [List.getD_eq_getElem?_getD, List.getElem?_eq_getElem h]
    rfl
  · rw [List.getElem?_eq_none (by rw [List.length_range]; omega), List.getElem?_eq_none (by omega)]
    rfl
theorem getD_of {α : Type} {L : List α} {i : Nat} {x d : α} (h : L[i]? = some x) : L.getD i d = x := by
  rw [List.getD_eq_getElem?_getD, h]
  rfl
section
variable {P : Program} {w : World} {K : PySem.W.Frag} {mg : Str → Option Value} {base : Heap}
def spWays : Sp := fun vs H Q _ => ∃ (n : Nat) (b : Addr) (ws : List Int), vs = [.int (n : Int), .ref b] ∧ n ≤ 6 ∧ H b = some (.lst (ws.map V.int)) ∧ ws.length ≤ 100 ∧ ∀ H' v, Same H H' → Dq H' v (tabD ((allL n).map fun l => byE l ws)) → Q v H'
end
def spDeedT : Sp := fun vs H Q _ => ∃ (n : Nat) (d q : Addr) (as : List Nat) (a b : Nat), vs = [.int (n : Int), .ref d] ∧ n ≤ 6 ∧ H d = some (.tup [.ref q, .int (a : Int), .int (b : Int)]) ∧ H q = some (.tup (lv as)) ∧ as.length ≤ 24 ∧ a < n ∧ b < n ∧
  ∀ H' v, Same H H' → Dq H' v (tabD (deedT n as a b)) → Q v H'
def spExch : Sp := fun vs H Q _ => ∃ (n : Int) (a : Addr) (xs : List V) (v : V), vs = [.int n, .ref a] ∧ H a = some (.tup (v :: xs)) ∧ Q v H
theorem dqa_bools {H : Hp} : ∀ {xs : List V} {bs : List Bool}, DqA H xs (bs.map .bool) → xs = bs.map V.bl
  | _, [], .nil => rfl
  | _, n :: ns, .cons (.bl _) t => by rw [dqa_bools t]; rfl
theorem ixN_nat {n i : Nat} (h : i < n) : ixN n (i : Int) = some i := by
  unfold ixN
  rw [if_pos (by omega), if_pos (by omega), Int.toNat_natCast]
theorem take_snoc {α β : Type} {L : List α} {f : α → β} {i : Nat} {x : α} (h : L[i]? = some x) : (L.take (i + 1)).map f = (L.take i).map f ++ [f x] := by
  rw [List.take_add_one, h, List.map_append]
  rfl
def goalE (n : Nat) (e : List Int) : List Nat := (List.range n).filter fun x => !decide ((x : Int) ∈ e)
theorem every_few : ∀ n : Nat, n < 7 → ∀ i : Nat, i < 8 → ((List.range i).flatMap (lotsL n)).length ≤ 64 := by decide +kernel
def spGoal : Sp := fun vs H Q _ => ∃ (n : Nat) (a : Addr) (e : List Int), vs = [.int (n : Int), .ref a] ∧ n ≤ 100 ∧ H a = some (.tup (e.map V.int)) ∧ ∀ H' t, Same H H' → H' t = some (.tup (lv (goalE n e))) → Q (.ref t) H'
def spEvery : Sp := fun vs H Q _ => ∃ n : Nat, vs = [.int (n : Int)] ∧ n ≤ 6 ∧ ∀ H' v, Same H H' → Dq H' v (.list ((allL n).map lotD)) → Q v H'
theorem inV_int (x : Int) (l : List Int) : inV (.int x) (l.map V.int) = decide (x ∈ l) := by
  unfold inV
  rw [Bool.eq_iff_iff, List.any_eq_true, decide_eq_true_iff]
  constructor
  · rintro ⟨v, hv, e⟩
    obtain ⟨y, hy, rfl⟩ := List.mem_map.mp hv
    have : y = x := by simpa [eqV] using e
    rw [← this]
    exact hy
  · intro h
    exact ⟨_, List.mem_map.mpr ⟨x, h, rfl⟩, by simp [eqV]⟩
theorem int_fl (l : List Int) : (l.map V.int).all flatV = true := by
  rw [List.all_map]
  exact List.all_eq_true.mpr fun _ _ => rfl
theorem dep_ints1 : ∀ ds : List Int, PyData.depthAll (ds.map PyData.int) ≤ 1
  | [] => by simp [PyData.depthAll]
  | d :: ds => by
    have := dep_ints1 ds
    simp [PyData.depthAll, PyData.depth]
    omega
theorem lay_ints1 : ∀ ds : List Int, PyData.canLayAll0 (ds.map PyData.int) = true
  | [] => by simp [PyData.canLayAll0]
  | d :: ds => by simp [PyData.canLayAll0, PyData.canLay0, lay_ints1 ds]
theorem tup_shaped (ds : List Int) : SeqAt.shaped (.tuple (ds.map PyData.int)) = true := by
  unfold SeqAt.shaped
  have := dep_ints1 ds
  simp [PyData.canLay0, lay_ints1, PyData.depth]
  omega
theorem lot_shaped (l : List Nat) : SeqAt.shaped (lotD l) = true := by
  have e : l.map (fun (x : Nat) => PyData.int (x : Int)) = (l.map fun (x : Nat) => (x : Int)).map PyData.int := by rw [List.map_map]; rfl
  unfold lotD
  rw [e]
  exact tup_shaped _
theorem lot_nil_eqv (l : List Nat) : PyData.eqv (lotD l) (lotD []) = decide (l = []) := by
  cases l <;> simp [lotD, PyData.eqv, PyData.eqvAll]
section
variable {P : Program} {w : World} {K : PySem.W.Frag} {mg : Str → Option Value} {base : Heap}
/-- lot[-1] + 1 if lot != () else 0 -/
theorem next_ne {σ : L2.St} {i : Nat} {a : Addr} {l : List Nat} {G : Hp} {Q : VK} (hv : σ[i]? = some (some (.ref a))) (ha : G a = some (.tup (lv l))) (q : ∀ G', Same G G' → Q (.int (nx l : Nat)) G') :
    tIf (tTest (tOp (rNeD K) (tVar i) (tTup tNil))) (tOp (rI0 fun i j => .int (i + j)) (tOp (rIxT K) (tVar i) (tUn (rU fun i => .int (-i)) (tC (.int 1)))) (tC (.int 1))) (tC (.int 0)) σ G Q := by
  refine ⟨.ref a, hv, by show 0 ≤ sizeLine; decide, fun e ne => ?_⟩
  have s1 := same_new (o := .tup []) ne
  refine ⟨lotD l, lotD [], (lot_at (s1 _ _ ha)).dp (lot_flat l), (lot_at (l := []) upd_same).dp (lot_flat []), lot_shaped l, lot_shaped [], _, rfl, ?_⟩
  rw [lot_nil_eqv]
  by_cases hl : l = []
  · rw [decide_eq_true hl]
    subst hl
    exact iteF (q _ s1)
  · rw [decide_eq_false hl]
    obtain ⟨k, x, rfl⟩ : ∃ k x, l = k ++ [x] := ⟨l.dropLast, l.getLast hl, (List.dropLast_concat_getLast hl).symm⟩
    have h2 := q _ s1
    rw [nx_snoc] at h2
    refine iteT ⟨.ref a, hv, 1, rfl, a, _, -1, .int (x : Int), rfl, rfl, SqT.of (s1 _ _ ha), by rw [lv_snoc]; exact atI_last _ _, x, 1, rfl, rfl, ?_⟩
    have e2 : ((x : Int) + 1) = ((x + 1 : Nat) : Int) := by omega
    dsimp only
    rw [e2]
    exact h2
end
def setGo : Nat → List Int → List Int → List Int
  | _, [], acc => acc
  | y, x :: r, acc => setGo (y + 1) r (if 0 ≤ x then acc.set x.toNat (y : Int) else acc)
def lawE (n : Nat) (lies : List Int) : List Int := setGo 0 lies (List.replicate n (-1))
theorem setGo_len : ∀ (y : Nat) (r acc : List Int), (setGo y r acc).length = acc.length
  | _, [], _ => rfl
  | y, x :: r, acc => by
    unfold setGo
    rw [setGo_len]
    split
    · rw [List.length_set]
    · rfl
def spLEnt : Sp := fun vs H Q _ => ∃ (n : Nat) (a : Addr) (ls : List Int), vs = [.int (n : Int), .ref a] ∧ 3 ≤ n ∧ n ≤ 6 ∧ H a = some (.lst (ls.map V.int)) ∧ ls.length ≤ 100 ∧ (∀ x ∈ ls, x < n) ∧ ∀ H' t, Same H H' → H' t = some (.tup ((lawE n ls).map V.int)) → Q (.ref t) H'
abbrev Mv := List Nat × Nat × Nat
def stL (n : Nat) (l : List Nat) : List Int := (List.range n).map fun x => if x ∈ l then -1 else ((x : Nat) : Int)
def mvL (ls : List Int) (m : Mv) : List Int := if m.1.all (fun x => !decide (0 ≤ ls.getD x 0)) = true then (ls.set m.2.1 (ls.getD m.2.2 0)).set m.2.2 (ls.getD m.2.1 0) else ls
def madeE (n : Nat) (ms : List Mv) (l : List Nat) : List Int := lawE n (ms.foldl mvL (stL n l))
def madeT (n : Nat) (ms : List Mv) : List (List Int) := (allL n).map (madeE n ms)
def DeedAt (H : Hp) (v : V) (m : Mv) : Prop := ∃ d q, v = .ref d ∧ H d = some (.tup [.ref q, .int (m.2.1 : Nat), .int (m.2.2 : Nat)]) ∧ H q = some (.tup (lv m.1))
def spMade : Sp := fun vs H Q _ => ∃ (n : Nat) (mo : Addr) (xs : List V) (ms : List Mv), vs = [.int (n : Int), .ref mo] ∧ 3 ≤ n ∧ n ≤ 6 ∧ H mo = some (.lst xs) ∧ xs.length = ms.length ∧ (∀ (j : Nat) (v : V) (m : Mv), xs[j]? = some v → ms[j]? = some m → DeedAt H v m) ∧ (∀ m ∈ ms, (m.2.1 < n ∧ m.2.2 < n) ∧ m.1.length ≤ 100 ∧ ∀ x ∈ m.1, x < n) ∧
  ∀ H' v, Same H H' → Dq H' v (tabD (madeT n ms)) → Q v H'
theorem getD_lt {n : Nat} {ls : List Int} (hn : 0 < n) (h : ∀ x ∈ ls, x < n) (i : Nat) : ls.getD i 0 < n := by
  rw [List.getD_eq_getElem?_getD]
  cases e : ls[i]? with
  | none => show (0 : Int) < n; omega
  | some y => exact h y (List.mem_of_getElem? e)
theorem set_lt {n : Nat} {ls : List Int} {i : Nat} {z : Int} (hz : z < n) (h : ∀ x ∈ ls, x < n) : ∀ x ∈ ls.set i z, x < n := fun x hx => by
  rcases List.mem_or_eq_of_mem_set hx with h1 | h1
  · exact h x h1
  · rw [h1]; exact hz
theorem getD_get {ls : List Int} {i : Nat} (h : i < ls.length) : ls[i]? = some (ls.getD i 0) := by
  rw [List.getD_eq_getElem?_getD, List.getElem?_eq_getElem h]
  rfl
/-- a deed at n places -/
structure Deed (n : Nat) (m : Mv) : Prop where
  asc : Asc 0 n m.1
  ab : m.2.1 < m.2.2
  bn : m.2.2 < n
  na : m.2.1 ∉ m.1
  nb : m.2.2 ∉ m.1
/-- sorted pieces of a drawn order -/
theorem drawn_piece {n : Nat} {ys ps zs : List Int} (hp : ys.Perm (ups n)) (hs : ps.Sublist ys) (hz : zs.Perm ps) (ho : zs.Pairwise (· ≤ ·)) : ∃ ds : List Nat, zs = ds.map (fun (x : Nat) => (x : Int)) ∧ Asc 0 n ds := by
  have hm : ∀ z ∈ zs, 0 ≤ z ∧ z < n := fun z h => by
    have h1 := hp.subset (hs.subset (hz.subset h))
    unfold ups at h1
    obtain ⟨k, hk, rfl⟩ := List.mem_map.mp h1
    have := List.mem_range.mp hk
    omega
  have hnd : zs.Nodup := by
    have h0 : (ups n).Nodup := List.Pairwise.map _ (fun a b (h : a < b) => by show ((a : Nat) : Int) ≠ b; omega) List.pairwise_lt_range
    exact hz.symm.nodup ((hp.symm.nodup h0).sublist hs)
  refine ⟨zs.map Int.toNat, ?_, ?_, fun x hx => ?_⟩
  · rw [List.map_map]
    refine (List.map_id zs).symm.trans (List.map_congr_left fun z h => ?_)
    have := hm z h
    show z = ((z.toNat : Nat) : Int)
    omega
  · rw [List.pairwise_map]
    refine List.Pairwise.imp_of_mem (fun {a b} ha hb h => ?_) (ho.and hnd)
    have h1 := hm a ha
    have h2 := hm b hb
    have h3 : a ≤ b ∧ a ≠ b := h
    omega
  · obtain ⟨z, h, rfl⟩ := List.mem_map.mp hx
    have := hm z h
    exact ⟨Nat.zero_le _, by omega⟩
/-- a lot as a key -/
def lotK (l : List Nat) : List Key := l.map fun (x : Nat) => (Sum.inl (x : Int) : Key)
theorem lotK_v (l : List Nat) : (lotK l).map kV = lv l := by
  unfold lotK lv
  rw [List.map_map]
  rfl
def spNumbers : Sp := fun vs H Q _ => ∃ n : Nat, vs = [.int (n : Int)] ∧ n ≤ 6 ∧ ∀ H' p kvs, Same H H' → H' p = some (.dT kvs) → (∀ l ∈ allL n, valV kvs (lotK l) = some (.int (num n l : Nat))) → Q (.ref p) H'
def bothE (n : Nat) (U : List (List Int)) (e : List Int) : List Int := e.map fun x => if x = -1 then -1 else (U.getD (num n (goalE n e)) []).getD x.toNat 0
def bothT (n : Nat) (T U : List (List Int)) : List (List Int) := T.map (bothE n U)
/-- an entry: its goal is a lot, its places are places -/
def EntOk (n : Nat) (e : List Int) : Prop := goalE n e ∈ allL n ∧ e.length ≤ 100 ∧ ∀ x ∈ e, x = -1 ∨ (0 ≤ x ∧ x < n)
def spBoth : Sp := fun vs H Q _ => ∃ (n : Nat) (v u : V) (T U : List (List Int)), vs = [.int (n : Int), v, u] ∧ n ≤ 6 ∧ Dq H v (tabD T) ∧ Dq H u (tabD U) ∧ T.length ≤ 1000 ∧ (∀ e ∈ T, EntOk n e) ∧ U.length = 2 ^ n ∧ (∀ e ∈ U, e.length = n) ∧
  ∀ H' r, Same H H' → Dq H' r (tabD (bothT n T U)) → Q r H'
theorem all_num {n : Nat} (hn : n ≤ 6) {l : List Nat} (h : l ∈ allL n) : num n l < 2 ^ n := by
  have h1 : num n l ∈ (allL n).map (num n) := List.mem_map.mpr ⟨l, h, rfl⟩
  rw [lots_nums n (by omega)] at h1
  exact List.mem_range.mp h1
theorem ent_inv {H : Hp} {v : V} {e : List Int} (h : Dq H v (entD e)) : ∃ a, v = .ref a ∧ H a = some (.tup (e.map V.int)) := by
  obtain ⟨a, xs, rfl, ha, q⟩ := Dq.tup_inv h
  exact ⟨a, rfl, by rw [ha, dqa_int q]⟩
theorem ents_get {H : Hp} {xs : List V} {T : List (List Int)} {i : Nat} {y : V} (q : DqA H xs (T.map entD)) (h : xs[i]? = some y) : ∃ e, T[i]? = some e ∧ ∃ a, y = .ref a ∧ H a = some (.tup (e.map V.int)) := by
  obtain ⟨d, h1, h2⟩ := q.get h
  rw [List.getElem?_map] at h1
  cases hr : T[i]? with
  | none => rw [hr] at h1; cases h1
  | some e =>
    rw [hr] at h1
    cases Option.some.inj h1
    exact ⟨e, rfl, ent_inv h2⟩
section
variable {P : Program} {w : World} {K : PySem.W.Frag} {mg : Str → Option Value} {base : Heap}
theorem all_num_at {n : Nat} (hn : n ≤ 6) {i : Nat} {l : List Nat} (h : (allL n)[i]? = some l) : num n l = i ∧ i < 2 ^ n := by
  have e : ((allL n).map (num n))[i]? = some (num n l) := by rw [List.getElem?_map, h]; rfl
  rw [lots_nums n (by omega)] at e
  obtain ⟨h1, h2⟩ := List.getElem?_eq_some_iff.mp e
  rw [List.getElem_range] at h2
  rw [List.length_range] at h1
  exact ⟨h2.symm, h1⟩
theorem lotK_inj {l l' : List Nat} (h : lotK l = lotK l') : l = l' := by
  have := congrArg (List.map kV) h
  rw [lotK_v, lotK_v] at this
  unfold lv at this
  exact (List.map_inj_right (fun a b e => by
    have : (a : Int) = (b : Int) := V.int.inj e
    omega)).mp this
def aimsT (n : Nat) (T : List (List Int)) : List Int := T.map fun e => ((num n (goalE n e) : Nat) : Int)
def spAims : Sp := fun vs H Q _ => ∃ (n : Nat) (v : V) (T : List (List Int)), vs = [.int (n : Int), v] ∧ n ≤ 6 ∧ Dq H v (tabD T) ∧ T.length ≤ 1000 ∧ (∀ e ∈ T, goalE n e ∈ allL n) ∧
  ∀ H' p, Same H H' → H p = none → H' p = some (.lst ((aimsT n T).map V.int)) → Q (.ref p) H'
end
/-- an entry of the lot l at n places -/
structure EntV (n : Nat) (l : List Nat) (e : List Int) : Prop where
  len : e.length = n
  at_ : ∀ i, i < n → if i ∈ l then e.getD i 0 = -1 else 0 ≤ e.getD i 0 ∧ e.getD i 0 < n
  nd : (e.filter fun x => !decide (x = -1)).Nodup
def spIsEnt : Sp := fun vs H Q _ => ∃ (n : Nat) (la a : Addr) (l : List Nat) (e : List Int), vs = [.int (n : Int), .ref la, .ref a] ∧ n ≤ 6 ∧ H la = some (.tup (lv l)) ∧ H a = some (.tup (e.map V.int)) ∧ EntV n l e ∧ ∀ H', Same H H' → Q (.bl true) H'
def spTabErr : Sp := fun vs H Q _ => ∃ (n : Nat) (v : V) (T : List (List Int)), vs = [.int (n : Int), v] ∧ n ≤ 6 ∧ Dq H v (tabD T) ∧ T.length = 2 ^ n ∧ (∀ (i : Nat) (l : List Nat) (e : List Int), (allL n)[i]? = some l → T[i]? = some e → EntV n l e) ∧ (T.map (goalE n)).Nodup ∧ ∀ H', Same H H' → Q .non H'
/-- an ascending lot stands among all lots -/
theorem asc_all {n : Nat} (hn : n ≤ 6) {l : List Nat} (h : Asc 0 n l) (hasc : ∀ l ∈ allL n, Asc 0 n l) : l ∈ allL n := by
  have h1 : num n l < 2 ^ n := by
    rcases Nat.lt_or_ge (num n l) (2 ^ n) with c | c
    · exact c
    · have e := lotAt_none (by omega) c
      rw [lotAt_num h] at e
      cases e
  have h2 : num n l ∈ (allL n).map (num n) := by
    rw [lots_nums n (by omega)]
    exact List.mem_range.mpr h1
  obtain ⟨l', hl', e⟩ := List.mem_map.mp h2
  have e1 := lotAt_num (hasc l' hl')
  rw [e, lotAt_num h] at e1
  rw [Option.some.inj e1]
  exact hl'
theorem all_asc : ∀ n : Nat, n < 7 → ∀ l ∈ allL n, (l.Pairwise (· < ·) ∧ l.length ≤ 6) ∧ ∀ x ∈ l, x < n := by decide +kernel
theorem all_ascL {n : Nat} (hn : n ≤ 6) : ∀ l ∈ allL n, Asc 0 n l := fun l hl => ⟨(all_asc n (by omega) l hl).1.1, fun x hx => ⟨Nat.zero_le _, by have := (all_asc n (by omega) l hl).2 x hx; omega⟩⟩
def rLenK (K : PySem.W.Frag) : List V → Hp → VK → Prop := fun xs H Q => ∃ (p : Addr) (ys : List V), xs = [V.ref p] ∧ (SqL K H p ys ∨ SqT K H p ys) ∧ Q (V.int (ys.length : Nat)) H
theorem call_lenK {X : Cx} : CallR X (.builtin "len") (rLenK X.K) := call_len_seq
theorem own_filt : ∀ n : Nat, n < 7 → ∀ s : Nat, s < n + 1 → (allL n).filter (fun l => decide (l.length = s)) = lotsL n s := by decide +kernel
theorem lot_filt : ∀ n : Nat, n < 7 → ∀ l ∈ allL n, (List.range n).filter (fun x => decide (x ∈ l)) = l ∧ ((List.range n).filter (fun x => !decide (x ∈ l))).length + l.length = n := by decide +kernel
theorem own_all : ∀ n : Nat, n < 7 → ∀ s : Nat, s < n + 1 → ∀ l ∈ lotsL n s, l ∈ allL n := fun n _ s hs l h => List.mem_flatMap.mpr ⟨s, List.mem_range.mpr hs, h⟩
/-- entries for lots -/
structure Ents (n : Nat) (ls : List (List Nat)) (es : List (List Int)) : Prop where
  len : es.length = ls.length
  at_ : ∀ (t : Nat) (l : List Nat) (e : List Int), ls[t]? = some l → es[t]? = some e → EntV n l e
theorem Ents.nil {n : Nat} : Ents n [] [] := ⟨rfl, fun t l e h _ => by simp at h⟩
theorem Ents.snoc {n : Nat} {ls : List (List Nat)} {es : List (List Int)} {l : List Nat} {e : List Int} (h : Ents n ls es) (g : EntV n l e) : Ents n (ls ++ [l]) (es ++ [e]) := by
  refine ⟨by rw [List.length_append, List.length_append, h.len]; rfl, fun t l' e' h1 h2 => ?_⟩
  rcases Nat.lt_trichotomy t ls.length with c | c | c
  · rw [List.getElem?_append_left c] at h1
    rw [List.getElem?_append_left (by rw [h.len]; exact c)] at h2
    exact h.at_ t l' e' h1 h2
  · subst c
    rw [List.getElem?_append_right (Nat.le_refl _), Nat.sub_self] at h1
    rw [← h.len, List.getElem?_append_right (Nat.le_refl _), Nat.sub_self] at h2
    cases h1
    cases h2
    exact g
  · rw [List.getElem?_eq_none (by rw [List.length_append]; show _ + 1 ≤ t; omega)] at h1
    cases h1
/-- a table -/
structure TabOk (n : Nat) (T : List (List Int)) : Prop where
  ents : Ents n (allL n) T
  goals : (T.map (goalE n)).Perm (allL n)
theorem dqa_perm {α : Type} {H : Hp} {f : α → PyData} {xs ys : List V} (p : ys.Perm xs) : ∀ {L : List α}, DqA H xs (L.map f) → ∃ M : List α, M.Perm L ∧ DqA H ys (M.map f) := by
  induction p with
  | nil =>
    intro L q
    exact ⟨L, .refl _, q⟩
  | cons x p ih =>
    intro L q
    cases L with
    | nil => cases q
    | cons a L =>
      cases q with
      | cons h t =>
        obtain ⟨M, p2, q2⟩ := ih t
        exact ⟨a :: M, p2.cons a, .cons h q2⟩
  | swap x y l =>
    intro L q
    match L, q with
    | a :: b :: L, .cons h1 (.cons h2 t) => exact ⟨b :: a :: L, .swap _ _ _, .cons h2 (.cons h1 t)⟩
  | trans p1 p2 ih1 ih2 =>
    intro L q
    obtain ⟨M, m1, q1⟩ := ih2 q
    obtain ⟨N, m2, q2⟩ := ih1 q1
    exact ⟨N, m2.trans m1, q2⟩
theorem ints_perm {ys : List V} {zs : List Int} (p : ys.Perm (zs.map V.int)) : ∃ ws : List Int, ys = ws.map V.int ∧ ws.Perm zs := by
  obtain ⟨M, p2, q2⟩ := dqa_perm (H := fun _ => none) (f := PyData.int) p (DqA.ints zs)
  exact ⟨M, dqa_int q2, p2⟩
/-- what is left of the riders -/
def cnt (l : List Nat) (n i : Nat) : Nat := ((List.range n).drop i).countP fun t => !decide (t ∈ l)
theorem cnt_step {l : List Nat} {n i : Nat} (h : i < n) : cnt l n i = cnt l n (i + 1) + (if i ∈ l then 0 else 1) := by
  unfold cnt
  rw [List.drop_eq_getElem_cons (by rw [List.length_range]; exact h), List.countP_cons, List.getElem_range]
  by_cases c : i ∈ l <;> simp [c]
theorem cnt_end (l : List Nat) (n : Nat) : cnt l n n = 0 := by
  unfold cnt
  rw [List.drop_of_length_le (by rw [List.length_range]; exact Nat.le_refl _)]
  rfl
/-- the entry that comes of riders at l, free places in a drawn order -/
theorem ent_made {n : Nat} (hn : n ≤ 6) {l g : List Nat} {e zs : List Int} (hl : l ∈ allL n) (hg : g ∈ allL n) (len : e.length = n) (h1 : ∀ t, t < n → t ∈ l → e.getD t 0 = -1) (h2 : ∀ t, t < n → t ∉ l → e.getD t 0 ∈ zs)
    (h3 : e.filter (fun x => !decide (x = -1)) = zs.reverse) (hz : zs.Perm (((List.range n).filter fun y => !decide (y ∈ g)).map fun (y : Nat) => (y : Int))) : EntV n l e ∧ goalE n e = g := by
  have hm : ∀ z, z ∈ zs ↔ ∃ y : Nat, y < n ∧ y ∉ g ∧ (y : Int) = z := fun z => by
    rw [hz.mem_iff, List.mem_map]
    constructor
    · rintro ⟨y, hy, rfl⟩
      rw [List.mem_filter, List.mem_range] at hy
      exact ⟨y, hy.1, by simpa using hy.2, rfl⟩
    · rintro ⟨y, a, b, rfl⟩
      exact ⟨y, List.mem_filter.mpr ⟨List.mem_range.mpr a, by simpa using b⟩, rfl⟩
  refine ⟨⟨len, fun t ht => ?_, ?_⟩, ?_⟩
  · split
    · rename_i c
      exact h1 t ht c
    · rename_i c
      obtain ⟨y, a, _, e1⟩ := (hm _).mp (h2 t ht c)
      omega
  · rw [h3]
    have nd : (((List.range n).filter fun y => !decide (y ∈ g)).map fun (y : Nat) => (y : Int)).Nodup := List.Pairwise.map _ (fun a b (h : a ≠ b) z => h (by omega)) (List.Pairwise.filter _ List.nodup_range)
    exact List.pairwise_reverse.mpr ((hz.symm.nodup nd).imp fun h => h.symm)
  · rw [← (lot_filt n (by omega) g hg).1]
    unfold goalE
    refine List.filter_congr fun x hx => ?_
    have hx := List.mem_range.mp hx
    have e1 : (x : Int) ∈ e ↔ (x : Int) ∈ zs := by
      rw [← List.mem_reverse (as := zs), ← h3, List.mem_filter]
      constructor
      · exact fun h => ⟨h, by
          have : ¬ (x : Int) = -1 := by omega
          simp [this]⟩
      · exact fun h => h.1
    have e2 : (x : Int) ∈ zs ↔ x ∉ g := by
      rw [hm]
      constructor
      · rintro ⟨y, _, b, c⟩
        have : y = x := by omega
        exact this ▸ b
      · exact fun h => ⟨x, hx, h, rfl⟩
    rw [← decide_not, decide_eq_decide, e1, e2, Classical.not_not]
end Kr
namespace Kr
open PySem PySem.Spec PyProof.Rows L2
/-! ### entries as maps -/
/-- an entry of the lot l: places of keys have none, riders go to unlike places -/
structure EntF (n : Nat) (l : List Nat) (e : List Int) : Prop where
  len : e.length = n
  key : ∀ x, x < n → x ∈ l → e.getD x 0 = -1
  rid : ∀ x, x < n → x ∉ l → 0 ≤ e.getD x 0 ∧ e.getD x 0 < n
  inj : ∀ x y, x < n → y < n → x ∉ l → y ∉ l → e.getD x 0 = e.getD y 0 → x = y
theorem EntF.v {n : Nat} {l : List Nat} {e : List Int} (h : EntF n l e) : EntV n l e := by
  refine ⟨h.len, fun i hi => ?_, ?_⟩
  · split
    · rename_i c; exact h.key i hi c
    · rename_i c; exact h.rid i hi c
  · show (e.filter fun x => !decide (x = -1)).Pairwise (· ≠ ·)
    rw [List.pairwise_filter, List.pairwise_iff_getElem]
    intro i j hi hj hij p1 p2 z
    have g : ∀ i, (h : i < e.length) → e[i] = e.getD i 0 := fun i h => by rw [List.getD_eq_getElem?_getD, List.getElem?_eq_getElem h]; rfl
    rw [g i hi] at p1 z
    rw [g j hj] at p2 z
    rw [h.len] at hi hj
    have k1 : i ∉ l := fun c => by rw [h.key i hi c] at p1; exact absurd p1 (by decide)
    have k2 : j ∉ l := fun c => by rw [h.key j hj c] at p2; exact absurd p2 (by decide)
    have := h.inj i j hi hj k1 k2 z
    omega
theorem EntV.f {n : Nat} {l : List Nat} {e : List Int} (h : EntV n l e) : EntF n l e := by
  refine ⟨h.len, fun x hx c => ?_, fun x hx c => ?_, fun x y hx hy cx cy z => ?_⟩
  · have := h.at_ x hx; rwa [if_pos c] at this
  · have := h.at_ x hx; rwa [if_neg c] at this
  · have nd : (e.filter fun x => !decide (x = -1)).Pairwise (· ≠ ·) := h.nd
    rw [List.pairwise_filter, List.pairwise_iff_getElem] at nd
    have g : ∀ i, (h : i < e.length) → e[i] = e.getD i 0 := fun i h => by rw [List.getD_eq_getElem?_getD, List.getElem?_eq_getElem h]; rfl
    have pz : ∀ x, x < n → x ∉ l → (!decide (e.getD x 0 = -1)) = true := fun x hx c => by
      have := h.at_ x hx
      rw [if_neg c] at this
      simp only [Bool.not_eq_true', decide_eq_false_iff_not]
      omega
    have hl := h.len
    rcases Nat.lt_trichotomy x y with c | c | c
    · have := nd x y (by omega) (by omega) c
      rw [g x (by omega), g y (by omega)] at this
      exact absurd z (this (pz x hx cx) (pz y hy cy))
    · exact c
    · have := nd y x (by omega) (by omega) c
      rw [g x (by omega), g y (by omega)] at this
      exact absurd z.symm (this (pz y hy cy) (pz x hx cx))
theorem mem_e {e : List Int} {n : Nat} (h : e.length = n) {z : Int} : z ∈ e ↔ ∃ x, x < n ∧ e.getD x 0 = z := by
  subst h
  constructor
  · intro hz
    obtain ⟨x, hx, ez⟩ := List.getElem_of_mem hz
    exact ⟨x, hx, by rw [List.getD_eq_getElem?_getD, List.getElem?_eq_getElem hx]; exact ez⟩
  · rintro ⟨x, hx, ez⟩
    rw [List.getD_eq_getElem?_getD, List.getElem?_eq_getElem hx] at ez
    exact ez ▸ List.getElem_mem hx
theorem mem_goal {n : Nat} {e : List Int} {y : Nat} : y ∈ goalE n e ↔ y < n ∧ (y : Int) ∉ e := by
  unfold goalE
  rw [List.mem_filter, List.mem_range]
  simp
theorem goal_asc (n : Nat) (e : List Int) : Asc 0 n (goalE n e) := by
  refine ⟨List.Pairwise.filter _ List.pairwise_lt_range, fun x hx => ?_⟩
  have := (mem_goal.mp hx).1
  omega
theorem goal_all {n : Nat} (hn : n ≤ 6) (e : List Int) : goalE n e ∈ allL n := asc_all hn (goal_asc n e) (all_ascL hn)
/-- ascending lots with the same places are one -/
theorem asc_ext {n : Nat} {a b : List Nat} (ha : Asc 0 n a) (hb : Asc 0 n b) (h : ∀ x, x ∈ a ↔ x ∈ b) : a = b := by
  have p : a.Perm b := (List.perm_ext_iff_of_nodup (ha.1.imp fun h => Nat.ne_of_lt h) (hb.1.imp fun h => Nat.ne_of_lt h)).mpr h
  exact p.eq_of_pairwise (fun x y _ _ h1 h2 => absurd h2 (Nat.not_lt_of_lt h1)) ha.1 hb.1
theorem EntF.off {n : Nat} {l : List Nat} {e : List Int} (h : EntF n l e) {x : Nat} (hx : x < n) (c : x ∉ l) : (e.getD x 0).toNat < n ∧ (e.getD x 0).toNat ∉ goalE n e := by
  obtain ⟨h1, h2⟩ := h.rid x hx c
  refine ⟨by omega, fun z => (mem_goal.mp z).2 ((mem_e h.len).mpr ⟨x, hx, by omega⟩)⟩
theorem EntF.from {n : Nat} {l : List Nat} {e : List Int} (h : EntF n l e) {y : Nat} (hy : y < n) (c : y ∉ goalE n e) : ∃ x, x < n ∧ x ∉ l ∧ e.getD x 0 = y := by
  have : (y : Int) ∈ e := Classical.byContradiction fun z => c (mem_goal.mpr ⟨hy, z⟩)
  obtain ⟨x, hx, ex⟩ := (mem_e h.len).mp this
  refine ⟨x, hx, fun k => ?_, ex⟩
  have := h.key x hx k
  omega
theorem EntF.neg {n : Nat} {l : List Nat} {e : List Int} (h : EntF n l e) {x : Nat} (hx : x < n) : e.getD x 0 = -1 ↔ x ∈ l := by
  constructor
  · intro z
    refine Classical.byContradiction fun c => ?_
    have := (h.rid x hx c).1
    omega
  · exact h.key x hx
/-- one entry behind another -/
def cmpE (e u : List Int) : List Int := e.map fun x => if x = -1 then -1 else u.getD x.toNat 0
theorem map_getD_lt {α β : Type} {f : α → β} {L : List α} {i : Nat} {d : α} {d' : β} (h : i < L.length) : (L.map f).getD i d' = f (L.getD i d) := by
  rw [List.getD_eq_getElem?_getD, List.getElem?_map, List.getElem?_eq_getElem h, List.getD_eq_getElem?_getD, List.getElem?_eq_getElem h]
  rfl
theorem cmp_at {e u : List Int} {x : Nat} (h : x < e.length) : (cmpE e u).getD x 0 = if e.getD x 0 = -1 then -1 else u.getD (e.getD x 0).toNat 0 := map_getD_lt h
theorem EntF.cmp {n : Nat} {l : List Nat} {e u : List Int} (h : EntF n l e) (g : EntF n (goalE n e) u) : EntF n l (cmpE e u) ∧ goalE n (cmpE e u) = goalE n u := by
  have hl : (cmpE e u).length = n := by unfold cmpE; rw [List.length_map]; exact h.len
  have at_ : ∀ x, x < n → x ∉ l → (cmpE e u).getD x 0 = u.getD (e.getD x 0).toNat 0 := fun x hx c => by
    rw [cmp_at (by rw [h.len]; exact hx), if_neg (fun z => c ((h.neg hx).mp z))]
  have hf : EntF n l (cmpE e u) := by
    refine ⟨hl, fun x hx c => ?_, fun x hx c => ?_, fun x y hx hy cx cy z => ?_⟩
    · rw [cmp_at (by rw [h.len]; exact hx), if_pos ((h.neg hx).mpr c)]
    · rw [at_ x hx c]
      obtain ⟨p1, p2⟩ := h.off hx c
      exact g.rid _ p1 p2
    · rw [at_ x hx cx, at_ y hy cy] at z
      obtain ⟨p1, p2⟩ := h.off hx cx
      obtain ⟨p3, p4⟩ := h.off hy cy
      have e1 := g.inj _ _ p1 p3 p2 p4 z
      have r1 := h.rid x hx cx
      have r2 := h.rid y hy cy
      exact h.inj x y hx hy cx cy (by omega)
  refine ⟨hf, asc_ext (goal_asc _ _) (goal_asc _ _) fun y => ?_⟩
  rw [mem_goal, mem_goal, mem_e hl, mem_e g.len]
  refine and_congr_right fun hy => not_congr ⟨?_, ?_⟩
  · rintro ⟨x, hx, ex⟩
    by_cases c : x ∈ l
    · rw [hf.key x hx c] at ex
      omega
    · rw [at_ x hx c] at ex
      exact ⟨_, (h.off hx c).1, ex⟩
  · rintro ⟨x, hx, ex⟩
    have c : x ∉ goalE n e := fun c => by
      rw [g.key x hx c] at ex
      omega
    obtain ⟨x', hx', c', ex'⟩ := h.from hx c
    refine ⟨x', hx', ?_⟩
    rw [at_ x' hx' c', ex', Int.toNat_natCast]
    exact ex
theorem list_ext {n : Nat} {a b : List Int} (ha : a.length = n) (hb : b.length = n) (h : ∀ x, x < n → a.getD x 0 = b.getD x 0) : a = b := by
  refine List.ext_getElem (by omega) fun i h1 h2 => ?_
  have := h i (by omega)
  rw [List.getD_eq_getElem?_getD, List.getD_eq_getElem?_getD, List.getElem?_eq_getElem h1, List.getElem?_eq_getElem h2] at this
  exact this
theorem cmp_assoc {n : Nat} {l : List Nat} {e u w : List Int} (h : EntF n l e) (g : EntF n (goalE n e) u) : cmpE (cmpE e u) w = cmpE e (cmpE u w) := by
  have hl : (cmpE e u).length = n := (h.cmp g).1.len
  refine list_ext (n := n) (by unfold cmpE; rw [List.length_map, List.length_map, h.len]) (by unfold cmpE; rw [List.length_map, h.len]) fun x hx => ?_
  rw [cmp_at (by omega), cmp_at (by rw [h.len]; exact hx), cmp_at (by rw [h.len]; exact hx)]
  by_cases c : x ∈ l
  · rw [(h.neg hx).mpr c]
    rfl
  · have ne : ¬ e.getD x 0 = -1 := fun z => c ((h.neg hx).mp z)
    obtain ⟨p1, p2⟩ := h.off hx c
    rw [if_neg ne, if_neg ne, cmp_at (by rw [g.len]; exact p1)]
/-! ### tables as maps -/
def en (n : Nat) (T : List (List Int)) (l : List Nat) : List Int := T.getD (num n l) []
theorem bothE_cmp (n : Nat) (U : List (List Int)) (e : List Int) : bothE n U e = cmpE e (en n U (goalE n e)) := rfl
theorem all_at {n : Nat} (hn : n ≤ 6) {l : List Nat} (h : l ∈ allL n) : (allL n)[num n l]? = some l := by
  obtain ⟨i, hi, e⟩ := List.getElem_of_mem h
  have e1 : (allL n)[i]? = some l := by rw [List.getElem?_eq_getElem hi, e]
  rw [(all_num_at hn e1).1]
  exact e1
theorem en_map {n : Nat} (hn : n ≤ 6) {f : List Nat → List Int} {l : List Nat} (h : l ∈ allL n) : en n ((allL n).map f) l = f l := by
  unfold en
  rw [List.getD_eq_getElem?_getD, List.getElem?_map, all_at hn h]
  rfl
theorem TabOk.len {n : Nat} (hn : n ≤ 6) {T : List (List Int)} (h : TabOk n T) : T.length = 2 ^ n := h.ents.len.trans (all_len n (by omega))
theorem TabOk.get {n : Nat} (hn : n ≤ 6) {T : List (List Int)} (h : TabOk n T) {l : List Nat} (hl : l ∈ allL n) : T[num n l]? = some (en n T l) := by
  have h1 : num n l < T.length := by rw [h.len hn]; exact all_num hn hl
  unfold en
  rw [List.getD_eq_getElem?_getD, List.getElem?_eq_getElem h1]
  rfl
theorem TabOk.ent {n : Nat} (hn : n ≤ 6) {T : List (List Int)} (h : TabOk n T) {l : List Nat} (hl : l ∈ allL n) : EntF n l (en n T l) := (h.ents.at_ _ _ _ (all_at hn hl) (h.get hn hl)).f
theorem TabOk.map {n : Nat} (hn : n ≤ 6) {T : List (List Int)} (h : TabOk n T) : T = (allL n).map (en n T) := by
  refine List.ext_getElem? fun i => ?_
  rw [List.getElem?_map]
  cases e : (allL n)[i]? with
  | none =>
    show T[i]? = none
    rw [List.getElem?_eq_none_iff] at e ⊢
    rw [h.ents.len]
    exact e
  | some l =>
    rw [← (all_num_at hn e).1]
    exact h.get hn (List.mem_of_getElem? e)
theorem TabOk.of_map {n : Nat} (hn : n ≤ 6) {f : List Nat → List Int} (h : ∀ l ∈ allL n, EntF n l (f l)) (g : ((allL n).map fun l => goalE n (f l)).Perm (allL n)) : TabOk n ((allL n).map f) := by
  refine ⟨⟨List.length_map _, fun t l e h1 h2 => ?_⟩, by rw [List.map_map]; exact g⟩
  rw [List.getElem?_map, h1] at h2
  cases Option.some.inj h2
  exact (h l (List.mem_of_getElem? h1)).v
theorem TabOk.goalp {n : Nat} (hn : n ≤ 6) {T : List (List Int)} (h : TabOk n T) : ((allL n).map fun l => goalE n (en n T l)).Perm (allL n) := by
  have := h.goals
  rw [h.map hn, List.map_map] at this
  exact this
theorem both_map {n : Nat} (hn : n ≤ 6) {T U : List (List Int)} (h : TabOk n T) : bothT n T U = (allL n).map fun l => cmpE (en n T l) (en n U (goalE n (en n T l))) := by
  unfold bothT
  conv => lhs; rw [h.map hn]
  rw [List.map_map]
  rfl
theorem en_both {n : Nat} (hn : n ≤ 6) {T U : List (List Int)} (h : TabOk n T) {l : List Nat} (hl : l ∈ allL n) : en n (bothT n T U) l = cmpE (en n T l) (en n U (goalE n (en n T l))) := by
  rw [both_map hn h, en_map hn hl]
theorem TabOk.both {n : Nat} (hn : n ≤ 6) {T U : List (List Int)} (h : TabOk n T) (g : TabOk n U) : TabOk n (bothT n T U) := by
  rw [both_map hn h]
  refine TabOk.of_map hn (fun l hl => ((h.ent hn hl).cmp (g.ent hn (goal_all hn _))).1) ?_
  have e : ((allL n).map fun l => goalE n (cmpE (en n T l) (en n U (goalE n (en n T l))))) = ((allL n).map fun l => goalE n (en n T l)).map fun g => goalE n (en n U g) := by
    rw [List.map_map]
    exact List.map_congr_left fun l hl => ((h.ent hn hl).cmp (g.ent hn (goal_all hn _))).2
  rw [e]
  exact ((h.goalp hn).map _).trans (g.goalp hn)
theorem both_assoc {n : Nat} (hn : n ≤ 6) {T U W : List (List Int)} (h : TabOk n T) (g : TabOk n U) (k : TabOk n W) : bothT n (bothT n T U) W = bothT n T (bothT n U W) := by
  rw [both_map hn (h.both hn g), both_map (U := bothT n U W) hn h]
  refine List.map_congr_left fun l hl => ?_
  have hg := goal_all hn (en n T l)
  rw [en_both hn h hl, en_both hn g hg, ((h.ent hn hl).cmp (g.ent hn hg)).2]
  exact cmp_assoc (h.ent hn hl) (g.ent hn hg)
end Kr
namespace Kr
open PySem PySem.Spec PyProof.Rows L2
theorem ups_len (n : Nat) : (ups n).length = n := by unfold ups; rw [List.length_map, List.length_range]
theorem ups_at {n x : Nat} (h : x < n) : (ups n).getD x 0 = (x : Int) := by
  unfold ups
  rw [List.getD_eq_getElem?_getD, List.getElem?_map, List.getElem?_range h]
  rfl
theorem byE_len (l : List Nat) (w : List Int) : (byE l w).length = w.length := by unfold byE; rw [List.length_map, List.length_range]
theorem byE_at {l : List Nat} {w : List Int} {x : Nat} (h : x < w.length) : (byE l w).getD x 0 = if x ∈ l then -1 else w.getD x 0 := by
  unfold byE
  rw [List.getD_eq_getElem?_getD, List.getElem?_map, List.getElem?_range h]
  rfl
/-! ### ways that are their own contrary -/
structure Way (n : Nat) (w : List Int) (f : Nat → Nat) : Prop where
  len : w.length = n
  at_ : ∀ x, x < n → w.getD x 0 = (f x : Int)
  lt : ∀ x, x < n → f x < n
  inv : ∀ x, x < n → f (f x) = x
theorem way_ups (n : Nat) : Way n (ups n) id := ⟨ups_len n, fun x h => ups_at h, fun _ h => h, fun _ _ => rfl⟩
def sw (a b x : Nat) : Nat := if x = b then a else if x = a then b else x
theorem way_swap {n a b : Nat} (ha : a < n) (hb : b < n) (hab : a ≠ b) : Way n (swapW n a b) (sw a b) := by
  refine ⟨by unfold swapW; rw [List.length_set, List.length_set, ups_len], fun x h => ?_, fun x h => ?_, fun x h => ?_⟩
  · unfold swapW sw
    rw [List.getD_eq_getElem?_getD, List.getElem?_set, List.length_set, ups_len, List.getElem?_set, ups_len]
    by_cases c1 : x = b
    · subst c1
      rw [if_pos rfl, if_pos h, if_pos rfl]
      rfl
    · rw [if_neg (fun z => c1 z.symm), if_neg c1]
      by_cases c2 : x = a
      · subst c2
        rw [if_pos rfl, if_pos h, if_pos rfl]
        rfl
      · rw [if_neg (fun z => c2 z.symm), if_neg c2, ← List.getD_eq_getElem?_getD, ups_at h]
  · unfold sw
    split
    · exact ha
    · split
      · exact hb
      · exact h
  · unfold sw
    by_cases c1 : x = b
    · rw [if_pos c1, if_neg hab, if_pos rfl, c1]
    · rw [if_neg c1]
      by_cases c2 : x = a
      · rw [if_pos c2, if_pos rfl, c2]
      · rw [if_neg c2, if_neg c1, if_neg c2]
theorem Way.ent {n : Nat} {w : List Int} {f : Nat → Nat} (W : Way n w f) (l : List Nat) : EntF n l (byE l w) := by
  have at_ : ∀ x, x < n → x ∉ l → (byE l w).getD x 0 = (f x : Int) := fun x h c => by rw [byE_at (by rw [W.len]; exact h), if_neg c, W.at_ x h]
  refine ⟨(byE_len l w).trans W.len, fun x h c => by rw [byE_at (by rw [W.len]; exact h), if_pos c], fun x h c => ?_, fun x y hx hy cx cy z => ?_⟩
  · rw [at_ x h c]
    have := W.lt x h
    omega
  · rw [at_ x hx cx, at_ y hy cy] at z
    have e : f x = f y := by omega
    rw [← W.inv x hx, e, W.inv y hy]
theorem Way.goal {n : Nat} {w : List Int} {f : Nat → Nat} (W : Way n w f) (l : List Nat) {y : Nat} : y ∈ goalE n (byE l w) ↔ y < n ∧ f y ∈ l := by
  rw [mem_goal, mem_e ((byE_len l w).trans W.len)]
  refine and_congr_right fun hy => ?_
  constructor
  · intro h
    refine Classical.byContradiction fun c => h ⟨f y, W.lt y hy, ?_⟩
    rw [byE_at (by rw [W.len]; exact W.lt y hy), if_neg c, W.at_ _ (W.lt y hy), W.inv y hy]
  · rintro h ⟨x, hx, ex⟩
    rw [byE_at (by rw [W.len]; exact hx)] at ex
    split at ex
    · omega
    · rename_i c
      rw [W.at_ x hx] at ex
      have : f x = y := by omega
      rw [← this, W.inv x hx] at h
      exact c h
theorem goal_ups {n : Nat} {l : List Nat} (h : Asc 0 n l) : goalE n (byE l (ups n)) = l := by
  refine asc_ext (goal_asc _ _) h fun y => ?_
  rw [(way_ups n).goal]
  exact ⟨fun z => z.2, fun z => ⟨by have := (h.2 y z).2; omega, z⟩⟩
theorem cmp_ups {n : Nat} {l : List Nat} {e : List Int} (h : EntF n l e) : cmpE e (byE (goalE n e) (ups n)) = e := by
  refine list_ext (n := n) (by unfold cmpE; rw [List.length_map, h.len]) h.len fun x hx => ?_
  rw [cmp_at (by rw [h.len]; exact hx)]
  by_cases c : x ∈ l
  · rw [(h.neg hx).mpr c]
    rfl
  · obtain ⟨p1, p2⟩ := h.off hx c
    have r := h.rid x hx c
    rw [if_neg (by omega), byE_at (by rw [ups_len]; exact p1), if_neg p2, ups_at p1]
    omega
theorem ups_cmp {n : Nat} {l : List Nat} {e : List Int} (hl : EntF n l e) : cmpE (byE l (ups n)) e = e := by
  refine list_ext (n := n) (by unfold cmpE; rw [List.length_map, byE_len, ups_len]) hl.len fun x hx => ?_
  rw [cmp_at (by rw [byE_len, ups_len]; exact hx), byE_at (by rw [ups_len]; exact hx)]
  by_cases c : x ∈ l
  · rw [if_pos c, if_pos rfl, hl.key x hx c]
  · rw [if_neg c, ups_at hx, if_neg (by omega), Int.toNat_natCast]
/-! ### the calm table -/
theorem still_ok {n : Nat} (hn : n ≤ 6) : TabOk n (stillT n) := by
  refine TabOk.of_map hn (fun l _ => (way_ups n).ent l) ?_
  refine List.Perm.of_eq ?_
  refine (List.map_congr_left fun l hl => ?_).trans (List.map_id _)
  exact goal_ups (all_ascL hn l hl)
theorem en_still {n : Nat} (hn : n ≤ 6) {l : List Nat} (h : l ∈ allL n) : en n (stillT n) l = byE l (ups n) := en_map hn h
theorem both_still {n : Nat} (hn : n ≤ 6) {T : List (List Int)} (h : TabOk n T) : bothT n T (stillT n) = T := by
  rw [both_map hn h]
  conv => rhs; rw [h.map hn]
  refine List.map_congr_left fun l hl => ?_
  rw [en_still hn (goal_all hn _)]
  exact cmp_ups (h.ent hn hl)
theorem still_both {n : Nat} (hn : n ≤ 6) {T : List (List Int)} (h : TabOk n T) : bothT n (stillT n) T = T := by
  rw [both_map hn (still_ok hn)]
  conv => rhs; rw [h.map hn]
  refine List.map_congr_left fun l hl => ?_
  rw [en_still hn hl, goal_ups (all_ascL hn l hl)]
  exact ups_cmp (h.ent hn hl)
/-! ### tables of deeds -/
def isAll (q l : List Nat) : Bool := q.all fun x => decide (x ∈ l)
def dE (n : Nat) (m : Mv) (l : List Nat) : List Int := byE l (if isAll m.1 l = true then swapW n m.2.1 m.2.2 else ups n)
theorem deed_map (n : Nat) (m : Mv) : deedT n m.1 m.2.1 m.2.2 = (allL n).map (dE n m) := rfl
def dF (m : Mv) (l : List Nat) (x : Nat) : Nat := if isAll m.1 l = true then sw m.2.1 m.2.2 x else x
theorem isAll_iff {q l : List Nat} : isAll q l = true ↔ ∀ x ∈ q, x ∈ l := by
  unfold isAll
  rw [List.all_eq_true]
  simp
section
variable {n : Nat} {m : Mv}
theorem Deed.way (d : Deed n m) (l : List Nat) : Way n (if isAll m.1 l = true then swapW n m.2.1 m.2.2 else ups n) (dF m l) := by
  have h1 := d.ab
  have h2 := d.bn
  unfold dF
  by_cases c : isAll m.1 l = true
  · simp only [c, if_true]
    exact way_swap (by omega) h2 (by omega)
  · simp only [c, if_false]
    exact way_ups n
theorem Deed.ent (d : Deed n m) (l : List Nat) : EntF n l (dE n m l) := (d.way l).ent l
theorem Deed.same (d : Deed n m) {l : List Nat} (hl : Asc 0 n l) : isAll m.1 (goalE n (dE n m l)) = isAll m.1 l := by
  have sub : ∀ x ∈ m.1, dF m l x = x := fun x hx => by
    unfold dF sw
    split
    · rw [if_neg (show ¬ x = m.2.2 from fun z => d.nb (z ▸ hx)), if_neg (show ¬ x = m.2.1 from fun z => d.na (z ▸ hx))]
    · rfl
  rw [Bool.eq_iff_iff, isAll_iff, isAll_iff]
  refine forall_congr' fun x => forall_congr' fun hx => ?_
  show x ∈ goalE n (byE l _) ↔ _
  rw [(d.way l).goal, sub x hx]
  have := d.asc.2 x hx
  exact ⟨fun z => z.2, fun z => ⟨by omega, z⟩⟩
theorem Deed.back (d : Deed n m) {l : List Nat} (hl : Asc 0 n l) : goalE n (dE n m (goalE n (dE n m l))) = l ∧ cmpE (dE n m l) (dE n m (goalE n (dE n m l))) = byE l (ups n) := by
  have es := d.same hl
  have ef : dF m (goalE n (dE n m l)) = dF m l := by funext x; unfold dF; rw [es]
  have W := d.way l
  have W2 := d.way (goalE n (dE n m l))
  rw [ef] at W2
  refine ⟨asc_ext (goal_asc _ _) hl fun y => ?_, ?_⟩
  · show y ∈ goalE n (byE _ _) ↔ _
    rw [W2.goal]
    show y < n ∧ dF m l y ∈ goalE n (byE _ _) ↔ _
    rw [W.goal]
    constructor
    · rintro ⟨h1, h2, h3⟩
      rwa [W.inv y h1] at h3
    · intro h
      have h1 : y < n := by have := (hl.2 y h).2; omega
      exact ⟨h1, W.lt y h1, by rw [W.inv y h1]; exact h⟩
  · refine list_ext (n := n) (by unfold cmpE; rw [List.length_map]; exact (d.ent l).len) (by rw [byE_len, ups_len]) fun x hx => ?_
    rw [cmp_at (by rw [(d.ent l).len]; exact hx), byE_at (by rw [ups_len]; exact hx)]
    by_cases c : x ∈ l
    · rw [if_pos c, (d.ent l).key x hx c]
      rfl
    · have e1 : (dE n m l).getD x 0 = (dF m l x : Int) := by
        unfold dE
        rw [byE_at (by rw [W.len]; exact hx), if_neg c, W.at_ x hx]
      obtain ⟨p1, p2⟩ := (d.ent l).off hx c
      rw [e1, Int.toNat_natCast] at p1 p2
      rw [e1, if_neg (by omega), if_neg c, ups_at hx, Int.toNat_natCast]
      show (byE _ _).getD _ 0 = _
      rw [byE_at (by rw [W2.len]; exact p1), if_neg p2, W2.at_ _ p1, W.inv x hx]
theorem perm_inv {α : Type} [DecidableEq α] {L : List α} {g : α → α} (nd : L.Nodup) (cl : ∀ x ∈ L, g x ∈ L) (iv : ∀ x ∈ L, g (g x) = x) : (L.map g).Perm L := by
  have nd2 : (L.map g).Nodup := by
    show (L.map g).Pairwise (· ≠ ·)
    rw [List.pairwise_map]
    refine List.Pairwise.imp_of_mem (fun {a b} ha hb h z => h ?_) nd
    rw [← iv a ha, ← iv b hb, z]
  refine (List.perm_ext_iff_of_nodup nd2 nd).mpr fun a => ⟨fun h => ?_, fun h => ?_⟩
  · obtain ⟨x, hx, rfl⟩ := List.mem_map.mp h
    exact cl x hx
  · exact List.mem_map.mpr ⟨g a, cl a h, iv a h⟩
theorem all_nodup {n : Nat} (hn : n ≤ 6) : (allL n).Nodup := by
  have h : ((allL n).map (num n)).Pairwise (· ≠ ·) := by rw [lots_nums n (by omega)]; exact List.nodup_range
  rw [List.pairwise_map] at h
  exact h.imp fun h z => h (by rw [z])
theorem Deed.ok (d : Deed n m) (hn : n ≤ 6) : TabOk n (deedT n m.1 m.2.1 m.2.2) := by
  rw [deed_map]
  exact TabOk.of_map hn (fun l _ => d.ent l) (perm_inv (g := fun l => goalE n (dE n m l)) (all_nodup hn) (fun l _ => goal_all hn _) fun l hl => (d.back (all_ascL hn l hl)).1)
theorem Deed.twice (d : Deed n m) (hn : n ≤ 6) : bothT n (deedT n m.1 m.2.1 m.2.2) (deedT n m.1 m.2.1 m.2.2) = stillT n := by
  rw [both_map hn (d.ok hn)]
  refine List.map_congr_left fun l hl => ?_
  rw [deed_map, en_map hn hl, en_map hn (goal_all hn _)]
  exact (d.back (all_ascL hn l hl)).2
end
theorem TabOk.gl_inj' {n : Nat} {T : List (List Int)} (hn : n ≤ 6) (h : TabOk n T) {a b : List Nat} (ha : a ∈ allL n) (hb : b ∈ allL n) (e : goalE n (en n T a) = goalE n (en n T b)) : a = b := by
  have nd : ((allL n).map fun l => goalE n (en n T l)).Pairwise (· ≠ ·) := (h.goalp hn).symm.nodup (all_nodup hn)
  rw [List.pairwise_map, List.pairwise_iff_getElem] at nd
  obtain ⟨i, hi, rfl⟩ := List.getElem_of_mem ha
  obtain ⟨j, hj, rfl⟩ := List.getElem_of_mem hb
  rcases Nat.lt_trichotomy i j with c | c | c
  · exact absurd e (nd i j hi hj c)
  · subst c; rfl
  · exact absurd e.symm (nd j i hj hi c)
end Kr
namespace Kr
open PySem PySem.Spec PyProof.Rows L2
/-! ### the law's tables by deeds, deed by deed -/
theorem setGo_keep {x : Nat} : ∀ (k : Nat) (r acc : List Int), (∀ j, j < r.length → r.getD j 0 ≠ (x : Int)) → (setGo k r acc).getD x 0 = acc.getD x 0
  | _, [], _, _ => rfl
  | k, z :: r, acc, h => by
    unfold setGo
    rw [setGo_keep (k + 1) r _ fun j hj => by
      have := h (j + 1) (by rw [List.length_cons]; omega)
      simpa using this]
    have h0 := h 0 (by rw [List.length_cons]; omega)
    have h0 : z ≠ (x : Int) := by simpa using h0
    split
    · rename_i c
      rw [List.getD_eq_getElem?_getD, List.getElem?_set_ne (by omega), ← List.getD_eq_getElem?_getD]
    · rfl
theorem setGo_put {x : Nat} : ∀ (k : Nat) (r acc : List Int) (j : Nat), j < r.length → r.getD j 0 = (x : Int) → (∀ i, i < r.length → r.getD i 0 = (x : Int) → i = j) → x < acc.length → (setGo k r acc).getD x 0 = ((k + j : Nat) : Int)
  | _, [], _, j, h, _, _, _ => by simp at h
  | k, z :: r, acc, 0, h, e, u, hx => by
    unfold setGo
    have e : z = (x : Int) := by simpa using e
    rw [setGo_keep (k + 1) r _ fun i hi ei => by
      have := u (i + 1) (by rw [List.length_cons]; omega) (by simpa using ei)
      omega]
    rw [if_pos (by omega), e, Int.toNat_natCast, List.getD_eq_getElem?_getD, List.getElem?_set_self hx]
    rfl
  | k, z :: r, acc, j + 1, h, e, u, hx => by
    unfold setGo
    rw [setGo_put (k + 1) r _ j (by rw [List.length_cons] at h; omega) (by simpa using e) (fun i hi ei => by
      have := u (i + 1) (by rw [List.length_cons]; omega) (by simpa using ei)
      omega) (by split <;> first | (rw [List.length_set]; exact hx) | exact hx)]
    congr 1
    omega
/-- riders at their places: what lies at each place -/
structure Lies (n : Nat) (l : List Nat) (ls : List Int) : Prop where
  len : ls.length = n
  at_ : ∀ y, y < n → ls.getD y 0 = -1 ∨ ∃ x : Nat, x < n ∧ x ∉ l ∧ ls.getD y 0 = x
  has : ∀ x, x < n → x ∉ l → ∃ y, y < n ∧ ls.getD y 0 = (x : Int)
  one : ∀ y z, y < n → z < n → 0 ≤ ls.getD y 0 → ls.getD y 0 = ls.getD z 0 → y = z
section
variable {n : Nat} {l : List Nat} {ls : List Int}
theorem Lies.put (h : Lies n l ls) {x y : Nat} (hx : x < n) (hy : y < n) (e : ls.getD y 0 = (x : Int)) : (lawE n ls).getD x 0 = (y : Int) := by
  unfold lawE
  rw [setGo_put 0 ls _ y (by rw [h.len]; exact hy) e (fun i hi ei => h.one i y (by rw [← h.len]; exact hi) hy (by omega) (ei.trans e.symm)) (by rw [List.length_replicate]; exact hx), Nat.zero_add]
theorem Lies.keep (h : Lies n l ls) {x : Nat} (hx : x < n) (c : x ∈ l) : (lawE n ls).getD x 0 = -1 := by
  unfold lawE
  rw [setGo_keep 0 ls _ fun j hj ej => ?_]
  · rw [List.getD_eq_getElem?_getD, List.getElem?_replicate, if_pos hx]
    rfl
  · rcases h.at_ j (by rw [← h.len]; exact hj) with z | ⟨x', _, c', z⟩
    · rw [z] at ej; omega
    · rw [z] at ej
      have : x' = x := by omega
      exact c' (this ▸ c)
theorem lawE_len (n : Nat) (ls : List Int) : (lawE n ls).length = n := by unfold lawE; rw [setGo_len, List.length_replicate]
theorem Lies.ent (h : Lies n l ls) : EntF n l (lawE n ls) := by
  refine ⟨lawE_len n ls, fun x hx c => h.keep hx c, fun x hx c => ?_, fun x y hx hy cx cy z => ?_⟩
  · obtain ⟨y, hy, e⟩ := h.has x hx c
    rw [h.put hx hy e]
    omega
  · obtain ⟨u, hu, eu⟩ := h.has x hx cx
    obtain ⟨v, hv, ev⟩ := h.has y hy cy
    rw [h.put hx hu eu, h.put hy hv ev] at z
    have : u = v := by omega
    subst this
    rw [eu] at ev
    omega
theorem Lies.goal (h : Lies n l ls) {y : Nat} (hy : y < n) : y ∈ goalE n (lawE n ls) ↔ ¬ 0 ≤ ls.getD y 0 := by
  rw [mem_goal, mem_e (lawE_len n ls)]
  constructor
  · rintro ⟨_, h2⟩ c
    rcases h.at_ y hy with z | ⟨x, hx, _, z⟩
    · omega
    · exact h2 ⟨x, hx, h.put hx hy z⟩
  · refine fun c => ⟨hy, ?_⟩
    rintro ⟨x, hx, e⟩
    by_cases k : x ∈ l
    · rw [h.keep hx k] at e
      omega
    · obtain ⟨u, hu, eu⟩ := h.has x hx k
      rw [h.put hx hu eu] at e
      have : u = y := by omega
      subst this
      omega
theorem lies_start (n : Nat) (l : List Nat) : Lies n l (stL n l) := by
  have at_ : ∀ x, x < n → (stL n l).getD x 0 = if x ∈ l then -1 else (x : Int) := fun x hx => by
    unfold stL
    rw [List.getD_eq_getElem?_getD, List.getElem?_map, List.getElem?_range hx]
    rfl
  refine ⟨by unfold stL; rw [List.length_map, List.length_range], fun y hy => ?_, fun x hx c => ⟨x, hx, by rw [at_ x hx, if_neg c]⟩, fun y z hy hz p e => ?_⟩
  · rw [at_ y hy]
    by_cases c : y ∈ l
    · rw [if_pos c]; exact .inl rfl
    · rw [if_neg c]; exact .inr ⟨y, hy, c, rfl⟩
  · rw [at_ y hy] at p e
    rw [at_ z hz] at e
    split at e
    · rename_i c
      rw [if_pos c] at p
      omega
    · split at e <;> omega
/-- two places exchanged, or not -/
theorem Lies.moved (h : Lies n l ls) {m : Mv} (d : Deed n m) : Lies n l (mvL ls m) ∧ lawE n (mvL ls m) = cmpE (lawE n ls) (dE n m (goalE n (lawE n ls))) := by
  have hab := d.ab
  have hbn := d.bn
  have hcond : m.1.all (fun x => !decide (0 ≤ ls.getD x 0)) = isAll m.1 (goalE n (lawE n ls)) := by
    rw [Bool.eq_iff_iff, isAll_iff, List.all_eq_true]
    refine forall_congr' fun x => forall_congr' fun hx => ?_
    rw [h.goal (by have := (d.asc.2 x hx).2; omega)]
    simp
  have W := d.way (goalE n (lawE n ls))
  have at_ : ∀ y, y < n → (mvL ls m).getD y 0 = ls.getD (dF m (goalE n (lawE n ls)) y) 0 := fun y hy => by
    unfold mvL dF
    rw [hcond]
    split
    · unfold sw
      rw [List.getD_eq_getElem?_getD, List.getElem?_set, List.length_set, h.len, List.getElem?_set, h.len]
      by_cases c1 : y = m.2.2
      · rw [if_pos c1.symm, if_pos hbn, if_pos c1]
        rfl
      · rw [if_neg (fun z => c1 z.symm), if_neg c1]
        by_cases c2 : y = m.2.1
        · rw [if_pos c2.symm, if_pos (by omega), if_pos c2]
          rfl
        · rw [if_neg (fun z => c2 z.symm), if_neg c2, List.getD_eq_getElem?_getD]
    · rfl
  have hl : (mvL ls m).length = n := by
    unfold mvL
    split
    · rw [List.length_set, List.length_set]; exact h.len
    · exact h.len
  have hL : Lies n l (mvL ls m) := by
    refine ⟨hl, fun y hy => ?_, fun x hx c => ?_, fun y z hy hz p e => ?_⟩
    · rw [at_ y hy]
      exact h.at_ _ (W.lt y hy)
    · obtain ⟨y, hy, e⟩ := h.has x hx c
      exact ⟨_, W.lt y hy, by rw [at_ _ (W.lt y hy), W.inv y hy]; exact e⟩
    · rw [at_ y hy] at p e
      rw [at_ z hz] at e
      have := h.one _ _ (W.lt y hy) (W.lt z hz) p e
      rw [← W.inv y hy, this, W.inv z hz]
  refine ⟨hL, list_ext (n := n) (lawE_len n _) (by unfold cmpE; rw [List.length_map]; exact lawE_len n _) fun x hx => ?_⟩
  rw [cmp_at (by rw [lawE_len]; exact hx)]
  by_cases c : x ∈ l
  · rw [hL.keep hx c, h.keep hx c]
    rfl
  · obtain ⟨y, hy, e⟩ := h.has x hx c
    have e2 := h.put hx hy e
    obtain ⟨p1, p2⟩ := h.ent.off hx c
    rw [e2, Int.toNat_natCast] at p1 p2
    rw [e2, if_neg (by omega), Int.toNat_natCast, hL.put hx (W.lt y hy) (by rw [at_ _ (W.lt y hy), W.inv y hy]; exact e)]
    show _ = (byE _ _).getD _ 0
    rw [byE_at (by rw [W.len]; exact p1), if_neg p2, W.at_ _ p1]
end
theorem lies_all {n : Nat} {l : List Nat} : ∀ (ms : List Mv) (ls : List Int), Lies n l ls → (∀ m ∈ ms, Deed n m) → Lies n l (ms.foldl mvL ls)
  | [], _, h, _ => h
  | m :: ms, ls, h, d => lies_all ms _ (h.moved (d m List.mem_cons_self)).1 fun x hx => d x (List.mem_cons_of_mem _ hx)
theorem made_nil {n : Nat} (hn : n ≤ 6) : madeT n [] = stillT n := by
  refine List.map_congr_left fun l hl => ?_
  show lawE n (stL n l) = _
  have h := lies_start n l
  have at_ : ∀ x, x < n → (stL n l).getD x 0 = if x ∈ l then -1 else (x : Int) := fun x hx => by
    unfold stL
    rw [List.getD_eq_getElem?_getD, List.getElem?_map, List.getElem?_range hx]
    rfl
  refine list_ext (n := n) (lawE_len n _) (by rw [byE_len, ups_len]) fun x hx => ?_
  rw [byE_at (by rw [ups_len]; exact hx)]
  by_cases c : x ∈ l
  · rw [if_pos c, h.keep hx c]
  · rw [if_neg c, ups_at hx, h.put hx hx (by rw [at_ x hx, if_neg c])]
theorem made_ent {n : Nat} {ms : List Mv} (d : ∀ m ∈ ms, Deed n m) (l : List Nat) : EntF n l (madeE n ms l) := (lies_all ms _ (lies_start n l) d).ent
theorem made_snoc {n : Nat} (hn : n ≤ 6) {ms : List Mv} {m : Mv} (d : ∀ x ∈ ms ++ [m], Deed n x) : madeT n (ms ++ [m]) = bothT n (madeT n ms) (deedT n m.1 m.2.1 m.2.2) := by
  unfold madeT bothT
  rw [List.map_map]
  refine List.map_congr_left fun l hl => ?_
  have dm := d m (List.mem_append_right _ List.mem_cons_self)
  have h := (lies_all ms _ (lies_start n l) fun x hx => d x (List.mem_append_left _ hx)).moved dm
  show lawE n ((ms ++ [m]).foldl mvL (stL n l)) = cmpE (madeE n ms l) (en n (deedT n m.1 m.2.1 m.2.2) (goalE n (madeE n ms l)))
  rw [List.foldl_append, deed_map, en_map hn (goal_all hn _)]
  exact h.2
theorem made_ok {n : Nat} (hn : n ≤ 6) {ms : List Mv} (d : ∀ m ∈ ms, Deed n m) : TabOk n (madeT n ms) := by
  have : ∀ k, k ≤ ms.length → TabOk n (madeT n (ms.take k)) := fun k => by
    induction k with
    | zero =>
      intro _
      rw [List.take_zero, made_nil hn]
      exact still_ok hn
    | succ k ih =>
      intro hk
      have e : ms.take (k + 1) = ms.take k ++ [ms[k]] := by rw [List.take_add_one, List.getElem?_eq_getElem (by omega)]; rfl
      have d2 : ∀ x ∈ ms.take k ++ [ms[k]], Deed n x := fun x hx => d x (List.take_subset _ _ (e ▸ hx))
      rw [e, made_snoc hn d2]
      exact (ih (by omega)).both hn ((d2 _ (List.mem_append_right _ List.mem_cons_self)).ok hn)
  have := this ms.length (Nat.le_refl _)
  rwa [List.take_length] at this
theorem made_one {n : Nat} (hn : n ≤ 6) {m : Mv} (d : Deed n m) : madeT n [m] = deedT n m.1 m.2.1 m.2.2 := by
  have := made_snoc (ms := []) (m := m) hn fun x hx => by
    rw [List.nil_append, List.mem_singleton] at hx
    exact hx ▸ d
  rw [List.nil_append, made_nil hn, still_both hn (d.ok hn)] at this
  exact this
end Kr
namespace Kr
open PySem PySem.Spec PyProof.Rows L2
/-! ### defs that may be called by names in the contrary order; defs that are called where no repr is under way -/
structure OkN (P : Program) (w : World) (K : PySem.W.Frag) (mg : Str → Option Value) (base : Heap) (k : Nat) (x : Str) (ps ks : List Str) (sp : Sp) : Prop where
  ex : ∃ f fd, FnOk P w K mg base CX0 k f fd ps sp ∧ PySem.W.keepIn K (.ref f) = true ∧ mg x = some (.ref f) ∧ Binds K fd ps [] ∧ KBn K fd ps 0 ks (fun _ ws => ws.reverse) (fun _ zs => zs.reverse)
structure DfN (K : PySem.W.Frag) (mg : Str → Option Value) (x : Str) (st : Stmt) (ps ks : List Str) : Prop where
  ex : ∃ f fd, Fun K x x st f fd ∧ Binds K fd ps [] ∧ mg x = some (.ref f) ∧ KBn K fd ps 0 ks (fun _ ws => ws.reverse) (fun _ zs => zs.reverse)
structure OkG (P : Program) (w : World) (K : PySem.W.Frag) (mg : Str → Option Value) (base : Heap) (k : Nat) (x : Str) (ps : List Str) (sp : Sp) : Prop where
  ex : ∃ f fd, FnG P w K mg base CX0 k f fd ps sp ∧ PySem.W.keepIn K (.ref f) = true ∧ mg x = some (.ref f) ∧ Binds K fd ps []
section
variable {P : Program} {w : World} {K : PySem.W.Frag} {mg : Str → Option Value} {base : Heap}
theorem OkN.ok {x : Str} {ps ks : List Str} {k : Nat} {sp : Sp} (D : OkN P w K mg base k x ps ks sp) : Ok P w K mg base k x ps sp := let ⟨f, fd, a, b, c, d, _⟩ := D.ex; ⟨f, fd, a, b, c, d⟩
theorem OkN.mono {x : Str} {ps ks : List Str} {j k : Nat} {sp : Sp} (D : OkN P w K mg base j x ps ks sp) (h : j ≤ k) : OkN P w K mg base k x ps ks sp := let ⟨f, fd, a, r⟩ := D.ex; ⟨f, fd, a.mono h, r⟩
theorem DfN.df {x : Str} {st : Stmt} {ps ks : List Str} (D : DfN K mg x st ps ks) : Df K mg x st ps := let ⟨f, fd, a, b, c, _⟩ := D.ex; ⟨f, fd, a, b, c⟩
/-- a promise of the def by place holds by names -/
theorem DfN.okN {x : Str} {st : Stmt} {ps ks : List Str} {k : Nat} {sp : Sp} (D : DfN K mg x st ps ks) (h : ∀ f fd, Fun K x x st f fd → FnOk P w K mg base CX0 k f fd ps sp) : OkN P w K mg base k x ps ks sp := by
  obtain ⟨f, fd, F, b, g, n⟩ := D.ex
  exact ⟨f, fd, h f fd F, F.kp, g, b, n⟩
theorem Df.okG {x : Str} {st : Stmt} {ps : List Str} {k : Nat} {sp : Sp} (D : Df K mg x st ps) (h : ∀ f fd, Fun K x x st f fd → FnG P w K mg base CX0 k f fd ps sp) : OkG P w K mg base k x ps sp := by
  obtain ⟨f, fd, F, b, g⟩ := D.ex
  exact ⟨f, fd, h f fd F, F.kp, g, b⟩
theorem OkG.mono {x : Str} {ps : List Str} {j k : Nat} {sp : Sp} (D : OkG P w K mg base j x ps sp) (h : j ≤ k) : OkG P w K mg base k x ps sp := by
  obtain ⟨f, fd, F, r⟩ := D.ex
  exact ⟨f, fd, F.mono h, r⟩
end
section
variable {X : Cx} {k : Nat} {x : Str} {ps ks : List Str} {sp : Sp} {p pos : Pos} {e : Expr} {es : List Expr} {t : TA} {kws : List Keyword} {tk : TA}
theorem pe_fnN (D : OkN X.prog X.w X.K X.mg X.base k x ps ks sp) (hr : Room k X.A) (hg : Gl X x) (hkw : PK X kws tk)
    (hall : (backToKw pos (keywordEach kws X.env)).all (·.1.isSome) = true := by rfl) (hks : (backToKw pos (keywordEach kws X.env)).filterMap (·.1) = ks := by rfl) (hdb : (x == ("__debug__" : Str)) = false := by decide)
    (hpl : ((backTo pos (starEach [] X.env)).any (·.1) || (backToKw pos (keywordEach kws X.env)).any (·.1.isNone)) = false := by rfl) :
    PE X (.Call (.Name x p) [] kws pos) (tCallN ks.length sp (fun _ zs => zs.reverse) E0 tk) := by
  obtain ⟨f, fd, F, kp, g, b, n⟩ := D.ex
  exact pe_callN F hr hg g kp n pass0 hkw hall hks hdb hpl
theorem pe_fnG (D : OkG X.prog X.w X.K X.mg X.base k x ps sp) (gd : X.A.guards = some []) (hr : Room k X.A) (hg : Gl X x) (ha : PA X (e :: es) t)
    (hdb : (x == ("__debug__" : Str)) = false := by decide) (he : starEach (e :: es) X.env = (false, eval e X.env) :: starEach es X.env := by rfl) (hpl : (backTo pos (starEach es X.env)).any (·.1) = false := by rfl) :
    PE X (.Call (.Name x p) (e :: es) [] pos) (tCall sp [] E0 t) := by
  obtain ⟨f, fd, F, kp, g, b⟩ := D.ex
  exact pe_callG F gd hr hg g kp b .nil pass0 ha hdb he hpl
end
/-! ### what is shown is small -/
theorem Sm.lit {i : Int} (h : i.natAbs < 32) : Sm 1 5 (.int i) := by
  have a := Sm.int (i := i) (by omega)
  refine ⟨a.sh, a.ls, a.dp, ?_⟩
  simp only [PyData.weight]
  split
  · omega
  · rename_i h0
    have h1 : i.natAbs ≠ 0 := fun z => h0 (by simp; omega)
    have : i.natAbs.log2 < 5 := (Nat.log2_lt h1).mpr h
    omega
theorem Sm.strm {x : Str} {m : Nat} (h : (x.cps.toList.all fun c => decide (c < 16 ^ 8)) = true) (hs : x.length ≤ m) : Sm 1 m (.str x) :=
  ⟨by simp [PyData.showable], by simpa [PyData.leavesShort] using h, by simp [PyData.depth], hs⟩
theorem Sm.two {k w : Nat} {a b : PyData} (ha : Sm k w a) (hb : Sm k w b) : Sm (k + 1) ((w + 1) * 2) (.list [a, b]) := Sm.lst (fun d hd => by
  simp only [List.mem_cons, List.not_mem_nil, or_false] at hd
  rcases hd with rfl | rfl
  · exact ha
  · exact hb) (Nat.le_refl _)
/-- repr(e) != repr(e'), as a test -/
theorem ne_repr {te te2 : TE} {σ : L2.St} {H : Hp} {Q : Bool → Hp → Prop} (h : te σ H fun v H1 => rRepr [v] H1 fun x H2 => te2 σ H2 fun v2 H3 => rRepr [v2] H3 fun y H4 => rNe x y H4 fun z H5 => ∃ k, z = .bl k ∧ Q k H5) :
    tTest (tOp rNe (tCB rRepr (tCons te tNil)) (tCB rRepr (tCons te2 tNil))) σ H Q := h
/-- repr(e) != x, x a text in a slot -/
theorem ne_reprV {te te2 : TE} {σ : L2.St} {H : Hp} {Q : Bool → Hp → Prop} (h : te σ H fun v H1 => rRepr [v] H1 fun x H2 => te2 σ H2 fun y H4 => rNe x y H4 fun z H5 => ∃ k, z = .bl k ∧ Q k H5) :
    tTest (tOp rNe (tCB rRepr (tCons te tNil)) te2) σ H Q := h
theorem ret_eq_repr {te te2 : TE} {σ : L2.St} {H : Hp} {D : Ends} (h : te σ H fun v H1 => rRepr [v] H1 fun x H2 => te2 σ H2 fun v2 H3 => rRepr [v2] H3 fun y H4 => rEq x y H4 fun z H5 => D.rt z H5) : tRet (tOp rEq (tCB rRepr (tCons te tNil)) (tCB rRepr (tCons te2 tNil))) D σ H := h
theorem ret_eq_reprV {te te2 : TE} {σ : L2.St} {H : Hp} {D : Ends} (h : te σ H fun v H1 => rRepr [v] H1 fun x H2 => te2 σ H2 fun y H4 => rEq x y H4 fun z H5 => D.rt z H5) : tRet (tOp rEq (tCB rRepr (tCons te tNil)) te2) D σ H := h
/-- repr of small data, the text under a name -/
theorem repr_x {v : V} {d : PyData} {H : Hp} {Q : VK} {k w : Nat} (hd : Dq H v d) (h : Sm k w d) (hk : k ≤ 40) (hw : w ≤ 380000) (q : ∀ x, x = d.shown → Q (.str x) H) : rRepr [v] H Q := repr_sm hd h hk hw (q _ rfl)
theorem repr_ne {v : V} {d : PyData} {H : Hp} {x : Str} {Q : Bool → Hp → Prop} {k w : Nat} (hx : x = d.shown) (hd : Dq H v d) (h : Sm k w d) (hk : k ≤ 40) (hw : w ≤ 380000) (q : Q false H) :
    rRepr [v] H fun y H4 => rNe (.str x) y H4 fun z H5 => ∃ k, z = .bl k ∧ Q k H5 := by
  refine repr_x hd h hk hw fun y hy => ?_
  rw [← hy] at hx
  subst hx
  refine ⟨rfl, _, rfl, ?_⟩
  rw [decide_eq_true rfl]
  exact q
theorem repr_eq {v : V} {d : PyData} {H : Hp} {x : Str} {Q : VK} {k w : Nat} (hx : x = d.shown) (hd : Dq H v d) (h : Sm k w d) (hk : k ≤ 40) (hw : w ≤ 380000) (q : Q (.bl true) H) :
    rRepr [v] H fun y H4 => rEq (.str x) y H4 fun z H5 => Q z H5 := by
  refine repr_x hd h hk hw fun y hy => ?_
  rw [← hy] at hx
  subst hx
  refine ⟨rfl, ?_⟩
  rw [decide_eq_true rfl]
  exact q
theorem txt_eq {x y : Str} {d : PyData} {H : Hp} {Q : VK} (hx : x = d.shown) (hy : y = d.shown) (q : Q (.bl true) H) : rEq (.str x) (.str y) H Q := by
  rw [← hy] at hx
  subst hx
  refine ⟨rfl, ?_⟩
  rw [decide_eq_true rfl]
  exact q
theorem Sm.three {k w : Nat} {a b c : PyData} (ha : Sm k w a) (hb : Sm k w b) (hc : Sm k w c) : Sm (k + 1) ((w + 1) * 3) (.list [a, b, c]) := Sm.lst (fun d hd => by
  simp only [List.mem_cons, List.not_mem_nil, or_false] at hd
  rcases hd with rfl | rfl | rfl
  · exact ha
  · exact hb
  · exact hc) (Nat.le_refl _)
/-- two texts of the same data -/
theorem txt_ne {x y : Str} {d : PyData} {H : Hp} {Q : Bool → Hp → Prop} (hx : x = d.shown) (hy : y = d.shown) (q : Q false H) : rNe (.str x) (.str y) H fun z H5 => ∃ k, z = .bl k ∧ Q k H5 := by
  rw [← hy] at hx
  subst hx
  refine ⟨rfl, _, rfl, ?_⟩
  rw [decide_eq_true rfl]
  exact q
end Kr
namespace Kr
open PySem PySem.Spec PyProof.Rows L2
/-! ### what the laws show of tables -/
theorem tab_flat (T : List (List Int)) : flatT (tabD T) = true := by simp only [tabD, flatT]; exact ents_flat T
def deedD (m : Mv) : PyData := .tuple [lotD m.1, .int (m.2.1 : Nat), .int (m.2.2 : Nat)]
theorem deed_flat (m : Mv) : flatT (deedD m) = true := by simp [deedD, flatT, flatTA, lot_flat]
theorem deed_dq {H : Hp} {v : V} {m : Mv} (h : DeedAt H v m) : Dq H v (deedD m) := by
  obtain ⟨d, q, rfl, h1, h2⟩ := h
  exact .tup h1 (.cons (lot_at h2) (.cons (.int _) (.cons (.int _) .nil)))
theorem DeedAt.upT {H H' : Hp} {v : V} {m : Mv} (s : TS H H') (h : DeedAt H v m) : DeedAt H' v m := by
  obtain ⟨d, q, rfl, h1, h2⟩ := h
  exact ⟨d, q, rfl, s _ _ h1, s _ _ h2⟩
theorem sm_lot {l : List Nat} {m : Nat} (hl : l.length ≤ m) (h : ∀ x ∈ l, x < 24) : Sm 2 (6 * m) (lotD l) := by
  refine Sm.tup (k := 1) (w := 5) (fun d hd => ?_) (by rw [List.length_map]; exact hl)
  obtain ⟨x, hx, rfl⟩ := List.mem_map.mp hd
  exact .lit (by have := h x hx; omega)
theorem sm_ent {e : List Int} (hl : e.length ≤ 6) (h : ∀ x ∈ e, -1 ≤ x ∧ x < 24) : Sm 2 (6 * 6) (entD e) := by
  refine Sm.tup (k := 1) (w := 5) (fun d hd => ?_) (by rw [List.length_map]; exact hl)
  obtain ⟨x, hx, rfl⟩ := List.mem_map.mp hd
  exact .lit (by have := h x hx; omega)
theorem EntF.le {n : Nat} {l : List Nat} {e : List Int} (h : EntF n l e) : ∀ x ∈ e, x = -1 ∨ (0 ≤ x ∧ x < n) := fun z hz => by
  obtain ⟨x, hx, rfl⟩ := (mem_e h.len).mp hz
  by_cases c : x ∈ l
  · exact .inl (h.key x hx c)
  · exact .inr (h.rid x hx c)
theorem sm_entF {n : Nat} (hn : n ≤ 6) {l : List Nat} {e : List Int} (h : EntF n l e) : Sm 2 (6 * 6) (entD e) := sm_ent (by rw [h.len]; exact hn) fun x hx => by
  have := h.le x hx
  omega
theorem TabOk.mem {n : Nat} (hn : n ≤ 6) {T : List (List Int)} (h : TabOk n T) {e : List Int} (he : e ∈ T) : ∃ l ∈ allL n, EntF n l e := by
  rw [h.map hn] at he
  obtain ⟨l, hl, rfl⟩ := List.mem_map.mp he
  exact ⟨l, hl, h.ent hn hl⟩
theorem sm_tab {n : Nat} (hn : n ≤ 6) {T : List (List Int)} (h : TabOk n T) : Sm 3 ((6 * 6 + 1) * 64) (tabD T) := by
  refine Sm.tup (k := 2) (w := 6 * 6) (fun d hd => ?_) (by rw [List.length_map, h.ents.len]; exact all_few n (by omega))
  obtain ⟨e, he, rfl⟩ := List.mem_map.mp hd
  obtain ⟨l, _, f⟩ := h.mem hn he
  exact sm_entF hn f
theorem sm_deed {n : Nat} (hn : n ≤ 6) {m : Mv} (d : Deed n m) : Sm 3 ((36 + 1) * 3) (deedD m) := by
  have h1 := d.ab
  have h2 := d.bn
  refine Sm.tup (k := 2) (w := 36) (fun x hx => ?_) (Nat.le_refl _)
  simp only [List.mem_cons, List.not_mem_nil, or_false] at hx
  rcases hx with rfl | rfl | rfl
  · exact sm_lot (m := 6) (by have := d.asc.len; omega) fun x hx => by have := (d.asc.2 x hx).2; omega
  · exact (Sm.lit (by omega)).mono (by decide) (by decide)
  · exact (Sm.lit (by omega)).mono (by decide) (by decide)
theorem ents_lay : ∀ T : List (List Int), PyData.canLayAll0 (T.map entD) = true ∧ PyData.depthAll (T.map entD) ≤ 2
  | [] => by simp [PyData.canLayAll0, PyData.depthAll]
  | e :: T => by
    obtain ⟨h1, h2⟩ := ents_lay T
    have h3 := dep_ints1 e
    simp only [List.map_cons, PyData.canLayAll0, PyData.depthAll, entD, PyData.canLay0, PyData.depth, h1, lay_ints1]
    refine ⟨by simp, by omega⟩
theorem tab_shaped (T : List (List Int)) : SeqAt.shaped (tabD T) = true := by
  obtain ⟨h1, h2⟩ := ents_lay T
  unfold SeqAt.shaped
  simp only [tabD, PyData.canLay0, PyData.depth, h1, Bool.true_and, decide_eq_true_eq]
  omega
theorem TabOk.uniq {n : Nat} (hn : n ≤ 6) {T : List (List Int)} (h : TabOk n T) {i j : Nat} {e : List Int} (h1 : T[i]? = some e) (h2 : T[j]? = some e) : i = j := by
  have at_ : ∀ {i : Nat}, T[i]? = some e → ∃ l, (allL n)[i]? = some l ∧ EntF n l e := fun {i} hi => by
    have hl : i < (allL n).length := by rw [← h.ents.len]; exact (List.getElem?_eq_some_iff.mp hi).1
    exact ⟨_, List.getElem?_eq_getElem hl, (h.ents.at_ i _ _ (List.getElem?_eq_getElem hl) hi).f⟩
  obtain ⟨a, ha, fa⟩ := at_ h1
  obtain ⟨b, hb, fb⟩ := at_ h2
  have e1 : a = b := asc_ext (all_ascL hn _ (List.mem_of_getElem? ha)) (all_ascL hn _ (List.mem_of_getElem? hb)) fun x => by
    by_cases hx : x < n
    · rw [← fa.neg hx, ← fb.neg hx]
    · exact ⟨fun z => absurd ((all_ascL hn _ (List.mem_of_getElem? ha)).2 x z).2 (by omega), fun z => absurd ((all_ascL hn _ (List.mem_of_getElem? hb)).2 x z).2 (by omega)⟩
  subst e1
  rw [← (all_num_at hn ha).1, ← (all_num_at hn hb).1]
/-! ### what the program's tests ask -/
theorem TabOk.both_in {n : Nat} (hn : n ≤ 6) {T : List (List Int)} (h : TabOk n T) : T.length ≤ 1000 ∧ (∀ e ∈ T, EntOk n e) ∧ T.length = 2 ^ n ∧ ∀ e ∈ T, e.length = n := by
  refine ⟨by rw [h.ents.len]; exact Nat.le_trans (all_few n (by omega)) (by decide), fun e he => ?_, h.len hn, fun e he => ?_⟩
  · obtain ⟨l, _, f⟩ := h.mem hn he
    exact ⟨goal_all hn e, by rw [f.len]; omega, f.le⟩
  · obtain ⟨l, _, f⟩ := h.mem hn he
    exact f.len
theorem TabOk.nd {n : Nat} (hn : n ≤ 6) {T : List (List Int)} (h : TabOk n T) : (T.map (goalE n)).Nodup := h.goals.symm.nodup (all_nodup hn)
theorem all_head : ∀ n : Nat, n < 7 → (allL n)[0]? = some [] := by decide +kernel
theorem TabOk.head {n : Nat} (hn : n ≤ 6) {T : List (List Int)} (h : TabOk n T) : ∃ r, T = en n T [] :: r := by
  have e := all_head n (by omega)
  cases hA : allL n with
  | nil => rw [hA] at e; cases e
  | cons a r =>
    rw [hA] at e
    have ea : a = [] := Option.some.inj e
    subst ea
    have h2 := h.map hn
    rw [hA, List.map_cons] at h2
    exact ⟨_, h2⟩
theorem nil_all {n : Nat} (hn : n ≤ 6) : ([] : List Nat) ∈ allL n := List.mem_of_getElem? (all_head n (by omega))
theorem ints_eqv : ∀ a b : List Int, PyData.eqvAll (a.map .int) (b.map .int) = decide (a = b)
  | [], [] => by simp [PyData.eqvAll]
  | [], _ :: _ => by simp [PyData.eqvAll]
  | _ :: _, [] => by simp [PyData.eqvAll]
  | x :: a, y :: b => by
    have ih := ints_eqv a b
    simp only [List.map_cons, PyData.eqvAll]
    rw [ih, Bool.eq_iff_iff]
    simp [PyData.eqv]
theorem ent_eqv (a b : List Int) : PyData.eqv (entD a) (entD b) = decide (a = b) := by
  unfold entD
  simp only [PyData.eqv]
  exact ints_eqv a b
theorem lot_eqv (a b : List Nat) : PyData.eqv (lotD a) (lotD b) = decide (a = b) := by
  have e : ∀ l : List Nat, lotD l = entD (l.map fun (x : Nat) => (x : Int)) := fun l => by
    unfold lotD entD
    rw [List.map_map]
    rfl
  rw [e, e, ent_eqv, decide_eq_decide]
  exact List.map_inj_right (fun a b z => by omega)
theorem ent_shaped (e : List Int) : SeqAt.shaped (entD e) = true := tup_shaped e
theorem deed_head {n : Nat} {m : Mv} (d : Deed n m) : dE n m [] = byE [] (ups n) ↔ m.1 ≠ [] := by
  have h1 := d.ab
  have h2 := d.bn
  constructor
  · intro e z
    have e1 : dE n m [] = byE [] (swapW n m.2.1 m.2.2) := by
      unfold dE isAll
      rw [z]
      rfl
    rw [e1] at e
    have W := way_swap (n := n) (a := m.2.1) (b := m.2.2) (by omega) h2 (by omega)
    have e2 : (byE [] (swapW n m.2.1 m.2.2)).getD m.2.1 0 = (byE [] (ups n)).getD m.2.1 0 := by rw [e]
    rw [byE_at (by rw [W.len]; omega), byE_at (by rw [ups_len]; omega), if_neg (by simp), if_neg (by simp), W.at_ _ (by omega), ups_at (by omega)] at e2
    unfold sw at e2
    rw [if_neg (by omega), if_pos rfl] at e2
    omega
  · intro h
    unfold dE
    rw [if_neg]
    rw [isAll_iff]
    cases hm : m.1 with
    | nil => exact absurd hm h
    | cons x r => exact fun z => absurd (z x List.mem_cons_self) (by simp)
end Kr
namespace Kr
open PySem PySem.Spec PyProof.Rows L2
/-! ### {k: v for ..}, the keys tuples -/
theorem put_tk {X : Cx} {ps : List (Addr × Obj)} {st : L2.St} {H : Hp} {sh : Shared} {B : Value → Shared → Prop} {D b : Addr} {es : List (List Key × V)} {ks : List Key} {v : V} {rv : Value} {Q : Unit → Shared → Prop} (hu : X.A.units < cLine) (Iv : Inv X ps st H sh) (hD : H D = some (.dT es))
    (hz : es.length < sizeLine) (hb : H b = some (.tup (ks.map kV))) (rel : RelV v rv) (fin : ∀ z, Inv X ps st (upd H D (.dT (putK es ks v))) z → Q () z) : wpAny (model X.prog X.w) X.A (dictSet D (.ref b) rv) Q B sh := by
  obtain ⟨z1, z2, ws, zr, zd⟩ := dt_of Iv.hok hD
  have zl : ws.length ≤ sizeLine := by rw [← Paired.length zr]; exact z1
  have zp : (putK es ks v).length ≤ sizeLine := Nat.le_trans (length_putK es ks v) hz
  refine wpAny_dictSet_heap (knd := tupleKind (mixKind X.prog X.w)) (hsz := zl) hu (key_of Iv.hok hb) zd fun h2 d2 same => fin _ ?_
  obtain ⟨ob, en, ep, e1, e2, e3, e4, _, e5⟩ := d2
  refine d_write Iv (by rw [hD]; trivial) same ⟨ob, e1⟩ ⟨zp, z2, _, (zr.put ks hb rel).keeps fun c ys ec => ?_, ob, en, ep, e1, e2, e3, e4, e5⟩
  exact (upd_ne (ne_of ec hD (by intro z; cases z))).trans ec
section
variable {X : Cx}
def tDcT (wi : TI) (g : TG) (tt : TT) (tk tv : TE) (own : List Nat) : TE := fun st H Q => wi st H fun J H1 => ∀ D, H1 D = none → ∃ W : Nat → Nat → Hp → Prop, (∃ m, W 0 m (upd H1 D (.dT []))) ∧ ∀ i m G, W i m G →
  (J.stop i G ∧ Q (.ref D) G) ∨ (J.go i G ∧ ∃ Nx : Hp → Prop, (∀ G', Nx G' → ∃ m', m' < m ∧ W (i + 1) m' G') ∧ ∀ x G', J.yld i G x G' → g x (wipe st own) G' fun s2 G2 => wipe s2 own = wipe st own ∧ tt s2 G2 fun yes G3 =>
    if yes = true then tk s2 G3 fun y G4 => tv s2 G4 fun z G5 => ∃ es ks b, y = .ref b ∧ G5 b = some (.tup (ks.map kV)) ∧ G5 D = some (.dT es) ∧ es.length < sizeLine ∧ Nx (upd G5 D (.dT (putK es ks z))) else Nx G3)
theorem pe_dcT {kx vx tg src : Expr} {ifs : List Expr} {sc : Scope} {own : List (Str × Nat)} {pos : Pos} {wi : TI} {g : TG} {tt : TT} {tk tv : TE} (hu : X.A.units < cLine) (calm : X.calm = true) (nd : X.N.Nodup) (ps : PI X tg src wi) (ok : BlkOk X.N X.env.scope sc own)
    (pg : ∀ (s : Shared) (H : Hp) (C : Addr) (cl : List (Str × Addr)) (fp : List Addr), PG (X.blk s H sc (compEnvC sc cl C X.env) fp) tg g) (pt : ∀ (s : Shared) (H : Hp) (C : Addr) (cl : List (Str × Addr)) (fp : List Addr), PTs (X.blk s H sc (compEnvC sc cl C X.env) fp) ifs tt)
    (pk : ∀ (s : Shared) (H : Hp) (C : Addr) (cl : List (Str × Addr)) (fp : List Addr), PE (X.blk s H sc (compEnvC sc cl C X.env) fp) kx tk)
    (pw : ∀ (s : Shared) (H : Hp) (C : Addr) (cl : List (Str × Addr)) (fp : List Addr), PE (X.blk s H sc (compEnvC sc cl C X.env) fp) vx tv) (fs : ∀ x, foldedSetIterable src X.env x = pure x := by intro _; rfl) :
    PE X (.DictComp kx vx [⟨tg, src, ifs, 0⟩] sc pos) (tDcT wi g tt tk tv (own.map (·.2))) := by
  refine ⟨fun pins s st H Q I h => ?_⟩
  rw [arm_eval_DictComp]
  have cellOf : ∀ y ∈ sc.names, y.2 = .free → ∃ c, X.env.cells.lookup y.1 = some c := fun y hy e => I.ok.has _ ((ok.free y hy e).elim .inl .inr)
  refine wpAny_comprehension_free (use := none) rfl fs (closure_ok cellOf) ok.kind (fun y hy e => by rw [ok.uniq y hy, e]) (thn (ps.run pins s st H _ I h) fun xv s1 hx => thn hx fun itv s2 h2 => ?_)
  obtain ⟨it, fp, tn, J, H2, rfl, I2, T, at2, fp2, q⟩ := h2
  refine wpAny_newObj_type (newEnv_comp ?_)
  have lt2 : ∀ b ∈ fp, b < s2.heap.objs.size := fun b hb => let ⟨_, e, _⟩ := T.obj _ _ at2 b hb; Heap.lt_size e
  generalize hD : s2.heap.objs.size = D
  have free2 : H2 D = none := I2.hok.fresh (Nat.le_of_eq hD)
  obtain ⟨W, ⟨m0, w0⟩, turn⟩ := q D free2
  generalize hsh : ({ s2 with heap := s2.heap.push { cls := .type "dict", data := .dict #[] } } : Shared) = s3
  have hp3 : s3.heap = s2.heap.push { cls := .type "dict", data := .dict #[] } := by rw [← hsh]
  have I3 : Inv X pins st (upd H2 D (.dT [])) s3 := by
    subst hsh
    exact I2.laid (t' := s2.toks) (fun b o e => Heap.get?_push_of_some _ e) (Nat.le_of_eq hD) (hD ▸ dt_empty s2.heap I2.big)
  have fp3 : ∀ b ∈ fp, FpOk X pins (upd H2 D (.dT [])) b ∧ b < s3.heap.objs.size := fun b hb => by
    have lt := lt2 b hb
    refine ⟨⟨(upd_ne (hD ▸ Nat.ne_of_lt lt)).trans (fp2 b hb).1, (fp2 b hb).2⟩, ?_⟩
    rw [hp3, Heap.size_push]
    exact Nat.lt_succ_of_lt lt
  have at3 : tn 0 s3.heap := T.keep _ _ _ at2 fun b _ o e => by rw [hp3]; exact Heap.get?_push_of_some _ e
  have I4 := block_start I3 ok nd fp3
  have g4 := pg s3 (upd H2 D (.dT [])) s3.heap.objs.size (cellsFrom (s3.heap.objs.size + 1) sc.names (cloFrom X.env.cells sc.names [])) fp
  have t4 := pt s3 (upd H2 D (.dT [])) s3.heap.objs.size (cellsFrom (s3.heap.objs.size + 1) sc.names (cloFrom X.env.cells sc.names [])) fp
  have k4 := pk s3 (upd H2 D (.dT [])) s3.heap.objs.size (cellsFrom (s3.heap.objs.size + 1) sc.names (cloFrom X.env.cells sc.names [])) fp
  have v4 := pw s3 (upd H2 D (.dT [])) s3.heap.objs.size (cellsFrom (s3.heap.objs.size + 1) sc.names (cloFrom X.env.cells sc.names [])) fp
  show codeAny _ _ (.compStart (.DictComp kx vx [⟨tg, src, ifs, 0⟩] sc pos) 0 (.ref it) (.ref D) (compEnvC sc (cellsFrom (s3.heap.objs.size + 1) sc.names (cloFrom X.env.cells sc.names [])) s3.heap.objs.size X.env)) _ { s3 with heap := pushCells (s3.heap.push { cls := .type "dict", data := .dict #[] }) sc.names }
  generalize hce : compEnvC sc (cellsFrom (s3.heap.objs.size + 1) sc.names (cloFrom X.env.cells sc.names [])) s3.heap.objs.size X.env = ce at I4 g4 t4 k4 v4 ⊢
  have loc : ce.locals = s3.heap.objs.size := by rw [← hce]; rfl
  have none3 : ∀ b ∈ fp, upd H2 D (.dT []) b = none := fun b hb => (fp3 b hb).1.1
  generalize upd H2 D (.dT []) = H3 at I3 I4 g4 t4 k4 v4 w0 none3 fp3
  generalize hs4 : ({ s3 with heap := pushCells (s3.heap.push { cls := .type "dict", data := .dict #[] }) sc.names } : Shared) = s4 at I4 ⊢
  have at4 : tn 0 s4.heap := T.keep _ _ _ at3 fun b _ o e => by rw [← hs4]; exact pushCells_keeps _ _ _ _ (Heap.get?_push_of_some _ e)
  have fpOf : ∀ {st' : L2.St} {G : Hp} {z : Shared}, Inv (X.blk s3 H3 sc ce fp) [] st' G z → (∀ b ∈ fp, G b = none) → ∀ b ∈ fp, FpOk (X.blk s3 H3 sc ce fp) [] G b := fun Iz no b hb =>
    ⟨no b hb, (Iz.ok.exf b hb).1, Iz.ok.exfs b hb, .inl hb, fun x c e => (Iz.ok.exf b hb).2 x c e, fun p hp => absurd (show p ∈ ([] : List (Addr × Obj)) ++ [] from hp) (by simp)⟩
  refine codeAny_compStart_dict ?lp (T.self X.A 0 _ _ _ at4 ?lp)
  refine compLoop_anyD (fun k z => ∃ i G, Inv (X.blk s3 H3 sc ce fp) [] (wipe st (own.map (·.2))) G z ∧ tn i z.heap ∧ (∀ b ∈ fp, G b = none) ∧ W i k G) ?_ m0 ⟨0, H3, I4, at4, none3, w0⟩
  rintro k s5 ⟨i, G5, I5, at5, no5, w5⟩
  rcases turn i k G5 w5 with ⟨hstop, fin⟩ | ⟨hgo, Nx, next, step⟩
  · refine thnF (T.done (X.blk s3 H3 sc ce fp) rfl rfl rfl calm i [] s5 _ G5 (fun _ _ => False) I5 (fpOf I5 no5) at5 hstop) fun r s6 ⟨hr, I6⟩ => ?_
    subst hr
    have I7 : Inv X pins st G5 s6 := I3.call' (ch := fp) I6.os I6.base I6.hok I6.bare fun b hb => ⟨(fp3 b hb).1.2.2.2.1, (fp3 b hb).1.2.1, (fp3 b hb).1.2.2.2.2.1, (fp3 b hb).1.2.2.2.2.2⟩
    have free6 : G5 s3.heap.objs.size = none := by rw [← loc]; exact I6.free
    obtain ⟨m, ns, _⟩ := I6.loc
    have ns : s6.heap.Ns ce.locals m := ns
    rw [loc] at ns
    refine ⟨m, ns, fun h7 sb => ?_⟩
    obtain ⟨f0, f1, f2, f3, f4, f5⟩ := I3.fpOk (Nat.le_refl _) free6
    exact ⟨.ref D, G5, I7.turned (t' := s6.toks) (fun b o hb e => (sb.2 b hb).trans e) f0 f1 f3 f4 f5, rfl, fin⟩
  · refine thnF (T.item (X.blk s3 H3 sc ce fp) rfl rfl rfl calm i [] s5 _ G5 (fun _ _ => False) I5 (fpOf I5 no5) at5 hgo) fun r s6 ⟨u, hr, h6⟩ => ?_
    subst hr
    refine thnF h6 fun _ s7 ⟨x, G7, I7, r7, y7, at7, no7⟩ => ?_
    have I8 := I7.pinned (fpOf I7 no7) (T.obj _ _ at7)
    refine thnF (g4.run _ s7 _ G7 x u _ I8 r7 (step x G7 y7)) fun _ s8 ⟨st8, G8, I9, wq, q8⟩ => ?_
    have back : ∀ {z : Shared} {G : Hp}, Inv (X.blk s3 H3 sc ce fp) ([] ++ pinsAt fp s7.heap) st8 G z → Nx G → ∃ m, m < k ∧ ∃ i G, Inv (X.blk s3 H3 sc ce fp) [] (wipe st (own.map (·.2))) G z ∧ tn i z.heap ∧ (∀ b ∈ fp, G b = none) ∧ W i m G := fun {z G} Iz nx => by
      obtain ⟨m', less, w'⟩ := next G nx
      have pinned : ∀ b ∈ fp, ∀ o, s7.heap.get? b = some o → z.heap.get? b = some o ∧ G b = none := fun b hb o e => by
        have p := Iz.pin (b, o) (List.mem_append_right _ (List.mem_append_right _ (mem_pinsAt hb e)))
        exact ⟨p.1, p.2.1⟩
      refine ⟨m', less, i + 1, G, (Iz.unpinned (pins := [])).weak (by rw [← wq, wipe_length]) (fun j v e => ?_), T.keep _ _ _ at7 fun b hb o e => (pinned b hb o e).1, fun b hb => ?_, w'⟩
      · rw [← wq] at e
        exact (wipe_some e).1
      · obtain ⟨o, e, _⟩ := T.obj _ _ at7 b hb
        exact (pinned b hb o e).2
    refine thnF (t4.run _ s8 st8 G8 _ I9 q8) fun yes s9 ⟨G9, I10, q9⟩ => ?_
    cases yes with
    | false =>
      simp only [Bool.false_eq_true, if_false] at q9 ⊢
      exact back I10 q9
    | true =>
      simp only [if_true] at q9 ⊢
      refine thnF (k4.run _ s9 st8 G9 _ I10 q9) fun kv s10 ⟨yk, G10, I11, r10, q10⟩ => ?_
      refine thnF (v4.run _ s10 st8 G10 _ I11 q10) fun vv s11 ⟨yv, G11, I12, r11, es, ks, b, ek, hb, hD11, hz, nx⟩ => ?_
      subst ek
      obtain rfl : kv = Value.ref b := r10
      exact put_tk (X := X.blk s3 H3 sc ce fp) hu I12 hD11 hz hb r11 fun z Iz => back Iz nx
/-- over any walk -/
theorem dcT_it {J : It} {n : Nat} {G : Hp → Prop} {Y : Nat → Hp → V → Hp → Prop} (w : Walk J n G Y) {g : TG} {tt : TT} {tk tv : TE} {vs : List Nat} {σ : L2.St} {H1 : Hp} {D : Addr} {Qd : Hp → Prop} (Pv : Nat → Hp → Prop) (h0 : Pv 0 (upd H1 D (.dT []))) (hG : ∀ i H, i ≤ n → Pv i H → G H)
    (hs : ∀ i x H H', i < n → Pv i H → Y i H x H' → g x (wipe σ vs) H' fun σ2 H2 => wipe σ2 vs = wipe σ vs ∧ tt σ2 H2 fun b H3 =>
      if b = true then tk σ2 H3 fun y H4 => tv σ2 H4 fun z H5 => ∃ es ks b, y = .ref b ∧ H5 b = some (.tup (ks.map kV)) ∧ H5 D = some (.dT es) ∧ es.length < sizeLine ∧ Pv (i + 1) (upd H5 D (.dT (putK es ks z))) else Pv (i + 1) H3) (hd : ∀ H, Pv n H → Qd H) :
    ∃ W : Nat → Nat → Hp → Prop, (∃ m, W 0 m (upd H1 D (.dT []))) ∧ ∀ i m H, W i m H →
      (J.stop i H ∧ Qd H) ∨ (J.go i H ∧ ∃ Nx : Hp → Prop, (∀ H', Nx H' → ∃ m', m' < m ∧ W (i + 1) m' H') ∧ ∀ x H', J.yld i H x H' → g x (wipe σ vs) H' fun σ2 H2 => wipe σ2 vs = wipe σ vs ∧ tt σ2 H2 fun b H3 =>
        if b = true then tk σ2 H3 fun y H4 => tv σ2 H4 fun z H5 => ∃ es ks b, y = .ref b ∧ H5 b = some (.tup (ks.map kV)) ∧ H5 D = some (.dT es) ∧ es.length < sizeLine ∧ Nx (upd H5 D (.dT (putK es ks z))) else Nx H3) := by
  refine ⟨fun i m H => m = n - i ∧ i ≤ n ∧ Pv i H, ⟨n, (Nat.sub_zero n).symm, Nat.zero_le _, h0⟩, fun i m H ⟨hm, hi, p⟩ => ?_⟩
  subst hm
  have hg := hG i H hi p
  rcases Nat.lt_or_ge i n with lt | ge
  · exact .inr ⟨w.goes i H lt hg, Pv (i + 1), fun H' p' => ⟨n - (i + 1), by omega, rfl, lt, p'⟩, fun x H' y => hs i x H H' lt p (w.yields i H x H' lt hg y)⟩
  · cases Nat.le_antisymm hi ge
    exact .inl ⟨w.stops H hg, hd H p⟩
end
end Kr
namespace Kr
open PySem PySem.Spec PyProof.Rows L2
/-! ### dict(pairs), the keys tuples -/
abbrev PEnt := List Key × Addr × V
def putsK (kvs : List (List Key × V)) (es : List PEnt) : List (List Key × V) := es.foldl (fun acc e => putK acc e.1 e.2.2) kvs
theorem putsK_len : ∀ (es : List PEnt) (kvs : List (List Key × V)), (putsK kvs es).length ≤ kvs.length + es.length
  | [], kvs => Nat.le_refl _
  | e :: es, kvs => by
    have h := putsK_len es (putK kvs e.1 e.2.2)
    have h2 := length_putK kvs e.1 e.2.2
    show (putsK (putK kvs e.1 e.2.2) es).length ≤ _
    simp only [List.length_cons]
    omega
theorem KT.puts {H : Hp} : ∀ {es : List PEnt} {ws : List (List Key × Addr × Value)}, Paired (fun (e : PEnt) (q : List Key × Addr × Value) => e.1 = q.1 ∧ e.2.1 = q.2.1 ∧ H e.2.1 = some (.tup (e.1.map kV)) ∧ RelV e.2.2 q.2.2) es ws →
    ∀ {kvs : List (List Key × V)} {xs : List (List Key × Addr × Value)}, KT H kvs xs → KT H (putsK kvs es) (storedAllH xs ws)
  | _, _, .nil, _, _, r => r
  | _, _, .cons (a := e) (b := q) h t, kvs, xs, r => by
    obtain ⟨k, b, v⟩ := e
    obtain ⟨k2, b2, u⟩ := q
    obtain ⟨rfl, rfl, h3, h4⟩ := h
    exact KT.puts t (r.put k h3 h4)
section
variable {X : Cx}
theorem pairsT_of {pins : List (Addr × Obj)} {σ : L2.St} {H : Hp} {s : Shared} (I : Inv X pins σ H s) : ∀ {ps : List Addr} {es : List PEnt}, Paired (fun p (e : PEnt) => SqT X.K H p [.ref e.2.1, e.2.2] ∧ H e.2.1 = some (.tup (e.1.map kV))) ps es →
    ∃ ws : List (List Key × Addr × Value), Paired (fun (e : PEnt) (q : List Key × Addr × Value) => e.1 = q.1 ∧ e.2.1 = q.2.1 ∧ H e.2.1 = some (.tup (e.1.map kV)) ∧ RelV e.2.2 q.2.2) es ws ∧ ws.length = ps.length ∧
      (∀ (j : Nat) (q : List Key × Addr × Value), ws[j]? = some q → ∃ b : Addr, ps[j]? = some b ∧ IsTup s.heap b #[.ref q.2.1, q.2.2]) ∧ ∀ q ∈ ws, H q.2.1 = some (.tup (q.1.map kV))
  | _, _, .nil => ⟨[], .nil, rfl, fun j q e => by simp at e, fun _ h => nomatch h⟩
  | _, _, .cons (a := p) (b := e) h t => by
    obtain ⟨ws, r, hl, hp, hk⟩ := pairsT_of I t
    obtain ⟨its, rv, ht, _⟩ := I.tuple h.1
    obtain ⟨u, y, ei, ru, ry⟩ := vals2 rv
    subst ei
    obtain rfl : u = Value.ref e.2.1 := ru
    refine ⟨(e.1, e.2.1, y) :: ws, .cons ⟨rfl, rfl, h.2, ry⟩ r, by rw [List.length_cons, List.length_cons, hl], fun j q ej => ?_, fun q hq => ?_⟩
    · cases j with
      | zero =>
        have e' : (e.1, e.2.1, y) = q := Option.some.inj ej
        subst e'
        exact ⟨p, rfl, ht⟩
      | succ j =>
        obtain ⟨b, e1, e2⟩ := hp j q (by simpa using ej)
        exact ⟨b, by simpa using e1, e2⟩
    · rcases List.mem_cons.mp hq with e' | hq
      · subst e'
        exact h.2
      · exact hk q hq
/-- dict(xs) of a list of pairs (tuple, value) -/
theorem call_dictT (hu : X.A.in1.in1.units < cLine) (hcalm : X.calm = true) : CallR X (.type "dict") (fun xs H Q => ∃ (a : Addr) (ps : List Addr) (es : List PEnt), xs = [.ref a] ∧ SqL X.K H a (ps.map V.ref) ∧
    Paired (fun p (e : PEnt) => SqT X.K H p [.ref e.2.1, e.2.2] ∧ H e.2.1 = some (.tup (e.1.map kV))) ps es ∧ ∀ p, H p = none → Q (.ref p) (upd H p (.dT (putsK [] es)))) := by
  intro pins s σ H xs us Q I r q
  obtain ⟨a, ps, es, ex, hq, hp, q⟩ := q
  subst ex
  obtain ⟨u, eu, rx⟩ := vals1 r
  subst eu
  cases rx
  obtain ⟨its, rv, pl, hz⟩ := I.list hq
  have ei := refs_at rv
  subst ei
  rw [List.length_map] at hz
  obtain ⟨ws, rel, hl, hpr, hks⟩ := pairsT_of I hp
  obtain ⟨o, n, ho, hc, hd, hdat⟩ := pl
  have hsz : ws.length ≤ sizeLine := by rw [hl]; exact hz
  have hitems : PairItems s.heap (ps.map Value.ref).toArray (fun j => ps.getD j 0) (ws.map fun q => (Value.ref q.2.1, q.2.2)) := by
    refine ⟨by simp [hl], fun j k v e => ?_⟩
    rw [List.getElem?_map] at e
    cases hw : ws[j]? with
    | none => rw [hw] at e; cases e
    | some q2 =>
      rw [hw] at e
      cases e
      obtain ⟨b, e1, e2⟩ := hpr j q2 hw
      have : ps.getD j 0 = b := by rw [List.getD_eq_getElem?_getD, e1]; rfl
      dsimp only
      rw [this]
      refine ⟨by simp [e1], .inl e2⟩
  refine call_dict_pairsH (knd := tupleKind (mixKind X.prog X.w)) (ps := ws) (PairArg.list a _ (fun j => ps.getD j 0) (ws.map fun q => (Value.ref q.2.1, q.2.2))) (I.ok.hd hcalm) hu ⟨⟨o, n, ho, hc, hd, hdat⟩, hitems⟩ ⟨by simp, fun i key v hr => ?_⟩ (fun h' hk x hx => ?_) (by simpa using hsz) fun h' tk hd' hk => ?_
  · have hr : (ws.map fun q => (Value.ref q.2.1, q.2.2))[i]? = some (key, v) := hr
    rw [List.getElem?_map] at hr
    cases hw : ws[i]? with
    | none => rw [hw] at hr; cases hr
    | some q2 =>
      rw [hw] at hr
      cases hr
      exact ⟨q2.1, q2.2.1, rfl, rfl⟩
  · have hx' := hks x (by simpa using hx)
    obtain ⟨o1, its1, n1, g1, g2, g3, g4⟩ := key_of (P := X.prog) (w := X.w) I.hok hx'
    have lt := Heap.lt_size g1
    exact ⟨o1, its1, n1, hk _ _ (Nat.ne_of_lt lt) (by simp) g1, g2, g3, g4⟩
  · have hm : (s.heap.objs.size == sysModules) = false := beq_eq_false_iff_ne.mpr (Nat.ne_of_gt I.big)
    have hlen : (putsK [] es).length ≤ sizeLine := by
      refine Nat.le_trans (putsK_len es []) ?_
      rw [List.length_nil, Nat.zero_add, rel.length]
      exact hsz
    obtain ⟨od, en, ep, e1, e2, e3, e4, _, e5⟩ := hd'
    have kt : KT H (putsK [] es) (storedAllH [] ws) := KT.puts rel .nil
    have free := I.hok.fresh (Nat.le_refl s.heap.objs.size)
    exact ⟨.ref s.heap.objs.size, upd H s.heap.objs.size (.dT (putsK [] es)), I.laid (t' := tk) (fun b u e => hk b u (by simp) e) (Nat.le_refl _)
      (show ObjOk X.prog X.w _ _ _ (.dT (putsK [] es)) from ⟨hlen, hm, storedAllH [] ws, kt.keeps (fun b ys eb => (upd_ne (ne_of_none eb free)).trans eb), od, en, ep, e1, e2, e3, e4, e5⟩), rfl, q _ free⟩
end
end Kr
namespace Kr
open PySem PySem.Spec PyProof.Rows L2
theorem sum_cast : ∀ l : List Nat, (l.map fun (x : Nat) => (x : Int)).sum = ((l.sum : Nat) : Int)
  | [] => rfl
  | x :: l => by
    rw [List.map_cons, List.sum_cons, List.sum_cons, sum_cast l]
    omega
theorem comb_val {n k : Nat} (hn : n < 26) (hk : k < 27) {a b : Int} (ha : a = n) (hb : b = k) : PySem.W.mcComb a b = (ch n k : Int) := by
  rw [ha, hb]
  exact ch_tab n hn k hk
def spNum : Sp := fun vs H Q _ => ∃ (n : Nat) (a : Addr) (l : List Nat), vs = [.int (n : Int), .ref a] ∧ H a = some (.tup (lv l)) ∧ Asc 0 n l ∧ n ≤ 24 ∧ ∀ H', Same H H' → Q (.int (num n l : Nat)) H'
def spChoices : Sp := fun vs H Q _ => ∃ a b : Int, vs = [.int a, .int b] ∧ 0 ≤ a ∧ a < 1000 ∧ Q (.int (if 0 ≤ b then PySem.W.mcComb a b else 0)) H
def spKind : Sp := fun vs H Q _ => ∃ n k : Nat, vs = [.int (n : Int), .int (k : Int)] ∧ k + 2 ≤ n ∧ n ≤ 30 ∧ ∀ H' r, Same H H' → Dq H' r (rowD (kindR n k)) → Q r H'
theorem chB_val (a b : Int) : (if 0 ≤ b then PySem.W.mcComb a b else 0) % 2 = bi (chB a b) := by
  unfold chB
  by_cases h : 0 ≤ b
  · rw [if_pos h, if_pos h]
    have : PySem.W.mcComb a b % 2 = 0 ∨ PySem.W.mcComb a b % 2 = 1 := by omega
    rcases this with e | e <;> rw [e] <;> rfl
  · rw [if_neg h, if_neg h]
    rfl
/-! ### numbers of the lots of a size -/
def numsL (n s : Nat) : List Int := (List.range (ch n s)).map fun (j : Nat) => ((below n s + j : Nat) : Int)
def spNumsOf : Sp := fun vs H Q _ => ∃ n s : Nat, vs = [.int (n : Int), .int (s : Int)] ∧ n ≤ 6 ∧ s ≤ n ∧ ∀ H' p, Same H H' → H p = none → H' p = some (.lst ((numsL n s).map V.int)) → Q (.ref p) H'
theorem num_first : ∀ n : Nat, n < 7 → ∀ s : Nat, s < n + 1 → num n (List.range s) = below n s := by decide +kernel
theorem range_asc {n s : Nat} (h : s ≤ n) : Asc 0 n (List.range s) := ⟨List.pairwise_lt_range, fun x hx => by have := List.mem_range.mp hx; omega⟩
theorem below_lt : ∀ n : Nat, n < 7 → ∀ s : Nat, s < n + 1 → below n s + ch n s ≤ 2 ^ n := by decide +kernel
theorem nums_lots : ∀ n : Nat, n < 7 → ∀ s : Nat, s < n + 1 → (lotsL n s).map (num n) = (List.range (ch n s)).map fun j => below n s + j := by decide +kernel
end Kr
namespace Kr
open PySem PySem.Spec PyProof.Rows L2
/-! ### signs -/
/-- how many ahead of the j-th are greater -/
def invA (xs : List Int) (j : Nat) : Nat := (xs.take j).countP fun a => decide (xs.getD j 0 < a)
def invS (xs : List Int) (i : Nat) : Nat := ((List.range i).map (invA xs)).sum
def invN (xs : List Int) : Nat := invS xs xs.length
def oddN (k : Nat) : Bool := decide (k % 2 = 1)
def sgI (xs : List Int) : Bool := oddN (invN xs)
theorem invS_succ (xs : List Int) (i : Nat) : invS xs (i + 1) = invS xs i + invA xs i := by
  unfold invS
  rw [List.range_succ, List.map_append, List.sum_append]
  simp
theorem invA_le (xs : List Int) (i : Nat) : invA xs i ≤ i := by
  unfold invA
  refine Nat.le_trans List.countP_le_length ?_
  rw [List.length_take]
  omega
theorem invS_le (xs : List Int) : ∀ i m, i ≤ m → invS xs i ≤ i * m
  | 0, _, _ => by simp [invS]
  | i + 1, m, h => by
    have h1 := invS_le xs i m (by omega)
    have h2 := invA_le xs i
    rw [invS_succ, Nat.add_mul]
    omega
theorem odd_mod (k : Nat) : ((k : Int) % 2) = bi (oddN k) := by
  unfold oddN bi
  rcases Nat.mod_two_eq_zero_or_one k with h | h
  · rw [h]
    simp
    omega
  · rw [h]
    simp
    omega
theorem odd_add (a b : Nat) : oddN (a + b) = (oddN a ^^ oddN b) := by
  unfold oddN
  rcases Nat.mod_two_eq_zero_or_one a with h | h <;> rcases Nat.mod_two_eq_zero_or_one b with k | k <;> simp [Nat.add_mod, h, k]
theorem sum_ones (k : Nat) : (List.replicate k (1 : Int)).sum = (k : Int) := by
  induction k with
  | zero => rfl
  | succ k ih => rw [List.replicate_succ, List.sum_cons, ih]; omega
def spSign : Sp := fun vs H Q _ => ∃ (a : Addr) (xs : List Int), vs = [.ref a] ∧ H a = some (.lst (xs.map V.int)) ∧ xs.length ≤ 100 ∧ ∀ H', Same H H' → Q (.int (bi (sgI xs))) H'
/-- the riders of an entry -/
def ridE (e : List Int) : List Int := e.filter fun x => !decide (x = -1)
/-- the sign of the riders of entries, together -/
def sgR : List (List Int) → Bool
  | [] => false
  | e :: es => (sgI (ridE e) ^^ sgR es)
theorem sgR_sum : ∀ es : List (List Int), ((es.map fun e => bi (sgI (ridE e))).sum) % 2 = bi (sgR es)
  | [] => rfl
  | e :: es => by
    have ih := sgR_sum es
    rw [List.map_cons, List.sum_cons]
    show _ = bi (sgI (ridE e) ^^ sgR es)
    rw [← bi_sum, ← ih]
    omega
def spCarry : Sp := fun vs H Q _ => ∃ (a : Addr) (us : List V) (es : List (List Int)), vs = [.ref a] ∧ H a = some (.lst us) ∧ DqA H us (es.map entD) ∧ es.length ≤ 100 ∧ (∀ e ∈ es, e.length ≤ 100) ∧ ∀ H', Same H H' → Q (.int (bi (sgR es))) H'
/-- the row of a table -/
def sgT (n : Nat) (T : List (List Int)) : Row := (List.range (n + 1)).map fun s => (sgI ((lotsL n s).map fun l => ((num n (goalE n (en n T l)) : Nat) : Int)), sgR ((lotsL n s).map (en n T)))
def spSigns : Sp := fun vs H Q _ => ∃ (n : Nat) (v : V) (T : List (List Int)), vs = [.int (n : Int), v] ∧ n ≤ 6 ∧ Dq H v (tabD T) ∧ TabOk n T ∧ ∀ H' r, Same H H' → Dq H' r (rowD (sgT n T)) → Q r H'
end Kr
namespace Kr
open PySem PySem.Spec PyProof.Rows L2
/-! ### signs as sums over pairs -/
def xorA : List Bool → Bool
  | [] => false
  | b :: r => (b ^^ xorA r)
theorem xorA_perm {a b : List Bool} (p : a.Perm b) : xorA a = xorA b := by
  induction p with
  | nil => rfl
  | cons x _ ih => simp [xorA, ih]
  | swap x y l => simp only [xorA]; cases x <;> cases y <;> simp
  | trans _ _ h1 h2 => exact h1.trans h2
theorem xorA_app : ∀ a b : List Bool, xorA (a ++ b) = (xorA a ^^ xorA b)
  | [], b => by simp [xorA]
  | x :: a, b => by
    rw [List.cons_append]
    simp only [xorA]
    rw [xorA_app a b, Bool.xor_assoc]
theorem xorA_xor {α : Type} (f g : α → Bool) : ∀ l : List α, xorA (l.map fun x => (f x ^^ g x)) = (xorA (l.map f) ^^ xorA (l.map g))
  | [] => rfl
  | x :: l => by
    simp only [List.map_cons, xorA]
    rw [xorA_xor f g l]
    cases f x <;> cases g x <;> simp
def pairN {α : Type} (g : α → α → Bool) : List α → Bool
  | [] => false
  | x :: r => (xorA (r.map (g x)) ^^ pairN g r)
theorem pairN_map {α β : Type} (f : α → β) (g : β → β → Bool) : ∀ l : List α, pairN g (l.map f) = pairN (fun x y => g (f x) (f y)) l
  | [] => rfl
  | x :: l => by
    rw [List.map_cons]
    simp only [pairN]
    rw [pairN_map f g l, List.map_map]
    rfl
theorem pairN_congr {α : Type} {g h : α → α → Bool} : ∀ {l : List α}, l.Pairwise (fun x y => g x y = h x y) → pairN g l = pairN h l
  | [], _ => rfl
  | x :: l, p => by
    rw [List.pairwise_cons] at p
    simp only [pairN]
    rw [pairN_congr p.2, List.map_congr_left p.1]
theorem pairN_xor {α : Type} (g h : α → α → Bool) : ∀ l : List α, pairN (fun x y => (g x y ^^ h x y)) l = (pairN g l ^^ pairN h l)
  | [] => rfl
  | x :: l => by
    simp only [pairN]
    rw [pairN_xor g h l, xorA_xor]
    cases xorA (l.map (g x)) <;> cases xorA (l.map (h x)) <;> cases pairN g l <;> cases pairN h l <;> rfl
theorem pairN_perm {α : Type} {g : α → α → Bool} {a b : List α} (p : a.Perm b) (sy : ∀ x ∈ a, ∀ y ∈ a, g x y = g y x) : pairN g a = pairN g b := by
  induction p with
  | nil => rfl
  | cons x p ih =>
    simp only [pairN]
    rw [ih fun u hu v hv => sy u (List.mem_cons_of_mem _ hu) v (List.mem_cons_of_mem _ hv), xorA_perm (p.map _)]
  | swap x y l =>
    have e := sy x (by simp) y (by simp)
    simp only [pairN, List.map_cons, xorA]
    rw [e]
    cases g y x <;> cases xorA (l.map (g x)) <;> cases xorA (l.map (g y)) <;> cases pairN g l <;> rfl
  | trans p1 p2 h1 h2 => exact (h1 sy).trans (h2 fun u hu v hv => sy u (p1.symm.subset hu) v (p1.symm.subset hv))
theorem odd_count {α : Type} (f : α → Bool) : ∀ l : List α, oddN (l.countP f) = xorA (l.map f)
  | [] => rfl
  | x :: l => by
    rw [List.countP_cons, List.map_cons, odd_add, odd_count f l]
    simp only [xorA]
    cases f x <;> simp [oddN]
theorem inv_cons (x : Int) (r : List Int) : invN (x :: r) = r.countP (fun y => decide (y < x)) + invN r := by
  have key : ∀ i, i ≤ r.length → invS (x :: r) (i + 1) = (r.take i).countP (fun y => decide (y < x)) + invS r i := by
    intro i
    induction i with
    | zero =>
      intro _
      rw [invS_succ]
      simp [invS, invA]
    | succ i ih =>
      intro hi
      rw [invS_succ, ih (by omega), invS_succ, List.take_add_one, getD_get (show i < r.length by omega), List.countP_append]
      have e : invA (x :: r) (i + 1) = (if r.getD i 0 < x then 1 else 0) + invA r i := by
        unfold invA
        rw [List.take_succ_cons, List.countP_cons, show (x :: r).getD (i + 1) 0 = r.getD i 0 from by simp]
        by_cases c : r.getD i 0 < x <;> simp only [c, decide_true, decide_false, if_true, if_false, Bool.false_eq_true] <;> omega
      rw [e]
      have e2 : List.countP (fun y => decide (y < x)) (some (r.getD i 0)).toList = if r.getD i 0 < x then 1 else 0 := by
        generalize r.getD i 0 = z
        by_cases c : z < x <;> simp [c]
      rw [e2]
      omega
  have := key r.length (Nat.le_refl _)
  rw [List.take_length] at this
  exact this
theorem sgI_pair : ∀ xs : List Int, sgI xs = pairN (fun x y => decide (y < x)) xs
  | [] => rfl
  | x :: r => by
    unfold sgI
    rw [inv_cons, odd_add, odd_count]
    simp only [pairN]
    rw [← sgI_pair r]
    rfl
theorem sgI_map {α : Type} (k : α → Int) (l : List α) : sgI (l.map k) = pairN (fun x y => decide (k y < k x)) l := by rw [sgI_pair, pairN_map]
/-- a row in an order, its values led on: both signs together -/
theorem sg_comp {α : Type} {L ts : List α} {k h : α → Int} (p : ts.Perm L) (asc : L.Pairwise fun x y => k x < k y) (hi : L.Pairwise fun x y => h x ≠ h y) : sgI (ts.map h) = (sgI (ts.map k) ^^ sgI (L.map h)) := by
  rw [sgI_map, sgI_map, sgI_map]
  have both : ∀ x ∈ L, ∀ y ∈ L, (x = y ∧ k x = k y) ∨ (k x ≠ k y ∧ h x ≠ h y) := by
    intro x hx y hy
    obtain ⟨i, hi', rfl⟩ := List.getElem_of_mem hx
    obtain ⟨j, hj', rfl⟩ := List.getElem_of_mem hy
    rcases Nat.lt_trichotomy i j with c | c | c
    · have a1 := List.pairwise_iff_getElem.mp asc i j hi' hj' c
      have a2 := List.pairwise_iff_getElem.mp hi i j hi' hj' c
      exact .inr ⟨by omega, a2⟩
    · subst c
      exact .inl ⟨rfl, rfl⟩
    · have a1 := List.pairwise_iff_getElem.mp asc j i hj' hi' c
      have a2 := List.pairwise_iff_getElem.mp hi j i hj' hi' c
      exact .inr ⟨by omega, fun z => a2 z.symm⟩
  let D : α → α → Bool := fun x y => (decide (k x < k y) ^^ decide (h x < h y))
  have sy : ∀ x ∈ ts, ∀ y ∈ ts, D x y = D y x := by
    intro x hx y hy
    show (decide (k x < k y) ^^ decide (h x < h y)) = (decide (k y < k x) ^^ decide (h y < h x))
    rcases both x (p.subset hx) y (p.subset hy) with ⟨rfl, _⟩ | ⟨n1, n2⟩
    · rfl
    · have e1 : decide (k y < k x) = !decide (k x < k y) := by rw [← decide_not, decide_eq_decide]; omega
      have e2 : decide (h y < h x) = !decide (h x < h y) := by rw [← decide_not, decide_eq_decide]; omega
      rw [e1, e2]
      cases decide (k x < k y) <;> cases decide (h x < h y) <;> rfl
  have eL : pairN D L = pairN (fun x y => decide (h y < h x)) L := by
    refine pairN_congr ?_
    refine List.Pairwise.imp_of_mem (fun {x y} hx hy hxy => ?_) (asc.and hi)
    show (decide (k x < k y) ^^ decide (h x < h y)) = decide (h y < h x)
    rw [decide_eq_true hxy.1]
    have e2 : decide (h y < h x) = !decide (h x < h y) := by rw [← decide_not, decide_eq_decide]; have := hxy.2; omega
    rw [e2]
    cases decide (h x < h y) <;> rfl
  have nd : ts.Pairwise fun x y => x ≠ y := p.symm.nodup (asc.imp fun a z => by rw [z] at a; omega)
  have eT : pairN (fun x y => decide (h y < h x)) ts = pairN (fun x y => (decide (k y < k x) ^^ D x y)) ts := by
    refine pairN_congr ?_
    refine List.Pairwise.imp_of_mem (fun {x y} hx hy hxy => ?_) nd
    show decide (h y < h x) = (decide (k y < k x) ^^ (decide (k x < k y) ^^ decide (h x < h y)))
    rcases both x (p.subset hx) y (p.subset hy) with ⟨z, _⟩ | ⟨n1, n2⟩
    · exact absurd z hxy
    · have e1 : decide (k y < k x) = !decide (k x < k y) := by rw [← decide_not, decide_eq_decide]; omega
      have e2 : decide (h y < h x) = !decide (h x < h y) := by rw [← decide_not, decide_eq_decide]; omega
      rw [e1, e2]
      cases decide (k x < k y) <;> cases decide (h x < h y) <;> rfl
  rw [eT, pairN_xor, pairN_perm p sy, eL]
/-- ascending: even -/
theorem sg_asc {xs : List Int} (h : xs.Pairwise (· < ·)) : sgI xs = false := by
  rw [sgI_pair]
  have : ∀ l : List Int, l.Pairwise (· < ·) → pairN (fun x y => decide (y < x)) l = false := by
    intro l
    induction l with
    | nil => intro _; rfl
    | cons x l ih =>
      intro p
      rw [List.pairwise_cons] at p
      simp only [pairN]
      rw [ih p.2]
      have e : ∀ r : List Int, (∀ y ∈ r, x < y) → xorA (r.map fun y => decide (y < x)) = false := by
        intro r
        induction r with
        | nil => intro _; rfl
        | cons y r ih2 =>
          intro q
          have h1 := q y List.mem_cons_self
          rw [List.map_cons]
          simp only [xorA]
          rw [ih2 fun z hz => q z (List.mem_cons_of_mem _ hz), decide_eq_false (by omega)]
          rfl
      rw [e l p.1]
      rfl
  exact this xs h
/-! ### the row of two tables, one behind the other -/
/-- the places without a key -/
def freeL (n : Nat) (l : List Nat) : List Nat := (List.range n).filter fun x => !decide (x ∈ l)
theorem free_asc (n : Nat) (l : List Nat) : (freeL n l).Pairwise (· < ·) := List.Pairwise.filter _ List.pairwise_lt_range
theorem mem_free {n : Nat} {l : List Nat} {x : Nat} : x ∈ freeL n l ↔ x < n ∧ x ∉ l := by
  unfold freeL
  rw [List.mem_filter, List.mem_range]
  simp
theorem EntF.rid_eq {n : Nat} {l : List Nat} {e : List Int} (h : EntF n l e) : ridE e = (freeL n l).map fun x => e.getD x 0 := by
  have e1 : e = (List.range n).map fun x => e.getD x 0 := by
    refine list_ext h.len (by rw [List.length_map, List.length_range]) fun x hx => ?_
    rw [List.getD_eq_getElem?_getD, List.getD_eq_getElem?_getD, List.getElem?_map, List.getElem?_range hx]
    show e[x]?.getD 0 = e.getD x 0
    rw [List.getD_eq_getElem?_getD]
  unfold ridE freeL
  conv => lhs; rw [e1]
  rw [List.filter_map]
  congr 1
  refine List.filter_congr fun x hx => ?_
  have hx := List.mem_range.mp hx
  show (!decide (e.getD x 0 = -1)) = _
  rw [decide_eq_decide.mpr (h.neg hx)]
theorem EntF.rid_perm {n : Nat} {l : List Nat} {e : List Int} (h : EntF n l e) : ((freeL n l).map fun x => (e.getD x 0).toNat).Perm (freeL n (goalE n e)) := by
  refine (List.perm_ext_iff_of_nodup ?_ ((free_asc _ _).imp fun z => Nat.ne_of_lt z)).mpr fun y => ?_
  · show List.Pairwise _ _
    rw [List.pairwise_map]
    refine List.Pairwise.imp_of_mem (fun {a b} ha hb hab z => ?_) ((free_asc n l).imp fun z => Nat.ne_of_lt z)
    obtain ⟨a1, a2⟩ := mem_free.mp ha
    obtain ⟨b1, b2⟩ := mem_free.mp hb
    have r1 := h.rid a a1 a2
    have r2 := h.rid b b1 b2
    exact hab (h.inj a b a1 b1 a2 b2 (by omega))
  · rw [mem_free, List.mem_map]
    constructor
    · rintro ⟨x, hx, rfl⟩
      obtain ⟨x1, x2⟩ := mem_free.mp hx
      exact h.off x1 x2
    · rintro ⟨y1, y2⟩
      obtain ⟨x, x1, x2, ex⟩ := h.from y1 y2
      exact ⟨x, mem_free.mpr ⟨x1, x2⟩, by omega⟩
theorem sg_cmp {n : Nat} {l : List Nat} {e u : List Int} (h : EntF n l e) (g : EntF n (goalE n e) u) : sgI (ridE (cmpE e u)) = (sgI (ridE e) ^^ sgI (ridE u)) := by
  rw [(h.cmp g).1.rid_eq, h.rid_eq, g.rid_eq]
  have e1 : ((freeL n l).map fun x => (cmpE e u).getD x 0) = ((freeL n l).map fun x => (e.getD x 0).toNat).map fun y => u.getD y 0 := by
    rw [List.map_map]
    refine List.map_congr_left fun x hx => ?_
    obtain ⟨x1, x2⟩ := mem_free.mp hx
    rw [cmp_at (by rw [h.len]; exact x1), if_neg (fun z => x2 ((h.neg x1).mp z))]
    rfl
  have e2 : ((freeL n l).map fun x => e.getD x 0) = ((freeL n l).map fun x => (e.getD x 0).toNat).map fun (y : Nat) => (y : Int) := by
    rw [List.map_map]
    refine List.map_congr_left fun x hx => ?_
    obtain ⟨x1, x2⟩ := mem_free.mp hx
    have r := h.rid x x1 x2
    show _ = (((e.getD x 0).toNat : Nat) : Int)
    omega
  rw [e1, e2]
  refine sg_comp (k := fun (y : Nat) => (y : Int)) h.rid_perm ((free_asc _ _).imp fun z => by omega) ?_
  refine List.Pairwise.imp_of_mem (fun {a b} ha hb hab z => ?_) ((free_asc n (goalE n e)).imp fun z => Nat.ne_of_lt z)
  obtain ⟨a1, a2⟩ := mem_free.mp ha
  obtain ⟨b1, b2⟩ := mem_free.mp hb
  exact hab (g.inj a b a1 b1 a2 b2 z)
theorem sgR_xor : ∀ es : List (List Int), sgR es = xorA (es.map fun e => sgI (ridE e))
  | [] => rfl
  | e :: es => by
    rw [List.map_cons]
    simp only [sgR, xorA]
    rw [sgR_xor es]
theorem goal_len {n : Nat} {l : List Nat} {e : List Int} (hl : Asc 0 n l) (h : EntF n l e) : (goalE n e).length = l.length := by
  have p := h.rid_perm.length_eq
  rw [List.length_map] at p
  have c : ∀ g : List Nat, Asc 0 n g → (freeL n g).length + g.length = n := fun g hg => by
    have e1 : (List.range n).filter (fun x => decide (x ∈ g)) = g := by
      refine asc_ext (n := n) ⟨List.Pairwise.filter _ List.pairwise_lt_range, fun x hx => ?_⟩ hg fun x => ?_
      · have := List.mem_range.mp (List.mem_filter.mp hx).1
        omega
      · rw [List.mem_filter, List.mem_range]
        simp only [decide_eq_true_eq]
        exact ⟨fun z => z.2, fun z => ⟨by have := (hg.2 x z).2; omega, z⟩⟩
    have e2 := List.length_eq_countP_add_countP (fun x => decide (x ∈ g)) (l := List.range n)
    rw [List.length_range, List.countP_eq_length_filter, e1, List.countP_eq_length_filter] at e2
    unfold freeL
    have e3 : (List.range n).filter (fun x => !decide (x ∈ g)) = (List.range n).filter (fun a => decide ¬decide (a ∈ g) = true) := List.filter_congr fun x _ => by simp
    rw [e3]
    omega
  have h1 := c l hl
  have h2 := c _ (goal_asc n e)
  omega
/-- the lots of a size are led to lots of that size -/
theorem lots_size : ∀ n : Nat, n < 7 → ∀ s : Nat, s < n + 1 → ∀ l ∈ allL n, l.length = s → l ∈ lotsL n s := by decide +kernel
theorem lots_nd : ∀ n : Nat, n < 7 → ∀ s : Nat, s < n + 1 → (lotsL n s).Pairwise fun a b => num n a < num n b := fun n hn s hs => by
  have h := nums_lots n hn s hs
  have p : ((lotsL n s).map (num n)).Pairwise (· < ·) := by
    rw [h, List.pairwise_map]
    exact List.pairwise_lt_range.imp fun z => by omega
  rwa [List.pairwise_map] at p
theorem TabOk.size_perm {n : Nat} (hn : n ≤ 6) {T : List (List Int)} (h : TabOk n T) {s : Nat} (hs : s ≤ n) : ((lotsL n s).map fun l => goalE n (en n T l)).Perm (lotsL n s) := by
  have nd0 : (lotsL n s).Pairwise (· ≠ ·) := (lots_nd n (by omega) s (by omega)).imp fun z e => by rw [e] at z; omega
  have mem : ∀ l ∈ lotsL n s, l ∈ allL n := own_all n (by omega) s (by omega)
  have nd : ((lotsL n s).map fun l => goalE n (en n T l)).Nodup := by
    show List.Pairwise _ _
    rw [List.pairwise_map]
    exact List.Pairwise.imp_of_mem (fun {a b} ha hb hab z => hab (h.gl_inj' hn (mem a ha) (mem b hb) z)) nd0
  refine (List.perm_ext_iff_of_nodup nd nd0).mpr fun g => ⟨fun hg => ?_, fun hg => ?_⟩
  · obtain ⟨l, hl, rfl⟩ := List.mem_map.mp hg
    refine lots_size n (by omega) s (by omega) _ (goal_all hn _) ?_
    rw [goal_len (all_ascL hn l (mem l hl)) (h.ent hn (mem l hl))]
    exact (lots_in n s l hl).1
  · have hm : g ∈ (allL n).map fun l => goalE n (en n T l) := (h.goalp hn).symm.subset (mem g hg)
    obtain ⟨l, hl, e⟩ := List.mem_map.mp hm
    refine List.mem_map.mpr ⟨l, lots_size n (by omega) s (by omega) l hl ?_, e⟩
    have := goal_len (all_ascL hn l hl) (h.ent hn hl)
    rw [e, (lots_in n s g hg).1] at this
    exact this.symm
theorem num_inj {n : Nat} (hn : n ≤ 6) {a b : List Nat} (ha : a ∈ allL n) (hb : b ∈ allL n) (e : num n a = num n b) : a = b := by
  have h1 := all_at hn ha
  rw [e, all_at hn hb] at h1
  exact (Option.some.inj h1).symm
/-- the row of two tables, one behind the other -/
theorem sgT_both {n : Nat} (hn : n ≤ 6) {T U : List (List Int)} (h : TabOk n T) (g : TabOk n U) : sgT n (bothT n T U) = addR (sgT n T) (sgT n U) := by
  unfold sgT addR
  rw [List.zipWith_map, List.zipWith_self]
  refine List.map_congr_left fun s hs => ?_
  have hs := List.mem_range.mp hs
  have mem : ∀ l ∈ lotsL n s, l ∈ allL n := own_all n (by omega) s (by omega)
  have P := h.size_perm hn (s := s) (by omega)
  have eg : ∀ l ∈ lotsL n s, en n (bothT n T U) l = cmpE (en n T l) (en n U (goalE n (en n T l))) := fun l hl => en_both hn h (mem l hl)
  have ent : ∀ l ∈ lotsL n s, EntF n l (en n T l) ∧ EntF n (goalE n (en n T l)) (en n U (goalE n (en n T l))) := fun l hl => ⟨h.ent hn (mem l hl), g.ent hn (goal_all hn _)⟩
  refine Prod.ext ?_ ?_
  · show sgI ((lotsL n s).map fun l => ((num n (goalE n (en n (bothT n T U) l)) : Nat) : Int)) = (_ ^^ _)
    have e1 : ((lotsL n s).map fun l => ((num n (goalE n (en n (bothT n T U) l)) : Nat) : Int)) = ((lotsL n s).map fun l => goalE n (en n T l)).map fun l => ((num n (goalE n (en n U l)) : Nat) : Int) := by
      rw [List.map_map]
      refine List.map_congr_left fun l hl => ?_
      rw [eg l hl, ((ent l hl).1.cmp (ent l hl).2).2]
      rfl
    have e2 : ((lotsL n s).map fun l => ((num n (goalE n (en n T l)) : Nat) : Int)) = ((lotsL n s).map fun l => goalE n (en n T l)).map fun l => ((num n l : Nat) : Int) := by rw [List.map_map]; rfl
    rw [e1, sg_comp (k := fun l => ((num n l : Nat) : Int)) P ((lots_nd n (by omega) s (by omega)).imp fun z => by omega) ?_, e2]
    have nd0 : (lotsL n s).Pairwise (· ≠ ·) := (lots_nd n (by omega) s (by omega)).imp fun z e => by rw [e] at z; omega
    refine List.Pairwise.imp_of_mem (fun {a b} ha hb hab z => hab ?_) nd0
    have e3 : num n (goalE n (en n U a)) = num n (goalE n (en n U b)) := by omega
    exact g.gl_inj' hn (mem a ha) (mem b hb) (num_inj hn (goal_all hn _) (goal_all hn _) e3)
  · show sgR ((lotsL n s).map (en n (bothT n T U))) = (_ ^^ _)
    rw [sgR_xor, sgR_xor, sgR_xor, List.map_map, List.map_map, List.map_map]
    have e1 : ((lotsL n s).map ((fun e => sgI (ridE e)) ∘ en n (bothT n T U))) = (lotsL n s).map fun l => (sgI (ridE (en n T l)) ^^ sgI (ridE (en n U (goalE n (en n T l))))) := by
      refine List.map_congr_left fun l hl => ?_
      show sgI (ridE (en n (bothT n T U) l)) = _
      rw [eg l hl]
      exact sg_cmp (ent l hl).1 (ent l hl).2
    rw [e1, xorA_xor]
    have e2 : ((lotsL n s).map fun l => sgI (ridE (en n U (goalE n (en n T l))))) = ((lotsL n s).map fun l => goalE n (en n T l)).map fun g => sgI (ridE (en n U g)) := by rw [List.map_map]; rfl
    rw [e2, xorA_perm (P.map _)]
    rfl
end Kr
namespace Kr
open PySem PySem.Spec PyProof.Rows L2
/-! ### the rows of deeds -/
def codeL (n : Nat) (l : List Nat) : Nat := l.foldl (fun c x => c + (2 ^ n - 2 ^ (n - 1 - x))) 0
def cinv : List Nat → Bool
  | [] => false
  | x :: r => ((r.countP fun y => Nat.blt y x) % 2 == 1) ^^ cinv r
def memB (x : Nat) : List Nat → Bool
  | [] => false
  | y :: r => Nat.beq x y || memB x r
def swB (a b x : Nat) : Nat := bif Nat.beq x b then a else bif Nat.beq x a then b else x
def gl (n : Nat) (q : List Nat) (a b : Nat) (l : List Nat) : List Nat := bif q.all (fun x => memB x l) then (List.range n).filter (fun y => memB (swB a b y) l) else l
def leadS (n : Nat) (q : List Nat) (a b : Nat) (s : Nat) : Bool := cinv ((lotsL n s).map fun l => codeL n (gl n q a b l))
def rdS (n : Nat) (q : List Nat) (a b : Nat) (s : Nat) : Bool := xorA ((lotsL n s).map fun l => bif q.all (fun x => memB x l) then cinv (((List.range n).filter fun x => !memB x l).map (swB a b)) else false)
def chkAB (n : Nat) : Bool := (allL n).all fun q => (List.range n).all fun b => (List.range b).all fun a => memB a q || memB b q || (List.range (n + 1)).all fun s => leadS n q a b s == chB ((n : Int) - 2 - q.length) (((s : Nat) : Int) - 1 - q.length) && rdS n q a b s == chB ((n : Int) - 2 - q.length) (((s : Nat) : Int) - q.length)
theorem chk_few : ∀ n : Nat, n < 6 → chkAB n = true := by decide +kernel
theorem chk_6 : chkAB 6 = true := by decide +kernel
theorem chk_all {n : Nat} (hn : n ≤ 6) : chkAB n = true := by
  rcases Nat.lt_or_ge n 6 with c | c
  · exact chk_few n c
  · have : n = 6 := by omega
    subst this
    exact chk_6
theorem memB_eq (x : Nat) : ∀ l : List Nat, memB x l = decide (x ∈ l)
  | [] => rfl
  | y :: l => by
    unfold memB
    rw [memB_eq x l, Bool.eq_iff_iff]
    simp
theorem beq_dec (x y : Nat) : Nat.beq x y = decide (x = y) := by rw [Bool.eq_iff_iff, Nat.beq_eq, decide_eq_true_iff]
theorem swB_eq (a b x : Nat) : swB a b x = sw a b x := by
  unfold swB sw
  rw [beq_dec, beq_dec]
  by_cases h1 : x = b
  · simp [h1]
  · by_cases h2 : x = a
    · simp [h1, h2]
    · simp [h1, h2]
theorem cinv_pair : ∀ l : List Nat, cinv l = pairN (fun x y => Nat.blt y x) l
  | [] => rfl
  | x :: l => by
    unfold cinv
    rw [cinv_pair l]
    simp only [pairN]
    rw [← odd_count]
    congr 1
theorem blt_eq (x y : Nat) : Nat.blt x y = decide ((x : Int) < y) := by
  rw [Bool.eq_iff_iff, Nat.blt_eq, decide_eq_true_iff]
  omega
theorem code_asc : ∀ n : Nat, n < 7 → ∀ s : Nat, s < n + 1 → (lotsL n s).Pairwise fun a b => codeL n a < codeL n b := by decide +kernel
/-- two ascending keys order alike -/
theorem keys_alike {α : Type} {L : List α} {k h : α → Nat} (a1 : L.Pairwise fun x y => k x < k y) (a2 : L.Pairwise fun x y => h x < h y) {x y : α} (hx : x ∈ L) (hy : y ∈ L) : (k x < k y ↔ h x < h y) := by
  obtain ⟨i, hi, rfl⟩ := List.getElem_of_mem hx
  obtain ⟨j, hj, rfl⟩ := List.getElem_of_mem hy
  rcases Nat.lt_trichotomy i j with c | c | c
  · exact ⟨fun _ => List.pairwise_iff_getElem.mp a2 i j hi hj c, fun _ => List.pairwise_iff_getElem.mp a1 i j hi hj c⟩
  · subst c
    exact ⟨fun z => absurd z (Nat.lt_irrefl _), fun z => absurd z (Nat.lt_irrefl _)⟩
  · have b1 := List.pairwise_iff_getElem.mp a1 j i hj hi c
    have b2 := List.pairwise_iff_getElem.mp a2 j i hj hi c
    omega
theorem sg_code {n : Nat} (hn : n ≤ 6) {s : Nat} (hs : s ≤ n) {ts : List (List Nat)} (h : ∀ l ∈ ts, l ∈ lotsL n s) : sgI (ts.map fun l => ((num n l : Nat) : Int)) = cinv (ts.map (codeL n)) := by
  rw [sgI_map, cinv_pair, pairN_map]
  refine pairN_congr ?_
  have all : ∀ x ∈ ts, ∀ y ∈ ts, decide (((num n y : Nat) : Int) < ((num n x : Nat) : Int)) = Nat.blt (codeL n y) (codeL n x) := fun x hx y hy => by
    rw [blt_eq, decide_eq_decide]
    have := keys_alike (lots_nd n (by omega) s (by omega)) (code_asc n (by omega) s (by omega)) (h y hy) (h x hx)
    omega
  exact List.pairwise_iff_forall_sublist.mpr fun {x y} hxy => all x (hxy.subset (by simp)) y (hxy.subset (by simp))
theorem deed_gl {n : Nat} {m : Mv} (d : Deed n m) {l : List Nat} (hl : Asc 0 n l) : goalE n (dE n m l) = gl n m.1 m.2.1 m.2.2 l := by
  have ea : (m.1.all fun x => memB x l) = isAll m.1 l := by
    unfold isAll
    congr 1
    funext x
    exact memB_eq x l
  unfold gl
  rw [ea]
  have W := d.way l
  cases hc : isAll m.1 l with
  | false =>
    refine asc_ext (goal_asc _ _) hl fun y => ?_
    show y ∈ goalE n (byE l _) ↔ _
    rw [W.goal]
    have e : dF m l y = y := by unfold dF; rw [hc]; rfl
    rw [e]
    exact ⟨fun z => z.2, fun z => ⟨by have := (hl.2 y z).2; omega, z⟩⟩
  | true =>
    show _ = (List.range n).filter _
    refine asc_ext (goal_asc _ _) ⟨List.Pairwise.filter _ List.pairwise_lt_range, fun x hx => ?_⟩ fun y => ?_
    · have := List.mem_range.mp (List.mem_filter.mp hx).1
      omega
    · show y ∈ goalE n (byE l _) ↔ _
      rw [W.goal, List.mem_filter, List.mem_range, memB_eq, swB_eq]
      have e : dF m l y = sw m.2.1 m.2.2 y := by unfold dF; rw [hc]; rfl
      rw [e]
      simp
theorem deed_rid {n : Nat} {m : Mv} (d : Deed n m) (l : List Nat) : sgI (ridE (dE n m l)) = (bif m.1.all (fun x => memB x l) then cinv (((List.range n).filter fun x => !memB x l).map (swB m.2.1 m.2.2)) else false) := by
  have ea : (m.1.all fun x => memB x l) = isAll m.1 l := by
    unfold isAll
    congr 1
    funext x
    exact memB_eq x l
  rw [ea, (d.ent l).rid_eq]
  have W := d.way l
  have at_ : ∀ x ∈ freeL n l, (dE n m l).getD x 0 = (dF m l x : Int) := fun x hx => by
    obtain ⟨x1, x2⟩ := mem_free.mp hx
    unfold dE
    rw [byE_at (by rw [W.len]; exact x1), if_neg x2, W.at_ x x1]
  rw [List.map_congr_left at_]
  cases hc : isAll m.1 l with
  | false =>
    have e : ((freeL n l).map fun x => (dF m l x : Int)) = (freeL n l).map fun (x : Nat) => (x : Int) := List.map_congr_left fun x _ => by unfold dF; rw [hc]; rfl
    rw [e]
    refine sg_asc ?_
    rw [List.pairwise_map]
    exact (free_asc n l).imp fun z => by omega
  | true =>
    show _ = cinv _
    have ef : ((List.range n).filter fun x => !memB x l) = freeL n l := List.filter_congr fun x _ => by rw [memB_eq]
    rw [ef, cinv_pair, pairN_map, sgI_map]
    have e : ∀ x, dF m l x = swB m.2.1 m.2.2 x := fun x => by unfold dF; rw [hc, swB_eq]; rfl
    refine congrArg (fun g => pairN g (freeL n l)) ?_
    funext x y
    rw [blt_eq, e, e]
/-- the row of a deed -/
theorem sgT_deed {n : Nat} (hn : n ≤ 6) {m : Mv} (d : Deed n m) : sgT n (deedT n m.1 m.2.1 m.2.2) = kindR n m.1.length := by
  have c := chk_all hn
  unfold chkAB at c
  rw [List.all_eq_true] at c
  have c1 := c m.1 (asc_all hn d.asc (all_ascL hn))
  rw [List.all_eq_true] at c1
  have c2 := c1 m.2.2 (List.mem_range.mpr d.bn)
  rw [List.all_eq_true] at c2
  have c3 := c2 m.2.1 (List.mem_range.mpr d.ab)
  rw [memB_eq, memB_eq, decide_eq_false d.na, decide_eq_false d.nb, Bool.false_or, Bool.false_or, List.all_eq_true] at c3
  unfold sgT kindR
  refine List.map_congr_left fun s hs => ?_
  have c4 := c3 s hs
  have hs := List.mem_range.mp hs
  have mem : ∀ l ∈ lotsL n s, l ∈ allL n := own_all n (by omega) s (by omega)
  rw [Bool.and_eq_true, beq_iff_eq, beq_iff_eq] at c4
  refine Prod.ext ?_ ?_
  · show sgI _ = chB _ _
    rw [← c4.1]
    have e1 : ((lotsL n s).map fun l => ((num n (goalE n (en n (deedT n m.1 m.2.1 m.2.2) l)) : Nat) : Int)) = ((lotsL n s).map fun l => goalE n (dE n m l)).map fun l => ((num n l : Nat) : Int) := by
      rw [List.map_map]
      refine List.map_congr_left fun l hl => ?_
      rw [deed_map, en_map hn (mem l hl)]
      rfl
    rw [e1, sg_code (s := s) hn (by omega) fun g hg => ?_]
    · unfold leadS
      rw [List.map_map]
      congr 1
      refine List.map_congr_left fun l hl => ?_
      show codeL n (goalE n (dE n m l)) = _
      rw [deed_gl d (all_ascL hn l (mem l hl))]
    · obtain ⟨l, hl, rfl⟩ := List.mem_map.mp hg
      refine lots_size n (by omega) s (by omega) _ (goal_all hn _) ?_
      rw [goal_len (all_ascL hn l (mem l hl)) (d.ent l)]
      exact (lots_in n s l hl).1
  · show sgR _ = chB _ _
    rw [← c4.2, sgR_xor, List.map_map]
    unfold rdS
    congr 1
    refine List.map_congr_left fun l hl => ?_
    show sgI (ridE (en n (deedT n m.1 m.2.1 m.2.2) l)) = _
    rw [deed_map, en_map hn (mem l hl)]
    exact deed_rid d l
theorem sgT_len (n : Nat) (T : List (List Int)) : (sgT n T).length = n + 1 := by unfold sgT; rw [List.length_map, List.length_range]
theorem addR_twice : ∀ a : Row, addR a a = List.replicate a.length (false, false)
  | [] => rfl
  | p :: a => by
    have ih := addR_twice a
    unfold addR at ih ⊢
    rw [List.zipWith_cons_cons, ih, List.length_cons, List.replicate_succ]
    simp
theorem addR_comm (a b : Row) : addR a b = addR b a := by
  unfold addR
  rw [List.zipWith_comm]
  congr 1
  funext p q
  rw [Bool.xor_comm, Bool.xor_comm p.2]
theorem addR_assoc : ∀ a b c : Row, addR (addR a b) c = addR a (addR b c)
  | [], _, _ => by simp [addR]
  | _ :: _, [], _ => by simp [addR]
  | _ :: _, _ :: _, [] => by simp [addR]
  | p :: a, q :: b, r :: c => by
    have ih := addR_assoc a b c
    unfold addR at ih ⊢
    simp only [List.zipWith_cons_cons]
    rw [ih, Bool.xor_assoc, Bool.xor_assoc]
theorem sgT_still {n : Nat} (hn : n ≤ 6) : sgT n (stillT n) = zeroR n := by
  have h := sgT_both hn (still_ok hn) (still_ok hn)
  rw [both_still hn (still_ok hn), addR_twice, sgT_len] at h
  exact h
end Kr
namespace Kr
open PySem PySem.Spec PyProof.Rows L2
/-! ### x > y of numbers, or of tuples of numbers -/
def gtL : List Int → List Int → Bool
  | [], _ => false
  | _ :: _, [] => true
  | x :: xs, y :: ys => if x = y then gtL xs ys else decide (y < x)
theorem lex_gt : ∀ (ns ms : List Int) (u v : List Int), u.length = v.length →
    Ob.lexAt (fun j => decide ((u ++ ns).getD j 0 = (v ++ ms).getD j 0)) (fun j => decide ((v ++ ms).getD j 0 < (u ++ ns).getD j 0)) (decide (ns.length > ms.length)) u.length (min ns.length ms.length) = gtL ns ms
  | [], ms, u, v, h => by
    cases ms <;> simp [Ob.lexAt_zero, gtL]
  | n :: ns, [], u, v, h => by simp [Ob.lexAt_zero, gtL]
  | n :: ns, m :: ms, u, v, h => by
    have ih := lex_gt ns ms (u ++ [n]) (v ++ [m]) (by rw [List.length_append, List.length_append, h]; rfl)
    have e1 : (u ++ n :: ns).getD u.length 0 = n := by simp [List.getD_eq_getElem?_getD]
    have e2 : (v ++ m :: ms).getD u.length 0 = m := by rw [h]; simp [List.getD_eq_getElem?_getD]
    rw [List.length_cons, List.length_cons, Nat.succ_min_succ, Ob.lexAt_succ, e1, e2]
    rw [List.append_assoc, List.append_assoc, List.length_append] at ih
    simp only [List.singleton_append, List.length_cons, List.length_nil, Nat.zero_add] at ih
    unfold gtL
    by_cases c : n = m
    · rw [decide_eq_true c, if_pos rfl, if_pos c, ← ih]
      congr 1
      rw [decide_eq_decide]
      omega
    · rw [decide_eq_false c, if_neg (by simp), if_neg c]
/-- what the laws' counts of pairs compare -/
def rGtS (K : PySem.W.Frag) : R2 := fun x y H Q => (∃ i j, x = .int i ∧ y = .int j ∧ Q (.bl (decide (j < i))) H) ∨
  ∃ (a b : Addr) (ns ms : List Int), x = .ref a ∧ y = .ref b ∧ SqT K H a (ns.map V.int) ∧ SqT K H b (ms.map V.int) ∧ Q (.bl (gtL ns ms)) H
theorem op_gtS {X : Cx} (hu : X.A.units < cLine) : OpR X (compareOp .Gt) (rGtS X.K) := by
  intro ps sh st H x y v u Q Iv rx ry h
  rcases h with ⟨i, j, rfl, rfl, q⟩ | ⟨a, b, ns, ms, rfl, rfl, ha, hb, q⟩
  · exact op_gt ps sh st H (.int i) (.int j) v u Q Iv rx ry ⟨i, j, rfl, rfl, q⟩
  · cases rx
    cases ry
    obtain ⟨xs, r1, p1, _⟩ := Iv.tuple ha
    obtain ⟨ys, r2, p2, _⟩ := Iv.tuple hb
    have i1 : IntsAre xs ns := Vals.ints r1
    have i2 : IntsAre ys ms := Vals.ints r2
    have z1 : xs.toArray.size = ns.length := by rw [List.size_toArray]; exact i1.length
    have z2 : ys.toArray.size = ms.length := by rw [List.size_toArray]; exact i2.length
    have k1 : ∀ j (h1 : j < xs.toArray.size), ∃ t, xs.toArray[j] = .int (ns.getD j 0) t := fun j h1 => PyProof.Rows.IntsAre.int_at i1 _ _ (by simp at h1; simp [h1])
    have k2 : ∀ j (h1 : j < ys.toArray.size), ∃ t, ys.toArray[j] = .int (ms.getD j 0) t := fun j h1 => PyProof.Rows.IntsAre.int_at i2 _ _ (by simp at h1; simp [h1])
    have R := Ob.RcOp.tuples_gt (A := X.A) (s := sh) (e := fun j => decide (ns.getD j 0 = ms.getD j 0)) (r := fun j => decide (ms.getD j 0 < ns.getD j 0)) p1 p2 hu (fun j h1 h2 => by
      obtain ⟨t, e1⟩ := k1 j h1
      obtain ⟨t', e2⟩ := k2 j h2
      rw [e1, e2]
      have hz : (ns.getD j 0 == ms.getD j 0) = decide (ns.getD j 0 = ms.getD j 0) := by rw [Bool.eq_iff_iff, beq_iff_eq, decide_eq_true_iff]
      rw [← hz]
      exact SeqAt.EqAt.int_int _ _ _ _) (fun j h1 h2 _ => by
      obtain ⟨t, e1⟩ := k1 j h1
      obtain ⟨t', e2⟩ := k2 j h2
      rw [e1, e2]
      exact Ob.RcOp.gt_int _ _ _ _)
    rw [z1, z2] at R
    have el := lex_gt ns ms [] [] rfl
    simp only [List.nil_append, List.length_nil] at el
    rw [el] at R
    exact R X.prog X.w X.xe (EP X ps st Q) ⟨.bl _, H, Iv, rfl, q⟩
end Kr
namespace Kr
open PySem PySem.Spec PyProof.Rows L2
/-- what x > y tells -/
def GtAt (H : Hp) (x y : V) (b : Bool) : Prop := (∃ i j : Int, x = .int i ∧ y = .int j ∧ decide (j < i) = b) ∨ ∃ (a c : Addr) (ns ms : List Int), x = .ref a ∧ y = .ref c ∧ H a = some (.tup (ns.map V.int)) ∧ H c = some (.tup (ms.map V.int)) ∧ gtL ns ms = b
theorem GtAt.up {H H' : Hp} {x y : V} {b : Bool} (s : Same H H') (h : GtAt H x y b) : GtAt H' x y b := by
  rcases h with h | ⟨a, c, ns, ms, h1, h2, h3, h4, h5⟩
  · exact .inl h
  · exact .inr ⟨a, c, ns, ms, h1, h2, s _ _ h3, s _ _ h4, h5⟩
def spOdd : Sp := fun vs H Q _ => ∃ (a : Addr) (xs : List V) (ks : List Int), vs = [.ref a] ∧ H a = some (.lst xs) ∧ xs.length = ks.length ∧ ks.length ≤ 100 ∧ (∀ i j x y, xs[i]? = some x → xs[j]? = some y → GtAt H x y (decide (ks.getD j 0 < ks.getD i 0))) ∧ ∀ H', Same H H' → Q (.int (bi (sgI ks))) H'
theorem gt_ints {H : Hp} {ks : List Int} : ∀ i j x y, (ks.map V.int)[i]? = some x → (ks.map V.int)[j]? = some y → GtAt H x y (decide (ks.getD j 0 < ks.getD i 0)) := fun i j x y h1 h2 => by
  rw [List.getElem?_map] at h1 h2
  cases e1 : ks[i]? with
  | none => rw [e1] at h1; cases h1
  | some u =>
    cases e2 : ks[j]? with
    | none => rw [e2] at h2; cases h2
    | some v =>
      rw [e1] at h1
      rw [e2] at h2
      cases h1
      cases h2
      rw [getD_of e1, getD_of e2]
      exact .inl ⟨u, v, rfl, rfl, rfl⟩
def castL (l : List Nat) : List Int := l.map fun (x : Nat) => (x : Int)
theorem lv_cast (l : List Nat) : lv l = (castL l).map V.int := by
  unfold lv castL
  rw [List.map_map]
  rfl
theorem gt_code : ∀ n : Nat, n < 7 → ∀ s : Nat, s < n + 1 → ∀ a ∈ lotsL n s, ∀ b ∈ lotsL n s, gtL (castL a) (castL b) = decide (codeL n b < codeL n a) := by decide +kernel
theorem gt_lots {n s : Nat} (hn : n ≤ 6) (hs : s ≤ n) {H : Hp} {xs : List V} {L : List (List Nat)} (q : DqA H xs (L.map lotD)) (hL : ∀ l ∈ L, l ∈ lotsL n s) : ∀ i j x y, xs[i]? = some x → xs[j]? = some y →
    GtAt H x y (decide ((L.map fun l => ((num n l : Nat) : Int)).getD j 0 < (L.map fun l => ((num n l : Nat) : Int)).getD i 0)) := fun i j x y h1 h2 => by
  obtain ⟨a, ha, pa, rfl, hpa⟩ := lots_get q h1
  obtain ⟨b, hb, pb, rfl, hpb⟩ := lots_get q h2
  have g1 : (L.map fun l => ((num n l : Nat) : Int)).getD i 0 = ((num n a : Nat) : Int) := getD_of (by rw [List.getElem?_map, ha]; rfl)
  have g2 : (L.map fun l => ((num n l : Nat) : Int)).getD j 0 = ((num n b : Nat) : Int) := getD_of (by rw [List.getElem?_map, hb]; rfl)
  rw [g1, g2]
  refine .inr ⟨pa, pb, castL a, castL b, rfl, rfl, by rw [hpa, lv_cast], by rw [hpb, lv_cast], ?_⟩
  have ma := hL a (List.mem_of_getElem? ha)
  have mb := hL b (List.mem_of_getElem? hb)
  rw [gt_code n (by omega) s (by omega) a ma b mb, decide_eq_decide]
  have := keys_alike (lots_nd n (by omega) s (by omega)) (code_asc n (by omega) s (by omega)) mb ma
  omega
theorem own_cut : ∀ n : Nat, n < 7 → ∀ s : Nat, s < n + 1 → ((allL n).drop (below n s)).take (ch n s) = lotsL n s := by decide +kernel
theorem TabOk.cut {n : Nat} (hn : n ≤ 6) {T : List (List Int)} (h : TabOk n T) {s : Nat} (hs : s ≤ n) : (T.drop (below n s)).take (ch n s) = (lotsL n s).map (en n T) := by
  conv => lhs; rw [h.map hn]
  rw [← List.map_drop, ← List.map_take, own_cut n (by omega) s (by omega)]
theorem DqA.cut {H : Hp} {xs : List V} {ds : List PyData} (q : DqA H xs ds) (i k : Nat) : DqA H ((xs.drop i).take k) ((ds.drop i).take k) := DqA.take k (DqA.drop i q)
theorem EntF.rid_pos {n : Nat} {l : List Nat} {e : List Int} (h : EntF n l e) : e.filter (fun x => decide (0 ≤ x)) = ridE e := by
  unfold ridE
  refine List.filter_congr fun x hx => ?_
  rcases h.le x hx with c | c
  · subst c
    rfl
  · have h1 : ¬ x = -1 := by omega
    simp [c.1, h1]
end Kr
namespace Kr
open PySem PySem.Spec PyProof.Rows L2
section
variable {P : Program} {w : World} {K : PySem.W.Frag} {mg : Str → Option Value} {base : Heap}
abbrev nOd : List Str := ["items", "many", "at", "item", "other"]
theorem scOd : FnScope nOd ["items"] (defScope sLOdd) := ⟨rfl, rfl, rfl, by decide +kernel, rfl, by decide +kernel, by decide +kernel⟩
theorem o_lOdd (D0 : Df K mg "_law_odd" sLOdd ["items"]) (B : Bi mg) : Ok P w K mg base 1 "_law_odd" ["items"] spOdd := by
  refine D0.ok fun f fd F => F.ok scOd (fun vs H Q E h => ?_) (fun cdv A outer s H vs Q E hr h => ?_)
  · obtain ⟨a, xs, ks, rfl, _⟩ := h
    rfl
  · obtain ⟨a, xs, ks, rfl, ha, hl, hk, hgt, q⟩ := h
    have hu : (cxOf CX0 P w K mg base nOd "_law_odd" (defScope sLOdd) f cdv A outer s H E).A.units < cLine := Nat.lt_of_le_of_lt (Nat.le_add_right _ 64) hr.units
    refine ⟨_, pss_cons (ps_set (i := 1) scOd.nd rfl (.inl rfl) pe_int)
      (pss_cons (ps_for PassesOwn.never rfl (pi_enum (by rfl) B.enumerate (pa_cons (pv 0) pa_nil)) (pg_tup rfl (pgs_cons (pg_name (i := 2) scOd.nd rfl (.inl rfl)) (pgs_cons (pg_name (i := 3) scOd.nd rfl (.inr rfl)) pgs_nil)))
        (pss_one (ps_set (i := 1) scOd.nd rfl (.inl rfl) (pe_op op_add (pv 1) (pe_callB call_len_seq (by rfl) B.len boot_len (pa_cons
          (pe_lc (own := [("other", 4)]) (g := gName 4) rfl scOd.nd (pi_list (pe_slice sl_list (pv 0) po_none (po_some (pv 2)))) (blkOk_by (own := [("other", 4)]) (N := nOd) (sc := defScope sLOdd) (by decide +kernel))
            (fun _ _ _ _ _ => pg_name (i := 4) scOd.nd rfl (.inl rfl)) (fun _ _ _ _ _ => pts_one (pt_cmpR (r := rGtS K) (op_gtS hu) (pv 4) (pv 3) (nomark _))) (fun _ _ _ _ _ => pe_int)) pa_nil))))))
      (pss_one (ps_ret (pe_op op_mod (pe_callTy call_int1 (by rfl) B.int (by decide +kernel) (pa_cons (pv 1) pa_nil)) pe_int)))), ?_⟩
    refine ⟨.ref a, rfl, a, _, rfl, SqL.of ha, for_it walk_enum (fun i σ G => ∃ v2 v3 : Option V, σ = [some (.ref a), some (.int (invS ks i : Nat)), v2, v3, none] ∧ Same H G) ⟨_, _, rfl, Same.refl _⟩ (fun i σ G _ ⟨_, _, _, sm⟩ => SqL.of (sm _ _ ha)) ?_ ?_⟩
    · rintro i _ σ G _ hi ⟨v2, v3, rfl, sm⟩ ⟨T, x, y, rfl, nT, rfl, e1, e2⟩
      cases Option.some.inj e1
      have e2 : xs[i]? = some y := e2
      have sT := same_new (o := .tup [.int (i : Nat), y]) nT
      refine ⟨T, [.int (i : Nat), y], rfl, SqT.of upd_same, rfl, .int (i : Nat), [y], rfl, y, [], rfl, rfl, ?_⟩
      have smT := sm.trans sT
      generalize upd G T (.tup [.int (i : Nat), y]) = G1 at smT
      refine ⟨.int (invS ks i : Nat), rfl, .ref a, rfl, .int (i : Nat), rfl, (i : Nat), rfl, a, _, rfl, SqL.of (smT _ _ ha), fun p np => ?_⟩
      rw [cut_to (by omega)]
      have sp := same_new (o := .lst (xs.take i)) np
      have hp : upd G1 p (.lst (xs.take i)) p = some (.lst (xs.take i)) := upd_same
      have smp := smT.trans sp
      generalize upd G1 p (.lst (xs.take i)) = G2 at hp smp
      refine ⟨p, rfl, ⟨_, SqL.of hp⟩, fun D nD => ?_⟩
      refine lc_it (walk_list (K := K) (a := p) (xs := xs.take i)) (fun j G3 => ∃ zs : List V, G3 D = some (.lst zs) ∧ zs.length = ((ks.take i).take j).countP (fun b => decide (ks.getD i 0 < b)) ∧ Same G2 G3) ⟨[], upd_same, rfl, same_new nD⟩ (fun j G3 _ ⟨_, _, _, s3⟩ => SqL.of (s3 _ _ hp)) ?_ ?_
      · rintro j x _ G3 hj ⟨zs, hD3, hz, s3⟩ ⟨rfl, hx⟩
        rw [List.length_take] at hj
        have hji : j < i := by omega
        rw [List.getElem?_take_of_lt hji] at hx
        have hg := (hgt j i x y hx e2).up (smp.trans s3)
        have hjk : j < (ks.take i).length := by rw [List.length_take]; omega
        have ej : (ks.take i).getD j 0 = ks.getD j 0 := by
          rw [List.getD_eq_getElem?_getD, List.getElem?_take_of_lt hji, ← List.getD_eq_getElem?_getD]
        have er : ((ks.take i).take (j + 1)).countP (fun b => decide (ks.getD i 0 < b)) = ((ks.take i).take j).countP (fun b => decide (ks.getD i 0 < b)) + (if ks.getD i 0 < ks.getD j 0 then 1 else 0) := by
          rw [List.take_add_one, getD_get hjk, List.countP_append, ej]
          generalize ks.getD j 0 = z
          by_cases c : ks.getD i 0 < z <;> simp [c]
        have few : ((ks.take i).take j).countP (fun b => decide (ks.getD i 0 < b)) ≤ 100 := by
          have h2 : ((ks.take i).take j).countP (fun b => decide (ks.getD i 0 < b)) ≤ ((ks.take i).take j).length := List.countP_le_length
          rw [List.length_take, List.length_take] at h2
          omega
        refine ⟨rfl, x, rfl, y, rfl, ?_⟩
        have fin : ∀ (σ' : L2.St) (b : Bool), b = decide (ks.getD i 0 < ks.getD j 0) → ∃ k, V.bl b = .bl k ∧ if k = true then tC (V.int 1) σ' G3 (fun y H4 => ∃ acc, H4 D = some (.lst acc) ∧ acc.length < sizeLine ∧ ∃ zs : List V, (upd H4 D (.lst (acc ++ [y]))) D = some (.lst zs) ∧ zs.length = ((ks.take i).take (j + 1)).countP (fun b => decide (ks.getD i 0 < b)) ∧ Same G2 (upd H4 D (.lst (acc ++ [y])))) else ∃ zs : List V, G3 D = some (.lst zs) ∧ zs.length = ((ks.take i).take (j + 1)).countP (fun b => decide (ks.getD i 0 < b)) ∧ Same G2 G3 := fun σ' b hb => by
          refine ⟨b, rfl, ?_⟩
          subst hb
          rw [er]
          by_cases c : ks.getD i 0 < ks.getD j 0
          · rw [decide_eq_true c, if_pos c]
            refine iteT ⟨zs, hD3, szm (by omega), zs ++ [.int 1], upd_same, by rw [List.length_append, hz]; rfl, fun b o hb => ?_⟩
            rw [upd_ne (ne_of_none hb nD)]
            exact s3 _ _ hb
          · rw [decide_eq_false c, if_neg c, Nat.add_zero]
            exact iteF ⟨zs, hD3, hz, s3⟩
        rcases hg with ⟨u, v, rfl, rfl, hb⟩ | ⟨pa, pc, ns, ms, rfl, rfl, h3, h4, hb⟩
        · exact .inl ⟨u, v, rfl, rfl, fin _ _ hb⟩
        · exact .inr ⟨pa, pc, ns, ms, rfl, rfl, SqT.of h3, SqT.of h4, fin _ _ hb⟩
      · rintro G3 ⟨zs, hD3, hz, s3⟩
        have hlt : (xs.take i).length = i := by rw [List.length_take]; omega
        rw [hlt, List.take_take, Nat.min_self] at hz
        refine ⟨D, zs, rfl, .inl (SqL.of hD3), _, _, rfl, rfl, some (.int (i : Nat)), some y, ?_, smp.trans s3⟩
        have e : ((invS ks i : Nat) : Int) + ((zs.length : Nat) : Int) = ((invS ks (i + 1) : Nat) : Int) := by
          rw [invS_succ, hz]
          unfold invA
          omega
        dsimp only [List.set]
        rw [e]
    · rintro σ G ⟨v2, v3, rfl, sm⟩
      rw [hl]
      refine ⟨.int (invN ks : Nat), rfl, .inl ⟨_, rfl, _, _, rfl, rfl, (by show (0 : Int) < 2; decide), ?_⟩⟩
      dsimp only
      rw [odd_mod]
      exact q G sm
abbrev nEn : List Str := ["entry", "place"]
def spEnd : Sp := fun vs H Q _ => ∃ (a : Addr) (e : List Int), vs = [.ref a] ∧ H a = some (.tup (e.map V.int)) ∧ e.length ≤ 100 ∧ ∀ H' t, Same H H' → H' t = some (.tup (lv (goalE e.length e))) → Q (.ref t) H'
theorem o_lEnd (D0 : Df K mg "_law_end" sLEnd ["entry"]) (B : Bi mg) : Ok P w K mg base 1 "_law_end" ["entry"] spEnd := by
  have scEn : FnScope nEn ["entry"] (defScope sLEnd) := ⟨rfl, rfl, rfl, by decide +kernel, rfl, by decide +kernel, by decide +kernel⟩
  refine D0.ok fun f fd F => F.ok scEn (fun vs H Q E h => ?_) (fun cdv A outer s H vs Q E hr h => ?_)
  · obtain ⟨a, e, rfl, _⟩ := h
    rfl
  · obtain ⟨a, e, rfl, ha, hl, q⟩ := h
    refine ⟨_, pss_one (ps_ret (pe_callTy call_tuple_of (by rfl) B.tuple (by decide +kernel) (pa_cons
      (pe_lc (own := [("place", 1)]) (g := gName 1) rfl scEn.nd (pi_range1 (by rfl) B.range (pa_cons (pe_callB call_len_seq (by rfl) B.len boot_len (pa_cons (pv 0) pa_nil)) pa_nil)) (blkOk_by (own := [("place", 1)]) (N := nEn) (sc := defScope sLEnd) (by decide +kernel))
        (fun _ _ _ _ _ => pg_name (i := 1) scEn.nd rfl (.inl rfl)) (fun _ _ _ _ _ => pts_one (pt_cmpR (r := rIn K true) op_notIn_seq (pv 1) (pv 0) rfl))
        (fun _ _ _ _ _ => pv 1)) pa_nil))), ?_⟩
    refine ⟨.ref a, rfl, a, _, rfl, .inr (SqT.of ha), ?_⟩
    rw [List.length_map]
    generalize hn : e.length = n at q hl
    refine ⟨(n : Int), rfl, by omega, by omega, fun D nD => ?_⟩
    rw [Int.toNat_natCast]
    refine lc_it (walk_rg (n := n)) (fun i G => G D = some (.lst (lv ((List.range i).filter fun (x : Nat) => !decide ((x : Int) ∈ e)))) ∧ Same H G) ⟨upd_same, same_new nD⟩ (fun _ _ _ _ => trivial) ?_ ?_
    · rintro i x _ G hi ⟨hD, s1⟩ ⟨rfl, rfl⟩
      refine ⟨rfl, .int i, rfl, .ref a, rfl, a, _, rfl, .inr (SqT.of (s1 _ _ ha)), rfl, int_fl e, _, rfl, ?_⟩
      have er : (List.range (i + 1)).filter (fun (x : Nat) => !decide ((x : Int) ∈ e)) = (List.range i).filter (fun (x : Nat) => !decide ((x : Int) ∈ e)) ++ (if (i : Int) ∈ e then [] else [i]) := by
        rw [List.range_succ, List.filter_append]
        by_cases hm : (i : Int) ∈ e
        · rw [if_pos hm]
          simp [hm]
        · rw [if_neg hm]
          simp [hm]
      rw [inV_int, er]
      by_cases hm : (i : Int) ∈ e
      · rw [decide_eq_true hm, if_pos hm, List.append_nil]
        exact iteF ⟨hD, s1⟩
      · rw [decide_eq_false hm, if_neg hm]
        refine iteT ⟨_, rfl, _, hD, szm ?_, ?_, fun b o hb => ?_⟩
        · rw [lv_len]
          have := List.length_filter_le (fun (x : Nat) => !decide ((x : Int) ∈ e)) (List.range i)
          rw [List.length_range] at this
          omega
        · rw [upd_same]
          simp [lv]
        · rw [upd_ne (ne_of_none hb nD)]
          exact s1 _ _ hb
    · rintro G ⟨hD, s1⟩
      exact ⟨D, _, rfl, .inl ⟨SqL.of hD, fun t nt => q _ t (s1.trans (same_new nt)) upd_same⟩⟩
end
end Kr
namespace Kr
open PySem PySem.Spec PyProof.Rows L2
def lotsD (n s : Nat) : PyData := .list ((lotsL n s).map lotD)
def spLLots : Sp := fun vs H Q _ => ∃ n : Nat, vs = [.int (n : Int)] ∧ n ≤ 6 ∧ ∀ H' v, Same H H' → Dq H' v (.list ((List.range (n + 1)).map (lotsD n))) → Q v H'
section
variable {P : Program} {w : World} {K : PySem.W.Frag} {mg : Str → Option Value} {base : Heap}
abbrev nLl : List Str := ["n", "found", "size", "fresh", "row", "place"]
theorem o_lLots (D0 : Df K mg "_law_lots" sLLots ["n"]) (B : Bi mg) : Ok P w K mg base 1 "_law_lots" ["n"] spLLots := by
  have scLl : FnScope nLl ["n"] (defScope sLLots) := ⟨rfl, rfl, rfl, by decide +kernel, rfl, by decide +kernel, by decide +kernel⟩
  refine D0.ok fun f fd F => F.ok scLl (fun vs H Q E h => ?_) (fun cdv A outer s H vs Q E hr h => ?_)
  · obtain ⟨n, rfl, _⟩ := h
    rfl
  · obtain ⟨n, rfl, hn, q⟩ := h
    have hu : (cxOf CX0 P w K mg base nLl "_law_lots" (defScope sLLots) f cdv A outer s H E).A.units + 64 < cLine := hr.units
    refine ⟨_, pss_cons (ps_set (i := 1) scLl.nd rfl (.inl rfl) (pe_lst (pa_cons (pe_lst (pa_cons (pe_tup pa_nil) pa_nil)) pa_nil)))
      (pss_cons (ps_for PassesOwn.never rfl (pi_range2 (by rfl) B.range (pa_cons pe_int (pa_cons (pe_op op_add (pv 0) pe_int) pa_nil))) (pg_name (i := 2) scLl.nd rfl (.inl rfl))
        (pss_cons (ps_set (i := 3) scLl.nd rfl (.inl rfl) (pe_lst pa_nil))
        (pss_cons (ps_for PassesOwn.never rfl (pi_list (pe_ix ix_list (pv 1) (pe_un un_neg pe_int) (fun _ _ => rfl))) (pg_name (i := 4) scLl.nd rfl (.inr rfl))
          (pss_one (ps_set (i := 3) scLl.nd rfl (.inl rfl) (pe_op op_cat (pv 3)
            (pe_lc (own := [("place", 5)]) (g := gName 5) (tt := tYes) rfl scLl.nd (pi_range2 (by rfl) B.range (pa_cons (pe_ifExp (pt_cmpR (op_neD hu) (pv 4) (pe_tup pa_nil) (nomark _)) (pe_op op_add (pe_ix (r := rIxT K) ix_tup (pv 4) (pe_un un_neg pe_int) (fun _ _ => rfl)) pe_int) pe_int) (pa_cons (pv 0) pa_nil))) (blkOk_by (own := [("place", 5)]) (N := nLl) (sc := defScope sLLots) (by decide +kernel))
              (fun _ _ _ _ _ => pg_name (i := 5) scLl.nd rfl (.inl rfl)) (fun _ _ _ _ _ => pts_nil)
              (fun _ _ _ _ _ => pe_op (r := rCatA K) op_catA (pv 4) (pe_tup (pa_cons (pv 5) pa_nil))))))))
        (pss_one (ps_expr (pe_bm PySem.F.plainAttrs_list PySem.F.slot_list_append PySem.F.type_list_append mt_append (pv 1) (pa_cons (pv 3) pa_nil)))))))
      (pss_one (ps_ret (pv 1)))), ?_⟩
    refine ⟨by show 0 ≤ sizeLine; decide, fun t0 nt0 => ⟨by show 1 ≤ sizeLine; decide, fun l0 nl0 => ⟨by show 1 ≤ sizeLine; decide, fun fo nfo => ?_⟩⟩⟩
    have s1 := same_new (o := .tup []) nt0
    have s2 := same_new (o := .lst [.ref t0]) nl0
    have s3 := same_new (o := .lst [.ref l0]) nfo
    have hl0 : upd (upd (upd H t0 (.tup [])) l0 (.lst [.ref t0])) fo (.lst [.ref l0]) l0 = some (.lst [.ref t0]) := s3 _ _ upd_same
    have hq0 : DqA (upd (upd (upd H t0 (.tup [])) l0 (.lst [.ref t0])) fo (.lst [.ref l0])) [.ref t0] ((lotsL n 0).map lotD) := .cons (lot_at (l := []) (s3 _ _ (s2 _ _ upd_same))) .nil
    have hfo : upd (upd (upd H t0 (.tup [])) l0 (.lst [.ref t0])) fo (.lst [.ref l0]) fo = some (.lst [.ref l0]) := upd_same
    have n0 : l0 ≠ fo := ne_of_none upd_same nfo
    have s13 := s1.trans (s2.trans s3)
    have nf : ∀ b o, H b = some o → b ≠ fo := fun b o hb => ne_of_none (s2 _ _ (s1 _ _ hb)) nfo
    generalize upd (upd (upd H t0 (.tup [])) l0 (.lst [.ref t0])) fo (.lst [.ref l0]) = Ha at s13 hl0 hq0 hfo
    refine ⟨.int n, rfl, _, _, rfl, rfl, 1, (n : Int) + 1, rfl, ⟨by decide, by decide, by omega, by omega⟩, ?_⟩
    rw [show ((n : Int) + 1 - 1).toNat = n by omega]
    refine for_it (walk_range (lo := 1) (n := n)) (fun i σ G => ∃ (v2 v3 v4 : Option V) (acc : List V), σ = [some (.int n), some (.ref fo), v2, v3, v4, none] ∧ (∀ b o, b ≠ fo → Ha b = some o → G b = some o) ∧ G fo = some (.lst acc) ∧ acc.length = i + 1 ∧
        ∀ s, s ≤ i → ∃ r xs, acc[s]? = some (.ref r) ∧ r ≠ fo ∧ G r = some (.lst xs) ∧ DqA G xs ((lotsL n s).map lotD))
      ⟨none, none, none, [.ref l0], rfl, fun _ _ _ h => h, hfo, rfl, fun s hs => by
        have : s = 0 := by omega
        subst this
        exact ⟨l0, _, rfl, n0, hl0, hq0⟩⟩ (fun _ _ _ _ _ => trivial) ?_ ?_
    · rintro i x σ _ G0 hi ⟨v2, v3, v4, acc, rfl, k, hfG, hal, hac⟩ ⟨rfl, rfl⟩
      refine ⟨by show 0 ≤ sizeLine; decide, fun f0 nf0 => ?_⟩
      have s5 := same_new (o := .lst []) nf0
      have hf1 : upd G0 f0 (.lst []) f0 = some (.lst []) := upd_same
      have hfG1 := s5 _ _ hfG
      obtain ⟨L, us, hLa, hLf, hL0, qus0⟩ := hac i (Nat.le_refl _)
      have hL := s5 _ _ hL0
      have qus := qus0.up s5
      generalize upd G0 f0 (.lst []) = G3 at s5 hf1 hfG1 hL qus
      have hful : ((lotsL n i).flatMap (exts n)).length < 1000 := by
        have h2 := lots_len n (by omega) (i + 1) (by omega)
        have h3 := ch_small n (by omega) (i + 1) (by omega)
        show (lotsL n (i + 1)).length < 1000
        omega
      have hul : us.length = (lotsL n i).length := by rw [qus.len, List.length_map]
      have hlast : atI acc (-1) = some (.ref L) := by
        have e : acc = acc.take i ++ [.ref L] := by
          have e1 : acc.take (i + 1) = acc := List.take_of_length_le (by omega)
          rw [List.take_add_one, hLa] at e1
          exact e1.symm
        rw [e]
        exact atI_last _ _
      refine ⟨.ref fo, rfl, 1, rfl, fo, acc, -1, .ref L, rfl, rfl, SqL.of hfG1, hlast, ?_⟩
      refine ⟨L, rfl, ⟨us, SqL.of hL⟩, for_list (K := K) (xs := us) (fun j σ G => ∃ (lo : V) (v4 : Option V), σ = [some (.int n), some (.ref fo), some (.int (1 + (i : Int))), some lo, v4, none] ∧ Same G3 G ∧ Dq G lo (.list ((((lotsL n i).take j).flatMap (exts n)).map lotD)))
        ⟨_, _, rfl, Same.refl _, .lst hf1 .nil⟩ (fun j σ G _ ⟨_, _, _, s2, _⟩ => SqL.of (s2 _ _ hL)) ?_ ?_⟩
      · rintro j x σ G hx ⟨lo, v4, rfl, s2, hlo⟩
        obtain ⟨l, hl, a, rfl, ha0⟩ := lots_get qus hx
        have ha := s2 _ _ ha0
        obtain ⟨hll, hlm⟩ := lots_in n i l (List.mem_of_getElem? hl)
        have hpre := flat_le (lotsL n i) (exts n) (j + 1)
        rw [flat_take hl, List.length_append] at hpre
        have hel : (exts n l).length = n - nx l := by unfold exts; rw [List.length_map, List.length_range']
        have hnx : nx l ≤ n := by
          by_cases hl0 : l = []
          · subst hl0
            rw [nx_nil]
            omega
          · have e : l = l.dropLast ++ [l.getLast hl0] := (List.dropLast_concat_getLast hl0).symm
            have := hlm _ (List.getLast_mem hl0)
            rw [e, nx_snoc]
            omega
        refine ⟨lo, rfl, ?_⟩
        refine next_ne (l := l) rfl ha fun G2 s3 => ?_
        refine ⟨.int n, rfl, _, _, rfl, ⟨by omega, by omega, by omega, by omega⟩, fun D nD => ?_⟩
        have hnn : ((n : Int) - (nx l : Nat)).toNat = n - nx l := by omega
        rw [hnn]
        refine lc_it (walk_range (lo := (nx l : Nat)) (n := n - nx l)) (fun k G4 => ∃ acc, G4 D = some (.lst acc) ∧ Same G2 G4 ∧ DqA G4 acc (((List.range' (nx l) k).map fun x => l ++ [x]).map lotD)) ⟨[], upd_same, same_new nD, .nil⟩ (fun _ _ _ _ => trivial) ?_ ?_
        · rintro k x G4 G4' hk ⟨acc, hD, s4, qa⟩ ⟨rfl, rfl⟩
          refine ⟨rfl, ?_⟩
          dsimp only [tYes]
          rw [if_pos rfl]
          have ha4 := s4 _ _ (s3 _ _ ha)
          refine ⟨.ref a, rfl, .int _, rfl, by show 1 ≤ sizeLine; decide, fun u nu => ?_⟩
          have su := same_new (o := .tup [.int ((nx l : Nat) + (k : Int))]) nu
          refine catA_k (su _ _ ha4) upd_same (by rw [lv_len, hll]; show _ + 1 ≤ _; omega) fun y H5 s5 hy => ?_
          have hD5 := s5 _ _ (su _ _ hD)
          have hl2 : acc.length = k := by rw [qa.len, List.length_map, List.length_map, List.length_range']
          refine ⟨acc, hD5, szm (by omega), acc ++ [.ref y], upd_same, fun b o hb => ?_, ?_⟩
          · rw [upd_ne (ne_of_none hb nD)]
            exact s5 _ _ (su _ _ (s4 _ _ hb))
          · have ts : TS H5 (upd H5 D (.lst (acc ++ [.ref y]))) := TS.lst hD5
            rw [range1_succ, List.map_append (f := fun x => l ++ [x]), List.map_append (f := lotD)]
            refine dqa_snoc (DqA.upT ts (lots_flat _) ((qa.up su).up s5)) (Dq.upT ts (lot_flat _) ?_)
            refine lot_at ?_
            rw [hy, lv_snoc]
            simp
        · rintro G4 ⟨acc, hD, s4, qa⟩
          have hf4 := (hlo.up s3).up s4
          cases hf4 with
          | @lst fa fs _ hfa qfs =>
          refine ⟨fa, D, fs, acc, rfl, rfl, hfa, hD, ?_, fun p np => ?_⟩
          · have e1 : fs.length = (((lotsL n i).take j).flatMap (exts n)).length := by rw [qfs.len, List.length_map]
            have e2 : acc.length = (exts n l).length := by rw [qa.len, List.length_map]; rfl
            exact sz (by rw [e1, e2]; omega)
          · have sp := same_new (o := .lst (fs ++ acc)) np
            refine ⟨.ref p, _, rfl, s2.trans (s3.trans (s4.trans sp)), ?_⟩
            rw [flat_take hl, List.map_append (f := lotD)]
            exact .lst upd_same ((qfs.up sp).app (qa.up sp))
      · rintro σ G ⟨lo, v4, rfl, s2, hlo⟩
        rw [hul, List.take_length] at hlo
        have hlo : Dq G lo (.list ((lotsL n (i + 1)).map lotD)) := hlo
        have hG := s2 _ _ hfG1
        cases hlo with
        | @lst la ls _ hla qls =>
        have s52 := Same.trans s5 s2
        have nla : la ≠ fo := fun z => by
          have hls : 0 < ls.length := by
            have h1 := lots_len n (by omega) (i + 1) (by omega)
            have h2 : ∀ n : Nat, n < 7 → ∀ s : Nat, s < n + 1 → 0 < ch n s := by decide +kernel
            rw [qls.len, List.length_map, h1]
            exact h2 n (by omega) (i + 1) (by omega)
          obtain ⟨y, hy⟩ : ∃ y, ls[0]? = some y := ⟨_, List.getElem?_eq_getElem hls⟩
          obtain ⟨_, _, t, rfl, ht⟩ := lots_get qls hy
          rw [z, hG] at hla
          cases hla
          obtain ⟨r, xs, hr0, _, hrx, _⟩ := hac 0 (Nat.zero_le _)
          rw [hr0] at hy
          cases hy
          rw [s52 _ _ hrx] at ht
          cases ht
        dsimp only
        refine ⟨.ref fo, rfl, .inl ⟨rfl, _, SqL.of hG⟩, .ref la, rfl, fo, acc, .ref la, rfl, rfl, hG, szl (by omega), _, _, _, acc ++ [.ref la], rfl, fun b o hb ho => ?_, upd_same, by rw [List.length_append, hal]; rfl, fun s hs => ?_⟩
        · rw [upd_ne hb]
          exact s52 _ _ (k _ _ hb ho)
        · rcases Nat.lt_or_ge s (i + 1) with c | c
          · obtain ⟨r, xs, e1, e2, e3, e4⟩ := hac s (by omega)
            refine ⟨r, xs, by rw [List.getElem?_append_left (by omega)]; exact e1, e2, by rw [upd_ne e2]; exact s52 _ _ e3, DqA.upT (TS.lst hG) (lots_flat _) (e4.up s52)⟩
          · have : s = i + 1 := by omega
            subst this
            refine ⟨la, ls, by rw [List.getElem?_append_right (by omega), hal, Nat.sub_self]; rfl, nla, by rw [upd_ne nla]; exact hla, DqA.upT (TS.lst hG) (lots_flat _) qls⟩
    · rintro σ G ⟨v2, v3, v4, acc, rfl, k, hfG, hal, hac⟩
      refine ⟨.ref fo, rfl, q G _ (fun b o hb => k _ _ (nf _ _ hb) (s13 _ _ hb)) (.lst hfG ?_)⟩
      have key : ∀ m, m ≤ n + 1 → DqA G (acc.take m) ((List.range m).map (lotsD n)) := by
        intro m
        induction m with
        | zero => intro _; exact .nil
        | succ m ih =>
          intro hm
          obtain ⟨r, xs, e1, _, e3, e4⟩ := hac m (by omega)
          rw [List.take_add_one, e1, List.range_succ, List.map_append]
          exact dqa_snoc (ih (by omega)) (.lst e3 e4)
      have := key (n + 1) (Nat.le_refl _)
      rwa [List.take_of_length_le (by omega)] at this
abbrev nLf : List Str := ["n", "found", "row"]
theorem o_lFlat (D0 : Df K mg "_law_flat" sLFlat ["n"]) (B : Bi mg) (ll : Ok P w K mg base 1 "_law_lots" ["n"] spLLots) : Ok P w K mg base 2 "_law_flat" ["n"] spEvery := by
  have scLf : FnScope nLf ["n"] (defScope sLFlat) := ⟨rfl, rfl, rfl, by decide +kernel, rfl, by decide +kernel, by decide +kernel⟩
  refine D0.ok fun f fd F => F.ok scLf (fun vs H Q E h => ?_) (fun cdv A outer s H vs Q E hr h => ?_)
  · obtain ⟨n, rfl, _⟩ := h
    rfl
  · obtain ⟨n, rfl, hn, q⟩ := h
    refine ⟨_, pss_cons (ps_set (i := 1) scLf.nd rfl (.inl rfl) (pe_lst pa_nil))
      (pss_cons (ps_for PassesOwn.never rfl (pi_list (pe_fn ll hr (by rfl) (pa_cons (pv 0) pa_nil))) (pg_name (i := 2) scLf.nd rfl (.inl rfl))
        (pss_one (ps_set (i := 1) scLf.nd rfl (.inl rfl) (pe_op op_cat (pv 1) (pv 2)))))
      (pss_one (ps_ret (pv 1)))), ?_⟩
    refine ⟨by show 0 ≤ sizeLine; decide, fun f0 nf0 => ?_⟩
    have s1 := same_new (o := .lst []) nf0
    have hf0 : Dq (upd H f0 (.lst [])) (.ref f0) (.list ((((List.range (n + 1)).take 0).flatMap (lotsL n)).map lotD)) := .lst upd_same .nil
    generalize upd H f0 (.lst []) = H1 at s1 hf0
    refine ⟨.int n, rfl, n, rfl, hn, fun H2 v s2 hv => ?_⟩
    cases hv with
    | @lst L us _ hL qus =>
    have hul : us.length = n + 1 := by rw [qus.len, List.length_map, List.length_range]
    have s12 := s1.trans s2
    refine ⟨L, rfl, ⟨us, SqL.of hL⟩, for_list (K := K) (xs := us) (fun i σ G => ∃ (fo : V) (v2 : Option V), σ = [some (.int n), some fo, v2] ∧ Same H2 G ∧ Dq G fo (.list ((((List.range (n + 1)).take i).flatMap (lotsL n)).map lotD)))
      ⟨_, _, rfl, Same.refl _, hf0.up s2⟩ (fun i σ G _ ⟨_, _, _, sm, _⟩ => SqL.of (sm _ _ hL)) ?_ ?_⟩
    · rintro i x σ G hx ⟨fo, v2, rfl, sm, hfo⟩
      have hi : i < n + 1 := by have := (List.getElem?_eq_some_iff.mp hx).1; omega
      obtain ⟨d, hd, hdq⟩ := qus.get hx
      have hri : (List.range (n + 1))[i]? = some i := List.getElem?_range hi
      rw [List.getElem?_map, hri] at hd
      cases Option.some.inj hd
      cases hdq with
      | @lst la ls _ hla qls =>
      cases hfo with
      | @lst fa fs _ hfa qfs =>
      have hb := every_few n (by omega) (i + 1) (by omega)
      have er : ((List.range (n + 1)).take (i + 1)).flatMap (lotsL n) = ((List.range (n + 1)).take i).flatMap (lotsL n) ++ lotsL n i := flat_take hri
      have hb2 : (((List.range (n + 1)).take (i + 1)).flatMap (lotsL n)).length ≤ 64 := by
        rw [List.take_range, Nat.min_eq_left (by omega)]
        exact hb
      rw [er, List.length_append] at hb2
      refine ⟨.ref fa, rfl, .ref la, rfl, fa, la, fs, ls, rfl, rfl, hfa, sm _ _ hla, ?_, fun p np => ?_⟩
      · rw [qfs.len, qls.len, List.length_map, List.length_map]
        exact sz (by omega)
      · have sp := same_new (o := .lst (fs ++ ls)) np
        refine ⟨.ref p, _, rfl, sm.trans sp, ?_⟩
        rw [er, List.map_append (f := lotD)]
        exact .lst upd_same ((qfs.up sp).app ((qls.up sm).up sp))
    · rintro σ G ⟨fo, v2, rfl, sm, hfo⟩
      rw [hul, List.take_of_length_le (by rw [List.length_range]; omega)] at hfo
      exact ⟨fo, rfl, q _ _ (s12.trans sm) hfo⟩
end
end Kr
namespace Kr
open PySem PySem.Spec PyProof.Rows L2
section
variable {P : Program} {w : World} {K : PySem.W.Frag} {mg : Str → Option Value} {base : Heap}
abbrev nLa : List Str := ["n", "one", "two", "numbers", "found", "entry", "more", "at", "keys", "to"]
/-- the pairs (lot, number) in the order of the lots -/
theorem puts_nums {n : Nat} (hn : n ≤ 6) : ∀ (es : List PEnt) (i : Nat) (kvs : List (List Key × V)), (∀ j e, es[j]? = some e → ∃ l, (allL n)[i + j]? = some l ∧ e.1 = lotK l ∧ e.2.2 = .int ((i + j : Nat) : Int)) → i + es.length = (allL n).length →
    (∀ j l, j < i → (allL n)[j]? = some l → valV kvs (lotK l) = some (.int (j : Nat))) → ∀ j l, (allL n)[j]? = some l → valV (putsK kvs es) (lotK l) = some (.int (j : Nat))
  | [], i, kvs, _, hl, h, j, l, e => h j l (by
      have := (List.getElem?_eq_some_iff.mp e).1
      simp at hl
      omega) e
  | x :: es, i, kvs, hx, hl, h, j, l, e => by
    obtain ⟨l0, e0, k0, v0⟩ := hx 0 x rfl
    rw [Nat.add_zero] at e0 v0
    refine puts_nums hn es (i + 1) (putK kvs x.1 x.2.2) (fun j e he => ?_) (by simp at hl; omega) (fun j2 l2 hj hl2 => ?_) j l e
    · obtain ⟨l1, a1, a2, a3⟩ := hx (j + 1) e he
      rw [show i + (j + 1) = i + 1 + j by omega] at a1 a3
      exact ⟨l1, a1, a2, a3⟩
    · rw [valV_put, k0, v0]
      by_cases ek : lotK l2 = lotK l0
      · have := lotK_inj ek
        subst this
        have e1 := (all_num_at hn hl2).1
        have e2 := (all_num_at hn e0).1
        rw [if_pos ek]
        rw [show j2 = i by omega]
      · rw [if_neg ek]
        refine h j2 l2 ?_ hl2
        rcases Nat.lt_or_ge j2 i with c | c
        · exact c
        · have : j2 = i := by omega
          subst this
          rw [hl2] at e0
          exact absurd (by rw [Option.some.inj e0]) ek
def pnD (L : List (List Nat)) (j : Nat) : PyData := .tuple [lotD (L.getD j []), .int (j : Int)]
theorem pairs_in {K : PySem.W.Frag} {H : Hp} (L : List (List Nat)) : ∀ (m i : Nat) (xs : List V), DqA H xs ((List.range' i m).map (pnD L)) → ∃ (ps : List Addr) (es : List PEnt), xs = ps.map V.ref ∧
    Paired (fun p (e : PEnt) => SqT K H p [.ref e.2.1, e.2.2] ∧ H e.2.1 = some (.tup (e.1.map kV))) ps es ∧ es.length = m ∧ ∀ j e, es[j]? = some e → e.1 = lotK (L.getD (i + j) []) ∧ e.2.2 = .int ((i + j : Nat) : Int)
  | 0, i, xs, q => by
    cases q
    exact ⟨[], [], rfl, .nil, rfl, fun j e he => by simp at he⟩
  | m + 1, i, xs, q => by
    rw [List.range'_succ, List.map_cons] at q
    cases q with
    | cons q1 q2 =>
      obtain ⟨ps, es, rfl, pr, hl, hes⟩ := pairs_in L m (i + 1) _ q2
      obtain ⟨t, ys, rfl, ht, qy⟩ := Dq.tup_inv q1
      cases qy with
      | cons y1 y2 =>
        cases y2 with
        | cons y2 y3 =>
          cases y3
          obtain ⟨b, rfl, hb⟩ := lot_inv y1
          cases y2
          refine ⟨t :: ps, (lotK (L.getD i []), b, .int (i : Int)) :: es, rfl, .cons ⟨SqT.of ht, by rw [lotK_v]; exact hb⟩ pr, by rw [List.length_cons, hl], fun j e he => ?_⟩
          cases j with
          | zero =>
            cases Option.some.inj he
            exact ⟨rfl, rfl⟩
          | succ j =>
            have := hes j e (by simpa using he)
            rw [show i + (j + 1) = i + 1 + j by omega]
            exact this
def spAfter : Sp := fun vs H Q _ => ∃ (n : Nat) (v u : V) (T U : List (List Int)), vs = [.int (n : Int), v, u] ∧ n ≤ 6 ∧ Dq H v (tabD T) ∧ Dq H u (tabD U) ∧ TabOk n T ∧ TabOk n U ∧ ∀ H' r, Same H H' → Dq H' r (tabD (bothT n T U)) → Q r H'
theorem o_lAfter (D0 : Df K mg "_law_after" sLAfter ["n", "one", "two"]) (B : Bi mg) (hd : mg "dict" = none) (lf : Ok P w K mg base 2 "_law_flat" ["n"] spEvery) (le : Ok P w K mg base 1 "_law_end" ["entry"] spEnd) : Ok P w K mg base 3 "_law_after" ["n", "one", "two"] spAfter := by
  have scLa : FnScope nLa ["n", "one", "two"] (defScope sLAfter) := ⟨rfl, rfl, rfl, by decide +kernel, rfl, by decide +kernel, by decide +kernel⟩
  refine D0.ok fun f fd F => F.ok scLa (fun vs H Q E h => ?_) (fun cdv A outer s H vs Q E hr h => ?_)
  · obtain ⟨n, v, u, T, U, rfl, _⟩ := h
    rfl
  · obtain ⟨n, v, u, T, U, rfl, hn, hv, hu', okT, okU, q⟩ := h
    obtain ⟨hTl, hT, hT2, hTe⟩ := okT.both_in hn
    obtain ⟨_, _, hUl, hU⟩ := okU.both_in hn
    have hr1 := hr.mono (show 1 ≤ 2 by decide)
    have hu := hu_of hr
    have hu2 : (cxOf CX0 P w K mg base nLa "_law_after" (defScope sLAfter) f cdv A outer s H E).A.in1.in1.units < cLine := Nat.lt_of_le_of_lt (Nat.le_trans (Nat.le_of_eq rfl) (Nat.add_le_add_left (show 2 ≤ 64 by decide) _)) hr.units
    refine ⟨_, pss_cons (ps_par (i := 3) (j := 4) rfl scLa.nd rfl rfl (by decide) rfl rfl (pa_cons (pe_callTy (call_dictT hu2 rfl) (by rfl) hd (by decide +kernel) (pa_cons
          (pe_lc (own := [("at", 7), ("keys", 8)]) (g := gTup K 2 (gCons (gName 7) (gCons (gName 8) gNil))) (tt := tYes) rfl scLa.nd (pi_enum (by rfl) B.enumerate (pa_cons (pe_fn lf hr (by rfl) (pa_cons (pv 0) pa_nil)) pa_nil)) (blkOk_by (own := [("at", 7), ("keys", 8)]) (N := nLa) (sc := defScope sLAfter) (by decide +kernel))
            (fun _ _ _ _ _ => pg_tup rfl (pgs_cons (pg_name (i := 7) scLa.nd rfl (.inl rfl)) (pgs_cons (pg_name (i := 8) scLa.nd rfl (.inl rfl)) pgs_nil))) (fun _ _ _ _ _ => pts_nil)
            (fun _ _ _ _ _ => pe_tup (pa_cons (pv 8) (pa_cons (pv 7) pa_nil)))) pa_nil)) (pa_cons (pe_lst pa_nil) pa_nil)) (by rfl))
      (pss_cons (ps_for PassesOwn.never rfl (pi_tup (pv 1)) (pg_name (i := 5) scLa.nd rfl (.inl rfl))
        (pss_cons (ps_set (i := 6) scLa.nd rfl (.inr rfl) (pe_ix ix_tup (pv 2) (pe_dget hu (pv 3) (pe_fn le hr1 (by rfl) (pa_cons (pv 5) pa_nil)) (fun _ _ => rfl)) (fun _ _ => rfl)))
        (pss_one (ps_expr (pe_bm PySem.F.plainAttrs_list PySem.F.slot_list_append PySem.F.type_list_append mt_append (pv 4) (pa_cons (pe_callTy call_tuple_of (by rfl) B.tuple (by decide +kernel) (pa_cons
          (pe_lc (own := [("to", 9)]) (g := gName 9) (tt := tYes) rfl scLa.nd (pi_tup (pv 5)) (blkOk_by (own := [("to", 9)]) (N := nLa) (sc := defScope sLAfter) (by decide +kernel)) (fun _ _ _ _ _ => pg_name (i := 9) scLa.nd rfl (.inl rfl)) (fun _ _ _ _ _ => pts_nil)
            (fun _ _ _ _ _ => pe_ifExp (pt_cmpR op_lt (pv 9) pe_int (nomark _)) (pe_un un_neg pe_int) (pe_ix (r := rIxT K) ix_tup (pv 6) (pv 9) (fun _ _ => rfl)))) pa_nil)) pa_nil))))))
      (pss_one (ps_ret (pe_callTy call_tuple_of (by rfl) B.tuple (by decide +kernel) (pa_cons (pv 4) pa_nil))))), ?_⟩
    refine ⟨.int n, rfl, n, rfl, hn, fun Ha lv1 sa hl1 => ?_⟩
    cases hl1 with
    | @lst L ks _ hL qk =>
    have hal := all_few n (by omega)
    have hkl : ks.length = (allL n).length := by rw [qk.len, List.length_map]
    refine ⟨L, _, rfl, SqL.of hL, fun D nD => ?_⟩
    refine lc_itF (walk_enum (K := K) (a := L) (xs := ks)) (pnD (allL n)) nD (by omega) (fun i _ => by
      have := lot_flat ((allL n).getD i [])
      unfold pnD
      generalize (allL n).getD i [] = l at this ⊢
      simp [flatT, flatTA, this]) (fun G s => SqL.of (s _ _ hL)) (fun j x G G' C Cn hj s4 hy c => ?_) (fun G3 bs s4 hD qb => ?_)
    · obtain ⟨t, x, y, rfl, nt, rfl, e1, e2⟩ := hy
      cases Option.some.inj e1
      obtain ⟨l, hl, lb, rfl, hlb⟩ := lots_get qk e2
      have st := same_new (o := .tup [.int (j : Nat), .ref lb]) nt
      refine ⟨t, [.int (j : Nat), .ref lb], rfl, SqT.of upd_same, rfl, .int (j : Nat), [.ref lb], rfl, .ref lb, [], rfl, rfl, rfl, ?_⟩
      dsimp only [tYes]
      rw [if_pos rfl]
      refine ⟨.ref lb, rfl, .int (j : Nat), rfl, by show 2 ≤ sizeLine; decide, fun t2 nt2 => ?_⟩
      have st2 := st.trans (same_new (o := .tup [.ref lb, .int (j : Nat)]) nt2)
      have el : (allL n).getD j [] = l := by rw [List.getD_eq_getElem?_getD, hl]; rfl
      refine c _ _ st2 (.tup upd_same (.cons ?_ (.cons (.int _) .nil)))
      rw [el]
      exact lot_at (st2 _ _ (s4 _ _ hlb))
    have eL : (allL n).length = ks.length := hkl.symm
    rw [← eL, List.range_eq_range'] at qb
    obtain ⟨ps, es, rfl, pr, hel, hes⟩ := pairs_in (K := K) (allL n) _ _ _ qb
    refine ⟨D, ps, es, rfl, SqL.of hD, pr, fun nb nnb => ?_⟩
    have s1 : Same H (upd G3 nb (.dT (putsK [] es))) := (sa.trans s4).trans (same_new nnb)
    have hnb : upd G3 nb (.dT (putsK [] es)) nb = some (.dT (putsK [] es)) := upd_same
    have hkv : ∀ l ∈ allL n, valV (putsK [] es) (lotK l) = some (.int (num n l : Nat)) := fun l hl => by
      obtain ⟨j, hj, ej⟩ := List.getElem_of_mem hl
      have e1 : (allL n)[j]? = some l := by rw [List.getElem?_eq_getElem hj, ej]
      rw [(all_num_at hn e1).1]
      refine puts_nums hn es 0 [] (fun j e he => ?_) (by omega) (fun j l hj _ => absurd hj (Nat.not_lt_zero j)) j l e1
      have h1 := hes j e he
      have h2 := (List.getElem?_eq_some_iff.mp he).1
      exact ⟨(allL n).getD j [], by rw [Nat.zero_add, List.getElem?_eq_getElem (by omega), List.getD_eq_getElem?_getD, List.getElem?_eq_getElem (by omega)]; rfl, by rw [h1.1, Nat.zero_add], h1.2⟩
    clear pr hes hD qb
    generalize putsK [] es = kvs at s1 hnb hkv
    generalize upd G3 nb (.dT kvs) = H1 at s1 hnb
    refine ⟨by show 0 ≤ sizeLine; decide, fun en nen => ⟨_, _, rfl, ?_⟩⟩
    have s2 := same_new (o := .lst []) nen
    have hen : upd H1 en (.lst []) en = some (.lst []) := upd_same
    have hnb2 := s2 _ _ hnb
    have s12 := s1.trans s2
    generalize upd H1 en (.lst []) = H2 at hen hnb2 s12
    have hv2 := hv.up s12
    have hu2 := hu'.up s12
    obtain ⟨va, xs, rfl, hva, qx⟩ := Dq.tup_inv hv2
    obtain ⟨ua, us, rfl, hua, qu⟩ := Dq.tup_inv hu2
    have nva : va ≠ en := ne_of hva hen (by intro z; cases z)
    have nua : ua ≠ en := ne_of hua hen (by intro z; cases z)
    have nnb : nb ≠ en := ne_of hnb2 hen (by intro z; cases z)
    have hxl : xs.length = T.length := by rw [qx.len, List.length_map]
    have hul : us.length = 2 ^ n := by rw [qu.len, List.length_map, hUl]
    refine ⟨.ref va, rfl, va, rfl, ⟨xs, SqT.of hva⟩, for_it (walk_tup (K := K) (a := va) (xs := xs)) (fun i σ G => ∃ (v5 v6 : Option V) (acc : List V), σ = [some (.int n), some (.ref va), some (.ref ua), some (.ref nb), some (.ref en), v5, v6, none, none, none] ∧
        (∀ b o, b ≠ en → H2 b = some o → G b = some o) ∧ G en = some (.lst acc) ∧ DqA G acc ((T.take i).map fun e => entD (bothE n U e)))
      ⟨_, _, [], rfl, fun _ _ _ h => h, hen, .nil⟩ (fun i σ G _ ⟨_, _, _, _, k, _⟩ => SqT.of (k _ _ nva hva)) ?_ ?_⟩
    · rintro i x σ G G' hi ⟨v5, v6, acc, rfl, k, hG, qac⟩ ⟨rfl, hx⟩
      obtain ⟨e, he, ea, rfl, hea⟩ := ents_get qx hx
      have nea : ea ≠ en := ne_of hea hen (by intro z; cases z)
      have hea' := k _ _ nea hea
      obtain ⟨hgo, hel, hex⟩ := hT e (List.mem_of_getElem? he)
      have hnum := all_num hn hgo
      have acl : acc.length = i := by
        rw [qac.len, List.length_map, List.length_take]
        omega
      refine ⟨.ref ua, rfl, .ref nb, rfl, .ref ea, rfl, ea, e, rfl, hea', by omega, fun G2 t s3 ht => ?_⟩
      rw [hTe e (List.mem_of_getElem? he)] at ht
      obtain ⟨uv, huv⟩ : ∃ uv, us[num n (goalE n e)]? = some uv := ⟨_, List.getElem?_eq_getElem (by omega)⟩
      obtain ⟨ue, hue, uea, rfl, huea⟩ := ents_get qu huv
      have hue2 : U.getD (num n (goalE n e)) [] = ue := getD_of hue
      have huel := hU ue (List.mem_of_getElem? hue)
      have nuea : uea ≠ en := ne_of huea hen (by intro z; cases z)
      have hDG : DGet G2 nb (.ref t) (some (.int (num n (goalE n e) : Nat))) := by
        rw [← hkv _ hgo]
        exact DGet.t (s3 _ _ (k _ _ nnb hnb2)) (by rw [lotK_v]; exact ht)
      refine ⟨nb, .int (num n (goalE n e) : Nat), rfl, hDG, ?_⟩
      refine ⟨ua, us, num n (goalE n e), .ref uea, rfl, rfl, SqT.of (s3 _ _ (k _ _ nua hua)), atI_nat huv, ?_⟩
      have hG2 := s3 _ _ hG
      have hea2 := s3 _ _ hea'
      have hue3 := s3 _ _ (k _ _ nuea huea)
      dsimp only [tNext]
      refine ⟨.ref en, rfl, .inl ⟨rfl, _, SqL.of hG2⟩, .ref ea, rfl, ea, rfl, ⟨_, SqT.of hea2⟩, fun D nD => ?_⟩
      refine lc_itF (walk_tup (K := K) (a := ea) (xs := e.map V.int)) (fun j => .int (if e.getD j 0 = -1 then -1 else ue.getD (e.getD j 0).toNat 0)) nD (by rw [List.length_map]; omega) (fun _ _ => rfl) (fun G s => SqT.of (s _ _ hea2)) (fun j y G3 G3' C Cn hj s4 hy c => ?_) (fun G4 bs s4 hD qb => ?_)
      · obtain ⟨rfl, hy⟩ := hy
        rw [List.length_map] at hj
        have ey : y = .int (e.getD j 0) := by
          rw [List.getElem?_map, getD_get hj] at hy
          exact (Option.some.inj hy).symm
        subst ey
        have hxe := hex _ (List.mem_of_getElem? (getD_get hj))
        generalize e.getD j 0 = z at c hxe
        refine ⟨rfl, ?_⟩
        dsimp only [tYes]
        rw [if_pos rfl]
        refine ⟨.int z, rfl, _, _, rfl, rfl, _, rfl, ?_⟩
        by_cases hz : z = -1
        · rw [decide_eq_true (show z < 0 by omega)]
          rw [if_pos hz] at c
          exact iteT ⟨1, rfl, c _ _ (Same.refl _) (.int _)⟩
        · rw [decide_eq_false (show ¬ z < 0 by rcases hxe with y | y <;> omega)]
          rw [if_neg hz] at c
          have hz2 := hxe.resolve_left hz
          obtain ⟨m, rfl⟩ : ∃ m : Nat, z = m := ⟨z.toNat, by omega⟩
          rw [Int.toNat_natCast] at c
          exact iteF ⟨.ref uea, rfl, .int m, rfl, uea, _, m, .int (ue.getD m 0), rfl, rfl, SqT.of (s4 _ _ hue3), atI_nat (by rw [List.getElem?_map, getD_get (by omega)]; rfl), c _ _ (Same.refl _) (.int _)⟩
      have em := map_getD (fun (z : Int) => PyData.int (if z = -1 then -1 else ue.getD z.toNat 0)) 0 e
      rw [List.length_map, em] at qb
      have ebs : bs = (bothE n U e).map V.int := dqa_int (by
        unfold bothE
        rw [hue2, List.map_map]
        exact qb)
      subst ebs
      refine ⟨D, _, rfl, .inl ⟨SqL.of hD, fun t2 nt2 => ?_⟩⟩
      have s5 := same_new (o := .tup ((bothE n U e).map V.int)) nt2
      have ht2 : upd G4 t2 (.tup ((bothE n U e).map V.int)) t2 = some (.tup ((bothE n U e).map V.int)) := upd_same
      have hG5 := s5 _ _ (s4 _ _ hG2)
      generalize upd G4 t2 (.tup ((bothE n U e).map V.int)) = G5 at s5 ht2 hG5
      have ts : TS G5 (upd G5 en (.lst (acc ++ [.ref t2]))) := TS.lst hG5
      refine ⟨en, acc, .ref t2, rfl, rfl, hG5, szl (by omega), _, _, _, rfl, fun b o hb ho => ?_, upd_same, ?_⟩
      · rw [upd_ne hb]
        exact s5 _ _ (s4 _ _ (s3 _ _ (k _ _ hb ho)))
      · rw [take_snoc he]
        refine dqa_snoc (DqA.upT ts (flatTA_of fun d hd => ?_) (((qac.up s3).up s4).up s5)) (Dq.upT ts (ent_flat _) (ent_at ht2))
        obtain ⟨l', _, rfl⟩ := List.mem_map.mp hd
        exact ent_flat _
    · rintro σ G ⟨v5, v6, acc, rfl, k, hG, qac⟩
      rw [hxl, List.take_length] at qac
      have nf : ∀ b o, H b = some o → b ≠ en := fun b o hb => ne_of_none (s1 _ _ hb) nen
      refine ⟨.ref en, rfl, en, acc, rfl, .inl ⟨SqL.of hG, fun t nt => q _ _ (fun b' o hb => same_new nt _ _ (k _ _ (nf _ _ hb) (s12 _ _ hb))) (.tup upd_same ?_)⟩⟩
      unfold bothT
      rw [List.map_map]
      exact qac.up (same_new nt)
end
end Kr
namespace Kr
open PySem PySem.Spec PyProof.Rows L2
/-! ### the deck: a dict of a list and a number, apart from all else -/
def hid (p l : Addr) (H : Hp) : Hp := fun b => if b = p ∨ b = l then none else H b
theorem hid_ne {p l b : Addr} {H : Hp} (h1 : b ≠ p) (h2 : b ≠ l) : hid p l H b = H b := by
  unfold hid
  rw [if_neg (fun h => h.elim h1 h2)]
theorem hid_some {p l b : Addr} {H : Hp} {o : HO} (h : hid p l H b = some o) : b ≠ p ∧ b ≠ l ∧ H b = some o := by
  unfold hid at h
  by_cases e : b = p ∨ b = l
  · rw [if_pos e] at h
    cases h
  · rw [if_neg e] at h
    exact ⟨fun z => e (.inl z), fun z => e (.inr z), h⟩
theorem hid_same (p l : Addr) (H : Hp) : Same (hid p l H) H := fun _ _ h => (hid_some h).2.2
abbrev Ext (p l : Addr) (H H' : Hp) : Prop := Same (hid p l H) (hid p l H')
theorem Ext.of {p l : Addr} {H H' : Hp} (s : Same H H') : Ext p l H H' := fun b o h => by
  obtain ⟨h1, h2, h3⟩ := hid_some h
  rw [hid_ne h1 h2]
  exact s _ _ h3
theorem Ext.rfl {p l : Addr} {H : Hp} : Ext p l H H := Same.refl _
abbrev kD : Key := Sum.inr ("deep" : Str)
abbrev kS : Key := Sum.inr ("state" : Str)
theorem kDS : ¬ kD = kS := by
  intro z
  exact absurd (Sum.inr.inj z) (by decide +kernel)
def dkv (x y : V) : List (Key × V) := [(kD, x), (kS, y)]
theorem dkv_d (x y : V) : valV (dkv x y) kD = some x := valV_pos rfl
theorem dkv_s (x y : V) : valV (dkv x y) kS = some y := (valV_neg kDS).trans (valV_pos rfl)
theorem kds : ¬ ("deep" : Str) = "state" := by decide +kernel
theorem ksd : ¬ ("state" : Str) = "deep" := by decide +kernel
theorem dkv_pd (x y z : V) : putK (dkv x y) kD z = dkv z y := by
  simp [putK, dkv, kds, ksd]
theorem dkv_ps (x y z : V) : putK (dkv x y) kS z = dkv x z := by
  simp [putK, dkv, kds, ksd]
theorem dkv_m (x y : V) : mergeK [] [(kD, x), (kS, y)] = dkv x y := by
  simp [mergeK, putK, dkv, kds, ksd]
structure Deck (H : Hp) (p l : Addr) : Prop where
  ex : ∃ (ds : List Int) (st : Int), H p = some (.dK (dkv (.ref l) (.int st))) ∧ H l = some (.lst (ds.map V.int)) ∧ ds.length ≤ 63
theorem Deck.ne {H : Hp} {p l : Addr} (d : Deck H p l) : p ≠ l := by
  obtain ⟨ds, st, h1, h2, _⟩ := d.ex
  exact ne_of h1 h2 (by intro z; cases z)
theorem Deck.up {H H' : Hp} {p l : Addr} (d : Deck H p l) (s : Same H H') : Deck H' p l := by
  obtain ⟨ds, st, h1, h2, h3⟩ := d.ex
  exact ⟨ds, st, s _ _ h1, s _ _ h2, h3⟩
/-- a new object stands apart -/
theorem Deck.new {H : Hp} {p l q : Addr} (d : Deck H p l) (h : H q = none) : q ≠ p ∧ q ≠ l := by
  obtain ⟨ds, st, h1, h2, h3⟩ := d.ex
  exact ⟨(ne_of_none h1 h).symm, (ne_of_none h2 h).symm⟩
theorem hid_upd {H : Hp} {p l q : Addr} {o : HO} (h1 : q ≠ p) (h2 : q ≠ l) : hid p l (upd H q o) q = some o := by
  rw [hid_ne h1 h2, upd_same]
def spDeck (K : PySem.W.Frag) : Sp := fun vs H Q _ => ∃ (a : Addr) (ns : List Int), vs = [.ref a] ∧ SqL K H a (ns.map V.int) ∧ ns.length ≤ 63 ∧ ∀ H' p l, Same H H' → H p = none → H l = none → Deck H' p l → Q (.ref p) H'
section
variable {P : Program} {w : World} {K : PySem.W.Frag} {mg : Str → Option Value} {base : Heap}
theorem scDeck : FnScope ["script", "deck", "cell", "whole"] ["script"] (defScope sDeck) := ⟨rfl, rfl, rfl, by decide +kernel, rfl, by decide +kernel, by decide +kernel⟩
theorem ok_deck {f : Addr} {fd : FuncData} {k : Nat} (F : Fun K "_law_deck" "_law_deck" sDeck f fd) (B : Bi mg) : FnOk P w K mg base CX0 (k + 1) f fd ["script"] (spDeck K) := by
  refine F.ok scDeck (fun vs H Q E h => ?_) (fun cdv A outer s H vs Q E hr h => ?_)
  · obtain ⟨a, ns, rfl, _⟩ := h
    rfl
  · obtain ⟨a, ns, rfl, hS, hlen, q⟩ := h
    have hu := hu_of hr
    refine ⟨_, pss_cons (ps_set (i := 1) scDeck.nd rfl (.inl rfl) (pe_disp (pps_cons pe_str (pe_lst pa_nil) (pps_cons pe_str (pe_op op_add (pe_op op_add pe_int pe_int) (pe_callB call_len_seq (by rfl) B.len boot_len (pa_cons (pe_slice sl_list (pv 0) po_none (po_some pe_int)) pa_nil))) pps_nil)) (by rfl) (by rfl) (fun z => by cases z) (by decide)))
      (pss_cons (ps_for PassesOwn.never rfl (pi_list (pe_slice sl_list (pv 0) po_none (po_some pe_int))) (pg_name (i := 2) scDeck.nd rfl (.inl rfl))
        (pss_cons (ps_if (pt_cmpR op_ge (pe_callB call_abs (by rfl) B.abs (by decide +kernel) (pa_cons (pv 2) pa_nil)) (pe_op op_pow pe_int pe_int) (nomark _)) (pss_one (ps_dput hu (pv 1) pe_str (pe_op op_cat (pe_lst (pa_cons (pe_callB call_abs (by rfl) B.abs (by decide +kernel) (pa_cons (pv 2) pa_nil)) pa_nil)) (pe_dget hu (pv 1) pe_str (fun _ _ => rfl))) rfl)) pss_nil)
        (pss_cons (ps_set (i := 3) scDeck.nd rfl (.inl rfl) (pe_op op_add (pe_op op_mul pe_int (pe_callB call_abs (by rfl) B.abs (by decide +kernel) (pa_cons (pv 2) pa_nil))) (pe_callTy call_int1 (by rfl) B.int (by decide +kernel) (pa_cons (pe_cmpR op_lt (pv 2) pe_int (nomark _)) pa_nil))))
        (pss_one (ps_dput hu (pv 1) pe_str (pe_op op_mod (pe_callTy call_int1 (by rfl) B.int (by decide +kernel) (pa_cons (pe_op op_add (pe_op op_mul (pe_op op_add (pe_op op_add (pe_dget hu (pv 1) pe_str (fun _ _ => rfl)) (pv 3)) pe_int) pe_int) pe_int) pa_nil)) pe_int) rfl)))))
      (pss_one (ps_ret (pv 1)))), ?_⟩
    intro p np
    refine ⟨Nat.zero_le _, fun l nl => ?_⟩
    have s0 : Same H (upd (upd H p (.dK [])) l (.lst [])) := (same_new np).trans (same_new nl)
    have nlp : l ≠ p := fun z => by rw [z, upd_same] at nl; cases nl
    have nl0 : H l = none := by rw [upd_ne nlp] at nl; exact nl
    refine ⟨_, _, rfl, rfl, .ref a, rfl, 63, rfl, a, _, rfl, s0.seq hS, fun c nc => ?_⟩
    have ncp : c ≠ p := fun z => by rw [z, upd_ne nlp.symm, upd_same] at nc; cases nc
    have ncl : c ≠ l := fun z => by rw [z, upd_same] at nc; cases nc
    refine ⟨c, _, rfl, .inl (SqL.of upd_same), _, _, rfl, rfl, ?_⟩
    refine ⟨by rw [upd_ne ncp.symm, upd_ne nlp.symm, upd_same], [(kD, V.ref l), (kS, V.int _)], rfl, by show 2 ≤ 15; decide, ?_⟩
    rw [dkv_m]
    generalize ((362436069 + 8724 : Int) + ((cutV (ns.map V.int) none (some 63)).length : Int)) = st0
    have s1 : Same (upd (upd H p (.dK [])) l (.lst [])) (upd (upd (upd H p (.dK [])) l (.lst [])) c (.lst (cutV (ns.map V.int) none (some 63)))) := same_new nc
    generalize hH1 : upd (upd (upd H p (.dK [])) l (.lst [])) c (.lst (cutV (ns.map V.int) none (some 63))) = H1 at s1
    have l1 : H1 l = some (.lst []) := s1 _ _ upd_same
    have s2 : Same H (upd H1 p (.dK (dkv (.ref l) (.int st0)))) := fun b o e => by
      rw [upd_ne (ne_of_none e np)]
      exact s1 _ _ (s0 _ _ e)
    refine ⟨.ref a, rfl, 63, rfl, a, _, rfl, s2.seq hS, fun c2 nc2 => ?_⟩
    have e63 : cutV (ns.map V.int) none (some 63) = ns.map V.int := by
      unfold cutV
      rw [HT.sIx_none, show HT.sIx (ns.map V.int).length (ns.map V.int).length (some 63) = min 63 (ns.map V.int).length from HT.sIx_nat _ _ 63, List.drop_zero, Nat.sub_zero, List.length_map]
      exact List.take_of_length_le (by rw [List.length_map]; omega)
    rw [e63]
    have c2p : c2 ≠ p := fun z => by rw [z, upd_same] at nc2; cases nc2
    have c2l : c2 ≠ l := fun z => by rw [z, upd_ne nlp, l1] at nc2; cases nc2
    refine ⟨c2, rfl, ⟨_, SqL.of upd_same⟩, for_list (K := K) (a := c2) (xs := ns.map V.int) (fun i σ H2 => ∃ v2 v3 l ds st, σ = [some (.ref a), some (.ref p), v2, v3] ∧ Same H H2 ∧ H2 c2 = some (.lst (ns.map V.int)) ∧ H2 p = some (.dK (dkv (.ref l) (.int st))) ∧ H2 l = some (.lst (ds.map V.int)) ∧ ds.length ≤ i ∧ H l = none ∧ c2 ≠ l)
      ⟨none, none, l, [], st0, rfl, s2.trans (same_new nc2), upd_same, by rw [upd_ne c2p.symm, upd_same], by rw [upd_ne c2l.symm, upd_ne nlp, l1]; rfl, Nat.le_refl _, nl0, c2l⟩ (fun i σ H2 _ ⟨_, _, _, _, _, _, _, h, _⟩ => SqL.of h) ?_ ?_⟩
    · rintro i y σ H2 hi ⟨v2, v3, l, ds, st, rfl, sm, hc, hp, hl, hd, nl, ncl⟩
      have hil : i < ns.length := by
        have := (List.getElem?_eq_some_iff.mp hi).1
        rw [List.length_map] at this
        exact this
      obtain ⟨z, rfl⟩ : ∃ z, y = V.int z := by
        rw [List.getElem?_map] at hi
        cases e : ns[i]? with
        | none => rw [e] at hi; cases hi
        | some z => rw [e] at hi; exact ⟨z, (Option.some.inj hi).symm⟩
      have nlp : l ≠ p := ne_of hl hp (by intro z; cases z)
      refine ⟨.int z, rfl, z, rfl, ?_⟩
      refine ⟨_, _, rfl, rfl, ⟨by decide, by decide, by decide⟩, _, _, rfl, rfl, _, rfl, ?_⟩
      refine join2 (H2 := H2) (R := fun H3 => ∃ (l3 : Addr) (ds3 : List Int), Same H H3 ∧ H3 c2 = some (.lst (ns.map V.int)) ∧ H3 p = some (.dK (dkv (.ref l3) (.int st))) ∧ H3 l3 = some (.lst (ds3.map V.int)) ∧ ds3.length ≤ i + 1 ∧ H l3 = none ∧ c2 ≠ l3 ∧ l3 ≠ p)
        (fun H3 hR => ?_) (fun _ => ⟨l, ds, sm, hc, hp, hl, by omega, nl, ncl, nlp⟩) (fun _ tail => ?_)
      rotate_left
      · refine ⟨.int z, rfl, z, rfl, ?_⟩
        generalize (if z < 0 then -z else z) = wz
        refine ⟨by show 1 ≤ sizeLine; decide, fun l1 nl1 => ⟨.ref p, rfl, p, .ref l, rfl, ?_⟩⟩
        have n1p : l1 ≠ p := (ne_of_none hp nl1).symm
        have n1l : l1 ≠ l := (ne_of_none hl nl1).symm
        have n1c : l1 ≠ c2 := (ne_of_none hc nl1).symm
        have hp1 : upd H2 l1 (.lst [.int wz]) p = some (.dK (dkv (.ref l) (.int st))) := by rw [upd_ne n1p.symm]; exact hp
        refine ⟨by rw [← dkv_d (.ref l) (.int st)]; exact DGet.k (k := kD) hp1, l1, l, _, _, rfl, rfl, upd_same, by rw [upd_ne n1l.symm]; exact hl, by rw [List.length_map]; exact sz (by show 1 + ds.length ≤ 100000; omega), fun l2 nl2 => ?_⟩
        have n2p : l2 ≠ p := (ne_of_none hp1 nl2).symm
        have n2c : l2 ≠ c2 := fun z => by rw [z, upd_ne n1c.symm, hc] at nl2; cases nl2
        have sm2 : Same H (upd (upd H2 l1 (.lst [.int wz])) l2 (.lst ([.int wz] ++ ds.map V.int))) := (sm.trans (same_new nl1)).trans (same_new nl2)
        have hp2 : (upd (upd H2 l1 (.lst [.int wz])) l2 (.lst ([.int wz] ++ ds.map V.int))) p = some (.dK (dkv (.ref l) (.int st))) := by rw [upd_ne n2p.symm]; exact hp1
        refine ⟨.ref p, rfl, p, _, rfl, DPut.k (k := kD) hp2 (by show 2 < sizeLine; decide), ?_⟩
        rw [dkv_pd]
        have nl2' : H l2 = none := (sm.trans (same_new nl1)).free nl2
        refine tail (upd (upd (upd H2 l1 (.lst [.int wz])) l2 (.lst ([.int wz] ++ ds.map V.int))) p (.dK (dkv (.ref l2) (.int st)))) ⟨l2, wz :: ds, (fun b o e => by rw [upd_ne (ne_of_none e np)]; exact sm2 _ _ e), ?_, upd_same, ?_, (by rw [List.length_cons]; omega), nl2', n2c.symm, n2p⟩
        · rw [upd_ne c2p, upd_ne n2c.symm, upd_ne n1c.symm]
          exact hc
        · rw [upd_ne n2p, upd_same]
          rfl
      · obtain ⟨l3, ds3, sm3, hc3, hp3, hl3, hd3, nl3, ncl3, nlp3⟩ := hR
        refine ⟨.int z, rfl, z, rfl, 2, _, rfl, rfl, .inl ⟨by decide, by decide⟩, .int z, rfl, z, 0, rfl, rfl, .inr ⟨_, rfl, ?_⟩⟩
        refine ⟨_, _, rfl, rfl, ?_⟩
        generalize (2 * (if z < 0 then -z else z) + (if decide (z < 0) = true then (1 : Int) else 0)) = wz
        refine ⟨.ref p, rfl, p, .int st, rfl, by rw [← dkv_s (.ref l3) (.int st)]; exact DGet.k (k := kS) hp3, ?_⟩
        refine ⟨_, rfl, _, _, rfl, rfl, _, 1, rfl, rfl, _, 1181783497276652981, rfl, rfl, .inr ⟨by decide, by decide⟩, _, 521288629, rfl, rfl, ?_⟩
        refine .inl ⟨_, rfl, ?_⟩
        refine ⟨_, 2305843009213693951, rfl, rfl, by show (0 : Int) < 2305843009213693951; decide, .ref p, rfl, p, _, rfl, DPut.k (k := kS) hp3 (by show 2 < sizeLine; decide), ?_⟩
        rw [dkv_ps]
        refine ⟨_, _, l3, ds3, _, rfl, fun b o e => ?_, ?_, upd_same, ?_, hd3, nl3, ncl3⟩
        · rw [upd_ne (ne_of_none e np)]
          exact sm3 _ _ e
        · rw [upd_ne c2p]
          exact hc3
        · rw [upd_ne nlp3]
          exact hl3
    · rintro σ H2 ⟨v2, v3, l, ds, st, rfl, sm, hc, hp, hl, hd, nl, ncl⟩
      rw [List.length_map] at hd
      exact ⟨.ref p, rfl, q H2 p l sm np nl ⟨ds, st, hp, hl, by omega⟩⟩
end
end Kr
namespace Kr
open PySem PySem.Spec PyProof.Rows L2
def spDraw : Sp := fun vs H Q _ => ∃ (p l : Addr) (m : Int), vs = [.ref p, .int m] ∧ Deck H p l ∧ m < 1073741824 ∧ ∀ H' r, Deck H' p l → Ext p l H H' → 0 ≤ r → (r < m ∨ r = 0) → Q (.int r) H'
theorem dp_ints {K : PySem.W.Frag} {H : Hp} : ∀ ds : List Int, DpAll K H (ds.map V.int) (ds.map PyData.int)
  | [] => .nil
  | d :: ds => .cons (.int d) (dp_ints ds)
theorem lay_ints : ∀ ds : List Int, PyData.canLayAll0 (ds.map PyData.int) = true
  | [] => by simp [PyData.canLayAll0]
  | d :: ds => by simp [PyData.canLayAll0, PyData.canLay0, lay_ints ds]
theorem dep_ints : ∀ ds : List Int, PyData.depthAll (ds.map PyData.int) ≤ 1
  | [] => by simp [PyData.depthAll]
  | d :: ds => by
    have := dep_ints ds
    simp [PyData.depthAll, PyData.depth]
    omega
theorem shaped_ints (ds : List Int) : SeqAt.shaped (.list (ds.map PyData.int)) = true := by
  unfold SeqAt.shaped
  have := dep_ints ds
  simp [PyData.canLay0, lay_ints ds, PyData.depth]
  omega
theorem eqv_ints_nil (ds : List Int) : PyData.eqv (.list (ds.map PyData.int)) (.list []) = decide (ds = []) := by
  cases ds <;> simp [PyData.eqv, PyData.eqvAll]
theorem Ext.new {p l q : Addr} {H H' : Hp} {o : HO} (e : Ext p l H H') (h : H' q = none) : Ext p l H (upd H' q o) := fun b x hb => by
  have h2 := e b x hb
  obtain ⟨h3, h4, h5⟩ := hid_some h2
  rw [hid_ne h3 h4, upd_ne (ne_of_none h5 h)]
  exact h5
theorem Ext.at {p l q : Addr} {H H' : Hp} {o : HO} (e : Ext p l H H') (h : q = p ∨ q = l) : Ext p l H (upd H' q o) := fun b x hb => by
  have h2 := e b x hb
  obtain ⟨h3, h4, h5⟩ := hid_some h2
  have hq : b ≠ q := fun z => h.elim (fun w => h3 (z.trans w)) fun w => h4 (z.trans w)
  rw [hid_ne h3 h4, upd_ne hq]
  exact h5
section
variable {P : Program} {w : World} {K : PySem.W.Frag} {mg : Str → Option Value} {base : Heap}
theorem scDraw : FnScope ["deck", "many", "whole", "one", "two"] ["deck", "many"] (defScope sDraw) := ⟨rfl, rfl, rfl, by decide +kernel, rfl, by decide +kernel, by decide +kernel⟩
theorem ok_draw {f : Addr} {fd : FuncData} {k : Nat} (F : Fun K "_law_draw" "_law_draw" sDraw f fd) (B : Bi mg) : FnOk P w K mg base CX0 (k + 1) f fd ["deck", "many"] spDraw := by
  refine F.ok scDraw (fun vs H Q E h => ?_) (fun cdv A outer s H vs Q E hr h => ?_)
  · obtain ⟨p, l, m, rfl, _⟩ := h
    rfl
  · obtain ⟨p, l, m, rfl, D, hm, q⟩ := h
    have hu := hu_of hr
    refine ⟨_, pss_cons (ps_if (pt_cmpR op_lt (pv 1) pe_int (nomark _)) (pss_one (ps_ret pe_int)) pss_nil)
      (pss_cons (ps_if (pt_cmpR (op_neD hr.units) (pe_dget hu (pv 0) pe_str (fun _ _ => rfl)) (pe_lst pa_nil) (nomark _))
        (pss_cons (ps_set (i := 2) scDraw.nd rfl (.inl rfl) (pe_bm0 PySem.F.plainAttrs_list PySem.F.slot_list_pop PySem.F.type_list_pop mt_pop (pe_dget hu (pv 0) pe_str (fun _ _ => rfl))))
        (pss_cons (ps_if (pt_cmpR op_ge (pv 2) (pv 1) (nomark _)) (pss_one (ps_expr (pe_bm PySem.F.plainAttrs_list PySem.F.slot_list_append PySem.F.type_list_append mt_append (pe_dget hu (pv 0) pe_str (fun _ _ => rfl)) (pa_cons (pe_op op_fdiv (pv 2) (pv 1)) pa_nil)))) pss_nil)
        (pss_one (ps_ret (pe_op op_mod (pe_callTy call_int1 (by rfl) B.int (by decide +kernel) (pa_cons (pv 2) pa_nil)) (pv 1)))))) pss_nil)
      (pss_cons (ps_set (i := 3) scDraw.nd rfl (.inl rfl) (pe_op op_mod (pe_callTy call_int1 (by rfl) B.int (by decide +kernel) (pa_cons (pe_op op_add (pe_op op_mul (pe_dget hu (pv 0) pe_str (fun _ _ => rfl)) pe_int) pe_int) pa_nil)) pe_int))
      (pss_cons (ps_dput hu (pv 0) pe_str (pv 3) rfl)
      (pss_cons (ps_set (i := 4) scDraw.nd rfl (.inl rfl) (pe_op op_mod (pe_callTy call_int1 (by rfl) B.int (by decide +kernel) (pa_cons (pe_op op_add (pe_op op_add (pe_op op_mul (pv 3) (pv 3)) (pe_op op_mul pe_int (pv 3))) pe_int) pa_nil)) pe_int))
      (pss_one (ps_ret (pe_op op_mod (pe_callTy call_int1 (by rfl) B.int (by decide +kernel) (pa_cons (pe_op op_fdiv (pv 4) pe_int) pa_nil)) (pv 1)))))))), ?_⟩
    refine ⟨.int m, rfl, m, 2, rfl, rfl, _, rfl, ite2 (fun _ => ?_) (fun hm2 => ?_)⟩
    · exact q H 0 D Ext.rfl (Int.le_refl _) (.inr rfl)
    have hm1 : ¬ m < 2 := fun z => hm2 (decide_eq_true z)
    obtain ⟨ds, st, hp, hl, hd⟩ := id D.ex
    have hgd : DGet H p (V.str "deep") (some (.ref l)) := by rw [← dkv_d (.ref l) (.int st)]; exact DGet.k (k := kD) hp
    refine ⟨.ref p, rfl, p, .ref l, rfl, hgd, by show 0 ≤ sizeLine; decide, fun e ne => ?_⟩
    have nep : e ≠ p := (ne_of_none hp ne).symm
    have nel : e ≠ l := (ne_of_none hl ne).symm
    have nlp : l ≠ p := D.ne.symm
    refine ⟨.list (ds.map PyData.int), .list [], .lst (SqL.of (by rw [upd_ne nel.symm]; exact hl)) (dp_ints ds), .lst (SqL.of upd_same) .nil, shaped_ints ds, shaped_ints [], ?_⟩
    rw [eqv_ints_nil]
    have hp1 : upd H e (.lst []) p = some (.dK (dkv (.ref l) (.int st))) := by rw [upd_ne nep.symm]; exact hp
    have hl1 : upd H e (.lst []) l = some (.lst (ds.map V.int)) := by rw [upd_ne nel.symm]; exact hl
    have E1 : Ext p l H (upd H e (.lst [])) := Ext.rfl.new ne
    generalize upd H e (.lst []) = H1 at hp1 hl1 E1
    have hgd1 : DGet H1 p (V.str "deep") (some (.ref l)) := by rw [← dkv_d (.ref l) (.int st)]; exact DGet.k (k := kD) hp1
    have hgs1 : DGet H1 p (V.str "state") (some (.int st)) := by rw [← dkv_s (.ref l) (.int st)]; exact DGet.k (k := kS) hp1
    refine ⟨_, rfl, ?_⟩
    by_cases hds : ds = []
    · -- mixed numbers
      rw [decide_eq_true hds]
      refine iteF ?_
      refine ⟨.ref p, rfl, p, .int st, rfl, hgs1, _, _, rfl, rfl, .inr ⟨by decide, by decide⟩, _, _, rfl, rfl, .inl ⟨_, rfl, _, _, rfl, rfl, (by show (0 : Int) < 2305843009213693951; decide), ?_⟩⟩
      dsimp only
      have o0 : 0 ≤ ((st * 1181783497276652981 + 88172645463325) % 2305843009213693951 : Int) := Int.emod_nonneg _ (by decide)
      have o1 : ((st * 1181783497276652981 + 88172645463325) % 2305843009213693951 : Int) < 2305843009213693951 := Int.emod_lt_of_pos _ (by decide)
      generalize ((st * 1181783497276652981 + 88172645463325) % 2305843009213693951 : Int) = one at o0 o1
      refine ⟨.int one, rfl, .ref p, rfl, p, _, rfl, DPut.k (k := kS) hp1 (by show 2 < sizeLine; decide), ?_⟩
      rw [dkv_ps]
      refine ⟨.int one, rfl, .int one, rfl, _, _, rfl, rfl, .inl ⟨by omega, by omega⟩, .int one, rfl, _, _, rfl, rfl, .inl ⟨by decide, by decide⟩, _, _, rfl, rfl, _, _, rfl, rfl, .inl ⟨_, rfl, _, _, rfl, rfl, (by show (0 : Int) < 2305843009213693921; decide), ?_⟩⟩
      dsimp only
      generalize ((one * one + 374761393 * one + 11) % 2305843009213693921 : Int) = two
      refine ⟨.int two, rfl, _, _, rfl, rfl, ⟨by decide, by decide⟩, .inl ⟨_, rfl, .int m, rfl, _, _, rfl, rfl, (by show 0 < m; omega), ?_⟩⟩
      refine q _ _ ⟨ds, one, upd_same, by rw [upd_ne nlp]; exact hl1, hd⟩ (E1.at (.inl rfl)) (Int.emod_nonneg _ (by omega)) (.inl (Int.emod_lt_of_pos _ (by omega)))
    · -- a digit of a great cell
      rw [decide_eq_false hds]
      refine iteT ?_
      obtain ⟨last, hlast⟩ : ∃ y, ds[ds.length - 1]? = some y := ⟨_, List.getElem?_eq_getElem (by
        have := List.length_pos_iff.mpr hds
        omega)⟩
      refine ⟨.ref p, rfl, p, .ref l, rfl, hgd1, .inl ⟨rfl, _, SqL.of hl1⟩, l, _, .int last, rfl, rfl, hl1, by rw [List.length_map, List.getElem?_map, hlast]; rfl, ?_⟩
      rw [← List.map_dropLast]
      have hdl : ds.dropLast.length ≤ 62 := by rw [List.length_dropLast]; omega
      have hp2 : upd H1 l (.lst (ds.dropLast.map V.int)) p = some (.dK (dkv (.ref l) (.int st))) := by rw [upd_ne nlp.symm]; exact hp1
      have hl2 : upd H1 l (.lst (ds.dropLast.map V.int)) l = some (.lst (ds.dropLast.map V.int)) := upd_same
      have E2 : Ext p l H (upd H1 l (.lst (ds.dropLast.map V.int))) := E1.at (.inr rfl)
      generalize ds.dropLast = ds2 at hdl hp2 hl2 E2
      generalize upd H1 l (.lst (ds2.map V.int)) = H2 at hp2 hl2 E2
      have hgd2 : DGet H2 p (V.str "deep") (some (.ref l)) := by rw [← dkv_d (.ref l) (.int st)]; exact DGet.k (k := kD) hp2
      refine ⟨.int last, rfl, .int m, rfl, _, _, rfl, rfl, _, rfl, ?_⟩
      refine join2 (H2 := H2) (R := fun H3 => ∃ ds3 : List Int, H3 p = some (.dK (dkv (.ref l) (.int st))) ∧ H3 l = some (.lst (ds3.map V.int)) ∧ ds3.length ≤ 63 ∧ Ext p l H H3)
        (fun H3 hR => ?_) (fun _ => ⟨ds2, hp2, hl2, by omega, E2⟩) (fun _ tail => ?_)
      · obtain ⟨ds3, hp3, hl3, hd3, E3⟩ := hR
        refine ⟨.int last, rfl, .inl ⟨_, rfl, .int m, rfl, _, _, rfl, rfl, (by show 0 < m; omega), ?_⟩⟩
        exact q _ _ ⟨ds3, st, hp3, hl3, hd3⟩ E3 (Int.emod_nonneg _ (by omega)) (.inl (Int.emod_lt_of_pos _ (by omega)))
      · refine ⟨.ref p, rfl, p, .ref l, rfl, hgd2, .inl ⟨rfl, _, SqL.of hl2⟩, .int last, rfl, .int m, rfl, _, _, rfl, rfl, ⟨by omega, hm⟩, l, _, _, rfl, rfl, hl2, szl (by rw [List.length_map]; omega), ?_⟩
        refine tail _ ⟨ds2 ++ [last / m], by rw [upd_ne nlp.symm]; exact hp2, ?_, by rw [List.length_append]; show _ + 1 ≤ 63; omega, E2.at (.inr rfl)⟩
        rw [upd_same, List.map_append]
        rfl
end
end Kr
namespace Kr
open PySem PySem.Spec PyProof.Rows L2
/-! ### defs by their names -/
section
variable {P : Program} {w : World} {K : PySem.W.Frag} {mg : Str → Option Value} {base : Heap}
end
/-- one of some items -/
def spPick : Sp := fun vs H Q _ => ∃ (p l a : Addr) (xs : List V), vs = [.ref p, .ref a] ∧ Deck H p l ∧ hid p l H a = some (.lst xs) ∧ xs ≠ [] ∧ xs.length < 1000000 ∧ ∀ H' v, Deck H' p l → Ext p l H H' → v ∈ xs → Q v H'
section
variable {P : Program} {w : World} {K : PySem.W.Frag} {mg : Str → Option Value} {base : Heap}
theorem o_draw (D : Df K mg "_law_draw" sDraw ["deck", "many"]) (B : Bi mg) : Ok P w K mg base 1 "_law_draw" ["deck", "many"] spDraw := D.ok fun _ _ F => ok_draw F B
theorem o_deck (D : Df K mg "_law_deck" sDeck ["script"]) (B : Bi mg) : Ok P w K mg base 1 "_law_deck" ["script"] (spDeck K) := D.ok fun _ _ F => ok_deck F B
theorem scPick : FnScope ["deck", "some"] ["deck", "some"] (defScope sPick) := ⟨rfl, rfl, rfl, by decide +kernel, rfl, by decide +kernel, by decide +kernel⟩
theorem o_pick (D : Df K mg "_law_pick" sPick ["deck", "some"]) (B : Bi mg) (d : Ok P w K mg base 1 "_law_draw" ["deck", "many"] spDraw) : Ok P w K mg base 2 "_law_pick" ["deck", "some"] spPick := by
  refine D.ok fun f fd F => F.ok scPick (fun vs H Q E h => ?_) (fun cdv A outer s H vs Q E hr h => ?_)
  · obtain ⟨p, l, a, xs, rfl, _⟩ := h
    rfl
  · obtain ⟨p, l, a, xs, rfl, Dk, ha, hne, hlen, q⟩ := h
    refine ⟨_, pss_one (ps_ret (pe_ix ix_list (pv 1) (pe_fn d hr (by rfl) (pa_cons (pv 0) (pa_cons (pe_callB call_len_seq (by rfl) B.len boot_len (pa_cons (pv 1) pa_nil)) pa_nil))) (fun _ _ => rfl))), ?_⟩
    have hpos := List.length_pos_iff.mpr hne
    refine ⟨.ref a, rfl, .ref p, rfl, .ref a, rfl, a, xs, rfl, .inl (SqL.of (hid_same p l H _ _ ha)), p, l, _, rfl, Dk, by show (xs.length : Int) < 1073741824; omega, fun H' r Dk' e h0 h1 => ?_⟩
    have hr2 : r.toNat < xs.length := by omega
    refine ⟨a, xs, r, xs[r.toNat], rfl, rfl, SqL.of (hid_same p l H' _ _ (e _ _ ha)), ?_, q H' _ Dk' e (List.getElem_mem hr2)⟩
    exact atI_int h0 (List.getElem?_eq_getElem hr2)
end
end Kr
namespace Kr
open PySem PySem.Spec PyProof.Rows L2
/-! ### beside the deck -/
theorem Ext.mut {p l f : Addr} {H H' : Hp} {o : HO} (e : Ext p l H H') (h : H f = none) : Ext p l H (upd H' f o) := fun b x hb => by
  obtain ⟨_, _, h5⟩ := hid_some hb
  obtain ⟨h1, h2, h3⟩ := hid_some (e b x hb)
  rw [hid_ne h1 h2, upd_ne (ne_of_none h5 h)]
  exact h3
theorem Deck.mut {H : Hp} {p l f : Addr} {o : HO} (d : Deck H p l) (h1 : f ≠ p) (h2 : f ≠ l) : Deck (upd H f o) p l := by
  obtain ⟨ds, st, a, b, c⟩ := d.ex
  exact ⟨ds, st, by rw [upd_ne h1.symm]; exact a, by rw [upd_ne h2.symm]; exact b, c⟩
theorem Ext.free {p l f : Addr} {H H' : Hp} (e : Ext p l H H') (h : H' f = none) (h1 : f ≠ p) (h2 : f ≠ l) : H f = none := by
  cases q : H f with
  | none => rfl
  | some o =>
    have := (hid_some (e f o (by rw [hid_ne h1 h2]; exact q))).2.2
    rw [h] at this
    cases this
theorem Ext.at_ {p l f : Addr} {H H' : Hp} {o : HO} (e : Ext p l H H') (h1 : f ≠ p) (h2 : f ≠ l) (q : H f = some o) : H' f = some o := (hid_some (e f o (by rw [hid_ne h1 h2]; exact q))).2.2
/-- tuples stand apart from the deck -/
theorem TS.hide {p l : Addr} {H : Hp} (D : Deck H p l) : TS H (hid p l H) := fun b xs h => by
  obtain ⟨ds, st, h1, h2, _⟩ := D.ex
  rw [hid_ne (ne_of h h1 (by intro z; cases z)) (ne_of h h2 (by intro z; cases z))]
  exact h
theorem TS.deck {p l : Addr} {H H' : Hp} (D : Deck H p l) (E : Ext p l H H') : TS H H' := (TS.hide D).trans ((TS.of E).trans (TS.of (hid_same p l H')))
/-- a list of a new address stands apart -/
structure Apart (p l f : Addr) : Prop where
  p : f ≠ p
  l : f ≠ l
theorem Deck.apart {H : Hp} {p l q : Addr} (d : Deck H p l) (h : H q = none) : Apart p l q := ⟨(d.new h).1, (d.new h).2⟩
theorem Apart.of {H : Hp} {p l f : Addr} (d : Deck H p l) (h : hid p l H f ≠ none) : Apart p l f := by
  cases q : hid p l H f with
  | none => exact absurd q h
  | some o => exact ⟨(hid_some q).1, (hid_some q).2.1⟩
end Kr
namespace Kr
open PySem PySem.Spec PyProof.Rows L2
theorem new_dq {p l q : Addr} {H : Hp} {o : HO} (D : Deck H p l) (h : H q = none) : Ext p l H (upd H q o) ∧ Deck (upd H q o) p l ∧ hid p l (upd H q o) q = some o := by
  obtain ⟨h1, h2⟩ := D.new h
  exact ⟨Ext.rfl.new h, D.mut h1 h2, hid_upd h1 h2⟩
theorem seqIx {r : Int} {n : Nat} (h0 : 0 ≤ r) (h1 : r < n) : seqIndex? r n = some r.toNat := (ixN_seq (by unfold ixN; rw [if_pos h0, if_pos h1])).1
theorem erasev_perm (zs : List V) {k : Nat} (h : k < zs.length) : (zs[k] :: zs.eraseIdx k).Perm zs := by
  rw [List.eraseIdx_eq_take_drop_succ]
  have e : zs = zs.take k ++ zs[k] :: zs.drop (k + 1) := by
    rw [← List.drop_eq_getElem_cons h, List.take_append_drop]
  exact List.perm_middle.symm.trans (.of_eq e.symm)
/-- items in a drawn order -/
def spMixV : Sp := fun vs H Q _ => ∃ (p l a : Addr) (xs : List V), vs = [.ref p, .ref a] ∧ Deck H p l ∧ hid p l H a = some (.lst xs) ∧ xs.length ≤ 1000 ∧
  ∀ (H' : Hp) (f : Addr) (ys : List V), Deck H' p l → Ext p l H H' → H f = none → hid p l H' f = some (.lst ys) → ys.Perm xs → Q (.ref f) H'
def spDeed : Sp := fun vs H Q _ => ∃ (p l : Addr) (n : Nat), vs = [.ref p, .int (n : Int)] ∧ Deck H p l ∧ 3 ≤ n ∧ n ≤ 6 ∧ ∀ H' v m, Deck H' p l → Ext p l H H' → DeedAt H' v m → Deed n m → Q v H'
def spDrawn : Sp := fun vs H Q _ => ∃ (p l : Addr) (n : Nat), vs = [.ref p, .int (n : Int)] ∧ Deck H p l ∧ 3 ≤ n ∧ n ≤ 6 ∧ ∀ H' v T, Deck H' p l → Ext p l H H' → Dq H' v (tabD T) → TabOk n T → Q v H'
end Kr
namespace Kr
open PySem PySem.Spec PyProof.Rows L2
/-! ### beside an empty list -/
def rEqN : R2 := fun x y H Q => ∃ l b xs, x = .ref l ∧ y = .ref b ∧ H l = some (.lst xs) ∧ H b = some (.lst []) ∧ Q (.bl xs.isEmpty) H
theorem op_eqN {X : Cx} (hu : X.A.units + 64 < cLine) : OpR X (compareOp .Eq) rEqN := by
  intro pins s σ H x y v u Q I rx ry h
  obtain ⟨l, b, xs, rfl, rfl, hl, hb, q⟩ := h
  obtain rfl : v = Value.ref l := rx
  obtain rfl : u = Value.ref b := ry
  obtain ⟨its, r1, p1, _⟩ := I.list (SqL.of (K := X.K) hl)
  obtain ⟨it2, r2, p2, _⟩ := I.list (SqL.of (K := X.K) hb)
  cases r2
  cases r1 with
  | nil => exact SeqAt.RcAt.lists (e := fun _ => true) p1.isList p2.isList rfl (by omega) (fun j h1 _ => absurd h1 (by simp)) X.prog X.w X.xe _ ⟨.bl true, H, I, by rfl, q⟩
  | cons _ _ => exact SeqAt.RcAt.lists_lengths p1.isList p2.isList (by simp) (by omega) X.prog X.w X.xe _ ⟨.bl false, H, I, rfl, q⟩
/-- a list beside one without items -/
def rNeN : R2 := fun x y H Q => ∃ l b xs, x = .ref l ∧ y = .ref b ∧ H l = some (.lst xs) ∧ H b = some (.lst []) ∧ Q (.bl (!xs.isEmpty)) H
theorem op_neN {X : Cx} (hu : X.A.units + 64 < cLine) : OpR X (compareOp .NotEq) rNeN := by
  intro pins s σ H x y v u Q I rx ry h
  obtain ⟨l, b, xs, rfl, rfl, hl, hb, q⟩ := h
  obtain rfl : v = Value.ref l := rx
  obtain rfl : u = Value.ref b := ry
  obtain ⟨its, r1, p1, _⟩ := I.list (SqL.of (K := X.K) hl)
  obtain ⟨it2, r2, p2, _⟩ := I.list (SqL.of (K := X.K) hb)
  cases r2
  have hn : its.length = xs.length := r1.length.symm
  by_cases he : xs = []
  · subst he
    have : its = [] := List.length_eq_zero_iff.mp hn
    subst this
    exact SeqAt.RcNeAt.lists (e := fun _ => true) p1.isList p2.isList rfl (by omega) (fun j h1 _ => absurd h1 (by simp)) X.prog X.w X.xe _ ⟨.bl false, H, I, by rfl, q⟩
  · have hne : (its.toArray.size != ([] : List Value).toArray.size) = true := by
      have := List.length_pos_iff.mpr he
      simp
      intro z
      subst z
      simp at hn
      exact he (List.length_eq_zero_iff.mp hn.symm)
    have e1 : (!xs.isEmpty) = true := by
      cases xs with
      | nil => exact absurd rfl he
      | cons _ _ => rfl
    rw [e1] at q
    exact SeqAt.RcNeAt.lists_lengths p1.isList p2.isList hne (by omega) X.prog X.w X.xe _ ⟨.bl true, H, I, rfl, q⟩
/-- zip of two tuples, of any lengths -/
theorem walk_zipT {K : PySem.W.Frag} {a b : Addr} {xs ys : List V} {n : Nat} (hn : n = min xs.length ys.length) : Walk (RZ.ItzT K a b) n (fun H => SqT K H a xs ∧ SqT K H b ys) (YPair (fun i => xs[i]?) (fun i => ys[i]?)) := by
  subst hn
  refine ⟨fun i _ hi q => ?_, fun _ ⟨q1, q2⟩ => ⟨xs, ys, q1, q2, (by omega)⟩, fun i H v H' _ ⟨q1, q2⟩ y => ?_⟩
  · obtain ⟨g1, g2⟩ := Nat.lt_min.mp hi
    exact ⟨xs, ys, xs[i], ys[i], q.1, q.2, List.getElem?_eq_getElem g1, List.getElem?_eq_getElem g2⟩
  · obtain ⟨T, x, z, t1, t2, t3, t4, t5⟩ := y
    exact ⟨T, x, z, t1, t2, t3, t4 _ q1, t5 _ q2⟩
theorem vals_ints_flat (ns : List Int) : flatV (.int 0) = true := rfl
end Kr
namespace Kr
open PySem PySem.Spec PyProof.Rows L2
/-! ### zip of a list and a tuple -/
section
variable {prog : Program} {w : World} {A : Around} {E : Value → Shared → Prop} {s : Shared}
abbrev Rest (h h' : Heap) (z TO i1 i2 : Addr) : Prop := ∀ c o, c ≠ z → c ≠ TO → c ≠ i1 → c ≠ i2 → h.get? c = some o → h'.get? c = some o
theorem zlt_item {z TI TO i1 i2 l1 l2 : Addr} {k : Nat} {xs ys : Array Value} {x y a b : Value} {W : Value → Shared → Prop} (D : ZipApart z TI TO i1 i2 l1 l2) (gz : IsZip s.heap z TI TO .none) (gI : IsPair s.heap TI (.ref i1) (.ref i2)) (gO : IsPair s.heap TO a b)
    (f1 : s.heap.IsListIter i1 l1 k) (f2 : s.heap.IsTupleIter i2 l2 k) (c1 : s.heap.IsList l1 xs) (c2 : s.heap.IsTuple l2 ys) (ex : xs[k]? = some x) (ey : ys[k]? = some y)
    (fin : ∀ h', IsZip h' z TI TO (rawInt s.heap.objs.size) → IsPair h' TO x y → h'.IsListIter i1 l1 (k + 1) → h'.IsTupleIter i2 l2 (k + 1) → IsPair h' s.heap.objs.size x y → h'.objs.size = s.heap.objs.size + 1 → Rest s.heap h' z TO i1 i2 → W (.ref s.heap.objs.size) { s with heap := h' }) :
    wpAny (model prog w) A (Builtin.«zip.__next__» ⟨[.ref z], []⟩) (fun f s' => ∃ v, f = .done (.ret v) ∧ W v s') E s := by
  show wpAny _ _ (field (.ref z) 2 >>= _) _ _ _; refine wpAny_bind (wpAny_field gz rfl (x := .bool false) rfl ?_)
  show wpAny _ _ (field (.ref z) 3 >>= _) _ _ _; refine wpAny_bind (wpAny_field gz rfl (x := .ref TI) rfl (wpAny_bind (wpAny_seqItems gI rfl ?_)))
  show wpAny _ _ (Builtin.SmallTypes.ownedTupleIsFree (.ref z) >>= _) _ _ _; refine wpAny_bind ?_; unfold Builtin.SmallTypes.ownedTupleIsFree
  refine wpAny_bind (wpAny_field gz rfl (x := .none) rfl (wpAny_pure ?_)); simp only [if_true]
  refine wpAny_bind (wpAny_rule (wpAny_bind (wpAny_field gz rfl (x := .ref TO) rfl (wpAny_bind (wpAny_setField_rec gz (by simp) fun ha ga ea => ?_)))))
  replace ga : IsZip ha z TI TO .ellipsis := ga
  refine wpAny_bind ?_; simp only [List.zipIdx_cons, List.zipIdx_nil, List.forIn_cons, List.forIn_nil]
  refine wpAny_bind (wpAny_bind (wpAny_onRaise ?_)); show wpAny _ _ (Builtin.SmallTypes.nextOf (.ref i1) >>= _) _ _ _
  refine wpAny_bind (wpAny_nextOf_list_item (f1.extBut ea.extBut D.i1z) (c1.extBut ea.extBut D.l1z) ex fun hb fb eb => wpAny_pure ?_)
  have gb : IsPair hb TO a b := eb.extBut _ _ D.TOi1 (ea.extBut _ _ D.TOz gO)
  refine wpAny_bind (wpAny_seqItems gb rfl (wpAny_bind (wpAny_updateSeq_pair gb fun hc gc ec => wpAny_bind (wpAny_letGo (wpAny_pure ?_)))))
  replace gc : IsPair hc TO x b := gc
  refine wpAny_bind (wpAny_bind (wpAny_onRaise ?_)); show wpAny _ _ (Builtin.SmallTypes.nextOf (.ref i2) >>= _) _ _ _
  refine wpAny_bind (RZ.nextOf_tuple_item (((f2.extBut ea.extBut D.i2z).extBut eb.extBut D.i12.symm).extBut ec.extBut D.TOi2.symm) (((c2.extBut ea.extBut D.l2z).extBut eb.extBut D.l2i1).extBut ec.extBut D.l2TO) ey fun hd fd ed => wpAny_pure ?_)
  have gd : IsPair hd TO x b := ed.extBut _ _ D.TOi2 gc
  refine wpAny_bind (wpAny_seqItems gd rfl (wpAny_bind (wpAny_updateSeq_pair gd fun he ge ee => wpAny_bind (wpAny_letGo (wpAny_pure (wpAny_pure ?_))))))
  replace ge : IsPair he TO x y := ge
  refine wpAny_bind (wpAny_seqItems ge rfl (wpAny_bind (wpAny_newTuple ?_)))
  have size0 : he.objs.size = s.heap.objs.size := by rw [ee.1, ed.1, ec.1, eb.1, ea.1]
  have gz5 : IsZip he z TI TO .ellipsis := ee.extBut _ _ D.TOz.symm (ed.extBut _ _ D.i2z.symm (ec.extBut _ _ D.TOz.symm (eb.extBut _ _ D.i1z.symm ga)))
  have rest5 : Rest s.heap he z TO i1 i2 := fun c o n1 n2 n3 n4 q => ee.extBut _ _ n2 (ed.extBut _ _ n4 (ec.extBut _ _ n2 (eb.extBut _ _ n3 (ea.extBut _ _ n1 q))))
  have fa5 : he.IsListIter i1 l1 (k + 1) := ((fb.extBut ec.extBut D.TOi1.symm).extBut ed.extBut D.i12).extBut ee.extBut D.TOi1.symm
  have fb5 : he.IsTupleIter i2 l2 (k + 1) := fd.extBut ee.extBut D.TOi2.symm
  have ltz : z < he.objs.size := Heap.lt_size gz5
  show wpAny _ _ (Builtin.SmallTypes.ownedTupleHandOut (.ref z) (.ref he.objs.size) >>= _) _ _ _; refine wpAny_bind ?_; unfold Builtin.SmallTypes.ownedTupleHandOut
  have gz6 : IsZip (he.push { cls := .type "tuple", data := .seq #[x, y] }) z TI TO .ellipsis := Heap.get?_push_of_some _ gz5
  refine wpAny_bind (wpAny_setField_rec gz6 (by simp) fun hf gf ef => ?_)
  replace gf : IsZip hf z TI TO (rawInt he.objs.size) := gf
  refine wpAny_setField_rec gf (by simp) fun hg gg eg => ?_
  replace gg : IsZip hg z TI TO (rawInt he.objs.size) := gg
  have lift : ∀ c o, c ≠ z → he.get? c = some o → hg.get? c = some o := fun c o n q => eg.extBut _ _ n (ef.extBut _ _ n (Heap.get?_push_of_some _ q))
  have gT : IsPair hg he.objs.size x y := eg.extBut _ _ (Nat.ne_of_gt ltz) (ef.extBut _ _ (Nat.ne_of_gt ltz) (Heap.get?_push_size _ rfl))
  have sz8 : hg.objs.size = he.objs.size + 1 := by rw [eg.1, ef.1, Heap.size_push]
  rw [size0] at gg gT sz8
  refine wpAny_pure ⟨_, rfl, ?_⟩; show W (.ref he.objs.size) _; rw [size0]
  exact fin hg gg (lift _ _ D.TOz ge) (fa5.at fun o q => lift _ o D.i1z q) (fb5.at fun o q => lift _ o D.i2z q) gT sz8 fun c o n1 n2 n3 n4 q => lift c o n1 (rest5 c o n1 n2 n3 n4 q)
theorem zlt_end {z TI TO i1 i2 l1 l2 : Addr} {k : Nat} {xs ys : Array Value} {a b : Value} {W : Fin → Shared → Prop} (hh : A.handled = none) (D : ZipApart z TI TO i1 i2 l1 l2) (gz : IsZip s.heap z TI TO .none) (gI : IsPair s.heap TI (.ref i1) (.ref i2)) (gO : IsPair s.heap TO a b)
    (f1 : s.heap.IsListIter i1 l1 k) (f2 : s.heap.IsTupleIter i2 l2 k) (c1 : s.heap.IsList l1 xs) (c2 : s.heap.IsTuple l2 ys) (stop : xs[k]? = none ∨ ys[k]? = none)
    (out : ∀ h' e, Rest s.heap h' z TO i1 i2 → (∃ o, h'.get? e = some o ∧ o.cls = .type "StopIteration") → E (.ref e) { s with heap := h' }) : wpAny (model prog w) A (Builtin.«zip.__next__» ⟨[.ref z], []⟩) W E s := by
  show wpAny _ _ (field (.ref z) 2 >>= _) _ _ _; refine wpAny_bind (wpAny_field gz rfl (x := .bool false) rfl ?_)
  show wpAny _ _ (field (.ref z) 3 >>= _) _ _ _; refine wpAny_bind (wpAny_field gz rfl (x := .ref TI) rfl (wpAny_bind (wpAny_seqItems gI rfl ?_)))
  show wpAny _ _ (Builtin.SmallTypes.ownedTupleIsFree (.ref z) >>= _) _ _ _; refine wpAny_bind ?_; unfold Builtin.SmallTypes.ownedTupleIsFree
  refine wpAny_bind (wpAny_field gz rfl (x := .none) rfl (wpAny_pure ?_)); simp only [if_true]
  refine wpAny_bind (wpAny_rule (wpAny_bind (wpAny_field gz rfl (x := .ref TO) rfl (wpAny_bind (wpAny_setField_rec gz (by simp) fun ha ga ea => ?_)))))
  replace ga : IsZip ha z TI TO .ellipsis := ga
  refine wpAny_bind ?_; simp only [List.zipIdx_cons, List.zipIdx_nil, List.forIn_cons, List.forIn_nil]
  refine wpAny_bind (wpAny_bind (wpAny_onRaise ?_)); show wpAny _ _ (Builtin.SmallTypes.nextOf (.ref i1) >>= _) _ _ _
  cases ex : xs[k]? with
  | none =>
    refine wpAny_bind (wpAny_nextOf_list_end hh (f1.extBut ea.extBut D.i1z) (c1.extBut ea.extBut D.l1z) ex fun hb e eb stp => ?_)
    obtain ⟨oe, goe, ce⟩ := stp
    have gb : IsZip hb z TI TO .ellipsis := eb _ _ D.i1z.symm ga
    have nez : e ≠ z := fun q => by subst q; rw [gb] at goe; cases goe; simp at ce
    exact wpAny_setField_rec gb (by simp) fun hc _ ec => out hc e (fun c o n1 _ n3 _ q => ec.extBut _ _ n1 (eb _ _ n3 (ea.extBut _ _ n1 q))) ⟨oe, ec.extBut _ _ nez goe, ce⟩
  | some x =>
    have ey : ys[k]? = none := by rcases stop with q | q; rw [ex] at q; cases q; exact q
    refine wpAny_bind (wpAny_nextOf_list_item (f1.extBut ea.extBut D.i1z) (c1.extBut ea.extBut D.l1z) ex fun hb fb eb => wpAny_pure ?_)
    have gb : IsPair hb TO a b := eb.extBut _ _ D.TOi1 (ea.extBut _ _ D.TOz gO)
    refine wpAny_bind (wpAny_seqItems gb rfl (wpAny_bind (wpAny_updateSeq_pair gb fun hc gc ec => wpAny_bind (wpAny_letGo (wpAny_pure ?_)))))
    refine wpAny_bind (wpAny_bind (wpAny_onRaise ?_)); show wpAny _ _ (Builtin.SmallTypes.nextOf (.ref i2) >>= _) _ _ _
    refine wpAny_bind (RZ.nextOf_tuple_end hh (((f2.extBut ea.extBut D.i2z).extBut eb.extBut D.i12.symm).extBut ec.extBut D.TOi2.symm) (((c2.extBut ea.extBut D.l2z).extBut eb.extBut D.l2i1).extBut ec.extBut D.l2TO) ey fun hd e ed stp => ?_)
    obtain ⟨oe, goe, ce⟩ := stp
    have gd : IsZip hd z TI TO .ellipsis := ed _ _ D.i2z.symm (ec.extBut _ _ D.TOz.symm (eb.extBut _ _ D.i1z.symm ga))
    have nez : e ≠ z := fun q => by subst q; rw [gd] at goe; cases goe; simp at ce
    exact wpAny_setField_rec gd (by simp) fun he _ ee => out he e (fun c o n1 n2 n3 n4 q => ee.extBut _ _ n1 (ed _ _ n4 (ec.extBut _ _ n2 (eb.extBut _ _ n3 (ea.extBut _ _ n1 q))))) ⟨oe, ee.extBut _ _ nez goe, ce⟩
/-- the zip object -/
abbrev q1 (h : Heap) (l1 : Addr) : Heap := h.push { cls := .type "list_iterator", data := .fields #[.ref l1, .int 0 0] }
abbrev q2 (h : Heap) (l1 l2 : Addr) : Heap := (q1 h l1).push { cls := .type "tuple_iterator", data := .fields #[.ref l2, .int 0 0] }
abbrev q3 (h : Heap) (l1 l2 : Addr) : Heap := (q2 h l1 l2).push { cls := .type "tuple", data := .seq #[.ref h.objs.size, .ref (q1 h l1).objs.size] }
abbrev q4 (h : Heap) (l1 l2 : Addr) : Heap := (q3 h l1 l2).push { cls := .type "tuple", data := .seq #[.none, .none] }
abbrev q5 (h : Heap) (l1 l2 : Addr) : Heap := (q4 h l1 l2).push { cls := .type "zip", data := .fields #[.none, .bool false, .bool false, .ref (q2 h l1 l2).objs.size, .ref (q3 h l1 l2).objs.size] }
theorem meets_zlt (l1 l2 : Addr) (xs ys : Array Value) : Meets (Builtin.«zip.__new__» ⟨[.type "zip", .ref l1, .ref l2], []⟩) (fun _ R s => s.heap.IsList l1 xs ∧ s.heap.IsTuple l2 ys ∧ R (.ok (.ret (.ref (q4 s.heap l1 l2).objs.size))) { s with heap := q5 s.heap l1 l2 }) :=
  .of_wp fun prog w A R s h => by
    obtain ⟨hp, g, d, tk, os⟩ := s; obtain ⟨c1, c2, h⟩ := h
    have hsub := sub_zip
    have L1 : Heap.IsList (Shared.heap ⟨hp, g, d, tk, os⟩) l1 xs := c1
    have L2 : Heap.IsTuple (Shared.heap ⟨hp.push { cls := .type "list_iterator", data := .fields #[.ref l1, .int 0 0] }, g, d, tk, os⟩) l2 ys := Heap.IsTuple.push c2 _
    wp_walk using wpAny_pyIter_list L1, wpAny_pyIter_tuple L2
    exact ⟨_, rfl, h⟩
theorem call_zlt {l1 l2 : Addr} {xs ys : Array Value} {W : Value → Shared → Prop} (c1 : s.heap.IsList l1 xs) (c2 : s.heap.IsTuple l2 ys)
    (h : ∀ h', IsZip h' (s.heap.objs.size + 4) (s.heap.objs.size + 2) (s.heap.objs.size + 3) .none → IsPair h' (s.heap.objs.size + 2) (.ref s.heap.objs.size) (.ref (s.heap.objs.size + 1)) → IsPair h' (s.heap.objs.size + 3) .none .none → h'.IsListIter s.heap.objs.size l1 0 → h'.IsTupleIter (s.heap.objs.size + 1) l2 0 →
      (∀ c o, s.heap.get? c = some o → h'.get? c = some o) → W (.ref (s.heap.objs.size + 4)) { s with heap := h' }) : wpAny (model prog w) A (call (.type "zip") [.ref l1, .ref l2]) W E s := by
  refine callType_new F.called_zip (by decide) (F.typeCall_zip_2 _ _) (F.newCall_zip_2 _ _) (fun ob => F.args_object_init_3 ob _ _) F.entry_zip_new (meets_zlt l1 l2 xs ys) ⟨c1, c2, ?_⟩
  have n1 : (q1 s.heap l1).objs.size = s.heap.objs.size + 1 := Heap.size_push ..
  have n2 : (q2 s.heap l1 l2).objs.size = s.heap.objs.size + 2 := by rw [Heap.size_push, n1]
  have n3 : (q3 s.heap l1 l2).objs.size = s.heap.objs.size + 3 := by rw [Heap.size_push, n2]
  have n4 : (q4 s.heap l1 l2).objs.size = s.heap.objs.size + 4 := by rw [Heap.size_push, n3]
  have p5 : (q5 s.heap l1 l2).get? (q4 s.heap l1 l2).objs.size = some _ := Heap.get?_push_size _ rfl
  have p4 : (q5 s.heap l1 l2).get? (q3 s.heap l1 l2).objs.size = some _ := Heap.get?_push_of_some _ (Heap.get?_push_size _ rfl)
  have p3 : (q5 s.heap l1 l2).get? (q2 s.heap l1 l2).objs.size = some _ := Heap.get?_push_of_some _ (Heap.get?_push_of_some _ (Heap.get?_push_size _ rfl))
  have p2 : (q5 s.heap l1 l2).get? (q1 s.heap l1).objs.size = some _ := Heap.get?_push_of_some _ (Heap.get?_push_of_some _ (Heap.get?_push_of_some _ (Heap.get?_push_size _ rfl)))
  have p1 : (q5 s.heap l1 l2).get? s.heap.objs.size = some _ := Heap.get?_push_of_some _ (Heap.get?_push_of_some _ (Heap.get?_push_of_some _ (Heap.get?_push_of_some _ (Heap.get?_push_size _ rfl))))
  show _ ∧ _; rw [n2, n3, n4] at p5; rw [n1, n2] at p3; rw [n3] at p4; rw [n1] at p2; rw [n4]
  exact ⟨⟨_, p5, rfl⟩, h _ p5 p3 p4 ⟨_, p1, rfl, rfl⟩ ⟨_, p2, rfl, rfl⟩ fun c o x => Heap.get?_push_of_some _ (Heap.get?_push_of_some _ (Heap.get?_push_of_some _ (Heap.get?_push_of_some _ (Heap.get?_push_of_some _ x))))⟩
end
/-- the walk of it: a new pair each turn -/
def ItzM (K : PySem.W.Frag) (a b : Addr) : It :=
  ⟨fun i H => ∃ (xs ys : List V) (x y : V), SqL K H a xs ∧ SqT K H b ys ∧ xs[i]? = some x ∧ ys[i]? = some y,
    fun i H v H' => ∃ T x y, v = .ref T ∧ H T = none ∧ H' = upd H T (.tup [x, y]) ∧ (∀ xs, SqL K H a xs → xs[i]? = some x) ∧ ∀ ys, SqT K H b ys → ys[i]? = some y,
    fun i H => ∃ xs ys : List V, SqL K H a xs ∧ SqT K H b ys ∧ (xs.length ≤ i ∨ ys.length ≤ i)⟩
theorem turn_zlt {P : Program} {w : World} {K : PySem.W.Frag} {elts : List Expr} {kk : Nat} {tpos : Pos} {a b z TI TO i1 i2 : Addr} (D : ZipApart z TI TO i1 i2 a b) :
    Turn P w K (.Tuple elts kk tpos) (ItzM K a b) [z, TI, TO, i1, i2] z (fun i h => IsZip h z TI TO .none ∧ IsPair h TI (.ref i1) (.ref i2) ∧ (∃ x y, IsPair h TO x y) ∧ h.IsListIter i1 a i ∧ h.IsTupleIter i2 b i) where
  mem := by simp
  obj := fun i h st c hc => by
    obtain ⟨gz, gI, ⟨x, y, gO⟩, ⟨o1, e1, _, d1⟩, ⟨o2, e2, _, d2⟩⟩ := st
    have cases5 : c = z ∨ c = TI ∨ c = TO ∨ c = i1 ∨ c = i2 := by simpa using hc
    exact cases5.elim (fun e => e ▸ ⟨_, gz, fun v q => nomatch q⟩) fun r => r.elim (fun e => e ▸ ⟨_, gI, fun v q => nomatch q⟩) fun r => r.elim (fun e => e ▸ ⟨_, gO, fun v q => nomatch q⟩) fun r => r.elim (fun e => e ▸ ⟨o1, e1, fun v q => by rw [d1] at q; cases q⟩) fun e => e ▸ ⟨o2, e2, fun v q => by rw [d2] at q; cases q⟩
  keep := fun i h h' ⟨gz, gI, ⟨x, y, gO⟩, f1, f2⟩ k => ⟨k z (by simp) _ gz, k TI (by simp) _ gI, ⟨x, y, k TO (by simp) _ gO⟩, f1.at fun o q => k i1 (by simp) o q, f2.at fun o q => k i2 (by simp) o q⟩
  item := by
    intro X eP ew eK calm i pins s σ H E I fp st hg
    subst eP ew eK
    obtain ⟨gz, gI, ⟨x0, y0, gO⟩, f1, f2⟩ := st
    obtain ⟨xs, ys, x, y, qx, qy, ex, ey⟩ := hg
    obtain ⟨its, rv, p, _⟩ := I.list qx
    obtain ⟨its2, rv2, p2, _⟩ := I.tuple qy
    obtain ⟨u, hu, ru⟩ := rv.get ex
    obtain ⟨u2, hu2, ru2⟩ := rv2.get ey
    have zl : z < s.heap.objs.size := Heap.lt_size gz
    have hT : s.TypeIs (.ref z) "zip" := ⟨_, gz, rfl⟩
    unfold pyNext
    refine wpAny_bind (wpAny_attempt (wpAny_callSpecial?_slot (name := Str.ofString "__next__") hT F.slot_zip_next (wpAny_call_entry F.slot_zip_next hT F.entry_zip_next (zlt_item D gz gI gO f1 f2 p.isList p2 (x := u) (y := u2) (by simpa using hu) (by simpa using hu2) fun h' z' o' w1 w2 gT gs rst => wpAny_pure ?_) (F.args_zip_next_1 _))))
    refine ⟨_, rfl, wpAny_letOwnedTupleGo_zip (s := { s with heap := h' }) z' fun h'' z'' sb => ?_⟩
    have gT2 : h''.get? s.heap.objs.size = some { cls := .type "tuple", data := .seq #[u, u2] } := (sb.2 _ (Nat.ne_of_gt zl)).trans gT
    have rst2 : ∀ c o, c ∉ [z, TI, TO, i1, i2] → s.heap.get? c = some o → h''.get? c = some o := fun c o nb q => by
      simp only [List.mem_cons, List.not_mem_nil, or_false, not_or] at nb
      exact (sb.2 c nb.1).trans (rst c o nb.1 nb.2.2.1 nb.2.2.2.1 nb.2.2.2.2 q)
    have I1 : Inv X pins σ (upd H s.heap.objs.size (.tup [x, y])) { s with heap := h'' } :=
      I.turnedNew (t' := s.toks) (ch := [z, TI, TO, i1, i2]) rst2 fp (Nat.le_refl _) ⟨by show 2 ≤ sizeLine; decide, [u, u2], .cons ru (.cons ru2 .nil), ⟨_, gT2, rfl, _, rfl⟩⟩
    refine ⟨.ref s.heap.objs.size, _, I1, rfl, ⟨_, x, y, rfl, I.hok.fresh (Nat.le_refl _), rfl, fun l hl => by rw [I.list_inj hl qx]; exact ex, fun l hl => by rw [I.tuple_inj hl qy]; exact ey⟩, ⟨z'', (sb.2 _ D.TIz).trans (rst _ _ D.TIz D.TITO D.TIi1 D.TIi2 gI), ⟨u, u2, (sb.2 _ D.TOz).trans o'⟩, w1.at fun o q => (sb.2 _ D.i1z).trans q, w2.at fun o q => (sb.2 _ D.i2z).trans q⟩, fun c hcm => ?_⟩
    have lt : c < s.heap.objs.size := by
      have cases5 : c = z ∨ c = TI ∨ c = TO ∨ c = i1 ∨ c = i2 := by simpa using hcm
      obtain ⟨_, e1, _⟩ := f1
      obtain ⟨_, e2, _⟩ := f2
      exact cases5.elim (fun e => e ▸ zl) fun r => r.elim (fun e => e ▸ Heap.lt_size gI) fun r => r.elim (fun e => e ▸ Heap.lt_size gO) fun r => r.elim (fun e => e ▸ Heap.lt_size e1) fun e => e ▸ Heap.lt_size e2
    rw [upd_ne (Nat.ne_of_lt lt)]
    exact (fp c hcm).1
  done := by
    intro X eP ew eK calm i pins s σ H E I fp st hg
    subst eP ew eK
    obtain ⟨gz, gI, ⟨x0, y0, gO⟩, f1, f2⟩ := st
    obtain ⟨xs, ys, qx, qy, stop⟩ := hg
    obtain ⟨its, rv, p, _⟩ := I.list qx
    obtain ⟨its2, rv2, p2, _⟩ := I.tuple qy
    have l1 := rv.length
    have l2 := rv2.length
    have he : its.toArray[i]? = none ∨ its2.toArray[i]? = none := stop.elim (fun q => .inl (by simp; omega)) fun q => .inr (by simp; omega)
    have hT : s.TypeIs (.ref z) "zip" := ⟨_, gz, rfl⟩
    unfold pyNext
    refine wpAny_bind (wpAny_attempt (wpAny_callSpecial?_slot (name := Str.ofString "__next__") hT F.slot_zip_next (wpAny_call_entry F.slot_zip_next hT F.entry_zip_next (zlt_end (I.ok.hd calm) D gz gI gO f1 f2 p.isList p2 he fun h' e rst stp => ?_) (F.args_zip_next_1 _))))
    obtain ⟨o, ho, hc⟩ := stp
    refine wpAny_bind (wpAny_isInstance (T := "StopIteration") (b := true) ⟨o, ho, hc⟩ isSubtype_stop (wpAny_pure ⟨rfl, I.turnedL (t' := s.toks) (ch := [z, TI, TO, i1, i2]) (fun c o nb q => ?_) fp⟩))
    simp only [List.mem_cons, List.not_mem_nil, or_false, not_or] at nb
    exact rst c o nb.1 nb.2.2.1 nb.2.2.2.1 nb.2.2.2.2 q
  self := fun A i s Q E st h => wpAny_pyIter_zip st.1 h
def iZipM (K : PySem.W.Frag) (ta : TA) : TI := fun σ H R => ta σ H fun vs H1 => ∃ a b xs ys, vs = [.ref a, .ref b] ∧ SqL K H1 a xs ∧ SqT K H1 b ys ∧ R (ItzM K a b) H1
theorem pi_zipM {X : Cx} {e e2 : Expr} {ta : TA} {p pos tpos : Pos} {elts : List Expr} {kk : Nat} (hg : Gl X "zip") (hm : X.mg "zip" = none) (ha : PA X [e, e2] ta)
    (hs : starEach [e, e2] X.env = (false, eval e X.env) :: starEach [e2] X.env := by rfl) (hpl : (backTo pos (starEach [e2] X.env)).any (·.1) = false := by rfl) : PI X (.Tuple elts kk tpos) (.Call (.Name "zip" p) [e, e2] [] pos) (iZipM X.K ta) := by
  refine ⟨fun pn sh st hp R Iv hh => Call_ (ld_blt Iv hg hm PyProof.Rows.boot_zip (PyProof.Rows.callWith_type1 (thn (ha.run pos pn sh st hp _ Iv hh) fun us s1 ⟨vs, H1, I1, r1, q1⟩ => ?_) hs hpl))⟩
  obtain ⟨a, b, xs, ys, rfl, qx, qy, q⟩ := q1
  cases r1 with
  | cons r rr =>
    cases rr with
    | cons r' rr =>
      cases rr; cases r; cases r'
      obtain ⟨its, rv, p1, _⟩ := I1.list qx
      obtain ⟨its2, rv2, p2, _⟩ := I1.tuple qy
      obtain ⟨o2, ho2, _⟩ := id p2
      refine call_zlt p1.isList p2 fun h' gz gI gO f1 f2 hk => wpAny_pyIter_zip gz ?_
      have I2 : Inv X pn st H1 { s1 with heap := h' } := I1.kept (t' := s1.toks) hk
      refine ⟨s1.heap.objs.size + 4, [s1.heap.objs.size + 4, s1.heap.objs.size + 2, s1.heap.objs.size + 3, s1.heap.objs.size, s1.heap.objs.size + 1], _, _, H1, rfl, I2, turn_zlt (PySem.W.ktu_apart s1.heap.objs.size a b p1.lt (Heap.lt_size ho2)), ⟨gz, gI, ⟨_, _, gO⟩, f1, f2⟩, fun c hcm => ?_, q⟩
      have le : s1.heap.objs.size ≤ c := by
        have cases5 : c = s1.heap.objs.size + 4 ∨ c = s1.heap.objs.size + 2 ∨ c = s1.heap.objs.size + 3 ∨ c = s1.heap.objs.size ∨ c = s1.heap.objs.size + 1 := by simpa using hcm
        rcases cases5 with q | q | q | q | q <;> rw [q] <;> first | exact Nat.le_add_right _ _ | exact Nat.le_refl _
      exact I1.fpOk le (I1.hok.fresh le)
theorem walk_zlt {K : PySem.W.Frag} {a b : Addr} {xs ys : List V} {n : Nat} (hn : n = min xs.length ys.length) : Walk (ItzM K a b) n (fun H => SqL K H a xs ∧ SqT K H b ys) (YPair (fun i => xs[i]?) (fun i => ys[i]?)) := by
  subst hn
  refine ⟨fun i _ hi q => ?_, fun _ ⟨g1, g2⟩ => ⟨xs, ys, g1, g2, (by omega)⟩, fun i H v H' _ ⟨g1, g2⟩ ⟨T, x, z, t1, t2, t3, t4, t5⟩ => ⟨T, x, z, t1, t2, t3, t4 _ g1, t5 _ g2⟩⟩
  obtain ⟨m1, m2⟩ := Nat.lt_min.mp hi
  exact ⟨xs, ys, xs[i], ys[i], q.1, q.2, List.getElem?_eq_getElem m1, List.getElem?_eq_getElem m2⟩
end Kr
namespace Kr
open PySem PySem.Spec PyProof.Rows L2
section
variable {prog : Program} {w : World} {A : Around} {E : Value → Shared → Prop} {s : Shared}
/-- the heap behind a collecting -/
def gathered (h : Heap) (vs : List Value) : Heap := (h.push (seqObj "list" #[] 0)).update h.objs.size (Obj.mapSeq (· ++ vs.toArray))
theorem collect_tup {t : Addr} {vs : List Value} {Q : List Value → Shared → Prop} (hl : IsTup s.heap t vs.toArray) (h : Q vs { s with heap := gathered s.heap vs }) (hsz : vs.length ≤ sizeLine) : wpAny (model prog w) A (collect (.ref t)) Q E s := by
  obtain ⟨ot, gt, ct, nt, dt⟩ := id hl
  unfold collect
  refine wpAny_bind (wpAny_runValue (codeAny_builtin entry_proto_collect' ?_))
  show wpAny (model prog w) _ (do again (.builtin "list.__iadd__" ⟨[← newList [], .ref t], []⟩)) _ _ s
  refine wpAny_bind (wpAny_newList (wpAny_pure ⟨Code.quiet_builtin _ (by decide +kernel), codeAny_builtin entry_list_iadd' (?_ : wpAny (model prog w) _ (Builtin.List.listExtendWith (.ref s.heap.objs.size) (.ref t) (.ref s.heap.objs.size)) _ _ { s with heap := s.heap.push (seqObj "list" #[] 0) })⟩))
  unfold Builtin.List.listExtendWith
  have gt' : (s.heap.push (seqObj "list" #[] 0)).get? t = some ot := Heap.get?_push_of_some _ gt
  refine wpAny_bind (wpAny_typeOf (T := "tuple") ⟨ot, gt', ct⟩ ?_)
  have tt : (Value.type "tuple" == Value.type "tuple") = true := by rfl
  rw [if_pos (by rw [tt]; simp)]
  refine wpAny_bind (listItems_at gt' dt (wpAny_bind (listItems_at (xs := #[]) (n := 0) (Heap.get?_push_size _ rfl) rfl ?_)))
  rw [if_neg (by simp)]
  refine wpAny_bind (listUpdate_at (xs := #[]) (n := 0) (Heap.get?_push_size _ rfl) rfl (wpAny_pure ?_) (Nat.zero_le _) (by show (#[] ++ vs.toArray).size ≤ sizeLine + 1; simp only [Array.size_append, List.size_toArray, List.length_nil]; omega))
  show wpAny (model prog w) A (do let ob ← load s.heap.objs.size; match ob.data with | .seq xs _ => pure xs.toList | _ => unsupported "internal:collect") Q E { s with heap := gathered s.heap vs }
  refine wpAny_bind (wpAny_load (get?_update_seq (Heap.get?_push_size _ rfl) _) ?_)
  show wpAny (model prog w) A (pure ((#[] : Array Value) ++ vs.toArray).toList) Q E _
  have e0 : ((#[] : Array Value) ++ vs.toArray).toList = vs := by simp
  rw [e0]
  exact wpAny_pure h
theorem sorted_tup {t : Addr} {vs : List Value} {ltv : Value → Value → Bool} {Q : Value → Shared → Prop} (O : SrtO.Swo ltv) (hl : IsTup s.heap t vs.toArray) (hz : vs.length ≤ sizeLine)
    (hS : 2 ≤ vs.length → ∀ (h₁ : Heap) (a : Addr), h₁.get? a = some (seqObj "list" vs.toArray 0) → (∀ b o, s.heap.get? b = some o → b ≠ a ∧ h₁.get? b = some o) → SrtO.SortableO prog w A.in1.in1 { s with heap := h₁ } a vs ltv)
    (h : ∀ out : List Value, SrtO.Srtd ltv out → SrtO.Stb ltv out vs → Q (.ref (s.heap.objs.size + 1)) { s with heap := sortedAll s.heap vs out.toArray }) : wpAny (model prog w) A (call (.builtin "sorted") [.ref t]) Q E s := by
  refine Calls.call_function_entry kind_sorted plain_sorted entry_sorted (args_sorted1 _) ?_
  unfold Builtin.«sorted»
  refine wpAny_bind (m := checkCount "sorted" 1 1 _) (wpAny_pure (wpAny_bind (collect_tup hl (wpAny_bind (wpAny_newList ?_ hz)) hz)))
  have z1 : (gathered s.heap vs).objs.size = s.heap.objs.size + 1 := (Heap.size_update _ _ _).trans (size_push' _ _)
  have lst : ((gathered s.heap vs).push (seqObj "list" vs.toArray 0)).get? (s.heap.objs.size + 1) = some (seqObj "list" vs.toArray 0) := by
    rw [← z1]; exact Heap.get?_push_size _ rfl
  have stays : ∀ b o, s.heap.get? b = some o → b ≠ s.heap.objs.size + 1 ∧ ((gathered s.heap vs).push (seqObj "list" vs.toArray 0)).get? b = some o := fun b o q => by
    have lt := Heap.lt_size q
    refine ⟨Nat.ne_of_lt (Nat.lt_succ_of_lt lt), Heap.get?_push_of_some _ ?_⟩
    unfold gathered
    rw [Heap.get?_update_ne _ _ _ _ (Nat.ne_of_lt lt)]
    exact Heap.get?_push_of_some _ q
  show wpAny (model prog w) _ _ _ _ { s with heap := (gathered s.heap vs).push (seqObj "list" vs.toArray 0) }
  rw [z1]
  exact wpAny_bind (wpAny_holding (wpAny_call_entry slot_list_sort ⟨_, lst, rfl⟩ entry_list_sort (SrtO.list_sort_ord O lst hz (fun h2 => hS h2 _ _ lst stays) fun out hs hb => ⟨_, rfl, wpAny_pure ⟨_, rfl, h out hs hb⟩⟩) (args_list_sort _)))
end
section
variable {X : Cx}
/-- sorted(t), t a tuple of whole numbers -/
def rSortT (K : PySem.W.Frag) : List V → Hp → VK → Prop := fun vs H Q => ∃ (a : Addr) (ns : List Int), vs = [V.ref a] ∧ SqT K H a (ns.map V.int) ∧ ∀ (ns' : List Int) (p : Addr), ns'.Perm ns → ns'.Pairwise (· ≤ ·) → H p = none → Q (.ref p) (upd H p (.lst (ns'.map V.int)))
theorem cr_sortT5 : CallR X (.builtin "sorted") (rSortT X.K) := by
  intro pins s σ H vs us Q I r h
  obtain ⟨a, ns, rfl, hs, q⟩ := h
  obtain ⟨its, rv, ht, hz⟩ := I.tuple hs
  rw [Vals.ref1 r]
  have hi := rv.ints
  refine sorted_tup SrtO.swo_int ht (by rw [← rv.length]; exact hz) (fun h2 _ _ _ _ => SrtO.ints_sortable hi h2) fun out h1 h2 => ?_
  obtain ⟨k1, k2, k3⟩ := SrtO.ints_out hi h1 h2
  obtain ⟨ep, he⟩ := PyProof.Rows.sortedAll_at s.heap its out.toArray
  have hl : ((out.map SrtO.iv).map V.int).length ≤ sizeLine := by
    rw [List.length_map] at hz
    rw [List.length_map, k2.length_eq]
    exact hz
  exact ⟨.ref _, upd H (s.heap.objs.size + 1) (.lst ((out.map SrtO.iv).map V.int)), I.laid (t' := s.toks) (fun _ _ => PyProof.Rows.sortedAll_old) (Nat.le_succ _) ⟨hl, out, ep, vals_of_ints k1, he⟩, rfl, q _ _ k2 k3 (I.hok.fresh (Nat.le_succ _))⟩
end
end Kr
namespace Kr
open PySem PySem.Spec PyProof.Rows L2
/-- a drawn deed of a kind -/
def spDeedK : Sp := fun vs H Q _ => ∃ (p l : Addr) (n k : Nat), vs = [.ref p, .int (n : Int), .int (k : Int)] ∧ Deck H p l ∧ n ≤ 24 ∧ k + 2 ≤ n ∧ ∀ H' v m, Deck H' p l → Ext p l H H' → DeedAt H' v m → Deed n m → m.1.length = k → Q v H'
section
variable {P : Program} {w : World} {K : PySem.W.Frag} {mg : Str → Option Value} {base : Heap}
abbrev nDk : List Str := ["deck", "n", "k", "row"]
theorem scDk : FnScope nDk ["deck", "n", "k"] (defScope sDeed) := ⟨rfl, rfl, rfl, by decide +kernel, rfl, by decide +kernel, by decide +kernel⟩
theorem o_lDeed (D0 : Df K mg "_law_deed" sDeed ["deck", "n", "k"]) (B : Bi mg) (mx : Ok P w K mg base 2 "_law_mixed" ["deck", "own"] spMixV) : Ok P w K mg base 3 "_law_deed" ["deck", "n", "k"] spDeedK := by
  refine D0.ok fun f fd F => F.ok scDk (fun vs H Q E h => ?_) (fun cdv A outer s H vs Q E hr h => ?_)
  · obtain ⟨p, l, n, k, rfl, _⟩ := h
    rfl
  · obtain ⟨p, l, n, k, rfl, Dk, n1, hk, q⟩ := h
    refine ⟨_, pss_cons (ps_set (i := 3) scDk.nd rfl (.inl rfl) (pe_fn mx hr (by rfl) (pa_cons (pv 0) (pa_cons (pe_listRg rfl (by rfl) B.list (prg_1 (by rfl) B.range (pv 1))) pa_nil))))
      (pss_one (ps_ret (pe_tup (pa_cons (pe_callTy call_tuple_of (by rfl) B.tuple (by decide +kernel) (pa_cons (pe_callB cr_sortedI (by rfl) B.sorted (by decide +kernel) (pa_cons (pe_slice sl_list (pv 3) po_none (po_some (pv 2))) pa_nil)) pa_nil))
        (pa_cons (pe_callB (call_min2 rfl) (by rfl) B.min (by decide +kernel) (pa_cons (pe_ix ix_list (pv 3) (pv 2) (fun _ _ => rfl)) (pa_cons (pe_ix ix_list (pv 3) (pe_op op_add (pv 2) pe_int) (fun _ _ => rfl)) pa_nil)))
        (pa_cons (pe_callB (call_max2 rfl) (by rfl) B.max (by decide +kernel) (pa_cons (pe_ix ix_list (pv 3) (pv 2) (fun _ _ => rfl)) (pa_cons (pe_ix ix_list (pv 3) (pe_op op_add (pv 2) pe_int) (fun _ _ => rfl)) pa_nil))) pa_nil)))))), ?_⟩
    refine ⟨.ref p, rfl, .int n, rfl, (n : Int), rfl, RgOk.of_le (Int.le_refl _) (by omega) (by decide) (by omega), fun b nb => ?_⟩
    rw [rg_ups]
    obtain ⟨e4, D4, hid4⟩ := new_dq (o := .lst ((ups n).map V.int)) Dk nb
    have hul := ups_len n
    refine ⟨p, l, b, _, rfl, D4, hid4, by rw [List.length_map, hul]; omega, fun H5 f5 ys D5 E5 nf5 hf hp => ?_⟩
    obtain ⟨zs, rfl, hpz⟩ := ints_perm hp
    have hzl : zs.length = n := by rw [hpz.length_eq, hul]
    have E15 : Ext p l H H5 := Same.trans e4 E5
    have hf5 : H5 f5 = some (.lst (zs.map V.int)) := hid_same p l _ _ _ hf
    clear E5 hf nf5 hid4 D4 e4 nb
    have hz : ∀ i, i < n → ∃ x : Nat, zs[i]? = some (x : Int) ∧ x < n := fun i hi => by
      have h1 : zs[i]? = some (zs.getD i 0) := getD_get (by omega)
      have h2 : zs.getD i 0 ∈ ups n := hpz.subset (List.mem_of_getElem? h1)
      unfold ups at h2
      obtain ⟨x, hx, e⟩ := List.mem_map.mp h2
      exact ⟨x, by rw [h1, e], List.mem_range.mp hx⟩
    obtain ⟨x, hx, hxn⟩ := hz k (by omega)
    obtain ⟨y, hy, hyn⟩ := hz (k + 1) (by omega)
    have hnz : zs.Nodup := by
      have h0 : (ups n).Nodup := List.Pairwise.map _ (fun a b (h : a < b) => by show ((a : Nat) : Int) ≠ b; omega) List.pairwise_lt_range
      exact hpz.symm.nodup h0
    have hxy : x ≠ y := fun z => by
      obtain ⟨i1, j1⟩ := List.getElem?_eq_some_iff.mp hx
      obtain ⟨i2, j2⟩ := List.getElem?_eq_some_iff.mp hy
      have := List.pairwise_iff_getElem.mp hnz k (k + 1) i1 i2 (by omega)
      rw [j1, j2, z] at this
      exact this rfl
    dsimp only [tNext]
    refine ⟨.ref f5, rfl, .int k, rfl, (k : Int), rfl, f5, _, rfl, SqL.of hf5, fun c nc => ?_⟩
    rw [cut_to (by rw [List.length_map]; omega), ← List.map_take]
    have s1 := same_new (o := .lst ((zs.take k).map V.int)) nc
    refine ⟨c, zs.take k, rfl, SqL.of upd_same, fun us d2 hpu hsu nd2 => ?_⟩
    have s2 := same_new (o := .lst (us.map V.int)) nd2
    obtain ⟨own, rfl, hown⟩ := drawn_piece hpz (List.take_sublist _ _) hpu hsu
    refine ⟨d2, _, rfl, .inl ⟨SqL.of upd_same, fun t nt => ?_⟩⟩
    have s3 := same_new (o := .tup ((own.map fun (x : Nat) => (x : Int)).map V.int)) nt
    have s13 := s1.trans (s2.trans s3)
    have ht : upd (upd (upd H5 c (.lst ((zs.take k).map V.int))) d2 (.lst ((own.map fun (x : Nat) => (x : Int)).map V.int))) t (.tup ((own.map fun (x : Nat) => (x : Int)).map V.int)) t = some (.tup (lv own)) := by
      rw [upd_same]
      unfold lv
      rw [List.map_map]
      rfl
    have hf6 := s13 _ _ hf5
    have D6 := D5.up s13
    generalize upd (upd (upd H5 c (.lst ((zs.take k).map V.int))) d2 (.lst ((own.map fun (x : Nat) => (x : Int)).map V.int))) t (.tup ((own.map fun (x : Nat) => (x : Int)).map V.int)) = H6 at s13 ht hf6 D6
    have a1 : atI (zs.map V.int) (k : Nat) = some (V.int (x : Int)) := atI_nat (by rw [List.getElem?_map, hx]; rfl)
    have a2 : atI (zs.map V.int) ((k : Int) + 1) = some (V.int (y : Int)) := by
      rw [show ((k : Int) + 1) = ((k + 1 : Nat) : Int) by omega]
      exact atI_nat (by rw [List.getElem?_map, hy]; rfl)
    refine ⟨.ref f5, rfl, .int k, rfl, f5, _, (k : Nat), .int (x : Int), rfl, rfl, SqL.of hf6, a1, .ref f5, rfl, .int k, rfl, _, _, rfl, rfl, f5, _, _, .int (y : Int), rfl, rfl, SqL.of hf6, a2, (x : Int), (y : Int), rfl, ?_⟩
    refine ⟨.ref f5, rfl, .int k, rfl, f5, _, (k : Nat), .int (x : Int), rfl, rfl, SqL.of hf6, a1, .ref f5, rfl, .int k, rfl, _, _, rfl, rfl, f5, _, _, .int (y : Int), rfl, rfl, SqL.of hf6, a2, (x : Int), (y : Int), rfl, ?_⟩
    refine ⟨by show 3 ≤ sizeLine; decide, fun e ne => ?_⟩
    have e1 : (if (y : Int) < x then (y : Int) else x) = ((min x y : Nat) : Int) := by split <;> omega
    have e2 : (if (y : Int) > x then (y : Int) else x) = ((max x y : Nat) : Int) := by split <;> omega
    rw [e1, e2]
    have s4 := same_new (o := .tup [.ref t, .int ((min x y : Nat) : Int), .int ((max x y : Nat) : Int)]) ne
    have hdj : ∀ z : Nat, (z : Int) ∈ zs.drop k → z ∉ own := fun z hz ho => by
      have h1 : (z : Int) ∈ zs.take k := hpu.subset (List.mem_map.mpr ⟨z, ho, rfl⟩)
      have h3 : (zs.take k ++ zs.drop k).Nodup := by rw [List.take_append_drop]; exact hnz
      exact (List.nodup_append.mp h3).2.2 _ h1 _ hz rfl
    have dx : (x : Int) ∈ zs.drop k := List.mem_of_getElem? (i := 0) (by rw [List.getElem?_drop]; exact hx)
    have dy : (y : Int) ∈ zs.drop k := List.mem_of_getElem? (i := 1) (by rw [List.getElem?_drop]; exact hy)
    refine q _ _ (own, min x y, max x y) (D6.up s4) (Same.trans E15 (Ext.of (s13.trans s4))) ⟨e, t, rfl, upd_same, s4 _ _ ht⟩ ⟨hown, ?_, ?_, ?_, ?_⟩ ?_
    · show min x y < max x y
      omega
    · show max x y < n
      omega
    · show min x y ∉ own
      rcases Nat.le_total x y with c | c
      · rw [Nat.min_eq_left c]; exact hdj x dx
      · rw [Nat.min_eq_right c]; exact hdj y dy
    · show max x y ∉ own
      rcases Nat.le_total x y with c | c
      · rw [Nat.max_eq_right c]; exact hdj y dy
      · rw [Nat.max_eq_left c]; exact hdj x dx
    · have := hpu.length_eq
      rw [List.length_map, List.length_take] at this
      show own.length = k
      omega
abbrev nMv : List Str := ["n", "deed", "held", "a", "b", "found", "keys", "entry", "one", "two", "place"]
theorem scMv : FnScope nMv ["n", "deed"] (defScope sLMoves) := ⟨rfl, rfl, rfl, by decide +kernel, rfl, by decide +kernel, by decide +kernel⟩
def stepE (l : List Nat) (e : List Int) (one two : Nat) : List Int := if one ∈ l then e else e.set one (two : Int)
theorem stepE_len (l : List Nat) (e : List Int) (a b : Nat) : (stepE l e a b).length = e.length := by
  unfold stepE
  split
  · rfl
  · rw [List.length_set]
theorem steps_swap {n : Nat} {l : List Nat} {a b : Nat} (ha : a < n) (hb : b < n) (hab : a ≠ b) : stepE l (stepE l (byE l (ups n)) a b) b a = byE l (swapW n a b) := by
  have W := way_swap ha hb hab
  refine list_ext (n := n) (by rw [stepE_len, stepE_len, byE_len, ups_len]) (by rw [byE_len, W.len]) fun x hx => ?_
  have put : ∀ (e : List Int) (i j : Nat), e.length = n → i < n → (stepE l e i j).getD x 0 = if x = i ∧ i ∉ l then (j : Int) else e.getD x 0 := fun e i j he hi => by
    unfold stepE
    by_cases c : i ∈ l
    · rw [if_pos c, if_neg (fun z => z.2 c)]
    · rw [if_neg c, List.getD_eq_getElem?_getD, List.getElem?_set]
      by_cases c2 : i = x
      · subst c2
        rw [if_pos rfl, if_pos (by omega), if_pos ⟨rfl, c⟩]
        rfl
      · rw [if_neg c2, if_neg (fun z => c2 z.1.symm), List.getD_eq_getElem?_getD]
  rw [put _ b a (by rw [stepE_len, byE_len, ups_len]) hb, put _ a b (by rw [byE_len, ups_len]) ha, byE_at (by rw [ups_len]; exact hx), byE_at (by rw [W.len]; exact hx), W.at_ x hx, ups_at hx]
  unfold sw
  by_cases c1 : x = b
  · subst c1
    by_cases c : x ∈ l
    · rw [if_neg (fun z => z.2 c), if_neg (fun z => hab z.1.symm), if_pos c, if_pos c]
    · rw [if_pos ⟨rfl, c⟩, if_neg c, if_pos rfl]
  · rw [if_neg (fun z => c1 z.1)]
    by_cases c2 : x = a
    · subst c2
      by_cases c : x ∈ l
      · rw [if_neg (fun z => z.2 c), if_pos c, if_pos c]
      · rw [if_pos ⟨rfl, c⟩, if_neg c, if_neg c1, if_pos rfl]
    · rw [if_neg (fun z => c2 z.1), if_neg c1, if_neg c2]
theorem o_lMoves (D0 : Df K mg "_law_moves" sLMoves ["n", "deed"]) (B : Bi mg) (lf : Ok P w K mg base 2 "_law_flat" ["n"] spEvery) : Ok P w K mg base 3 "_law_moves" ["n", "deed"] (fun vs H Q E => spDeedT vs H Q E ∧ ∃ (n : Nat) (d q : Addr) (as : List Nat) (a b : Nat), vs = [.int (n : Int), .ref d] ∧ H d = some (.tup [.ref q, .int (a : Int), .int (b : Int)]) ∧ a ≠ b) := by
  refine D0.ok fun f fd F => F.ok scMv (fun vs H Q E h => ?_) (fun cdv A outer s H vs Q E hr h => ?_)
  · obtain ⟨⟨n, d, q, as, a, b, rfl, _⟩, _⟩ := h
    rfl
  · obtain ⟨⟨n, d, qa, as, a, b, rfl, hn, hd, hq, has, han, hbn, q⟩, n', d', q', as', a', b', ev, hd', hne⟩ := h
    cases ev
    rw [hd] at hd'
    cases hd'
    have hab : a ≠ b := hne
    have hu : (cxOf CX0 P w K mg base nMv "_law_moves" (defScope sLMoves) f cdv A outer s H E).A.units + 64 < cLine := hr.units
    refine ⟨_, pss_cons (ps_asg (pv 1) (pg_tup rfl (pgs_cons (pg_name (i := 2) scMv.nd rfl (.inl rfl)) (pgs_cons (pg_name (i := 3) scMv.nd rfl (.inl rfl)) (pgs_cons (pg_name (i := 4) scMv.nd rfl (.inl rfl)) pgs_nil)))))
      (pss_cons (ps_set (i := 5) scMv.nd rfl (.inl rfl) (pe_lst pa_nil))
      (pss_cons (ps_for PassesOwn.never rfl (pi_list (pe_fn lf hr (by rfl) (pa_cons (pv 0) pa_nil))) (pg_name (i := 6) scMv.nd rfl (.inr rfl))
        (pss_cons (ps_setLc (i := 7) (own := [("place", 10)]) (g := gName 10) (tt := tYes) rfl scMv.nd rfl rfl (sw_true rfl rfl rfl (by decide +kernel)) (pi_range1 (by rfl) B.range (pa_cons (pv 0) pa_nil)) (blkOk_by (own := [("place", 10)]) (N := nMv) (sc := defScope sLMoves) (by decide +kernel))
            (fun _ _ _ _ _ => pg_name (i := 10) scMv.nd rfl (.inl rfl)) (fun _ _ _ _ _ => pts_nil) (fun _ _ _ _ _ => pe_ifExp (pt_cmpR (r := rIn K false) op_in_seq (pv 10) (pv 6) rfl) (pe_un un_neg pe_int) (pv 10)))
        (pss_cons (ps_if (pt_cmpR (op_eqN hu) (pe_lc (own := [("place", 10)]) (g := gName 10) rfl scMv.nd (pi_tup (pv 2)) (blkOk_by (own := [("place", 10)]) (N := nMv) (sc := defScope sLMoves) (by decide +kernel))
              (fun _ _ _ _ _ => pg_name (i := 10) scMv.nd rfl (.inl rfl)) (fun _ _ _ _ _ => pts_one (pt_cmpR (r := rIn K true) op_notIn_seq (pv 10) (pv 6) rfl)) (fun _ _ _ _ _ => pe_int)) (pe_lst pa_nil) (nomark _))
            (pss_one (ps_for PassesOwn.never rfl (pi_tup (pe_tup (pa_cons (pe_tup (pa_cons (pv 3) (pa_cons (pv 4) pa_nil))) (pa_cons (pe_tup (pa_cons (pv 4) (pa_cons (pv 3) pa_nil))) pa_nil)))) (pg_tup rfl (pgs_cons (pg_name (i := 8) scMv.nd rfl (.inl rfl)) (pgs_cons (pg_name (i := 9) scMv.nd rfl (.inl rfl)) pgs_nil)))
              (pss_one (ps_if (pt_cmpR (r := rIn K true) op_notIn_seq (pv 8) (pv 6) rfl) (pss_one (ps_asg (pv 9) (pg_sub (pv 7) (pv 8) set_list))) pss_nil)))) pss_nil)
        (pss_one (ps_expr (pe_bm PySem.F.plainAttrs_list PySem.F.slot_list_append PySem.F.type_list_append mt_append (pv 5) (pa_cons (pe_callTy call_tuple_of (by rfl) B.tuple (by decide +kernel) (pa_cons (pv 7) pa_nil)) pa_nil)))))))
      (pss_one (ps_ret (pe_callTy call_tuple_of (by rfl) B.tuple (by decide +kernel) (pa_cons (pv 5) pa_nil)))))), ?_⟩
    refine ⟨.ref d, rfl, d, _, rfl, SqT.of hd, rfl, .ref qa, [.int a, .int b], rfl, .int a, [.int b], rfl, .int b, [], rfl, rfl, ?_⟩
    dsimp only
    refine ⟨by show 0 ≤ sizeLine; decide, fun fo nfo => ?_⟩
    have s1 := same_new (o := .lst []) nfo
    have hfo : upd H fo (.lst []) fo = some (.lst []) := upd_same
    have nf : ∀ b o, H b = some o → b ≠ fo := fun b o hb => ne_of_none hb nfo
    generalize upd H fo (.lst []) = H1 at s1 hfo
    refine ⟨.int n, rfl, n, rfl, hn, fun H2 v s2 hv => ?_⟩
    cases hv with
    | @lst L ks _ hL qk =>
    have hal := all_len n (by omega)
    have hal2 := all_few n (by omega)
    have hkl : ks.length = (allL n).length := by rw [qk.len, List.length_map]
    have hfo2 := s2 _ _ hfo
    have nL : L ≠ fo := fun z => by
      rw [z, hfo2] at hL
      cases hL
      have : 0 < (allL n).length := by rw [hal]; exact Nat.two_pow_pos n
      rw [← hkl] at this
      exact absurd this (by simp)
    refine ⟨L, rfl, ⟨ks, SqL.of hL⟩, for_it (walk_list (K := K) (a := L) (xs := ks)) (fun i σ G => ∃ (v6 v7 v8 v9 : Option V) (acc : List V), σ = [some (.int n), some (.ref d), some (.ref qa), some (.int a), some (.int b), some (.ref fo), v6, v7, v8, v9, none] ∧ (∀ b o, b ≠ fo → H2 b = some o → G b = some o) ∧ G fo = some (.lst acc) ∧ DqA G acc (((allL n).take i).map fun l => entD (dE n (as, a, b) l)))
      ⟨_, _, _, _, [], rfl, fun _ _ _ h => h, hfo2, .nil⟩ (fun i σ G _ ⟨_, _, _, _, _, _, k, _⟩ => SqL.of (k _ _ nL hL)) ?_ ?_⟩
    · rintro i x σ _ G hi ⟨v6, v7, v8, v9, acc, rfl, k, hG, qac⟩ ⟨rfl, hx⟩
      obtain ⟨l, hl, lb, rfl, hlb⟩ := lots_get qk hx
      have nlb : lb ≠ fo := ne_of hlb hfo2 (by intro z; cases z)
      have hlb' := k _ _ nlb hlb
      have hq' := k _ _ (nf _ _ hq) (s2 _ _ (s1 _ _ hq))
      refine ⟨.int n, rfl, (n : Int), rfl, by omega, by omega, fun D nD => ?_⟩
      rw [Int.toNat_natCast]
      refine lc_itF (walk_rg (n := n)) (fun x => .int (if x ∈ l then -1 else (x : Int))) nD (by omega) (fun _ _ => rfl) (fun _ _ => trivial) (fun x y G2 G2' C Cn hx s5 hy c => ?_) (fun G2 es s5 hD qb => ?_)
      · obtain ⟨rfl, rfl⟩ := hy
        refine ⟨rfl, ?_⟩
        dsimp only [tYes]
        rw [if_pos rfl]
        refine ⟨.int x, rfl, .ref lb, rfl, lb, lv l, rfl, .inr (SqT.of (s5 _ _ hlb')), rfl, lv_fl l, _, rfl, ?_⟩
        rw [if_neg (by decide), inV_lot]
        by_cases hm : x ∈ l
        · rw [decide_eq_true hm]
          rw [if_pos hm] at c
          exact iteT ⟨1, rfl, c _ _ (Same.refl _) (.int _)⟩
        · rw [decide_eq_false hm]
          rw [if_neg hm] at c
          exact iteF ⟨.int x, rfl, c _ _ (Same.refl _) (.int _)⟩
      have ees : es = (byE l (ups n)).map V.int := dqa_int (by
        unfold byE
        rw [ups_len, List.map_map]
        have e : ((List.range n).map (PyData.int ∘ fun x => if x ∈ l then (-1 : Int) else (ups n).getD x 0)) = (List.range n).map fun x => PyData.int (if x ∈ l then -1 else (x : Int)) := List.map_congr_left fun x hx => by
          show PyData.int (if x ∈ l then -1 else (ups n).getD x 0) = _
          rw [ups_at (List.mem_range.mp hx)]
        rw [e]
        exact qb)
      subst ees
      have nDf : D ≠ fo := (ne_of_none hG nD).symm
      have sGD : Same G G2 := s5
      have hG2 := sGD _ _ hG
      have hlb2 := sGD _ _ hlb'
      have hq2 := sGD _ _ hq'
      dsimp only [tNext]
      refine ⟨.ref qa, rfl, qa, rfl, ⟨_, SqT.of hq2⟩, fun D3 nD3 => ?_⟩
      refine lc_it (walk_tup (K := K) (a := qa) (xs := lv as)) (fun t G3 => ∃ zs : List V, G3 D3 = some (.lst zs) ∧ Same G2 G3 ∧ zs.length ≤ t ∧ zs.isEmpty = (as.take t).all (fun x => decide (x ∈ l))) ⟨[], upd_same, same_new nD3, Nat.le_refl _, rfl⟩ (fun _ _ _ ⟨_, _, sm, _⟩ => SqT.of (sm _ _ hq2)) ?_ ?_
      · rintro t x _ G3 ht ⟨zs, hD3, sm, hzl, hze⟩ ⟨rfl, hx2⟩
        rw [lv_len] at ht
        obtain ⟨z, hz, rfl⟩ : ∃ z, as[t]? = some z ∧ V.int (z : Nat) = x := by
          unfold lv at hx2
          rw [List.getElem?_map] at hx2
          cases e : as[t]? with
          | none => rw [e] at hx2; cases hx2
          | some y => rw [e] at hx2; exact ⟨y, rfl, Option.some.inj hx2⟩
        have etk : (as.take (t + 1)).all (fun x => decide (x ∈ l)) = ((as.take t).all (fun x => decide (x ∈ l)) && decide (z ∈ l)) := by
          rw [List.take_add_one, hz, List.all_append]
          simp
        refine ⟨rfl, .int z, rfl, .ref lb, rfl, lb, lv l, rfl, .inr (SqT.of (sm _ _ hlb2)), rfl, lv_fl l, _, rfl, ?_⟩
        rw [if_pos rfl, inV_lot, etk]
        by_cases hm : z ∈ l
        · rw [decide_eq_true hm]
          refine iteF ⟨zs, hD3, sm, by omega, ?_⟩
          rw [Bool.and_true]
          exact hze
        · rw [decide_eq_false hm]
          refine iteT ⟨zs, hD3, szm (by omega), zs ++ [.int 1], upd_same, fun b o hb => ?_, by rw [List.length_append]; show _ + 1 ≤ _; omega, ?_⟩
          · rw [upd_ne (ne_of_none hb nD3)]
            exact sm _ _ hb
          · rw [Bool.and_false]
            cases zs <;> rfl
      rintro G3 ⟨zs, hD3, sm, hzl, hze⟩
      rw [lv_len, List.take_length] at hze
      refine ⟨by show 0 ≤ sizeLine; decide, fun e ne => ⟨D3, e, zs, rfl, rfl, same_new ne _ _ hD3, upd_same, _, rfl, ?_⟩⟩
      have sm4 := sm.trans (same_new (o := .lst []) ne)
      generalize upd G3 e (.lst []) = G4 at sm4
      rw [hze]
      have hD4 := sm4 _ _ hD
      have hG4 := sm4 _ _ hG2
      have sG4 : Same G G4 := sGD.trans sm4
      have hlb4 := sm4 _ _ hlb2
      have acl : acc.length ≤ 64 := by
        rw [qac.len, List.length_map, List.length_take]
        omega
      -- behind the riders: the entry in the list of entries
      have put : ∀ (G5 : Hp) (es : List Int) (t : Addr), (∀ b o, b ≠ D → G4 b = some o → G5 b = some o) → es = dE n (as, a, b) l → G5 t = none →
          upd G5 t (.tup (es.map V.int)) fo = some (.lst acc) ∧ (∀ b o, b ≠ fo → H2 b = some o → upd (upd G5 t (.tup (es.map V.int))) fo (.lst (acc ++ [.ref t])) b = some o) ∧
          DqA (upd (upd G5 t (.tup (es.map V.int))) fo (.lst (acc ++ [.ref t]))) (acc ++ [.ref t]) (((allL n).take (i + 1)).map fun l => entD (dE n (as, a, b) l)) := fun G5 es t k5 ee nt => by
        have hG5 := k5 _ _ nDf.symm hG4
        have st := same_new (o := .tup (es.map V.int)) nt
        have hG6 := st _ _ hG5
        have kk : ∀ b o, G b = some o → upd G5 t (.tup (es.map V.int)) b = some o := fun b o ho => st _ _ (k5 _ _ (ne_of_none ho nD) (sG4 _ _ ho))
        refine ⟨hG6, fun b o hb ho => ?_, ?_⟩
        · rw [upd_ne hb]
          exact kk _ _ (k _ _ hb ho)
        · rw [take_snoc hl]
          refine dqa_snoc (DqA.upT (TS.lst hG6) (flatTA_of fun d hd => ?_) (qac.up kk)) (Dq.upT (TS.lst hG6) (ent_flat _) (ent_at ?_))
          · obtain ⟨l', _, rfl⟩ := List.mem_map.mp hd
            exact ent_flat _
          · rw [upd_same, ee]
      cases hc : as.all (fun x => decide (x ∈ l)) with
      | false =>
        refine iteF ?_
        dsimp only [tNext]
        refine ⟨.ref fo, rfl, .inl ⟨rfl, _, SqL.of hG4⟩, .ref D, rfl, D, _, rfl, .inl ⟨SqL.of hD4, fun t nt => ?_⟩⟩
        obtain ⟨p1, p2, p3⟩ := put G4 (byE l (ups n)) t (fun _ _ _ h => h) (by unfold dE isAll; rw [hc]; rfl) nt
        exact ⟨fo, acc, .ref t, rfl, rfl, p1, szl (by omega), _, _, _, _, _, rfl, p2, upd_same, p3⟩
      | true =>
        refine iteT ?_
        refine ⟨.int a, rfl, .int b, rfl, by show 2 ≤ sizeLine; decide, fun t1 nt1 => ⟨.int b, rfl, .int a, rfl, by show 2 ≤ sizeLine; decide, fun t2 nt2 => ⟨by show 2 ≤ sizeLine; decide, fun t3 nt3 => ?_⟩⟩⟩
        have s6 := same_new (o := .tup [.int a, .int b]) nt1
        have s7 := same_new (o := .tup [.int b, .int a]) nt2
        have s8 := same_new (o := .tup [.ref t1, .ref t2]) nt3
        have ht1 := s8 _ _ (s7 _ _ (show upd G4 t1 (.tup [.int a, .int b]) t1 = some (.tup [.int a, .int b]) from upd_same))
        have ht2 := s8 _ _ (show upd (upd G4 t1 (.tup [.int a, .int b])) t2 (.tup [.int b, .int a]) t2 = some (.tup [.int b, .int a]) from upd_same)
        have ht3 : upd (upd (upd G4 t1 (.tup [.int a, .int b])) t2 (.tup [.int b, .int a])) t3 (.tup [.ref t1, .ref t2]) t3 = some (.tup [.ref t1, .ref t2]) := upd_same
        have s68 := s6.trans (s7.trans s8)
        generalize upd (upd (upd G4 t1 (.tup [.int a, .int b])) t2 (.tup [.int b, .int a])) t3 (.tup [.ref t1, .ref t2]) = G5 at ht1 ht2 ht3 s68
        have hD5 := s68 _ _ hD4
        have n1D : t1 ≠ D := ne_of ht1 hD5 (by intro z; cases z)
        have n2D : t2 ≠ D := ne_of ht2 hD5 (by intro z; cases z)
        have n3D : t3 ≠ D := ne_of ht3 hD5 (by intro z; cases z)
        have nlD : lb ≠ D := ne_of hlb4 hD4 (by intro z; cases z)
        refine ⟨t3, rfl, ⟨_, SqT.of ht3⟩, for_it (walk_tup (K := K) (a := t3) (xs := [.ref t1, .ref t2])) (fun j σ G => ∃ (v8 v9 : Option V) (es : List Int), σ = [some (.int n), some (.ref d), some (.ref qa), some (.int a), some (.int b), some (.ref fo), some (.ref lb), some (.ref D), v8, v9, none] ∧ (∀ b o, b ≠ D → G5 b = some o → G b = some o) ∧ G D = some (.lst (es.map V.int)) ∧
            es = (if j = 0 then byE l (ups n) else if j = 1 then stepE l (byE l (ups n)) a b else stepE l (stepE l (byE l (ups n)) a b) b a))
          ⟨_, _, _, rfl, fun _ _ _ h => h, hD5, rfl⟩ (fun j σ G _ ⟨_, _, _, _, k6, _⟩ => SqT.of (k6 _ _ n3D ht3)) ?_ ?_⟩
        · rintro j x σ _ G6 hj ⟨v8, v9, es, rfl, k6, hD6, ees⟩ ⟨rfl, hx⟩
          have hel : es.length = n := by
            rw [ees]
            split
            · rw [byE_len, ups_len]
            · split
              · rw [stepE_len, byE_len, ups_len]
              · rw [stepE_len, stepE_len, byE_len, ups_len]
          have hlb6 := k6 _ _ nlD (s68 _ _ hlb4)
          obtain ⟨tt, u, w', rfl, htt, hun, hee⟩ : ∃ (tt : Addr) (u w' : Nat), x = .ref tt ∧ G6 tt = some (.tup [.int u, .int w']) ∧ u < n ∧ stepE l es u w' = (if j + 1 = 1 then stepE l (byE l (ups n)) a b else stepE l (stepE l (byE l (ups n)) a b) b a) := by
            match j, hj, hx, ees with
            | 0, _, hx, ees => cases hx; exact ⟨t1, a, b, rfl, k6 _ _ n1D ht1, han, by rw [ees]; rfl⟩
            | 1, _, hx, ees => cases hx; exact ⟨t2, b, a, rfl, k6 _ _ n2D ht2, hbn, by rw [ees]; rfl⟩
          have hej : (if j + 1 = 0 then byE l (ups n) else if j + 1 = 1 then stepE l (byE l (ups n)) a b else stepE l (stepE l (byE l (ups n)) a b) b a) = stepE l es u w' := by
            rw [if_neg (by omega), hee]
          rw [hej]
          refine ⟨tt, [.int u, .int w'], rfl, SqT.of htt, rfl, .int u, [.int w'], rfl, .int w', [], rfl, rfl, ?_⟩
          refine ⟨.int u, rfl, .ref lb, rfl, lb, lv l, rfl, .inr (SqT.of hlb6), rfl, lv_fl l, _, rfl, ?_⟩
          rw [if_pos rfl, inV_lot]
          by_cases hm : u ∈ l
          · rw [decide_eq_true hm]
            refine iteF ⟨_, _, es, rfl, k6, hD6, ?_⟩
            unfold stepE
            rw [if_pos hm]
          · rw [decide_eq_false hm]
            refine iteT ⟨.int w', rfl, .ref D, rfl, .int u, rfl, D, _, u, u, rfl, rfl, hD6, ixN_nat (by rw [List.length_map, hel]; exact hun), _, _, es.set u (w' : Int), rfl, fun b o hb ho => ?_, by rw [upd_same, List.map_set], ?_⟩
            · rw [upd_ne hb]
              exact k6 _ _ hb ho
            · unfold stepE
              rw [if_neg hm]
        · rintro σ G6 ⟨v8, v9, es, rfl, k6, hD6, ees⟩
          have ee : es = dE n (as, a, b) l := by
            rw [ees]
            show stepE l (stepE l (byE l (ups n)) a b) b a = _
            rw [steps_swap han hbn hab]
            unfold dE isAll
            rw [hc]
            rfl
          have k56 : ∀ b o, b ≠ D → G4 b = some o → G6 b = some o := fun b o hb ho => k6 _ _ hb (s68 _ _ ho)
          dsimp only [tNext]
          refine ⟨.ref fo, rfl, .inl ⟨rfl, _, SqL.of (k56 _ _ nDf.symm hG4)⟩, .ref D, rfl, D, _, rfl, .inl ⟨SqL.of hD6, fun t nt => ?_⟩⟩
          obtain ⟨p1, p2, p3⟩ := put G6 es t k56 ee nt
          exact ⟨fo, acc, .ref t, rfl, rfl, p1, szl (by omega), _, _, _, _, _, rfl, p2, upd_same, p3⟩
    · rintro σ G ⟨v6, v7, v8, v9, acc, rfl, k, hG, qac⟩
      rw [hkl, List.take_length] at qac
      refine ⟨.ref fo, rfl, fo, acc, rfl, .inl ⟨SqL.of hG, fun t nt => q _ _ (fun b' o hb => same_new nt _ _ (k _ _ (nf _ _ hb) (s2 _ _ (s1 _ _ hb)))) (.tup upd_same ?_)⟩⟩
      have e : (deedT n as a b).map entD = (allL n).map fun l => entD (dE n (as, a, b) l) := by
        have := deed_map n (as, a, b)
        rw [show deedT n as a b = (allL n).map (dE n (as, a, b)) from this, List.map_map]
        rfl
      rw [e]
      exact qac.up (same_new nt)
end
end Kr
namespace Kr
open PySem PySem.Spec PyProof.Rows L2
/-- the law's own table of a deed -/
abbrev spMovesL : Sp := fun vs H Q E => spDeedT vs H Q E ∧ ∃ (n : Nat) (d q : Addr) (as : List Nat) (a b : Nat), vs = [.int (n : Int), .ref d] ∧ H d = some (.tup [.ref q, .int (a : Int), .int (b : Int)]) ∧ a ≠ b
theorem moves_in {n : Nat} {H : Hp} {Q : VK} {E : XK} {d q : Addr} {m : Mv} (hn : n ≤ 6) (hd : H d = some (.tup [.ref q, .int (m.2.1 : Nat), .int (m.2.2 : Nat)])) (hq : H q = some (.tup (lv m.1))) (hl : m.1.length ≤ 24) (D : Deed n m)
    (k : ∀ H' v, Same H H' → Dq H' v (tabD (deedT n m.1 m.2.1 m.2.2)) → Q v H') : spMovesL [.int (n : Int), .ref d] H Q E := by
  have h1 := D.ab
  have h2 := D.bn
  exact ⟨⟨n, d, q, m.1, m.2.1, m.2.2, rfl, hn, hd, hq, hl, by omega, h2, k⟩, n, d, q, m.1, m.2.1, m.2.2, rfl, hd, by omega⟩
end Kr
namespace Kr
open PySem PySem.Spec PyProof.Rows L2
def atR (r : Row) (i : Nat) : Bool × Bool := r.getD i (false, false)
theorem atR_some {r : Row} {i : Nat} {p : Bool × Bool} (h : r[i]? = some p) : atR r i = p := by
  unfold atR
  rw [List.getD_eq_getElem?_getD, h]
  rfl
def addP (p q : Bool × Bool) : Bool × Bool := (p.1 ^^ q.1, p.2 ^^ q.2)
theorem range_addR {a b : Row} {n : Nat} (ha : a.length = n) (hb : b.length = n) : (List.range n).map (fun i => pairD (addP (atR a i) (atR b i))) = (addR a b).map pairD := by
  apply List.ext_getElem?
  intro i
  rw [List.getElem?_map, List.getElem?_map, addR, List.getElem?_zipWith]
  by_cases hi : i < n
  · have h1 : i < a.length := by omega
    have h2 : i < b.length := by omega
    rw [List.getElem?_range hi, List.getElem?_eq_getElem h1, List.getElem?_eq_getElem h2]
    simp only [Option.map_some]
    rw [atR_some (List.getElem?_eq_getElem h1), atR_some (List.getElem?_eq_getElem h2)]
    rfl
  · have h3 : (List.range n)[i]? = none := List.getElem?_eq_none_iff.mpr (by rw [List.length_range]; omega)
    have h1 : a[i]? = none := List.getElem?_eq_none_iff.mpr (by omega)
    rw [h3, h1]
    rfl
def spSums : Sp := fun vs H Q _ => ∃ (n : Nat) (a : Addr) (us : List V) (rs : List Row), vs = [.int (n : Int), .ref a] ∧ n ≤ 30 ∧ H a = some (.lst us) ∧ DqA H us (rs.map rowD) ∧ (∀ r ∈ rs, r.length = n + 1) ∧ ∀ H' v, Same H H' → Dq H' v (rowD (rs.foldl addR (zeroR n))) → Q v H'
theorem rep_one2 {x : V} (k : Nat) : (List.replicate k [x]).flatten = List.replicate k x := by
  induction k with
  | zero => rfl
  | succ k ih => rw [List.replicate_succ, List.flatten_cons, ih]; rfl
theorem rows_flat (rs : List Row) : flatTA (rs.map rowD) = true := flatTA_of fun d hd => by
  obtain ⟨r, _, rfl⟩ := List.mem_map.mp hd
  exact row_flat r
theorem fold_len {n : Nat} : ∀ (rs : List Row) (a : Row), a.length = n → (∀ r ∈ rs, r.length = n) → (rs.foldl addR a).length = n
  | [], a, h, _ => h
  | r :: rs, a, h, g => fold_len rs (addR a r) (by rw [addR_len (by rw [h, g r List.mem_cons_self]), g r List.mem_cons_self]) fun x hx => g x (List.mem_cons_of_mem _ hx)
theorem zero_dq {H : Hp} {t : Addr} (h : H t = some (.tup [.int 0, .int 0])) : ∀ k : Nat, DqA H (List.replicate k (V.ref t)) ((List.replicate k (false, false)).map pairD)
  | 0 => .nil
  | k + 1 => by
    rw [List.replicate_succ, List.replicate_succ, List.map_cons]
    exact .cons (pair_at (p := (false, false)) h) (zero_dq h k)
/-- kinds_in, step by step -/
def kinGo (n : Nat) : List Nat → List Int → Row → List Int × Row
  | [], acc, l => (acc, l)
  | k :: ks, acc, l => if (atR l k).2 = true then kinGo n ks (acc ++ [(k : Int)]) (addR l (kindR n k)) else kinGo n ks acc l
def kinD (n : Nat) (r : Row) : PyData := if (kinGo n (List.range (n - 1)) [] r).2 = zeroR n then .tuple ((kinGo n (List.range (n - 1)) [] r).1.map .int) else .none
def witGo (n : Nat) : List Nat → List Int → Row → Option (List Int × Row)
  | [], acc, l => some (acc, l)
  | k :: ks, acc, l => if atR l k = (false, true) then witGo n ks (acc ++ [(k : Int)]) (addR l (kindR n k)) else if atR l k = (false, false) then witGo n ks acc l else none
def witD (n : Nat) (r : Row) : PyData := match witGo n (List.range (n - 1)) [] r with
  | some (acc, l) => if l = zeroR n then .tuple (acc.map .int) else .none
  | none => .none
/-- new data of a number and a row -/
def spRowF (F : Nat → Row → PyData) : Sp := fun vs H Q _ => ∃ (n : Nat) (v : V) (r : Row), vs = [.int (n : Int), v] ∧ 2 ≤ n ∧ n ≤ 30 ∧ r.length = n + 1 ∧ Dq H v (rowD r) ∧ ∀ H' u, Same H H' → Dq H' u (F n r) → Q u H'
theorem atR_get {r : Row} {i : Nat} (h : i < r.length) : r[i]? = some (atR r i) := by
  rw [List.getElem?_eq_getElem h, atR_some (List.getElem?_eq_getElem h)]
theorem biV_one (b : Bool) : decide (V.int (bi b) = V.int 1) = b := by cases b <;> decide
theorem drop_range {n k : Nat} (h : k < n) : (List.range n).drop k = k :: (List.range n).drop (k + 1) := by
  rw [List.drop_eq_getElem_cons (by rw [List.length_range]; exact h), List.getElem_range]
def spLSum : Sp := fun vs H Q _ => ∃ (v u : V) (a b : Row) (n : Nat), vs = [v, u] ∧ a.length = n ∧ b.length = n ∧ n ≤ 1000 ∧ Dq H v (rowD a) ∧ Dq H u (rowD b) ∧ ∀ H' x, Same H H' → Dq H' x (rowD (addR a b)) → Q x H'
/-- whether the figures of b, by twos, stand below those of a -/
def luc : Nat → Nat → Nat → Bool
  | 0, _, _ => true
  | f + 1, a, b => if 0 < b then (if a % 2 < b % 2 then false else luc f (a / 2) (b / 2)) else true
theorem luc_ch : ∀ a : Nat, a < 30 → ∀ b : Nat, b < a + 1 → luc 6 a b = chB (a : Int) (b : Int) := by decide +kernel
theorem luc_zero (f a : Nat) : luc f a 0 = true := by cases f <;> simp [luc]
theorem chB_above {a b : Int} (h : a < b) (h0 : 0 ≤ a) : chB a b = false := by
  unfold chB
  rw [if_pos (by omega), PySem.W.mcComb_above h]
  rfl
theorem chB_neg {a b : Int} (h : b < 0) : chB a b = false := by
  unfold chB
  rw [if_neg (by omega)]
def spLc : Sp := fun vs H Q _ => ∃ a b : Int, vs = [.int a, .int b] ∧ 0 ≤ a ∧ a < 30 ∧ Q (.int (bi (chB a b))) H
theorem zero_iff {r : Row} {n : Nat} (h : r.length = n + 1) : r = zeroR n ↔ ∀ p ∈ r, p = (false, false) := by
  unfold zeroR
  rw [List.eq_replicate_iff]
  exact ⟨fun z => z.2, fun z => ⟨h, z⟩⟩
theorem atR_out {r : Row} {i : Nat} (h : r.length ≤ i) : atR r i = (false, false) := by
  unfold atR
  rw [List.getD_eq_getElem?_getD, List.getElem?_eq_none_iff.mpr h]
  rfl
theorem atR_add {a b : Row} {n : Nat} (ha : a.length = n) (hb : b.length = n) (i : Nat) : atR (addR a b) i = addP (atR a i) (atR b i) := by
  by_cases hi : i < n
  · refine atR_some ?_
    unfold addR
    rw [List.getElem?_zipWith, atR_get (r := a) (by omega), atR_get (r := b) (by omega)]
    rfl
  · rw [atR_out (by rw [addR_len (by omega)]; omega), atR_out (by omega), atR_out (by omega)]
    rfl
theorem row_ext {a b : Row} {n : Nat} (ha : a.length = n) (hb : b.length = n) (h : ∀ i, i < n → atR a i = atR b i) : a = b := by
  apply List.ext_getElem?
  intro i
  by_cases hi : i < n
  · rw [atR_get (by omega), atR_get (by omega), h i hi]
  · rw [List.getElem?_eq_none_iff.mpr (by omega), List.getElem?_eq_none_iff.mpr (by omega)]
theorem addP_ac (p q r : Bool × Bool) : addP (addP p q) r = addP (addP p r) q := by
  obtain ⟨a, b⟩ := p
  obtain ⟨c, d⟩ := q
  obtain ⟨e, f⟩ := r
  cases a <;> cases b <;> cases c <;> cases d <;> cases e <;> cases f <;> rfl
theorem addP_self (p q : Bool × Bool) : addP (addP p q) q = p := by
  obtain ⟨a, b⟩ := p
  obtain ⟨c, d⟩ := q
  cases a <;> cases b <;> cases c <;> cases d <;> rfl
theorem addP_0 (p : Bool × Bool) : addP p (false, false) = p := by
  obtain ⟨a, b⟩ := p
  cases a <;> cases b <;> rfl
theorem addP_0l (p : Bool × Bool) : addP (false, false) p = p := by
  obtain ⟨a, b⟩ := p
  cases a <;> cases b <;> rfl
theorem len2 {a b : Row} {n : Nat} (ha : a.length = n) (hb : b.length = n) : (addR a b).length = n := by rw [addR_len (by omega), hb]
theorem addR_ac {a b c : Row} {n : Nat} (ha : a.length = n) (hb : b.length = n) (hc : c.length = n) : addR (addR a b) c = addR (addR a c) b :=
  row_ext (len2 (len2 ha hb) hc) (len2 (len2 ha hc) hb) fun i _ => by
    rw [atR_add (len2 ha hb) hc, atR_add ha hb, atR_add (len2 ha hc) hb, atR_add ha hc, addP_ac]
theorem addR_self {a b : Row} {n : Nat} (ha : a.length = n) (hb : b.length = n) : addR (addR a b) b = a :=
  row_ext (len2 (len2 ha hb) hb) ha fun i _ => by rw [atR_add (len2 ha hb) hb, atR_add ha hb, addP_self]
theorem addR_z {a : Row} {n : Nat} (ha : a.length = n + 1) : addR (zeroR n) a = a := addR_zero (n + 1) a ha
theorem atR_zero (n i : Nat) : atR (zeroR n) i = (false, false) := by
  by_cases hi : i < n + 1
  · refine atR_some ?_
    unfold zeroR
    rw [List.getElem?_replicate, if_pos hi]
  · exact atR_out (by rw [zeroR_len]; omega)
theorem atR_kind {n k i : Nat} (hi : i < n + 1) : atR (kindR n k) i = (chB ((n : Int) - 2 - k) ((i : Int) - 1 - k), chB ((n : Int) - 2 - k) ((i : Int) - k)) := by
  refine atR_some ?_
  unfold kindR
  rw [List.getElem?_map, List.getElem?_range hi]
  rfl
theorem kind_low {n k i : Nat} (hk : i < k) : atR (kindR n k) i = (false, false) := by
  by_cases hi : i < n + 1
  · rw [atR_kind hi, chB_neg (by omega), chB_neg (by omega)]
  · exact atR_out (by rw [kindR_len]; omega)
theorem kind_own {n k : Nat} (hk : k + 2 ≤ n) : atR (kindR n k) k = (false, true) := by
  rw [atR_kind (by omega), chB_neg (by omega)]
  have h0 : (k : Int) - k = 0 := by omega
  rw [h0]
  unfold chB
  rw [if_pos (Int.le_refl _)]
  have := (PySem.W.mc_comb_known (a := (n : Int) - 2 - k) (b := 0) (by omega) (Int.le_refl _)).2.2.2.1 rfl
  rw [this]
  rfl
theorem kinGo_app (n : Nat) : ∀ (a b : List Nat) (acc : List Int) (l : Row), kinGo n (a ++ b) acc l = kinGo n b (kinGo n a acc l).1 (kinGo n a acc l).2
  | [], _, _, _ => rfl
  | k :: a, b, acc, l => by
    simp only [List.cons_append, kinGo]
    by_cases h : (atR l k).2 = true
    · rw [if_pos h, if_pos h, kinGo_app n a b]
    · rw [if_neg h, if_neg h, kinGo_app n a b]
theorem kinGo_len (n : Nat) : ∀ (ks : List Nat) (acc : List Int) (l : Row), l.length = n + 1 → (kinGo n ks acc l).2.length = n + 1
  | [], _, _, h => h
  | k :: ks, acc, l, h => by
    simp only [kinGo]
    by_cases c : (atR l k).2 = true
    · rw [if_pos c]
      exact kinGo_len n ks _ _ (len2 h (kindR_len n k))
    · rw [if_neg c]
      exact kinGo_len n ks _ _ h
/-- a row that is nought at these places goes along -/
theorem kinGo_add (n : Nat) {z : Row} (hz : z.length = n + 1) : ∀ (ks : List Nat) (acc : List Int) (l : Row), l.length = n + 1 → (∀ k ∈ ks, (atR z k).2 = false) → kinGo n ks acc (addR l z) = ((kinGo n ks acc l).1, addR (kinGo n ks acc l).2 z)
  | [], _, _, _, _ => rfl
  | k :: ks, acc, l, hl, h => by
    have h1 : (atR (addR l z) k).2 = (atR l k).2 := by
      rw [atR_add hl hz]
      simp [addP, h k List.mem_cons_self]
    have h2 : ∀ j ∈ ks, (atR z j).2 = false := fun j hj => h j (List.mem_cons_of_mem _ hj)
    simp only [kinGo, h1]
    by_cases c : (atR l k).2 = true
    · rw [if_pos c, if_pos c, addR_ac hl hz (kindR_len n k)]
      exact kinGo_add n hz ks _ _ (len2 hl (kindR_len n k)) h2
    · rw [if_neg c, if_neg c]
      exact kinGo_add n hz ks _ _ hl h2
/-- the places ahead stay -/
theorem kinGo_col (n i : Nat) : ∀ (ks : List Nat) (acc : List Int) (l : Row), l.length = n + 1 → (∀ k ∈ ks, i < k) → atR (kinGo n ks acc l).2 i = atR l i
  | [], _, _, _, _ => rfl
  | k :: ks, acc, l, hl, h => by
    have h2 : ∀ j ∈ ks, i < j := fun j hj => h j (List.mem_cons_of_mem _ hj)
    simp only [kinGo]
    by_cases c : (atR l k).2 = true
    · rw [if_pos c, kinGo_col n i ks _ _ (len2 hl (kindR_len n k)) h2, atR_add hl (kindR_len n k), kind_low (h k List.mem_cons_self), addP_0]
    · rw [if_neg c, kinGo_col n i ks _ _ hl h2]
theorem wit_kin (n : Nat) : ∀ (ks : List Nat) (acc : List Int) (l : Row), l.length = n + 1 → ks.Pairwise (· < ·) → (∀ k ∈ ks, k + 2 ≤ n) →
    witGo n ks acc l = some (kinGo n ks acc l) ∨ (witGo n ks acc l = none ∧ (kinGo n ks acc l).2 ≠ zeroR n)
  | [], _, _, _, _, _ => .inl rfl
  | k :: ks, acc, l, hl, hp, h => by
    obtain ⟨hp1, hp2⟩ := List.pairwise_cons.mp hp
    have h2 : ∀ j ∈ ks, j + 2 ≤ n := fun j hj => h j (List.mem_cons_of_mem _ hj)
    have hk := h k List.mem_cons_self
    have bad : ∀ (acc : List Int) (l' : Row), l'.length = n + 1 → (atR l' k).1 = true → (kinGo n ks acc l').2 ≠ zeroR n := fun acc l' hl' c z => by
      have := kinGo_col n k ks acc l' hl' hp1
      rw [z, atR_zero] at this
      rw [← this] at c
      cases c
    simp only [witGo, kinGo]
    generalize hp0 : atR l k = p
    obtain ⟨a, b⟩ := p
    cases a with
    | false =>
      cases b with
      | false =>
        rw [if_neg (by decide), if_pos rfl, if_neg (by decide)]
        exact wit_kin n ks acc l hl hp2 h2
      | true =>
        rw [if_pos rfl, if_pos rfl]
        exact wit_kin n ks _ _ (len2 hl (kindR_len n k)) hp2 h2
    | true =>
      rw [if_neg (by cases b <;> decide), if_neg (by cases b <;> decide)]
      refine .inr ⟨rfl, ?_⟩
      cases b with
      | false =>
        rw [if_neg (by decide)]
        exact bad acc l hl (by rw [hp0])
      | true =>
        rw [if_pos rfl]
        refine bad _ _ (len2 hl (kindR_len n k)) ?_
        rw [atR_add hl (kindR_len n k), hp0, kind_own hk]
        rfl
theorem range_pw (m : Nat) : (List.range m).Pairwise (· < ·) := List.pairwise_lt_range
theorem wit_eq {n : Nat} {r : Row} (hl : r.length = n + 1) (hn : 2 ≤ n) : witD n r = kinD n r := by
  unfold witD kinD
  rcases wit_kin n (List.range (n - 1)) [] r hl (range_pw _) (fun k hk => by have := List.mem_range.mp hk; omega) with e | ⟨e, hz⟩
  · rw [e]
  · rw [e, if_neg hz]
def bySt (n : Nat) : Nat → List (Row × List Int)
  | 0 => [(zeroR n, [])]
  | k + 1 => bySt n k ++ (bySt n k).map fun e => (addR e.1 (kindR n k), e.2 ++ [(k : Int)])
theorem by_len (n : Nat) : ∀ k, ∀ e ∈ bySt n k, e.1.length = n + 1
  | 0, e, h => by
    rw [List.mem_singleton.mp h]
    exact zeroR_len n
  | k + 1, e, h => by
    rcases List.mem_append.mp h with h | h
    · exact by_len n k e h
    · obtain ⟨f, hf, rfl⟩ := List.mem_map.mp h
      exact len2 (by_len n k f hf) (kindR_len n k)
theorem by_size (n : Nat) : ∀ k, (bySt n k).length = 2 ^ k
  | 0 => rfl
  | k + 1 => by
    show (bySt n k ++ _).length = _
    rw [List.length_append, List.length_map, by_size n k, Nat.pow_succ]
    omega
theorem low_of (n : Nat) {k : Nat} : ∀ j ∈ List.range k, (atR (kindR n k) j).2 = false := fun j hj => by
  rw [kind_low (List.mem_range.mp hj)]
theorem by_dec (n : Nat) : ∀ k, k + 1 ≤ n → ∀ e ∈ bySt n k, kinGo n (List.range k) [] e.1 = (e.2, zeroR n)
  | 0, _, e, h => by
    rw [List.mem_singleton.mp h]
    rfl
  | k + 1, hk, e, h => by
    rw [List.range_succ, kinGo_app]
    rcases List.mem_append.mp h with h | h
    · rw [by_dec n k (by omega) e h]
      simp only [kinGo, atR_zero]
      rfl
    · obtain ⟨f, hf, rfl⟩ := List.mem_map.mp h
      rw [kinGo_add n (kindR_len n k) _ _ _ (by_len n k f hf) (low_of n), by_dec n k (by omega) f hf]
      simp only [kinGo]
      rw [addR_z (kindR_len n k), kind_own (by omega), if_pos rfl]
      have e0 : addR (kindR n k) (kindR n k) = zeroR n := by
        have := addR_self (zeroR_len n) (kindR_len n k)
        rw [addR_z (kindR_len n k)] at this
        exact this
      rw [e0]
theorem by_all (n : Nat) : ∀ k, k + 1 ≤ n → ∀ (r : Row) (S : List Int), r.length = n + 1 → kinGo n (List.range k) [] r = (S, zeroR n) → (r, S) ∈ bySt n k
  | 0, _, r, S, hl, h => by
    have h2 : ([], r) = (S, zeroR n) := h
    cases h2
    exact List.mem_singleton.mpr rfl
  | k + 1, hk, r, S, hl, h => by
    rw [List.range_succ, kinGo_app] at h
    generalize hg : kinGo n (List.range k) [] r = g at h
    obtain ⟨S1, l1⟩ := g
    have hl1 : l1.length = n + 1 := by
      have := kinGo_len n (List.range k) [] r hl
      rw [hg] at this
      exact this
    simp only [kinGo] at h
    by_cases c : (atR l1 k).2 = true
    · rw [if_pos c] at h
      cases h2 : addR l1 (kindR n k) with
      | nil => have := len2 hl1 (kindR_len n k); rw [h2] at this; cases this
      | cons x y =>
        have e1 : S1 ++ [(k : Int)] = S := congrArg Prod.fst h
        have e2 : addR l1 (kindR n k) = zeroR n := congrArg Prod.snd h
        have e3 : l1 = kindR n k := by
          have := addR_self hl1 (kindR_len n k)
          rw [e2, addR_z (kindR_len n k)] at this
          exact this.symm
        refine List.mem_append_right _ (List.mem_map.mpr ⟨(addR r (kindR n k), S1), by_all n k (by omega) _ _ (len2 hl (kindR_len n k)) ?_, ?_⟩)
        · rw [kinGo_add n (kindR_len n k) _ _ _ hl (low_of n), hg]
          simp only
          rw [e2]
        · simp only
          rw [addR_self hl (kindR_len n k), e1]
    · rw [if_neg c] at h
      cases h
      exact List.mem_append_left _ (by_all n k (by omega) r _ hl hg)
theorem by_nodup (n : Nat) : ∀ k, k + 1 ≤ n → ((bySt n k).map (·.1)).Nodup
  | 0, _ => by simp [bySt]
  | k + 1, hk => by
    show ((bySt n k ++ _).map (·.1)).Nodup
    rw [List.map_append, List.map_map]
    have ih := by_nodup n k (by omega)
    refine List.nodup_append.mpr ⟨ih, ?_, ?_⟩
    · have e : ((fun x : Row × List Int => x.1) ∘ fun e : Row × List Int => (addR e.1 (kindR n k), e.2 ++ [(k : Int)])) = fun e => addR e.1 (kindR n k) := rfl
      rw [e]
      have h2 := List.pairwise_map.mp ih
      refine List.pairwise_map.mpr (List.Pairwise.imp_of_mem (R := fun a b => a.1 ≠ b.1) (fun {a b} ha hb hab z => hab ?_) h2)
      have := addR_self (by_len n k a ha) (kindR_len n k)
      rw [show addR a.1 (kindR n k) = addR b.1 (kindR n k) from z, addR_self (by_len n k b hb) (kindR_len n k)] at this
      exact this.symm
    · intro a ha b hb z
      obtain ⟨e, he, rfl⟩ := List.mem_map.mp ha
      obtain ⟨f, hf, rfl⟩ := List.mem_map.mp hb
      have h1 := by_dec n k (by omega) e he
      have h2 := kinGo_add n (kindR_len n k) (List.range k) [] f.1 (by_len n k f hf) (low_of n)
      rw [by_dec n k (by omega) f hf] at h2
      have z' : e.1 = addR f.1 (kindR n k) := z
      rw [z', h2] at h1
      have h3 : addR (zeroR n) (kindR n k) = zeroR n := congrArg Prod.snd h1
      rw [addR_z (kindR_len n k)] at h3
      have h4 := kind_own (n := n) (k := k) (by omega)
      rw [h3, atR_zero] at h4
      cases h4
def byD (n : Nat) (r : Row) : PyData := match (bySt n (n - 1)).find? fun e => decide (e.1 = r) with
  | some e => .tuple (e.2.map .int)
  | none => .none
theorem by_eq {n : Nat} {r : Row} (hl : r.length = n + 1) (hn : 2 ≤ n) : byD n r = kinD n r := by
  unfold byD kinD
  cases hf : (bySt n (n - 1)).find? fun e => decide (e.1 = r) with
  | some e =>
    have h1 := List.mem_of_find?_eq_some hf
    have h2 : e.1 = r := of_decide_eq_true (by have := List.find?_some hf; exact this)
    have h3 := by_dec n (n - 1) (by omega) e h1
    rw [h2] at h3
    rw [h3, if_pos rfl]
  | none =>
    rw [if_neg]
    intro z
    have h1 := by_all n (n - 1) (by omega) r _ hl (show kinGo n (List.range (n - 1)) [] r = ((kinGo n (List.range (n - 1)) [] r).1, zeroR n) by rw [← z])
    have h2 := List.find?_eq_none.mp hf _ h1
    exact h2 (decide_eq_true rfl)
/-- what a part of the kinds makes is found again -/
def sumK (n : Nat) (ks : List Nat) : Row := ks.foldl (fun r k => addR r (kindR n k)) (zeroR n)
theorem by_sub (n : Nat) : ∀ (m : Nat) (ks : List Nat), ks.Sublist (List.range m) → (sumK n ks, ks.map fun (k : Nat) => (k : Int)) ∈ bySt n m
  | 0, ks, h => by
    have : ks = [] := by simpa using h
    subst this
    exact List.mem_singleton.mpr rfl
  | m + 1, ks, h => by
    rw [List.range_succ] at h
    obtain ⟨a, b, rfl, ha, hb⟩ := List.sublist_append_iff.mp h
    have ih := by_sub n m a ha
    cases hb with
    | cons _ hb =>
      have : b = [] := by simpa using hb
      subst this
      rw [List.append_nil]
      exact List.mem_append_left _ ih
    | cons_cons _ hb =>
      rename_i b
      have : b = [] := by simpa using hb
      subst this
      refine List.mem_append_right _ (List.mem_map.mpr ⟨_, ih, ?_⟩)
      simp only [sumK, List.foldl_append, List.foldl_cons, List.foldl_nil, List.map_append, List.map_cons, List.map_nil]
theorem kin_sum {n : Nat} {ks : List Nat} (hn : 2 ≤ n) (h : ks.Sublist (List.range (n - 1))) : kinD n (sumK n ks) = .tuple (ks.map fun (k : Nat) => .int (k : Int)) := by
  have h1 := by_dec n (n - 1) (by omega) _ (by_sub n _ ks h)
  unfold kinD
  rw [h1, if_pos rfl, List.map_map]
  rfl
theorem sumK_len (n : Nat) (ks : List Nat) : (sumK n ks).length = n + 1 := by
  unfold sumK
  have : ∀ (ks : List Nat) (r : Row), r.length = n + 1 → (ks.foldl (fun r k => addR r (kindR n k)) r).length = n + 1 := by
    intro ks
    induction ks with
    | nil => exact fun r h => h
    | cons k ks ih => exact fun r h => ih _ (len2 h (kindR_len n k))
  exact this ks _ (zeroR_len n)
end Kr
namespace Kr
open PySem PySem.Spec PyProof.Rows L2
/-! ### tables turned back -/
theorem EntF.lies {n : Nat} {l : List Nat} {e : List Int} (h : EntF n l e) : Lies n (goalE n e) e := by
  refine ⟨h.len, fun y hy => ?_, fun x hx c => ?_, fun y z hy hz p q => ?_⟩
  · by_cases c : y ∈ l
    · exact .inl (h.key y hy c)
    · obtain ⟨p1, p2⟩ := h.off hy c
      have := h.rid y hy c
      exact .inr ⟨_, p1, p2, by omega⟩
  · obtain ⟨y, hy, _, e1⟩ := h.from hx c
    exact ⟨y, hy, e1⟩
  · have cy : y ∉ l := fun c => by rw [h.key y hy c] at p; omega
    have cz : z ∉ l := fun c => by rw [q, h.key z hz c] at p; omega
    exact h.inj y z hy hz cy cz q
/-- the entry that leads back -/
theorem EntF.back {n : Nat} {l : List Nat} {e : List Int} (hl : Asc 0 n l) (h : EntF n l e) : EntF n (goalE n e) (lawE n e) ∧ goalE n (lawE n e) = l := by
  refine ⟨h.lies.ent, asc_ext (goal_asc _ _) hl fun y => ?_⟩
  by_cases hy : y < n
  · rw [h.lies.goal hy]
    constructor
    · intro c
      refine Classical.byContradiction fun k => c (h.rid y hy k).1
    · intro k
      rw [h.key y hy k]
      decide
  · exact ⟨fun c => absurd (mem_goal.mp c).1 hy, fun c => absurd (by have := (hl.2 y c).2; omega) hy⟩
theorem back_at {n : Nat} {l : List Nat} {e : List Int} (h : EntF n l e) {x : Nat} (hx : x < n) (c : x ∉ l) : (lawE n e).getD (e.getD x 0).toNat 0 = (x : Int) := by
  obtain ⟨p1, p2⟩ := h.off hx c
  have := h.rid x hx c
  exact h.lies.put p1 hx (by omega)
theorem cmp_back {n : Nat} {l : List Nat} {e : List Int} (h : EntF n l e) : cmpE e (lawE n e) = byE l (ups n) := by
  refine list_ext (n := n) (by unfold cmpE; rw [List.length_map, h.len]) (by rw [byE_len, ups_len]) fun x hx => ?_
  rw [cmp_at (by rw [h.len]; exact hx), byE_at (by rw [ups_len]; exact hx)]
  by_cases c : x ∈ l
  · rw [if_pos c, (h.neg hx).mpr c, if_pos rfl]
  · rw [if_neg c, if_neg (fun z => c ((h.neg hx).mp z)), back_at h hx c, ups_at hx]
theorem back_back {n : Nat} {l : List Nat} {e : List Int} (hl : Asc 0 n l) (h : EntF n l e) : lawE n (lawE n e) = e := by
  obtain ⟨g, eg⟩ := h.back hl
  obtain ⟨k, ek⟩ := g.back (goal_asc _ _)
  rw [eg] at k
  refine list_ext (n := n) (lawE_len _ _) h.len fun x hx => ?_
  by_cases c : x ∈ l
  · rw [k.key x hx c, h.key x hx c]
  · obtain ⟨p1, p2⟩ := h.off hx c
    have e1 := back_at g p1 p2
    rw [back_at h hx c, Int.toNat_natCast] at e1
    have := h.rid x hx c
    rw [e1]
    omega
theorem back_cmp {n : Nat} {l : List Nat} {e : List Int} (hl : Asc 0 n l) (h : EntF n l e) : cmpE (lawE n e) e = byE (goalE n e) (ups n) := by
  have := cmp_back (h.back hl).1
  rwa [back_back hl h] at this
/-- the lot that is led to g -/
def srcL (n : Nat) (T : List (List Int)) (g : List Nat) : List Nat := ((allL n).find? fun l => decide (goalE n (en n T l) = g)).getD []
def turnT (n : Nat) (T : List (List Int)) : List (List Int) := (allL n).map fun g => lawE n (en n T (srcL n T g))
section
variable {n : Nat} {T U : List (List Int)}
theorem TabOk.src (hn : n ≤ 6) (h : TabOk n T) {g : List Nat} (hg : g ∈ allL n) : srcL n T g ∈ allL n ∧ goalE n (en n T (srcL n T g)) = g := by
  have hm : g ∈ (allL n).map fun l => goalE n (en n T l) := (h.goalp hn).symm.subset hg
  obtain ⟨l, hl, e⟩ := List.mem_map.mp hm
  unfold srcL
  cases hf : (allL n).find? fun l => decide (goalE n (en n T l) = g) with
  | none =>
    have := List.find?_eq_none.mp hf l hl
    exact absurd (decide_eq_true e) this
  | some z =>
    have p := List.find?_some hf
    exact ⟨List.mem_of_find?_eq_some hf, of_decide_eq_true p⟩
theorem TabOk.src_goal (hn : n ≤ 6) (h : TabOk n T) {l : List Nat} (hl : l ∈ allL n) : srcL n T (goalE n (en n T l)) = l := by
  obtain ⟨h1, h2⟩ := h.src hn (goal_all hn (en n T l))
  exact h.gl_inj' hn h1 hl h2
theorem en_turn (hn : n ≤ 6) {g : List Nat} (hg : g ∈ allL n) : en n (turnT n T) g = lawE n (en n T (srcL n T g)) := en_map hn hg
theorem TabOk.turn_ent (hn : n ≤ 6) (h : TabOk n T) {g : List Nat} (hg : g ∈ allL n) : EntF n g (lawE n (en n T (srcL n T g))) ∧ goalE n (lawE n (en n T (srcL n T g))) = srcL n T g := by
  obtain ⟨h1, h2⟩ := h.src hn hg
  have := (h.ent hn h1).back (all_ascL hn _ h1)
  rwa [h2] at this
theorem TabOk.turn (hn : n ≤ 6) (h : TabOk n T) : TabOk n (turnT n T) := by
  refine TabOk.of_map hn (fun g hg => (h.turn_ent hn hg).1) ?_
  have e : ((allL n).map fun g => goalE n (lawE n (en n T (srcL n T g)))) = (allL n).map (srcL n T) := List.map_congr_left fun g hg => (h.turn_ent hn hg).2
  rw [e]
  have p := ((h.goalp hn).symm.map (srcL n T))
  refine p.trans (List.Perm.of_eq ?_)
  rw [List.map_map]
  exact (List.map_congr_left fun l hl => h.src_goal hn hl).trans (List.map_id _)
theorem both_turn (hn : n ≤ 6) (h : TabOk n T) : bothT n T (turnT n T) = stillT n := by
  rw [both_map hn h]
  refine List.map_congr_left fun l hl => ?_
  rw [en_turn hn (goal_all hn _), h.src_goal hn hl]
  exact cmp_back (h.ent hn hl)
theorem turn_both (hn : n ≤ 6) (h : TabOk n T) : bothT n (turnT n T) T = stillT n := by
  rw [both_map hn (h.turn hn)]
  refine List.map_congr_left fun g hg => ?_
  obtain ⟨h1, h2⟩ := h.src hn hg
  rw [en_turn hn hg, (h.turn_ent hn hg).2]
  have := back_cmp (all_ascL hn _ h1) (h.ent hn h1)
  rwa [h2] at this
theorem inv_one (hn : n ≤ 6) (h : TabOk n T) {W : List (List Int)} (hW : TabOk n W) (e : bothT n T W = stillT n) : W = turnT n T := by
  rw [← still_both hn hW, ← turn_both hn h, both_assoc hn (h.turn hn) h hW, e, both_still hn (h.turn hn)]
theorem turn_turn (hn : n ≤ 6) (h : TabOk n T) : turnT n (turnT n T) = T := (inv_one hn (h.turn hn) h (turn_both hn h)).symm
theorem turn_of_both (hn : n ≤ 6) (h : TabOk n T) (g : TabOk n U) : turnT n (bothT n T U) = bothT n (turnT n U) (turnT n T) := by
  refine (inv_one hn (h.both hn g) ((g.turn hn).both hn (h.turn hn)) ?_).symm
  rw [both_assoc hn h g ((g.turn hn).both hn (h.turn hn)), ← both_assoc hn g (g.turn hn) (h.turn hn), both_turn hn g, still_both hn (h.turn hn), both_turn hn h]
/-! ### lists that are filled place by place -/
def putAll {α : Type} (ps : List (Nat × α)) (L : List α) : List α := ps.foldl (fun L p => L.set p.1 p.2) L
theorem putAll_len {α : Type} : ∀ (ps : List (Nat × α)) (L : List α), (putAll ps L).length = L.length
  | [], _ => rfl
  | p :: ps, L => by
    unfold putAll
    rw [List.foldl_cons]
    exact (putAll_len ps _).trans List.length_set
theorem putAll_keep {α : Type} {i : Nat} : ∀ (ps : List (Nat × α)) (L : List α), (∀ p ∈ ps, p.1 ≠ i) → (putAll ps L)[i]? = L[i]?
  | [], _, _ => rfl
  | p :: ps, L, h => by
    unfold putAll
    rw [List.foldl_cons]
    refine (putAll_keep ps _ fun q hq => h q (List.mem_cons_of_mem _ hq)).trans ?_
    exact List.getElem?_set_ne (h p List.mem_cons_self)
theorem putAll_at {α : Type} {i : Nat} {v : α} : ∀ (ps : List (Nat × α)) (L : List α), (ps.map (·.1)).Nodup → (i, v) ∈ ps → i < L.length → (putAll ps L)[i]? = some v
  | p :: ps, L, nd, h, hi => by
    have nd2 : p.1 ∉ ps.map (·.1) ∧ (ps.map (·.1)).Nodup := by simpa using nd
    unfold putAll
    rw [List.foldl_cons]
    rcases List.mem_cons.mp h with c | c
    · subst c
      refine (putAll_keep ps _ fun q hq z => nd2.1 (List.mem_map.mpr ⟨q, hq, z⟩)).trans ?_
      exact List.getElem?_set_self hi
    · exact putAll_at ps _ nd2.2 c (by rw [List.length_set]; exact hi)
theorem putAll_snoc {α : Type} (ps : List (Nat × α)) (p : Nat × α) (L : List α) : putAll (ps ++ [p]) L = (putAll ps L).set p.1 p.2 := by
  unfold putAll
  rw [List.foldl_append]
  rfl
theorem putAll_mem {α : Type} {d : α} : ∀ (ps : List (Nat × α)) (L : List α), d ∈ putAll ps L → d ∈ L ∨ ∃ p ∈ ps, d = p.2
  | [], _, h => .inl h
  | p :: ps, L, h => by
    unfold putAll at h
    rw [List.foldl_cons] at h
    rcases putAll_mem ps _ h with c | ⟨q, hq, e⟩
    · rcases List.mem_or_eq_of_mem_set c with k | k
      · exact .inl k
      · exact .inr ⟨p, List.mem_cons_self, k⟩
    · exact .inr ⟨q, List.mem_cons_of_mem _ hq, e⟩
def backP (n : Nat) (e : List Int) : Nat × PyData := (num n (goalE n e), entD (lawE n e))
theorem put_flat (n k : Nat) (T : List (List Int)) : flatTA (putAll (T.map (backP n)) (List.replicate k (.tuple []))) = true := flatTA_of fun d hd => by
  rcases putAll_mem _ _ hd with c | ⟨p, hp, rfl⟩
  · rw [List.eq_of_mem_replicate c]
    rfl
  · obtain ⟨e, _, rfl⟩ := List.mem_map.mp hp
    exact ent_flat _
theorem turn_put (hn : n ≤ 6) (h : TabOk n T) : putAll (T.map (backP n)) (List.replicate (2 ^ n) (.tuple [])) = (turnT n T).map entD := by
  have hT := h.map hn
  have nd : ((T.map (backP n)).map (·.1)).Nodup := by
    rw [List.map_map]
    have e : (T.map ((fun x : Nat × PyData => x.1) ∘ backP n)) = (T.map (goalE n)).map (num n) := by rw [List.map_map]; rfl
    rw [e]
    have := (h.goals.map (num n))
    rw [lots_nums n (by omega)] at this
    exact this.symm.nodup List.nodup_range
  refine List.ext_getElem? fun i => ?_
  by_cases hi : i < 2 ^ n
  · obtain ⟨g, hg⟩ : ∃ g, (allL n)[i]? = some g := ⟨_, List.getElem?_eq_getElem (by rw [all_len n (by omega)]; exact hi)⟩
    have hga := List.mem_of_getElem? hg
    obtain ⟨h1, h2⟩ := h.src hn hga
    have hmem : (i, entD (lawE n (en n T (srcL n T g)))) ∈ T.map (backP n) := by
      refine List.mem_map.mpr ⟨en n T (srcL n T g), List.mem_of_getElem? (h.get hn h1), ?_⟩
      unfold backP
      rw [h2, (all_num_at hn hg).1]
    rw [putAll_at _ _ nd hmem (by rw [List.length_replicate]; exact hi)]
    unfold turnT
    rw [List.getElem?_map, List.getElem?_map, hg]
    rfl
  · rw [List.getElem?_eq_none (by rw [putAll_len, List.length_replicate]; omega), List.getElem?_eq_none (by rw [List.length_map, (h.turn hn).len hn]; omega)]
end
def spUndone : Sp := fun vs H Q _ => ∃ (n : Nat) (v : V) (T : List (List Int)), vs = [.int (n : Int), v] ∧ n ≤ 6 ∧ Dq H v (tabD T) ∧ TabOk n T ∧ ∀ H' r, Same H H' → Dq H' r (tabD (turnT n T)) → Q r H'
def spTurnB : Sp := fun vs H Q _ => ∃ (n : Nat) (a : Addr) (l : List Nat) (e : List Int), vs = [.ref a] ∧ n ≤ 6 ∧ H a = some (.tup (e.map V.int)) ∧ EntF n l e ∧ ∀ H' t, Same H H' → H' t = some (.tup ((lawE n e).map V.int)) → Q (.ref t) H'
end Kr
namespace Kr
open PySem PySem.Spec PyProof.Rows L2
/-! ### an entry filled place by place -/
abbrev openL (n : Nat) (k : List Nat) : List Nat := (List.range n).filter fun (y : Nat) => !decide (y ∈ k)
theorem filt_none {e : List Int} (h : ∀ x, x < e.length → e.getD x 0 = -1) : e.filter (fun x => !decide (x = -1)) = [] := by
  rw [List.filter_eq_nil_iff]
  intro a ha
  obtain ⟨i, hi, rfl⟩ := List.getElem_of_mem ha
  have := h i hi
  rw [List.getD_eq_getElem?_getD, List.getElem?_eq_getElem hi] at this
  simpa using this
theorem filt_set : ∀ {e : List Int} {y : Nat} {z : Int}, y < e.length → z ≠ -1 → (∀ x, y ≤ x → x < e.length → e.getD x 0 = -1) →
    (e.set y z).filter (fun x => !decide (x = -1)) = e.filter (fun x => !decide (x = -1)) ++ [z]
  | [], y, z, hy, _, _ => absurd hy (Nat.not_lt_zero _)
  | a :: e, 0, z, _, hz, h => by
    have h1 := filt_none (e := a :: e) fun x hx => h x (Nat.zero_le _) hx
    have h2 := filt_none (e := e) fun x hx => by
      have := h (x + 1) (Nat.zero_le _) (by simpa using hx)
      simpa using this
    rw [h1, List.set_cons_zero, List.filter_cons, h2]
    simp [hz]
  | a :: e, y + 1, z, hy, hz, h => by
    have ih := filt_set (e := e) (y := y) (z := z) (by simpa using hy) hz fun x h1 h2 => by
      have := h (x + 1) (by omega) (by simpa using h2)
      simpa using this
    rw [List.set_cons_succ, List.filter_cons, List.filter_cons, ih]
    split <;> rfl
structure Fil (n : Nat) (ys : List Nat) (zs : List Int) (t : Nat) (e : List Int) : Prop where
  len : e.length = n
  fil : e.filter (fun x => !decide (x = -1)) = zs.take t
  no : ∀ x, x < n → x ∉ ys.take t → e.getD x 0 = -1
  yes : ∀ x, x < n → x ∈ ys.take t → e.getD x 0 ∈ zs
theorem rep_at {n x : Nat} (hx : x < n) : (List.replicate n (-1 : Int)).getD x 0 = -1 := by
  rw [List.getD_eq_getElem?_getD, List.getElem?_replicate, if_pos hx]
  rfl
theorem Fil.zero {n : Nat} {ys : List Nat} {zs : List Int} : Fil n ys zs 0 (List.replicate n (-1)) :=
  ⟨List.length_replicate, by rw [filt_none fun x hx => rep_at (by simpa using hx)]; rfl, fun x hx _ => rep_at hx, fun x _ h => by simp at h⟩
theorem set_at {e : List Int} {y x : Nat} {z : Int} (hx : x < e.length) : (e.set y z).getD x 0 = if x = y then z else e.getD x 0 := by
  rw [List.getD_eq_getElem?_getD, List.getElem?_set, List.getD_eq_getElem?_getD]
  by_cases c : x = y
  · subst c
    rw [if_pos rfl, if_pos hx, if_pos rfl]
    rfl
  · rw [if_neg (fun q => c q.symm), if_neg c]
theorem Fil.step {n : Nat} {ys : List Nat} {zs : List Int} {t y : Nat} {z : Int} {e : List Int} (asc : ys.Pairwise (· < ·)) (hy : ys[t]? = some y) (hyn : y < n) (hz : zs[t]? = some z) (hz1 : z ≠ -1) (h : Fil n ys zs t e) : Fil n ys zs (t + 1) (e.set y z) := by
  have etk : ys.take (t + 1) = ys.take t ++ [y] := by rw [List.take_add_one, hy]; rfl
  have hno : ∀ x, y ≤ x → x ∉ ys.take t := fun x hx hm => by
    have h1 : (ys.take t ++ [y]).Pairwise (· < ·) := by rw [← etk]; exact asc.sublist (List.take_sublist _ _)
    have := (List.pairwise_append.mp h1).2.2 x hm y List.mem_cons_self
    omega
  refine ⟨by rw [List.length_set]; exact h.len, ?_, fun x hx hm => ?_, fun x hx hm => ?_⟩
  · rw [filt_set (by rw [h.len]; exact hyn) hz1 (fun x h1 h2 => h.no x (by rw [← h.len]; exact h2) (hno x h1)), h.fil, List.take_add_one, hz]
    rfl
  · rw [etk, List.mem_append, List.mem_singleton] at hm
    rw [set_at (by rw [h.len]; exact hx), if_neg (fun q => hm (.inr q))]
    exact h.no x hx fun q => hm (.inl q)
  · rw [etk, List.mem_append, List.mem_singleton] at hm
    rw [set_at (by rw [h.len]; exact hx)]
    by_cases c : x = y
    · rw [if_pos c]
      exact List.mem_of_getElem? hz
    · rw [if_neg c]
      exact h.yes x hx (hm.resolve_right c)
theorem open_asc (n : Nat) (k : List Nat) : (openL n k).Pairwise (· < ·) := List.Pairwise.filter _ List.pairwise_lt_range
theorem Fil.done {n : Nat} {k g : List Nat} {zs e : List Int} (hn : n ≤ 6) (hk : k ∈ allL n) (hg : g ∈ allL n) (hl : k.length = g.length) (hp : zs.Perm ((openL n g).map fun (y : Nat) => (y : Int))) (h : Fil n (openL n k) zs (openL n k).length e) : EntV n k e ∧ goalE n e = g := by
  have l1 : (openL n k).length + k.length = n := (lot_filt n (by omega) k hk).2
  have l2 : (openL n g).length + g.length = n := (lot_filt n (by omega) g hg).2
  have hzl : zs.length = (openL n k).length := by
    rw [hp.length_eq, List.length_map]
    omega
  have hf := h.fil
  rw [← hzl, List.take_length] at hf
  have hno := h.no
  have hyes := h.yes
  rw [List.take_length] at hno hyes
  have mem : ∀ x, x < n → (x ∈ openL n k ↔ x ∉ k) := fun x hx => by
    simp [openL, hx]
  refine ent_made (zs := zs.reverse) hn hk hg h.len (fun t ht hm => hno t ht fun q => (mem t ht).mp q hm) (fun t ht hm => List.mem_reverse.mpr (hyes t ht ((mem t ht).mpr hm))) (by rw [List.reverse_reverse]; exact hf) ((List.reverse_perm zs).trans hp)
end Kr
namespace Kr
open PySem PySem.Spec PyProof.Rows L2
/-! ### tables of rows of deeds -/
abbrev dT (n : Nat) (m : Mv) : List (List Int) := deedT n m.1 m.2.1 m.2.2
def ontoT (n : Nat) (T : List (List Int)) (ms : List Mv) : List (List Int) := ms.foldl (fun T m => bothT n T (dT n m)) T
def wholeT (n : Nat) (ms : List Mv) : List (List Int) := ontoT n (stillT n) ms
theorem onto_ok {n : Nat} (hn : n ≤ 6) : ∀ (ms : List Mv) (T : List (List Int)), TabOk n T → (∀ m ∈ ms, Deed n m) → TabOk n (ontoT n T ms)
  | [], T, h, _ => h
  | m :: ms, T, h, hd => onto_ok hn ms (bothT n T (dT n m)) (h.both hn ((hd m List.mem_cons_self).ok hn)) fun m' hm => hd m' (List.mem_cons_of_mem _ hm)
theorem onto_row {n : Nat} (hn : n ≤ 6) : ∀ (ms : List Mv) (T : List (List Int)), TabOk n T → (∀ m ∈ ms, Deed n m) → sgT n (ontoT n T ms) = (ms.map fun m => m.1.length).foldl (fun r k => addR r (kindR n k)) (sgT n T)
  | [], T, h, _ => rfl
  | m :: ms, T, h, hd => by
    have dm := hd m List.mem_cons_self
    show sgT n (ontoT n (bothT n T (dT n m)) ms) = _
    rw [onto_row hn ms _ (h.both hn (dm.ok hn)) fun m' hm => hd m' (List.mem_cons_of_mem _ hm), sgT_both hn h (dm.ok hn), sgT_deed hn dm]
    rfl
theorem whole_ok {n : Nat} (hn : n ≤ 6) {ms : List Mv} (hd : ∀ m ∈ ms, Deed n m) : TabOk n (wholeT n ms) := onto_ok hn ms _ (still_ok hn) hd
theorem whole_row {n : Nat} (hn : n ≤ 6) {ms : List Mv} (hd : ∀ m ∈ ms, Deed n m) : sgT n (wholeT n ms) = sumK n (ms.map fun m => m.1.length) := by
  unfold wholeT
  rw [onto_row hn ms _ (still_ok hn) hd, sgT_still hn]
  rfl
theorem whole_wide {n : Nat} (hn : n ≤ 6) {a b : List Mv} {m : Mv} (ha : ∀ m ∈ a, Deed n m) (d : Deed n m) : wholeT n (a ++ ([m, m] ++ b)) = wholeT n (a ++ b) := by
  unfold wholeT ontoT
  rw [List.foldl_append, List.foldl_append, List.foldl_append]
  congr 1
  have hA := onto_ok hn a (stillT n) (still_ok hn) ha
  show bothT n (bothT n (ontoT n (stillT n) a) (dT n m)) (dT n m) = ontoT n (stillT n) a
  rw [both_assoc hn hA (d.ok hn) (d.ok hn)]
  show bothT n _ (bothT n (deedT n m.1 m.2.1 m.2.2) (deedT n m.1 m.2.1 m.2.2)) = _
  rw [d.twice hn, both_still hn hA]
theorem whole_cons {n : Nat} (hn : n ≤ 6) {m : Mv} {ms : List Mv} (d : Deed n m) : wholeT n (m :: ms) = ontoT n (dT n m) ms := by
  show ontoT n (bothT n (stillT n) (dT n m)) ms = _
  rw [still_both hn (d.ok hn)]
/-! ### the kinds that stand there an odd number of times -/
def oddK (N : Nat) (ls : List Nat) : List Nat := (List.range N).filter fun k => decide (ls.count k % 2 = 1)
theorem sumK_app (n : Nat) (a b : List Nat) : sumK n (a ++ b) = b.foldl (fun r k => addR r (kindR n k)) (sumK n a) := by
  unfold sumK
  rw [List.foldl_append]
theorem sumK_snoc (n : Nat) (a : List Nat) (k : Nat) : sumK n (a ++ [k]) = addR (sumK n a) (kindR n k) := by rw [sumK_app]; rfl
theorem sum_turn (n : Nat) (p q : Nat → Bool) (k : Nat) (hk : q k = !p k) (ho : ∀ j, j ≠ k → q j = p j) : ∀ N : Nat, k < N → sumK n ((List.range N).filter q) = addR (sumK n ((List.range N).filter p)) (kindR n k)
  | 0, h => absurd h (Nat.not_lt_zero k)
  | N + 1, h => by
    have ek := kindR_len n
    rw [List.range_succ, List.filter_append, List.filter_append]
    rcases Nat.lt_or_ge k N with c | c
    · have ih := sum_turn n p q k hk ho N c
      have eN := ho N (by omega)
      cases hp : p N with
      | true =>
        have e1 : [N].filter q = [N] := by simp [eN, hp]
        have e2 : [N].filter p = [N] := by simp [hp]
        rw [e1, e2, sumK_snoc, sumK_snoc, ih, addR_ac (sumK_len n _) (ek k) (ek N)]
      | false =>
        have e1 : [N].filter q = [] := by simp [eN, hp]
        have e2 : [N].filter p = [] := by simp [hp]
        rw [e1, e2, List.append_nil, List.append_nil, ih]
    · have e : k = N := by omega
      subst e
      have ef : (List.range k).filter q = (List.range k).filter p := List.filter_congr fun j hj => ho j (by have := List.mem_range.mp hj; omega)
      rw [ef]
      cases hp : p k with
      | true =>
        have e1 : [k].filter q = [] := by simp [hk, hp]
        have e2 : [k].filter p = [k] := by simp [hp]
        rw [e1, e2, List.append_nil, sumK_snoc, addR_self (sumK_len n _) (ek k)]
      | false =>
        have e1 : [k].filter q = [k] := by simp [hk, hp]
        have e2 : [k].filter p = [] := by simp [hp]
        rw [e1, e2, List.append_nil, sumK_snoc]
theorem sum_odd_r (n N : Nat) : ∀ ls : List Nat, (∀ k ∈ ls, k < N) → sumK n ls.reverse = sumK n (oddK N ls)
  | [], _ => by
    have : oddK N [] = [] := by
      unfold oddK
      rw [List.filter_eq_nil_iff]
      intro a _
      simp
    rw [this]
    rfl
  | k :: ls, h => by
    have ih := sum_odd_r n N ls fun j hj => h j (List.mem_cons_of_mem _ hj)
    rw [List.reverse_cons, sumK_snoc, ih]
    refine (sum_turn n _ _ k ?_ ?_ N (h k List.mem_cons_self)).symm
    · simp only [List.count_cons_self]
      rcases Nat.mod_two_eq_zero_or_one (ls.count k) with c | c
      · have : (ls.count k + 1) % 2 = 1 := by omega
        simp [c, this]
      · have : (ls.count k + 1) % 2 = 0 := by omega
        simp [c, this]
    · intro j hj
      have : (k :: ls).count j = ls.count j := by
        rw [List.count_cons]
        have : (k == j) = false := beq_eq_false_iff_ne.mpr fun e => hj e.symm
        simp [this]
      rw [this]
theorem odd_rev (N : Nat) (ls : List Nat) : oddK N ls.reverse = oddK N ls := by
  unfold oddK
  refine List.filter_congr fun k _ => ?_
  rw [List.count_reverse]
theorem sum_odd (n N : Nat) {ls : List Nat} (h : ∀ k ∈ ls, k < N) : sumK n ls = sumK n (oddK N ls) := by
  have := sum_odd_r n N ls.reverse fun k hk => h k (List.mem_reverse.mp hk)
  rw [List.reverse_reverse, odd_rev] at this
  exact this
theorem count_cast (ls : List Nat) (k : Nat) : (ls.map fun (x : Nat) => (x : Int)).count (k : Int) = ls.count k := by
  induction ls with
  | nil => rfl
  | cons a ls ih =>
    rw [List.map_cons, List.count_cons, List.count_cons, ih]
    have : ((a : Int) == (k : Int)) = (a == k) := by
      rw [Bool.eq_iff_iff, beq_iff_eq, beq_iff_eq]
      omega
    rw [this]
/-! ### an entry with two riders exchanged -/
def swE (a b : Int) (e : List Int) : List Int := e.map fun x => if x = a then b else if x = b then a else x
theorem swE_at {a b : Int} {e : List Int} {x : Nat} (hx : x < e.length) : (swE a b e).getD x 0 = if e.getD x 0 = a then b else if e.getD x 0 = b then a else e.getD x 0 := by
  unfold swE
  rw [List.getD_eq_getElem?_getD, List.getElem?_map, getD_get hx]
  rfl
theorem swE_ok {n : Nat} {l : List Nat} {e : List Int} {a b : Int} (h : EntF n l e) (ha : a ∈ e) (hb : b ∈ e) (a0 : 0 ≤ a) (b0 : 0 ≤ b) : EntF n l (swE a b e) ∧ goalE n (swE a b e) = goalE n e := by
  have bnd : ∀ z ∈ e, z = -1 ∨ (0 ≤ z ∧ z < n) := fun z hz => by
    obtain ⟨i, hi, rfl⟩ := List.getElem_of_mem hz
    have e1 : e.getD i 0 = e[i] := by rw [List.getD_eq_getElem?_getD, List.getElem?_eq_getElem hi]; rfl
    rw [← e1]
    rw [h.len] at hi
    by_cases c : i ∈ l
    · exact .inl (h.key i hi c)
    · exact .inr (h.rid i hi c)
  have ab := bnd a ha
  have bb := bnd b hb
  refine ⟨⟨by unfold swE; rw [List.length_map]; exact h.len, fun x hx hm => ?_, fun x hx hm => ?_, fun x y hx hy hmx hmy e1 => ?_⟩, ?_⟩
  · rw [swE_at (by rw [h.len]; exact hx), h.key x hx hm, if_neg (by omega), if_neg (by omega)]
  · rw [swE_at (by rw [h.len]; exact hx)]
    have := h.rid x hx hm
    split
    · omega
    · split <;> omega
  · rw [swE_at (by rw [h.len]; exact hx), swE_at (by rw [h.len]; exact hy)] at e1
    refine h.inj x y hx hy hmx hmy ?_
    split at e1 <;> split at e1 <;> (try split at e1) <;> (try split at e1) <;> omega
  · unfold goalE
    refine List.filter_congr fun y _ => ?_
    have : ∀ z : Int, z ∈ swE a b e ↔ z ∈ e := fun z => by
      unfold swE
      rw [List.mem_map]
      constructor
      · rintro ⟨x, hx, rfl⟩
        split
        · exact hb
        · split
          · exact ha
          · exact hx
      · intro hz
        by_cases c1 : z = a
        · subst c1
          by_cases c2 : b = z
          · exact ⟨z, hz, by rw [if_pos rfl, c2]⟩
          · exact ⟨b, hb, by rw [if_neg c2, if_pos rfl]⟩
        · by_cases c2 : z = b
          · subst c2
            exact ⟨a, ha, by rw [if_pos rfl]⟩
          · exact ⟨z, hz, by rw [if_neg c1, if_neg c2]⟩
    simp [this]
/-! ### entries in the place of entries -/
theorem tab_set {n : Nat} {T : List (List Int)} (h : TabOk n T) {i : Nat} {l : List Nat} {e e0 : List Int} (hl : (allL n)[i]? = some l) (h0 : T[i]? = some e0) (he : EntV n l e) (hg : goalE n e = goalE n e0) : TabOk n (T.set i e) := by
  refine ⟨⟨by rw [List.length_set]; exact h.ents.len, fun t l' e' h1 h2 => ?_⟩, ?_⟩
  · rw [List.getElem?_set] at h2
    by_cases c : i = t
    · subst c
      rw [if_pos rfl] at h2
      split at h2
      · cases h2
        rw [hl] at h1
        cases h1
        exact he
      · cases h2
    · rw [if_neg c] at h2
      exact h.ents.at_ t l' e' h1 h2
  · rw [List.map_set, hg]
    have : (T.map (goalE n)).set i (goalE n e0) = T.map (goalE n) := by
      refine List.ext_getElem? fun j => ?_
      rw [List.getElem?_set]
      by_cases c : i = j
      · subst c
        rw [if_pos rfl, List.getElem?_map, h0, List.length_map, if_pos (List.getElem?_eq_some_iff.mp h0).1]
        rfl
      · rw [if_neg c]
    rw [this]
    exact h.goals
theorem tab_exch {n : Nat} {T : List (List Int)} (h : TabOk n T) {i j : Nat} {li lj : List Nat} {ei ej e1 e2 : List Int} (hi : (allL n)[i]? = some li) (hj : (allL n)[j]? = some lj) (h1 : T[i]? = some ei) (h2 : T[j]? = some ej) (g1 : EntV n li e1) (g2 : EntV n lj e2)
    (k1 : goalE n e1 = goalE n ej) (k2 : goalE n e2 = goalE n ei) : TabOk n ((T.set i e1).set j e2) := by
  obtain ⟨i1, i2⟩ := List.getElem?_eq_some_iff.mp h1
  obtain ⟨j1, j2⟩ := List.getElem?_eq_some_iff.mp h2
  refine ⟨⟨by rw [List.length_set, List.length_set]; exact h.ents.len, fun t l' e' a b => ?_⟩, ?_⟩
  · rw [List.getElem?_set] at b
    by_cases c : j = t
    · subst c
      rw [if_pos rfl] at b
      split at b
      · cases b
        rw [hj] at a
        cases a
        exact g2
      · cases b
    · rw [if_neg c, List.getElem?_set] at b
      by_cases c2 : i = t
      · subst c2
        rw [if_pos rfl] at b
        split at b
        · cases b
          rw [hi] at a
          cases a
          exact g1
        · rename_i c3
          exact absurd i1 c3
      · rw [if_neg c2] at b
        exact h.ents.at_ t l' e' a b
  · rw [List.map_set, List.map_set, k1, k2]
    have q := List.set_set_perm (as := T.map (goalE n)) (i := i) (j := j) (by rw [List.length_map]; exact i1) (by rw [List.length_map]; exact j1)
    rw [List.getElem_map, List.getElem_map, i2, j2] at q
    exact q.trans h.goals
theorem open_eq (n : Nat) (l : List Nat) : openL n l = freeL n l := rfl
theorem rid_open {n : Nat} {l : List Nat} {e : List Int} (h : EntF n l e) : (e.filter fun x => decide (x ≥ 0)).Perm ((openL n (goalE n e)).map fun (y : Nat) => (y : Int)) := by
  have e1 : (e.filter fun x => decide (x ≥ 0)) = ridE e := by
    unfold ridE
    refine List.filter_congr fun z hz => ?_
    obtain ⟨i, hi, rfl⟩ := List.getElem_of_mem hz
    have e1 : e.getD i 0 = e[i] := by rw [List.getD_eq_getElem?_getD, List.getElem?_eq_getElem hi]; rfl
    rw [← e1]
    rw [h.len] at hi
    by_cases c : i ∈ l
    · rw [h.key i hi c]; decide
    · have := h.rid i hi c
      rw [decide_eq_true this.1, decide_eq_false (by omega)]
      rfl
  have e2 : (freeL n l).map (fun x => e.getD x 0) = ((freeL n l).map fun x => (e.getD x 0).toNat).map fun (y : Nat) => (y : Int) := by
    rw [List.map_map]
    refine List.map_congr_left fun x hx => ?_
    obtain ⟨h1, h2⟩ := mem_free.mp hx
    have := h.rid x h1 h2
    show _ = (((e.getD x 0).toNat : Nat) : Int)
    omega
  rw [e1, h.rid_eq, e2, open_eq]
  exact h.rid_perm.map _
end Kr
namespace Kr
open PySem PySem.Spec PyProof.Rows L2
theorem deed_inv {H : Hp} {v : V} {m : Mv} (h : Dq H v (deedD m)) : DeedAt H v m := by
  obtain ⟨a, xs, rfl, ha, q⟩ := Dq.tup_inv h
  cases q with
  | cons q1 q2 =>
    cases q2 with
    | cons q2 q3 =>
      cases q3 with
      | cons q3 q4 =>
        cases q4
        obtain ⟨b, rfl, hb⟩ := lot_inv q1
        cases q2
        cases q3
        exact ⟨a, b, rfl, ha, hb⟩
theorem deeds_flat (ms : List Mv) : flatTA (ms.map deedD) = true := flatTA_of fun d hd => by
  obtain ⟨x, _, rfl⟩ := List.mem_map.mp hd
  exact deed_flat x
def spWhole : Sp := fun vs H Q _ => ∃ (n : Nat) (a : Addr) (xs : List V) (ms : List Mv), vs = [.int (n : Int), .ref a] ∧ n ≤ 6 ∧ H a = some (.lst xs) ∧ DqA H xs (ms.map deedD) ∧ ms ≠ [] ∧ ms.length ≤ 1000 ∧ (∀ m ∈ ms, Deed n m) ∧ ∀ H' v, Same H H' → Dq H' v (tabD (wholeT n ms)) → Q v H'
theorem asc_few {n : Nat} {m : Mv} (hn : n ≤ 6) (d : Deed n m) : m.1.length ≤ 24 := by have := d.asc.len; omega
theorem dqa_get {H : Hp} {α : Type} {f : α → PyData} {xs : List V} {ms : List α} {i : Nat} {v : V} (q : DqA H xs (ms.map f)) (e : xs[i]? = some v) : ∃ m, ms[i]? = some m ∧ Dq H v (f m) := by
  obtain ⟨d, h1, h2⟩ := q.get e
  rw [List.getElem?_map] at h1
  cases hm : ms[i]? with
  | none => rw [hm] at h1; cases h1
  | some m =>
    rw [hm] at h1
    cases Option.some.inj h1
    exact ⟨m, rfl, h2⟩
theorem dqa_drop {H : Hp} {α : Type} {f : α → PyData} {xs : List V} {ms : List α} (i : Nat) (q : DqA H xs (ms.map f)) : DqA H (xs.drop i) ((ms.drop i).map f) := by
  rw [List.map_drop]
  exact q.drop i
theorem dqa_take {H : Hp} {α : Type} {f : α → PyData} {xs : List V} {ms : List α} (i : Nat) (q : DqA H xs (ms.map f)) : DqA H (xs.take i) ((ms.take i).map f) := by
  rw [List.map_take]
  exact q.take i
section
variable {P : Program} {w : World} {K : PySem.W.Frag} {mg : Str → Option Value} {base : Heap}
abbrev nWh : List Str := ["n", "deeds", "found", "deed"]
theorem o_lWhole (D0 : Df K mg "_law_whole" sLWhole ["n", "deeds"]) (B : Bi mg) (mv : Ok P w K mg base 3 "_law_moves" ["n", "deed"] spMovesL) (af : Ok P w K mg base 3 "_law_after" ["n", "one", "two"] spAfter) : Ok P w K mg base 4 "_law_whole" ["n", "deeds"] spWhole := by
  have scWh : FnScope nWh ["n", "deeds"] (defScope sLWhole) := ⟨rfl, rfl, rfl, by decide +kernel, rfl, by decide +kernel, by decide +kernel⟩
  refine D0.ok fun f fd F => F.ok scWh (fun vs H Q E h => ?_) (fun cdv A outer s H vs Q E hr h => ?_)
  · obtain ⟨n, a, xs, ms, rfl, _⟩ := h
    rfl
  · obtain ⟨n, a, xs, ms, rfl, hn, ha, qx, hne, hml, hd, q⟩ := h
    refine ⟨_, pss_cons (ps_set (i := 2) scWh.nd rfl (.inl rfl) (pe_fn mv hr (by rfl) (pa_cons (pv 0) (pa_cons (pe_ix ix_list (pv 1) pe_int (fun _ _ => rfl)) pa_nil))))
      (pss_cons (ps_for PassesOwn.never rfl (pi_list (pe_slice sl_list (pv 1) (po_some pe_int) po_none)) (pg_name (i := 3) scWh.nd rfl (.inl rfl))
        (pss_one (ps_set (i := 2) scWh.nd rfl (.inl rfl) (pe_fn af hr (by rfl) (pa_cons (pv 0) (pa_cons (pv 2) (pa_cons (pe_fn mv hr (by rfl) (pa_cons (pv 0) (pa_cons (pv 3) pa_nil))) pa_nil)))))))
      (pss_one (ps_ret (pv 2)))), ?_⟩
    obtain ⟨m, ms', rfl⟩ : ∃ m ms', ms = m :: ms' := by
      cases ms with
      | nil => exact absurd rfl hne
      | cons m ms' => exact ⟨m, ms', rfl⟩
    have hxl : xs.length = ms'.length + 1 := by rw [qx.len, List.length_map]; rfl
    obtain ⟨v0, hv0⟩ : ∃ v, xs[0]? = some v := ⟨_, List.getElem?_eq_getElem (by omega)⟩
    obtain ⟨m0, e0, hm0⟩ := dqa_get qx hv0
    cases Option.some.inj e0
    obtain ⟨dA, qA, rfl, hdA, hqA⟩ := deed_inv hm0
    have dm := hd m List.mem_cons_self
    refine ⟨.int n, rfl, .ref a, rfl, a, xs, 0, .ref dA, rfl, rfl, SqL.of ha, atI_nat hv0, ?_⟩
    refine moves_in hn hdA hqA (asc_few hn dm) dm fun H1 tv s1 htv => ?_
    dsimp only [tNext]
    refine ⟨.ref a, rfl, (1 : Int), rfl, a, xs, rfl, SqL.of (s1 _ _ ha), fun c nc => ?_⟩
    rw [show (1 : Int) = ((1 : Nat) : Int) by rfl, cut_from (by omega)]
    have s2 := same_new (o := .lst (xs.drop 1)) nc
    have hc : upd H1 c (.lst (xs.drop 1)) c = some (.lst (xs.drop 1)) := upd_same
    have s12 := s1.trans s2
    have qd : DqA (upd H1 c (.lst (xs.drop 1))) (xs.drop 1) (ms'.map deedD) := dqa_drop 1 (qx.up s12)
    have htv2 := htv.up s2
    generalize upd H1 c (.lst (xs.drop 1)) = H2 at hc s12 qd htv2
    have hdl : (xs.drop 1).length = ms'.length := by rw [List.length_drop]; omega
    have okd : ∀ m ∈ ms', Deed n m := fun m hm => hd m (List.mem_cons_of_mem _ hm)
    refine ⟨c, rfl, ⟨_, SqL.of hc⟩, for_it (walk_list (K := K) (a := c) (xs := xs.drop 1)) (fun i σ G => ∃ (v3 : Option V) (fv : V), σ = [some (.int n), some (.ref a), some fv, v3] ∧ Same H2 G ∧ Dq G fv (tabD (ontoT n (dT n m) (ms'.take i)))) ⟨_, tv, rfl, Same.refl _, htv2⟩ (fun i σ G _ ⟨_, _, _, sm, _⟩ => SqL.of (sm _ _ hc)) ?_ ?_⟩
    · rintro i x σ _ G hi ⟨v3, fv, rfl, sm, hf⟩ ⟨rfl, hx⟩
      obtain ⟨mi, ei, hmi⟩ := dqa_get (qd.up sm) hx
      obtain ⟨dB, qB, rfl, hdB, hqB⟩ := deed_inv hmi
      have di := okd mi (List.mem_of_getElem? ei)
      refine ⟨.int n, rfl, fv, rfl, .int n, rfl, .ref dB, rfl, moves_in hn hdB hqB (asc_few hn di) di fun G1 uv s3 huv => ?_⟩
      have okT := onto_ok hn (ms'.take i) (dT n m) (dm.ok hn) fun m' hm => okd m' (List.mem_of_mem_take hm)
      refine ⟨n, fv, uv, _, _, rfl, hn, hf.up s3, huv, okT, di.ok hn, fun G2 rv s4 hrv => ⟨_, rv, rfl, sm.trans (s3.trans s4), ?_⟩⟩
      have e : ontoT n (dT n m) (ms'.take (i + 1)) = bothT n (ontoT n (dT n m) (ms'.take i)) (dT n mi) := by
        rw [List.take_add_one, ei]
        show ontoT n (dT n m) (ms'.take i ++ [mi]) = _
        unfold ontoT
        rw [List.foldl_append]
        rfl
      rw [e]
      exact hrv
    · rintro σ G ⟨v3, fv, rfl, sm, hf⟩
      rw [hdl, List.take_length] at hf
      refine ⟨fv, rfl, q _ _ (s12.trans sm) ?_⟩
      rw [whole_cons hn dm]
      exact hf
end
end Kr
namespace Kr
open PySem PySem.Spec PyProof.Rows L2
def spWidened : Sp := fun vs H Q _ => ∃ (p l : Addr) (n : Nat) (a : Addr) (xs : List V) (ms : List Mv), vs = [.ref p, .int (n : Int), .ref a] ∧ Deck H p l ∧ 3 ≤ n ∧ n ≤ 6 ∧ a ≠ p ∧ a ≠ l ∧ H a = some (.lst xs) ∧ DqA H xs (ms.map deedD) ∧ ms.length ≤ 100 ∧
  ∀ H' b ys (d : Mv) (i : Nat), Deck H' p l → Ext p l H H' → H' b = some (.lst ys) → DqA H' ys ((ms.take i ++ ([d, d] ++ ms.drop i)).map deedD) → Deed n d → Q (.ref b) H'
section
variable {P : Program} {w : World} {K : PySem.W.Frag} {mg : Str → Option Value} {base : Heap}
abbrev nWd : List Str := ["deck", "n", "deeds", "deed", "at"]
theorem o_lWidened (D0 : Df K mg "_law_widened" sLWidened ["deck", "n", "deeds"]) (B : Bi mg) (dr : Ok P w K mg base 1 "_law_draw" ["deck", "many"] spDraw) (dd : Ok P w K mg base 3 "_law_deed" ["deck", "n", "k"] spDeedK) : Ok P w K mg base 4 "_law_widened" ["deck", "n", "deeds"] spWidened := by
  have scWd : FnScope nWd ["deck", "n", "deeds"] (defScope sLWidened) := ⟨rfl, rfl, rfl, by decide +kernel, rfl, by decide +kernel, by decide +kernel⟩
  refine D0.ok fun f fd F => F.ok scWd (fun vs H Q E h => ?_) (fun cdv A outer s H vs Q E hr h => ?_)
  · obtain ⟨p, l, n, a, xs, ms, rfl, _⟩ := h
    rfl
  · obtain ⟨p, l, n, a, xs, ms, rfl, Dk, n0, n1, nap, nal, ha, qx, hml, q⟩ := h
    have hr1 := hr.mono (show 1 ≤ 3 by decide)
    refine ⟨_, pss_cons (ps_par (i := 3) (j := 4) rfl scWd.nd rfl rfl (by decide) rfl rfl (pa_cons (pe_fn dd hr (by rfl) (pa_cons (pv 0) (pa_cons (pv 1) (pa_cons (pe_fn dr hr1 (by rfl) (pa_cons (pv 0) (pa_cons (pe_op op_sub (pv 1) pe_int) pa_nil))) pa_nil))))
          (pa_cons (pe_fn dr hr1 (by rfl) (pa_cons (pv 0) (pa_cons (pe_op op_add (pe_callB call_len_seq (by rfl) B.len boot_len (pa_cons (pv 2) pa_nil)) pe_int) pa_nil))) pa_nil)) (by rfl))
      (pss_one (ps_ret (pe_op op_cat (pe_op op_cat (pe_slice sl_list (pv 2) po_none (po_some (pv 4))) (pe_lst (pa_cons (pv 3) (pa_cons (pv 3) pa_nil)))) (pe_slice sl_list (pv 2) (po_some (pv 4)) po_none)))), ?_⟩
    have hxl : xs.length = ms.length := by rw [qx.len, List.length_map]
    refine ⟨.ref p, rfl, .int n, rfl, .ref p, rfl, .int n, rfl, _, _, rfl, rfl, p, l, (n : Int) - 1, rfl, Dk, by omega, fun G1 z D2 E2 z0 z1 => ?_⟩
    obtain ⟨k, rfl, hk⟩ : ∃ k : Nat, z = k ∧ k + 2 ≤ n := ⟨z.toNat, by omega, by omega⟩
    refine ⟨p, l, n, k, rfl, D2, by omega, hk, fun G2 dv d D3 E3 hdv hd hmk => ?_⟩
    have E12 : Ext p l H G2 := Same.trans E2 E3
    have ha2 : G2 a = some (.lst xs) := E12.at_ nap nal ha
    have hdd := deed_dq hdv
    refine ⟨.ref p, rfl, .ref a, rfl, a, _, rfl, .inl (SqL.of ha2), _, _, rfl, rfl, p, l, _, rfl, D3, by omega, fun G3 t D4 E4 t0 t1 => ⟨_, _, rfl, ?_⟩⟩
    obtain ⟨i, rfl, hi⟩ : ∃ i : Nat, t = i ∧ i ≤ xs.length := ⟨t.toNat, by omega, by omega⟩
    have E13 : Ext p l H G3 := Same.trans E12 E4
    have ha3 : G3 a = some (.lst xs) := E13.at_ nap nal ha
    have ts3 : TS H G3 := (TS.deck Dk E2).trans ((TS.deck D2 E3).trans (TS.deck D3 E4))
    have qx3 : DqA G3 xs (ms.map deedD) := DqA.upT ts3 (deeds_flat ms) qx
    have hd3 : Dq G3 dv (deedD d) := Dq.upT (TS.deck D3 E4) (deed_flat d) hdd
    clear hdd hdv E12 E2 E3 E4 D2 D3 ha2
    dsimp only
    refine ⟨.ref a, rfl, .int i, rfl, (i : Int), rfl, a, xs, rfl, SqL.of ha3, fun c nc => ?_⟩
    rw [cut_to hi]
    have s1 := same_new (o := .lst (xs.take i)) nc
    have hc : upd G3 c (.lst (xs.take i)) c = some (.lst (xs.take i)) := upd_same
    refine ⟨dv, rfl, dv, rfl, by show 2 ≤ sizeLine; decide, fun e ne => ?_⟩
    have s2 := same_new (o := .lst [dv, dv]) ne
    have htl : (xs.take i).length ≤ 100 := by rw [List.length_take]; omega
    refine ⟨c, e, _, _, rfl, rfl, s2 _ _ hc, upd_same, by
      show (xs.take i).length + 2 ≤ sizeLine
      exact szl (by omega), fun g ng => ?_⟩
    have s3 := same_new (o := .lst (xs.take i ++ [dv, dv])) ng
    have s13 := s1.trans (s2.trans s3)
    have hg : upd (upd (upd G3 c (.lst (xs.take i))) e (.lst [dv, dv])) g (.lst (xs.take i ++ [dv, dv])) g = some (.lst (xs.take i ++ [dv, dv])) := upd_same
    generalize upd (upd (upd G3 c (.lst (xs.take i))) e (.lst [dv, dv])) g (.lst (xs.take i ++ [dv, dv])) = G4 at s13 hg
    refine ⟨.ref a, rfl, .int i, rfl, (i : Int), rfl, a, xs, rfl, SqL.of (s13 _ _ ha3), fun b nb => ?_⟩
    rw [cut_from hi]
    have s4 := same_new (o := .lst (xs.drop i)) nb
    refine ⟨g, b, _, _, rfl, rfl, s4 _ _ hg, upd_same, by
      have h2 : ([dv, dv] : List V).length = 2 := rfl
      refine Nat.le_of_lt (szl ?_)
      rw [List.length_append, List.length_drop, h2]
      omega, fun r nr => ?_⟩
    have s5 := same_new (o := .lst (xs.take i ++ [dv, dv] ++ xs.drop i)) nr
    have s15 := s13.trans (s4.trans s5)
    have hr : upd (upd G4 b (.lst (xs.drop i))) r (.lst (xs.take i ++ [dv, dv] ++ xs.drop i)) r = some (.lst (xs.take i ++ [dv, dv] ++ xs.drop i)) := upd_same
    generalize upd (upd G4 b (.lst (xs.drop i))) r (.lst (xs.take i ++ [dv, dv] ++ xs.drop i)) = G5 at s15 hr
    refine q _ r _ d i (D4.up s15) (Same.trans E13 (Ext.of s15)) hr ?_ hd
    rw [List.append_assoc, List.map_append, List.map_append]
    exact DqA.app (dqa_take i (qx3.up s15)) (DqA.app (.cons (hd3.up s15) (.cons (hd3.up s15) .nil)) (dqa_drop i (qx3.up s15)))
end
end Kr
namespace Kr
open PySem PySem.Spec PyProof.Rows L2
section
variable {P : Program} {w : World} {K : PySem.W.Frag} {mg : Str → Option Value} {base : Heap}
abbrev nMw : List Str := ["deck", "own", "rest", "found"]
theorem scMixW : FnScope nMw ["deck", "own"] (defScope sMixed) := ⟨rfl, rfl, rfl, by decide +kernel, rfl, by decide +kernel, by decide +kernel⟩
theorem o_mixed (D : Df K mg "_law_mixed" sMixed ["deck", "own"]) (B : Bi mg) (d : Ok P w K mg base 1 "_law_draw" ["deck", "many"] spDraw) : Ok P w K mg base 2 "_law_mixed" ["deck", "own"] spMixV := by
  refine D.ok fun fa fd F => F.ok scMixW (fun vs H Q E h => ?_) (fun cdv A outer s H vs Q E hr h => ?_)
  · obtain ⟨p, l, a, xs, rfl, _⟩ := h
    rfl
  · obtain ⟨p, l, a, xs, rfl, Dk, ha, hlen, q⟩ := h
    have hu : (cxOf CX0 P w K mg base nMw "_law_mixed" (defScope sMixed) fa cdv A outer s H E).A.units + 64 < cLine := hr.units
    refine ⟨_, pss_cons (ps_par (i := 2) (j := 3) rfl scMixW.nd rfl rfl (by decide) rfl rfl (pa_cons (pe_callTy call_list_of (by rfl) B.list (by decide +kernel) (pa_cons (pv 1) pa_nil)) (pa_cons (pe_lst pa_nil) pa_nil)) (by rfl))
      (pss_cons (ps_while PassesOwn.never (pt_cmpR (op_neN hu) (pv 2) (pe_lst pa_nil) (nomark _))
        (pss_one (ps_expr (pe_bm PySem.F.plainAttrs_list PySem.F.slot_list_append PySem.F.type_list_append mt_append (pv 3) (pa_cons
          (pe_bm PySem.F.plainAttrs_list PySem.F.slot_list_pop PySem.F.type_list_pop mt_popAt (pv 2) (pa_cons (pe_fn d hr (by rfl) (pa_cons (pv 0) (pa_cons (pe_callB call_len_seq (by rfl) B.len boot_len (pa_cons (pv 2) pa_nil)) pa_nil))) pa_nil)) pa_nil)))))
      (pss_one (ps_ret (pv 3)))), ?_⟩
    refine ⟨.ref a, rfl, a, _, rfl, .inl (SqL.of (hid_same p l H _ _ ha)), fun lf nlf => ?_⟩
    obtain ⟨nlp, nll⟩ := Dk.new nlf
    obtain ⟨e1, D1, _⟩ := new_dq (o := .lst xs) Dk nlf
    refine ⟨by show 0 ≤ sizeLine; decide, fun f nf => ?_⟩
    obtain ⟨nfp, nfl⟩ := D1.new nf
    have nff : f ≠ lf := fun z => by rw [z, upd_same] at nf; cases nf
    have nf0 : H f = none := by rw [upd_ne nff] at nf; exact nf
    obtain ⟨e2, D2, _⟩ := new_dq (o := .lst []) D1 nf
    refine ⟨_, _, rfl, ?_⟩
    refine while_by (fun σ H6 => ∃ (zs ys : List V), σ = [some (.ref p), some (.ref a), some (.ref lf), some (.ref f)] ∧ Deck H6 p l ∧ Ext p l H H6 ∧ H6 lf = some (.lst zs) ∧ H6 f = some (.lst ys) ∧ (ys ++ zs).Perm xs)
      (fun σ H6 => match H6 lf with | some (.lst zs) => zs.length | _ => 0) ⟨xs, [], rfl, D2, e1.trans e2, by rw [upd_ne nff.symm, upd_same], upd_same, .refl _⟩ ?_ ?_
    · rintro σ H6 ⟨zs, ys, rfl, D6, E6, hz, hy, hp⟩
      have hll := hp.length_eq
      rw [List.length_append] at hll
      refine ⟨.ref lf, rfl, by show 0 ≤ sizeLine; decide, fun c nc => ?_⟩
      have ncl : c ≠ lf := (ne_of_none hz nc).symm
      have ncf : c ≠ f := (ne_of_none hy nc).symm
      obtain ⟨e7, D7, _⟩ := new_dq (o := .lst []) D6 nc
      have hz7 : upd H6 c (.lst []) lf = some (.lst zs) := by rw [upd_ne ncl.symm]; exact hz
      have hy7 : upd H6 c (.lst []) f = some (.lst ys) := by rw [upd_ne ncf.symm]; exact hy
      have E7 := E6.trans e7
      refine ⟨lf, c, zs, rfl, rfl, hz7, upd_same, _, rfl, ?_⟩
      generalize upd H6 c (.lst []) = H7 at D7 E7 hz7 hy7
      cases zs with
      | nil => exact iteF ⟨.ref f, rfl, q H7 f ys D7 E7 nf0 (by rw [hid_ne nfp nfl]; exact hy7) (by rw [List.append_nil] at hp; exact hp)⟩
      | cons z0 zr =>
        refine iteT ?_
        generalize hzz : z0 :: zr = zs at hz7 hp hll hz
        have hpos : 0 < zs.length := by rw [← hzz]; simp
        refine ⟨.ref f, rfl, .inl ⟨rfl, _, SqL.of hy7⟩, .ref lf, rfl, .inl ⟨rfl, _, SqL.of hz7⟩, .ref p, rfl, .ref lf, rfl, lf, _, rfl, .inl (SqL.of hz7), p, l, _, rfl, D7, by omega, fun H8 r D8 E8 h0 h1 => ?_⟩
        have hr : r.toNat < zs.length := by omega
        have hz8 : H8 lf = some (.lst zs) := (hid_some (E8 lf _ (by rw [hid_ne nlp nll]; exact hz7))).2.2
        have hy8 : H8 f = some (.lst ys) := (hid_some (E8 f _ (by rw [hid_ne nfp nfl]; exact hy7))).2.2
        have E9 := E7.trans E8
        refine ⟨lf, zs, r, r.toNat, zs[r.toNat], rfl, rfl, hz8, by omega, by omega, seqIx h0 (by omega), List.getElem?_eq_getElem hr, ?_⟩
        refine ⟨f, ys, zs[r.toNat], rfl, rfl, by rw [upd_ne nff]; exact hy8, szl (by omega), ?_⟩
        refine ⟨⟨zs.eraseIdx r.toNat, ys ++ [zs[r.toNat]], rfl, (D8.mut nlp nll).mut nfp nfl, Ext.mut (Ext.mut E9 nlf) nf0, ?_, ?_, ?_⟩, ?_⟩
        · rw [upd_ne nff.symm, upd_same]
        · rw [upd_same]
        · rw [List.append_assoc]
          exact (List.Perm.append_left ys (erasev_perm zs hr)).trans hp
        · show (match upd (upd H8 lf _) f _ lf with | some (.lst zs) => zs.length | _ => 0) < (match H6 lf with | some (.lst zs) => zs.length | _ => 0)
          rw [upd_ne nff.symm, upd_same, hz]
          show (zs.eraseIdx r.toNat).length < zs.length
          rw [List.length_eraseIdx, if_pos hr]
          omega
    · rintro σ H6 Q1 Q2 hq ⟨x, hx, hs, g⟩
      refine ⟨x, hx, hs, fun c nc => ?_⟩
      obtain ⟨l', b, ws, i1, i2, i3, i4, kk, i5, i6⟩ := g c nc
      exact ⟨l', b, ws, i1, i2, i3, i4, kk, i5, hq _ _ i6⟩
end
end Kr
namespace Kr
open PySem PySem.Spec PyProof.Rows L2
def spDrawnK : Sp := fun vs H Q _ => ∃ (p l : Addr) (n : Nat) (m : Int), vs = [.ref p, .int (n : Int), .int m] ∧ Deck H p l ∧ 3 ≤ n ∧ n ≤ 6 ∧ m < 1073741824 ∧ ∀ H' v T, Deck H' p l → Ext p l H H' → Dq H' v (tabD T) → TabOk n T → Q v H'
theorem Deck.not_l {H : Hp} {p l b a : Addr} {xs : List V} {i : Nat} (D : Deck H p l) (hb : H b = some (.lst xs)) (hx : xs[i]? = some (.ref a)) : b ≠ l := fun z => by
  obtain ⟨ds, st, _, h2, _⟩ := D.ex
  rw [← z, hb] at h2
  have e : xs = ds.map V.int := HO.lst.inj (Option.some.inj h2)
  rw [e, List.getElem?_map] at hx
  cases e2 : ds[i]? with
  | none => rw [e2] at hx; cases hx
  | some d => rw [e2] at hx; cases hx
theorem Deck.not_p {H : Hp} {p l b : Addr} {xs : List V} (D : Deck H p l) (hb : H b = some (.lst xs)) : b ≠ p := by
  obtain ⟨ds, st, h1, _, _⟩ := D.ex
  exact ne_of hb h1 (by intro z; cases z)
section
variable {P : Program} {w : World} {K : PySem.W.Frag} {mg : Str → Option Value} {base : Heap}
abbrev nDw : List Str := ["deck", "n", "often", "found", "row", "ends", "keys", "end", "place", "places", "entry", "at"]
theorem o_lDrawn (D0 : Df K mg "_law_drawn" sDrawn ["deck", "n", "often"]) (B : Bi mg) (ll : Ok P w K mg base 1 "_law_lots" ["n"] spLLots) (dr : Ok P w K mg base 1 "_law_draw" ["deck", "many"] spDraw) (mx : Ok P w K mg base 2 "_law_mixed" ["deck", "own"] spMixV) : Ok P w K mg base 3 "_law_drawn" ["deck", "n", "often"] spDrawnK := by
  have scDw : FnScope nDw ["deck", "n", "often"] (defScope sDrawn) := ⟨rfl, rfl, rfl, by decide +kernel, rfl, by decide +kernel, by decide +kernel⟩
  refine D0.ok fun f fd F => F.ok scDw (fun vs H Q E h => ?_) (fun cdv A outer s H vs Q E hr h => ?_)
  · obtain ⟨p, l, n, m, rfl, _⟩ := h
    rfl
  · obtain ⟨p, l, n, m, rfl, Dk, n0, n1, hm, q⟩ := h
    have hr1 := hr.mono (show 1 ≤ 2 by decide)
    refine ⟨_, pss_cons (ps_set (i := 3) scDw.nd rfl (.inl rfl) (pe_lst pa_nil))
      (pss_cons (ps_for PassesOwn.never rfl (pi_list (pe_fn ll hr1 (by rfl) (pa_cons (pv 1) pa_nil))) (pg_name (i := 4) scDw.nd rfl (.inl rfl))
        (pss_cons (ps_set (i := 5) scDw.nd rfl (.inl rfl) (pe_ifExp (pt_cmpR op_eq (pe_fn dr hr1 (by rfl) (pa_cons (pv 0) (pa_cons (pv 2) pa_nil))) pe_int (nomark _)) (pe_fn mx hr (by rfl) (pa_cons (pv 0) (pa_cons (pv 4) pa_nil))) (pe_callTy call_list_of (by rfl) B.list (by decide +kernel) (pa_cons (pv 4) pa_nil))))
        (pss_one (ps_for PassesOwn.never rfl (pi_zip (by rfl) B.zip (pa_cons (pv 4) (pa_cons (pv 5) pa_nil))) (pg_tup rfl (pgs_cons (pg_name (i := 6) scDw.nd rfl (.inr rfl)) (pgs_cons (pg_name (i := 7) scDw.nd rfl (.inr rfl)) pgs_nil)))
          (pss_cons (ps_setLc (i := 9) (own := [("place", 8)]) (g := gName 8) rfl scDw.nd rfl rfl (sw_true rfl rfl rfl (by decide +kernel)) (pi_range1 (by rfl) B.range (pa_cons (pv 1) pa_nil)) (blkOk_by (own := [("place", 8)]) (N := nDw) (sc := defScope sDrawn) (by decide +kernel))
              (fun _ _ _ _ _ => pg_name (i := 8) scDw.nd rfl (.inl rfl)) (fun _ _ _ _ _ => pts_one (pt_cmpR (r := rIn K true) op_notIn_seq (pv 8) (pv 7) rfl)) (fun _ _ _ _ _ => pv 8))
          (pss_cons (ps_if (pt_cmpR op_eq (pe_fn dr hr1 (by rfl) (pa_cons (pv 0) (pa_cons (pv 2) pa_nil))) pe_int (nomark _)) (pss_one (ps_set (i := 9) scDw.nd rfl (.inl rfl) (pe_fn mx hr (by rfl) (pa_cons (pv 0) (pa_cons (pv 9) pa_nil))))) pss_nil)
          (pss_cons (ps_set (i := 10) scDw.nd rfl (.inl rfl) (pe_op op_rep (pe_lst (pa_cons (pe_un un_neg pe_int) pa_nil)) (pv 1)))
          (pss_cons (ps_for PassesOwn.never rfl (pi_enum (by rfl) B.enumerate (pa_cons (pe_lc (own := [("place", 8)]) (g := gName 8) rfl scDw.nd (pi_range1 (by rfl) B.range (pa_cons (pv 1) pa_nil)) (blkOk_by (own := [("place", 8)]) (N := nDw) (sc := defScope sDrawn) (by decide +kernel))
              (fun _ _ _ _ _ => pg_name (i := 8) scDw.nd rfl (.inl rfl)) (fun _ _ _ _ _ => pts_one (pt_cmpR (r := rIn K true) op_notIn_seq (pv 8) (pv 6) rfl)) (fun _ _ _ _ _ => pv 8)) pa_nil))
              (pg_tup rfl (pgs_cons (pg_name (i := 11) scDw.nd rfl (.inl rfl)) (pgs_cons (pg_name (i := 8) scDw.nd rfl (.inl rfl)) pgs_nil)))
              (pss_one (ps_asg (pe_ix ix_list (pv 9) (pv 11) (fun _ _ => rfl)) (pg_sub (pv 10) (pv 8) set_list))))
          (pss_one (ps_expr (pe_bm PySem.F.plainAttrs_list PySem.F.slot_list_append PySem.F.type_list_append mt_append (pv 3) (pa_cons (pe_callTy call_tuple_of (by rfl) B.tuple (by decide +kernel) (pa_cons (pv 10) pa_nil)) pa_nil))))))))))))
      (pss_one (ps_ret (pe_callTy call_tuple_of (by rfl) B.tuple (by decide +kernel) (pa_cons (pv 3) pa_nil))))), ?_⟩
    refine ⟨by show 0 ≤ sizeLine; decide, fun fo nfo => ?_⟩
    obtain ⟨nfp, nfl⟩ := Dk.new nfo
    have s1 := same_new (o := .lst []) nfo
    have hfo : upd H fo (.lst []) fo = some (.lst []) := upd_same
    have D1 := Dk.up s1
    generalize upd H fo (.lst []) = H1 at s1 hfo D1
    dsimp only [tNext]
    refine ⟨.int n, rfl, n, rfl, n1, fun H2 lv2 s2 hl2 => ?_⟩
    cases hl2 with
    | @lst L ls _ hL qL =>
    have D2 := D1.up s2
    have hfo2 := s2 _ _ hfo
    have E2 : Ext p l H H2 := Ext.of (s1.trans s2)
    have nf0 : H fo = none := nfo
    have hll : ls.length = n + 1 := by rw [qL.len, List.length_map, List.length_range]
    have row_ : ∀ i, i < n + 1 → ∃ r rs, ls[i]? = some (.ref r) ∧ r ≠ fo ∧ r ≠ p ∧ r ≠ l ∧ H2 r = some (.lst rs) ∧ rs.length = ch n i ∧ DqA H2 rs ((lotsL n i).map lotD) := fun i hi => by
      obtain ⟨y, hy⟩ : ∃ y, ls[i]? = some y := ⟨_, List.getElem?_eq_getElem (by omega)⟩
      obtain ⟨d, hd, hdq⟩ := qL.get hy
      rw [List.getElem?_map, List.getElem?_range hi] at hd
      cases Option.some.inj hd
      cases hdq with
      | @lst r rs _ hr qr =>
      have hrl : rs.length = ch n i := by rw [qr.len, List.length_map, lots_len n (by omega) i (by omega)]
      have h2 : ∀ n : Nat, n < 7 → ∀ s : Nat, s < n + 1 → 0 < ch n s := by decide +kernel
      have h0 := h2 n (by omega) i (by omega)
      obtain ⟨y0, hy0⟩ : ∃ y, rs[0]? = some y := ⟨_, List.getElem?_eq_getElem (by omega)⟩
      obtain ⟨_, _, a0, rfl, _⟩ := lots_get qr hy0
      refine ⟨r, rs, hy, fun z => ?_, D2.not_p hr, D2.not_l hr hy0, hr, hrl, qr⟩
      rw [z, hfo2] at hr
      cases hr
      simp at hrl
      omega
    obtain ⟨r0, _, hr0, _⟩ := row_ 0 (by omega)
    have nLp := D2.not_p hL
    have nLl := D2.not_l hL hr0
    have nL : L ≠ fo := fun z => by
      rw [z, hfo2] at hL
      cases hL
      simp at hll
    refine ⟨L, rfl, ⟨ls, SqL.of hL⟩, for_it (walk_list (K := K) (a := L) (xs := ls)) (fun i σ G => ∃ (v4 v5 v6 v7 v8 v9 v10 v11 : Option V) (acc : List V) (es : List (List Int)), σ = [some (.ref p), some (.int n), some (.int m), some (.ref fo), v4, v5, v6, v7, v8, v9, v10, v11] ∧ Deck G p l ∧ Ext p l H G ∧ (∀ b o, b ≠ p → b ≠ l → b ≠ fo → H2 b = some o → G b = some o) ∧ G fo = some (.lst acc) ∧ DqA G acc (es.map entD) ∧
        Ents n ((List.range i).flatMap (lotsL n)) es ∧ (es.map (goalE n)).Perm ((List.range i).flatMap (lotsL n)))
      ⟨_, _, _, _, _, _, _, _, [], [], rfl, D2, E2, fun _ _ _ _ _ h => h, hfo2, .nil, Ents.nil, .refl _⟩ (fun i σ G _ ⟨_, _, _, _, _, _, _, _, _, _, _, _, _, k, _⟩ => SqL.of (k _ _ nLp nLl nL hL)) ?_ ?_⟩
    · rintro i x σ _ G hi ⟨v4, v5, v6, v7, v8, v9, v10, v11, acc, es, rfl, DG, EG, kG, hfG, qac, hes, hgo⟩ ⟨rfl, hx⟩
      have hi1 : i < n + 1 := by omega
      obtain ⟨r, rs, hr1', nrf, nrp, nrl, hr2, hrl, qr2⟩ := row_ i hi1
      rw [hx] at hr1'
      cases Option.some.inj hr1'
      have hrG := kG _ _ nrp nrl nrf hr2
      have hown : (lotsL n i).length ≤ 64 := by
        have hal3 := every_few n (by omega) (i + 1) (by omega)
        rw [List.range_succ, List.flatMap_append, List.length_append] at hal3
        simp at hal3
        omega
      have hrl2 : rs.length = (lotsL n i).length := by rw [hrl, lots_len n (by omega) i (by omega)]
      have ts2G : TS H2 G := fun b xs hb => kG _ _ (by
        obtain ⟨ds, st, h1, _, _⟩ := D2.ex
        exact ne_of hb h1 (by intro z; cases z)) (by
        obtain ⟨ds, st, _, h2, _⟩ := D2.ex
        exact ne_of hb h2 (by intro z; cases z)) (ne_of hb hfo2 (by intro z; cases z)) hb
      have qrG : DqA G rs ((lotsL n i).map lotD) := DqA.upT ts2G (lots_flat _) qr2
      dsimp only [tNext]
      refine ⟨.ref p, rfl, .int m, rfl, p, l, m, rfl, DG, hm, fun G2 x2 Da Ea x0 x1 => ⟨rfl, _, rfl, ite2 (fun c => ?ends1) (fun c => ?ends2)⟩⟩
      all_goals
        have hrG2 : G2 r = some (.lst rs) := Ea.at_ nrp nrl hrG
        have qrG2 : DqA G2 rs ((lotsL n i).map lotD) := DqA.upT (TS.deck DG Ea) (lots_flat _) qrG
        have hfG2 : G2 fo = some (.lst acc) := Ea.at_ nfp nfl hfG
      case' ends1 =>
        refine ⟨.ref p, rfl, .ref r, rfl, p, l, r, rs, rfl, Da, by rw [hid_ne nrp nrl]; exact hrG2, by omega, fun G3 M ms0 D3 Eb nM hM hp => ?_⟩
        obtain ⟨nMp, nMl, hM0⟩ := hid_some hM
        have E3 : Ext p l G G3 := Same.trans Ea Eb
        have nMf : M ≠ fo := (ne_of_none hfG2 nM).symm
        have hMm : ∃ (ms : List V) (ml : List (List Nat)), G3 M = some (.lst ms) ∧ ml.Perm (lotsL n i) ∧ DqA G3 ms (ml.map lotD) := by
          obtain ⟨ml, pm, qm⟩ := dqa_perm (f := lotD) hp (DqA.upT (TS.deck Da Eb) (lots_flat _) qrG2)
          exact ⟨ms0, ml, hM0, pm, qm⟩
        clear hM0 hM hp Eb nM hrG2 qrG2 hfG2
      case' ends2 =>
        refine ⟨.ref r, rfl, r, _, rfl, .inl (SqL.of hrG2), fun M nM => ?_⟩
        obtain ⟨nMp, nMl⟩ := Da.new nM
        have sM := same_new (o := .lst rs) nM
        have D3 := Da.up sM
        have E3 : Ext p l G (upd G2 M (.lst rs)) := Same.trans Ea (Ext.of sM)
        have nMf : M ≠ fo := (ne_of_none hfG2 nM).symm
        have hMm : ∃ (ms : List V) (ml : List (List Nat)), upd G2 M (.lst rs) M = some (.lst ms) ∧ ml.Perm (lotsL n i) ∧ DqA (upd G2 M (.lst rs)) ms (ml.map lotD) := ⟨rs, _, upd_same, .refl _, qrG2.up sM⟩
        generalize upd G2 M (.lst rs) = G3 at D3 E3 hMm
        clear sM nM hrG2 qrG2 hfG2
      all_goals
        clear c Da Ea x0 x1
        obtain ⟨ms, ml, hM3, pm, qm⟩ := hMm
        have hr3 : G3 r = some (.lst rs) := E3.at_ nrp nrl hrG
        have hf3 : G3 fo = some (.lst acc) := E3.at_ nfp nfl hfG
        have ts3 : TS G G3 := TS.deck DG E3
        have qo3 : DqA G3 rs ((lotsL n i).map lotD) := DqA.upT ts3 (lots_flat _) qrG
        have qac3 : DqA G3 acc (es.map entD) := DqA.upT ts3 (ents_flat _) qac
        have EG3 : Ext p l H G3 := Same.trans EG E3
        have hml := pm.length_eq
        have hmsl : ms.length = ml.length := by rw [qm.len, List.length_map]
        dsimp only [tNext]
        refine ⟨.ref r, rfl, .ref M, rfl, r, M, rs, ms, rfl, SqL.of hr3, SqL.of hM3, ?_⟩
        refine for_it (walk_zip (n := (lotsL n i).length) (by omega)) (fun j σ G4 => ∃ (v6 v7 v8 v9 v10 v11 : Option V) (acc4 : List V) (es4 : List (List Int)), σ = [some (.ref p), some (.int n), some (.int m), some (.ref fo), some (.ref r), some (.ref M), v6, v7, v8, v9, v10, v11] ∧ Deck G4 p l ∧ Ext p l H G4 ∧
            (∀ b o, b ≠ p → b ≠ l → b ≠ fo → G3 b = some o → G4 b = some o) ∧ G4 fo = some (.lst acc4) ∧ DqA G4 acc4 (es4.map entD) ∧ Ents n ((List.range i).flatMap (lotsL n) ++ (lotsL n i).take j) es4 ∧ es4.map (goalE n) = es.map (goalE n) ++ ml.take j)
          ⟨_, _, _, _, _, _, acc, es, rfl, D3, EG3, fun b o _ _ _ h => h, hf3, qac3, by simpa using hes, by simp⟩ (fun j σ G4 _ ⟨_, _, _, _, _, _, _, _, _, _, _, k4, _⟩ => ⟨SqL.of (k4 _ _ nrp nrl nrf hr3), SqL.of (k4 _ _ nMp nMl nMf hM3)⟩) ?_ ?_
        · rintro j _ σ G4 _ hj ⟨v6, v7, v8, v9, v10, v11, acc4, es4, rfl, D4, E4, k4, hf4, qac4, hes4, hgo4⟩ ⟨T, x1, x2, rfl, nT, rfl, e1, e2⟩
          obtain ⟨k, hk, kb, rfl, hkb⟩ := lots_get qo3 e1
          obtain ⟨g, hg, gb, rfl, hgb⟩ := lots_get qm e2
          have hkA : k ∈ allL n := own_all n (by omega) i hi1 k (List.mem_of_getElem? hk)
          have hgA : g ∈ allL n := own_all n (by omega) i hi1 g (pm.subset (List.mem_of_getElem? hg))
          have hkl2 : k.length = i := (lots_in n i k (List.mem_of_getElem? hk)).1
          have hgl2 : g.length = i := (lots_in n i g (pm.subset (List.mem_of_getElem? hg))).1
          obtain ⟨z1, z2, dp3⟩ : ∃ z1 z2, G3 p = some (.dK z1) ∧ G3 l = some (.lst z2) := by
            obtain ⟨ds, st, h1, h2, _⟩ := D3.ex
            exact ⟨_, _, h1, h2⟩
          have nk : kb ≠ p ∧ kb ≠ l ∧ kb ≠ fo := ⟨ne_of hkb dp3.1 (by intro z; cases z), ne_of hkb dp3.2 (by intro z; cases z), ne_of hkb hf3 (by intro z; cases z)⟩
          have ng : gb ≠ p ∧ gb ≠ l ∧ gb ≠ fo := ⟨ne_of hgb dp3.1 (by intro z; cases z), ne_of hgb dp3.2 (by intro z; cases z), ne_of hgb hf3 (by intro z; cases z)⟩
          have sT := same_new (o := .tup [.ref kb, .ref gb]) nT
          refine ⟨T, [.ref kb, .ref gb], rfl, SqT.of upd_same, rfl, .ref kb, [.ref gb], rfl, .ref gb, [], rfl, rfl, ?_⟩
          have hkb5 := sT _ _ (k4 _ _ nk.1 nk.2.1 nk.2.2 hkb)
          have hgb5 := sT _ _ (k4 _ _ ng.1 ng.2.1 ng.2.2 hgb)
          have D5 := D4.up sT
          have hf5 := sT _ _ hf4
          generalize upd G4 T (.tup [.ref kb, .ref gb]) = G5 at sT hkb5 hgb5 D5 hf5
          dsimp only [tNext]
          refine ⟨.int n, rfl, (n : Int), rfl, by omega, by omega, fun D nD => ?_⟩
          rw [Int.toNat_natCast]
          have fstep : ∀ (t : Nat) (k : List Nat), (List.range (t + 1)).filter (fun (y : Nat) => !decide (y ∈ k)) = (List.range t).filter (fun (y : Nat) => !decide (y ∈ k)) ++ (if t ∈ k then [] else [t]) := fun t k => by
            rw [List.range_succ, List.filter_append]
            by_cases hm : t ∈ k <;> simp [hm]
          refine lc_it (walk_rg (n := n)) (fun t G => G D = some (.lst (lv ((List.range t).filter fun (y : Nat) => !decide (y ∈ g)))) ∧ Same G5 G) ⟨upd_same, same_new nD⟩ (fun _ _ _ _ => trivial) ?_ ?_
          · rintro t x _ G ht ⟨hD, s6⟩ ⟨rfl, rfl⟩
            refine ⟨rfl, .int t, rfl, .ref gb, rfl, gb, _, rfl, .inr (SqT.of (s6 _ _ hgb5)), rfl, lv_fl g, _, rfl, ?_⟩
            rw [inV_lot, fstep]
            by_cases hm : t ∈ g
            · rw [decide_eq_true hm, if_pos hm, List.append_nil]
              exact iteF ⟨hD, s6⟩
            · rw [decide_eq_false hm, if_neg hm]
              refine iteT ⟨_, rfl, _, hD, szm ?_, ?_, fun b o hb => ?_⟩
              · rw [lv_len]
                have := List.length_filter_le (fun (y : Nat) => !decide (y ∈ g)) (List.range t)
                rw [List.length_range] at this
                omega
              · rw [upd_same]
                simp [lv]
              · rw [upd_ne (ne_of_none hb nD)]
                exact s6 _ _ hb
          rintro G6 ⟨hD6, s6⟩
          obtain ⟨nDp, nDl⟩ := D5.new nD
          have nDf : D ≠ fo := (ne_of_none hf5 nD).symm
          have D6 := D5.up s6
          have hfl : (openL n g).length + g.length = n := (lot_filt n (by omega) g hgA).2
          have efr : lv ((List.range n).filter fun (y : Nat) => !decide (y ∈ g)) = ((openL n g).map fun (y : Nat) => (y : Int)).map V.int := by
            unfold lv openL
            rw [List.map_map]
            rfl
          rw [efr] at hD6
          have hf6 := s6 _ _ hf5
          dsimp only [tNext]
          refine ⟨.ref p, rfl, .int m, rfl, p, l, m, rfl, D6, hm, fun G7 x7 D7 E7 y0 y1 => ⟨rfl, _, rfl, ite2 (fun c2 => ?_) (fun c2 => ?_)⟩⟩
          all_goals
            have hD7 := E7.at_ nDp nDl hD6
            have hf7 := E7.at_ nfp nfl hf6
          case' refine_1 =>
            refine ⟨.ref p, rfl, .ref D, rfl, p, l, D, _, rfl, D7, by rw [hid_ne nDp nDl]; exact hD7, by rw [List.length_map, List.length_map]; omega, fun G8 fr ys D8 E8' nfr hfr hpy => ?_⟩
            obtain ⟨ws0, rfl, hws0⟩ := ints_perm hpy
            obtain ⟨nfrp, nfrl, hfr0⟩ := hid_some hfr
            have E8 : Ext p l G6 G8 := Same.trans E7 E8'
            have nfrf : fr ≠ fo := (ne_of_none hf7 nfr).symm
            have hw : ∃ ws : List Int, G8 fr = some (.lst (ws.map V.int)) ∧ ws.Perm ((openL n g).map fun (y : Nat) => (y : Int)) := ⟨ws0, hfr0, hws0⟩
            clear hfr0 hws0 hfr hpy nfr E8' hD7 hf7 E7 D7
          case' refine_2 =>
            obtain ⟨fr, hfrD⟩ : ∃ fr, fr = D := ⟨D, rfl⟩
            subst hfrD
            obtain ⟨G8, hG8⟩ : ∃ G8, G8 = G7 := ⟨G7, rfl⟩
            subst hG8
            have nfrp := nDp
            have nfrl := nDl
            have nfrf := nDf
            have D8 := D7
            have E8 : Ext p l G6 G8 := E7
            have hw : ∃ ws : List Int, G8 fr = some (.lst (ws.map V.int)) ∧ ws.Perm ((openL n g).map fun (y : Nat) => (y : Int)) := ⟨_, hD7, .refl _⟩
            clear hD7 hf7 E7 D7
          all_goals
            clear c2 y0 y1
            obtain ⟨ws, hfr8, hws⟩ := hw
            have ts58 : TS G5 G8 := (TS.of s6).trans (TS.deck D6 E8)
            have hf8 : G8 fo = some (.lst acc4) := E8.at_ nfp nfl hf6
            have hkb8 := ts58 _ _ hkb5
            have kl : (openL n k).length + k.length = n := (lot_filt n (by omega) k hkA).2
            have hwl : ws.length = (openL n k).length := by
              rw [hws.length_eq, List.length_map]
              omega
            have hwz : ∀ z ∈ ws, z ≠ -1 := fun z hz => by
              obtain ⟨y, _, rfl⟩ := List.mem_map.mp (hws.subset hz)
              omega
            dsimp only [tNext]
            refine ⟨1, rfl, by show 1 ≤ sizeLine; decide, fun l1 nl1 => ?_⟩
            refine ⟨.int n, rfl, l1, (n : Int), [.int (-1)], rfl, rfl, upd_same, by omega, by omega, by show 1 * _ ≤ sizeLine; exact sz (by omega), fun eA neA => ?_⟩
            rw [Int.toNat_natCast, rep_one2]
            have s9 := (same_new (o := .lst [.int (-1)]) nl1).trans (same_new (o := .lst (List.replicate n (V.int (-1)))) neA)
            have heA : upd (upd G8 l1 (.lst [.int (-1)])) eA (.lst (List.replicate n (V.int (-1)))) eA = some (.lst ((List.replicate n (-1)).map V.int)) := by rw [upd_same, List.map_replicate]
            have nA : ∀ b o, G8 b = some o → b ≠ eA := fun b o hb => ne_of_none ((same_new (o := .lst [.int (-1)]) nl1) _ _ hb) neA
            have D9 := D8.up s9
            generalize upd (upd G8 l1 (.lst [.int (-1)])) eA (.lst (List.replicate n (V.int (-1)))) = G9 at s9 heA D9
            have hkb9 := s9 _ _ hkb8
            dsimp only [tNext]
            refine ⟨.int n, rfl, (n : Int), rfl, by omega, by omega, fun W nW => ?_⟩
            rw [Int.toNat_natCast]
            refine lc_it (walk_rg (n := n)) (fun t G => G W = some (.lst (lv ((List.range t).filter fun (y : Nat) => !decide (y ∈ k)))) ∧ Same G9 G) ⟨upd_same, same_new nW⟩ (fun _ _ _ _ => trivial) ?_ ?_
            · rintro t x _ G ht ⟨hD, s6⟩ ⟨rfl, rfl⟩
              refine ⟨rfl, .int t, rfl, .ref kb, rfl, kb, _, rfl, .inr (SqT.of (s6 _ _ hkb9)), rfl, lv_fl k, _, rfl, ?_⟩
              rw [inV_lot, fstep]
              by_cases hm : t ∈ k
              · rw [decide_eq_true hm, if_pos hm, List.append_nil]
                exact iteF ⟨hD, s6⟩
              · rw [decide_eq_false hm, if_neg hm]
                refine iteT ⟨_, rfl, _, hD, szm ?_, ?_, fun b o hb => ?_⟩
                · rw [lv_len]
                  have := List.length_filter_le (fun (y : Nat) => !decide (y ∈ k)) (List.range t)
                  rw [List.length_range] at this
                  omega
                · rw [upd_same]
                  simp [lv]
                · rw [upd_ne (ne_of_none hb nW)]
                  exact s6 _ _ hb
            rintro G10 ⟨hW, s10⟩
            have heA10 := s10 _ _ heA
            have nWA : W ≠ eA := (ne_of_none heA nW).symm
            have hfr10 := s10 _ _ (s9 _ _ hfr8)
            have nfrA := nA _ _ hfr8
            have D10 := D9.up s10
            refine ⟨W, _, rfl, SqL.of hW, for_it walk_enum (fun t σ G => ∃ (v8 v11 : Option V) (e : List Int), σ = [some (.ref p), some (.int n), some (.int m), some (.ref fo), some (.ref r), some (.ref M), some (.ref kb), some (.ref gb), v8, some (.ref fr), some (.ref eA), v11] ∧ (∀ b o, b ≠ eA → G10 b = some o → G b = some o) ∧ G eA = some (.lst (e.map V.int)) ∧ Fil n (openL n k) ws t e)
              ⟨_, _, _, rfl, fun _ _ _ h => h, heA10, Fil.zero⟩ (fun t σ G _ ⟨_, _, _, _, kE, _⟩ => SqL.of (kE _ _ nWA hW)) ?_ ?_⟩
            · rintro t _ σ G _ ht ⟨v8', v11', e, rfl, kE, hE, hF⟩ ⟨T2, x3, x4, rfl, nT2, rfl, e3, e4⟩
              cases Option.some.inj e3
              have e4 : (lv (openL n k))[t]? = some x4 := e4
              rw [lv_len] at ht
              have ht : t < (openL n k).length := ht
              obtain ⟨y, hy⟩ : ∃ y, (openL n k)[t]? = some y := ⟨_, List.getElem?_eq_getElem ht⟩
              obtain rfl : V.int (y : Nat) = x4 := by
                unfold lv at e4
                rw [List.getElem?_map, hy] at e4
                exact Option.some.inj e4
              have hyn : y < n := by
                have := List.mem_of_getElem? hy
                simp [openL] at this
                exact this.1
              obtain ⟨z, hz⟩ : ∃ z, ws[t]? = some z := ⟨_, List.getElem?_eq_getElem (by omega)⟩
              have sT2 := same_new (o := .tup [.int (t : Nat), .int (y : Nat)]) nT2
              have hET := sT2 _ _ hE
              have hfrT := sT2 _ _ (kE _ _ nfrA hfr10)
              refine ⟨T2, [.int (t : Nat), .int (y : Nat)], rfl, SqT.of upd_same, rfl, .int (t : Nat), [.int (y : Nat)], rfl, .int (y : Nat), [], rfl, rfl, ?_⟩
              refine ⟨.ref fr, rfl, .int (t : Nat), rfl, fr, _, t, .int z, rfl, rfl, SqL.of hfrT, atI_nat (by rw [List.getElem?_map, hz]; rfl), .ref eA, rfl, .int (y : Nat), rfl, eA, _, y, y, rfl, rfl, hET, ixN_nat (by rw [List.length_map, hF.len]; exact hyn), _, _, e.set y z, rfl, fun b o hb ho => ?_, by rw [upd_same, List.map_set], hF.step (open_asc n k) hy hyn hz (hwz z (List.mem_of_getElem? hz))⟩
              rw [upd_ne hb]
              exact sT2 _ _ (kE _ _ hb ho)
            · rintro σ G11 ⟨v8', v11', e, rfl, kE, hE, hF⟩
              rw [lv_len] at hF
              obtain ⟨hEV, hGE⟩ := hF.done n1 hkA hgA (by omega) hws
              have hf10 := s10 _ _ (s9 _ _ hf8)
              have nfoA := nA _ _ hf8
              have hf11 := kE _ _ nfoA hf10
              dsimp only [tNext]
              refine ⟨.ref fo, rfl, .inl ⟨rfl, _, SqL.of hf11⟩, .ref eA, rfl, eA, _, rfl, .inl ⟨SqL.of hE, fun t nt => ?_⟩⟩
              have st := same_new (o := .tup (e.map V.int)) nt
              have hf12 := st _ _ hf11
              have acl : acc4.length ≤ 1000 := by
                have h1 := qac4.len
                rw [List.length_map, hes4.len, List.length_append, List.length_take] at h1
                have h2 := every_few n (by omega) i (by omega)
                omega
              have all : ∀ b o, b ≠ p → b ≠ l → b ≠ fo → G4 b = some o → upd (upd G11 t (.tup (e.map V.int))) fo (.lst (acc4 ++ [.ref t])) b = some o := fun b o h1 h2 h3 ho => by
                have h6 := E8.at_ h1 h2 (s6 _ _ (sT _ _ ho))
                rw [upd_ne h3]
                exact st _ _ (kE _ _ (nA _ _ h6) (s10 _ _ (s9 _ _ h6)))
              have ts : TS G4 (upd (upd G11 t (.tup (e.map V.int))) fo (.lst (acc4 ++ [.ref t]))) := (TS.of sT).trans (ts58.trans ((TS.of (s9.trans s10)).trans (TS.trans (fun b xs hb => kE _ _ (ne_of hb heA10 (by intro z; cases z)) hb) ((TS.new nt).trans (TS.lst hf12)))))
              have D11 : Deck G11 p l := by
                obtain ⟨ds, st, h1, h2, h3⟩ := D8.ex
                exact ⟨ds, st, kE _ _ (nA _ _ h1) (s10 _ _ (s9 _ _ h1)), kE _ _ (nA _ _ h2) (s10 _ _ (s9 _ _ h2)), h3⟩
              refine ⟨fo, acc4, .ref t, rfl, rfl, hf12, szl (by omega), _, _, _, _, _, _, acc4 ++ [.ref t], es4 ++ [e], rfl, (D11.up st).mut nfp nfl, fun b o hb => ?_, fun b o h1 h2 h3 ho => all b o h1 h2 h3 (k4 _ _ h1 h2 h3 ho), upd_same, ?_, ?_, ?_⟩
              · obtain ⟨h1, h2, h3⟩ := hid_some hb
                rw [hid_ne h1 h2]
                exact all b o h1 h2 (ne_of_none h3 nf0) (E4.at_ h1 h2 h3)
              · rw [List.map_append]
                exact dqa_snoc (DqA.upT ts (ents_flat _) qac4) (Dq.upT (TS.lst hf12) (ent_flat _) (ent_at upd_same))
              · rw [List.take_add_one, hk, ← List.append_assoc]
                exact hes4.snoc hEV
              · rw [List.map_append, hgo4, List.take_add_one, hg, List.append_assoc, ← hGE]
                rfl
        · rintro σ G4 ⟨v6, v7, v8, v9, v10, v11, acc4, es4, rfl, D4, E4, k4, hf4, qac4, hes4, hgo4⟩
          have er : (List.range (i + 1)).flatMap (lotsL n) = (List.range i).flatMap (lotsL n) ++ lotsL n i := by
            rw [List.range_succ, List.flatMap_append]
            simp
          rw [List.take_length] at hes4
          rw [List.take_of_length_le (by omega)] at hgo4
          refine ⟨_, _, _, _, _, _, _, _, acc4, es4, rfl, D4, E4, fun b o h1 h2 h3 ho => k4 _ _ h1 h2 h3 (E3.at_ h1 h2 (kG _ _ h1 h2 h3 ho)), hf4, qac4, by rw [er]; exact hes4, ?_⟩
          rw [er, hgo4]
          exact hgo.append pm
    · rintro σ G ⟨v4, v5, v6, v7, v8, v9, v10, v11, acc, es, rfl, DG, EG, kG, hfG, qac, hes, hgo⟩
      rw [hll] at hes hgo
      refine ⟨.ref fo, rfl, fo, acc, rfl, .inl ⟨SqL.of hfG, fun t nt => q _ _ es (DG.up (same_new nt)) (Same.trans EG (Ext.of (same_new nt))) (.tup upd_same (qac.up (same_new nt))) ⟨hes, hgo⟩⟩⟩
end
end Kr
namespace Kr
open PySem PySem.Spec PyProof.Rows L2
def spSpoilt : Sp := fun vs H Q _ => ∃ (p l : Addr) (n : Nat) (v : V) (T : List (List Int)), vs = [.ref p, .int (n : Int), v] ∧ Deck H p l ∧ 3 ≤ n ∧ n ≤ 6 ∧ Dq H v (tabD T) ∧ TabOk n T ∧ ∀ H' r T', Deck H' p l → Ext p l H H' → Dq H' r (tabD T') → TabOk n T' → Q r H'
section
variable {P : Program} {w : World} {K : PySem.W.Frag} {mg : Str → Option Value} {base : Heap}
abbrev nSp : List Str := ["deck", "n", "table", "lots", "at", "riders", "one", "two", "entry", "spot", "like", "other", "found", "mate", "ends", "place", "rank", "to"]
theorem o_lSpoilt (D0 : Df K mg "_law_spoilt" sLSpoilt ["deck", "n", "table"]) (B : Bi mg) (lf : Ok P w K mg base 2 "_law_flat" ["n"] spEvery) (dr : Ok P w K mg base 1 "_law_draw" ["deck", "many"] spDraw) (mx : Ok P w K mg base 2 "_law_mixed" ["deck", "own"] spMixV) (pk : Ok P w K mg base 2 "_law_pick" ["deck", "some"] spPick) : Ok P w K mg base 3 "_law_spoilt" ["deck", "n", "table"] spSpoilt := by
  have scSp : FnScope nSp ["deck", "n", "table"] (defScope sLSpoilt) := ⟨rfl, rfl, rfl, by decide +kernel, rfl, by decide +kernel, by decide +kernel⟩
  refine D0.ok fun f fd F => F.ok scSp (fun vs H Q E h => ?_) (fun cdv A outer s H vs Q E hr h => ?_)
  · obtain ⟨p, l, n, v, T, rfl, _⟩ := h
    rfl
  · obtain ⟨p, l, n, v, T, rfl, Dk, n0, n1, hv, okT, q⟩ := h
    have hr1 := hr.mono (show 1 ≤ 2 by decide)
    refine ⟨_, pss_cons (ps_set (i := 3) scSp.nd rfl (.inr rfl) (pe_fn lf hr (by rfl) (pa_cons (pv 1) pa_nil)))
     (pss_cons (ps_set (i := 4) scSp.nd rfl (.inr rfl) (pe_fn dr hr1 (by rfl) (pa_cons (pv 0) (pa_cons (pe_op op_sub (pe_callB call_len_seq (by rfl) B.len boot_len (pa_cons (pv 2) pa_nil)) pe_int) pa_nil))))
     (pss_cons (ps_setLc (i := 5) (own := [("to", 17)]) (g := gName 17) rfl scSp.nd rfl rfl (sw_true rfl rfl rfl (by decide +kernel)) (pi_tup (pe_ix ix_tup (pv 2) (pv 4) (fun _ _ => rfl))) (blkOk_by (own := [("to", 17)]) (N := nSp) (sc := defScope sLSpoilt) (by decide +kernel))
        (fun _ _ _ _ _ => pg_name (i := 17) scSp.nd rfl (.inl rfl)) (fun _ _ _ _ _ => pts_one (pt_cmpR op_ge (pv 17) pe_int (nomark _))) (fun _ _ _ _ _ => pv 17))
     (pss_cons (ps_if (PW.pt (pw_and (pt_cmpR op_gt (pe_callB call_len_seq (by rfl) B.len boot_len (pa_cons (pv 5) pa_nil)) pe_int (nomark _)) (pw_and1 (pt_cmpR op_eq (pe_fn dr hr1 (by rfl) (pa_cons (pv 0) (pa_cons pe_int pa_nil))) pe_int (nomark _)))))
        (pss_cons (ps_asg (pe_slice sl_list (pe_fn mx hr (by rfl) (pa_cons (pv 0) (pa_cons (pv 5) pa_nil))) po_none (po_some pe_int)) (pg_unl rfl (pgs_cons (pg_name (i := 6) scSp.nd rfl (.inr rfl)) (pgs_cons (pg_name (i := 7) scSp.nd rfl (.inr rfl)) pgs_nil))))
        (pss_cons (ps_set (i := 8) scSp.nd rfl (.inl rfl) (pe_callTy call_tuple_of (by rfl) B.tuple (by decide +kernel) (pa_cons
            (pe_lc (own := [("to", 17)]) (g := gName 17) (tt := tYes) rfl scSp.nd (pi_tup (pe_ix ix_tup (pv 2) (pv 4) (fun _ _ => rfl))) (blkOk_by (own := [("to", 17)]) (N := nSp) (sc := defScope sLSpoilt) (by decide +kernel)) (fun _ _ _ _ _ => pg_name (i := 17) scSp.nd rfl (.inl rfl)) (fun _ _ _ _ _ => pts_nil)
              (fun _ _ _ _ _ => pe_ifExp (pt_cmpR op_eq (pv 17) (pv 6) (nomark _)) (pv 7) (pe_ifExp (pt_cmpR op_eq (pv 17) (pv 7) (nomark _)) (pv 6) (pv 17)))) pa_nil)))
        (pss_one (ps_ret (pe_op op_catA (pe_op op_catA (pe_slice sl_tupA (pv 2) po_none (po_some (pv 4))) (pe_tup (pa_cons (pv 8) pa_nil))) (pe_slice sl_tupA (pv 2) (po_some (pe_op op_add (pv 4) pe_int)) po_none)))))) pss_nil)
     (pss_cons (ps_setLc (i := 10) (own := [("spot", 9)]) (g := gName 9) rfl scSp.nd rfl rfl (sw_true rfl rfl rfl (by decide +kernel)) (pi_range1 (by rfl) B.range (pa_cons (pe_callB call_len_seq (by rfl) B.len boot_len (pa_cons (pv 3) pa_nil)) pa_nil)) (blkOk_by (own := [("spot", 9)]) (N := nSp) (sc := defScope sLSpoilt) (by decide +kernel))
        (fun _ _ _ _ _ => pg_name (i := 9) scSp.nd rfl (.inl rfl)) (fun _ _ _ _ _ => pts_one (pt_cmpR op_eq (pe_callB (r := rLenK K) call_lenK (by rfl) B.len boot_len (pa_cons (pe_ix (r := rIxL K) ix_list (pv 3) (pv 9) (fun _ _ => rfl)) pa_nil)) (pe_callB (r := rLenK K) call_lenK (by rfl) B.len boot_len (pa_cons (pe_ix (r := rIxL K) ix_list (pv 3) (pv 4) (fun _ _ => rfl)) pa_nil)) (nomark _))) (fun _ _ _ _ _ => pv 9))
     (pss_cons (ps_par (i := 11) (j := 12) rfl scSp.nd rfl rfl (by decide) rfl rfl (pa_cons (pe_fn pk hr (by rfl) (pa_cons (pv 0) (pa_cons (pv 10) pa_nil))) (pa_cons (pe_callTy call_list_of (by rfl) B.list (by decide +kernel) (pa_cons (pv 2) pa_nil)) pa_nil)) (by rfl))
     (pss_cons (ps_for PassesOwn.never rfl (pi_tup (pe_tup (pa_cons (pe_tup (pa_cons (pv 4) (pa_cons (pv 11) pa_nil))) (pa_cons (pe_tup (pa_cons (pv 11) (pa_cons (pv 4) pa_nil))) pa_nil)))) (pg_tup rfl (pgs_cons (pg_name (i := 9) scSp.nd rfl (.inr rfl)) (pgs_cons (pg_name (i := 13) scSp.nd rfl (.inl rfl)) pgs_nil)))
        (pss_cons (ps_par (i := 14) (j := 8) rfl scSp.nd rfl rfl (by decide) rfl rfl (pa_cons
            (pe_lc (own := [("to", 17)]) (g := gName 17) rfl scSp.nd (pi_tup (pe_ix ix_tup (pv 2) (pv 13) (fun _ _ => rfl))) (blkOk_by (own := [("to", 17)]) (N := nSp) (sc := defScope sLSpoilt) (by decide +kernel))
              (fun _ _ _ _ _ => pg_name (i := 17) scSp.nd rfl (.inl rfl)) (fun _ _ _ _ _ => pts_one (pt_cmpR op_ge (pv 17) pe_int (nomark _))) (fun _ _ _ _ _ => pv 17)) (pa_cons (pe_op op_rep (pe_lst (pa_cons (pe_un un_neg pe_int) pa_nil)) (pv 1)) pa_nil)) (by rfl))
        (pss_cons (ps_for PassesOwn.never rfl (pi_enum (by rfl) B.enumerate (pa_cons (pe_lc (own := [("place", 15)]) (g := gName 15) rfl scSp.nd (pi_range1 (by rfl) B.range (pa_cons (pv 1) pa_nil)) (blkOk_by (own := [("place", 15)]) (N := nSp) (sc := defScope sLSpoilt) (by decide +kernel))
              (fun _ _ _ _ _ => pg_name (i := 15) scSp.nd rfl (.inl rfl)) (fun _ _ _ _ _ => pts_one (pt_cmpR (r := rIn K true) op_notIn_seq (pv 15) (pe_ix (r := rIxL K) ix_list (pv 3) (pv 9) (fun _ _ => rfl)) rfl)) (fun _ _ _ _ _ => pv 15)) pa_nil))
              (pg_tup rfl (pgs_cons (pg_name (i := 16) scSp.nd rfl (.inl rfl)) (pgs_cons (pg_name (i := 15) scSp.nd rfl (.inl rfl)) pgs_nil)))
              (pss_one (ps_asg (pe_ix ix_list (pv 14) (pv 16) (fun _ _ => rfl)) (pg_sub (pv 8) (pv 15) set_list))))
        (pss_one (ps_asg (pe_callTy call_tuple_of (by rfl) B.tuple (by decide +kernel) (pa_cons (pv 8) pa_nil)) (pg_sub (pv 12) (pv 9) set_list))))))
     (pss_one (ps_ret (pe_callTy call_tuple_of (by rfl) B.tuple (by decide +kernel) (pa_cons (pv 12) pa_nil)))))))))), ?_⟩
    obtain ⟨hTl, hTe, hT2, hTe2⟩ := okT.both_in n1
    have hp64 : 2 ^ n ≤ 64 := by have := all_few n (by omega); rw [all_len n (by omega)] at this; exact this
    have hp8 : 8 ≤ 2 ^ n := by
      have : ∀ n : Nat, n < 7 → 3 ≤ n → 8 ≤ 2 ^ n := by decide
      exact this n (by omega) n0
    have hall : (allL n).length = 2 ^ n := all_len n (by omega)
    refine ⟨.int n, rfl, n, rfl, n1, fun H1 lv1 s1 hl1 => ?_⟩
    cases hl1 with
    | @lst L ks _ hL qk =>
    have D1 := Dk.up s1
    have hv1 := hv.up s1
    obtain ⟨va, xs, rfl, hva, qx⟩ := Dq.tup_inv hv1
    have hxl : xs.length = 2 ^ n := by rw [qx.len, List.length_map, hT2]
    have hkl : ks.length = 2 ^ n := by rw [qk.len, List.length_map, hall]
    have nLp := D1.not_p hL
    have nLl : L ≠ l := by
      obtain ⟨y, hy⟩ : ∃ y, ks[0]? = some y := ⟨_, List.getElem?_eq_getElem (by omega)⟩
      obtain ⟨_, _, b, rfl, _⟩ := lots_get qk hy
      exact D1.not_l hL hy
    dsimp only [tNext]
    refine ⟨.ref p, rfl, .ref va, rfl, va, _, rfl, .inr (SqT.of hva), _, _, rfl, rfl, p, l, _, rfl, D1, by omega, fun H2 t D2 E2 t0 t1 => ?_⟩
    obtain ⟨i, rfl, hi⟩ : ∃ i : Nat, t = i ∧ i + 1 < 2 ^ n := ⟨t.toNat, by omega, by omega⟩
    have ts2 := TS.deck D1 E2
    have EH2 : Ext p l H H2 := Same.trans (Ext.of s1) E2
    have hL2 : H2 L = some (.lst ks) := E2.at_ nLp nLl hL
    have hva2 : H2 va = some (.tup xs) := ts2 _ _ hva
    have qx2 : DqA H2 xs (T.map entD) := DqA.upT ts2 (ents_flat _) qx
    have qk2 : DqA H2 ks ((allL n).map lotD) := DqA.upT ts2 (lots_flat _) qk
    clear E2 t0 t1 hv1 qx qk hva hL s1 ts2 hv D1
    -- what stands at a place
    have ent_ : ∀ a, a < 2 ^ n → ∃ e ea, T[a]? = some e ∧ xs[a]? = some (.ref ea) ∧ H2 ea = some (.tup (e.map V.int)) ∧ e.length = n := fun a ha => by
      obtain ⟨y, hy⟩ : ∃ y, xs[a]? = some y := ⟨_, List.getElem?_eq_getElem (by omega)⟩
      obtain ⟨e, he, ea, rfl, hea⟩ := ents_get qx2 hy
      exact ⟨e, ea, he, hy, hea, hTe2 e (List.mem_of_getElem? he)⟩
    have lot_ : ∀ a, a < 2 ^ n → ∃ k kb, (allL n)[a]? = some k ∧ ks[a]? = some (.ref kb) ∧ H2 kb = some (.tup (lv k)) := fun a ha => by
      obtain ⟨y, hy⟩ : ∃ y, ks[a]? = some y := ⟨_, List.getElem?_eq_getElem (by omega)⟩
      obtain ⟨k, hk, kb, rfl, hkb⟩ := lots_get qk2 hy
      exact ⟨k, kb, hk, hy, hkb⟩
    have both_ : ∀ a k e, (allL n)[a]? = some k → T[a]? = some e → EntF n k e := fun a k e hk he => (okT.ents.at_ a k e hk he).f
    obtain ⟨e, ea, he, hxi, hea, hel⟩ := ent_ i (by omega)
    obtain ⟨li, kb, hli, hki, hkb⟩ := lot_ i (by omega)
    have hE := both_ i li e hli he
    have fstep : ∀ (e : List Int) (t : Nat), t < e.length → (e.take (t + 1)).filter (fun x => decide (x ≥ 0)) = (e.take t).filter (fun x => decide (x ≥ 0)) ++ (if e.getD t 0 ≥ 0 then [e.getD t 0] else []) := fun e t ht => by
      rw [List.take_add_one, getD_get ht, List.filter_append]
      generalize e.getD t 0 = z
      by_cases hm : z ≥ 0
      · rw [if_pos hm]
        show _ ++ [z].filter _ = _
        rw [List.filter_cons_of_pos (by simpa using hm)]
        rfl
      · rw [if_neg hm]
        show _ ++ [z].filter _ = _
        rw [List.filter_cons_of_neg (by simpa using hm)]
        rfl
    dsimp only [tNext]
    refine ⟨.ref va, rfl, .int i, rfl, va, xs, i, .ref ea, rfl, rfl, SqT.of hva2, atI_nat hxi, ea, rfl, ⟨_, SqT.of hea⟩, fun D nD => ?_⟩
    refine lc_it (walk_tup (K := K) (a := ea) (xs := e.map V.int)) (fun t G => G D = some (.lst (((e.take t).filter fun x => decide (x ≥ 0)).map V.int)) ∧ Same H2 G) ⟨upd_same, same_new nD⟩ (fun _ _ _ ⟨_, sm⟩ => SqT.of (sm _ _ hea)) ?_ ?_
    · rintro t x _ G ht ⟨hD, sm⟩ ⟨rfl, hx⟩
      rw [List.length_map] at ht
      have hx2 : (e.map V.int)[t]? = some x := hx
      rw [List.getElem?_map, getD_get ht] at hx2
      obtain rfl : V.int (e.getD t 0) = x := Option.some.inj hx2
      rw [fstep e t ht]
      generalize e.getD t 0 = z
      refine ⟨rfl, .int z, rfl, _, _, rfl, rfl, _, rfl, ?_⟩
      by_cases hm : z ≥ 0
      · rw [decide_eq_true hm, if_pos hm]
        refine iteT ⟨_, rfl, _, hD, szm ?_, ?_, fun b o hb => ?_⟩
        · rw [List.length_map]
          have := List.length_filter_le (fun x => decide (x ≥ 0)) (e.take t)
          rw [List.length_take] at this
          omega
        · rw [upd_same, List.map_append]
          rfl
        · rw [upd_ne (ne_of_none hb nD)]
          exact sm _ _ hb
      · rw [decide_eq_false hm, if_neg hm, List.append_nil]
        exact iteF ⟨hD, sm⟩
    rintro H3 ⟨hD3, s3⟩
    rw [List.length_map, List.take_length] at hD3
    obtain ⟨nDp, nDl⟩ := D2.new nD
    have nDL : D ≠ L := (ne_of_none hL2 nD).symm
    have D3 := D2.up s3
    have hL3 := s3 _ _ hL2
    have E3 : Ext p l H H3 := Same.trans EH2 (Ext.of s3)
    have ts3 : TS H2 H3 := TS.of s3
    have hrid : (e.filter fun x => decide (x ≥ 0)).length ≤ 6 := by
      have := List.length_filter_le (fun x => decide (x ≥ 0)) e
      omega
    dsimp only [tNext]
    refine ⟨.ref D, rfl, D, _, rfl, .inl (SqL.of hD3), _, _, rfl, rfl, _, rfl, ite2 (fun c => ?_) (fun c => ?_)⟩
    rotate_left
    refine iteF ?_
    obtain ⟨G, hG⟩ : ∃ G, G = H3 := ⟨_, rfl⟩
    subst hG
    have DG := D3
    have EG := E3
    have tsG : TS H2 G := ts3
    have hLG : G L = some (.lst ks) := hL3
    clear c D3 E3 ts3 hL3 s3 hD3
    rotate_left
    refine ⟨.ref p, rfl, p, l, 2, rfl, D3, by decide, fun H4 z D4 E4 z0 z1 => ⟨rfl, _, rfl, ite2 (fun c2 => ?_) (fun c2 => ?_)⟩⟩
    · have hD4 := E4.at_ nDp nDl hD3
      have ct := of_decide_eq_true c
      rw [List.length_map] at ct
      clear c c2
      refine ⟨.ref p, rfl, .ref D, rfl, p, l, D, _, rfl, D4, by rw [hid_ne nDp nDl]; exact hD4, by rw [List.length_map]; omega, fun H5 M ms D5 E5 nM hM hp => ?_⟩
      obtain ⟨ws, rfl, hws⟩ := ints_perm hp
      obtain ⟨nMp, nMl, hM5⟩ := hid_some hM
      have hwl := hws.length_eq
      obtain ⟨a, b, ws', rfl⟩ : ∃ a b ws', ws = a :: b :: ws' := by
        match ws, hwl with
        | [], h => rw [List.length_nil] at h; omega
        | [a], h => rw [List.length_singleton] at h; omega
        | a :: b :: ws', _ => exact ⟨a, b, ws', rfl⟩
      have ina : a ∈ e ∧ 0 ≤ a := by
        have := hws.subset (List.mem_cons_self (a := a))
        rw [List.mem_filter] at this
        exact ⟨this.1, by simpa using this.2⟩
      have inb : b ∈ e ∧ 0 ≤ b := by
        have := hws.subset (List.mem_cons_of_mem a (List.mem_cons_self (a := b)))
        rw [List.mem_filter] at this
        exact ⟨this.1, by simpa using this.2⟩
      have ts5 : TS H2 H5 := ts3.trans ((TS.deck D3 E4).trans (TS.deck D4 E5))
      have EH5 : Ext p l H H5 := Same.trans E3 (Same.trans E4 E5)
      refine ⟨(2 : Int), rfl, M, _, rfl, SqL.of hM5, fun c nc => ?_⟩
      rw [show (2 : Int) = ((2 : Nat) : Int) by rfl, cut_to (by simp)]
      have s6 := same_new (o := .lst (((a :: b :: ws').map V.int).take 2)) nc
      have hc : upd H5 c (.lst (((a :: b :: ws').map V.int).take 2)) c = some (.lst [.int a, .int b]) := upd_same
      refine ⟨c, [.int a, .int b], rfl, SqL.of hc, rfl, .int a, [.int b], rfl, .int b, [], rfl, rfl, ?_⟩
      have D6 := D5.up s6
      have ts6 := ts5.trans (TS.of s6)
      have EH6 : Ext p l H (upd H5 c (.lst (((a :: b :: ws').map V.int).take 2))) := Same.trans EH5 (Ext.of s6)
      generalize upd H5 c (.lst (((a :: b :: ws').map V.int).take 2)) = H6 at D6 ts6 EH6
      clear hM hM5 hp hws hwl nM s6 hc D5 E5 D4 E4 hD4 EH5 ts5 hD3 s3 nc D3 E3 ts3 hL3
      have hva6 := ts6 _ _ hva2
      have hea6 := ts6 _ _ hea
      dsimp only [tNext]
      refine ⟨.ref va, rfl, .int i, rfl, va, xs, i, .ref ea, rfl, rfl, SqT.of hva6, atI_nat hxi, ea, rfl, ⟨_, SqT.of hea6⟩, fun D2' nD2' => ?_⟩
      refine lc_itF (walk_tup (K := K) (a := ea) (xs := e.map V.int)) (fun j => .int (if e.getD j 0 = a then b else if e.getD j 0 = b then a else e.getD j 0)) nD2' (by rw [List.length_map]; omega) (fun _ _ => rfl) (fun G s => SqT.of (s _ _ hea6)) (fun j y G3 G3' C Cn hj s4 hy cc => ?_) (fun G4 bs s4 hD qb => ?_)
      · obtain ⟨rfl, hy⟩ := hy
        rw [List.length_map] at hj
        have hy2 : (e.map V.int)[j]? = some y := hy
        rw [List.getElem?_map, getD_get hj] at hy2
        obtain rfl : V.int (e.getD j 0) = y := Option.some.inj hy2
        generalize e.getD j 0 = z at cc
        refine ⟨rfl, ?_⟩
        dsimp only [tYes]
        rw [if_pos rfl]
        refine ⟨.int z, rfl, .int a, rfl, rfl, _, rfl, ?_⟩
        by_cases h1 : z = a
        · rw [decide_eq_true (show V.int z = V.int a by rw [h1])]
          rw [if_pos h1] at cc
          exact iteT ⟨.int b, rfl, cc _ _ (Same.refl _) (.int _)⟩
        · rw [decide_eq_false (fun q => h1 (V.int.inj q))]
          rw [if_neg h1] at cc
          refine iteF ⟨.int z, rfl, .int b, rfl, rfl, _, rfl, ?_⟩
          by_cases h2 : z = b
          · rw [decide_eq_true (show V.int z = V.int b by rw [h2])]
            rw [if_pos h2] at cc
            exact iteT ⟨.int a, rfl, cc _ _ (Same.refl _) (.int _)⟩
          · rw [decide_eq_false (fun q => h2 (V.int.inj q))]
            rw [if_neg h2] at cc
            exact iteF ⟨.int z, rfl, cc _ _ (Same.refl _) (.int _)⟩
      have em := map_getD (fun (z : Int) => PyData.int (if z = a then b else if z = b then a else z)) 0 e
      rw [List.length_map, em] at qb
      have ebs : bs = (swE a b e).map V.int := dqa_int (by
        unfold swE
        rw [List.map_map]
        exact qb)
      subst ebs
      obtain ⟨hSE, hSG⟩ := swE_ok hE ina.1 inb.1 ina.2 inb.2
      refine ⟨D2', _, rfl, .inl ⟨SqL.of hD, fun t2 nt2 => ?_⟩⟩
      have s5 := s4.trans (same_new (o := .tup ((swE a b e).map V.int)) nt2)
      have ht2 : upd G4 t2 (.tup ((swE a b e).map V.int)) t2 = some (.tup ((swE a b e).map V.int)) := upd_same
      have D7 := D6.up s5
      have EH7 : Ext p l H (upd G4 t2 (.tup ((swE a b e).map V.int))) := Same.trans EH6 (Ext.of s5)
      have qx7 : DqA (upd G4 t2 (.tup ((swE a b e).map V.int))) xs (T.map entD) := DqA.upT (ts6.trans (TS.of s5)) (ents_flat _) qx2
      have hva7 := s5 _ _ hva6
      generalize upd G4 t2 (.tup ((swE a b e).map V.int)) = H7 at ht2 D7 EH7 qx7 hva7
      dsimp only [tNext]
      refine ⟨.ref va, rfl, .int i, rfl, (i : Int), rfl, sliceA_k hva7 fun y1 H8 s8 hy1 => ?_⟩
      rw [cut_to (by omega)] at hy1
      refine ⟨.ref t2, rfl, by show 1 ≤ sizeLine; decide, fun y2 ny2 => ?_⟩
      have s9 := same_new (o := .tup [.ref t2]) ny2
      have hy2 : upd H8 y2 (.tup [.ref t2]) y2 = some (.tup [.ref t2]) := upd_same
      refine catA_k (s9 _ _ hy1) hy2 (by rw [List.length_take]; show _ + 1 ≤ _; omega) fun y3 H10 s10 hy3 => ?_
      have s810 := s8.trans (s9.trans s10)
      refine ⟨.ref va, rfl, .int i, rfl, _, _, rfl, rfl, _, rfl, ?_⟩
      dsimp only [tNoPart]
      refine sliceA_k (s810 _ _ hva7) fun y4 H11 s11 hy4 => ?_
      rw [show ((i : Int) + 1) = ((i + 1 : Nat) : Int) by omega, cut_from (by omega)] at hy4
      refine catA_k (s11 _ _ hy3) hy4 (by rw [List.length_append, List.length_take, List.length_drop]; show _ + 1 + _ ≤ _; omega) fun y5 H12 s12 hy5 => ?_
      have s812 := s810.trans (s11.trans s12)
      refine q _ _ (T.set i (swE a b e)) (D7.up s812) (Same.trans EH7 (Ext.of s812)) (.tup hy5 ?_) (tab_set okT hli he hSE.v hSG)
      have qx12 := qx7.up s812
      have et : T.set i (swE a b e) = T.take i ++ [swE a b e] ++ T.drop (i + 1) := by
        rw [List.set_eq_take_append_cons_drop, if_pos (by omega), List.append_assoc]
        rfl
      rw [et, List.map_append, List.map_append]
      exact DqA.app (DqA.app (dqa_take i qx12) (.one (ent_at (s812 _ _ ht2)))) (dqa_drop (i + 1) qx12)
    obtain ⟨G, hG⟩ : ∃ G, G = H4 := ⟨_, rfl⟩
    subst hG
    have DG := D4
    have EG : Ext p l H G := Same.trans E3 E4
    have tsG : TS H2 G := ts3.trans (TS.deck D3 E4)
    have hLG : G L = some (.lst ks) := E4.at_ nLp nLl hL3
    clear c2 c E4 D4 z0 z1 D3 E3 ts3 hL3 s3 hD3
    all_goals
      dsimp only [tNext]
      refine ⟨.ref L, rfl, L, _, rfl, .inl (SqL.of hLG), (ks.length : Int), rfl, by omega, by omega, fun D4 nD4 => ?_⟩
      rw [Int.toNat_natCast]
      refine lc_it (walk_rg (n := ks.length)) (fun t G' => ∃ ss : List Nat, G' D4 = some (.lst (ss.map fun (x : Nat) => V.int (x : Int))) ∧ Same G G' ∧ ss.length ≤ t ∧ (∀ j ∈ ss, j < 2 ^ n ∧ ∃ lj, (allL n)[j]? = some lj ∧ lj.length = li.length) ∧ (i < t → i ∈ ss))
        ⟨[], upd_same, same_new nD4, Nat.le_refl _, fun _ h => (nomatch h), fun h => absurd h (Nat.not_lt_zero _)⟩ (fun _ _ _ _ => trivial) ?_ ?_
      · rintro t x _ G' ht ⟨ss, hD, sm, hsl, hss, hii⟩ ⟨rfl, rfl⟩
        obtain ⟨kt, ktb, hkt, hxt, hktb⟩ := lot_ t (by omega)
        refine ⟨rfl, .ref L, rfl, .int t, rfl, L, ks, t, .ref ktb, rfl, rfl, SqL.of (sm _ _ hLG), atI_nat hxt, ktb, _, rfl, .inr (SqT.of (sm _ _ (tsG _ _ hktb))), .ref L, rfl, .int i, rfl, L, ks, i, .ref kb, rfl, rfl, SqL.of (sm _ _ hLG), atI_nat hki, kb, _, rfl, .inr (SqT.of (sm _ _ (tsG _ _ hkb))), rfl, _, rfl, ?_⟩
        rw [lv_len, lv_len]
        by_cases hm : kt.length = li.length
        · rw [decide_eq_true (show V.int (kt.length : Int) = V.int (li.length : Int) by rw [hm])]
          refine iteT ⟨.int t, rfl, _, hD, szm (by rw [List.length_map]; omega), ss ++ [t], by rw [upd_same, List.map_append]; rfl, fun b o hb => ?_, by rw [List.length_append]; show ss.length + 1 ≤ _; omega, fun j hj => ?_, fun h => ?_⟩
          · rw [upd_ne (ne_of_none hb nD4)]
            exact sm _ _ hb
          · rcases List.mem_append.mp hj with hj | hj
            · exact hss j hj
            · rw [List.mem_singleton.mp hj]
              exact ⟨by omega, kt, hkt, hm⟩
          · rcases Nat.lt_or_ge i t with c | c
            · exact List.mem_append_left _ (hii c)
            · have : i = t := by omega
              rw [this]
              exact List.mem_append_right _ List.mem_cons_self
        · rw [decide_eq_false (fun z => hm (by have := V.int.inj z; omega))]
          refine iteF ⟨ss, hD, sm, by omega, hss, fun h => ?_⟩
          rcases Nat.lt_or_ge i t with c | c
          · exact hii c
          · have : i = t := by omega
            subst this
            rw [hli] at hkt
            exact absurd (by rw [Option.some.inj hkt]) hm
      rintro G' ⟨ss, hD, sm, hsl, hss, hii⟩
      obtain ⟨nDp4, nDl4⟩ := DG.new nD4
      have hin := hii (by omega)
      have DG' := DG.up sm
      have EG' : Ext p l H G' := Same.trans EG (Ext.of sm)
      have tsG' : TS H2 G' := tsG.trans (TS.of sm)
      have hLG' := sm _ _ hLG
      dsimp only [tNext]
      refine ⟨.ref p, rfl, .ref D4, rfl, p, l, D4, _, rfl, DG', by rw [hid_ne nDp4 nDl4]; exact hD, fun z => ?_, by rw [List.length_map]; omega, fun H5 v5 D5 E5 hv5 => ?_⟩
      · have : ss = [] := by simpa using z
        rw [this] at hin
        exact nomatch hin
      obtain ⟨j, hjs, rfl⟩ := List.mem_map.mp hv5
      obtain ⟨hj, lj, hlj, hll⟩ := hss j hjs
      have ts5 : TS H2 H5 := tsG'.trans (TS.deck DG' E5)
      have EH5 : Ext p l H H5 := Same.trans EG' E5
      have hL5 : H5 L = some (.lst ks) := E5.at_ nLp nLl hLG'
      clear hv5 hjs hss hii hin hsl E5 sm hD nD4 hLG' tsG' EG' DG' nDp4 nDl4 hLG tsG EG DG
      obtain ⟨ej, eja, hej, hxj, heja, hejl⟩ := ent_ j hj
      obtain ⟨lj', ljb, hlj', hkj, hljb⟩ := lot_ j hj
      rw [hlj] at hlj'
      cases Option.some.inj hlj'
      have hEj := both_ j lj ej hlj hej
      have hva5 := ts5 _ _ hva2
      refine ⟨.ref va, rfl, va, _, rfl, .inr (SqT.of hva5), fun F nF => ⟨_, _, rfl, ?_⟩⟩
      have s6 := same_new (o := .lst xs) nF
      have hF : upd H5 F (.lst xs) F = some (.lst xs) := upd_same
      have D6 := D5.up s6
      have EH6 : Ext p l H (upd H5 F (.lst xs)) := Same.trans EH5 (Ext.of s6)
      have ts6 : TS H2 (upd H5 F (.lst xs)) := ts5.trans (TS.of s6)
      have hL6 := s6 _ _ hL5
      obtain ⟨nFp, nFl⟩ := D5.new nF
      have nFL : F ≠ L := (ne_of_none hL5 nF).symm
      have hF0 : H F = none := by
        cases hh : H F with
        | none => rfl
        | some o => rw [EH5.at_ nFp nFl hh] at nF; cases nF
      generalize upd H5 F (.lst xs) = H6 at hF D6 EH6 ts6 hL6
      clear s6 nF hL5 EH5 ts5 D5 hva5
      dsimp only
      refine ⟨.int i, rfl, .int j, rfl, by show 2 ≤ sizeLine; decide, fun t1 nt1 => ⟨.int j, rfl, .int i, rfl, by show 2 ≤ sizeLine; decide, fun t2 nt2 => ⟨by show 2 ≤ sizeLine; decide, fun t3 nt3 => ?_⟩⟩⟩
      have s7 := (same_new (o := .tup [.int i, .int j]) nt1).trans ((same_new (o := .tup [.int j, .int i]) nt2).trans (same_new (o := .tup [.ref t1, .ref t2]) nt3))
      have ht1 := ((same_new (o := .tup [.int j, .int i]) nt2).trans (same_new (o := .tup [.ref t1, .ref t2]) nt3)) _ _ (show upd H6 t1 (.tup [.int i, .int j]) t1 = some (.tup [.int i, .int j]) from upd_same)
      have ht2 := (same_new (o := .tup [.ref t1, .ref t2]) nt3) _ _ (show upd (upd H6 t1 (.tup [.int i, .int j])) t2 (.tup [.int j, .int i]) t2 = some (.tup [.int j, .int i]) from upd_same)
      have ht3 : upd (upd (upd H6 t1 (.tup [.int i, .int j])) t2 (.tup [.int j, .int i])) t3 (.tup [.ref t1, .ref t2]) t3 = some (.tup [.ref t1, .ref t2]) := upd_same
      have hF7 := s7 _ _ hF
      have D7 := D6.up s7
      have EH7 : Ext p l H (upd (upd (upd H6 t1 (.tup [.int i, .int j])) t2 (.tup [.int j, .int i])) t3 (.tup [.ref t1, .ref t2])) := Same.trans EH6 (Ext.of s7)
      have ts7 := ts6.trans (TS.of s7)
      have hL7 := s7 _ _ hL6
      generalize upd (upd (upd H6 t1 (.tup [.int i, .int j])) t2 (.tup [.int j, .int i])) t3 (.tup [.ref t1, .ref t2]) = H7 at ht1 ht2 ht3 hF7 D7 EH7 ts7 hL7
      clear s7 nt1 nt2 nt3 hF D6 EH6 ts6 hL6
      have nt1F : t1 ≠ F := ne_of ht1 hF7 (by intro z; cases z)
      have nt2F : t2 ≠ F := ne_of ht2 hF7 (by intro z; cases z)
      have nt3F : t3 ≠ F := ne_of ht3 hF7 (by intro z; cases z)
      have qx7 : DqA H7 xs (T.map entD) := DqA.upT ts7 (ents_flat _) qx2
      refine ⟨t3, rfl, ⟨_, SqT.of ht3⟩, for_it (walk_tup (K := K) (a := t3) (xs := [.ref t1, .ref t2])) (fun u σ G => ∃ (v5 v6 v7 v8 v9 v10 v13 v14 v15 v16 : Option V) (acc : List V) (T' : List (List Int)), σ = [some (.ref p), some (.int n), some (.ref va), some (.ref L), some (.int i), v5, v6, v7, v8, v9, v10, some (.int j), some (.ref F), v13, v14, v15, v16, none] ∧ (∀ b o, b ≠ F → H7 b = some o → G b = some o) ∧ G F = some (.lst acc) ∧ DqA G acc (T'.map entD) ∧ T'.length = 2 ^ n ∧
          (u = 0 → T' = T) ∧ (u = 1 → ∃ e1, T' = T.set i e1 ∧ EntV n li e1 ∧ goalE n e1 = goalE n ej) ∧ (u = 2 → TabOk n T'))
        ⟨_, _, _, _, _, _, _, _, _, _, xs, T, rfl, fun _ _ _ h => h, hF7, qx7, hT2, fun _ => rfl, fun h => (nomatch h), fun h => (nomatch h)⟩ (fun u σ G _ ⟨_, _, _, _, _, _, _, _, _, _, _, _, _, k6, _⟩ => SqT.of (k6 _ _ nt3F ht3)) ?_ ?_⟩
      · rintro u x σ _ G hu ⟨v5, v6, v7, v8, v9, v10, v13, v14, v15, v16, acc, T', rfl, k6, hFG, qac, hTl', h0, h1, h2⟩ ⟨rfl, hx⟩
        obtain ⟨tt, a, m, la, lab, em, ema, rfl, htt, ha, hka, hlab, hla, hxm, hema, heml, hgm, hlen, hnext⟩ : ∃ (tt : Addr) (a m : Nat) (la : List Nat) (lab : Addr) (em : List Int) (ema : Addr), x = .ref tt ∧ H7 tt = some (.tup [.int a, .int m]) ∧ a < 2 ^ n ∧ ks[a]? = some (.ref lab) ∧ H2 lab = some (.tup (lv la)) ∧ (allL n)[a]? = some la ∧ xs[m]? = some (.ref ema) ∧ H2 ema = some (.tup (em.map V.int)) ∧ em.length = n ∧
            (∃ lm, EntF n lm em ∧ lm ∈ allL n ∧ lm.length = la.length) ∧ tt ≠ F ∧ ∀ e', EntV n la e' → goalE n e' = goalE n em →
              (u + 1 = 0 → T'.set a e' = T) ∧ (u + 1 = 1 → ∃ e1, T'.set a e' = T.set i e1 ∧ EntV n li e1 ∧ goalE n e1 = goalE n ej) ∧ (u + 1 = 2 → TabOk n (T'.set a e')) := by
          match u, hu, hx, h0, h1 with
          | 0, _, hx, h0, _ =>
            cases hx
            refine ⟨t1, i, j, li, kb, ej, eja, rfl, ht1, by omega, hki, hkb, hli, hxj, heja, hejl, ⟨lj, hEj, List.mem_of_getElem? hlj, hll⟩, nt1F, fun e' g1 g2 => ⟨fun h => (nomatch h), fun _ => ⟨e', by rw [h0 rfl], g1, g2⟩, fun h => (nomatch h)⟩⟩
          | 1, _, hx, _, h1 =>
            cases hx
            obtain ⟨e1, hT', g3, g4⟩ := h1 rfl
            refine ⟨t2, j, i, lj, ljb, e, ea, rfl, ht2, hj, hkj, hljb, hlj, hxi, hea, hel, ⟨li, hE, List.mem_of_getElem? hli, hll.symm⟩, nt2F, fun e' g1 g2 => ⟨fun h => (nomatch h), fun h => (nomatch h), fun _ => ?_⟩⟩
            rw [hT']
            exact tab_exch okT hli hlj he hej g3 g1 g4 g2
        obtain ⟨lm, hEm, hlmA, hlml⟩ := hgm
        have laA : la ∈ allL n := List.mem_of_getElem? hla
        have hglen : la.length = (goalE n em).length := by rw [goal_len (all_ascL n1 lm hlmA) hEm, hlml]
        have htt' := k6 _ _ hlen htt
        have hva7 := ts7 _ _ hva2
        have nvaF : va ≠ F := ne_of hva7 hF7 (by intro z; cases z)
        have hvaG := k6 _ _ nvaF hva7
        have tsG : TS H7 G := fun b ys hb => k6 _ _ (ne_of hb hF7 (by intro z; cases z)) hb
        have hemaG := tsG _ _ (ts7 _ _ hema)
        have hlabG := tsG _ _ (ts7 _ _ hlab)
        have hLG := k6 _ _ nFL.symm hL7
        have hal : acc.length = 2 ^ n := by rw [qac.len, List.length_map, hTl']
        refine ⟨tt, [.int a, .int m], rfl, SqT.of htt', rfl, .int a, [.int m], rfl, .int m, [], rfl, rfl, ?_⟩
        dsimp only [tNext]
        refine ⟨.ref va, rfl, .int m, rfl, va, xs, m, .ref ema, rfl, rfl, SqT.of hvaG, atI_nat hxm, ema, rfl, ⟨_, SqT.of hemaG⟩, fun D nD => ?_⟩
        refine lc_it (walk_tup (K := K) (a := ema) (xs := em.map V.int)) (fun t G' => G' D = some (.lst (((em.take t).filter fun x => decide (x ≥ 0)).map V.int)) ∧ Same G G') ⟨upd_same, same_new nD⟩ (fun _ _ _ ⟨_, sm⟩ => SqT.of (sm _ _ hemaG)) ?_ ?_
        · rintro t x _ G' ht ⟨hD, sm⟩ ⟨rfl, hx⟩
          rw [List.length_map] at ht
          have hx2 : (em.map V.int)[t]? = some x := hx
          rw [List.getElem?_map, getD_get ht] at hx2
          obtain rfl : V.int (em.getD t 0) = x := Option.some.inj hx2
          rw [fstep em t ht]
          generalize em.getD t 0 = z
          refine ⟨rfl, .int z, rfl, _, _, rfl, rfl, _, rfl, ?_⟩
          by_cases hm : z ≥ 0
          · rw [decide_eq_true hm, if_pos hm]
            refine iteT ⟨_, rfl, _, hD, szm ?_, ?_, fun b o hb => ?_⟩
            · rw [List.length_map]
              have := List.length_filter_le (fun x => decide (x ≥ 0)) (em.take t)
              rw [List.length_take] at this
              omega
            · rw [upd_same, List.map_append]
              rfl
            · rw [upd_ne (ne_of_none hb nD)]
              exact sm _ _ hb
          · rw [decide_eq_false hm, if_neg hm, List.append_nil]
            exact iteF ⟨hD, sm⟩
        rintro G8 ⟨hD8, s8⟩
        rw [List.length_map, List.take_length] at hD8
        have hws := rid_open hEm
        generalize em.filter (fun x => decide (x ≥ 0)) = ws at hD8 hws
        have kl : (openL n la).length + la.length = n := (lot_filt n (by omega) la laA).2
        have gl : (openL n (goalE n em)).length + (goalE n em).length = n := (lot_filt n (by omega) _ (goal_all n1 em)).2
        have hwl : ws.length = (openL n la).length := by
          rw [hws.length_eq, List.length_map]
          omega
        have hwz : ∀ z ∈ ws, z ≠ -1 := fun z hz => by
          obtain ⟨y, _, rfl⟩ := List.mem_map.mp (hws.subset hz)
          omega
        refine ⟨1, rfl, by show 1 ≤ sizeLine; decide, fun l1 nl1 => ?_⟩
        refine ⟨.int n, rfl, l1, (n : Int), [.int (-1)], rfl, rfl, upd_same, by omega, by omega, by show 1 * _ ≤ sizeLine; exact sz (by omega), fun eA neA => ⟨_, _, rfl, ?_⟩⟩
        rw [Int.toNat_natCast, rep_one2]
        have s9 := (same_new (o := .lst [.int (-1)]) nl1).trans (same_new (o := .lst (List.replicate n (V.int (-1)))) neA)
        have heA : upd (upd G8 l1 (.lst [.int (-1)])) eA (.lst (List.replicate n (V.int (-1)))) eA = some (.lst ((List.replicate n (-1)).map V.int)) := by rw [upd_same, List.map_replicate]
        have nA : ∀ b o, G8 b = some o → b ≠ eA := fun b o hb => ne_of_none ((same_new (o := .lst [.int (-1)]) nl1) _ _ hb) neA
        generalize upd (upd G8 l1 (.lst [.int (-1)])) eA (.lst (List.replicate n (V.int (-1)))) = G9 at s9 heA
        have s89 := s8.trans s9
        have hlab9 := s89 _ _ hlabG
        have hL9 := s89 _ _ hLG
        dsimp only
        refine ⟨.int n, rfl, (n : Int), rfl, by omega, by omega, fun W nW => ?_⟩
        rw [Int.toNat_natCast]
        have gstep : ∀ (t : Nat) (k : List Nat), (List.range (t + 1)).filter (fun (y : Nat) => !decide (y ∈ k)) = (List.range t).filter (fun (y : Nat) => !decide (y ∈ k)) ++ (if t ∈ k then [] else [t]) := fun t k => by
          rw [List.range_succ, List.filter_append]
          by_cases hm : t ∈ k <;> simp [hm]
        refine lc_it (walk_rg (n := n)) (fun t G => G W = some (.lst (lv ((List.range t).filter fun (y : Nat) => !decide (y ∈ la)))) ∧ Same G9 G) ⟨upd_same, same_new nW⟩ (fun _ _ _ _ => trivial) ?_ ?_
        · rintro t x _ G' ht ⟨hD, s6⟩ ⟨rfl, rfl⟩
          refine ⟨rfl, .int t, rfl, .ref L, rfl, .int a, rfl, L, ks, a, .ref lab, rfl, rfl, SqL.of (s6 _ _ hL9), atI_nat hka, lab, _, rfl, .inr (SqT.of (s6 _ _ hlab9)), rfl, lv_fl la, _, rfl, ?_⟩
          rw [inV_lot, gstep]
          by_cases hm : t ∈ la
          · rw [decide_eq_true hm, if_pos hm, List.append_nil]
            exact iteF ⟨hD, s6⟩
          · rw [decide_eq_false hm, if_neg hm]
            refine iteT ⟨_, rfl, _, hD, szm ?_, ?_, fun b o hb => ?_⟩
            · rw [lv_len]
              have := List.length_filter_le (fun (y : Nat) => !decide (y ∈ la)) (List.range t)
              rw [List.length_range] at this
              omega
            · rw [upd_same]
              simp [lv]
            · rw [upd_ne (ne_of_none hb nW)]
              exact s6 _ _ hb
        rintro G10 ⟨hW, s10⟩
        have heA10 := s10 _ _ heA
        have nWA : W ≠ eA := (ne_of_none heA nW).symm
        have hfr10 := s10 _ _ (s9 _ _ hD8)
        have nfrA := nA _ _ hD8
        refine ⟨W, _, rfl, SqL.of hW, for_it walk_enum (fun t σ G => ∃ (v15 v16 : Option V) (e : List Int), σ = [some (.ref p), some (.int n), some (.ref va), some (.ref L), some (.int i), v5, v6, v7, some (.ref eA), some (.int a), v10, some (.int j), some (.ref F), some (.int m), some (.ref D), v15, v16, none] ∧ (∀ b o, b ≠ eA → G10 b = some o → G b = some o) ∧ G eA = some (.lst (e.map V.int)) ∧ Fil n (openL n la) ws t e)
          ⟨_, _, _, rfl, fun _ _ _ h => h, heA10, Fil.zero⟩ (fun t σ G _ ⟨_, _, _, _, kE, _⟩ => SqL.of (kE _ _ nWA hW)) ?_ ?_⟩
        · rintro t _ σ G' _ ht ⟨v15', v16', e', rfl, kE, hE', hF'⟩ ⟨T2, x3, x4, rfl, nT2, rfl, e3, e4⟩
          cases Option.some.inj e3
          have e4 : (lv (openL n la))[t]? = some x4 := e4
          rw [lv_len] at ht
          have ht : t < (openL n la).length := ht
          obtain ⟨y, hy⟩ : ∃ y, (openL n la)[t]? = some y := ⟨_, List.getElem?_eq_getElem ht⟩
          obtain rfl : V.int (y : Nat) = x4 := by
            unfold lv at e4
            rw [List.getElem?_map, hy] at e4
            exact Option.some.inj e4
          have hyn : y < n := by
            have := List.mem_of_getElem? hy
            simp [openL] at this
            exact this.1
          obtain ⟨z, hz⟩ : ∃ z, ws[t]? = some z := ⟨_, List.getElem?_eq_getElem (by omega)⟩
          have sT2 := same_new (o := .tup [.int (t : Nat), .int (y : Nat)]) nT2
          have hET := sT2 _ _ hE'
          have hfrT := sT2 _ _ (kE _ _ nfrA hfr10)
          refine ⟨T2, [.int (t : Nat), .int (y : Nat)], rfl, SqT.of upd_same, rfl, .int (t : Nat), [.int (y : Nat)], rfl, .int (y : Nat), [], rfl, rfl, ?_⟩
          refine ⟨.ref D, rfl, .int (t : Nat), rfl, D, _, t, .int z, rfl, rfl, SqL.of hfrT, atI_nat (by rw [List.getElem?_map, hz]; rfl), .ref eA, rfl, .int (y : Nat), rfl, eA, _, y, y, rfl, rfl, hET, ixN_nat (by rw [List.length_map, hF'.len]; exact hyn), _, _, e'.set y z, rfl, fun b o hb ho => ?_, by rw [upd_same, List.map_set], hF'.step (open_asc n la) hy hyn hz (hwz z (List.mem_of_getElem? hz))⟩
          rw [upd_ne hb]
          exact sT2 _ _ (kE _ _ hb ho)
        · rintro σ G11 ⟨v15', v16', e', rfl, kE, hE', hF'⟩
          rw [lv_len] at hF'
          obtain ⟨hEV, hGE⟩ := hF'.done n1 laA (goal_all n1 em) hglen hws
          dsimp only [tNext]
          refine ⟨.ref eA, rfl, eA, _, rfl, .inl ⟨SqL.of hE', fun t nt => ?_⟩⟩
          have st := same_new (o := .tup (e'.map V.int)) nt
          have nFA := nA _ _ (s8 _ _ hFG)
          have hF12 := st _ _ (kE _ _ nFA (s10 _ _ (s89 _ _ hFG)))
          have ht12 : upd G11 t (.tup (e'.map V.int)) t = some (.tup (e'.map V.int)) := upd_same
          have keep : ∀ b o, b ≠ F → G b = some o → upd (upd G11 t (.tup (e'.map V.int))) F (.lst (acc.set a (.ref t))) b = some o := fun b o hb ho => by
            rw [upd_ne hb]
            exact st _ _ (kE _ _ (nA _ _ (s8 _ _ ho)) (s10 _ _ (s89 _ _ ho)))
          have ts : TS G (upd (upd G11 t (.tup (e'.map V.int))) F (.lst (acc.set a (.ref t)))) := fun b ys hb => keep _ _ (ne_of hb hFG (by intro z; cases z)) hb
          refine ⟨.ref F, rfl, .int a, rfl, F, acc, a, a, rfl, rfl, hF12, ixN_nat (by omega), _, _, _, _, _, _, _, _, _, _, acc.set a (.ref t), T'.set a e', rfl, fun b o hb ho => keep _ _ hb (k6 _ _ hb ho), upd_same, ?_, by rw [List.length_set]; exact hTl', hnext e' hEV hGE⟩
          rw [List.map_set]
          exact DqA.set (Dq.upT (TS.lst hF12) (ent_flat _) (ent_at ht12)) a (DqA.upT ts (ents_flat _) qac)
      · rintro σ G ⟨v5, v6, v7, v8, v9, v10, v13, v14, v15, v16, acc, T', rfl, k6, hFG, qac, hTl', h0, h1, h2⟩
        have okF := h2 rfl
        refine ⟨.ref F, rfl, F, acc, rfl, .inl ⟨SqL.of hFG, fun t nt => ?_⟩⟩
        have st := same_new (o := .tup acc) nt
        have DG : Deck G p l := by
          obtain ⟨ds, st, h1, h2, h3⟩ := D7.ex
          exact ⟨ds, st, k6 _ _ nFp.symm h1, k6 _ _ nFl.symm h2, h3⟩
        refine q _ _ T' (DG.up st) (fun b o hb => ?_) (.tup upd_same (qac.up st)) okF
        obtain ⟨g1, g2, g3⟩ := hid_some hb
        rw [hid_ne g1 g2]
        exact st _ _ (k6 _ _ (ne_of_none g3 hF0) (EH7.at_ g1 g2 g3))
end
end Kr
namespace Kr
open PySem PySem.Spec PyProof.Rows L2
section
variable {P : Program} {w : World} {K : PySem.W.Frag} {mg : Str → Option Value} {base : Heap}
theorem scWi : FnScope ["n", "row", "found", "rest", "k", "pair"] ["n", "row"] (defScope sLWithin) := ⟨rfl, rfl, rfl, by decide +kernel, rfl, by decide +kernel, by decide +kernel⟩
theorem o_within (D : Df K mg "_law_within" sLWithin ["n", "row"]) (B : Bi mg) (os : Ok P w K mg base 1 "_law_sum" ["one", "two"] spLSum) (ok : Ok P w K mg base 2 "_law_kind" ["n", "k"] spKind) : Ok P w K mg base 3 "_law_within" ["n", "row"] (spRowF witD) := by
  refine D.ok fun f fd F => F.ok scWi (fun vs H Q E h => ?_) (fun cdv A outer s H vs Q E hr h => ?_)
  · obtain ⟨n, v, r, rfl, _⟩ := h
    rfl
  · obtain ⟨n, v, r, rfl, hn2, hn, hl, hv, q⟩ := h
    have hr1 := hr.mono (show 1 ≤ 2 by decide)
    have hu : (cxOf CX0 P w K mg base ["n", "row", "found", "rest", "k", "pair"] "_law_within" (defScope sLWithin) f cdv A outer s H E).A.units + 64 < cLine := hr.units
    refine ⟨_, pss_cons (ps_par (i := 2) (j := 3) rfl scWi.nd rfl rfl (by decide) rfl rfl (pa_cons (pe_lst pa_nil) (pa_cons (pe_callTy call_tuple_of (by rfl) B.tuple (by decide +kernel) (pa_cons (pv 1) pa_nil)) pa_nil)) (by rfl))
      (pss_cons (ps_for PassesOwn.never rfl (pi_range1 (by rfl) B.range (pa_cons (pe_op op_sub (pv 0) pe_int) pa_nil)) (pg_name (i := 4) scWi.nd rfl (.inl rfl))
        (pss_one (ps_if (pt_cmpR (op_eqD hu) (pe_ix ix_tup (pv 3) (pv 4) (fun _ _ => rfl)) (pe_tup (pa_cons pe_int (pa_cons pe_int pa_nil))) (nomark _))
          (pss_cons (ps_expr (pe_bm PySem.F.plainAttrs_list PySem.F.slot_list_append PySem.F.type_list_append mt_append (pv 2) (pa_cons (pv 4) pa_nil)))
          (pss_one (ps_set (i := 3) scWi.nd rfl (.inl rfl) (pe_fn os hr1 (by rfl) (pa_cons (pv 3) (pa_cons (pe_fn ok hr (by rfl) (pa_cons (pv 0) (pa_cons (pv 4) pa_nil))) pa_nil))))))
          (pss_one (ps_if (pt_cmpR (op_neD hu) (pe_ix ix_tup (pv 3) (pv 4) (fun _ _ => rfl)) (pe_tup (pa_cons pe_int (pa_cons pe_int pa_nil))) (nomark _)) (pss_one (ps_ret pe_non)) pss_nil)))))
      (pss_one (ps_ret (pe_ifExp (pt_cmpR (op_eqN hu)
          (pe_lc (own := [("pair", 5)]) (g := gName 5) rfl scWi.nd (pi_tup (pv 3)) (blkOk_by (own := [("pair", 5)]) (N := ["n", "row", "found", "rest", "k", "pair"]) (sc := defScope sLWithin) (by decide +kernel))
            (fun _ _ _ _ _ => pg_name (i := 5) scWi.nd rfl (.inl rfl)) (fun _ _ _ _ _ => pts_one (pt_cmpR (r := rNeD K) (op_neD hu) (pv 5) (pe_tup (pa_cons pe_int (pa_cons pe_int pa_nil))) (nomark _))) (fun _ _ _ _ _ => pe_int)) (pe_lst pa_nil) (nomark _))
        (pe_callTy call_tuple_of (by rfl) B.tuple (by decide +kernel) (pa_cons (pv 2) pa_nil)) pe_non)))), ?_⟩
    obtain ⟨rv, rxs, rfl, hrv, hrq⟩ := row_inv hv
    refine ⟨by show 0 ≤ sizeLine; decide, fun c nc => ?_⟩
    have s0 := same_new (o := .lst []) nc
    refine ⟨.ref rv, rfl, rv, _, rfl, .inr ⟨SqT.of (s0 _ _ hrv), _, _, rfl, ?_⟩⟩
    refine ⟨.int n, rfl, _, _, rfl, rfl, (n : Int) - 1, rfl, by omega, by omega, ?_⟩
    have hm : ((n : Int) - 1).toNat = n - 1 := by omega
    rw [hm]
    refine for_it walk_rg (fun i σ H2 => ∃ (lv : V) (l : Row) (acc : List Int) (v4 : Option V), σ = [some (.int n), some (.ref rv), some (.ref c), some lv, v4, none] ∧ (∀ b o, H b = some o → H2 b = some o) ∧ H2 c = some (.lst (acc.map V.int)) ∧ Dq H2 lv (rowD l) ∧ l.length = n + 1 ∧ acc.length ≤ i ∧ witGo n (List.range (n - 1)) [] r = witGo n ((List.range (n - 1)).drop i) acc l)
      ⟨.ref rv, r, [], none, rfl, s0, upd_same, hv.up s0, hl, Nat.le_refl _, rfl⟩ (fun _ _ _ _ _ => trivial) ?_ ?_
    · rintro i x σ H2 H2' hi ⟨lv, l, acc, v4, rfl, sm, hc, hlv, hll, hacc, e⟩ ⟨rfl, rfl⟩
      obtain ⟨a, xs, rfl, ha, qa⟩ := row_inv hlv
      have hxl := pairs_len qa
      have hix : i < xs.length := by omega
      obtain ⟨p, hp, b, hb, kb⟩ := pairs_get qa (List.getElem?_eq_getElem hix)
      have hpr := atR_some hp
      rw [drop_range hi] at e
      have e2 : witGo n (i :: (List.range (n - 1)).drop (i + 1)) acc l = if atR l i = (false, true) then witGo n ((List.range (n - 1)).drop (i + 1)) (acc ++ [(i : Int)]) (addR l (kindR n i)) else if atR l i = (false, false) then witGo n ((List.range (n - 1)).drop (i + 1)) acc l else none := rfl
      rw [e2, hpr] at e
      have hpd := pair_at kb
      refine ⟨.ref a, rfl, .int i, rfl, a, xs, i, xs[i], rfl, rfl, SqT.of ha, atI_nat (List.getElem?_eq_getElem hix), by show 2 ≤ sizeLine; decide, fun t nt => ?_⟩
      have st := same_new (o := .tup [.int 0, .int 1]) nt
      have ht : Dq (upd H2' t (.tup [.int 0, .int 1])) (.ref t) (pairD (false, true)) := pair_at upd_same
      rw [hb]
      refine ⟨pairD p, pairD (false, true), (hpd.up st).dp (pair_flat _), ht.dp (pair_flat _), pair_shaped _, pair_shaped _, _, rfl, ?_⟩
      rw [pairD_inj]
      have sm3 : ∀ b o, H b = some o → upd H2' t (.tup [.int 0, .int 1]) b = some o := fun b o hb => st _ _ (sm _ _ hb)
      have hc3 := st _ _ hc
      have hlv3 := hlv.up st
      have ha3 := st _ _ ha
      have hpd3 := hpd.up st
      generalize upd H2' t (.tup [.int 0, .int 1]) = H3 at sm3 hc3 hlv3 ha3 hpd3
      refine ite2 (fun h2 => ?_) (fun h2 => ?_)
      · rw [if_pos (of_decide_eq_true h2)] at e
        refine ⟨.ref c, rfl, .inl ⟨rfl, _, SqL.of hc3⟩, .int i, rfl, c, _, _, rfl, rfl, hc3, szl (by rw [List.length_map]; omega), ?_⟩
        have hc4 : upd H3 c (.lst (acc.map V.int ++ [.int (i : Nat)])) c = some (.lst ((acc ++ [(i : Int)]).map V.int)) := by rw [upd_same, List.map_append]; rfl
        have hlv4 := hlv3.upT (TS.lst (ys := acc.map V.int ++ [.int (i : Nat)]) hc3) (row_flat l)
        have sm4 : ∀ b o, H b = some o → upd H3 c (.lst (acc.map V.int ++ [.int (i : Nat)])) b = some o := fun b o hb => by rw [upd_ne (ne_of_none hb nc)]; exact sm3 _ _ hb
        generalize upd H3 c (.lst (acc.map V.int ++ [.int (i : Nat)])) = H4 at hc4 hlv4 sm4
        refine ⟨.ref a, rfl, .int n, rfl, .int i, rfl, n, i, rfl, by omega, hn, fun H5 kv s5 hkv => ?_⟩
        refine ⟨.ref a, kv, l, kindR n i, n + 1, rfl, hll, kindR_len n i, by omega, hlv4.up s5, hkv, fun H6 v6 s6 hv6 => ?_⟩
        exact ⟨v6, addR l (kindR n i), acc ++ [(i : Int)], _, rfl, fun b o hb => s6 _ _ (s5 _ _ (sm4 _ _ hb)), s6 _ _ (s5 _ _ hc4), hv6, by rw [addR_len (by rw [hll, kindR_len]), kindR_len], by rw [List.length_append]; show _ + 1 ≤ _; omega, e⟩
      · rw [if_neg (fun z => h2 (decide_eq_true z))] at e
        refine ⟨.ref a, rfl, .int i, rfl, a, xs, i, xs[i], rfl, rfl, SqT.of ha3, atI_nat (List.getElem?_eq_getElem hix), by show 2 ≤ sizeLine; decide, fun t nt => ?_⟩
        have st := same_new (o := .tup [.int 0, .int 0]) nt
        have ht : Dq (upd H3 t (.tup [.int 0, .int 0])) (.ref t) (pairD (false, false)) := pair_at upd_same
        rw [hb]
        refine ⟨pairD p, pairD (false, false), (hpd3.up st).dp (pair_flat _), ht.dp (pair_flat _), pair_shaped _, pair_shaped _, _, rfl, ?_⟩
        rw [pairD_inj]
        have sm4 : ∀ b o, H b = some o → upd H3 t (.tup [.int 0, .int 0]) b = some o := fun b o hb => st _ _ (sm3 _ _ hb)
        by_cases hz : p = (false, false)
        · rw [if_pos hz] at e
          rw [decide_eq_true hz]
          exact iteF ⟨.ref a, l, acc, _, rfl, sm4, st _ _ hc3, hlv3.up st, hll, by omega, e⟩
        · rw [if_neg hz] at e
          rw [decide_eq_false hz]
          refine iteT ?_
          unfold witD at q
          rw [e] at q
          exact q _ _ sm4 .non
    · rintro σ H2 ⟨lv, l, acc, v4, rfl, sm, hc, hlv, hll, hacc, e⟩
      rw [List.drop_of_length_le (by rw [List.length_range]; exact Nat.le_refl _)] at e
      have e' : witGo n (List.range (n - 1)) [] r = some (acc, l) := e
      unfold witD at q
      rw [e'] at q
      dsimp only at q
      obtain ⟨a, xs, rfl, ha, qa⟩ := row_inv hlv
      have hxl := pairs_len qa
      refine ⟨.ref a, rfl, a, rfl, ⟨xs, SqT.of ha⟩, fun Da nDa => lc_tup (K := K) (xs := xs) (fun i G => ∃ zs : List V, G Da = some (.lst zs) ∧ Same H2 G ∧ zs.length ≤ i ∧ (zs.isEmpty = true ↔ ∀ p ∈ l.take i, p = (false, false)))
        ⟨[], upd_same, same_new nDa, Nat.le_refl _, by simp⟩ (fun i G _ ⟨_, _, sG, _⟩ => SqT.of (sG _ _ ha)) ?_ ?_⟩
      · rintro i y G hy ⟨zs, hDa, sG, hzl, hz⟩
        obtain ⟨p, hp, b, rfl, kb⟩ := pairs_get (qa.up sG) hy
        have hi := (List.getElem?_eq_some_iff.mp hp).1
        refine ⟨rfl, .ref b, rfl, by show 2 ≤ sizeLine; decide, fun t nt => ?_⟩
        have st := same_new (o := .tup [.int 0, .int 0]) nt
        refine ⟨pairD p, pairD (false, false), ((pair_at kb).up st).dp (pair_flat _), (pair_at (p := (false, false)) upd_same).dp (pair_flat _), pair_shaped _, pair_shaped _, _, rfl, ?_⟩
        rw [pairD_inj]
        have hta : l.take (i + 1) = l.take i ++ [p] := by rw [List.take_add_one, hp]; rfl
        by_cases hz2 : p = (false, false)
        · rw [decide_eq_true hz2]
          refine iteF ⟨zs, st _ _ hDa, sG.trans st, by omega, ?_⟩
          rw [hz, hta]
          constructor
          · intro g x hx
            rcases List.mem_append.mp hx with hx | hx
            · exact g x hx
            · rw [List.mem_singleton.mp hx]; exact hz2
          · exact fun g x hx => g x (List.mem_append_left _ hx)
        · rw [decide_eq_false hz2]
          refine iteT ⟨zs, st _ _ hDa, szl (by omega), zs ++ [.int 1], upd_same, fun b o hb => ?_, by rw [List.length_append]; show _ + 1 ≤ _; omega, ?_⟩
          · rw [upd_ne (ne_of_none hb nDa)]
            exact st _ _ (sG _ _ hb)
          · rw [hta]
            constructor
            · intro g
              simp at g
            · exact fun g => absurd (g p (List.mem_append_right _ (List.mem_singleton.mpr rfl))) hz2
      · rintro G ⟨zs, hDa, sG, hzl, hz⟩
        refine ⟨by show 0 ≤ sizeLine; decide, fun m nm => ?_⟩
        have st := same_new (o := .lst []) nm
        refine ⟨Da, m, zs, rfl, rfl, st _ _ hDa, upd_same, _, rfl, ?_⟩
        rw [hxl, List.take_length] at hz
        by_cases he : zs.isEmpty = true
        · rw [he]
          refine iteT ?_
          rw [if_pos ((zero_iff hll).mpr (hz.mp he))] at q
          exact ⟨.ref c, rfl, c, _, rfl, .inl ⟨SqL.of (st _ _ (sG _ _ hc)), fun t nt => q _ _ (fun b o hb => same_new nt _ _ (st _ _ (sG _ _ (sm _ _ hb)))) (.tup upd_same (DqA.ints acc))⟩⟩
        · rw [Bool.eq_false_iff.mpr he]
          refine iteF ?_
          rw [if_neg (fun z => he (hz.mpr ((zero_iff hll).mp z)))] at q
          exact q _ _ (fun b o hb => st _ _ (sG _ _ (sm _ _ hb))) .non
end
end Kr
namespace Kr
open PySem PySem.Spec PyProof.Rows L2
section
variable {P : Program} {w : World} {K : PySem.W.Frag} {mg : Str → Option Value} {base : Heap}
abbrev nLg : List Str := ["n", "table", "found", "at", "row", "own", "led_to", "turned", "entry", "to"]
theorem scLg : FnScope nLg ["n", "table"] (defScope sLSigns) := ⟨rfl, rfl, rfl, by decide +kernel, rfl, by decide +kernel, by decide +kernel⟩
def scopeLg : Scope := { kind := ScopeKind.function, names := [(".0", NameKind.local), ("entry", NameKind.local), ("_law_odd", NameKind.globalImplicit)], isGenerator := false, isCoroutine := false }
theorem o_lSigns (D0 : Df K mg "_law_signs" sLSigns ["n", "table"]) (B : Bi mg) (ll : Ok P w K mg base 1 "_law_lots" ["n"] spLLots) (le : Ok P w K mg base 1 "_law_end" ["entry"] spEnd) (od : Ok P w K mg base 1 "_law_odd" ["items"] spOdd) : Ok P w K mg base 2 "_law_signs" ["n", "table"] spSigns := by
  refine D0.ok fun f fd F => F.ok scLg (fun vs H Q E h => ?_) (fun cdv A outer s H vs Q E hr h => ?_)
  · obtain ⟨n, v, T, rfl, _⟩ := h
    rfl
  · obtain ⟨n, v, T, rfl, hn, hv, hT, q⟩ := h
    refine ⟨_, pss_cons (ps_par (i := 2) (j := 3) rfl scLg.nd rfl rfl (by decide) rfl rfl (pa_cons (pe_lst pa_nil) (pa_cons pe_int pa_nil)) (by rfl))
      (pss_cons (ps_for PassesOwn.never rfl (pi_list (pe_fn ll hr (by rfl) (pa_cons (pv 0) pa_nil))) (pg_name (i := 4) scLg.nd rfl (.inl rfl))
        (pss_cons (ps_set (i := 5) scLg.nd rfl (.inl rfl) (pe_slice sl_tupA (pv 1) (po_some (pv 3)) (po_some (pe_op op_add (pv 3) (pe_callB call_len_seq (by rfl) B.len boot_len (pa_cons (pv 4) pa_nil))))))
        (pss_cons (ps_set (i := 3) scLg.nd rfl (.inl rfl) (pe_op op_add (pv 3) (pe_callB call_len_seq (by rfl) B.len boot_len (pa_cons (pv 4) pa_nil))))
        (pss_cons (ps_setLc (i := 6) (own := [("entry", 8)]) (g := gName 8) (tt := tYes) rfl scLg.nd rfl rfl (sw_true rfl rfl rfl (by decide +kernel)) (pi_tup (pv 5)) (blkOk_by (own := [("entry", 8)]) (N := nLg) (sc := defScope sLSigns) (by decide +kernel))
            (fun _ _ _ _ _ => pg_name (i := 8) scLg.nd rfl (.inl rfl)) (fun _ _ _ _ _ => pts_nil) (fun _ _ _ _ _ => pe_fn le hr (by rfl) (pa_cons (pv 8) pa_nil)))
        (pss_cons (ps_set (i := 7) scLg.nd rfl (.inl rfl) (pe_callB (cr_sum rfl) (by rfl) B.sum (by decide +kernel) (pa_cons
            (pe_lc (te := tCall spOdd [] E0 (tCons (tLc (iTup K (tVar 8)) (gName 9) (tTest (tOp (rI0 fun i j => .bl (decide (i ≥ j))) (tVar 9) (tC (.int 0)))) (tVar 9) [9]) tNil)) (own := [("entry", 8)]) (g := gName 8) (tt := tYes) rfl scLg.nd (pi_tup (pv 5)) (blkOk_by (own := [("entry", 8)]) (N := nLg) (sc := defScope sLSigns) (by decide +kernel))
              (fun _ _ _ _ _ => pg_name (i := 8) scLg.nd rfl (.inl rfl)) (fun _ _ _ _ _ => pts_nil)
              (fun _ _ _ _ _ => by exact pe_fn od hr (by rfl) (pa_cons (pe_lc (own := [("to", 9)]) (g := gName 9) rfl scLg.nd (pi_tup (pv 8)) (blkOk_by (own := [("to", 9)]) (N := nLg) (sc := scopeLg) (by decide +kernel))
                (fun _ _ _ _ _ => pg_name (i := 9) scLg.nd rfl (.inl rfl)) (fun _ _ _ _ _ => pts_one (pt_cmpR op_ge (pv 9) pe_int (nomark _))) (fun _ _ _ _ _ => pv 9)) pa_nil))) pa_nil)))
        (pss_one (ps_expr (pe_bm PySem.F.plainAttrs_list PySem.F.slot_list_append PySem.F.type_list_append mt_append (pv 2) (pa_cons (pe_tup (pa_cons (pe_fn od hr (by rfl) (pa_cons (pv 6) pa_nil)) (pa_cons (pe_op op_mod (pe_callTy call_int1 (by rfl) B.int (by decide +kernel) (pa_cons (pv 7) pa_nil)) pe_int) pa_nil))) pa_nil)))))))))
      (pss_one (ps_ret (pe_callTy call_tuple_of (by rfl) B.tuple (by decide +kernel) (pa_cons (pv 2) pa_nil))))), ?_⟩
    obtain ⟨hTl, hTe, hT2, hTe2⟩ := hT.both_in hn
    refine ⟨by show 0 ≤ sizeLine; decide, fun fo nfo => ⟨_, _, rfl, ?_⟩⟩
    have s1 := same_new (o := .lst []) nfo
    have hfo : upd H fo (.lst []) fo = some (.lst []) := upd_same
    have nf : ∀ b o, H b = some o → b ≠ fo := fun b o hb => ne_of_none hb nfo
    generalize upd H fo (.lst []) = H1 at s1 hfo
    refine ⟨.int n, rfl, n, rfl, hn, fun H2 lv2 s2 hl2 => ?_⟩
    cases hl2 with
    | @lst L ls _ hL qL =>
    have s12 := s1.trans s2
    have hv2 := hv.up s12
    obtain ⟨va, xs, rfl, hva, qx⟩ := Dq.tup_inv hv2
    have hfo2 := s2 _ _ hfo
    have hll : ls.length = n + 1 := by rw [qL.len, List.length_map, List.length_range]
    have hxl : xs.length = 2 ^ n := by rw [qx.len, List.length_map, hT2]
    have nva : va ≠ fo := ne_of hva hfo2 (by intro z; cases z)
    have nL : L ≠ fo := fun z => by
      rw [z, hfo2] at hL
      cases hL
      simp at hll
    -- the rows' lists stand apart from the list that is filled
    have row_ : ∀ i, i < n + 1 → ∃ r rs, ls[i]? = some (.ref r) ∧ r ≠ fo ∧ H2 r = some (.lst rs) ∧ rs.length = ch n i := fun i hi => by
      obtain ⟨y, hy⟩ : ∃ y, ls[i]? = some y := ⟨_, List.getElem?_eq_getElem (by omega)⟩
      obtain ⟨d, hd, hdq⟩ := qL.get hy
      rw [List.getElem?_map, List.getElem?_range hi] at hd
      cases Option.some.inj hd
      cases hdq with
      | @lst r rs _ hr qr =>
      have hrl : rs.length = ch n i := by rw [qr.len, List.length_map, lots_len n (by omega) i (by omega)]
      refine ⟨r, rs, hy, fun z => ?_, hr, hrl⟩
      rw [z, hfo2] at hr
      cases hr
      have h2 : ∀ n : Nat, n < 7 → ∀ s : Nat, s < n + 1 → 0 < ch n s := by decide +kernel
      have := h2 n (by omega) i (by omega)
      simp at hrl
      omega
    refine ⟨L, rfl, ⟨ls, SqL.of hL⟩, for_it (walk_list (K := K) (a := L) (xs := ls)) (fun i σ G => ∃ (v4 v5 v6 v7 : Option V) (acc : List V), σ = [some (.int n), some (.ref va), some (.ref fo), some (.int (below n i : Nat)), v4, v5, v6, v7, none, none] ∧ (∀ b o, b ≠ fo → H2 b = some o → G b = some o) ∧ G fo = some (.lst acc) ∧ DqA G acc (((sgT n T).take i).map pairD))
      ⟨_, _, _, _, [], rfl, fun _ _ _ h => h, hfo2, .nil⟩ (fun i σ G _ ⟨_, _, _, _, _, _, k, _⟩ => SqL.of (k _ _ nL hL)) ?_ ?_⟩
    · rintro i x σ _ G hi ⟨v4, v5, v6, v7, acc, rfl, k, hG, qac⟩ ⟨rfl, hx⟩
      have hi1 : i < n + 1 := by omega
      obtain ⟨r, rs, hr1, nr, hr2, hrl⟩ := row_ i hi1
      rw [hx] at hr1
      cases Option.some.inj hr1
      have hrG := k _ _ nr hr2
      have hvaG := k _ _ nva hva
      have hfew : ch n i ≤ 64 := by
        have h1 := below_lt n (by omega) i (by omega)
        have h2 := all_few n (by omega)
        rw [all_len n (by omega)] at h2
        omega
      have hbl := below_lt n (by omega) i (by omega)
      refine ⟨.ref va, rfl, .int (below n i : Nat), rfl, (below n i : Nat), rfl, .int (below n i : Nat), rfl, .ref r, rfl, r, rs, rfl, .inl (SqL.of hrG), _, _, rfl, rfl, _, rfl, ?_⟩
      refine sliceA_k hvaG fun ow G1 s3 how => ?_
      have ecut : cutV xs (some ((below n i : Nat) : Int)) (some (((below n i : Nat) : Int) + ((rs.length : Nat) : Int))) = (xs.drop (below n i)).take (ch n i) := by
        unfold cutV
        rw [HT.sIx_nat, show (((below n i : Nat) : Int) + ((rs.length : Nat) : Int)) = ((below n i + ch n i : Nat) : Int) by omega, HT.sIx_nat, hxl, Nat.min_eq_left (by omega), Nat.min_eq_left (by omega), show below n i + ch n i - below n i = ch n i by omega]
      rw [ecut] at how
      have qow : DqA G1 ((xs.drop (below n i)).take (ch n i)) (((lotsL n i).map (en n T)).map entD) := by
        have h1 : DqA G1 xs (T.map entD) := by
          refine DqA.upT (fun b ys hb => ?_) (ents_flat _) qx
          exact s3 _ _ (k _ _ (ne_of hb hfo2 (by intro z; cases z)) hb)
        have h2 := h1.cut (below n i) (ch n i)
        rw [← List.map_drop, ← List.map_take, hT.cut hn (by omega)] at h2
        exact h2
      have hrG1 := s3 _ _ hrG
      have hG1 := s3 _ _ hG
      have qac1 := qac.up s3
      have k1 : ∀ b o, b ≠ fo → H2 b = some o → G1 b = some o := fun b o hb ho => s3 _ _ (k _ _ hb ho)
      generalize hows : (xs.drop (below n i)).take (ch n i) = ows at how qow
      have howl : ows.length = ch n i := by rw [qow.len, List.length_map, List.length_map, lots_len n (by omega) i (by omega)]
      have mem : ∀ l ∈ lotsL n i, l ∈ allL n := own_all n (by omega) i (by omega)
      clear qac k hG hvaG hrG s3
      dsimp only [tNext]
      refine ⟨.int (below n i : Nat), rfl, .ref r, rfl, r, rs, rfl, .inl (SqL.of hrG1), _, _, rfl, rfl, ?_⟩
      have eb : ((below n i : Nat) : Int) + ((rs.length : Nat) : Int) = ((below n (i + 1) : Nat) : Int) := by rw [below_succ, hrl]; omega
      dsimp only
      rw [eb]
      refine ⟨.ref ow, rfl, ow, rfl, ⟨_, SqT.of how⟩, fun D nD => ?_⟩
      refine lc_itF (walk_tup (K := K) (a := ow) (xs := ows)) (fun j => lotD (goalE n (en n T ((lotsL n i).getD j [])))) nD (by omega) (fun _ _ => lot_flat _) (fun G s => SqT.of (s _ _ how)) (fun j y G2 G2' C Cn hj s4 hy c => ?_) (fun G2 us s4 hD qb => ?_)
      · obtain ⟨rfl, hy⟩ := hy
        obtain ⟨e, he, ea, rfl, hea⟩ := ents_get qow hy
        rw [List.getElem?_map] at he
        cases hl : (lotsL n i)[j]? with
        | none => rw [hl] at he; cases he
        | some l =>
        rw [hl] at he
        cases Option.some.inj he
        rw [getD_of hl] at c
        have hel := (hT.ent hn (mem l (List.mem_of_getElem? hl))).len
        refine ⟨rfl, ?_⟩
        dsimp only [tYes]
        rw [if_pos rfl]
        exact ⟨.ref ea, rfl, ea, _, rfl, s4 _ _ hea, by omega, fun H' t s' ht => c _ _ s' (lot_at (by rw [ht, hel]))⟩
      rw [howl, ← lots_len n (by omega) i (by omega), map_getD (fun l => lotD (goalE n (en n T l)))] at qb
      have how2 := s4 _ _ how
      have hG2 := s4 _ _ hG1
      have qow2 := qow.up s4
      have qac2 := qac1.up s4
      dsimp only [tNext]
      refine ⟨.ref ow, rfl, ow, rfl, ⟨_, SqT.of how2⟩, fun D2 nD2 => ?_⟩
      refine lc_itF (walk_tup (K := K) (a := ow) (xs := ows)) (fun j => .int (bi (sgI (ridE (en n T ((lotsL n i).getD j [])))))) nD2 (by omega) (fun _ _ => rfl) (fun G s => SqT.of (s _ _ how2)) (fun j y G3 G3' C Cn hj s5 hy c => ?_) (fun G3 bs s5 hD2 qb2 => ?_)
      · obtain ⟨rfl, hy⟩ := hy
        obtain ⟨e, he, ea, rfl, hea⟩ := ents_get qow2 hy
        rw [List.getElem?_map] at he
        cases hl : (lotsL n i)[j]? with
        | none => rw [hl] at he; cases he
        | some l =>
        rw [hl] at he
        cases Option.some.inj he
        rw [getD_of hl] at c
        have hE := hT.ent hn (mem l (List.mem_of_getElem? hl))
        have hel := hE.len
        rw [← hE.rid_pos] at c
        generalize en n T l = e at c hea hel
        refine ⟨rfl, ?_⟩
        dsimp only [tYes]
        rw [if_pos rfl]
        refine ⟨.ref ea, rfl, ea, rfl, ⟨_, SqT.of (s5 _ _ hea)⟩, fun D3 nD3 => ?_⟩
        have hea5 := s5 _ _ hea
        refine lc_it (walk_tup (K := K) (a := ea) (xs := e.map V.int)) (fun t G4 => G4 D3 = some (.lst (((e.take t).filter fun x => decide (0 ≤ x)).map V.int)) ∧ Same G3' G4) ⟨upd_same, same_new nD3⟩ (fun _ _ _ ⟨_, s6⟩ => SqT.of (s6 _ _ hea5)) ?_ ?_
        · rintro t x _ G4 ht ⟨hD3, s6⟩ ⟨rfl, hx⟩
          rw [List.length_map] at ht
          have ex : x = .int (e.getD t 0) := by
            rw [List.getElem?_map, getD_get ht] at hx
            exact (Option.some.inj hx).symm
          subst ex
          have er : (e.take (t + 1)).filter (fun x => decide (0 ≤ x)) = (e.take t).filter (fun x => decide (0 ≤ x)) ++ (if 0 ≤ e.getD t 0 then [e.getD t 0] else []) := by
            rw [List.take_add_one, getD_get ht, List.filter_append]
            generalize e.getD t 0 = z
            by_cases hm : 0 ≤ z
            · rw [if_pos hm]
              simp [hm]
            · rw [if_neg hm]
              simp [hm]
          rw [er]
          generalize e.getD t 0 = z
          refine ⟨rfl, .int z, rfl, _, _, rfl, rfl, _, rfl, ?_⟩
          by_cases hz : 0 ≤ z
          · rw [decide_eq_true (show z ≥ 0 from hz), if_pos hz]
            refine iteT ⟨_, rfl, _, hD3, szm ?_, ?_, fun b o hb => ?_⟩
            · rw [List.length_map]
              have := List.length_filter_le (fun x => decide (0 ≤ x)) (e.take t)
              rw [List.length_take] at this
              omega
            · rw [upd_same, List.map_append]
              rfl
            · rw [upd_ne (ne_of_none hb nD3)]
              exact s6 _ _ hb
          · rw [decide_eq_false (show ¬ z ≥ 0 from hz), if_neg hz, List.append_nil]
            exact iteF ⟨hD3, s6⟩
        · rintro G4 ⟨hD3, s6⟩
          rw [List.length_map, List.take_length] at hD3
          have hfl := List.length_filter_le (fun x => decide (0 ≤ x)) e
          exact ⟨D3, _, e.filter fun x => decide (0 ≤ x), rfl, hD3, List.length_map _, by omega, gt_ints, fun H' s7 => c _ _ (s6.trans s7) (.int _)⟩
      rw [howl, ← lots_len n (by omega) i (by omega), map_getD (fun l => PyData.int (bi (sgI (ridE (en n T l)))))] at qb2
      have ebs : bs = (((lotsL n i).map (en n T)).map fun e => bi (sgI (ridE e))).map V.int := dqa_int (by rw [List.map_map, List.map_map]; exact qb2)
      subst ebs
      refine ⟨D2, _, rfl, SqL.of hD2, ?_⟩
      have hG3 := s5 _ _ hG2
      have qac3 := qac2.up s5
      have hD3 := s5 _ _ hD
      have qb3 := qb.up s5
      have hlg : ∀ l ∈ (lotsL n i).map fun l => goalE n (en n T l), l ∈ lotsL n i := fun g hg => (hT.size_perm hn (s := i) (by omega)).subset hg
      have eus : ((lotsL n i).map fun l => lotD (goalE n (en n T l))) = ((lotsL n i).map fun l => goalE n (en n T l)).map lotD := by rw [List.map_map]; rfl
      rw [eus] at qb3
      dsimp only [tNext]
      refine ⟨.ref fo, rfl, .inl ⟨rfl, _, SqL.of hG3⟩, .ref D, rfl, D, us, ((lotsL n i).map fun l => goalE n (en n T l)).map fun l => ((num n l : Nat) : Int), rfl, hD3, by rw [qb3.len]; simp only [List.length_map], by rw [List.length_map, List.length_map, lots_len n (by omega) i (by omega)]; omega, gt_lots hn (by omega) qb3 hlg, fun G5 s7 => ?_⟩
      refine ⟨.int _, rfl, .inl ⟨_, rfl, _, _, rfl, rfl, (by show (0 : Int) < 2; decide), ?_⟩⟩
      dsimp only
      rw [sgR_sum]
      refine ⟨by show 2 ≤ sizeLine; decide, fun t nt => ?_⟩
      have e1 : (((lotsL n i).map fun l => goalE n (en n T l)).map fun l => ((num n l : Nat) : Int)) = (lotsL n i).map fun l => ((num n (goalE n (en n T l)) : Nat) : Int) := by rw [List.map_map]; rfl
      rw [e1]
      have st := same_new (o := .tup [.int (bi (sgI ((lotsL n i).map fun l => ((num n (goalE n (en n T l)) : Nat) : Int)))), .int (bi (sgR ((lotsL n i).map (en n T))))]) nt
      have hG6 := st _ _ (s7 _ _ hG3)
      have acl : acc.length ≤ 1000 := by
        rw [qac3.len, List.length_map, List.length_take]
        omega
      have hrow : (sgT n T)[i]? = some (sgI ((lotsL n i).map fun l => ((num n (goalE n (en n T l)) : Nat) : Int)), sgR ((lotsL n i).map (en n T))) := by
        unfold sgT
        rw [List.getElem?_map, List.getElem?_range hi1]
        rfl
      refine ⟨fo, acc, .ref t, rfl, rfl, hG6, szl (by omega), _, _, _, _, acc ++ [.ref t], rfl, fun b o hb ho => ?_, upd_same, ?_⟩
      · rw [upd_ne hb]
        exact st _ _ (s7 _ _ (s5 _ _ (s4 _ _ (k1 _ _ hb ho))))
      · rw [take_snoc hrow]
        refine dqa_snoc (DqA.upT (TS.lst hG6) (pairs_flat _) ((qac3.up s7).up st)) (Dq.upT (TS.lst hG6) (pair_flat _) (pair_at upd_same))
    · rintro σ G ⟨v4, v5, v6, v7, acc, rfl, k, hG, qac⟩
      rw [List.take_of_length_le (by rw [sgT_len]; omega)] at qac
      exact ⟨.ref fo, rfl, fo, acc, rfl, .inl ⟨SqL.of hG, fun t nt => q _ _ (fun b' o hb => same_new nt _ _ (k _ _ (nf _ _ hb) (s12 _ _ hb))) (.tup upd_same (qac.up (same_new nt)))⟩⟩
end
end Kr
namespace Kr
open PySem PySem.Spec PyProof.Rows L2
section
variable {P : Program} {w : World} {K : PySem.W.Frag} {mg : Str → Option Value} {base : Heap}
abbrev nSi : List Str := ["n", "table", "aims", "row", "size", "numbers", "s", "number"]
theorem scSi : FnScope nSi ["n", "table"] (defScope sSignsOf) := ⟨rfl, rfl, rfl, by decide +kernel, rfl, by decide +kernel, by decide +kernel⟩
theorem f_signs {f : Addr} {fd : FuncData} (F : Fun K "signs_of" "signs_of" sSignsOf f fd) (B : Bi mg) (ai : Ok P w K mg base 4 "aims_of" ["n", "table"] spAims) (nu : Ok P w K mg base 2 "numbers_of" ["n", "size"] spNumsOf) (so : Ok P w K mg base 1 "sign_of" ["ways"] spSign) (ca : Ok P w K mg base 2 "carryings_sign" ["entries"] spCarry) :
    FnOk P w K mg base CX0 5 f fd ["n", "table"] spSigns := by
  refine F.ok scSi (fun vs H Q E h => ?_) (fun cdv A outer s H vs Q E hr h => ?_)
  · obtain ⟨n, v, T, rfl, _⟩ := h
    rfl
  · obtain ⟨n, v, T, rfl, hn, hv, hT, q⟩ := h
    have hr1 := hr.mono (show 1 ≤ 4 by decide)
    have hr2 := hr.mono (show 2 ≤ 4 by decide)
    refine ⟨_, pss_cons (ps_set (i := 2) scSi.nd rfl (.inr rfl) (pe_fn ai hr (by rfl) (pa_cons (pv 0) (pa_cons (pv 1) pa_nil))))
      (pss_cons (ps_set (i := 3) scSi.nd rfl (.inl rfl) (pe_lst pa_nil))
      (pss_cons (ps_for PassesOwn.never rfl (pi_range1 (by rfl) B.range (pa_cons (pe_op op_add (pv 0) pe_int) pa_nil)) (pg_name (i := 4) scSi.nd rfl (.inl rfl))
        (pss_cons (ps_set (i := 5) scSi.nd rfl (.inl rfl) (pe_fn nu hr2 (by rfl) (pa_cons (pv 0) (pa_cons (pv 4) pa_nil))))
        (pss_cons (ps_set (i := 6) scSi.nd rfl (.inl rfl) (pe_fn so hr1 (by rfl) (pa_cons
          (pe_lc (own := [("number", 7)]) (g := gName 7) (tt := tYes) rfl scSi.nd (pi_list (pv 5)) (blkOk_by (own := [("number", 7)]) (N := nSi) (sc := defScope sSignsOf) (by decide +kernel))
            (fun _ _ _ _ _ => pg_name (i := 7) scSi.nd rfl (.inl rfl)) (fun _ _ _ _ _ => pts_nil) (fun _ _ _ _ _ => pe_ix (r := rIxL K) ix_list (pv 2) (pv 7) (fun _ _ => rfl))) pa_nil)))
        (pss_one (ps_expr (pe_bm PySem.F.plainAttrs_list PySem.F.slot_list_append PySem.F.type_list_append mt_append (pv 3) (pa_cons (pe_tup (pa_cons (pv 6) (pa_cons (pe_fn ca hr2 (by rfl) (pa_cons
          (pe_lc (own := [("number", 7)]) (g := gName 7) (tt := tYes) rfl scSi.nd (pi_list (pv 5)) (blkOk_by (own := [("number", 7)]) (N := nSi) (sc := defScope sSignsOf) (by decide +kernel))
            (fun _ _ _ _ _ => pg_name (i := 7) scSi.nd rfl (.inl rfl)) (fun _ _ _ _ _ => pts_nil) (fun _ _ _ _ _ => pe_ix (r := rIxT K) ix_tup (pv 1) (pv 7) (fun _ _ => rfl))) pa_nil)) pa_nil))) pa_nil)))))))
      (pss_one (ps_ret (pe_callTy call_tuple_of (by rfl) B.tuple (by decide +kernel) (pa_cons (pv 3) pa_nil)))))), ?_⟩
    obtain ⟨hTl, hTe, hT2, hTe2⟩ := hT.both_in hn
    refine ⟨.int n, rfl, v, rfl, n, v, T, rfl, hn, hv, hTl, fun e he => (hTe e he).1, fun H1 ad s1 nad had => ?_⟩
    have hv1 := hv.up s1
    obtain ⟨va, xs, rfl, hva, qx⟩ := Dq.tup_inv hv1
    refine ⟨by show 0 ≤ sizeLine; decide, fun ro nro => ?_⟩
    have s2 := same_new (o := .lst []) nro
    have hro : upd H1 ro (.lst []) ro = some (.lst []) := upd_same
    have nf : ∀ b o, H1 b = some o → b ≠ ro := fun b o hb => ne_of_none hb nro
    have had2 := s2 _ _ had
    have hva2 := s2 _ _ hva
    have qx2 := qx.up s2
    have nad2 := nf _ _ had
    have nva2 := nf _ _ hva
    generalize upd H1 ro (.lst []) = H2 at s2 hro had2 hva2 qx2
    refine ⟨.int n, rfl, _, _, rfl, rfl, (n : Int) + 1, rfl, by omega, by omega, ?_⟩
    rw [show ((n : Int) + 1).toNat = n + 1 by omega]
    refine for_it (walk_rg (n := n + 1)) (fun i σ G => ∃ (v4 v5 v6 : Option V) (acc : List V), σ = [some (.int n), some (.ref va), some (.ref ad), some (.ref ro), v4, v5, v6, none] ∧ (∀ b o, b ≠ ro → H2 b = some o → G b = some o) ∧ G ro = some (.lst acc) ∧ DqA G acc (((sgT n T).take i).map pairD))
      ⟨_, _, _, [], rfl, fun _ _ _ h => h, hro, .nil⟩ (fun _ _ _ _ _ => trivial) ?_ ?_
    · rintro i x σ _ G hi ⟨v4, v5, v6, acc, rfl, k, hG, qac⟩ ⟨rfl, rfl⟩
      refine ⟨.int n, rfl, .int i, rfl, n, i, rfl, hn, by omega, fun G1 nl s3 nnl hnl => ?_⟩
      have hlen : (lotsL n i).length = ch n i := lots_len n (by omega) i (by omega)
      have hfew : ch n i ≤ 64 := by
        have h1 := below_lt n (by omega) i (by omega)
        have h2 := all_few n (by omega)
        rw [all_len n (by omega)] at h2
        omega
      have had3 := s3 _ _ (k _ _ nad2 had2)
      have hva3 := s3 _ _ (k _ _ nva2 hva2)
      have hG1 := s3 _ _ hG
      have nnlr : nl ≠ ro := (ne_of_none hG nnl).symm
      -- the number at a spot is that of the lot there
      have at_ : ∀ j, j < ch n i → ∃ l, (lotsL n i)[j]? = some l ∧ l ∈ allL n ∧ ((numsL n i).map V.int)[j]? = some (.int (num n l : Nat)) := fun j hj => by
        have hj2 : j < (lotsL n i).length := by omega
        refine ⟨(lotsL n i)[j], List.getElem?_eq_getElem hj2, own_all n (by omega) i (by omega) _ (List.getElem_mem hj2), ?_⟩
        have e1 : ((lotsL n i).map (num n))[j]? = some (num n (lotsL n i)[j]) := by rw [List.getElem?_map, List.getElem?_eq_getElem hj2]; rfl
        rw [nums_lots n (by omega) i (by omega), List.getElem?_map, List.getElem?_range hj] at e1
        unfold numsL
        rw [List.getElem?_map, List.getElem?_map, List.getElem?_range hj]
        have e2 := Option.some.inj e1
        show some (V.int ((below n i + j : Nat) : Int)) = _
        rw [← e2]
      dsimp only [tNext]
      refine ⟨.ref nl, rfl, nl, rfl, ⟨_, SqL.of hnl⟩, fun D nD => ?_⟩
      have hnll : ((numsL n i).map V.int).length = ch n i := by unfold numsL; rw [List.length_map, List.length_map, List.length_range]
      refine lc_itF (walk_list (K := K) (a := nl) (xs := (numsL n i).map V.int)) (fun j => .int ((num n (goalE n (en n T ((lotsL n i).getD j []))) : Nat) : Int)) nD (by omega) (fun _ _ => rfl) (fun G s => SqL.of (s _ _ hnl)) (fun j x G2 G2' C Cn hj s4 y c => ?_) (fun G2 bs s4 hD qb => ?_)
      · obtain ⟨rfl, hx⟩ := y
        rw [hnll] at hj
        obtain ⟨l, hl, hla, hln⟩ := at_ j hj
        rw [hln] at hx
        cases hx
        rw [getD_of hl] at c
        refine ⟨rfl, ?_⟩
        dsimp only [tYes]
        rw [if_pos rfl]
        refine ⟨.ref ad, rfl, .int (num n l : Nat), rfl, ad, _, (num n l : Nat), .int ((num n (goalE n (en n T l)) : Nat) : Int), rfl, rfl, SqL.of (s4 _ _ had3), atI_nat ?_, c _ _ (Same.refl _) (.int _)⟩
        unfold aimsT
        rw [List.getElem?_map, List.getElem?_map, hT.get hn hla]
        rfl
      rw [hnll, ← hlen, map_getD (fun l => PyData.int ((num n (goalE n (en n T l)) : Nat) : Int))] at qb
      have ebs : bs = ((lotsL n i).map fun l => ((num n (goalE n (en n T l)) : Nat) : Int)).map V.int := dqa_int (by rw [List.map_map]; exact qb)
      subst ebs
      refine ⟨D, _, rfl, hD, by rw [List.length_map]; omega, fun G3 s5 => ?_⟩
      have s45 := Same.trans s4 s5
      have hG3 := s45 _ _ hG1
      have hnl3 := s45 _ _ hnl
      have hva4 := s45 _ _ hva3
      have had4 := s45 _ _ had3
      have qxG : DqA G3 xs (T.map entD) := by
        refine DqA.upT (fun b ys hb => ?_) (ents_flat _) qx2
        exact s45 _ _ (s3 _ _ (k _ _ (ne_of hb hro (by intro z; cases z)) hb))
      have qacG := (qac.up s3).up s45
      have k3 : ∀ b o, b ≠ ro → H2 b = some o → G3 b = some o := fun b o hb ho => s45 _ _ (s3 _ _ (k _ _ hb ho))
      clear qb hD nD s4 s5
      dsimp only [tNext]
      refine ⟨.ref ro, rfl, .inl ⟨rfl, _, SqL.of hG3⟩, .int (bi (sgI ((lotsL n i).map fun l => ((num n (goalE n (en n T l)) : Nat) : Int)))), rfl, .ref nl, rfl, nl, rfl, ⟨_, SqL.of hnl3⟩, fun D nD => ?_⟩
      refine lc_itF (walk_list (K := K) (a := nl) (xs := (numsL n i).map V.int)) (fun j => entD (en n T ((lotsL n i).getD j []))) nD (by omega) (fun _ _ => ent_flat _) (fun G s => SqL.of (s _ _ hnl3)) (fun j x G4 G4' C Cn hj s6 y c => ?_) (fun G4 us s6 hD qb => ?_)
      · obtain ⟨rfl, hx⟩ := y
        rw [hnll] at hj
        obtain ⟨l, hl, hla, hln⟩ := at_ j hj
        rw [hln] at hx
        cases hx
        rw [getD_of hl] at c
        have hTg := hT.get hn hla
        obtain ⟨ev, hev⟩ : ∃ ev, xs[num n l]? = some ev := ⟨_, List.getElem?_eq_getElem (by rw [qxG.len, List.length_map, hT2]; exact all_num hn hla)⟩
        obtain ⟨e', he', ea, rfl, hea⟩ := ents_get qxG hev
        rw [hTg] at he'
        cases he'
        refine ⟨rfl, ?_⟩
        dsimp only [tYes]
        rw [if_pos rfl]
        exact ⟨.ref va, rfl, .int (num n l : Nat), rfl, va, _, (num n l : Nat), .ref ea, rfl, rfl, SqT.of (s6 _ _ hva4), atI_nat hev, c _ _ (Same.refl _) (ent_at (s6 _ _ hea))⟩
      rw [hnll, ← hlen, map_getD (fun l => entD (en n T l))] at qb
      refine ⟨D, us, (lotsL n i).map (en n T), rfl, hD, by rw [List.map_map]; exact qb, by rw [List.length_map]; omega, fun e he => ?_, fun G5 s7 => ?_⟩
      · obtain ⟨l, hl, rfl⟩ := List.mem_map.mp he
        rw [(hT.ent hn (own_all n (by omega) i (by omega) l hl)).len]
        omega
      have s67 := Same.trans s6 s7
      have hG5 := s67 _ _ hG3
      refine ⟨by show 2 ≤ sizeLine; decide, fun t nt => ?_⟩
      have st := same_new (o := .tup [.int (bi (sgI ((lotsL n i).map fun l => ((num n (goalE n (en n T l)) : Nat) : Int)))), .int (bi (sgR ((lotsL n i).map (en n T))))]) nt
      have hG6 := st _ _ hG5
      have acl : acc.length ≤ 1000 := by
        rw [qacG.len, List.length_map, List.length_take]
        omega
      have hrow : (sgT n T)[i]? = some (sgI ((lotsL n i).map fun l => ((num n (goalE n (en n T l)) : Nat) : Int)), sgR ((lotsL n i).map (en n T))) := by
        unfold sgT
        rw [List.getElem?_map, List.getElem?_range hi]
        rfl
      refine ⟨ro, acc, .ref t, rfl, rfl, hG6, szl (by omega), _, _, _, acc ++ [.ref t], rfl, fun b o hb ho => ?_, upd_same, ?_⟩
      · rw [upd_ne hb]
        exact st _ _ (s67 _ _ (k3 _ _ hb ho))
      · rw [take_snoc hrow]
        refine dqa_snoc (DqA.upT (TS.lst hG6) (pairs_flat _) ((qacG.up s67).up st)) (Dq.upT (TS.lst hG6) (pair_flat _) (pair_at upd_same))
    · rintro σ G ⟨v4, v5, v6, acc, rfl, k, hG, qac⟩
      rw [List.take_of_length_le (by unfold sgT; rw [List.length_map, List.length_range]; omega)] at qac
      exact ⟨.ref ro, rfl, ro, acc, rfl, .inl ⟨SqL.of hG, fun t nt => q _ _ (fun b' o hb => same_new nt _ _ (k _ _ (nf _ _ (s1 _ _ hb)) (s2 _ _ (s1 _ _ hb)))) (.tup upd_same (qac.up (same_new nt)))⟩⟩
end
end Kr
namespace Kr
open PySem PySem.Spec PyProof.Rows L2
section
variable {P : Program} {w : World} {K : PySem.W.Frag} {mg : Str → Option Value} {base : Heap}
theorem scKI : FnScope ["n", "row", "kinds", "left", "k"] ["n", "row"] (defScope sKindsIn) := ⟨rfl, rfl, rfl, by decide +kernel, rfl, by decide +kernel, by decide +kernel⟩
theorem f_kindsIn {f : Addr} {fd : FuncData} (F : Fun K "kinds_in" "kinds_in" sKindsIn f fd) (B : Bi mg) (os : Ok P w K mg base 1 "sum_of_rows" ["n", "rows"] spSums) (ok : Ok P w K mg base 2 "kind_signs" ["n", "k"] spKind) : FnOk P w K mg base CX0 3 f fd ["n", "row"] (spRowF kinD) := by
  refine F.ok scKI (fun vs H Q E h => ?_) (fun cdv A outer s H vs Q E hr h => ?_)
  · obtain ⟨n, v, r, rfl, _⟩ := h
    rfl
  · obtain ⟨n, v, r, rfl, hn2, hn, hl, hv, q⟩ := h
    have hr1 := hr.mono (show 1 ≤ 2 by decide)
    have hu : (cxOf CX0 P w K mg base ["n", "row", "kinds", "left", "k"] "kinds_in" (defScope sKindsIn) f cdv A outer s H E).A.units + 64 < cLine := hr.units
    refine ⟨_, pss_cons (ps_set (i := 2) scKI.nd rfl (.inl rfl) (pe_lst pa_nil))
      (pss_cons (ps_set (i := 3) scKI.nd rfl (.inl rfl) (pv 1))
      (pss_cons (ps_for PassesOwn.never rfl (pi_range1 (by rfl) B.range (pa_cons (pe_op op_sub (pv 0) pe_int) pa_nil)) (pg_name (i := 4) scKI.nd rfl (.inl rfl))
        (pss_one (ps_if (pt_cmpR op_eq (pe_ix ix_tup (pe_ix ix_tup (pv 3) (pv 4) (fun _ _ => rfl)) pe_int (fun _ _ => rfl)) pe_int (nomark _))
          (pss_cons (ps_expr (pe_bm PySem.F.plainAttrs_list PySem.F.slot_list_append PySem.F.type_list_append mt_append (pv 2) (pa_cons (pv 4) pa_nil)))
          (pss_one (ps_set (i := 3) scKI.nd rfl (.inl rfl) (pe_fn os hr1 (by rfl) (pa_cons (pv 0) (pa_cons (pe_lst (pa_cons (pv 3) (pa_cons (pe_fn ok hr (by rfl) (pa_cons (pv 0) (pa_cons (pv 4) pa_nil))) pa_nil))) pa_nil))))))
          pss_nil)))
      (pss_one (ps_ret (pe_ifExp (pt_cmpR (op_eqD hu) (pv 3) (pe_fn os hr1 (by rfl) (pa_cons (pv 0) (pa_cons (pe_lst pa_nil) pa_nil))) (nomark _)) (pe_callTy call_tuple_of (by rfl) B.tuple (by decide +kernel) (pa_cons (pv 2) pa_nil)) pe_non))))), ?_⟩
    refine ⟨by show 0 ≤ sizeLine; decide, fun c nc => ⟨v, rfl, ?_⟩⟩
    have s0 := same_new (o := .lst []) nc
    refine ⟨.int n, rfl, _, _, rfl, rfl, (n : Int) - 1, rfl, by omega, by omega, ?_⟩
    have hm : ((n : Int) - 1).toNat = n - 1 := by omega
    rw [hm]
    refine for_it walk_rg (fun i σ H2 => ∃ (lv : V) (l : Row) (acc : List Int) (v4 : Option V), σ = [some (.int n), some v, some (.ref c), some lv, v4] ∧ (∀ b o, H b = some o → H2 b = some o) ∧ H2 c = some (.lst (acc.map V.int)) ∧ Dq H2 lv (rowD l) ∧ l.length = n + 1 ∧ acc.length ≤ i ∧ kinGo n (List.range (n - 1)) [] r = kinGo n ((List.range (n - 1)).drop i) acc l)
      ⟨v, r, [], none, rfl, s0, upd_same, hv.up s0, hl, Nat.le_refl _, rfl⟩ (fun _ _ _ _ _ => trivial) ?_ ?_
    · rintro i x σ H2 H2' hi ⟨lv, l, acc, v4, rfl, sm, hc, hlv, hll, hacc, e⟩ ⟨rfl, rfl⟩
      obtain ⟨a, xs, rfl, ha, qa⟩ := row_inv hlv
      have hxl := pairs_len qa
      have hix : i < xs.length := by omega
      obtain ⟨p, hp, b, hb, kb⟩ := pairs_get qa (List.getElem?_eq_getElem hix)
      have hpr := atR_some hp
      rw [drop_range hi] at e
      have e2 : kinGo n (i :: (List.range (n - 1)).drop (i + 1)) acc l = if (atR l i).2 = true then kinGo n ((List.range (n - 1)).drop (i + 1)) (acc ++ [(i : Int)]) (addR l (kindR n i)) else kinGo n ((List.range (n - 1)).drop (i + 1)) acc l := rfl
      rw [e2, hpr] at e
      refine ⟨.ref a, rfl, .int i, rfl, a, xs, i, xs[i], rfl, rfl, SqT.of ha, atI_nat (List.getElem?_eq_getElem hix), b, _, 1, .int (bi p.2), hb, rfl, SqT.of kb, rfl, rfl, _, rfl, ?_⟩
      rw [biV_one]
      refine ite2 (fun h2 => ?_) (fun h2 => ?_)
      · rw [if_pos h2] at e
        refine ⟨.ref c, rfl, .inl ⟨rfl, _, SqL.of hc⟩, .int i, rfl, c, _, _, rfl, rfl, hc, szl (by rw [List.length_map]; omega), ?_⟩
        have hc3 : upd H2' c (.lst (acc.map V.int ++ [.int (i : Nat)])) c = some (.lst ((acc ++ [(i : Int)]).map V.int)) := by rw [upd_same, List.map_append]; rfl
        have t3 : TS H2' (upd H2' c (.lst (acc.map V.int ++ [.int (i : Nat)]))) := TS.lst hc
        have hlv3 := hlv.upT t3 (row_flat l)
        have sm3 : ∀ b o, H b = some o → upd H2' c (.lst (acc.map V.int ++ [.int (i : Nat)])) b = some o := fun b o hb => by rw [upd_ne (ne_of_none hb nc)]; exact sm _ _ hb
        generalize upd H2' c (.lst (acc.map V.int ++ [.int (i : Nat)])) = H3 at hc3 hlv3 sm3
        refine ⟨.int n, rfl, .ref a, rfl, .int n, rfl, .int i, rfl, n, i, rfl, by omega, hn, fun H4 kv s4 hkv => ⟨by show 2 ≤ sizeLine; decide, fun m nm => ?_⟩⟩
        have s5 := same_new (o := .lst [.ref a, kv]) nm
        refine ⟨n, m, [.ref a, kv], [l, kindR n i], rfl, hn, upd_same, .cons ((hlv3.up s4).up s5) (.cons (hkv.up s5) .nil), ?_, fun H6 v6 s6 hv6 => ?_⟩
        · intro z hz
          rcases List.mem_cons.mp hz with hz | hz
          · rw [hz]; exact hll
          · rw [List.mem_singleton.mp hz]; exact kindR_len n i
        · have e6 : [l, kindR n i].foldl addR (zeroR n) = addR l (kindR n i) := by
            show addR (addR (zeroR n) l) (kindR n i) = _
            rw [show addR (zeroR n) l = l from addR_zero (n + 1) l hll]
          rw [e6] at hv6
          exact ⟨v6, addR l (kindR n i), acc ++ [(i : Int)], _, rfl, fun b o hb => s6 _ _ (s5 _ _ (s4 _ _ (sm3 _ _ hb))), s6 _ _ (s5 _ _ (s4 _ _ hc3)), hv6, by rw [addR_len (by rw [hll, kindR_len]), kindR_len], by rw [List.length_append]; show _ + 1 ≤ _; omega, e⟩
      · rw [if_neg h2] at e
        exact ⟨.ref a, l, acc, _, rfl, sm, hc, hlv, hll, by omega, e⟩
    · rintro σ H2 ⟨lv, l, acc, v4, rfl, sm, hc, hlv, hll, hacc, e⟩
      rw [List.drop_of_length_le (by rw [List.length_range]; exact Nat.le_refl _)] at e
      have e' : kinGo n (List.range (n - 1)) [] r = (acc, l) := e
      unfold kinD at q
      rw [e'] at q
      refine ⟨lv, rfl, .int n, rfl, by show 0 ≤ sizeLine; decide, fun m nm => ?_⟩
      have s3 := same_new (o := .lst []) nm
      refine ⟨n, m, [], [], rfl, hn, upd_same, .nil, fun z hz => (nomatch hz), fun H4 v4 s4 hv4 => ?_⟩
      have s34 : Same H2 H4 := s3.trans s4
      refine ⟨rowD l, rowD (zeroR n), (hlv.up s34).dp (row_flat _), hv4.dp (row_flat _), row_shaped _, row_shaped _, _, rfl, ?_⟩
      rw [rows_eqv]
      refine ite2 (fun hz => ?_) (fun hz => ?_)
      · rw [if_pos (of_decide_eq_true hz)] at q
        refine ⟨.ref c, rfl, c, _, rfl, .inl ⟨SqL.of (s34 _ _ hc), fun t nt => q _ _ (fun b o hb => same_new nt _ _ (s34 _ _ (sm _ _ hb))) (.tup upd_same ?_)⟩⟩
        have e5 : (acc.map V.int).length = acc.length := List.length_map _
        exact DqA.ints acc
      · rw [if_neg (fun z => hz (decide_eq_true z))] at q
        exact q _ _ (fun b o hb => s34 _ _ (sm _ _ hb)) .non
end
end Kr
namespace Kr
open PySem PySem.Spec PyProof.Rows L2
theorem sm_pair (p : Bool × Bool) : Sm 2 (6 * 2) (pairD p) := Sm.tup (k := 1) (w := 5) (fun d hd => by
  simp only [List.mem_cons, List.not_mem_nil, or_false] at hd
  have hb : ∀ b : Bool, (bi b).natAbs < 32 := fun b => by cases b <;> decide
  rcases hd with rfl | rfl
  · exact .lit (hb _)
  · exact .lit (hb _)) (Nat.le_refl _)
theorem sm_row {r : Row} (h : r.length ≤ 31) : Sm 3 ((6 * 2 + 1) * 31) (rowD r) := Sm.tup (k := 2) (w := 6 * 2) (fun d hd => by
  obtain ⟨p, _, rfl⟩ := List.mem_map.mp hd
  exact sm_pair p) (by rw [List.length_map]; exact h)
theorem kinGo_mem (n : Nat) : ∀ (ks : List Nat) (acc : List Int) (l : Row), (∀ x ∈ (kinGo n ks acc l).1, x ∈ acc ∨ ∃ k ∈ ks, x = (k : Int)) ∧ (kinGo n ks acc l).1.length ≤ acc.length + ks.length
  | [], acc, l => ⟨fun x hx => .inl hx, Nat.le_refl _⟩
  | k :: ks, acc, l => by
    simp only [kinGo]
    by_cases c : (atR l k).2 = true
    · rw [if_pos c]
      obtain ⟨h1, h2⟩ := kinGo_mem n ks (acc ++ [(k : Int)]) (addR l (kindR n k))
      refine ⟨fun x hx => ?_, by rw [List.length_append] at h2; simp only [List.length_cons, List.length_nil] at h2 ⊢; omega⟩
      rcases h1 x hx with h | ⟨j, hj, e⟩
      · rcases List.mem_append.mp h with h | h
        · exact .inl h
        · exact .inr ⟨k, List.mem_cons_self, List.mem_singleton.mp h⟩
      · exact .inr ⟨j, List.mem_cons_of_mem _ hj, e⟩
    · rw [if_neg c]
      obtain ⟨h1, h2⟩ := kinGo_mem n ks acc l
      refine ⟨fun x hx => (h1 x hx).imp (fun h => h) fun ⟨j, hj, e⟩ => ⟨j, List.mem_cons_of_mem _ hj, e⟩, by rw [List.length_cons]; omega⟩
theorem ints_small {zs : List Int} (hl : zs.length ≤ 30) (h : ∀ z ∈ zs, 0 ≤ z ∧ z ≤ 99) : Sm 2 4230 (.tuple (zs.map .int)) := by
  refine (Sm.tup (k := 1) (w := 140) (m := 30) (fun d hd => ?_) (by rw [List.length_map]; exact hl)).mono (by decide) (by decide)
  obtain ⟨z, hz, rfl⟩ := List.mem_map.mp hd
  have := h z hz
  exact .int (Nat.lt_of_le_of_lt (show z.natAbs ≤ 99 by omega) (by decide +kernel))
theorem kinD_sm {n : Nat} (hn : n ≤ 30) (r : Row) : Sm 2 4230 (kinD n r) := by
  unfold kinD
  split
  · obtain ⟨h1, h2⟩ := kinGo_mem n (List.range (n - 1)) [] r
    rw [List.length_range, List.length_nil] at h2
    refine ints_small (by omega) fun z hz => ?_
    rcases h1 z hz with h | ⟨k, hk, rfl⟩
    · exact nomatch h
    · have := List.mem_range.mp hk
      omega
  · exact Sm.non.mono (by decide) (by decide)
def spTold : Sp := fun vs H Q _ => ∃ (n : Nat) (v : V) (T : List (List Int)), vs = [.int (n : Int), v] ∧ 3 ≤ n ∧ n ≤ 6 ∧ Dq H v (tabD T) ∧ TabOk n T ∧ ∀ H', Same H H' → Q (.bl true) H'
section
variable {P : Program} {w : World} {K : PySem.W.Frag} {mg : Str → Option Value} {base : Heap}
abbrev nIt : List Str := ["n", "table", "known", "row", "told"]
theorem o_lIsTold (D0 : Df K mg "_law_is_told" sLIsTold ["n", "table"]) (B : Bi mg) (ls : Ok P w K mg base 2 "_law_signs" ["n", "table"] spSigns) (sg : Ok P w K mg base 5 "signs_of" ["n", "table"] spSigns) (ki : Ok P w K mg base 3 "kinds_in" ["n", "row"] (spRowF kinD)) (wi : Ok P w K mg base 3 "_law_within" ["n", "row"] (spRowF witD)) : OkG P w K mg base 6 "_law_is_told" ["n", "table"] spTold := by
  have scIt : FnScope nIt ["n", "table"] (defScope sLIsTold) := ⟨rfl, rfl, rfl, by decide +kernel, rfl, by decide +kernel, by decide +kernel⟩
  refine D0.okG fun f fd F => okG F scIt (fun vs H Q E h => ?_) (fun cdv A outer s H vs Q E hg hr h => ?_)
  · obtain ⟨n, v, T, rfl, _⟩ := h
    rfl
  · obtain ⟨n, v, T, rfl, n0, n1, hv, okT, q⟩ := h
    have hr2 := hr.mono (show 2 ≤ 5 by decide)
    have hr3 := hr.mono (show 3 ≤ 5 by decide)
    have cr := call_repr (X := (cxOf CX0 P w K mg base nIt "_law_is_told" (defScope sLIsTold) f cdv A outer s H E).nox) hg hr.units
    refine ⟨_, pss_cons (ps_par (i := 2) (j := 3) rfl scIt.nd rfl rfl (by decide) rfl rfl (pa_cons (pe_callB cr (by rfl) B.repr (by decide +kernel) (pa_cons (pv 1) pa_nil)) (pa_cons (pe_fn ls hr2 (by rfl) (pa_cons (pv 0) (pa_cons (pv 1) pa_nil))) pa_nil)) (by rfl))
      (pss_cons (ps_set (i := 4) scIt.nd rfl (.inl rfl) (pe_fn sg hr (by rfl) (pa_cons (pv 0) (pa_cons (pv 1) pa_nil))))
      (pss_cons (ps_if (PW.pt (pw_or (pt_cmpR op_ne (pe_callB cr (by rfl) B.repr (by decide +kernel) (pa_cons (pv 4) pa_nil)) (pe_callB cr (by rfl) B.repr (by decide +kernel) (pa_cons (pv 3) pa_nil)) (nomark _))
          (pw_or1 (pt_cmpR op_ne (pe_callB cr (by rfl) B.repr (by decide +kernel) (pa_cons (pe_fn ki hr3 (by rfl) (pa_cons (pv 0) (pa_cons (pv 4) pa_nil))) pa_nil)) (pe_callB cr (by rfl) B.repr (by decide +kernel) (pa_cons (pe_fn wi hr3 (by rfl) (pa_cons (pv 0) (pa_cons (pv 3) pa_nil))) pa_nil)) (nomark _))))) (pss_one (ps_ret pe_bl)) pss_nil)
      (pss_one (ps_ret (pe_cmpR op_eq (pe_callB cr (by rfl) B.repr (by decide +kernel) (pa_cons (pv 1) pa_nil)) (pv 2) (nomark _)))))), ?_⟩
    have smT := sm_tab n1 okT
    have lT := sgT_len n T
    have smR := sm_row (r := sgT n T) (by omega)
    have smK := kinD_sm (n := n) (by omega) (sgT n T)
    refine ⟨v, rfl, ?_⟩
    dsimp only [tNil]
    refine repr_x hv smT (by decide) (by decide) fun kx ekx => ?_
    refine ⟨.int n, rfl, v, rfl, n, v, T, rfl, n1, hv, okT, fun H1 rv s1 h1 => ⟨_, _, rfl, ?_⟩⟩
    refine ⟨.int n, rfl, v, rfl, n, v, T, rfl, n1, hv.up s1, okT, fun H2 tv s2 h2 => ?_⟩
    have h12 := h1.up s2
    have hv2 := (hv.up s1).up s2
    dsimp only [tNext]
    refine ne_repr ⟨tv, rfl, repr_x h2 smR (by decide) (by decide) fun tx etx => ⟨rv, rfl, repr_ne etx h12 smR (by decide) (by decide) ?_⟩⟩
    refine iteF ?_
    refine ne_repr ⟨.int n, rfl, tv, rfl, n, tv, sgT n T, rfl, by omega, by omega, lT, h2, fun H3 k1 s3 g1 => ?_⟩
    refine repr_x g1 smK (by decide) (by decide) fun t2 et2 => ?_
    refine ⟨.int n, rfl, rv, rfl, n, rv, sgT n T, rfl, by omega, by omega, lT, h12.up s3, fun H4 k2 s4 g2 => ?_⟩
    rw [wit_eq lT (by omega)] at g2
    refine repr_ne et2 g2 smK (by decide) (by decide) (iteF ?_)
    have sA := s1.trans (s2.trans (s3.trans s4))
    dsimp only [tNext]
    refine ret_eq_reprV ⟨v, rfl, repr_x ((hv2.up s3).up s4) smT (by decide) (by decide) fun k3 ek3 => ⟨.str kx, rfl, txt_eq ek3 ekx (q _ sA)⟩⟩
end
end Kr
namespace Kr
open PySem PySem.Spec PyProof.Rows L2 HT
theorem adj_one (n : Nat) : Builtin.Slice.sliceAdjust none none 1 (n : Int) = (0, (n : Int)) := by
  unfold Builtin.Slice.sliceAdjust
  simp
theorem pla_one (n : Nat) : Builtin.Slice.slicePlaces 0 (n : Int) 1 = n := by
  unfold Builtin.Slice.slicePlaces
  simp
  try omega
section
variable {prog : Program} {w : World} {A : Around} {E : Value → Shared → Prop} {s : Shared}
theorem applied_one {sl : Addr} {vk : Value} {n : Nat} {Q : Int × Int × Nat → Shared → Prop} (hs : s.heap.IsSliceOf sl .none .none vk) (pk : IsPart vk (some 1))
    (h : Q (0, 1, n) s) : wpAny (model prog w) A (Builtin.Slice.sliceApplied (.ref sl) (pure (n : Int))) Q E s := by
  obtain ⟨os, hos, hcs, hds⟩ := id hs
  unfold Builtin.Slice.sliceApplied Builtin.Slice.sliceFields
  refine wpAny_bind (wpAny_bind (wpAny_field hos hds (x := .none) rfl (wpAny_bind (wpAny_field hos hds (x := .none) rfl (wpAny_bind (wpAny_field hos hds (x := vk) rfl (wpAny_pure ?_)))))))
  refine wpAny_bind (slicePart_ pk ?_)
  show wpAny _ _ (if ((1 : Int) == 0) = true then _ else _) _ _ s
  rw [if_neg (by decide)]
  refine wpAny_bind (slicePart_none (wpAny_bind (slicePart_none (wpAny_bind (wpAny_pure ?_)))))
  show wpAny _ _ (match Builtin.Slice.sliceAdjust none none 1 (n : Int) with | (lo, hi) => pure (lo, (1 : Int), Builtin.Slice.slicePlaces lo hi 1)) _ _ s
  rw [adj_one n]
  show wpAny _ _ (pure (0, (1 : Int), Builtin.Slice.slicePlaces 0 (n : Int) 1)) _ _ s
  rw [pla_one]
  exact wpAny_pure h
theorem tuple_one {t sl : Addr} {items : Array Value} {vk : Value} {Q : Value → Shared → Prop} (ht : IsTup s.heap t items) (hs : s.heap.IsSliceOf sl .none .none vk) (pk : IsPart vk (some 1))
    (h : Q (.ref t) s) : wpAny (model prog w) A (getItem (.ref t) (.ref sl)) Q E s := by
  obtain ⟨os, hos, hcs, hds⟩ := id hs
  have hTs : s.TypeIs (.ref sl) "slice" := ⟨os, hos, hcs⟩
  unfold getItem
  try with_reducible refine wpAny_holding ?_
  first | refine wpAny_bind (wpAny_pure ?_) | skip
  refine wpAny_bind (wpAny_sequenceKey ht.typeIs (by decide) ?_)
  refine wpAny_bind (wpAny_callSpecial?_slot (name := Str.ofString "__getitem__") ht.typeIs PyProof.Rows.slot_tuple_getitem
    (wpAny_call_entry PyProof.Rows.slot_tuple_getitem ht.typeIs entry_tuple_getitem ?_ (args_tuple_getitem _ _)))
  show wpAny _ _ (Builtin.Tuple.tupleItemsOf (.ref t) >>= _) _ _ s
  refine wpAny_bind (tupleItemsOf_ ht (wpAny_bind (wpAny_typeOf hTs ?_)))
  rw [if_pos (by decide)]
  refine wpAny_bind (applied_one hs pk ?_)
  have hyes : (((0 : Int) == 0 && (1 : Int) == 1 && items.size == items.size) = true) := by
    rw [beq_self_eq_true items.size]
    decide
  show wpAny _ _ (if ((0 : Int) == 0 && (1 : Int) == 1 && items.size == items.size) = true then _ else _) _ _ s
  rw [if_pos hyes]
  refine wpAny_bind ?_
  show wpAny _ _ (typeOf (.ref t) >>= fun T => pure (T == .type "tuple")) _ _ s
  refine wpAny_bind (wpAny_typeOf ht.typeIs (wpAny_pure ?_))
  first
    | rw [if_pos (by decide)]
    | simp only [beq_self_eq_true, if_true]
  first
    | exact wpAny_bind (wpAny_rule (wpAny_pure ⟨_, rfl, wpAny_pure h⟩))
    | exact wpAny_bind (wpAny_rule (wpAny_bind (wpAny_pure (wpAny_pure ⟨_, rfl, wpAny_pure h⟩))))
end
section
variable {X : Cx}
/-- t[::1] of a tuple: the tuple itself -/
def tOneT (K : PySem.W.Frag) (te : TE) : TE := fun σ H Q => te σ H fun x H1 => ∃ a xs, x = .ref a ∧ SqT K H1 a xs ∧ Q (.ref a) H1
theorem pe_oneT {e : Expr} {te : TE} {k : Nat} {p1 p3 pos : Pos} (he : PE X e te) : PE X (.Subscript e (.Slice none none (some (.Constant (.int 1) k p1)) p3) pos) (tOneT X.K te) := by
  refine ⟨fun pins s σ H Q I h => Subscript_ (thn (he.run pins s σ H _ I h) fun v s1 ⟨x, H1, I1, r1, q1⟩ => ?_)⟩
  obtain ⟨a, xs, rfl, hx, q⟩ := q1
  cases r1
  have hst : PO X (some (.Constant (.int 1) k p1)) (tPart (tC (.int 1))) := po_some pe_int
  refine wpAny_Slice (thn (po_none.run pins s1 σ H1 (fun o H2 => o = none ∧ H2 = H1) I1 ⟨rfl, rfl⟩) fun vl s2 ⟨l, H2, I2, pl, el, e2⟩ => ?_)
  subst el e2
  refine thn (po_none.run pins s2 σ H2 (fun o H3 => o = none ∧ H3 = H2) I2 ⟨rfl, rfl⟩) fun vu s3 ⟨u, H3, I3, pu, eu, e3⟩ => ?_
  subst eu e3
  refine thn (hst.run pins s3 σ H3 (fun o H4 => o = some 1 ∧ H4 = H3) I3 ⟨1, rfl, rfl, rfl⟩) fun vs s4 ⟨o, H4, I4, ps, eo, e4⟩ => ?_
  subst eo e4
  cases pl
  cases pu
  have I5 : Inv X pins σ H4 { s4 with heap := s4.heap.push { cls := .type "slice", data := .fields #[.none, .none, vs] } } := I4.kept (t' := s4.toks) fun b ob q => Heap.get?_push_of_some _ q
  obtain ⟨its, r, ht, hz⟩ := I5.tuple hx
  show wpAny (model X.prog X.w) X.A (subscriptTail e (.Slice none none (some (.Constant (.int 1) k p1)) p3) (.ref a) (.ref s4.heap.objs.size)) (EP X pins σ Q) X.xe { s4 with heap := s4.heap.push { cls := .type "slice", data := .fields #[.none, .none, vs] } }
  refine tail_any (ops := [.ref a, .ref s4.heap.objs.size]) ht.typeIs (PyProof.Rows.slot_tuple_getitem.lookup) ?_ (by with_unfolding_all rfl)
  exact tuple_one ht (Heap.IsSliceOf.new _ .none .none vs) ps ⟨.ref a, H4, I5, rfl, q⟩
end
end Kr
namespace Kr
open PySem PySem.Spec PyProof.Rows L2
abbrev nLaw : List Str := ["script", "deck", "turn", "n", "deeds", "kinds", "due", "table", "wide", "step", "deed", "k"]
def spLaw (K : PySem.W.Frag) : Sp := fun vs H Q _ => ∃ (a : Addr) (ns : List Int), vs = [.ref a] ∧ SqL K H a (ns.map V.int) ∧ ns.length ≤ 63 ∧ ∀ H', Q (.bl true) H'
structure Top (P : Program) (w : World) (K : PySem.W.Frag) (mg : Str → Option Value) (base : Heap) : Prop where
  deck : Ok P w K mg base 1 "_law_deck" ["script"] (spDeck K)
  draw : Ok P w K mg base 1 "_law_draw" ["deck", "many"] spDraw
  pick : Ok P w K mg base 2 "_law_pick" ["deck", "some"] spPick
  deed : Ok P w K mg base 3 "_law_deed" ["deck", "n", "k"] spDeedK
  whole : Ok P w K mg base 4 "_law_whole" ["n", "deeds"] spWhole
  wide : Ok P w K mg base 4 "_law_widened" ["deck", "n", "deeds"] spWidened
  spoilt : Ok P w K mg base 3 "_law_spoilt" ["deck", "n", "table"] spSpoilt
  drawn : Ok P w K mg base 3 "_law_drawn" ["deck", "n", "often"] spDrawnK
  told : OkG P w K mg base 6 "_law_is_told" ["n", "table"] spTold
  sg : Ok P w K mg base 5 "signs_of" ["n", "table"] spSigns
  kin : Ok P w K mg base 3 "kinds_in" ["n", "row"] (spRowF kinD)
theorem ents_eqv : ∀ a : List (List Int), PyData.eqvAll (a.map entD) (a.map entD) = true
  | [] => by simp [PyData.eqvAll]
  | x :: a => by
    have ih := ents_eqv a
    simp only [List.map_cons, PyData.eqvAll, ih, ent_eqv, decide_true, Bool.and_self]
theorem tabs_eqv (T : List (List Int)) : PyData.eqv (tabD T) (tabD T) = true := by
  unfold tabD
  simp only [PyData.eqv, ents_eqv]
section
variable {P : Program} {w : World} {K : PySem.W.Frag} {mg : Str → Option Value} {base : Heap}
theorem scLaw : FnScope nLaw ["script"] (defScope sLaw) := ⟨rfl, rfl, rfl, by decide +kernel, rfl, by decide +kernel, by decide +kernel⟩
theorem ok_law {f : Addr} {fd : FuncData} (F : Fun K "law" "law" sLaw f fd) (B : Bi mg) (U : Top P w K mg base) : FnG P w K mg base CX0 7 f fd ["script"] (spLaw K) := by
  refine okG F scLaw (fun vs H Q E h => ?_) (fun cdv A outer s H vs Q E hg hr h => ?_)
  · obtain ⟨a, ns, rfl, _⟩ := h
    rfl
  · obtain ⟨sa, ns, rfl, hS, hlen, q⟩ := h
    have hr1 := hr.mono (show 1 ≤ 6 by decide)
    have hr2 := hr.mono (show 2 ≤ 6 by decide)
    have hr3 := hr.mono (show 3 ≤ 6 by decide)
    have hr4 := hr.mono (show 4 ≤ 6 by decide)
    have hr5 := hr.mono (show 5 ≤ 6 by decide)
    have hu : (cxOf CX0 P w K mg base nLaw "law" (defScope sLaw) f cdv A outer s H E).A.units + 64 < cLine := hr.units
    have cr := call_repr (X := (cxOf CX0 P w K mg base nLaw "law" (defScope sLaw) f cdv A outer s H E).nox) hg hr.units
    refine ⟨_, pss_cons (ps_set (i := 1) scLaw.nd rfl (.inr rfl) (pe_fn U.deck hr1 (by rfl) (pa_cons (pv 0) pa_nil)))
      (pss_cons (ps_for PassesOwn.never rfl (pi_range1 (by rfl) B.range (pa_cons pe_int pa_nil)) (pg_name (i := 2) scLaw.nd rfl (.inl rfl))
        (pss_cons (ps_set (i := 3) scLaw.nd rfl (.inr rfl) (pe_ix ix_list (pe_lst (pa_cons (pe_op op_add pe_int (pe_fn U.draw hr1 (by rfl) (pa_cons (pv 1) (pa_cons pe_int pa_nil)))) (pa_cons pe_int
            (pa_cons (pe_ifExp (pt_cmpR op_eq (pe_fn U.draw hr1 (by rfl) (pa_cons (pv 1) (pa_cons pe_int pa_nil))) pe_int (nomark _)) pe_int pe_int) pa_nil)))) (pv 2) (fun _ _ => rfl)))
        (pss_cons (ps_setLc (i := 4) (own := [("step", 9)]) (g := gName 9) (tt := tYes) rfl scLaw.nd rfl rfl (sw_true rfl rfl rfl (by decide +kernel)) (pi_range1 (by rfl) B.range (pa_cons (pe_op op_add pe_int (pe_fn U.draw hr1 (by rfl) (pa_cons (pv 1) (pa_cons pe_int pa_nil)))) pa_nil)) (blkOk_by (own := [("step", 9)]) (N := nLaw) (sc := defScope sLaw) (by decide +kernel))
            (fun _ _ _ _ _ => pg_name (i := 9) scLaw.nd rfl (.inl rfl)) (fun _ _ _ _ _ => pts_nil)
            (fun _ _ _ _ _ => pe_fn U.deed hr3 (by rfl) (pa_cons (pv 1) (pa_cons (pv 3) (pa_cons (pe_fn U.draw hr1 (by rfl) (pa_cons (pv 1) (pa_cons (pe_op op_sub (pv 3) pe_int) pa_nil))) pa_nil)))))
        (pss_cons (ps_set (i := 5) scLaw.nd rfl (.inr rfl) (pe_lc (own := [("deed", 10)]) (g := gName 10) (tt := tYes) rfl scLaw.nd (pi_list (pv 4)) (blkOk_by (own := [("deed", 10)]) (N := nLaw) (sc := defScope sLaw) (by decide +kernel))
            (fun _ _ _ _ _ => pg_name (i := 10) scLaw.nd rfl (.inl rfl)) (fun _ _ _ _ _ => pts_nil) (fun _ _ _ _ _ => pe_callB (r := rLenK K) call_lenK (by rfl) B.len boot_len (pa_cons (pe_ix (r := rIxT K) ix_tup (pv 10) pe_int (fun _ _ => rfl)) pa_nil))))
        (pss_cons (ps_set (i := 6) scLaw.nd rfl (.inl rfl) (pe_callTy call_tuple_of (by rfl) B.tuple (by decide +kernel) (pa_cons (pe_lc (own := [("k", 11)]) (g := gName 11) (tt := tTest (tOp rEq (tOp (rI (fun _ j => 0 < j) fun i j => .int (i % j)) (tCB (fun xs H Q => (∃ i, xs = [V.int i] ∧ Q (.int i) H) ∨ ∃ k, xs = [V.bl k] ∧ Q (.int (if k then 1 else 0)) H) (tCons (tBM K "list" (rCntI K) (tVar 5) (tCons (tVar 11) tNil)) tNil)) (tC (.int 2))) (tC (.int 1)))) rfl scLaw.nd (pi_range1 (by rfl) B.range (pa_cons (pe_op op_sub (pv 3) pe_int) pa_nil)) (blkOk_by (own := [("k", 11)]) (N := nLaw) (sc := defScope sLaw) (by decide +kernel))
            (fun _ _ _ _ _ => pg_name (i := 11) scLaw.nd rfl (.inl rfl)) (fun _ _ _ _ _ => by exact pts_one (pt_cmpR op_eq (pe_op op_mod (pe_callTy call_int1 (by rfl) B.int (by decide +kernel) (pa_cons (pe_bm PySem.F.plainAttrs_list PySem.F.slot_list_count PySem.F.type_list_count mt_lcount (pv 5) (pa_cons (pv 11) pa_nil)) pa_nil)) pe_int) pe_int (nomark _))) (fun _ _ _ _ _ => pv 11)) pa_nil)))
        (pss_cons (ps_par (i := 7) (j := 8) rfl scLaw.nd rfl rfl (by decide) rfl rfl (pa_cons (pe_fn U.whole hr4 (by rfl) (pa_cons (pv 3) (pa_cons (pv 4) pa_nil))) (pa_cons (pe_fn U.whole hr4 (by rfl) (pa_cons (pv 3) (pa_cons (pe_fn U.wide hr4 (by rfl) (pa_cons (pv 1) (pa_cons (pv 3) (pa_cons (pv 4) pa_nil)))) pa_nil))) pa_nil)) (by rfl))
        (pss_cons (ps_if (PW.pt (pw_or (pt_cmpR (op_neD hu) (pv 7) (pv 8) (nomark _)) (pw_or1 (pt_cmpR op_ne (pe_callB cr (by rfl) B.repr (by decide +kernel) (pa_cons (pe_lst (pa_cons (pe_fn U.kin hr3 (by rfl) (pa_cons (pv 3) (pa_cons (pe_fn U.sg hr5 (by rfl) (pa_cons (pv 3) (pa_cons (pv 7) pa_nil))) pa_nil)))
              (pa_cons (pe_fn U.kin hr3 (by rfl) (pa_cons (pv 3) (pa_cons (pe_fn U.sg hr5 (by rfl) (pa_cons (pv 3) (pa_cons (pv 8) pa_nil))) pa_nil))) pa_nil))) pa_nil)) (pe_callB cr (by rfl) B.repr (by decide +kernel) (pa_cons (pe_op op_rep (pe_lst (pa_cons (pv 6) pa_nil)) pe_int) pa_nil)) (nomark _))))) (pss_one (ps_ret pe_bl)) pss_nil)
        (pss_cons (ps_if (PW.pt (pw_or (pt_not (pt_val (pe_fnG U.told hg hr (by rfl) (pa_cons (pv 3) (pa_cons (pe_fn U.spoilt hr3 (by rfl) (pa_cons (pv 1) (pa_cons (pv 3) (pa_cons (pv 7) pa_nil)))) pa_nil))))) (pw_or1 (pt_not (pt_val (pe_fnG U.told hg hr (by rfl) (pa_cons (pv 3) (pa_cons (pe_oneT (pv 7)) pa_nil)))))))) (pss_one (ps_ret pe_bl)) pss_nil)
        (pss_one (ps_if (pt_not (pt_val (pe_fnG U.told hg hr (by rfl) (pa_cons (pv 3) (pa_cons (pe_fn U.drawn hr3 (by rfl) (pa_cons (pv 1) (pa_cons (pv 3) (pa_cons (pe_fn U.pick hr2 (by rfl) (pa_cons (pv 1) (pa_cons (pe_lst (pa_cons pe_int (pa_cons pe_int (pa_cons pe_int pa_nil)))) pa_nil))) pa_nil)))) pa_nil))))) (pss_one (ps_ret pe_bl)) pss_nil))))))))))
      (pss_one (ps_ret pe_bl))), ?_⟩
    refine ⟨.ref sa, rfl, sa, ns, rfl, hS, hlen, fun H1 p l s1 np nl D1 => ?_⟩
    dsimp only
    refine ⟨3, rfl, by decide, by decide, for_it (walk_rg (n := 3)) (fun i σ G => ∃ v2 v3 v4 v5 v6 v7 v8 : Option V, σ = [some (.ref sa), some (.ref p), v2, v3, v4, v5, v6, v7, v8, none, none, none] ∧ Deck G p l) ⟨_, _, _, _, _, _, _, rfl, D1⟩ (fun _ _ _ _ _ => trivial) ?_ ?_⟩
    · rintro i x σ _ G hi ⟨v2, v3, v4, v5, v6, v7, v8, rfl, DG⟩ ⟨rfl, rfl⟩
      refine ⟨.ref p, rfl, p, l, 2, rfl, DG, by decide, fun Ha za Da Ea a0 a1 => ⟨_, _, rfl, rfl, .ref p, rfl, p, l, 6, rfl, Da, by decide, fun Hb zb Db Eb b0 b1 => ⟨rfl, _, rfl, ite2 (fun c => ?_) (fun c => ?_)⟩⟩⟩
      case' refine_1 =>
        refine ⟨by show 3 ≤ sizeLine; decide, fun L nL => ?_⟩
        have De := Db.up (same_new (o := .lst [.int (3 + za), .int 5, .int 6]) nL)
        obtain ⟨n, hn, n0, n1⟩ : ∃ n : Nat, ([.int (3 + za), .int 5, .int 6] : List V)[i]? = some (.int (n : Int)) ∧ 3 ≤ n ∧ n ≤ 6 := by
          match i, hi with
          | 0, _ => exact ⟨(3 + za).toNat, by rw [show (((3 + za).toNat : Nat) : Int) = 3 + za by omega]; rfl, by omega, by omega⟩
          | 1, _ => exact ⟨5, rfl, by decide, by decide⟩
          | 2, _ => exact ⟨6, rfl, by decide, by decide⟩
        refine ⟨.int i, rfl, L, _, i, .int (n : Int), rfl, rfl, SqL.of upd_same, atI_nat hn, ?_⟩
        generalize upd Hb L (.lst [.int (3 + za), .int 5, .int 6]) = He at De
        clear hn nL c
      case' refine_2 =>
        refine ⟨by show 3 ≤ sizeLine; decide, fun L nL => ?_⟩
        have De := Db.up (same_new (o := .lst [.int (3 + za), .int 5, .int 4]) nL)
        obtain ⟨n, hn, n0, n1⟩ : ∃ n : Nat, ([.int (3 + za), .int 5, .int 4] : List V)[i]? = some (.int (n : Int)) ∧ 3 ≤ n ∧ n ≤ 6 := by
          match i, hi with
          | 0, _ => exact ⟨(3 + za).toNat, by rw [show (((3 + za).toNat : Nat) : Int) = 3 + za by omega]; rfl, by omega, by omega⟩
          | 1, _ => exact ⟨5, rfl, by decide, by decide⟩
          | 2, _ => exact ⟨4, rfl, by decide, by decide⟩
        refine ⟨.int i, rfl, L, _, i, .int (n : Int), rfl, rfl, SqL.of upd_same, atI_nat hn, ?_⟩
        generalize upd Hb L (.lst [.int (3 + za), .int 5, .int 4]) = He at De
        clear hn nL c
      all_goals
        clear Db Eb b0 b1 Da Ea a0 a1 DG
        dsimp only [tNext]
        refine ⟨.ref p, rfl, p, l, 4, rfl, De, by decide, fun Hc zc Dc Ec c0 c1 => ⟨_, _, rfl, rfl, 1 + zc, rfl, by omega, by omega, fun D nD => ?_⟩⟩
        obtain ⟨nDp, nDl⟩ := Dc.new nD
        obtain ⟨cn, hcn, hc1, hc5⟩ : ∃ cn : Nat, (1 + zc).toNat = cn ∧ 1 ≤ cn ∧ cn ≤ 5 := ⟨_, rfl, by omega, by omega⟩
        rw [hcn]
        refine lc_it (walk_rg (n := cn)) (fun t G' => ∃ (xs : List V) (ms : List Mv), G' D = some (.lst xs) ∧ Deck G' p l ∧ Ext p l Hc G' ∧ DqA G' xs (ms.map deedD) ∧ ms.length = t ∧ (∀ m ∈ ms, Deed n m ∧ m.1.length + 2 ≤ n))
          ⟨[], [], upd_same, Dc.up (same_new nD), Ext.of (same_new nD), .nil, rfl, fun _ h => (nomatch h)⟩ (fun _ _ _ _ => trivial) ?_ ?_
        · rintro t x _ G' ht ⟨xs, ms, hD, DG', EG', qx, hml, hms⟩ ⟨rfl, rfl⟩
          refine ⟨rfl, ?_⟩
          dsimp only [tYes]
          rw [if_pos rfl]
          refine ⟨.ref p, rfl, .int n, rfl, .ref p, rfl, .int n, rfl, _, _, rfl, rfl, p, l, (n : Int) - 1, rfl, DG', by omega, fun G1 z D2 E2 z0 z1 => ?_⟩
          obtain ⟨k, rfl, hk⟩ : ∃ k : Nat, z = k ∧ k + 2 ≤ n := ⟨z.toNat, by omega, by omega⟩
          refine ⟨p, l, n, k, rfl, D2, by omega, hk, fun G2 dv m D3 E3 hdv hd hmk => ?_⟩
          have ED : Ext p l G' G2 := Same.trans E2 E3
          have hD2 : G2 D = some (.lst xs) := ED.at_ nDp nDl hD
          have hxl : xs.length = ms.length := by rw [qx.len, List.length_map]
          refine ⟨xs, hD2, szm (by omega), xs ++ [dv], ms ++ [m], upd_same, D3.mut nDp nDl, Ext.mut (Same.trans EG' ED) nD, ?_, by rw [List.length_append, hml]; rfl, fun m' hm' => ?_⟩
          · rw [List.map_append]
            exact dqa_snoc (DqA.upT ((TS.deck DG' E2).trans ((TS.deck D2 E3).trans (TS.lst hD2))) (deeds_flat ms) qx) (Dq.upT (TS.lst hD2) (deed_flat m) (deed_dq hdv))
          · rcases List.mem_append.mp hm' with hm' | hm'
            · exact hms m' hm'
            · rw [List.mem_singleton.mp hm']
              exact ⟨hd, by omega⟩
        rintro G0 ⟨xs, ms, hD, DG0, EG0, qx, hml, hms⟩
        clear De Dc Ec c0 c1 EG0 nD hcn
        have hxl : xs.length = ms.length := by rw [qx.len, List.length_map]
        have hdd : ∀ m ∈ ms, Deed n m := fun m hm => (hms m hm).1
        dsimp only [tNext]
        refine ⟨.ref D, rfl, D, rfl, ⟨_, SqL.of hD⟩, fun D5 nD5 => ?_⟩
        refine lc_itF (walk_list (K := K) (a := D) (xs := xs)) (fun j => .int (((ms.getD j ([], 0, 0)).1.length : Nat) : Int)) nD5 (by omega) (fun _ _ => rfl) (fun G s => SqL.of (s _ _ hD)) (fun j y G3 G3' C Cn hj s4 hy cc => ?_) (fun G1 bs s01 hK qb => ?_)
        · obtain ⟨rfl, hy⟩ := hy
          obtain ⟨m, hm, hdm⟩ := dqa_get qx hy
          obtain ⟨dA, qA, rfl, hdA, hqA⟩ := deed_inv hdm
          have em : ms.getD j ([], 0, 0) = m := by rw [List.getD_eq_getElem?_getD, hm]; rfl
          rw [em] at cc
          refine ⟨rfl, ?_⟩
          dsimp only [tYes]
          rw [if_pos rfl]
          refine ⟨.ref dA, rfl, dA, _, 0, .ref qA, rfl, rfl, SqT.of (s4 _ _ hdA), rfl, qA, _, rfl, .inr (SqT.of (s4 _ _ hqA)), ?_⟩
          rw [lv_len]
          exact cc _ _ (Same.refl _) (.int _)
        obtain ⟨ls, hls⟩ : ∃ ls, ls = ms.map fun m => m.1.length := ⟨_, rfl⟩
        have hlsk : ∀ k ∈ ls, k < n - 1 := fun k hk => by
          rw [hls] at hk
          obtain ⟨m, hm, rfl⟩ := List.mem_map.mp hk
          have := (hms m hm).2
          omega
        have qb2 : DqA G1 bs ((ls.map fun (x : Nat) => (x : Int)).map PyData.int) := by
          rw [hxl, map_getD (fun (m : Mv) => PyData.int ((m.1.length : Nat) : Int)) ([], 0, 0) ms] at qb
          rw [hls, List.map_map, List.map_map]
          exact qb
        have ebs : bs = (ls.map fun (x : Nat) => (x : Int)).map V.int := dqa_int qb2
        clear qb2
        subst ebs
        have D1' := DG0.up s01
        have hD1 := s01 _ _ hD
        have qx1 := qx.up s01
        clear qb DG0 hD qx s01 nD5
        dsimp only [tNext]
        refine ⟨.int n, rfl, _, _, rfl, rfl, (n : Int) - 1, rfl, by omega, by omega, fun D6 nD6 => ?_⟩
        rw [show ((n : Int) - 1).toNat = n - 1 by omega]
        refine lc_it (walk_rg (n := n - 1)) (fun t G' => G' D6 = some (.lst (lv ((List.range t).filter fun k => decide (ls.count k % 2 = 1)))) ∧ Same G1 G') ⟨upd_same, same_new nD6⟩ (fun _ _ _ _ => trivial) ?_ ?_
        · rintro t x _ G' ht ⟨hD6, sm⟩ ⟨rfl, rfl⟩
          have hK' := sm _ _ hK
          refine ⟨rfl, .ref D5, rfl, .inl ⟨rfl, _, SqL.of hK'⟩, .int t, rfl, D5, _, (t : Int), rfl, rfl, SqL.of hK', .inl ⟨_, rfl, _, _, rfl, rfl, (by show (0 : Int) < 2; decide), rfl, _, rfl, ?_⟩⟩
          rw [count_cast, List.range_succ, List.filter_append]
          by_cases hm : ls.count t % 2 = 1
          · rw [decide_eq_true (show V.int (((ls.count t : Nat) : Int) % 2) = V.int 1 by rw [show (((ls.count t : Nat) : Int) % 2) = 1 by omega])]
            have e1 : [t].filter (fun k => decide (ls.count k % 2 = 1)) = [t] := by simp [hm]
            rw [e1]
            refine iteT ⟨_, rfl, _, hD6, szm ?_, ?_, fun b o hb => ?_⟩
            · rw [lv_len]
              have := List.length_filter_le (fun k => decide (ls.count k % 2 = 1)) (List.range t)
              rw [List.length_range] at this
              omega
            · rw [upd_same]
              simp [lv]
            · rw [upd_ne (ne_of_none hb nD6)]
              exact sm _ _ hb
          · rw [decide_eq_false (show ¬ V.int (((ls.count t : Nat) : Int) % 2) = V.int 1 from fun z => hm (by have := V.int.inj z; omega))]
            have e1 : [t].filter (fun k => decide (ls.count k % 2 = 1)) = [] := by simp [hm]
            rw [e1, List.append_nil]
            exact iteF ⟨hD6, sm⟩
        rintro G2 ⟨hD6, s12⟩
        refine ⟨D6, _, rfl, .inl ⟨SqL.of hD6, fun dt ndt => ?_⟩⟩
        have s13 := s12.trans (same_new (o := .tup (lv ((List.range (n - 1)).filter fun k => decide (ls.count k % 2 = 1)))) ndt)
        have hdue : Dq (upd G2 dt (.tup (lv ((List.range (n - 1)).filter fun k => decide (ls.count k % 2 = 1))))) (.ref dt) (lotD (oddK (n - 1) ls)) := lot_at upd_same
        have D3' := D1'.up s13
        have hD3 := s13 _ _ hD1
        have qx3 := qx1.up s13
        generalize upd G2 dt (.tup (lv ((List.range (n - 1)).filter fun k => decide (ls.count k % 2 = 1)))) = G3 at s13 hdue D3' hD3 qx3
        clear hD6 s12 s13 D1' hD1 qx1 hK nD6 ndt
        have okT := whole_ok n1 hdd
        have eT : kinD n (sgT n (wholeT n ms)) = lotD (oddK (n - 1) ls) := by
          rw [whole_row n1 hdd, ← hls, sum_odd n (n - 1) hlsk]
          exact kin_sum (by omega) List.filter_sublist
        have hne : ms ≠ [] := fun z => by
          rw [z] at hml
          simp at hml
          omega
        dsimp only [tNext]
        refine ⟨.int n, rfl, .ref D, rfl, n, D, xs, ms, rfl, n1, hD3, qx3, hne, by omega, hdd, fun G4 tv s4 htv => ?_⟩
        refine ⟨.int n, rfl, .ref p, rfl, .int n, rfl, .ref D, rfl, p, l, n, D, xs, ms, rfl, D3'.up s4, n0, n1, nDp, nDl, s4 _ _ hD3, qx3.up s4, by omega, fun G5 b ys d i' D5' E5 hb qb hd => ?_⟩
        have hta : ∀ m ∈ ms.take i', Deed n m := fun m hm => hdd m (List.mem_of_mem_take hm)
        refine ⟨n, b, ys, _, rfl, n1, hb, qb, by simp, by
          have h2 : ([d, d] : List Mv).length = 2 := rfl
          rw [List.length_append, List.length_append, List.length_take, List.length_drop, h2]
          omega, fun m hm => ?_, fun G6 wv s6 hwv => ⟨_, _, rfl, ?_⟩⟩
        · rcases List.mem_append.mp hm with hm | hm
          · exact hta m hm
          · rcases List.mem_append.mp hm with hm | hm
            · simp only [List.mem_cons, List.not_mem_nil, or_false, or_self] at hm
              rw [hm]
              exact hd
            · exact hdd m (List.mem_of_mem_drop hm)
        rw [whole_wide n1 hta hd, List.take_append_drop] at hwv
        have ts46 : TS G4 G6 := (TS.deck (D3'.up s4) E5).trans (TS.of s6)
        have htv6 : Dq G6 tv (tabD (wholeT n ms)) := Dq.upT ts46 (tab_flat _) htv
        have hdue6 : Dq G6 (.ref dt) (lotD (oddK (n - 1) ls)) := Dq.upT ((TS.of s4).trans ts46) (lot_flat _) hdue
        rw [← eT] at hdue6
        have D6' := D5'.up s6
        clear hD3 qx3 hdue D3' s4 htv D5' E5 hb qb hd hta s6 ts46 eT hlsk hls hms hml hne hxl nDp nDl
        generalize wholeT n ms = T at okT hwv htv6 hdue6
        clear hdd
        obtain ⟨tva, txs, rfl, htva, -⟩ := Dq.tup_inv htv6
        have lT := sgT_len n T
        have smK := kinD_sm (n := n) (by omega) (sgT n T)
        dsimp only
        refine ⟨.ref tva, rfl, wv, rfl, tabD T, tabD T, htv6.dp (tab_flat _), hwv.dp (tab_flat _), tab_shaped _, tab_shaped _, _, rfl, ?_⟩
        rw [tabs_eqv]
        refine iteF ?_
        refine ne_repr ⟨.int n, rfl, .int n, rfl, .ref tva, rfl, n, .ref tva, T, rfl, n1, htv6, okT, fun G7 r1 s7 h1 => ⟨n, r1, sgT n T, rfl, by omega, by omega, lT, h1, fun G8 k1 s8 g1 => ⟨.int n, rfl, .int n, rfl, wv, rfl, n, wv, T, rfl, n1, (hwv.up s7).up s8, okT, fun G9 r2 s9 h2 => ⟨n, r2, sgT n T, rfl, by omega, by omega, lT, h2, fun G10 k2 s10 g2 => ⟨by show 2 ≤ sizeLine; decide, fun L nL => ?_⟩⟩⟩⟩⟩
        have s11 := same_new (o := .lst [k1, k2]) nL
        have sA := s7.trans (s8.trans (s9.trans (s10.trans s11)))
        refine repr_x (d := .list [kinD n (sgT n T), kinD n (sgT n T)]) (.lst upd_same (.cons (((g1.up s9).up s10).up s11) (.cons (g2.up s11) .nil))) (smK.two smK) (by decide) (by decide) fun tx etx => ?_
        have htvA := htv6.up sA
        have hdueA := hdue6.up sA
        have htvaA := sA _ _ htva
        have DA := D6'.up sA
        generalize upd G10 L (.lst [k1, k2]) = GA at htvA hdueA htvaA DA sA s11
        clear g1 g2 h1 h2 s7 s8 s9 s10 s11 sA nL htv6 hdue6 htva D6' hwv
        refine ⟨.ref dt, rfl, by show 1 ≤ sizeLine; decide, fun L5 nL5 => ?_⟩
        have s18 := same_new (o := .lst [.ref dt]) nL5
        refine ⟨L5, 2, [.ref dt], rfl, rfl, upd_same, by decide, by decide, by show 1 * _ ≤ sizeLine; decide, fun L6 nL6 => ?_⟩
        have s19 := same_new (o := .lst (List.replicate (2 : Int).toNat [V.ref dt]).flatten) nL6
        have sB := s18.trans s19
        have hdB := hdueA.up sB
        refine repr_ne etx (.lst upd_same (.cons hdB (.cons hdB .nil))) (smK.two smK) (by decide) (by decide) (iteF ?_)
        have htvB := htvA.up sB
        have htvaB := sB _ _ htvaA
        have DB := DA.up sB
        generalize upd (upd GA L5 (.lst [.ref dt])) L6 (.lst (List.replicate (2 : Int).toNat [V.ref dt]).flatten) = GB at htvB htvaB DB hdB sB s19
        clear s18 s19 sB nL5 nL6 etx htvA hdueA htvaA DA hdB
        dsimp only [tNext]
        refine ⟨.int n, rfl, .ref p, rfl, .int n, rfl, .ref tva, rfl, p, l, n, .ref tva, T, rfl, DB, n0, n1, htvB, okT, fun GC sv T8 DC EC hsv okS => ⟨n, sv, T8, rfl, n0, n1, hsv, okS, fun GD sD => ⟨true, rfl, ?_⟩⟩⟩
        refine iteF ?_
        have tsD : TS GB GD := (TS.deck DB EC).trans (TS.of sD)
        have htvD : Dq GD (.ref tva) (tabD T) := Dq.upT tsD (tab_flat _) htvB
        have htvaD := tsD _ _ htvaB
        have DD := DC.up sD
        refine ⟨.int n, rfl, .ref tva, rfl, tva, txs, rfl, SqT.of htvaD, n, .ref tva, T, rfl, n0, n1, htvD, okT, fun GE sE => ⟨true, rfl, iteF ?_⟩⟩
        have DE := DD.up sE
        clear tsD htvD htvaD DD sE sD hsv okS EC DC DB htvB htvaB
        dsimp only [tNext]
        refine ⟨.int n, rfl, .ref p, rfl, .int n, rfl, .ref p, rfl, by show 3 ≤ sizeLine; decide, fun L7 nL7 => ?_⟩
        obtain ⟨e4, D4, hid4⟩ := new_dq (o := .lst [.int 1, .int 2, .int 6]) DE nL7
        refine ⟨p, l, L7, _, rfl, D4, hid4, by simp, by decide, fun H5 v D5 E5 hv => ?_⟩
        obtain ⟨m, rfl, hm⟩ : ∃ m : Int, v = .int m ∧ m < 1073741824 := by
          simp only [List.mem_cons, List.not_mem_nil, or_false] at hv
          rcases hv with rfl | rfl | rfl <;> exact ⟨_, rfl, by decide⟩
        exact ⟨p, l, n, m, rfl, D5, n0, n1, hm, fun H6 v6 T6 D6 E6 hv6 hT6 => ⟨n, v6, T6, rfl, n0, n1, hv6, hT6, fun H7 s7 => ⟨true, rfl, iteF ⟨_, _, _, _, _, _, _, rfl, D6.up s7⟩⟩⟩⟩
    · rintro σ G ⟨v2, v3, v4, v5, v6, v7, v8, rfl, DG⟩
      exact q _
end
end Kr
namespace Kr
open PySem PySem.Spec PyProof.Rows L2
section
variable {P : Program} {w : World} {K : PySem.W.Frag} {mg : Str → Option Value} {base : Heap}
abbrev nLo : List Str := ["n", "size", "lots", "_", "lot", "place"]
theorem scLo : FnScope nLo ["n", "size"] (defScope sLotsOf) := ⟨rfl, rfl, rfl, by decide +kernel, rfl, by decide +kernel, by decide +kernel⟩
theorem f_lotsOf {f : Addr} {fd : FuncData} (F : Fun K "lots_of" "lots_of" sLotsOf f fd) (B : Bi mg) : FnOk P w K mg base CX0 1 f fd ["n", "size"] spLots := by
  refine F.ok scLo (fun vs H Q E h => ?_) (fun cdv A outer s H vs Q E hr h => ?_)
  · obtain ⟨n, s, rfl, _⟩ := h
    rfl
  · obtain ⟨n, s, rfl, hn, hs, q⟩ := h
    refine ⟨_, pss_cons (ps_set (i := 2) scLo.nd rfl (.inl rfl) (pe_lst (pa_cons (pe_tup pa_nil) pa_nil)))
      (pss_cons (ps_for PassesOwn.never rfl (pi_range1 (by rfl) B.range (pa_cons (pv 1) pa_nil)) (pg_name (i := 3) scLo.nd rfl (.inl rfl))
        (pss_one (ps_setLc2 (wi1 := iRng2 (tCons (tNextL K 4) (tCons (tVar 0) tNil))) (i := 2) (own := [("lot", 4), ("place", 5)]) (vs1 := [5]) (g := gName 4) (g1 := gName 5) (tt := tYes) (tt1 := tYes) rfl scLo.nd rfl rfl (sw_true rfl rfl rfl (by decide +kernel)) (pi_list (pv 2)) (blkOk_by (own := [("lot", 4), ("place", 5)]) (N := nLo) (sc := defScope sLotsOf) (by decide +kernel)) (by decide)
          (fun _ _ _ _ _ => pg_name (i := 4) scLo.nd rfl (.inl rfl)) (fun _ _ _ _ _ => pts_nil)
          (fun _ _ _ _ _ => by exact pi_range2 (by rfl) B.range (pa_cons (pe_ifExp (pt_truth (pv 4) (by intro _; rfl)) (pe_op op_add (pe_ix (r := rIxT K) ix_tup (pv 4) (pe_un un_neg pe_int) (fun _ _ => rfl)) pe_int) pe_int) (pa_cons (pv 0) pa_nil)))
          (fun _ _ _ _ _ => pg_name (i := 5) scLo.nd rfl (.inl rfl)) (fun _ _ _ _ _ => pts_nil)
          (fun _ _ _ _ _ => pe_op (r := rCatA K) op_catA (pv 4) (pe_tup (pa_cons (pv 5) pa_nil))))))
      (pss_one (ps_ret (pe_callTy call_tuple_of (by rfl) B.tuple (by decide +kernel) (pa_cons (pv 2) pa_nil))))), ?_⟩
    refine ⟨by show 0 ≤ sizeLine; decide, fun t nt => ⟨by show 1 ≤ sizeLine; decide, fun l0 nl0 => ?_⟩⟩
    have s0 := (same_new (o := .tup []) nt).trans (same_new (o := .lst [.ref t]) nl0)
    have ht0 : upd (upd H t (.tup [])) l0 (.lst [.ref t]) t = some (.tup (lv [])) := same_new (o := .lst [.ref t]) nl0 _ _ upd_same
    refine ⟨.int s, rfl, (s : Int), rfl, by omega, by omega, for_it (walk_rg (n := s)) (fun t σ H2 => ∃ (L : Addr) (us : List V) (v3 : Option V), σ = [some (.int n), some (.int s), some (.ref L), v3, none, none] ∧ (∀ b o, H b = some o → H2 b = some o) ∧ H2 L = some (.lst us) ∧ DqA H2 us ((lotsL n t).map lotD))
      ⟨l0, _, none, rfl, s0, upd_same, .cons (lot_at (l := []) ht0) .nil⟩ (fun _ _ _ _ _ => trivial) ?_ ?_⟩
    · rintro t x σ H2 H2' ht ⟨L, us, v3, rfl, sm, hL, qus⟩ ⟨rfl, rfl⟩
      have hul : us.length = (lotsL n t).length := by rw [qus.len, List.length_map]
      have hful : ((lotsL n t).flatMap (exts n)).length < 1000 := by
        have := lots_len n (by omega) (t + 1) (by omega)
        have h2 := ch_small n (by omega) (t + 1) (by omega)
        show (lotsL n (t + 1)).length < 1000
        omega
      refine ⟨.ref L, rfl, L, rfl, ⟨us, SqL.of hL⟩, fun D nD => ?_⟩
      refine lc2_it (walk_list (K := K) (a := L) (xs := us)) (fun i G => ∃ acc, G D = some (.lst acc) ∧ Same H2' G ∧ DqA G acc ((((lotsL n t).take i).flatMap (exts n)).map lotD)) ⟨[], upd_same, same_new nD, .nil⟩ (fun i G _ ⟨_, _, s2, _⟩ => SqL.of (s2 _ _ hL)) ?_ ?_
      · rintro i x G G' hi ⟨acc, hD, s2, qa⟩ ⟨rfl, hx⟩
        obtain ⟨l, hl, a, rfl, ha0⟩ := lots_get qus hx
        have ha := s2 _ _ ha0
        refine ⟨rfl, ?_⟩
        dsimp only [tYes]
        rw [if_pos rfl]
        refine next_val (l := l) rfl ha ⟨.int n, rfl, _, _, rfl, ⟨by omega, ?_, by omega, by omega⟩, ?_⟩
        · have hin := (lots_in n t l (List.mem_of_getElem? hl)).2
          by_cases hl0 : l = []
          · subst hl0
            rw [nx_nil]
            omega
          · have e : l = l.dropLast ++ [l.getLast hl0] := (List.dropLast_concat_getLast hl0).symm
            have := hin _ (List.getLast_mem hl0)
            rw [e, nx_snoc]
            omega
        have hnn : ((n : Int) - (nx l : Nat)).toNat = n - nx l := by omega
        rw [hnn]
        have hpre := flat_le (lotsL n t) (exts n) (i + 1)
        rw [flat_take hl, List.length_append] at hpre
        have hel : (exts n l).length = n - nx l := by unfold exts; rw [List.length_map, List.length_range']
        have hacc : acc.length = (((lotsL n t).take i).flatMap (exts n)).length := by rw [qa.len, List.length_map]
        refine inner_it (walk_range (lo := (nx l : Nat)) (n := n - nx l)) (fun j G2 => ∃ acc, G2 D = some (.lst acc) ∧ Same H2' G2 ∧ DqA G2 acc ((((lotsL n t).take i).flatMap (exts n) ++ (List.range' (nx l) j).map fun x => l ++ [x]).map lotD)) ⟨acc, hD, s2, by simpa using qa⟩ (fun _ _ _ _ => trivial) ?_ ?_
        · rintro j x G2 G2' hj ⟨acc2, hD2, s3, qa2⟩ ⟨rfl, rfl⟩
          refine ⟨rfl, ?_⟩
          dsimp only [tYes]
          rw [if_pos rfl]
          have ha2 : G2' a = some (.tup (lv l)) := s3 _ _ ha0
          refine ⟨.ref a, rfl, .int _, rfl, by show 1 ≤ sizeLine; decide, fun u nu => ?_⟩
          have su := same_new (o := .tup [.int ((nx l : Nat) + (j : Int))]) nu
          have hll : l.length ≤ 12 := by have := (lots_in n t l (List.mem_of_getElem? hl)).1; omega
          refine catA_k (su _ _ ha2) upd_same (by rw [lv_len]; show _ + 1 ≤ _; omega) fun y H5 s5 hy => ?_
          have hD5 := s5 _ _ (su _ _ hD2)
          have hl2 : acc2.length < 1000 := by
            have := qa2.len
            rw [List.length_map, List.length_append, List.length_map, List.length_range'] at this
            omega
          refine ⟨acc2, hD5, szm (by omega), acc2 ++ [.ref y], upd_same, fun b o hb => ?_, ?_⟩
          · rw [upd_ne (ne_of_none hb nD)]
            exact s5 _ _ (su _ _ (s3 _ _ hb))
          · have ts : TS H5 (upd H5 D (.lst (acc2 ++ [.ref y]))) := TS.lst hD5
            rw [range1_succ, List.map_append (f := fun x => l ++ [x]), ← List.append_assoc, List.map_append (f := lotD)]
            refine dqa_snoc (DqA.upT ts (lots_flat _) ((qa2.up su).up s5)) (Dq.upT ts (lot_flat _) ?_)
            refine lot_at ?_
            rw [hy, lv_snoc]
            simp
        · rintro G2 ⟨acc2, hD2, s3, qa2⟩
          refine ⟨acc2, hD2, s3, ?_⟩
          rw [flat_take hl]
          exact qa2
      · rintro G ⟨acc, hD, s2, qa⟩
        rw [hul, List.take_length] at qa
        exact ⟨D, acc, _, rfl, fun b o hb => s2 _ _ (sm _ _ hb), hD, qa⟩
    · rintro σ H2 ⟨L, us, v3, rfl, sm, hL, qus⟩
      exact ⟨.ref L, rfl, L, us, rfl, .inl ⟨SqL.of hL, fun t nt => q _ _ (fun b o hb => same_new nt _ _ (sm _ _ hb)) (.tup upd_same (qus.up (same_new nt)))⟩⟩
end
end Kr
namespace Kr
open PySem PySem.Spec PyProof.Rows L2
section
variable {P : Program} {w : World} {K : PySem.W.Frag} {mg : Str → Option Value} {base : Heap}
abbrev nAl : List Str := ["n", "size", "lot"]
theorem scAl : FnScope nAl ["n"] (defScope sAllLots) := ⟨rfl, rfl, rfl, by decide +kernel, rfl, by decide +kernel, by decide +kernel⟩
theorem o_all6 (D0 : Df K mg "all_lots" sAllLots ["n"]) (B : Bi mg) (hM : ∃ t, mg "MAX_TABLE" = some (.int 6 t)) (lo : Ok P w K mg base 1 "lots_of" ["n", "size"] spLots) : Ok P w K mg base 2 "all_lots" ["n"] spAll6 := by
  obtain ⟨tM, gM⟩ := hM
  refine D0.ok fun f fd F => F.ok scAl (fun vs H Q E h => ?_) (fun cdv A outer s H vs Q E hr h => ?_)
  · obtain ⟨n, rfl, _⟩ := h
    rfl
  · obtain ⟨n, rfl, hn6, q⟩ := h
    refine ⟨_, pss_cons (ps_if (pt_cmpR op_gt (pv 0) (pe_glob (v := .int 6) (by rfl) gM ⟨_, rfl⟩) (nomark _)) (pss_one ps_never) pss_nil)
      (pss_one (ps_ret (pe_callTy call_tuple_of (by rfl) B.tuple (by decide +kernel) (pa_cons
        (pe_lc2 (wi1 := iTup K (tCall spLots [] E0 (tCons (tVar 0) (tCons (tVar 1) tNil)))) (own := [("size", 1), ("lot", 2)]) (vs1 := [2]) (g := gName 1) (g1 := gName 2) (tt := tYes) (tt1 := tYes) rfl scAl.nd (pi_range1 (by rfl) B.range (pa_cons (pe_op op_add (pv 0) pe_int) pa_nil)) (blkOk_by (own := [("size", 1), ("lot", 2)]) (N := nAl) (sc := defScope sAllLots) (by decide +kernel)) (by decide)
          (fun _ _ _ _ _ => pg_name (i := 1) scAl.nd rfl (.inl rfl)) (fun _ _ _ _ _ => pts_nil)
          (fun _ _ _ _ _ => by exact pi_tup (pe_fn lo hr (by rfl) (pa_cons (pv 0) (pa_cons (pv 1) pa_nil))))
          (fun _ _ _ _ _ => pg_name (i := 2) scAl.nd rfl (.inl rfl)) (fun _ _ _ _ _ => pts_nil) (fun _ _ _ _ _ => pv 2)) pa_nil)))), ?_⟩
    refine ⟨.int n, rfl, _, _, rfl, rfl, _, rfl, ite2 (fun h6 => ?_) (fun h6 => ?_)⟩
    · have : (6 : Int) < n := of_decide_eq_true h6
      omega
    refine ⟨.int n, rfl, _, _, rfl, rfl, (n : Int) + 1, rfl, by omega, by omega, fun D nD => ?_⟩
    have hm : ((n : Int) + 1).toNat = n + 1 := by omega
    rw [hm]
    have hfull : ∀ i, i ≤ n + 1 → (((List.range (n + 1)).take i).flatMap (lotsL n)).length ≤ 1000 := by
      intro i hi
      have h1 := flat_le (List.range (n + 1)) (lotsL n) i
      have h2 : ∀ n : Nat, n < 7 → ((List.range (n + 1)).flatMap (lotsL n)).length ≤ 1000 := by decide +kernel
      have := h2 n (by omega)
      omega
    refine lc2_it (walk_rg (n := n + 1)) (fun i G => ∃ acc, G D = some (.lst acc) ∧ Same H G ∧ DqA G acc ((((List.range (n + 1)).take i).flatMap (lotsL n)).map lotD)) ⟨[], upd_same, same_new nD, .nil⟩ (fun _ _ _ _ => trivial) ?_ ?_
    · rintro i x G G' hi ⟨acc, hD, s2, qa⟩ ⟨rfl, rfl⟩
      refine ⟨rfl, ?_⟩
      dsimp only [tYes]
      rw [if_pos rfl]
      refine ⟨.int n, rfl, .int i, rfl, n, i, rfl, by omega, by omega, fun G2 v s3 hv => ?_⟩
      obtain ⟨a, xs, rfl, ha, qx2⟩ := Dq.tup_inv hv
      have hxl : xs.length = (lotsL n i).length := by rw [qx2.len, List.length_map]
      have hri : (List.range (n + 1))[i]? = some i := List.getElem?_range hi
      have hb := hfull (i + 1) (by omega)
      rw [flat_take hri, List.length_append] at hb
      refine ⟨a, rfl, ⟨xs, SqT.of ha⟩, ?_⟩
      refine inner_it (walk_tup (K := K) (a := a) (xs := xs)) (fun j G3 => ∃ acc, G3 D = some (.lst acc) ∧ Same H G3 ∧ G3 a = some (.tup xs) ∧ DqA G3 xs ((lotsL n i).map lotD) ∧ DqA G3 acc ((((List.range (n + 1)).take i).flatMap (lotsL n) ++ (lotsL n i).take j).map lotD)) ⟨acc, s3 _ _ hD, s2.trans s3, ha, qx2, by simpa using qa.up s3⟩ (fun j G3 _ ⟨_, _, _, h, _⟩ => SqT.of h) ?_ ?_
      · rintro j x G3 G3' hj ⟨acc2, hD2, s4, ha3, qxs, qa2⟩ ⟨rfl, hx⟩
        obtain ⟨l, hl, b, rfl, hbl⟩ := lots_get qxs hx
        refine ⟨rfl, ?_⟩
        dsimp only [tYes]
        rw [if_pos rfl]
        have hal : acc2.length ≤ 1000 := by
          have := qa2.len
          rw [List.length_map, List.length_append, List.length_take] at this
          omega
        have ts : TS G3' (upd G3' D (.lst (acc2 ++ [.ref b]))) := TS.lst hD2
        refine ⟨.ref b, rfl, acc2, hD2, szm (by omega), acc2 ++ [.ref b], upd_same, fun c o hc => ?_, ts _ _ ha3, DqA.upT ts (lots_flat _) qxs, ?_⟩
        · rw [upd_ne (ne_of_none hc nD)]
          exact s4 _ _ hc
        · rw [List.take_add_one, hl, ← List.append_assoc, List.map_append]
          exact dqa_snoc (DqA.upT ts (lots_flat _) qa2) (Dq.upT ts (lot_flat _) (lot_at hbl))
      · rintro G3 ⟨acc2, hD2, s4, ha3, qxs, qa2⟩
        refine ⟨acc2, hD2, s4, ?_⟩
        rw [hxl, List.take_length] at qa2
        rw [flat_take hri]
        exact qa2
    · rintro G ⟨acc, hD, s2, qa⟩
      have e : (List.range (n + 1)).take (n + 1) = List.range (n + 1) := List.take_of_length_le (by rw [List.length_range]; exact Nat.le_refl _)
      rw [e] at qa
      exact ⟨D, acc, rfl, .inl ⟨SqL.of hD, fun t nt => q _ _ (s2.trans (same_new nt)) (.tup upd_same (qa.up (same_new nt)))⟩⟩
end
end Kr
namespace Kr
open PySem PySem.Spec PyProof.Rows L2
section
variable {P : Program} {w : World} {K : PySem.W.Frag} {mg : Str → Option Value} {base : Heap}
theorem o_numsOf (D0 : Df K mg "numbers_of" sNumbersOf ["n", "size"]) (B : Bi mg) (C0 : mg "comb" = some (.builtin "math.comb")) (ln : Ok P w K mg base 1 "lot_number" ["n", "lot"] spNum) : Ok P w K mg base 2 "numbers_of" ["n", "size"] spNumsOf := by
  have scNo : FnScope ["n", "size", "first"] ["n", "size"] (defScope sNumbersOf) := ⟨rfl, rfl, rfl, by decide +kernel, rfl, by decide +kernel, by decide +kernel⟩
  refine D0.ok fun f fd F => F.ok scNo (fun vs H Q E h => ?_) (fun cdv A outer s H vs Q E hr h => ?_)
  · obtain ⟨n, s, rfl, _⟩ := h
    rfl
  · obtain ⟨n, s, rfl, hn, hs, q⟩ := h
    refine ⟨_, pss_cons (ps_set (i := 2) scNo.nd rfl (.inl rfl) (pe_fn ln hr (by rfl) (pa_cons (pv 0) (pa_cons (pe_tupRg rfl (by rfl) B.tuple (prg_1 (by rfl) B.range (pv 1))) pa_nil))))
      (pss_one (ps_ret (pe_listRg rfl (by rfl) B.list (prg_2 (by rfl) B.range (pv 2) (pe_op op_add (pv 2) (pe_callBG call_comb (by rfl) C0 (pa_cons (pv 0) (pa_cons (pv 1) pa_nil)))))))), ?_⟩
    refine ⟨.int n, rfl, .int s, rfl, (s : Int), rfl, RgOk.of_le (Int.le_refl _) (by omega) (by decide) (by omega), fun t nt => ?_⟩
    have ev : rgV 0 (s : Nat) = lv (List.range s) := by
      unfold rgV lv
      rw [show ((s : Int) - 0).toNat = s by omega]
      exact List.map_congr_left fun i _ => by simp
    rw [ev]
    have st := same_new (o := .tup (lv (List.range s))) nt
    refine ⟨n, t, List.range s, rfl, upd_same, range_asc hs, by omega, fun H2 s2 => ?_⟩
    rw [num_first n (by omega) s (by omega)]
    have hb := below_lt n (by omega) s (by omega)
    have h64 : 2 ^ n ≤ 64 := by have := all_few n (by omega); rw [all_len n (by omega)] at this; exact this
    refine ⟨.int (below n s : Nat), rfl, .int (below n s : Nat), rfl, .int n, rfl, .int s, rfl, _, _, rfl, by omega, by omega, by omega, ?_⟩
    rw [comb_val (show n < 26 by omega) (show s < 27 by omega) rfl rfl]
    refine ⟨_, _, rfl, rfl, _, _, rfl, rfl, RgOk.of_le (by omega) (by omega) (by omega) (by omega), fun p np => ?_⟩
    have e2 : rgV (below n s : Nat) (((below n s : Nat) : Int) + ((ch n s : Nat) : Int)) = (numsL n s).map V.int := by
      unfold rgV numsL
      rw [List.map_map, show (((below n s : Nat) : Int) + ((ch n s : Nat) : Int) - ((below n s : Nat) : Int)).toNat = ch n s by omega]
      exact List.map_congr_left fun i _ => by simp
    rw [e2]
    have s12 := st.trans s2
    exact q _ p (s12.trans (same_new np)) (s12.free np) upd_same
end
end Kr
namespace Kr
open PySem PySem.Spec PyProof.Rows L2
section
variable {P : Program} {w : World} {K : PySem.W.Frag} {mg : Str → Option Value} {base : Heap}
abbrev nLn : List Str := ["n", "lot", "size", "number", "least", "spot", "place", "fewer", "lesser"]
theorem scLn : FnScope nLn ["n", "lot"] (defScope sLotNum) := ⟨rfl, rfl, rfl, by decide +kernel, rfl, by decide +kernel, by decide +kernel⟩
theorem f_lotNum {f : Addr} {fd : FuncData} (F : Fun K "lot_number" "lot_number" sLotNum f fd) (B : Bi mg) (C0 : mg "comb" = some (.builtin "math.comb")) : FnOk P w K mg base CX0 1 f fd ["n", "lot"] spNum := by
  refine F.ok scLn (fun vs H Q E h => ?_) (fun cdv A outer s H vs Q E hr h => ?_)
  · obtain ⟨n, a, l, rfl, _⟩ := h
    rfl
  · obtain ⟨n, a, l, rfl, ha, hl, hn, q⟩ := h
    have hll := hl.len
    refine ⟨_, pss_cons (ps_set (i := 2) scLn.nd rfl (.inr rfl) (pe_callB call_len_seq (by rfl) B.len boot_len (pa_cons (pv 1) pa_nil)))
      (pss_cons (ps_set (i := 3) scLn.nd rfl (.inl rfl) (pe_callB (cr_sum rfl) (by rfl) B.sum (by decide +kernel) (pa_cons
        (pe_lc (own := [("fewer", 7)]) (g := gName 7) (tt := tYes) rfl scLn.nd (pi_range1 (by rfl) B.range (pa_cons (pv 2) pa_nil)) (blkOk_by (own := [("fewer", 7)]) (N := nLn) (sc := defScope sLotNum) (by decide +kernel)) (fun _ _ _ _ _ => pg_name (i := 7) scLn.nd rfl (.inl rfl)) (fun _ _ _ _ _ => pts_nil)
          (fun _ _ _ _ _ => pe_callBG call_comb (by rfl) C0 (pa_cons (pv 0) (pa_cons (pv 7) pa_nil)))) pa_nil)))
      (pss_cons (ps_set (i := 4) scLn.nd rfl (.inl rfl) pe_int)
      (pss_cons (ps_for PassesOwn.never rfl (pi_enumT (by rfl) B.enumerate (pa_cons (pv 1) pa_nil)) (pg_tup rfl (pgs_cons (pg_name (i := 5) scLn.nd rfl (.inr rfl)) (pgs_cons (pg_name (i := 6) scLn.nd rfl (.inl rfl)) pgs_nil)))
        (pss_cons (ps_aug (i := 3) scLn.nd rfl (.inl rfl) (pe_callB (cr_sum rfl) (by rfl) B.sum (by decide +kernel) (pa_cons
          (pe_lc (own := [("lesser", 8)]) (g := gName 8) (tt := tYes) rfl scLn.nd (pi_range2 (by rfl) B.range (pa_cons (pv 4) (pa_cons (pv 6) pa_nil))) (blkOk_by (own := [("lesser", 8)]) (N := nLn) (sc := defScope sLotNum) (by decide +kernel)) (fun _ _ _ _ _ => pg_name (i := 8) scLn.nd rfl (.inl rfl)) (fun _ _ _ _ _ => pts_nil)
            (fun _ _ _ _ _ => pe_callBG call_comb (by rfl) C0 (pa_cons (pe_op op_sub (pe_op op_sub (pv 0) pe_int) (pv 8)) (pa_cons (pe_op op_sub (pe_op op_sub (pv 2) pe_int) (pv 5)) pa_nil)))) pa_nil)) ip_add)
        (pss_one (ps_set (i := 4) scLn.nd rfl (.inl rfl) (pe_op op_add (pv 6) pe_int)))))
      (pss_one (ps_ret (pv 3)))))), ?_⟩
    refine ⟨.ref a, rfl, a, _, rfl, .inr (SqT.of ha), ?_⟩
    rw [lv_len]
    refine ⟨.int (l.length : Nat), rfl, (l.length : Nat), rfl, by omega, by omega, fun D nD => ?_⟩
    refine lc_itF (walk_rg (n := l.length)) (fun k => .int ((ch n k : Nat) : Int)) nD (by omega) (fun _ _ => rfl) (fun _ _ => trivial) (fun k x G G' C Cn hk s1 y c => ?_) (fun G acc s1 hD qa => ?_)
    · obtain ⟨rfl, rfl⟩ := y
      refine ⟨rfl, ?_⟩
      dsimp only [tYes]
      rw [if_pos rfl]
      refine ⟨.int n, rfl, .int k, rfl, _, _, rfl, by omega, by omega, by omega, ?_⟩
      rw [comb_val (show n < 26 by omega) (show k < 27 by omega) rfl rfl]
      exact c _ _ (Same.refl _) (.int _)
    have eacc : acc = ((List.range l.length).map fun k => ((ch n k : Nat) : Int)).map V.int := dqa_int (by rw [List.map_map]; exact qa)
    subst eacc
    refine ⟨D, _, rfl, SqL.of hD, ?_⟩
    have esum : ((List.range l.length).map fun k => ((ch n k : Nat) : Int)).sum = ((below n l.length : Nat) : Int) := by
      unfold below
      rw [← sum_cast, List.map_map]
      rfl
    rw [esum]
    have ha1 := s1 _ _ ha
    refine ⟨.ref a, rfl, a, _, rfl, SqT.of ha1, for_it walk_enumT (fun i σ H2 => ∃ (nb least : Nat) (v5 v6 : Option V), σ = [some (.int n), some (.ref a), some (.int (l.length : Nat)), some (.int (nb : Nat)), some (.int (least : Nat)), v5, v6, none, none] ∧ Same G H2 ∧ nb + numGo n least (l.drop i) = below n l.length + numGo n 0 l ∧ ∀ x ∈ l.drop i, least ≤ x)
      ⟨_, 0, none, none, rfl, Same.refl _, rfl, fun _ _ => Nat.zero_le _⟩ (fun i σ H2 _ ⟨_, _, _, _, _, sm, _⟩ => SqT.of (sm _ _ ha1)) ?_ ?_⟩
    · rintro i _ σ H2 _ hi ⟨nb, least, v5, v6, rfl, sm, enb, hle⟩ ⟨T, x, y, rfl, nT, rfl, e1, e2⟩
      cases Option.some.inj e1
      rw [lv_len] at hi
      have ex : l[i]? = some l[i] := List.getElem?_eq_getElem hi
      have ey : y = .int ((l[i] : Nat) : Int) := by
        have e6 : (lv l)[i]? = some y := e2
        unfold lv at e6
        rw [List.getElem?_map, ex] at e6
        exact (Option.some.inj e6).symm
      subst ey
      rw [List.drop_eq_getElem_cons hi] at enb hle
      have hxn := (hl.2 _ (List.getElem_mem hi)).2
      have hxl := hle _ List.mem_cons_self
      generalize hz : l[i] = z at enb hle hxn hxl
      have sT : Same H2 (upd H2 T (.tup [.int (i : Nat), .int (z : Nat)])) := same_new nT
      refine ⟨T, [.int (i : Nat), .int (z : Nat)], rfl, SqT.of upd_same, rfl, .int (i : Nat), [.int (z : Nat)], rfl, .int (z : Nat), [], rfl, rfl, ?_⟩
      refine ⟨.int (nb : Nat), rfl, .int (least : Nat), rfl, .int (z : Nat), rfl, _, _, rfl, ⟨by omega, by omega, by omega, by omega⟩, fun D2 nD2 => ?_⟩
      have hzl : ((z : Int) - (least : Nat)).toNat = z - least := by omega
      rw [hzl]
      have hdl : (l.drop (i + 1)).length = l.length - (i + 1) := List.length_drop
      refine lc_itF (walk_range (lo := (least : Nat)) (n := z - least)) (fun j => .int ((ch (n - 1 - (least + j)) (l.drop (i + 1)).length : Nat) : Int)) nD2 (by omega) (fun _ _ => rfl) (fun _ _ => trivial) (fun j x G3 G3' C Cn hj s3 y c => ?_) (fun G3 acc s3 hD2 qa2 => ?_)
      · obtain ⟨rfl, rfl⟩ := y
        refine ⟨rfl, ?_⟩
        dsimp only [tYes]
        rw [if_pos rfl]
        refine ⟨.int n, rfl, _, _, rfl, rfl, .int _, rfl, _, _, rfl, rfl, .int (l.length : Nat), rfl, _, _, rfl, rfl, .int (i : Nat), rfl, _, _, rfl, rfl, _, _, rfl, by omega, by omega, by omega, ?_⟩
        rw [comb_val (n := n - 1 - (least + j)) (k := (l.drop (i + 1)).length) (by omega) (by omega) (by omega) (by omega)]
        exact c _ _ (Same.refl _) (.int _)
      have eacc : acc = ((List.range (z - least)).map fun j => ((ch (n - 1 - (least + j)) (l.drop (i + 1)).length : Nat) : Int)).map V.int := dqa_int (by rw [List.map_map]; exact qa2)
      subst eacc
      refine ⟨D2, _, rfl, SqL.of hD2, _, _, rfl, rfl, ?_⟩
      have esum : ((List.range (z - least)).map fun j => ((ch (n - 1 - (least + j)) (l.drop (i + 1)).length : Nat) : Int)).sum = ((((List.range (z - least)).map fun j => ch (n - 1 - (least + j)) (l.drop (i + 1)).length).sum : Nat) : Int) := by
        rw [← sum_cast, List.map_map]
        rfl
      rw [esum]
      refine ⟨.int (z : Nat), rfl, _, _, rfl, rfl, ?_⟩
      refine ⟨nb + ((List.range (z - least)).map fun j => ch (n - 1 - (least + j)) (l.drop (i + 1)).length).sum, z + 1, _, _, rfl, sm.trans (sT.trans s3), ?_, fun x hx => ?_⟩
      · simp only [numGo] at enb
        omega
      · have hp : (l.drop i).Pairwise (· < ·) := hl.1.sublist (List.drop_sublist _ _)
        rw [List.drop_eq_getElem_cons hi, hz] at hp
        exact (List.pairwise_cons.mp hp).1 x hx
    · rintro σ H2 ⟨nb, least, v5, v6, rfl, sm, enb, hle⟩
      rw [lv_len, List.drop_of_length_le (Nat.le_refl _)] at enb
      refine ⟨.int (nb : Nat), rfl, ?_⟩
      have e : nb = num n l := by
        rw [num_go hl]
        exact enb
      rw [e]
      exact q H2 (s1.trans sm)
end
end Kr
namespace Kr
open PySem PySem.Spec PyProof.Rows L2
section
variable {P : Program} {w : World} {K : PySem.W.Frag} {mg : Str → Option Value} {base : Heap}
theorem o_goal (D0 : Df K mg "goal" sGoal ["n", "entry"]) (B : Bi mg) : Ok P w K mg base 1 "goal" ["n", "entry"] spGoal := by
  have scGo : FnScope ["n", "entry", "place"] ["n", "entry"] (defScope sGoal) := ⟨rfl, rfl, rfl, by decide +kernel, rfl, by decide +kernel, by decide +kernel⟩
  refine D0.ok fun f fd F => F.ok scGo (fun vs H Q E h => ?_) (fun cdv A outer s H vs Q E hr h => ?_)
  · obtain ⟨n, a, e, rfl, _⟩ := h
    rfl
  · obtain ⟨n, a, e, rfl, hn, ha, q⟩ := h
    refine ⟨_, pss_one (ps_ret (pe_callTy call_tuple_of (by rfl) B.tuple (by decide +kernel) (pa_cons
      (pe_lc (own := [("place", 2)]) (g := gName 2) rfl scGo.nd (pi_range1 (by rfl) B.range (pa_cons (pv 0) pa_nil)) (blkOk_by (own := [("place", 2)]) (N := ["n", "entry", "place"]) (sc := defScope sGoal) (by decide +kernel))
        (fun _ _ _ _ _ => pg_name (i := 2) scGo.nd rfl (.inl rfl)) (fun _ _ _ _ _ => pts_one (pt_cmpR (r := rIn K true) op_notIn_seq (pv 2) (pv 1) rfl))
        (fun _ _ _ _ _ => pv 2)) pa_nil))), ?_⟩
    refine ⟨.int n, rfl, (n : Int), rfl, by omega, by omega, fun D nD => ?_⟩
    refine lc_it (walk_rg (n := n)) (fun i G => G D = some (.lst (lv ((List.range i).filter fun (x : Nat) => !decide ((x : Int) ∈ e)))) ∧ Same H G) ⟨upd_same, same_new nD⟩ (fun _ _ _ _ => trivial) ?_ ?_
    · rintro i x G G' hi ⟨hD, s1⟩ ⟨rfl, rfl⟩
      refine ⟨rfl, .int i, rfl, .ref a, rfl, a, _, rfl, .inr (SqT.of (s1 _ _ ha)), rfl, int_fl e, _, rfl, ?_⟩
      have er : (List.range (i + 1)).filter (fun (x : Nat) => !decide ((x : Int) ∈ e)) = (List.range i).filter (fun (x : Nat) => !decide ((x : Int) ∈ e)) ++ (if (i : Int) ∈ e then [] else [i]) := by
        rw [List.range_succ, List.filter_append]
        by_cases hm : (i : Int) ∈ e
        · rw [if_pos hm]
          simp [hm]
        · rw [if_neg hm]
          simp [hm]
      rw [inV_int, er]
      by_cases hm : (i : Int) ∈ e
      · rw [decide_eq_true hm, if_pos hm, List.append_nil]
        exact iteF ⟨hD, s1⟩
      · rw [decide_eq_false hm, if_neg hm]
        refine iteT ⟨_, rfl, _, hD, szm ?_, ?_, fun b o hb => ?_⟩
        · rw [lv_len]
          have := List.length_filter_le (fun (x : Nat) => !decide ((x : Int) ∈ e)) (List.range i)
          rw [List.length_range] at this
          omega
        · rw [upd_same]
          simp [lv]
        · rw [upd_ne (ne_of_none hb nD)]
          exact s1 _ _ hb
    · rintro G ⟨hD, s1⟩
      exact ⟨D, _, rfl, .inl ⟨SqL.of hD, fun t nt => q _ t (s1.trans (same_new nt)) upd_same⟩⟩
end
end Kr
namespace Kr
open PySem PySem.Spec PyProof.Rows L2
section
variable {P : Program} {w : World} {K : PySem.W.Frag} {mg : Str → Option Value} {base : Heap}
theorem o_numbers (D0 : Df K mg "numbers_of_lots" sNumbers ["n"]) (B : Bi mg) (al : Ok P w K mg base 2 "all_lots" ["n"] spAll6) : Ok P w K mg base 3 "numbers_of_lots" ["n"] spNumbers := by
  have scNu : FnScope ["n", "number", "lot"] ["n"] (defScope sNumbers) := ⟨rfl, rfl, rfl, by decide +kernel, rfl, by decide +kernel, by decide +kernel⟩
  refine D0.ok fun f fd F => F.ok scNu (fun vs H Q E h => ?_) (fun cdv A outer s H vs Q E hr h => ?_)
  · obtain ⟨n, rfl, _⟩ := h
    rfl
  · obtain ⟨n, rfl, hn, q⟩ := h
    have hu2 : (cxOf CX0 P w K mg base ["n", "number", "lot"] "numbers_of_lots" (defScope sNumbers) f cdv A outer s H E).A.units < cLine := Nat.lt_of_le_of_lt (Nat.le_add_right _ 64) hr.units
    refine ⟨_, pss_one (ps_ret (pe_dcT (own := [("number", 1), ("lot", 2)]) (g := gTup K 2 (gCons (gName 1) (gCons (gName 2) gNil))) (tt := tYes) hu2 rfl scNu.nd (pi_enumT (by rfl) B.enumerate (pa_cons (pe_fn al hr (by rfl) (pa_cons (pv 0) pa_nil)) pa_nil)) (blkOk_by (own := [("number", 1), ("lot", 2)]) (N := ["n", "number", "lot"]) (sc := defScope sNumbers) (by decide +kernel))
        (fun _ _ _ _ _ => pg_tup rfl (pgs_cons (pg_name (i := 1) scNu.nd rfl (.inl rfl)) (pgs_cons (pg_name (i := 2) scNu.nd rfl (.inl rfl)) pgs_nil))) (fun _ _ _ _ _ => pts_nil)
        (fun _ _ _ _ _ => pv 2) (fun _ _ _ _ _ => pv 1))), ?_⟩
    refine ⟨.int n, rfl, n, rfl, hn, fun H1 lv1 s1 hl1 => ?_⟩
    obtain ⟨la, ks, rfl, hla, qk⟩ := Dq.tup_inv hl1
    have hal := all_few n (by omega)
    have hkl : ks.length = (allL n).length := by rw [qk.len, List.length_map]
    refine ⟨la, _, rfl, SqT.of hla, fun D nD => ?_⟩
    refine dcT_it walk_enumT (fun i G => ∃ es, G D = some (.dT es) ∧ Same H1 G ∧ es.length ≤ i ∧ ∀ j l, j < i → (allL n)[j]? = some l → valV es (lotK l) = some (.int (j : Nat)))
      ⟨[], upd_same, same_new nD, Nat.zero_le _, fun j _ h _ => absurd h (Nat.not_lt_zero j)⟩ (fun i G _ ⟨_, _, sm, _⟩ => SqT.of (sm _ _ hla)) ?_ ?_
    · rintro i _ G _ hi ⟨es, hD, sm, hlen, hes⟩ ⟨t, x, y, rfl, nt, rfl, e1, e2⟩
      cases Option.some.inj e1
      obtain ⟨l, hl, lb, rfl, hlb⟩ := lots_get qk e2
      have st := same_new (o := .tup [.int (i : Nat), .ref lb]) nt
      refine ⟨t, [.int (i : Nat), .ref lb], rfl, SqT.of upd_same, rfl, .int (i : Nat), [.ref lb], rfl, .ref lb, [], rfl, rfl, rfl, ?_⟩
      dsimp only [tYes]
      rw [if_pos rfl]
      refine ⟨.ref lb, rfl, .int (i : Nat), rfl, es, lotK l, lb, rfl, by rw [lotK_v]; exact st _ _ (sm _ _ hlb), st _ _ hD, szl (by omega), putK es (lotK l) (.int (i : Nat)), upd_same, fun b o hb => ?_, ?_, fun j l' hj hl' => ?_⟩
      · rw [upd_ne (ne_of_none hb nD)]
        exact st _ _ (sm _ _ hb)
      · have := length_putK es (lotK l) (V.int (i : Nat))
        omega
      · rw [valV_put]
        by_cases ek : lotK l' = lotK l
        · have := lotK_inj ek
          subst this
          have e1 := (all_num_at hn hl).1
          have e2 := (all_num_at hn hl').1
          rw [if_pos ek]
          rw [show j = i by omega]
        · rw [if_neg ek]
          refine hes j l' ?_ hl'
          rcases Nat.lt_or_ge j i with c | c
          · exact c
          · have : j = i := by omega
            subst this
            rw [hl] at hl'
            exact absurd (by rw [Option.some.inj hl']) ek
    · rintro G ⟨es, hD, sm, hlen, hes⟩
      refine q G D es (s1.trans sm) hD fun l hl => ?_
      obtain ⟨j, hj, ej⟩ := List.getElem_of_mem hl
      have e1 : (allL n)[j]? = some l := by rw [List.getElem?_eq_getElem hj, ej]
      rw [(all_num_at hn e1).1]
      exact hes j l (by omega) e1
end
end Kr
namespace Kr
open PySem PySem.Spec PyProof.Rows L2
section
variable {P : Program} {w : World} {K : PySem.W.Frag} {mg : Str → Option Value} {base : Heap}
theorem o_aims (D0 : Df K mg "aims_of" sAims ["n", "table"]) (B : Bi mg) (go : Ok P w K mg base 1 "goal" ["n", "entry"] spGoal) (nu : Ok P w K mg base 3 "numbers_of_lots" ["n"] spNumbers) : Ok P w K mg base 4 "aims_of" ["n", "table"] spAims := by
  have scAi : FnScope ["n", "table", "numbers", "entry"] ["n", "table"] (defScope sAims) := ⟨rfl, rfl, rfl, by decide +kernel, rfl, by decide +kernel, by decide +kernel⟩
  refine D0.ok fun f fd F => F.ok scAi (fun vs H Q E h => ?_) (fun cdv A outer s H vs Q E hr h => ?_)
  · obtain ⟨n, v, T, rfl, _⟩ := h
    rfl
  · obtain ⟨n, v, T, rfl, hn, hv, hTl, hT, q⟩ := h
    have hr1 := hr.mono (show 1 ≤ 3 by decide)
    have hu := hu_of hr
    refine ⟨_, pss_cons (ps_set (i := 2) scAi.nd rfl (.inr rfl) (pe_fn nu hr (by rfl) (pa_cons (pv 0) pa_nil)))
      (pss_one (ps_ret (pe_lc (own := [("entry", 3)]) (g := gName 3) (tt := tYes) rfl scAi.nd (pi_tup (pv 1)) (blkOk_by (own := [("entry", 3)]) (N := ["n", "table", "numbers", "entry"]) (sc := defScope sAims) (by decide +kernel))
        (fun _ _ _ _ _ => pg_name (i := 3) scAi.nd rfl (.inl rfl)) (fun _ _ _ _ _ => pts_nil)
        (fun _ _ _ _ _ => pe_dget hu (pv 2) (pe_fn go hr1 (by rfl) (pa_cons (pv 0) (pa_cons (pv 3) pa_nil))) (fun _ _ => rfl))))), ?_⟩
    refine ⟨.int n, rfl, n, rfl, hn, fun H1 nb kvs s1 hnb hkv => ?_⟩
    have hv1 := hv.up s1
    obtain ⟨va, xs, rfl, hva, qx⟩ := Dq.tup_inv hv1
    have hxl : xs.length = T.length := by rw [qx.len, List.length_map]
    refine ⟨.ref va, rfl, va, rfl, ⟨xs, SqT.of hva⟩, fun D nD => ?_⟩
    refine lc_itF (walk_tup (K := K) (a := va) (xs := xs)) (fun i => .int ((num n (goalE n (T.getD i [])) : Nat) : Int)) nD (by omega) (fun _ _ => rfl) (fun G s => SqT.of (s _ _ hva)) (fun i x G G' C Cn hi s2 y c => ?_) (fun G acc s2 hD qa => ?_)
    · obtain ⟨rfl, hx⟩ := y
      obtain ⟨e, he, ea, rfl, hea⟩ := ents_get qx hx
      have hgo := hT e (List.mem_of_getElem? he)
      rw [getD_of he] at c
      refine ⟨rfl, ?_⟩
      dsimp only [tYes]
      rw [if_pos rfl]
      refine ⟨.ref nb, rfl, .int n, rfl, .ref ea, rfl, n, ea, e, rfl, by omega, s2 _ _ hea, fun G2 t s3 ht => ?_⟩
      refine ⟨nb, .int (num n (goalE n e) : Nat), rfl, ?_, c _ _ s3 (.int _)⟩
      rw [← hkv _ hgo]
      exact DGet.t (s3 _ _ (s2 _ _ hnb)) (by rw [lotK_v]; exact ht)
    rw [hxl, map_getD (fun e => PyData.int ((num n (goalE n e) : Nat) : Int))] at qa
    have ea : acc = (aimsT n T).map V.int := dqa_int (by unfold aimsT; rw [List.map_map]; exact qa)
    subst ea
    exact q G D (s1.trans s2) (s1.free nD) hD
end
end Kr
namespace Kr
open PySem PySem.Spec PyProof.Rows L2
section
variable {P : Program} {w : World} {K : PySem.W.Frag} {mg : Str → Option Value} {base : Heap}
abbrev nCr : List Str := ["entries", "entry", "place"]
theorem scCr : FnScope nCr ["entries"] (defScope sCarryingsSign) := ⟨rfl, rfl, rfl, by decide +kernel, rfl, by decide +kernel, by decide +kernel⟩
def scopeCr : Scope := { kind := ScopeKind.function, names := [(".0", NameKind.local), ("entry", NameKind.local), ("sign_of", NameKind.globalImplicit)], isGenerator := false, isCoroutine := false }
theorem o_carry (D0 : Df K mg "carryings_sign" sCarryingsSign ["entries"]) (B : Bi mg) (so : Ok P w K mg base 1 "sign_of" ["ways"] spSign) : Ok P w K mg base 2 "carryings_sign" ["entries"] spCarry := by
  refine D0.ok fun f fd F => F.ok scCr (fun vs H Q E h => ?_) (fun cdv A outer s H vs Q E hr h => ?_)
  · obtain ⟨a, us, es, rfl, _⟩ := h
    rfl
  · obtain ⟨a, us, es, rfl, ha, qa, hl, hel, q⟩ := h
    refine ⟨_, pss_one (ps_ret (pe_op op_mod (pe_callB (cr_sum rfl) (by rfl) B.sum (by decide +kernel) (pa_cons
        (pe_lc (te := tCall spSign [] E0 (tCons (tLc (iTup K (tVar 1)) (gName 2) (tTest (tOp rNe (tVar 2) (tUn (rU fun i => .int (-i)) (tC (.int 1))))) (tVar 2) [2]) tNil)) (own := [("entry", 1)]) (g := gName 1) (tt := tYes) rfl scCr.nd (pi_list (pv 0)) (blkOk_by (own := [("entry", 1)]) (N := nCr) (sc := defScope sCarryingsSign) (by decide +kernel))
          (fun _ _ _ _ _ => pg_name (i := 1) scCr.nd rfl (.inl rfl)) (fun _ _ _ _ _ => pts_nil)
          (fun _ _ _ _ _ => by exact pe_fn so hr (by rfl) (pa_cons (pe_lc (own := [("place", 2)]) (g := gName 2) rfl scCr.nd (pi_tup (pv 1)) (blkOk_by (own := [("place", 2)]) (N := nCr) (sc := scopeCr) (by decide +kernel))
            (fun _ _ _ _ _ => pg_name (i := 2) scCr.nd rfl (.inl rfl)) (fun _ _ _ _ _ => pts_one (pt_cmpR op_ne (pv 2) (pe_un un_neg pe_int) (nomark _))) (fun _ _ _ _ _ => pv 2)) pa_nil))) pa_nil)) pe_int)), ?_⟩
    have hul : us.length = es.length := by rw [qa.len, List.length_map]
    refine ⟨.ref a, rfl, a, rfl, ⟨_, SqL.of ha⟩, fun D nD => ?_⟩
    refine lc_itF (walk_list (K := K) (a := a) (xs := us)) (fun i => .int (bi (sgI (ridE (es.getD i []))))) nD (by omega) (fun _ _ => rfl) (fun G s => SqL.of (s _ _ ha)) (fun i x G G' C Cn hi s1 y c => ?_) (fun G acc s1 hD qb => ?_)
    · obtain ⟨rfl, hx⟩ := y
      obtain ⟨e, he, ea, rfl, hea⟩ := ents_get qa hx
      rw [getD_of he] at c
      have hee := hel e (List.mem_of_getElem? he)
      refine ⟨rfl, ?_⟩
      dsimp only [tYes]
      rw [if_pos rfl]
      refine ⟨.ref ea, rfl, ea, rfl, ⟨_, SqT.of (s1 _ _ hea)⟩, fun D2 nD2 => ?_⟩
      have hea1 := s1 _ _ hea
      refine lc_it (walk_tup (K := K) (a := ea) (xs := e.map V.int)) (fun j G2 => G2 D2 = some (.lst ((ridE (e.take j)).map V.int)) ∧ Same G' G2) ⟨upd_same, same_new nD2⟩ (fun _ _ _ ⟨_, s2⟩ => SqT.of (s2 _ _ hea1)) ?_ ?_
      · rintro j x _ G2 hj ⟨hD2, s2⟩ ⟨rfl, hx⟩
        rw [List.length_map] at hj
        have ex : x = .int (e.getD j 0) := by
          rw [List.getElem?_map, getD_get hj] at hx
          exact (Option.some.inj hx).symm
        subst ex
        have er : ridE (e.take (j + 1)) = ridE (e.take j) ++ (if e.getD j 0 = -1 then [] else [e.getD j 0]) := by
          unfold ridE
          rw [List.take_add_one, getD_get hj, List.filter_append]
          generalize e.getD j 0 = z
          by_cases hm : z = -1
          · rw [if_pos hm]
            simp [hm]
          · rw [if_neg hm]
            simp [hm]
        rw [er]
        generalize e.getD j 0 = z
        refine ⟨rfl, .int z, rfl, 1, rfl, rfl, _, rfl, ?_⟩
        by_cases hz : z = -1
        · rw [decide_eq_true (show V.int z = V.int (-1) by rw [hz]), if_pos hz, List.append_nil]
          exact iteF ⟨hD2, s2⟩
        · rw [decide_eq_false (fun y => hz (V.int.inj y)), if_neg hz]
          refine iteT ⟨_, rfl, _, hD2, szm ?_, ?_, fun b o hb => ?_⟩
          · rw [List.length_map]
            have := List.length_filter_le (fun x => !decide (x = -1)) (e.take j)
            rw [List.length_take] at this
            show (ridE (e.take j)).length ≤ _
            unfold ridE
            omega
          · rw [upd_same, List.map_append]
            rfl
          · rw [upd_ne (ne_of_none hb nD2)]
            exact s2 _ _ hb
      · rintro G2 ⟨hD2, s2⟩
        rw [List.length_map, List.take_length] at hD2
        have hfl := List.length_filter_le (fun x => !decide (x = -1)) e
        exact ⟨D2, ridE e, rfl, hD2, by unfold ridE; omega, fun H' s3 => c _ _ (s2.trans s3) (.int _)⟩
    rw [hul, map_getD (fun e => PyData.int (bi (sgI (ridE e))))] at qb
    have eacc : acc = (es.map fun e => bi (sgI (ridE e))).map V.int := dqa_int (by rw [List.map_map]; exact qb)
    subst eacc
    refine ⟨D, _, rfl, SqL.of hD, _, _, rfl, rfl, (by show (0 : Int) < 2; decide), ?_⟩
    dsimp only
    rw [sgR_sum]
    exact q G s1
end
end Kr
namespace Kr
open PySem PySem.Spec PyProof.Rows L2
section
variable {P : Program} {w : World} {K : PySem.W.Frag} {mg : Str → Option Value} {base : Heap}
abbrev nSg : List Str := ["ways", "turned", "spot", "way", "ahead"]
theorem scSg : FnScope nSg ["ways"] (defScope sSignOf) := ⟨rfl, rfl, rfl, by decide +kernel, rfl, by decide +kernel, by decide +kernel⟩
theorem rep_snoc {α : Type} (k : Nat) (a : α) : List.replicate k a ++ [a] = List.replicate (k + 1) a := by rw [List.replicate_succ']
theorem o_signOf (D0 : Df K mg "sign_of" sSignOf ["ways"]) (B : Bi mg) : Ok P w K mg base 1 "sign_of" ["ways"] spSign := by
  refine D0.ok fun f fd F => F.ok scSg (fun vs H Q E h => ?_) (fun cdv A outer s H vs Q E hr h => ?_)
  · obtain ⟨a, xs, rfl, _⟩ := h
    rfl
  · obtain ⟨a, xs, rfl, ha, hl, q⟩ := h
    refine ⟨_, pss_cons (ps_set (i := 1) scSg.nd rfl (.inl rfl) (pe_callB (cr_sum rfl) (by rfl) B.sum (by decide +kernel) (pa_cons
        (pe_lc2 (wi1 := iList K (tSl (rSlL K) (tVar 0) tNoPart (tPart (tVar 2)))) (own := [("spot", 2), ("way", 3), ("ahead", 4)]) (vs1 := [4]) (g := gTup K 2 (gCons (gName 2) (gCons (gName 3) gNil))) (g1 := gName 4) (tt := tYes) rfl scSg.nd (pi_enum (by rfl) B.enumerate (pa_cons (pv 0) pa_nil)) (blkOk_by (own := [("spot", 2), ("way", 3), ("ahead", 4)]) (N := nSg) (sc := defScope sSignOf) (by decide +kernel)) (by decide)
          (fun _ _ _ _ _ => pg_tup rfl (pgs_cons (pg_name (i := 2) scSg.nd rfl (.inl rfl)) (pgs_cons (pg_name (i := 3) scSg.nd rfl (.inl rfl)) pgs_nil))) (fun _ _ _ _ _ => pts_nil)
          (fun _ _ _ _ _ => by exact pi_list (pe_slice sl_list (pv 0) po_none (po_some (pv 2))))
          (fun _ _ _ _ _ => pg_name (i := 4) scSg.nd rfl (.inl rfl)) (fun _ _ _ _ _ => pts_one (pt_cmpR op_gt (pv 4) (pv 3) (nomark _))) (fun _ _ _ _ _ => pe_int)) pa_nil)))
      (pss_one (ps_ret (pe_op op_mod (pv 1) pe_int))), ?_⟩
    refine ⟨.ref a, rfl, a, _, rfl, SqL.of ha, fun D nD => ?_⟩
    have few : ∀ i, i ≤ xs.length → invS xs i ≤ 10000 := fun i hi => Nat.le_trans (invS_le xs i 100 (by omega)) (by omega)
    refine lc2_it walk_enum (fun i G => G D = some (.lst (List.replicate (invS xs i) (V.int 1))) ∧ Same H G) ⟨by rw [upd_same]; rfl, same_new nD⟩ (fun i G _ ⟨_, sm⟩ => SqL.of (sm _ _ ha)) ?_ ?_
    · rintro i _ G _ hi ⟨hD, sm⟩ ⟨T, x, y, rfl, nT, rfl, e1, e2⟩
      cases Option.some.inj e1
      rw [List.length_map] at hi
      have ey : y = .int (xs.getD i 0) := by
        have e4 : (xs.map V.int)[i]? = some y := e2
        rw [List.getElem?_map, getD_get hi] at e4
        exact (Option.some.inj e4).symm
      subst ey
      have sT := same_new (o := .tup [.int (i : Nat), .int (xs.getD i 0)]) nT
      refine ⟨T, [.int (i : Nat), .int (xs.getD i 0)], rfl, SqT.of upd_same, rfl, .int (i : Nat), [.int (xs.getD i 0)], rfl, .int (xs.getD i 0), [], rfl, rfl, rfl, ?_⟩
      have hDT := sT _ _ hD
      have smT := sm.trans sT
      generalize upd G T (.tup [.int (i : Nat), .int (xs.getD i 0)]) = G1 at hDT smT
      dsimp only [tYes]
      rw [if_pos rfl]
      refine ⟨.ref a, rfl, .int (i : Nat), rfl, (i : Nat), rfl, a, _, rfl, SqL.of (smT _ _ ha), fun p np => ?_⟩
      rw [cut_to (by rw [List.length_map]; omega), ← List.map_take]
      have sp := same_new (o := .lst ((xs.take i).map V.int)) np
      have hp : upd G1 p (.lst ((xs.take i).map V.int)) p = some (.lst ((xs.take i).map V.int)) := upd_same
      have hDp := sp _ _ hDT
      have smp := smT.trans sp
      generalize upd G1 p (.lst ((xs.take i).map V.int)) = G2 at hp hDp smp
      have npD : p ≠ D := (ne_of_none hDT np).symm
      have hlt : (xs.take i).length = i := by rw [List.length_take]; omega
      refine ⟨p, rfl, ⟨_, SqL.of hp⟩, ?_⟩
      refine inner_it (walk_list (K := K) (a := p) (xs := (xs.take i).map V.int)) (fun j G3 => G3 D = some (.lst (List.replicate (invS xs i + ((xs.take i).take j).countP fun b => decide (xs.getD i 0 < b)) (V.int 1))) ∧ Same H G3 ∧ G3 p = some (.lst ((xs.take i).map V.int))) ⟨by simpa using hDp, smp, hp⟩ (fun j G3 _ ⟨_, _, h⟩ => SqL.of h) ?_ ?_
      · rintro j x _ G3 hj ⟨hD3, sm3, hp3⟩ ⟨rfl, hx⟩
        rw [List.length_map] at hj
        have ex : x = .int ((xs.take i).getD j 0) := by
          rw [List.getElem?_map, getD_get hj] at hx
          exact (Option.some.inj hx).symm
        subst ex
        have er : ((xs.take i).take (j + 1)).countP (fun b => decide (xs.getD i 0 < b)) = ((xs.take i).take j).countP (fun b => decide (xs.getD i 0 < b)) + (if xs.getD i 0 < (xs.take i).getD j 0 then 1 else 0) := by
          rw [List.take_add_one, getD_get hj, List.countP_append]
          generalize (xs.take i).getD j 0 = z
          by_cases c : xs.getD i 0 < z <;> simp [c]
        have few2 : invS xs i + ((xs.take i).take j).countP (fun b => decide (xs.getD i 0 < b)) ≤ 20000 := by
          have h1 := few i (by omega)
          have h2 : ((xs.take i).take j).countP (fun b => decide (xs.getD i 0 < b)) ≤ ((xs.take i).take j).length := List.countP_le_length
          rw [List.length_take] at h2
          omega
        rw [er]
        refine ⟨rfl, .int ((xs.take i).getD j 0), rfl, .int (xs.getD i 0), rfl, _, _, rfl, rfl, _, rfl, ite2 (fun c => ?_) (fun c => ?_)⟩
        · have c2 : xs.getD i 0 < (xs.take i).getD j 0 := of_decide_eq_true c
          rw [if_pos c2]
          refine ⟨_, hD3, szm (by rw [List.length_replicate]; omega), by rw [upd_same, rep_snoc, Nat.add_assoc], fun b o hb => ?_, by rw [upd_ne npD]; exact hp3⟩
          rw [upd_ne (ne_of_none hb nD)]
          exact sm3 _ _ hb
        · have c2 : ¬ xs.getD i 0 < (xs.take i).getD j 0 := fun z => c (decide_eq_true z)
          rw [if_neg c2, Nat.add_zero]
          exact ⟨hD3, sm3, hp3⟩
      · rintro G3 ⟨hD3, sm3, _⟩
        rw [List.length_map, hlt, List.take_take, Nat.min_self] at hD3
        rw [invS_succ]
        exact ⟨hD3, sm3⟩
    · rintro G ⟨hD, sm⟩
      rw [List.length_map] at hD
      have hf := few xs.length (Nat.le_refl _)
      refine ⟨D, List.replicate (invN xs) 1, rfl, by rw [List.map_replicate]; exact SqL.of hD, ?_⟩
      rw [sum_ones]
      refine ⟨.int (invN xs : Nat), rfl, _, _, rfl, rfl, (by show (0 : Int) < 2; decide), ?_⟩
      dsimp only
      rw [odd_mod]
      exact q G sm
end
end Kr
namespace Kr
open PySem PySem.Spec PyProof.Rows L2
section
variable {P : Program} {w : World} {K : PySem.W.Frag} {mg : Str → Option Value} {base : Heap}
theorem scCh : FnScope ["many", "some"] ["many", "some"] (defScope sChoices) := ⟨rfl, rfl, rfl, by decide +kernel, rfl, by decide +kernel, by decide +kernel⟩
theorem o_choices (D : Df K mg "_choices" sChoices ["many", "some"]) (B : Bi mg) (C0 : mg "comb" = some (.builtin "math.comb")) : Ok P w K mg base 1 "_choices" ["many", "some"] spChoices := by
  refine D.ok fun f fd F => F.ok scCh (fun vs H Q E h => ?_) (fun cdv A outer s H vs Q E hr h => ?_)
  · obtain ⟨a, b, rfl, _⟩ := h
    rfl
  · obtain ⟨a, b, rfl, h0, h1, q⟩ := h
    refine ⟨_, pss_one (ps_ret (pe_ifExp (pt_cmpR op_ge (pv 1) pe_int (nomark _)) (pe_callBG call_comb (by rfl) C0 (pa_cons (pv 0) (pa_cons (pv 1) pa_nil))) pe_int)), ?_⟩
    refine ⟨.int b, rfl, _, _, rfl, rfl, _, rfl, ite2 (fun hb => ?_) (fun hb => ?_)⟩
    · have hb0 : 0 ≤ b := of_decide_eq_true hb
      rw [if_pos hb0] at q
      exact ⟨_, rfl, _, rfl, a, b, rfl, h0, hb0, h1, q⟩
    · have hb0 : ¬ 0 ≤ b := fun z => hb (decide_eq_true z)
      rw [if_neg hb0] at q
      exact q
theorem scKS : FnScope ["n", "k", "free", "size"] ["n", "k"] (defScope sKindSigns) := ⟨rfl, rfl, rfl, by decide +kernel, rfl, by decide +kernel, by decide +kernel⟩
theorem f_kindSigns {f : Addr} {fd : FuncData} (F : Fun K "kind_signs" "kind_signs" sKindSigns f fd) (B : Bi mg) (oc : Ok P w K mg base 1 "_choices" ["many", "some"] spChoices) : FnOk P w K mg base CX0 2 f fd ["n", "k"] spKind := by
  refine F.ok scKS (fun vs H Q E h => ?_) (fun cdv A outer s H vs Q E hr h => ?_)
  · obtain ⟨n, k, rfl, _⟩ := h
    rfl
  · obtain ⟨n, k, rfl, hk, hn, q⟩ := h
    refine ⟨_, pss_cons (ps_set (i := 2) scKS.nd rfl (.inr rfl) (pe_op op_sub (pe_op op_sub (pv 0) pe_int) (pv 1)))
      (pss_one (ps_ret (pe_callTy call_tuple_of (by rfl) B.tuple (by decide +kernel) (pa_cons
        (pe_lc (own := [("size", 3)]) (g := gName 3) (tt := tYes) rfl scKS.nd (pi_range1 (by rfl) B.range (pa_cons (pe_op op_add (pv 0) pe_int) pa_nil)) (blkOk_by (own := [("size", 3)]) (N := ["n", "k", "free", "size"]) (sc := defScope sKindSigns) (by decide +kernel))
          (fun _ _ _ _ _ => pg_name (i := 3) scKS.nd rfl (.inl rfl)) (fun _ _ _ _ _ => pts_nil)
          (fun _ _ _ _ _ => pe_tup (pa_cons (pe_op op_mod (pe_fn oc hr (by rfl) (pa_cons (pv 2) (pa_cons (pe_op op_sub (pe_op op_sub (pv 3) pe_int) (pv 1)) pa_nil))) pe_int)
            (pa_cons (pe_op op_mod (pe_fn oc hr (by rfl) (pa_cons (pv 2) (pa_cons (pe_op op_sub (pv 3) (pv 1)) pa_nil))) pe_int) pa_nil)))) pa_nil)))), ?_⟩
    refine ⟨.int n, rfl, _, _, rfl, rfl, .int k, rfl, _, _, rfl, rfl, ?_⟩
    refine ⟨.int n, rfl, _, _, rfl, rfl, (n : Int) + 1, rfl, by omega, by omega, fun D nD => ?_⟩
    refine lc_itF walk_rg (fun m => pairD (chB ((n : Int) - 2 - k) ((m : Int) - 1 - k), chB ((n : Int) - 2 - k) ((m : Int) - k))) nD (by show ((n : Int) + 1).toNat ≤ 100000; omega) (fun m _ => pair_flat _) (fun _ _ => trivial) (fun m x H2 H2' C Cn hm s y c => ?_) (fun H2 acc s hD qa => ?_)
    · obtain ⟨rfl, rfl⟩ := y
      refine ⟨rfl, ?_⟩
      dsimp only [tYes]
      rw [if_pos rfl]
      refine ⟨.int _, rfl, .int m, rfl, _, _, rfl, rfl, .int k, rfl, _, _, rfl, rfl, _, _, rfl, by omega, by omega, _, _, rfl, rfl, (by show (0 : Int) < 2; decide), ?_⟩
      refine ⟨.int _, rfl, .int m, rfl, .int k, rfl, _, _, rfl, rfl, _, _, rfl, by omega, by omega, _, _, rfl, rfl, (by show (0 : Int) < 2; decide), ?_⟩
      refine ⟨by show 2 ≤ sizeLine; decide, fun t nt => ?_⟩
      dsimp only
      rw [chB_val, chB_val]
      exact c _ _ (same_new nt) (pair_at upd_same)
    · refine ⟨D, _, rfl, .inl ⟨SqL.of hD, fun t nt => q _ _ (s.trans (same_new nt)) ?_⟩⟩
      refine .tup upd_same ?_
      have e : (kindR n k).map pairD = (List.range ((n : Int) + 1).toNat).map fun (m : Nat) => pairD (chB ((n : Int) - 2 - k) ((m : Int) - 1 - k), chB ((n : Int) - 2 - k) ((m : Int) - k)) := by
        unfold kindR
        rw [List.map_map]
        have : ((n : Int) + 1).toNat = n + 1 := by omega
        rw [this]
        rfl
      rw [e]
      exact qa.up (same_new nt)
end
end Kr
namespace Kr
open PySem PySem.Spec PyProof.Rows L2
section
variable {P : Program} {w : World} {K : PySem.W.Frag} {mg : Str → Option Value} {base : Heap}
theorem scSR : FnScope ["n", "rows", "sums", "row", "s", "t", "one", "other"] ["n", "rows"] (defScope sSumRows) := ⟨rfl, rfl, rfl, by decide +kernel, rfl, by decide +kernel, by decide +kernel⟩
abbrev gPair (K : PySem.W.Frag) (i j : Nat) : TG := gTup K 2 (gCons (gName i) (gCons (gName j) gNil))
theorem o_sumRows (D : Df K mg "sum_of_rows" sSumRows ["n", "rows"]) (B : Bi mg) : Ok P w K mg base 1 "sum_of_rows" ["n", "rows"] spSums := by
  refine D.ok fun f fd F => F.ok scSR (fun vs H Q E h => ?_) (fun cdv A outer s H vs Q E hr h => ?_)
  · obtain ⟨n, a, us, rs, rfl, _⟩ := h
    rfl
  · obtain ⟨n, a, us, rs, rfl, hn, ha, hus, hrs, q⟩ := h
    refine ⟨_, pss_cons (ps_set (i := 2) scSR.nd rfl (.inl rfl) (pe_op op_rep (pe_lst (pa_cons (pe_tup (pa_cons pe_int (pa_cons pe_int pa_nil))) pa_nil)) (pe_op op_add (pv 0) pe_int)))
      (pss_cons (ps_for PassesOwn.never rfl (pi_list (pv 1)) (pg_name (i := 3) scSR.nd rfl (.inl rfl))
        (pss_one (ps_setLc (i := 2) (own := [("s", 4), ("t", 5), ("one", 6), ("other", 7)]) (g := gTup K 2 (gCons (gPair K 4 5) (gCons (gPair K 6 7) gNil))) (tt := tYes) rfl scSR.nd rfl rfl (sw_true rfl rfl rfl (by decide +kernel)) (pi_zipM (by rfl) B.zip (pa_cons (pv 2) (pa_cons (pv 3) pa_nil)))
          (blkOk_by (own := [("s", 4), ("t", 5), ("one", 6), ("other", 7)]) (N := ["n", "rows", "sums", "row", "s", "t", "one", "other"]) (sc := defScope sSumRows) (by decide +kernel))
          (fun _ _ _ _ _ => pg_tup rfl (pgs_cons (pg_tup rfl (pgs_cons (pg_name (i := 4) scSR.nd rfl (.inl rfl)) (pgs_cons (pg_name (i := 5) scSR.nd rfl (.inl rfl)) pgs_nil))) (pgs_cons (pg_tup rfl (pgs_cons (pg_name (i := 6) scSR.nd rfl (.inl rfl)) (pgs_cons (pg_name (i := 7) scSR.nd rfl (.inl rfl)) pgs_nil))) pgs_nil)))
          (fun _ _ _ _ _ => pts_nil)
          (fun _ _ _ _ _ => pe_tup (pa_cons (pe_op op_xor (pv 4) (pv 6)) (pa_cons (pe_op op_xor (pv 5) (pv 7)) pa_nil))))))
      (pss_one (ps_ret (pe_callTy call_tuple_of (by rfl) B.tuple (by decide +kernel) (pa_cons (pv 2) pa_nil))))), ?_⟩
    refine ⟨by show 2 ≤ sizeLine; decide, fun t nt => ⟨by show 1 ≤ sizeLine; decide, fun l nl => ?_⟩⟩
    have nlt : l ≠ t := fun z => by rw [z, upd_same] at nl; cases nl
    refine ⟨.int n, rfl, _, _, rfl, rfl, l, (n : Int) + 1, [.ref t], rfl, rfl, upd_same, by omega, by omega, ?_, fun sd nsd => ?_⟩
    · show 1 * ((n : Int) + 1).toNat ≤ sizeLine
      exact Nat.le_trans (show _ ≤ 100 by omega) (by decide)
    have s0 : Same H (upd (upd H t (.tup [.int 0, .int 0])) l (.lst [.ref t])) := (same_new nt).trans (same_new nl)
    have t2 : upd (upd H t (.tup [.int 0, .int 0])) l (.lst [.ref t]) t = some (.tup [.int 0, .int 0]) := by rw [upd_ne nlt.symm, upd_same]
    have hlen : ((n : Int) + 1).toNat = n + 1 := by omega
    rw [rep_one2, hlen]
    generalize upd (upd H t (.tup [.int 0, .int 0])) l (.lst [.ref t]) = H1 at s0 t2 nsd
    have s1 := same_new (o := .lst (List.replicate (n + 1) (V.ref t))) nsd
    have nsd0 : H sd = none := s0.free nsd
    refine ⟨.ref a, rfl, a, rfl, ⟨us, SqL.of (s1 _ _ (s0 _ _ ha))⟩, for_list (K := K) (xs := us) (fun i σ H2 => ∃ (sd : Addr) (ys : List V) (v3 : Option V), σ = [some (.int n), some (.ref a), some (.ref sd), v3, none, none, none, none] ∧ Same H H2 ∧ H sd = none ∧ H2 sd = some (.lst ys) ∧ DqA H2 ys (((rs.take i).foldl addR (zeroR n)).map pairD))
      ⟨sd, _, none, rfl, s0.trans s1, nsd0, upd_same, zero_dq (s1 _ _ t2) _⟩ (fun i σ H2 _ ⟨_, _, _, _, sm, _⟩ => SqL.of (sm _ _ ha)) ?_ ?_⟩
    · rintro i x σ H2 hx ⟨sd, ys, v3, rfl, sm, nsd, hsd, qy⟩
      obtain ⟨d, hd, qx⟩ := hus.get hx
      rw [List.getElem?_map] at hd
      obtain ⟨r, hr2, rfl⟩ : ∃ r, rs[i]? = some r ∧ rowD r = d := by
        cases e : rs[i]? with
        | none => rw [e] at hd; cases hd
        | some r => rw [e] at hd; exact ⟨r, rfl, Option.some.inj hd⟩
      have hrl := hrs r (List.mem_of_getElem? hr2)
      obtain ⟨b, xs, rfl, hb, qb⟩ := row_inv (qx.up sm)
      have lx := pairs_len qb
      have ly := pairs_len qy
      have hcur : ((rs.take i).foldl addR (zeroR n)).length = n + 1 := fold_len _ _ (zeroR_len n) fun z hz => hrs z (List.mem_of_mem_take hz)
      generalize hc : (rs.take i).foldl addR (zeroR n) = cur at qy ly hcur
      refine ⟨.ref sd, rfl, .ref b, rfl, sd, b, ys, xs, rfl, SqL.of hsd, SqT.of hb, fun D2 nD2 => ?_⟩
      refine lc_itF (walk_zlt (n := n + 1) (xs := ys) (ys := xs) (by omega)) (fun i => pairD (addP (atR cur i) (atR r i))) nD2 (by omega) (fun _ _ => pair_flat _) (fun H3 s3 => ⟨SqL.of (s3 _ _ hsd), SqT.of (s3 _ _ hb)⟩) (fun j x H3 H3' C Cn hj s3 y c => ?_) (fun H3 acc s3 hD qa => ?_)
      · obtain ⟨T, y1, y2, rfl, nT, rfl, g1, g2⟩ := y
        obtain ⟨p1, e1, b1, rfl, k1⟩ := pairs_get (qy.up s3) g1
        obtain ⟨p2, e2, b2, rfl, k2⟩ := pairs_get (qb.up s3) g2
        have sT : Same H3 (upd H3 T (.tup [.ref b1, .ref b2])) := same_new nT
        have hp := c
        rw [atR_some e1, atR_some e2] at hp
        refine ⟨T, [.ref b1, .ref b2], rfl, SqT.of upd_same, rfl, .ref b1, [.ref b2], rfl, ⟨b1, _, rfl, SqT.of (sT _ _ k1), rfl, .int (bi p1.1), [.int (bi p1.2)], rfl, .int (bi p1.2), [], rfl, rfl, ?_⟩⟩
        refine ⟨.ref b2, [], rfl, ⟨b2, _, rfl, SqT.of (sT _ _ k2), rfl, .int (bi p2.1), [.int (bi p2.2)], rfl, .int (bi p2.2), [], rfl, rfl, ?_⟩⟩
        refine ⟨rfl, rfl, ?_⟩
        dsimp only [tYes]
        rw [if_pos rfl]
        refine ⟨.int (bi p1.1), rfl, .int (bi p2.1), rfl, _, _, rfl, rfl, .int (bi p1.2), rfl, .int (bi p2.2), rfl, _, _, rfl, rfl, by show 2 ≤ sizeLine; decide, fun t nt => ?_⟩
        dsimp only
        rw [bi_xor, bi_xor]
        exact hp _ _ (sT.trans (same_new nt)) (pair_at (p := addP p1 p2) upd_same)
      · refine ⟨D2, acc, _, rfl, sm.trans s3, sm.free nD2, hD, ?_⟩
        rw [List.take_add_one, hr2, List.foldl_append, hc]
        show DqA H3 acc ((addR cur r).map pairD)
        rw [← range_addR hcur hrl]
        exact qa
    · rintro σ H2 ⟨sd, ys, v3, rfl, sm, nsd, hsd, qy⟩
      have hl : us.length = rs.length := by rw [hus.len, List.length_map]
      rw [hl, List.take_length] at qy
      refine ⟨.ref sd, rfl, sd, _, rfl, .inl ⟨SqL.of hsd, fun t nt => q _ _ (sm.trans (same_new nt)) (.tup upd_same (qy.up (same_new nt)))⟩⟩
end
end Kr
namespace Kr
open PySem PySem.Spec PyProof.Rows L2
section
variable {P : Program} {w : World} {K : PySem.W.Frag} {mg : Str → Option Value} {base : Heap}
theorem scLS : FnScope ["one", "two", "a", "b"] ["one", "two"] (defScope sLSum) := ⟨rfl, rfl, rfl, by decide +kernel, rfl, by decide +kernel, by decide +kernel⟩
theorem o_lSum (D : Df K mg "_law_sum" sLSum ["one", "two"]) (B : Bi mg) : Ok P w K mg base 1 "_law_sum" ["one", "two"] spLSum := by
  refine D.ok fun f fd F => F.ok scLS (fun vs H Q E h => ?_) (fun cdv A outer s H vs Q E hr h => ?_)
  · obtain ⟨v, u, a, b, n, rfl, _⟩ := h
    rfl
  · obtain ⟨v, u, a, b, n, rfl, la, lb, hn, hv, hu, q⟩ := h
    refine ⟨_, pss_one (ps_ret (pe_callTy call_tuple_of (by rfl) B.tuple (by decide +kernel) (pa_cons
      (pe_lc (own := [("a", 2), ("b", 3)]) (g := gTup K 2 (gCons (gName 2) (gCons (gName 3) gNil))) (tt := tYes) rfl scLS.nd (RZ.pi_zipA (by rfl) B.zip (pa_cons (pv 0) (pa_cons (pv 1) pa_nil))) (blkOk_by (own := [("a", 2), ("b", 3)]) (N := ["one", "two", "a", "b"]) (sc := defScope sLSum) (by decide +kernel))
        (fun _ _ _ _ _ => pg_tup rfl (pgs_cons (pg_name (i := 2) scLS.nd rfl (.inl rfl)) (pgs_cons (pg_name (i := 3) scLS.nd rfl (.inl rfl)) pgs_nil))) (fun _ _ _ _ _ => pts_nil)
        (fun _ _ _ _ _ => pe_tup (pa_cons (pe_op op_mod (pe_callTy call_int1 (by rfl) B.int (by decide +kernel) (pa_cons (pe_op op_add (pe_ix (r := rIxT K) ix_tup (pv 2) pe_int (fun _ _ => rfl)) (pe_ix (r := rIxT K) ix_tup (pv 3) pe_int (fun _ _ => rfl))) pa_nil)) pe_int)
          (pa_cons (pe_op op_mod (pe_callTy call_int1 (by rfl) B.int (by decide +kernel) (pa_cons (pe_op op_add (pe_ix (r := rIxT K) ix_tup (pv 2) pe_int (fun _ _ => rfl)) (pe_ix (r := rIxT K) ix_tup (pv 3) pe_int (fun _ _ => rfl))) pa_nil)) pe_int) pa_nil)))) pa_nil))), ?_⟩
    obtain ⟨av, xs, rfl, ha, qa⟩ := row_inv hv
    obtain ⟨bv, ys, rfl, hb, qb⟩ := row_inv hu
    have lx := pairs_len qa
    have ly := pairs_len qb
    refine ⟨.ref av, rfl, .ref bv, rfl, av, bv, xs, ys, rfl, .inr ⟨SqT.of ha, SqT.of hb, fun D nD => ?_⟩⟩
    refine lc_itF (walk_zipT (n := n) (xs := xs) (ys := ys) (by omega)) (fun i => pairD (addP (atR a i) (atR b i))) nD (by omega) (fun _ _ => pair_flat _) (fun H3 s3 => ⟨SqT.of (s3 _ _ ha), SqT.of (s3 _ _ hb)⟩) (fun j x H3 H3' C Cn hj s3 y c => ?_) (fun H3 acc s3 hD qd => ?_)
    · obtain ⟨T, y1, y2, rfl, nT, rfl, g1, g2⟩ := y
      obtain ⟨p1, e1, b1, rfl, k1⟩ := pairs_get (qa.up s3) g1
      obtain ⟨p2, e2, b2, rfl, k2⟩ := pairs_get (qb.up s3) g2
      have sT : Same H3 (upd H3 T (.tup [.ref b1, .ref b2])) := same_new nT
      have hp := c
      rw [atR_some e1, atR_some e2] at hp
      refine ⟨T, [.ref b1, .ref b2], rfl, SqT.of upd_same, rfl, .ref b1, [.ref b2], rfl, .ref b2, [], rfl, rfl, rfl, ?_⟩
      dsimp only [tYes]
      rw [if_pos rfl]
      refine ⟨.ref b1, rfl, b1, _, 0, .int (bi p1.1), rfl, rfl, SqT.of (sT _ _ k1), rfl, .ref b2, rfl, b2, _, 0, .int (bi p2.1), rfl, rfl, SqT.of (sT _ _ k2), rfl, _, _, rfl, rfl, .inl ⟨_, rfl, _, _, rfl, rfl, (by show (0 : Int) < 2; decide), ?_⟩⟩
      refine ⟨.ref b1, rfl, b1, _, 1, .int (bi p1.2), rfl, rfl, SqT.of (sT _ _ k1), rfl, .ref b2, rfl, b2, _, 1, .int (bi p2.2), rfl, rfl, SqT.of (sT _ _ k2), rfl, _, _, rfl, rfl, .inl ⟨_, rfl, _, _, rfl, rfl, (by show (0 : Int) < 2; decide), by show 2 ≤ sizeLine; decide, fun t nt => ?_⟩⟩
      dsimp only
      rw [bi_sum, bi_sum]
      exact hp _ _ (sT.trans (same_new nt)) (pair_at (p := addP p1 p2) upd_same)
    · rw [range_addR la lb] at qd
      exact ⟨D, _, rfl, .inl ⟨SqL.of hD, fun t nt => q _ _ (s3.trans (same_new nt)) (.tup upd_same (qd.up (same_new nt)))⟩⟩
end
end Kr
namespace Kr
open PySem PySem.Spec PyProof.Rows L2
section
variable {P : Program} {w : World} {K : PySem.W.Frag} {mg : Str → Option Value} {base : Heap}
theorem scLC : FnScope ["a", "b"] ["a", "b"] (defScope sLChoose) := ⟨rfl, rfl, rfl, by decide +kernel, rfl, by decide +kernel, by decide +kernel⟩
theorem o_lChoose (D : Df K mg "_law_choose" sLChoose ["a", "b"]) (B : Bi mg) : Ok P w K mg base 1 "_law_choose" ["a", "b"] spLc := by
  refine D.ok fun f fd F => F.ok scLC (fun vs H Q E h => ?_) (fun cdv A outer s H vs Q E hr h => ?_)
  · obtain ⟨a, b, rfl, _⟩ := h
    rfl
  · obtain ⟨a, b, rfl, h0, h1, q⟩ := h
    refine ⟨_, pss_cons (ps_if (PW.pt (pw_or (pt_cmpR op_lt (pv 1) pe_int (nomark _)) (pw_or1 (pt_cmpR op_gt (pv 1) (pv 0) (nomark _))))) (pss_one (ps_ret pe_int)) pss_nil)
      (pss_cons (ps_while PassesOwn.never (pt_cmpR op_gt (pv 1) pe_int (nomark _))
        (pss_cons (ps_if (pt_cmpR op_gt (pe_op op_mod (pe_callTy call_int1 (by rfl) B.int (by decide +kernel) (pa_cons (pv 1) pa_nil)) pe_int) (pe_op op_mod (pe_callTy call_int1 (by rfl) B.int (by decide +kernel) (pa_cons (pv 0) pa_nil)) pe_int) (nomark _)) (pss_one (ps_ret pe_int)) pss_nil)
        (pss_one (ps_par (i := 0) (j := 1) rfl scLC.nd rfl rfl (by decide) rfl rfl (pa_cons (pe_op op_fdiv (pv 0) pe_int) (pa_cons (pe_op op_fdiv (pv 1) pe_int) pa_nil)) (by rfl)))))
      (pss_one (ps_ret pe_int))), ?_⟩
    refine ⟨.int b, rfl, _, _, rfl, rfl, _, rfl, ite2 (fun hb => ?_) (fun hb => ?_)⟩
    · rw [chB_neg (of_decide_eq_true hb)] at q
      exact q
    have hb0 : 0 ≤ b := Int.not_lt.mp fun z => hb (decide_eq_true z)
    refine ⟨.int b, rfl, .int a, rfl, _, _, rfl, rfl, _, rfl, ite2 (fun hba => ?_) (fun hba => ?_)⟩
    · rw [chB_above (of_decide_eq_true hba) h0] at q
      exact q
    have hb1 : b ≤ a := Int.not_lt.mp fun z => hba (decide_eq_true z)
    obtain ⟨a0, rfl⟩ : ∃ m : Nat, a = m := ⟨a.toNat, by omega⟩
    obtain ⟨b0, rfl⟩ : ∃ m : Nat, b = m := ⟨b.toNat, by omega⟩
    rw [← luc_ch a0 (by omega) b0 (by omega)] at q
    refine while_by (fun σ H2 => ∃ f a b : Nat, σ = [some (.int (a : Int)), some (.int (b : Int))] ∧ H2 = H ∧ b < 2 ^ f ∧ luc f a b = luc 6 a0 b0) (fun σ H2 => match σ with | [_, some (.int b)] => b.toNat | _ => 0) ⟨6, a0, b0, rfl, rfl, by show b0 < 64; omega, rfl⟩ ?_ ?_
    · rintro σ H2 ⟨fu, a, b, rfl, rfl, hf, e⟩
      refine ⟨.int b, rfl, _, _, rfl, rfl, _, rfl, ite2 (fun h2 => ?_) (fun h2 => ?_)⟩
      · have hb2 : 0 < b := by have : (0 : Int) < b := of_decide_eq_true h2; omega
        obtain ⟨f', rfl⟩ : ∃ f', fu = f' + 1 := by
          cases fu with
          | zero => omega
          | succ f' => exact ⟨f', rfl⟩
        rw [luc, if_pos hb2] at e
        refine ⟨.int b, rfl, .inl ⟨_, rfl, _, _, rfl, rfl, (by show (0 : Int) < 2; decide), .int a, rfl, .inl ⟨_, rfl, _, _, rfl, rfl, (by show (0 : Int) < 2; decide), _, _, rfl, rfl, _, rfl, ite2 (fun h3 => ?_) (fun h3 => ?_)⟩⟩⟩
        · have h4 : ((a : Int) % 2) < ((b : Int) % 2) := of_decide_eq_true h3
          rw [if_pos (by omega)] at e
          rw [← e] at q
          exact q
        · have h4 : ¬ ((a : Int) % 2) < ((b : Int) % 2) := fun z => h3 (decide_eq_true z)
          rw [if_neg (by omega)] at e
          refine ⟨.int a, rfl, _, _, rfl, rfl, ⟨by decide, by decide⟩, .int b, rfl, _, _, rfl, rfl, ⟨by decide, by decide⟩, _, _, rfl, ?_⟩
          refine ⟨⟨f', a / 2, b / 2, ?_, rfl, by rw [Nat.pow_succ] at hf; omega, e⟩, ?_⟩
          · show [some (V.int ((a : Int) / 2)), some (V.int ((b : Int) / 2))] = _
            simp
          · show ((b : Int) / 2).toNat < (b : Int).toNat
            omega
      · have hb2 : b = 0 := by have : ¬ (0 : Int) < b := fun z => h2 (decide_eq_true z); omega
        subst hb2
        rw [luc_zero] at e
        rw [← e] at q
        exact q
    · rintro σ H2 Q1 Q2 hq ⟨x, hx, i, j, e1, e2, k, e3, e4⟩
      exact ⟨x, hx, i, j, e1, e2, k, e3, hq _ _ e4⟩
theorem scLK : FnScope ["n", "k", "m"] ["n", "k"] (defScope sLKind) := ⟨rfl, rfl, rfl, by decide +kernel, rfl, by decide +kernel, by decide +kernel⟩
theorem o_lKind (D : Df K mg "_law_kind" sLKind ["n", "k"]) (B : Bi mg) (oc : Ok P w K mg base 1 "_law_choose" ["a", "b"] spLc) : Ok P w K mg base 2 "_law_kind" ["n", "k"] spKind := by
  refine D.ok fun f fd F => F.ok scLK (fun vs H Q E h => ?_) (fun cdv A outer s H vs Q E hr h => ?_)
  · obtain ⟨n, k, rfl, _⟩ := h
    rfl
  · obtain ⟨n, k, rfl, hk, hn, q⟩ := h
    refine ⟨_, pss_one (ps_ret (pe_callTy call_tuple_of (by rfl) B.tuple (by decide +kernel) (pa_cons
        (pe_lc (own := [("m", 2)]) (g := gName 2) (tt := tYes) rfl scLK.nd (pi_range1 (by rfl) B.range (pa_cons (pe_op op_add (pv 0) pe_int) pa_nil)) (blkOk_by (own := [("m", 2)]) (N := ["n", "k", "m"]) (sc := defScope sLKind) (by decide +kernel))
          (fun _ _ _ _ _ => pg_name (i := 2) scLK.nd rfl (.inl rfl)) (fun _ _ _ _ _ => pts_nil)
          (fun _ _ _ _ _ => pe_tup (pa_cons (pe_fn oc hr (by rfl) (pa_cons (pe_op op_sub (pe_op op_sub (pv 0) pe_int) (pv 1)) (pa_cons (pe_op op_sub (pe_op op_sub (pv 2) pe_int) (pv 1)) pa_nil)))
            (pa_cons (pe_fn oc hr (by rfl) (pa_cons (pe_op op_sub (pe_op op_sub (pv 0) pe_int) (pv 1)) (pa_cons (pe_op op_sub (pv 2) (pv 1)) pa_nil))) pa_nil)))) pa_nil))), ?_⟩
    refine ⟨.int n, rfl, _, _, rfl, rfl, (n : Int) + 1, rfl, by omega, by omega, fun D nD => ?_⟩
    refine lc_itF walk_rg (fun m => pairD (chB ((n : Int) - 2 - k) ((m : Int) - 1 - k), chB ((n : Int) - 2 - k) ((m : Int) - k))) nD (by show ((n : Int) + 1).toNat ≤ 100000; omega) (fun m _ => pair_flat _) (fun _ _ => trivial) (fun m x H2 H2' C Cn hm s y c => ?_) (fun H2 acc s hD qa => ?_)
    · obtain ⟨rfl, rfl⟩ := y
      refine ⟨rfl, ?_⟩
      dsimp only [tYes]
      rw [if_pos rfl]
      refine ⟨.int n, rfl, _, _, rfl, rfl, .int k, rfl, _, _, rfl, rfl, .int m, rfl, _, _, rfl, rfl, .int k, rfl, _, _, rfl, rfl, _, _, rfl, by omega, by omega, ?_⟩
      refine ⟨.int n, rfl, _, _, rfl, rfl, .int k, rfl, _, _, rfl, rfl, .int m, rfl, .int k, rfl, _, _, rfl, rfl, _, _, rfl, by omega, by omega, ?_⟩
      exact ⟨by show 2 ≤ sizeLine; decide, fun t nt => c _ _ (same_new nt) (pair_at upd_same)⟩
    · refine ⟨D, _, rfl, .inl ⟨SqL.of hD, fun t nt => q _ _ (s.trans (same_new nt)) (.tup upd_same ?_)⟩⟩
      have e : (kindR n k).map pairD = (List.range ((n : Int) + 1).toNat).map fun (m : Nat) => pairD (chB ((n : Int) - 2 - k) ((m : Int) - 1 - k), chB ((n : Int) - 2 - k) ((m : Int) - k)) := by
        unfold kindR
        rw [List.map_map]
        have : ((n : Int) + 1).toNat = n + 1 := by omega
        rw [this]
        rfl
      rw [e]
      exact qa.up (same_new nt)
end
end Kr
namespace Kr
open PySem PySem.Spec PyProof.Rows L2
/-! ### what the head has written -/
theorem df_mk {K : PySem.W.Frag} {h : Heap} {mg : Str → Option Value} {x : Str} {st : Stmt} {f : Addr} {ps : List Str} {oc : Value} {od an : Option Addr} {osl : Array (Option Value)} {kV doc pm cdv ct : Value} (X : K.In h) (G : h.Ns mainGlobals mg)
    (a : PySem.W.nsIn K mainGlobals x = some (some (.ref f))) (l : K.lookup f = some ⟨oc, od, .func (PySem.W.fnOf x x (defArgs st) (defBody st) (defScope st) .none kV doc pm an cdv ct), osl⟩) (c : PySem.W.codeIn K cdv x = true) (k : PySem.W.keepIn K (.ref f) = true)
    (hb : ∀ (kV doc pm : Value) (an : Option Addr) (cdv ct : Value) (us : List Value), us.length = ps.length → bindArgs (PySem.W.fnOf x x (defArgs st) (defBody st) (defScope st) .none kV doc pm an cdv ct) ⟨us, []⟩ = pure (ps.zip us)) : Df K mg x st ps :=
  ⟨_, _, fun_mk l c k, (fun_mk l c k).binds hb, PySem.W.mg_of X G a⟩
theorem all_mk {l : PySem.W.OpenLaw} {w : World} {K : PySem.W.Frag} {h : Heap} {mg : Str → Option Value} {fa : Addr} (X : K.In h) (G : h.Ns mainGlobals mg) (hfa : mg "law" = some (.ref fa))
    {f1 : Addr} {oc1 kV1 dc1 pm1 cd1 ct1 : Value} {od1 an1 : Option Addr} {sl1 : Array (Option Value)}
    {f2 : Addr} {oc2 kV2 dc2 pm2 cd2 ct2 : Value} {od2 an2 : Option Addr} {sl2 : Array (Option Value)}
    {f3 : Addr} {oc3 kV3 dc3 pm3 cd3 ct3 : Value} {od3 an3 : Option Addr} {sl3 : Array (Option Value)}
    {f4 : Addr} {oc4 kV4 dc4 pm4 cd4 ct4 : Value} {od4 an4 : Option Addr} {sl4 : Array (Option Value)}
    {f5 : Addr} {oc5 kV5 dc5 pm5 cd5 ct5 : Value} {od5 an5 : Option Addr} {sl5 : Array (Option Value)}
    {f6 : Addr} {oc6 kV6 dc6 pm6 cd6 ct6 : Value} {od6 an6 : Option Addr} {sl6 : Array (Option Value)}
    {f7 : Addr} {oc7 kV7 dc7 pm7 cd7 ct7 : Value} {od7 an7 : Option Addr} {sl7 : Array (Option Value)}
    {f8 : Addr} {oc8 kV8 dc8 pm8 cd8 ct8 : Value} {od8 an8 : Option Addr} {sl8 : Array (Option Value)}
    {f9 : Addr} {oc9 kV9 dc9 pm9 cd9 ct9 : Value} {od9 an9 : Option Addr} {sl9 : Array (Option Value)}
    {f10 : Addr} {oc10 kV10 dc10 pm10 cd10 ct10 : Value} {od10 an10 : Option Addr} {sl10 : Array (Option Value)}
    {f11 : Addr} {oc11 kV11 dc11 pm11 cd11 ct11 : Value} {od11 an11 : Option Addr} {sl11 : Array (Option Value)}
    {f12 : Addr} {oc12 kV12 dc12 pm12 cd12 ct12 : Value} {od12 an12 : Option Addr} {sl12 : Array (Option Value)}
    {f13 : Addr} {oc13 kV13 dc13 pm13 cd13 ct13 : Value} {od13 an13 : Option Addr} {sl13 : Array (Option Value)}
    {f14 : Addr} {oc14 kV14 dc14 pm14 cd14 ct14 : Value} {od14 an14 : Option Addr} {sl14 : Array (Option Value)}
    {f15 : Addr} {oc15 kV15 dc15 pm15 cd15 ct15 : Value} {od15 an15 : Option Addr} {sl15 : Array (Option Value)}
    {f16 : Addr} {oc16 kV16 dc16 pm16 cd16 ct16 : Value} {od16 an16 : Option Addr} {sl16 : Array (Option Value)}
    {f17 : Addr} {oc17 kV17 dc17 pm17 cd17 ct17 : Value} {od17 an17 : Option Addr} {sl17 : Array (Option Value)}
    {f18 : Addr} {oc18 kV18 dc18 pm18 cd18 ct18 : Value} {od18 an18 : Option Addr} {sl18 : Array (Option Value)}
    {f19 : Addr} {oc19 kV19 dc19 pm19 cd19 ct19 : Value} {od19 an19 : Option Addr} {sl19 : Array (Option Value)}
    {f20 : Addr} {oc20 kV20 dc20 pm20 cd20 ct20 : Value} {od20 an20 : Option Addr} {sl20 : Array (Option Value)}
    {f21 : Addr} {oc21 kV21 dc21 pm21 cd21 ct21 : Value} {od21 an21 : Option Addr} {sl21 : Array (Option Value)}
    {f22 : Addr} {oc22 kV22 dc22 pm22 cd22 ct22 : Value} {od22 an22 : Option Addr} {sl22 : Array (Option Value)}
    {f23 : Addr} {oc23 kV23 dc23 pm23 cd23 ct23 : Value} {od23 an23 : Option Addr} {sl23 : Array (Option Value)}
    {f24 : Addr} {oc24 kV24 dc24 pm24 cd24 ct24 : Value} {od24 an24 : Option Addr} {sl24 : Array (Option Value)}
    {f25 : Addr} {oc25 kV25 dc25 pm25 cd25 ct25 : Value} {od25 an25 : Option Addr} {sl25 : Array (Option Value)}
    {f26 : Addr} {oc26 kV26 dc26 pm26 cd26 ct26 : Value} {od26 an26 : Option Addr} {sl26 : Array (Option Value)}
    {f27 : Addr} {oc27 kV27 dc27 pm27 cd27 ct27 : Value} {od27 an27 : Option Addr} {sl27 : Array (Option Value)}
    {f28 : Addr} {oc28 kV28 dc28 pm28 cd28 ct28 : Value} {od28 an28 : Option Addr} {sl28 : Array (Option Value)}
    {f29 : Addr} {oc29 kV29 dc29 pm29 cd29 ct29 : Value} {od29 an29 : Option Addr} {sl29 : Array (Option Value)}
    {f30 : Addr} {oc30 kV30 dc30 pm30 cd30 ct30 : Value} {od30 an30 : Option Addr} {sl30 : Array (Option Value)}
    {f31 : Addr} {oc31 kV31 dc31 pm31 cd31 ct31 : Value} {od31 an31 : Option Addr} {sl31 : Array (Option Value)}
    {f32 : Addr} {oc32 kV32 dc32 pm32 cd32 ct32 : Value} {od32 an32 : Option Addr} {sl32 : Array (Option Value)}
    {f33 : Addr} {oc33 kV33 dc33 pm33 cd33 ct33 : Value} {od33 an33 : Option Addr} {sl33 : Array (Option Value)}
    {f34 : Addr} {oc34 kV34 dc34 pm34 cd34 ct34 : Value} {od34 an34 : Option Addr} {sl34 : Array (Option Value)}
    {f35 : Addr} {oc35 kV35 dc35 pm35 cd35 ct35 : Value} {od35 an35 : Option Addr} {sl35 : Array (Option Value)}
    {f36 : Addr} {oc36 kV36 dc36 pm36 cd36 ct36 : Value} {od36 an36 : Option Addr} {sl36 : Array (Option Value)}
    {tM : Tok}
    (a1 : PySem.W.nsIn K mainGlobals "lots_of" = some (some (.ref f1))) (l1 : K.lookup f1 = some ⟨oc1, od1, .func (PySem.W.fnOf "lots_of" "lots_of" (defArgs sLotsOf) (defBody sLotsOf) (defScope sLotsOf) .none kV1 dc1 pm1 an1 cd1 ct1), sl1⟩) (c1 : PySem.W.codeIn K cd1 "lots_of" = true) (k1 : PySem.W.keepIn K (.ref f1) = true)
    (a2 : PySem.W.nsIn K mainGlobals "all_lots" = some (some (.ref f2))) (l2 : K.lookup f2 = some ⟨oc2, od2, .func (PySem.W.fnOf "all_lots" "all_lots" (defArgs sAllLots) (defBody sAllLots) (defScope sAllLots) .none kV2 dc2 pm2 an2 cd2 ct2), sl2⟩) (c2 : PySem.W.codeIn K cd2 "all_lots" = true) (k2 : PySem.W.keepIn K (.ref f2) = true)
    (a3 : PySem.W.nsIn K mainGlobals "lot_number" = some (some (.ref f3))) (l3 : K.lookup f3 = some ⟨oc3, od3, .func (PySem.W.fnOf "lot_number" "lot_number" (defArgs sLotNum) (defBody sLotNum) (defScope sLotNum) .none kV3 dc3 pm3 an3 cd3 ct3), sl3⟩) (c3 : PySem.W.codeIn K cd3 "lot_number" = true) (k3 : PySem.W.keepIn K (.ref f3) = true)
    (a4 : PySem.W.nsIn K mainGlobals "numbers_of" = some (some (.ref f4))) (l4 : K.lookup f4 = some ⟨oc4, od4, .func (PySem.W.fnOf "numbers_of" "numbers_of" (defArgs sNumbersOf) (defBody sNumbersOf) (defScope sNumbersOf) .none kV4 dc4 pm4 an4 cd4 ct4), sl4⟩) (c4 : PySem.W.codeIn K cd4 "numbers_of" = true) (k4 : PySem.W.keepIn K (.ref f4) = true)
    (a5 : PySem.W.nsIn K mainGlobals "goal" = some (some (.ref f5))) (l5 : K.lookup f5 = some ⟨oc5, od5, .func (PySem.W.fnOf "goal" "goal" (defArgs sGoal) (defBody sGoal) (defScope sGoal) .none kV5 dc5 pm5 an5 cd5 ct5), sl5⟩) (c5 : PySem.W.codeIn K cd5 "goal" = true) (k5 : PySem.W.keepIn K (.ref f5) = true)
    (a6 : PySem.W.nsIn K mainGlobals "numbers_of_lots" = some (some (.ref f6))) (l6 : K.lookup f6 = some ⟨oc6, od6, .func (PySem.W.fnOf "numbers_of_lots" "numbers_of_lots" (defArgs sNumbers) (defBody sNumbers) (defScope sNumbers) .none kV6 dc6 pm6 an6 cd6 ct6), sl6⟩) (c6 : PySem.W.codeIn K cd6 "numbers_of_lots" = true) (k6 : PySem.W.keepIn K (.ref f6) = true)
    (a7 : PySem.W.nsIn K mainGlobals "aims_of" = some (some (.ref f7))) (l7 : K.lookup f7 = some ⟨oc7, od7, .func (PySem.W.fnOf "aims_of" "aims_of" (defArgs sAims) (defBody sAims) (defScope sAims) .none kV7 dc7 pm7 an7 cd7 ct7), sl7⟩) (c7 : PySem.W.codeIn K cd7 "aims_of" = true) (k7 : PySem.W.keepIn K (.ref f7) = true)
    (a8 : PySem.W.nsIn K mainGlobals "signs_of" = some (some (.ref f8))) (l8 : K.lookup f8 = some ⟨oc8, od8, .func (PySem.W.fnOf "signs_of" "signs_of" (defArgs sSignsOf) (defBody sSignsOf) (defScope sSignsOf) .none kV8 dc8 pm8 an8 cd8 ct8), sl8⟩) (c8 : PySem.W.codeIn K cd8 "signs_of" = true) (k8 : PySem.W.keepIn K (.ref f8) = true)
    (a9 : PySem.W.nsIn K mainGlobals "carryings_sign" = some (some (.ref f9))) (l9 : K.lookup f9 = some ⟨oc9, od9, .func (PySem.W.fnOf "carryings_sign" "carryings_sign" (defArgs sCarryingsSign) (defBody sCarryingsSign) (defScope sCarryingsSign) .none kV9 dc9 pm9 an9 cd9 ct9), sl9⟩) (c9 : PySem.W.codeIn K cd9 "carryings_sign" = true) (k9 : PySem.W.keepIn K (.ref f9) = true)
    (a10 : PySem.W.nsIn K mainGlobals "sign_of" = some (some (.ref f10))) (l10 : K.lookup f10 = some ⟨oc10, od10, .func (PySem.W.fnOf "sign_of" "sign_of" (defArgs sSignOf) (defBody sSignOf) (defScope sSignOf) .none kV10 dc10 pm10 an10 cd10 ct10), sl10⟩) (c10 : PySem.W.codeIn K cd10 "sign_of" = true) (k10 : PySem.W.keepIn K (.ref f10) = true)
    (a11 : PySem.W.nsIn K mainGlobals "kind_signs" = some (some (.ref f11))) (l11 : K.lookup f11 = some ⟨oc11, od11, .func (PySem.W.fnOf "kind_signs" "kind_signs" (defArgs sKindSigns) (defBody sKindSigns) (defScope sKindSigns) .none kV11 dc11 pm11 an11 cd11 ct11), sl11⟩) (c11 : PySem.W.codeIn K cd11 "kind_signs" = true) (k11 : PySem.W.keepIn K (.ref f11) = true)
    (a12 : PySem.W.nsIn K mainGlobals "_choices" = some (some (.ref f12))) (l12 : K.lookup f12 = some ⟨oc12, od12, .func (PySem.W.fnOf "_choices" "_choices" (defArgs sChoices) (defBody sChoices) (defScope sChoices) .none kV12 dc12 pm12 an12 cd12 ct12), sl12⟩) (c12 : PySem.W.codeIn K cd12 "_choices" = true) (k12 : PySem.W.keepIn K (.ref f12) = true)
    (a13 : PySem.W.nsIn K mainGlobals "sum_of_rows" = some (some (.ref f13))) (l13 : K.lookup f13 = some ⟨oc13, od13, .func (PySem.W.fnOf "sum_of_rows" "sum_of_rows" (defArgs sSumRows) (defBody sSumRows) (defScope sSumRows) .none kV13 dc13 pm13 an13 cd13 ct13), sl13⟩) (c13 : PySem.W.codeIn K cd13 "sum_of_rows" = true) (k13 : PySem.W.keepIn K (.ref f13) = true)
    (a14 : PySem.W.nsIn K mainGlobals "kinds_in" = some (some (.ref f14))) (l14 : K.lookup f14 = some ⟨oc14, od14, .func (PySem.W.fnOf "kinds_in" "kinds_in" (defArgs sKindsIn) (defBody sKindsIn) (defScope sKindsIn) .none kV14 dc14 pm14 an14 cd14 ct14), sl14⟩) (c14 : PySem.W.codeIn K cd14 "kinds_in" = true) (k14 : PySem.W.keepIn K (.ref f14) = true)
    (a15 : PySem.W.nsIn K mainGlobals "_law_deck" = some (some (.ref f15))) (l15 : K.lookup f15 = some ⟨oc15, od15, .func (PySem.W.fnOf "_law_deck" "_law_deck" (defArgs sDeck) (defBody sDeck) (defScope sDeck) .none kV15 dc15 pm15 an15 cd15 ct15), sl15⟩) (c15 : PySem.W.codeIn K cd15 "_law_deck" = true) (k15 : PySem.W.keepIn K (.ref f15) = true)
    (a16 : PySem.W.nsIn K mainGlobals "_law_draw" = some (some (.ref f16))) (l16 : K.lookup f16 = some ⟨oc16, od16, .func (PySem.W.fnOf "_law_draw" "_law_draw" (defArgs sDraw) (defBody sDraw) (defScope sDraw) .none kV16 dc16 pm16 an16 cd16 ct16), sl16⟩) (c16 : PySem.W.codeIn K cd16 "_law_draw" = true) (k16 : PySem.W.keepIn K (.ref f16) = true)
    (a17 : PySem.W.nsIn K mainGlobals "_law_pick" = some (some (.ref f17))) (l17 : K.lookup f17 = some ⟨oc17, od17, .func (PySem.W.fnOf "_law_pick" "_law_pick" (defArgs sPick) (defBody sPick) (defScope sPick) .none kV17 dc17 pm17 an17 cd17 ct17), sl17⟩) (c17 : PySem.W.codeIn K cd17 "_law_pick" = true) (k17 : PySem.W.keepIn K (.ref f17) = true)
    (a18 : PySem.W.nsIn K mainGlobals "_law_mixed" = some (some (.ref f18))) (l18 : K.lookup f18 = some ⟨oc18, od18, .func (PySem.W.fnOf "_law_mixed" "_law_mixed" (defArgs sMixed) (defBody sMixed) (defScope sMixed) .none kV18 dc18 pm18 an18 cd18 ct18), sl18⟩) (c18 : PySem.W.codeIn K cd18 "_law_mixed" = true) (k18 : PySem.W.keepIn K (.ref f18) = true)
    (a19 : PySem.W.nsIn K mainGlobals "_law_lots" = some (some (.ref f19))) (l19 : K.lookup f19 = some ⟨oc19, od19, .func (PySem.W.fnOf "_law_lots" "_law_lots" (defArgs sLLots) (defBody sLLots) (defScope sLLots) .none kV19 dc19 pm19 an19 cd19 ct19), sl19⟩) (c19 : PySem.W.codeIn K cd19 "_law_lots" = true) (k19 : PySem.W.keepIn K (.ref f19) = true)
    (a20 : PySem.W.nsIn K mainGlobals "_law_flat" = some (some (.ref f20))) (l20 : K.lookup f20 = some ⟨oc20, od20, .func (PySem.W.fnOf "_law_flat" "_law_flat" (defArgs sLFlat) (defBody sLFlat) (defScope sLFlat) .none kV20 dc20 pm20 an20 cd20 ct20), sl20⟩) (c20 : PySem.W.codeIn K cd20 "_law_flat" = true) (k20 : PySem.W.keepIn K (.ref f20) = true)
    (a21 : PySem.W.nsIn K mainGlobals "_law_deed" = some (some (.ref f21))) (l21 : K.lookup f21 = some ⟨oc21, od21, .func (PySem.W.fnOf "_law_deed" "_law_deed" (defArgs sDeed) (defBody sDeed) (defScope sDeed) .none kV21 dc21 pm21 an21 cd21 ct21), sl21⟩) (c21 : PySem.W.codeIn K cd21 "_law_deed" = true) (k21 : PySem.W.keepIn K (.ref f21) = true)
    (a22 : PySem.W.nsIn K mainGlobals "_law_moves" = some (some (.ref f22))) (l22 : K.lookup f22 = some ⟨oc22, od22, .func (PySem.W.fnOf "_law_moves" "_law_moves" (defArgs sLMoves) (defBody sLMoves) (defScope sLMoves) .none kV22 dc22 pm22 an22 cd22 ct22), sl22⟩) (c22 : PySem.W.codeIn K cd22 "_law_moves" = true) (k22 : PySem.W.keepIn K (.ref f22) = true)
    (a23 : PySem.W.nsIn K mainGlobals "_law_end" = some (some (.ref f23))) (l23 : K.lookup f23 = some ⟨oc23, od23, .func (PySem.W.fnOf "_law_end" "_law_end" (defArgs sLEnd) (defBody sLEnd) (defScope sLEnd) .none kV23 dc23 pm23 an23 cd23 ct23), sl23⟩) (c23 : PySem.W.codeIn K cd23 "_law_end" = true) (k23 : PySem.W.keepIn K (.ref f23) = true)
    (a24 : PySem.W.nsIn K mainGlobals "_law_after" = some (some (.ref f24))) (l24 : K.lookup f24 = some ⟨oc24, od24, .func (PySem.W.fnOf "_law_after" "_law_after" (defArgs sLAfter) (defBody sLAfter) (defScope sLAfter) .none kV24 dc24 pm24 an24 cd24 ct24), sl24⟩) (c24 : PySem.W.codeIn K cd24 "_law_after" = true) (k24 : PySem.W.keepIn K (.ref f24) = true)
    (a25 : PySem.W.nsIn K mainGlobals "_law_drawn" = some (some (.ref f25))) (l25 : K.lookup f25 = some ⟨oc25, od25, .func (PySem.W.fnOf "_law_drawn" "_law_drawn" (defArgs sDrawn) (defBody sDrawn) (defScope sDrawn) .none kV25 dc25 pm25 an25 cd25 ct25), sl25⟩) (c25 : PySem.W.codeIn K cd25 "_law_drawn" = true) (k25 : PySem.W.keepIn K (.ref f25) = true)
    (a26 : PySem.W.nsIn K mainGlobals "_law_odd" = some (some (.ref f26))) (l26 : K.lookup f26 = some ⟨oc26, od26, .func (PySem.W.fnOf "_law_odd" "_law_odd" (defArgs sLOdd) (defBody sLOdd) (defScope sLOdd) .none kV26 dc26 pm26 an26 cd26 ct26), sl26⟩) (c26 : PySem.W.codeIn K cd26 "_law_odd" = true) (k26 : PySem.W.keepIn K (.ref f26) = true)
    (a27 : PySem.W.nsIn K mainGlobals "_law_signs" = some (some (.ref f27))) (l27 : K.lookup f27 = some ⟨oc27, od27, .func (PySem.W.fnOf "_law_signs" "_law_signs" (defArgs sLSigns) (defBody sLSigns) (defScope sLSigns) .none kV27 dc27 pm27 an27 cd27 ct27), sl27⟩) (c27 : PySem.W.codeIn K cd27 "_law_signs" = true) (k27 : PySem.W.keepIn K (.ref f27) = true)
    (a28 : PySem.W.nsIn K mainGlobals "_law_sum" = some (some (.ref f28))) (l28 : K.lookup f28 = some ⟨oc28, od28, .func (PySem.W.fnOf "_law_sum" "_law_sum" (defArgs sLSum) (defBody sLSum) (defScope sLSum) .none kV28 dc28 pm28 an28 cd28 ct28), sl28⟩) (c28 : PySem.W.codeIn K cd28 "_law_sum" = true) (k28 : PySem.W.keepIn K (.ref f28) = true)
    (a29 : PySem.W.nsIn K mainGlobals "_law_choose" = some (some (.ref f29))) (l29 : K.lookup f29 = some ⟨oc29, od29, .func (PySem.W.fnOf "_law_choose" "_law_choose" (defArgs sLChoose) (defBody sLChoose) (defScope sLChoose) .none kV29 dc29 pm29 an29 cd29 ct29), sl29⟩) (c29 : PySem.W.codeIn K cd29 "_law_choose" = true) (k29 : PySem.W.keepIn K (.ref f29) = true)
    (a30 : PySem.W.nsIn K mainGlobals "_law_kind" = some (some (.ref f30))) (l30 : K.lookup f30 = some ⟨oc30, od30, .func (PySem.W.fnOf "_law_kind" "_law_kind" (defArgs sLKind) (defBody sLKind) (defScope sLKind) .none kV30 dc30 pm30 an30 cd30 ct30), sl30⟩) (c30 : PySem.W.codeIn K cd30 "_law_kind" = true) (k30 : PySem.W.keepIn K (.ref f30) = true)
    (a31 : PySem.W.nsIn K mainGlobals "_law_within" = some (some (.ref f31))) (l31 : K.lookup f31 = some ⟨oc31, od31, .func (PySem.W.fnOf "_law_within" "_law_within" (defArgs sLWithin) (defBody sLWithin) (defScope sLWithin) .none kV31 dc31 pm31 an31 cd31 ct31), sl31⟩) (c31 : PySem.W.codeIn K cd31 "_law_within" = true) (k31 : PySem.W.keepIn K (.ref f31) = true)
    (a32 : PySem.W.nsIn K mainGlobals "_law_whole" = some (some (.ref f32))) (l32 : K.lookup f32 = some ⟨oc32, od32, .func (PySem.W.fnOf "_law_whole" "_law_whole" (defArgs sLWhole) (defBody sLWhole) (defScope sLWhole) .none kV32 dc32 pm32 an32 cd32 ct32), sl32⟩) (c32 : PySem.W.codeIn K cd32 "_law_whole" = true) (k32 : PySem.W.keepIn K (.ref f32) = true)
    (a33 : PySem.W.nsIn K mainGlobals "_law_widened" = some (some (.ref f33))) (l33 : K.lookup f33 = some ⟨oc33, od33, .func (PySem.W.fnOf "_law_widened" "_law_widened" (defArgs sLWidened) (defBody sLWidened) (defScope sLWidened) .none kV33 dc33 pm33 an33 cd33 ct33), sl33⟩) (c33 : PySem.W.codeIn K cd33 "_law_widened" = true) (k33 : PySem.W.keepIn K (.ref f33) = true)
    (a34 : PySem.W.nsIn K mainGlobals "_law_spoilt" = some (some (.ref f34))) (l34 : K.lookup f34 = some ⟨oc34, od34, .func (PySem.W.fnOf "_law_spoilt" "_law_spoilt" (defArgs sLSpoilt) (defBody sLSpoilt) (defScope sLSpoilt) .none kV34 dc34 pm34 an34 cd34 ct34), sl34⟩) (c34 : PySem.W.codeIn K cd34 "_law_spoilt" = true) (k34 : PySem.W.keepIn K (.ref f34) = true)
    (a35 : PySem.W.nsIn K mainGlobals "_law_is_told" = some (some (.ref f35))) (l35 : K.lookup f35 = some ⟨oc35, od35, .func (PySem.W.fnOf "_law_is_told" "_law_is_told" (defArgs sLIsTold) (defBody sLIsTold) (defScope sLIsTold) .none kV35 dc35 pm35 an35 cd35 ct35), sl35⟩) (c35 : PySem.W.codeIn K cd35 "_law_is_told" = true) (k35 : PySem.W.keepIn K (.ref f35) = true)
    (a36 : PySem.W.nsIn K mainGlobals "law" = some (some (.ref f36))) (l36 : K.lookup f36 = some ⟨oc36, od36, .func (PySem.W.fnOf "law" "law" (defArgs sLaw) (defBody sLaw) (defScope sLaw) .none kV36 dc36 pm36 an36 cd36 ct36), sl36⟩) (c36 : PySem.W.codeIn K cd36 "law" = true) (k36 : PySem.W.keepIn K (.ref f36) = true)
    (z1 : PySem.W.nsIn K mainGlobals "len" = some none)
    (z2 : PySem.W.nsIn K mainGlobals "abs" = some none)
    (z3 : PySem.W.nsIn K mainGlobals "int" = some none)
    (z4 : PySem.W.nsIn K mainGlobals "bool" = some none)
    (z5 : PySem.W.nsIn K mainGlobals "tuple" = some none)
    (z6 : PySem.W.nsIn K mainGlobals "list" = some none)
    (z7 : PySem.W.nsIn K mainGlobals "range" = some none)
    (z8 : PySem.W.nsIn K mainGlobals "zip" = some none)
    (z9 : PySem.W.nsIn K mainGlobals "repr" = some none)
    (z10 : PySem.W.nsIn K mainGlobals "enumerate" = some none)
    (z11 : PySem.W.nsIn K mainGlobals "isinstance" = some none)
    (z12 : PySem.W.nsIn K mainGlobals "all" = some none)
    (z13 : PySem.W.nsIn K mainGlobals "sorted" = some none)
    (z14 : PySem.W.nsIn K mainGlobals "set" = some none)
    (z15 : PySem.W.nsIn K mainGlobals "sum" = some none)
    (z16 : PySem.W.nsIn K mainGlobals "min" = some none)
    (z17 : PySem.W.nsIn K mainGlobals "max" = some none)
    (z18 : PySem.W.nsIn K mainGlobals "any" = some none)
    (z19 : PySem.W.nsIn K mainGlobals "str" = some none)
    (m : PySem.W.nsIn K mainGlobals "MAX_TABLE" = some (some (.int 6 tM)))
    (zc : PySem.W.nsIn K mainGlobals "comb" = some (some (.builtin "math.comb")))
    (zd : PySem.W.nsIn K mainGlobals "dict" = some none)
    : ∃ fd : FuncData, (∀ (s : Shared) (u : Value), BindsTo s fd ⟨[u], []⟩ [("script", u)]) ∧ ∀ base : Heap, K.In base → base.Ns mainGlobals mg → FnG l.prog w K mg base CX0 7 fa fd ["script"] (spLaw K) := by
  have e := hfa.symm.trans (PySem.W.mg_of X G a36)
  cases e
  have D1 : Df K mg "lots_of" sLotsOf ["n", "size"] := df_mk X G a1 l1 c1 k1 fun _ _ _ _ _ _ us hl => match us, hl with | [_, _], _ => rfl
  have D2 : Df K mg "all_lots" sAllLots ["n"] := df_mk X G a2 l2 c2 k2 fun _ _ _ _ _ _ us hl => match us, hl with | [_], _ => rfl
  have D3 : Df K mg "lot_number" sLotNum ["n", "lot"] := df_mk X G a3 l3 c3 k3 fun _ _ _ _ _ _ us hl => match us, hl with | [_, _], _ => rfl
  have D4 : Df K mg "numbers_of" sNumbersOf ["n", "size"] := df_mk X G a4 l4 c4 k4 fun _ _ _ _ _ _ us hl => match us, hl with | [_, _], _ => rfl
  have D5 : Df K mg "goal" sGoal ["n", "entry"] := df_mk X G a5 l5 c5 k5 fun _ _ _ _ _ _ us hl => match us, hl with | [_, _], _ => rfl
  have D6 : Df K mg "numbers_of_lots" sNumbers ["n"] := df_mk X G a6 l6 c6 k6 fun _ _ _ _ _ _ us hl => match us, hl with | [_], _ => rfl
  have D7 : Df K mg "aims_of" sAims ["n", "table"] := df_mk X G a7 l7 c7 k7 fun _ _ _ _ _ _ us hl => match us, hl with | [_, _], _ => rfl
  have D8 : Df K mg "signs_of" sSignsOf ["n", "table"] := df_mk X G a8 l8 c8 k8 fun _ _ _ _ _ _ us hl => match us, hl with | [_, _], _ => rfl
  have D9 : Df K mg "carryings_sign" sCarryingsSign ["entries"] := df_mk X G a9 l9 c9 k9 fun _ _ _ _ _ _ us hl => match us, hl with | [_], _ => rfl
  have D10 : Df K mg "sign_of" sSignOf ["ways"] := df_mk X G a10 l10 c10 k10 fun _ _ _ _ _ _ us hl => match us, hl with | [_], _ => rfl
  have D11 : Df K mg "kind_signs" sKindSigns ["n", "k"] := df_mk X G a11 l11 c11 k11 fun _ _ _ _ _ _ us hl => match us, hl with | [_, _], _ => rfl
  have D12 : Df K mg "_choices" sChoices ["many", "some"] := df_mk X G a12 l12 c12 k12 fun _ _ _ _ _ _ us hl => match us, hl with | [_, _], _ => rfl
  have D13 : Df K mg "sum_of_rows" sSumRows ["n", "rows"] := df_mk X G a13 l13 c13 k13 fun _ _ _ _ _ _ us hl => match us, hl with | [_, _], _ => rfl
  have D14 : Df K mg "kinds_in" sKindsIn ["n", "row"] := df_mk X G a14 l14 c14 k14 fun _ _ _ _ _ _ us hl => match us, hl with | [_, _], _ => rfl
  have D15 : Df K mg "_law_deck" sDeck ["script"] := df_mk X G a15 l15 c15 k15 fun _ _ _ _ _ _ us hl => match us, hl with | [_], _ => rfl
  have D16 : Df K mg "_law_draw" sDraw ["deck", "many"] := df_mk X G a16 l16 c16 k16 fun _ _ _ _ _ _ us hl => match us, hl with | [_, _], _ => rfl
  have D17 : Df K mg "_law_pick" sPick ["deck", "some"] := df_mk X G a17 l17 c17 k17 fun _ _ _ _ _ _ us hl => match us, hl with | [_, _], _ => rfl
  have D18 : Df K mg "_law_mixed" sMixed ["deck", "own"] := df_mk X G a18 l18 c18 k18 fun _ _ _ _ _ _ us hl => match us, hl with | [_, _], _ => rfl
  have D19 : Df K mg "_law_lots" sLLots ["n"] := df_mk X G a19 l19 c19 k19 fun _ _ _ _ _ _ us hl => match us, hl with | [_], _ => rfl
  have D20 : Df K mg "_law_flat" sLFlat ["n"] := df_mk X G a20 l20 c20 k20 fun _ _ _ _ _ _ us hl => match us, hl with | [_], _ => rfl
  have D21 : Df K mg "_law_deed" sDeed ["deck", "n", "k"] := df_mk X G a21 l21 c21 k21 fun _ _ _ _ _ _ us hl => match us, hl with | [_, _, _], _ => rfl
  have D22 : Df K mg "_law_moves" sLMoves ["n", "deed"] := df_mk X G a22 l22 c22 k22 fun _ _ _ _ _ _ us hl => match us, hl with | [_, _], _ => rfl
  have D23 : Df K mg "_law_end" sLEnd ["entry"] := df_mk X G a23 l23 c23 k23 fun _ _ _ _ _ _ us hl => match us, hl with | [_], _ => rfl
  have D24 : Df K mg "_law_after" sLAfter ["n", "one", "two"] := df_mk X G a24 l24 c24 k24 fun _ _ _ _ _ _ us hl => match us, hl with | [_, _, _], _ => rfl
  have D25 : Df K mg "_law_drawn" sDrawn ["deck", "n", "often"] := df_mk X G a25 l25 c25 k25 fun _ _ _ _ _ _ us hl => match us, hl with | [_, _, _], _ => rfl
  have D26 : Df K mg "_law_odd" sLOdd ["items"] := df_mk X G a26 l26 c26 k26 fun _ _ _ _ _ _ us hl => match us, hl with | [_], _ => rfl
  have D27 : Df K mg "_law_signs" sLSigns ["n", "table"] := df_mk X G a27 l27 c27 k27 fun _ _ _ _ _ _ us hl => match us, hl with | [_, _], _ => rfl
  have D28 : Df K mg "_law_sum" sLSum ["one", "two"] := df_mk X G a28 l28 c28 k28 fun _ _ _ _ _ _ us hl => match us, hl with | [_, _], _ => rfl
  have D29 : Df K mg "_law_choose" sLChoose ["a", "b"] := df_mk X G a29 l29 c29 k29 fun _ _ _ _ _ _ us hl => match us, hl with | [_, _], _ => rfl
  have D30 : Df K mg "_law_kind" sLKind ["n", "k"] := df_mk X G a30 l30 c30 k30 fun _ _ _ _ _ _ us hl => match us, hl with | [_, _], _ => rfl
  have D31 : Df K mg "_law_within" sLWithin ["n", "row"] := df_mk X G a31 l31 c31 k31 fun _ _ _ _ _ _ us hl => match us, hl with | [_, _], _ => rfl
  have D32 : Df K mg "_law_whole" sLWhole ["n", "deeds"] := df_mk X G a32 l32 c32 k32 fun _ _ _ _ _ _ us hl => match us, hl with | [_, _], _ => rfl
  have D33 : Df K mg "_law_widened" sLWidened ["deck", "n", "deeds"] := df_mk X G a33 l33 c33 k33 fun _ _ _ _ _ _ us hl => match us, hl with | [_, _, _], _ => rfl
  have D34 : Df K mg "_law_spoilt" sLSpoilt ["deck", "n", "table"] := df_mk X G a34 l34 c34 k34 fun _ _ _ _ _ _ us hl => match us, hl with | [_, _, _], _ => rfl
  have D35 : Df K mg "_law_is_told" sLIsTold ["n", "table"] := df_mk X G a35 l35 c35 k35 fun _ _ _ _ _ _ us hl => match us, hl with | [_, _], _ => rfl
  have B : Bi mg := ⟨PySem.W.mg_none_of X G z1, PySem.W.mg_none_of X G z2, PySem.W.mg_none_of X G z3, PySem.W.mg_none_of X G z4, PySem.W.mg_none_of X G z5, PySem.W.mg_none_of X G z6, PySem.W.mg_none_of X G z7, PySem.W.mg_none_of X G z8, PySem.W.mg_none_of X G z9, PySem.W.mg_none_of X G z10, PySem.W.mg_none_of X G z11, PySem.W.mg_none_of X G z12, PySem.W.mg_none_of X G z13, PySem.W.mg_none_of X G z14, PySem.W.mg_none_of X G z15, PySem.W.mg_none_of X G z16, PySem.W.mg_none_of X G z17, PySem.W.mg_none_of X G z18, PySem.W.mg_none_of X G z19⟩
  refine ⟨PySem.W.fnOf "law" "law" (defArgs sLaw) (defBody sLaw) (defScope sLaw) .none kV36 dc36 pm36 an36 cd36 ct36, fun s v => .of_eq rfl, fun base _ _ => ?_⟩
  have hM : ∃ t, mg "MAX_TABLE" = some (.int 6 t) := ⟨_, PySem.W.mg_of X G m⟩
  have C0 := PySem.W.mg_of X G zc
  have Hd := PySem.W.mg_none_of X G zd
  have olo : Ok l.prog w K mg base 1 "lots_of" ["n", "size"] spLots := D1.ok fun _ _ F => f_lotsOf F B
  have oal := o_all6 D2 B hM olo
  have oln : Ok l.prog w K mg base 1 "lot_number" ["n", "lot"] spNum := D3.ok fun _ _ F => f_lotNum F B C0
  have ono := o_numsOf D4 B C0 oln
  have ogo := o_goal (P := l.prog) (w := w) (base := base) D5 B
  have onu := o_numbers D6 B oal
  have oai := o_aims D7 B ogo onu
  have oso := o_signOf (P := l.prog) (w := w) (base := base) D10 B
  have oca := o_carry D9 B oso
  have osg : Ok l.prog w K mg base 5 "signs_of" ["n", "table"] spSigns := D8.ok fun _ _ F => f_signs F B oai ono oso oca
  have och := o_choices (P := l.prog) (w := w) (base := base) D12 B C0
  have oks : Ok l.prog w K mg base 2 "kind_signs" ["n", "k"] spKind := D11.ok fun _ _ F => f_kindSigns F B och
  have osr := o_sumRows (P := l.prog) (w := w) (base := base) D13 B
  have oki : Ok l.prog w K mg base 3 "kinds_in" ["n", "row"] (spRowF kinD) := D14.ok fun _ _ F => f_kindsIn F B osr oks
  have odk := o_deck (P := l.prog) (w := w) (base := base) D15 B
  have odr := o_draw (P := l.prog) (w := w) (base := base) D16 B
  have opk := o_pick D17 B odr
  have omx := o_mixed D18 B odr
  have oll := o_lLots (P := l.prog) (w := w) (base := base) D19 B
  have olf := o_lFlat D20 B oll
  have old := o_lDeed D21 B omx
  have olm := o_lMoves D22 B olf
  have ole := o_lEnd (P := l.prog) (w := w) (base := base) D23 B
  have oaf := o_lAfter D24 B Hd olf ole
  have odw := o_lDrawn D25 B oll odr omx
  have olod := o_lOdd (P := l.prog) (w := w) (base := base) D26 B
  have ols := o_lSigns D27 B oll ole olod
  have olu := o_lSum (P := l.prog) (w := w) (base := base) D28 B
  have olc := o_lChoose (P := l.prog) (w := w) (base := base) D29 B
  have olk := o_lKind D30 B olc
  have owi := o_within D31 B olu olk
  have owh := o_lWhole D32 B olm oaf
  have owd := o_lWidened D33 B odr old
  have osp := o_lSpoilt D34 B olf odr omx opk
  have oto := o_lIsTold D35 B ols osg oki owi
  exact ok_law (fun_mk (st := sLaw) l36 c36 k36) B ⟨odk, odr, opk, old, owh, owd, osp, odw, oto, osg, oki⟩
end Kr
open PySem PySem.W PyProof.Rows
set_option maxHeartbeats 0 in
theorem PySem.Challenge.cw_keyriders_k24_whole_kinds_of_tables_holds : PySem.Challenge.rw_keyriders_k24_whole_kinds_of_tables.Holds := by
  w_on; o_law; k_head; (case hw => w_witness2)
  k_fill
  refine Kr.walkG (l := PySem.Challenge.rw_keyriders_k24_whole_kinds_of_tables) (n := 63) (k := 7) (x := "script") (sp := Kr.spLaw) rfl (by decide) rfl ⟨rfl, by decide, by decide⟩ (fun w h Y => PySem.W.kIn_of Y) ?F (fun _ _ a ns hl _ hS => ⟨a, ns, rfl, hS, hl, fun _ => rfl⟩)
  case F =>
    intro w mg fa h KX G hmg
    refine' Kr.all_mk KX G hmg ?a1 ?l1 ?c1 ?k1 ?a2 ?l2 ?c2 ?k2 ?a3 ?l3 ?c3 ?k3 ?a4 ?l4 ?c4 ?k4 ?a5 ?l5 ?c5 ?k5 ?a6 ?l6 ?c6 ?k6 ?a7 ?l7 ?c7 ?k7 ?a8 ?l8 ?c8 ?k8 ?a9 ?l9 ?c9 ?k9 ?a10 ?l10 ?c10 ?k10 ?a11 ?l11 ?c11 ?k11 ?a12 ?l12 ?c12 ?k12 ?a13 ?l13 ?c13 ?k13 ?a14 ?l14 ?c14 ?k14 ?a15 ?l15 ?c15 ?k15 ?a16 ?l16 ?c16 ?k16 ?a17 ?l17 ?c17 ?k17 ?a18 ?l18 ?c18 ?k18 ?a19 ?l19 ?c19 ?k19 ?a20 ?l20 ?c20 ?k20 ?a21 ?l21 ?c21 ?k21 ?a22 ?l22 ?c22 ?k22 ?a23 ?l23 ?c23 ?k23 ?a24 ?l24 ?c24 ?k24 ?a25 ?l25 ?c25 ?k25 ?a26 ?l26 ?c26 ?k26 ?a27 ?l27 ?c27 ?k27 ?a28 ?l28 ?c28 ?k28 ?a29 ?l29 ?c29 ?k29 ?a30 ?l30 ?c30 ?k30 ?a31 ?l31 ?c31 ?k31 ?a32 ?l32 ?c32 ?k32 ?a33 ?l33 ?c33 ?k33 ?a34 ?l34 ?c34 ?k34 ?a35 ?l35 ?c35 ?k35 ?a36 ?l36 ?c36 ?k36 ?z1 ?z2 ?z3 ?z4 ?z5 ?z6 ?z7 ?z8 ?z9 ?z10 ?z11 ?z12 ?z13 ?z14 ?z15 ?z16 ?z17 ?z18 ?z19 ?m ?zc ?zd
    (case a1 => k_is); (case l1 => k_is); (case c1 => k_is); (case k1 => k_is); (case a2 => k_is); (case l2 => k_is); (case c2 => k_is); (case k2 => k_is); (case a3 => k_is); (case l3 => k_is); (case c3 => k_is); (case k3 => k_is); (case a4 => k_is); (case l4 => k_is); (case c4 => k_is); (case k4 => k_is); (case a5 => k_is); (case l5 => k_is); (case c5 => k_is); (case k5 => k_is); (case a6 => k_is); (case l6 => k_is); (case c6 => k_is); (case k6 => k_is); (case a7 => k_is); (case l7 => k_is); (case c7 => k_is); (case k7 => k_is); (case a8 => k_is); (case l8 => k_is); (case c8 => k_is); (case k8 => k_is); (case a9 => k_is); (case l9 => k_is); (case c9 => k_is); (case k9 => k_is); (case a10 => k_is); (case l10 => k_is); (case c10 => k_is); (case k10 => k_is); (case a11 => k_is); (case l11 => k_is); (case c11 => k_is); (case k11 => k_is); (case a12 => k_is); (case l12 => k_is); (case c12 => k_is); (case k12 => k_is); (case a13 => k_is); (case l13 => k_is); (case c13 => k_is); (case k13 => k_is); (case a14 => k_is); (case l14 => k_is); (case c14 => k_is); (case k14 => k_is); (case a15 => k_is); (case l15 => k_is); (case c15 => k_is); (case k15 => k_is); (case a16 => k_is); (case l16 => k_is); (case c16 => k_is); (case k16 => k_is); (case a17 => k_is); (case l17 => k_is); (case c17 => k_is); (case k17 => k_is); (case a18 => k_is); (case l18 => k_is); (case c18 => k_is); (case k18 => k_is); (case a19 => k_is); (case l19 => k_is); (case c19 => k_is); (case k19 => k_is); (case a20 => k_is); (case l20 => k_is); (case c20 => k_is); (case k20 => k_is); (case a21 => k_is); (case l21 => k_is); (case c21 => k_is); (case k21 => k_is); (case a22 => k_is); (case l22 => k_is); (case c22 => k_is); (case k22 => k_is); (case a23 => k_is); (case l23 => k_is); (case c23 => k_is); (case k23 => k_is); (case a24 => k_is); (case l24 => k_is); (case c24 => k_is); (case k24 => k_is); (case a25 => k_is); (case l25 => k_is); (case c25 => k_is); (case k25 => k_is); (case a26 => k_is); (case l26 => k_is); (case c26 => k_is); (case k26 => k_is); (case a27 => k_is); (case l27 => k_is); (case c27 => k_is); (case k27 => k_is); (case a28 => k_is); (case l28 => k_is); (case c28 => k_is); (case k28 => k_is); (case a29 => k_is); (case l29 => k_is); (case c29 => k_is); (case k29 => k_is); (case a30 => k_is); (case l30 => k_is); (case c30 => k_is); (case k30 => k_is); (case a31 => k_is); (case l31 => k_is); (case c31 => k_is); (case k31 => k_is); (case a32 => k_is); (case l32 => k_is); (case c32 => k_is); (case k32 => k_is); (case a33 => k_is); (case l33 => k_is); (case c33 => k_is); (case k33 => k_is); (case a34 => k_is); (case l34 => k_is); (case c34 => k_is); (case k34 => k_is); (case a35 => k_is); (case l35 => k_is); (case c35 => k_is); (case k35 => k_is); (case a36 => k_is); (case l36 => k_is); (case c36 => k_is); (case k36 => k_is); (case z1 => k_is); (case z2 => k_is); (case z3 => k_is); (case z4 => k_is); (case z5 => k_is); (case z6 => k_is); (case z7 => k_is); (case z8 => k_is); (case z9 => k_is); (case z10 => k_is); (case z11 => k_is); (case z12 => k_is); (case z13 => k_is); (case z14 => k_is); (case z15 => k_is); (case z16 => k_is); (case z17 => k_is); (case z18 => k_is); (case z19 => k_is); (case m => k_is); (case zc => k_is); (case zd => k_is)
