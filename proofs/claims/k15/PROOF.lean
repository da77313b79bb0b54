import PyProof.Rows.All
import Wide.All
import OpenK.AllK
import Wide.FinOn
import KE.GoesEnum
import HandS.ForMost
import HandS.Walk
import KE.KRevSl
import PyProof.ReprReads
import PyProof.ReprRoads
import HandS.IsInst
import HandS.Defaults
import HandS.TupAny
import HandS.TupMul
import HandS.Conv
import HandS.Zip
import HandS.SortInts
import HandS.WordsExc
import HandS.ExcOwn
import HandS.ExcIs
import HandS.ExcInit
import KE.KMathGC
import HandS.DictComp
import PyProof.ReprLen
import HandS.NoneIn
import HandS.Dict
import PyProof.EqKinds
import KE.KMathG
import HandS.DictTup
import HandS.DictSubView
import HandS.Style
import HandS.Wide
import PySem.Challenge.RW_keyriders_k15_whole_powers_and_orders
set_option Elab.async false
set_option linter.all false
set_option maxRecDepth 100000
set_option maxHeartbeats 4000000
namespace Kr
open PySem PySem.Spec PyProof.Rows L2
open AutoSeq1 (wpAny_loadPart')

theorem enum_new_tup (l : Addr) (items : Array Value) :
    Meets (Builtin.«enumerate.__new__» ⟨[.type "enumerate", .ref l], []⟩) (fun _ R s => s.heap.IsTuple l items ∧
      R (.ok (.ret (.ref (s.heap.push { cls := .type "tuple_iterator", data := .fields #[.ref l, .int 0 0] }).objs.size)))
        { s with heap := (s.heap.push { cls := .type "tuple_iterator", data := .fields #[.ref l, .int 0 0] }).push { cls := .type "enumerate", data := .fields #[.none, .bool false, .ref s.heap.objs.size, rawInt 0, .none, .none] } }) :=
  .of_wp fun prog w A R s h => by
    obtain ⟨hp, g, d, tk, os⟩ := s
    obtain ⟨hL, h⟩ := h
    have hsub := sub_enumerate
    wp_walk using wpAny_pyIter_tuple hL
    refine wpAny_stack_any fun st => wpAny_pure ?_
    split
    · rename_i c _ _ _ _ _
      cases (c == Value.type "enumerate")
      all_goals
        wp_walk using wpAny_pyIter_tuple hL
        exact ⟨_, rfl, h⟩
    · wp_walk using wpAny_pyIter_tuple hL
      exact ⟨_, rfl, h⟩

section
variable {prog : Program} {w : World} {A : Around} {E : Value → Shared → Prop} {s : Shared}
theorem enum_call_tup {l : Addr} {items : Array Value} {Q : Value → Shared → Prop} (hL : s.heap.IsTuple l items)
    (h : ∀ h', IsEnum h' (s.heap.objs.size + 1) s.heap.objs.size 0 .none → h'.IsTupleIter s.heap.objs.size l 0 → h'.objs.size = s.heap.objs.size + 2 →
      (∀ b o, s.heap.get? b = some o → h'.get? b = some o) → Q (.ref (s.heap.objs.size + 1)) { s with heap := h' }) :
    wpAny (model prog w) A (call (.type "enumerate") [.ref l]) Q E s := by
  refine callType_new F.called_enumerate (by decide) (F.typeCall_enumerate_1 _) (F.newCall_enumerate_1 _) (fun obj => F.args_object_init_2 obj _) F.entry_enumerate_new
    (enum_new_tup l items) ⟨hL, ?_⟩
  generalize hh1 : s.heap.push { cls := .type "tuple_iterator", data := .fields #[.ref l, .int 0 0] } = h1
  have hz : h1.objs.size = s.heap.objs.size + 1 := by rw [← hh1]; exact Heap.size_push ..
  have g1 : h1.get? s.heap.objs.size = some { cls := .type "tuple_iterator", data := .fields #[.ref l, .int 0 0] } := by rw [← hh1]; exact Heap.get?_push_size _ rfl
  have k1 : ∀ b o, s.heap.get? b = some o → h1.get? b = some o := fun b o e => by rw [← hh1]; exact Heap.get?_push_of_some _ e
  have he : IsEnum (h1.push { cls := .type "enumerate", data := .fields #[.none, .bool false, .ref s.heap.objs.size, rawInt 0, .none, .none] }) (s.heap.objs.size + 1) s.heap.objs.size 0 .none := by
    have q := Heap.get?_push_size h1 (o := { cls := .type "enumerate", data := .fields #[.none, .bool false, .ref s.heap.objs.size, rawInt 0, .none, .none] }) rfl
    rw [hz] at q
    exact q
  show _ ∧ _
  rw [hz]
  exact ⟨⟨_, he, rfl⟩, h _ he ⟨_, Heap.get?_push_of_some _ g1, rfl, rfl⟩ (by rw [Heap.size_push, hz]) fun b o x => Heap.get?_push_of_some _ (k1 b o x)⟩
end

/-- the tuple at a, each item in a new pair -/
def Itet (K : PySem.W.Frag) (a : Addr) : It :=
  ⟨fun i H => ∃ (xs : List V) (x : V), SqT K H a xs ∧ xs[i]? = some x,
    fun i H v H' => ∃ T x, v = .ref T ∧ H T = none ∧ H' = upd H T (.tup [.int (i : Nat), x]) ∧ ∀ xs, SqT K H a xs → xs[i]? = some x,
    fun i H => ∃ xs : List V, SqT K H a xs ∧ xs.length = i⟩
theorem tup_ne {h : Heap} {a it : Addr} {items : Array Value} {o : Obj} (p : IsTup h a items) (ho : h.get? it = some o) (hc : o.cls ≠ .type "tuple") : a ≠ it := fun z => by
  obtain ⟨u, hu, hcu, _⟩ := p
  rw [z, ho] at hu
  cases hu
  exact hc hcu
theorem turn_enumT {P : Program} {w : World} {K : PySem.W.Frag} {elts : List Expr} {kk : Nat} {tpos : Pos} (a e it : Addr) :
    Turn P w K (.Tuple elts kk tpos) (Itet K a) [e, it] e (fun i h => (∃ old, IsEnum h e it ((i : Nat) : Int) old) ∧ h.IsTupleIter it a i ∧ e ≠ it) where
  mem := by simp
  obj := fun i h st b hb => by
    obtain ⟨⟨old, he⟩, ⟨o, ho, hc, hd⟩, _⟩ := st
    rcases (show b = e ∨ b = it by simpa using hb) with z | z
    · rw [z]; exact ⟨_, he, fun v q => nomatch q⟩
    · rw [z]; exact ⟨o, ho, fun v q => by rw [hd] at q; cases q⟩
  keep := fun i h h' st k => let ⟨⟨old, he⟩, hi, hne⟩ := st; ⟨⟨old, k e (by simp) _ he⟩, hi.at fun o q => k it (by simp) o q, hne⟩
  item := by
    intro X hP hw hK hc i pins s σ H E I hf st hg
    subst hP hw hK
    obtain ⟨⟨old, he⟩, hit, hne⟩ := st
    obtain ⟨xs, x, hq, hx⟩ := hg
    obtain ⟨its, rv, p, hz⟩ := I.tuple hq
    obtain ⟨u, hu, ru⟩ := rv.get hx
    have hel : e < s.heap.objs.size := Heap.lt_size he
    have hil : it < s.heap.objs.size := by obtain ⟨_, q, _⟩ := hit; exact Heap.lt_size q
    have nai : a ≠ it := by
      obtain ⟨o, ho, hcl, _⟩ := id hit
      exact tup_ne p ho (by rw [hcl]; decide)
    have hlt : i < its.toArray.size := by
      rw [List.size_toArray]
      exact (List.getElem?_eq_some_iff.mp hu).1
    have nea : e ≠ a := fun z => tup_ne p he (by show Value.type "enumerate" ≠ Value.type "tuple"; decide) z.symm
    refine PySem.wpAny_pyNext_enum_itemC (Draws.tuple (A := X.A.in1) (I.ok.hd hc) it a nai its.toArray) he ⟨hit, p⟩ hlt hne (by simp [hne, nea]) fun y h' tk hy ho hst hT hsz hk => ?_
    have ey : y = u := by
      have : its.toArray[i]? = some y := hy
      rw [List.getElem?_toArray, hu] at this
      exact (Option.some.inj this).symm
    subst ey
    refine ⟨_, rfl, wpAny_letOwnedTupleGo_enum (s := { s with heap := h', toks := tk + 1 }) ho fun h'' he' sb => ?_⟩
    have hT2 : h''.get? s.heap.objs.size = some { cls := .type "tuple", data := .seq #[.int i tk, y] } := (sb.2 _ (Nat.ne_of_gt hel)).trans hT
    have new : ObjOk X.prog X.w (upd H s.heap.objs.size (.tup [.int (i : Nat), x])) h'' s.heap.objs.size (.tup [.int (i : Nat), x]) :=
      ⟨by show 2 ≤ sizeLine; decide, [.int i tk, y], .cons ⟨_, rfl⟩ (.cons ru .nil), ⟨_, hT2, rfl, _, rfl⟩⟩
    have I1 : Inv X pins σ (upd H s.heap.objs.size (.tup [.int (i : Nat), x])) { s with heap := h'', toks := tk + 1 } :=
      I.turnedNew (ch := [e, it]) (fun b ob hb q => (sb.2 b (fun z => hb (by simp [z]))).trans (hk b ob (fun z => hb (by simp [z])) (fun z => hb (by simp [z])) q)) hf (Nat.le_refl _) new
    refine ⟨.ref s.heap.objs.size, _, I1, rfl, ⟨_, x, rfl, I.hok.fresh (Nat.le_refl _), rfl, fun ys hy => by rw [I.tuple_inj hy hq]; exact hx⟩, ⟨⟨y, ?_⟩, hst.1.at fun o q => (sb.2 it (Ne.symm hne)).trans q, hne⟩, fun b hb => ?_⟩
    · rw [show ((i + 1 : Nat) : Int) = (i : Int) + 1 by omega]
      exact he'
    · have hb' : b < s.heap.objs.size := by
        rcases (show b = e ∨ b = it by simpa using hb) with z | z
        · rw [z]; exact hel
        · rw [z]; exact hil
      rw [upd_ne (Nat.ne_of_lt hb')]
      exact (hf b hb).1
  done := by
    intro X hP hw hK hc i pins s σ H E I hf st hg
    subst hP hw hK
    obtain ⟨⟨old, he⟩, hit, hne⟩ := st
    obtain ⟨xs, hq, hx⟩ := hg
    obtain ⟨its, rv, p, hz⟩ := I.tuple hq
    obtain ⟨f0, f1, f2, f3, f4, f5⟩ := hf it (by simp)
    have nai : a ≠ it := by
      obtain ⟨o, ho, hcl, _⟩ := id hit
      exact tup_ne p ho (by rw [hcl]; decide)
    have ez : its.toArray.size = i := by
      rw [List.size_toArray, ← rv.length, hx]
    refine PySem.wpAny_pyNext_enum_endD (Draws.tuple (A := X.A.in1) (I.ok.hd hc) it a nai its.toArray) he ?_ fun h' eb => ⟨rfl, I.turned (t' := s.toks) (fun b o hb q => eb b o hb q) f0 f1 f3 f4 f5⟩
    rw [ez]
    exact ⟨hit, p⟩
  self := fun A i s Q E st h => let ⟨⟨_, he⟩, _⟩ := st; wpAny_pyIter_enum he h
def iEnumT (K : PySem.W.Frag) (ta : TA) : TI := fun σ H R => ta σ H fun vs H1 => ∃ a xs, vs = [.ref a] ∧ SqT K H1 a xs ∧ R (Itet K a) H1
theorem pi_enumT {X : Cx} {e : Expr} {ta : TA} {p pos tpos : Pos} {elts : List Expr} {kk : Nat} (hg : Gl X "enumerate") (hm : X.mg "enumerate" = none) (ha : PA X [e] ta) (hs : starEach [e] X.env = [(false, eval e X.env)] := by rfl) :
    PI X (.Tuple elts kk tpos) (.Call (.Name "enumerate" p) [e] [] pos) (iEnumT X.K ta) := by
  refine ⟨fun pins s σ H R I h => Call_ (ld_blt I hg hm boot_enumerate (PyProof.Rows.callWith_type1 (thn (ha.run pos pins s σ H _ I h) fun us s1 ⟨vs, H1, I1, r1, q1⟩ => ?_) hs rfl))⟩
  obtain ⟨a, xs, rfl, hq, q⟩ := q1
  obtain rfl := Vals.ref1 r1
  obtain ⟨its, rv, p', hz⟩ := I1.tuple hq
  refine enum_call_tup p' fun h' he hit hsz hk => wpAny_pyIter_enum he ?_
  have I2 : Inv X pins σ H1 { s1 with heap := h' } := I1.kept (t' := s1.toks) hk
  refine ⟨s1.heap.objs.size + 1, [s1.heap.objs.size + 1, s1.heap.objs.size], _, _, H1, rfl, I2, turn_enumT a (s1.heap.objs.size + 1) s1.heap.objs.size, ⟨⟨.none, he⟩, hit, Nat.succ_ne_self _⟩, fun b hb => ?_, q⟩
  have hle : s1.heap.objs.size ≤ b := by
    rcases (show b = s1.heap.objs.size + 1 ∨ b = s1.heap.objs.size by simpa using hb) with z | z <;> rw [z]
    · exact Nat.le_succ _
    · exact Nat.le_refl _
  exact I1.fpOk hle (I1.hok.fresh hle)

theorem walk_enumT {K : PySem.W.Frag} {a : Addr} {xs : List V} : Walk (Itet K a) xs.length (fun H => SqT K H a xs) (YPair (fun i => some (.int (i : Nat))) (fun i => xs[i]?)) := by
  refine ⟨fun i _ hi q => ⟨xs, xs[i], q, List.getElem?_eq_getElem hi⟩, fun _ q => ⟨xs, q, rfl⟩, fun i H v H' _ q y => ?_⟩
  obtain ⟨T, x, e1, e2, e3, e4⟩ := y
  exact ⟨T, _, x, e1, e2, e3, rfl, e4 xs q⟩
end Kr
namespace Kr
open PySem PySem.Spec PyProof.Rows L2 HT
theorem adj_rev (n : Nat) : Builtin.Slice.sliceAdjust none none (-1) (n : Int) = ((n : Int) - 1, -1) := by
  unfold Builtin.Slice.sliceAdjust
  simp
theorem pla_rev (n : Nat) : Builtin.Slice.slicePlaces ((n : Int) - 1) (-1) (-1) = n := by
  unfold Builtin.Slice.slicePlaces
  simp
  omega
theorem pick_rev (xs : Array Value) : ((List.range xs.size).filterMap fun (m : Nat) => xs[(((xs.size : Nat) : Int) - 1 + (m : Int) * (-1)).toNat]?).toArray = xs.toList.reverse.toArray := by
  have e : (fun (m : Nat) => xs[(((xs.size : Nat) : Int) - 1 + (m : Int) * (-1)).toNat]?) = (fun k => xs[k]?) ∘ fun (m : Nat) => xs.size - 1 - m := by
    funext m
    show _ = xs[xs.size - 1 - m]?
    rw [show (((xs.size : Nat) : Int) - 1 + (m : Int) * (-1)).toNat = xs.size - 1 - m by omega]
  rw [e, ← List.filterMap_map, PySem.W.krv_range, List.filterMap_reverse, PySem.W.krv_all]
section
variable {prog : Program} {w : World} {A : Around} {E : Value → Shared → Prop} {s : Shared}
theorem applied_rev {sl : Addr} {vk : Value} {n : Nat} {Q : Int × Int × Nat → Shared → Prop} (hs : s.heap.IsSliceOf sl .none .none vk) (pk : IsPart vk (some (-1)))
    (h : Q ((n : Int) - 1, -1, n) s) : wpAny (model prog w) A (Builtin.Slice.sliceApplied (.ref sl) (pure (n : Int))) Q E s := by
  obtain ⟨os, hos, hcs, hds⟩ := id hs
  unfold Builtin.Slice.sliceApplied Builtin.Slice.sliceFields
  refine wpAny_bind (wpAny_bind (wpAny_field hos hds (x := .none) rfl (wpAny_bind (wpAny_field hos hds (x := .none) rfl (wpAny_bind (wpAny_field hos hds (x := vk) rfl (wpAny_pure ?_)))))))
  refine wpAny_bind (slicePart_ pk ?_)
  show wpAny _ _ (if ((-1 : Int) == 0) = true then _ else _) _ _ s
  rw [if_neg (by decide)]
  refine wpAny_bind (slicePart_none (wpAny_bind (slicePart_none (wpAny_bind (wpAny_pure ?_)))))
  show wpAny _ _ (match Builtin.Slice.sliceAdjust none none (-1) (n : Int) with | (lo, hi) => pure (lo, (-1 : Int), Builtin.Slice.slicePlaces lo hi (-1))) _ _ s
  rw [adj_rev n]
  show wpAny _ _ (pure ((n : Int) - 1, (-1 : Int), Builtin.Slice.slicePlaces ((n : Int) - 1) (-1) (-1))) _ _ s
  rw [pla_rev]
  exact wpAny_pure h
theorem tuple_rev {t sl : Addr} {items : Array Value} {vk : Value} {Q : Value → Shared → Prop} (ht : IsTup s.heap t items) (hs : s.heap.IsSliceOf sl .none .none vk) (pk : IsPart vk (some (-1)))
    (h : Q (.ref s.heap.objs.size) { s with heap := s.heap.push { cls := .type "tuple", data := .seq items.toList.reverse.toArray } })
    (hsz : items.size ≤ sizeLine) : wpAny (model prog w) A (getItem (.ref t) (.ref sl)) Q E s := by
  have hok : sizeOk (.seq items.toList.reverse.toArray) := by
    show items.toList.reverse.toArray.size ≤ sizeLine
    rw [List.size_toArray, List.length_reverse, Array.length_toList]
    exact hsz
  obtain ⟨os, hos, hcs, hds⟩ := id hs
  have hTs : s.TypeIs (.ref sl) "slice" := ⟨os, hos, hcs⟩
  unfold getItem
  try with_reducible refine wpAny_holding ?_
  first | refine wpAny_bind (wpAny_pure ?_) | skip
  refine wpAny_bind (wpAny_sequenceKey ht.typeIs (by decide) ?_)
  refine wpAny_bind (wpAny_callSpecial?_slot (name := Str.ofString "__getitem__") ht.typeIs PyProof.Rows.slot_tuple_getitem
    (wpAny_call_entry PyProof.Rows.slot_tuple_getitem ht.typeIs entry_tuple_getitem ?_ (args_tuple_getitem _ _)))
  show wpAny _ _ (Builtin.Tuple.tupleItemsOf (.ref t) >>= _) _ _ s
  refine wpAny_bind (tupleItemsOf_ ht (wpAny_bind (wpAny_typeOf hTs ?_)))
  rw [if_pos (by decide)]
  refine wpAny_bind (applied_rev hs pk ?_)
  have hno : ¬ (((((items.size : Nat) : Int) - 1) == 0 && (-1 : Int) == 1 && items.size == items.size) = true) := by
    rw [show ((-1 : Int) == 1) = false by decide, Bool.and_false, Bool.false_and]
    exact Bool.false_ne_true
  show wpAny _ _ (if ((((items.size : Nat) : Int) - 1) == 0 && (-1 : Int) == 1 && items.size == items.size) = true then _ else _) _ _ s
  rw [if_neg hno, pick_rev]
  first
    | exact wpAny_bind (wpAny_bind (m := Builtin.Tuple.tupleExact _) (wpAny_newObj_type (wpAny_pure ⟨_, rfl, wpAny_pure h⟩) hok))
    | exact wpAny_bind (m := Builtin.Tuple.tupleExact _) (wpAny_newObj_type (wpAny_pure ⟨_, rfl, wpAny_pure h⟩) hok)
    | exact wpAny_bind (m := Builtin.Tuple.tupleExact _) (wpAny_newObj_type (wpAny_bind (wpAny_pure (wpAny_pure ⟨_, rfl, wpAny_pure h⟩))) hok)
    | exact wpAny_bind (wpAny_bind (m := Builtin.Tuple.tupleExact _) (wpAny_newObj_type (wpAny_pure (wpAny_pure ⟨_, rfl, wpAny_pure h⟩)) hok))
end
section
variable {X : Cx}
/-- t[::-1] of a tuple -/
def tRevT (K : PySem.W.Frag) (te : TE) : TE := fun σ H Q => te σ H fun x H1 => ∃ a xs, x = .ref a ∧ SqT K H1 a xs ∧ ∀ p, H1 p = none → Q (.ref p) (upd H1 p (.tup xs.reverse))
theorem pe_revT {e : Expr} {te : TE} {k : Nat} {p1 p2 p3 pos : Pos} (he : PE X e te) : PE X (.Subscript e (.Slice none none (some (.UnaryOp .USub (.Constant (.int 1) k p1) p2)) p3) pos) (tRevT X.K te) := by
  refine ⟨fun pins s σ H Q I h => Subscript_ (thn (he.run pins s σ H _ I h) fun v s1 ⟨x, H1, I1, r1, q1⟩ => ?_)⟩
  obtain ⟨a, xs, rfl, hx, q⟩ := q1
  cases r1
  have hst : PO X (some (.UnaryOp .USub (.Constant (.int 1) k p1) p2)) (tPart (tUn (rU fun i => .int (-i)) (tC (.int 1)))) := po_some (pe_un un_neg pe_int)
  refine wpAny_Slice (thn (po_none.run pins s1 σ H1 (fun o H2 => o = none ∧ H2 = H1) I1 ⟨rfl, rfl⟩) fun vl s2 ⟨l, H2, I2, pl, el, e2⟩ => ?_)
  subst el e2
  refine thn (po_none.run pins s2 σ H2 (fun o H3 => o = none ∧ H3 = H2) I2 ⟨rfl, rfl⟩) fun vu s3 ⟨u, H3, I3, pu, eu, e3⟩ => ?_
  subst eu e3
  refine thn (hst.run pins s3 σ H3 (fun o H4 => o = some (-1) ∧ H4 = H3) I3 ⟨1, rfl, -1, rfl, rfl, rfl⟩) fun vs s4 ⟨o, H4, I4, ps, eo, e4⟩ => ?_
  subst eo e4
  cases pl
  cases pu
  have I5 : Inv X pins σ H4 { s4 with heap := s4.heap.push { cls := .type "slice", data := .fields #[.none, .none, vs] } } := I4.kept (t' := s4.toks) fun b ob q => Heap.get?_push_of_some _ q
  obtain ⟨its, r, ht, hz⟩ := I5.tuple hx
  have hlen := r.length
  show wpAny (model X.prog X.w) X.A (subscriptTail e (.Slice none none (some (.UnaryOp .USub (.Constant (.int 1) k p1) p2)) p3) (.ref a) (.ref s4.heap.objs.size)) (EP X pins σ Q) X.xe { s4 with heap := s4.heap.push { cls := .type "slice", data := .fields #[.none, .none, vs] } }
  refine tail_any (ops := [.ref a, .ref s4.heap.objs.size]) ht.typeIs (PyProof.Rows.slot_tuple_getitem.lookup) ?_ (by with_unfolding_all rfl)
  refine tuple_rev ht (Heap.IsSliceOf.new _ .none .none vs) ps ?_ (by rw [List.size_toArray]; omega)
  refine ⟨.ref _, _, I5.laid (t' := s4.toks) (o := .tup xs.reverse) (fun b ob q => Heap.get?_push_of_some _ q) (Nat.le_refl _) ?_, rfl, q _ (I5.hok.fresh (Nat.le_refl _))⟩
  exact ⟨by rw [List.length_reverse]; exact hz, _, r.reverse, IsTup.new _ _⟩
end
end Kr
namespace Kr
open PySem PySem.Spec PyProof.Rows L2
/-! ### data over the abstract heap: None, bools, ints, texts, lists, tuples, {} -/
mutual
inductive Dq (H : Hp) : V → PyData → Prop
  | non : Dq H .non .none
  | bl (b : Bool) : Dq H (.bl b) (.bool b)
  | int (i : Int) : Dq H (.int i) (.int i)
  | str (x : Str) : Dq H (.str x) (.str x)
  | lst {a : Addr} {xs : List V} {ds : List PyData} (e : H a = some (.lst xs)) (q : DqA H xs ds) : Dq H (.ref a) (.list ds)
  | tup {a : Addr} {xs : List V} {ds : List PyData} (e : H a = some (.tup xs)) (q : DqA H xs ds) : Dq H (.ref a) (.tuple ds)
  | dic {a : Addr} (e : H a = some (.dK [])) : Dq H (.ref a) (.dict [])
inductive DqA (H : Hp) : List V → List PyData → Prop
  | nil : DqA H [] []
  | cons {v : V} {vs : List V} {d : PyData} {ds : List PyData} (h : Dq H v d) (t : DqA H vs ds) : DqA H (v :: vs) (d :: ds)
end
mutual
theorem Dq.up {H H' : Hp} (s : Same H H') : ∀ {v : V} {d : PyData}, Dq H v d → Dq H' v d
  | _, _, .non => .non
  | _, _, .bl b => .bl b
  | _, _, .int i => .int i
  | _, _, .str x => .str x
  | _, _, .lst e q => .lst (s _ _ e) (DqA.up s q)
  | _, _, .tup e q => .tup (s _ _ e) (DqA.up s q)
  | _, _, .dic e => .dic (s _ _ e)
theorem DqA.up {H H' : Hp} (s : Same H H') : ∀ {vs : List V} {ds : List PyData}, DqA H vs ds → DqA H' vs ds
  | _, _, .nil => .nil
  | _, _, .cons h t => .cons (Dq.up s h) (DqA.up s t)
end
theorem DqA.len {H : Hp} : ∀ {vs : List V} {ds : List PyData}, DqA H vs ds → vs.length = ds.length
  | _, _, .nil => rfl
  | _, _, .cons _ t => by rw [List.length_cons, List.length_cons, DqA.len t]
theorem DqA.get {H : Hp} : ∀ {vs : List V} {ds : List PyData} {i : Nat} {v : V}, DqA H vs ds → vs[i]? = some v → ∃ d, ds[i]? = some d ∧ Dq H v d
  | _, _, _, _, .nil, e => by simp at e
  | _, _, 0, _, .cons h _, e => by
    simp at e
    subst e
    exact ⟨_, rfl, h⟩
  | _, _, i + 1, _, .cons _ t, e => by
    obtain ⟨d, h1, h2⟩ := DqA.get (i := i) t (by simpa using e)
    exact ⟨d, by simpa using h1, h2⟩
theorem DqA.app {H : Hp} : ∀ {vs us : List V} {ds es : List PyData}, DqA H vs ds → DqA H us es → DqA H (vs ++ us) (ds ++ es)
  | _, _, _, _, .nil, q => q
  | _, _, _, _, .cons h t, q => .cons h (DqA.app t q)
theorem DqA.take {H : Hp} : ∀ {vs : List V} {ds : List PyData} (n : Nat), DqA H vs ds → DqA H (vs.take n) (ds.take n)
  | _, _, 0, _ => .nil
  | _, _, _ + 1, .nil => .nil
  | _, _, n + 1, .cons h t => .cons h (DqA.take n t)
theorem DqA.drop {H : Hp} : ∀ {vs : List V} {ds : List PyData} (n : Nat), DqA H vs ds → DqA H (vs.drop n) (ds.drop n)
  | _, _, 0, q => q
  | _, _, _ + 1, .nil => .nil
  | _, _, n + 1, .cons _ t => DqA.drop n t
theorem DqA.set {H : Hp} {v : V} {d : PyData} (q : Dq H v d) : ∀ {vs : List V} {ds : List PyData} (i : Nat), DqA H vs ds → DqA H (vs.set i v) (ds.set i d)
  | _, _, _, .nil => .nil
  | _, _, 0, .cons _ t => .cons q t
  | _, _, i + 1, .cons h t => .cons h (DqA.set q i t)
theorem DqA.one {H : Hp} {v : V} {d : PyData} (q : Dq H v d) : DqA H [v] [d] := .cons q .nil
theorem DqA.rev {H : Hp} : ∀ {vs : List V} {ds : List PyData}, DqA H vs ds → DqA H vs.reverse ds.reverse
  | _, _, .nil => .nil
  | _, _, .cons h t => by
    rw [List.reverse_cons, List.reverse_cons]
    exact DqA.app (DqA.rev t) (.one h)
theorem DqA.ints {H : Hp} : ∀ ns : List Int, DqA H (ns.map V.int) (ns.map PyData.int)
  | [] => .nil
  | n :: r => .cons (.int n) (DqA.ints r)
theorem DqA.rep {H : Hp} {v : V} {d : PyData} (q : Dq H v d) : ∀ n : Nat, DqA H (List.replicate n v) (List.replicate n d)
  | 0 => .nil
  | n + 1 => .cons q (DqA.rep q n)
theorem Dq.tup_inv {H : Hp} {v : V} {ds : List PyData} (q : Dq H v (.tuple ds)) : ∃ a xs, v = .ref a ∧ H a = some (.tup xs) ∧ DqA H xs ds := by
  cases q with
  | tup e h => exact ⟨_, _, rfl, e, h⟩

/-! ### how long what is shown is -/
mutual
def big : PyData → Nat
  | .none | .bool _ => 5
  | .int i => (toString i : Str).length
  | .str x => (reprText x).length
  | .list xs | .tuple xs => bigA xs + 3
  | .dict _ => 2
def bigA : List PyData → Nat
  | [] => 0
  | x :: xs => big x + 2 + bigA xs
end

section
variable {X : Cx} {pins : List (Addr × Obj)} {σ : L2.St} {H : Hp} {s : Shared}
mutual
theorem Dq.reprs (I : Inv X pins σ H s) : ∀ (d : PyData) (v : V) (u : Value), Dq H v d → RelV v u → d.showable = true → d.shown.length ≤ sizeLine →
    ∃ as, Reads s.heap u d as ∧ ∃ bs, ReadAtMost s.heap d.depth bs ∧ ReprK X.prog X.w bs s.heap d.depth u d.shown
  | .none, _, _, h, r, _, _ => by
    cases h
    cases r
    exact ⟨_, .none, [], (fun _ h => nomatch h), by simp only [PyData.shown]; exact .of_is ReprIs.none _ _ _⟩
  | .bool b, _, _, h, r, _, _ => by
    cases h
    cases r
    exact ⟨_, .bool b, [], (fun _ h => nomatch h), by simp only [PyData.shown]; exact .of_is (ReprIs.bool b) _ _ _⟩
  | .int i, _, _, h, r, hs, _ => by
    cases h
    obtain ⟨t, rfl⟩ := r
    exact ⟨_, .int i t, [], (fun _ h => nomatch h), by simp only [PyData.shown]; exact .of_is (ReprIs.int t (by simpa [PyData.showable] using hs)) _ _ _⟩
  | .str x, _, _, h, r, _, hz => by
    cases h
    obtain ⟨t, rfl⟩ := r
    exact ⟨_, .str x t, [], (fun _ h => nomatch h), by simp only [PyData.shown]; exact .of_is (ReprIs.str x t (by simpa only [PyData.shown] using hz)) _ _ _⟩
  | .list ds, _, _, h, r, hs, hz => by
    cases h with
    | @lst a xs _ e ha =>
      cases r
      have hz' : (listText (PyData.shownAll ds)).length ≤ sizeLine := by simpa only [PyData.shown] using hz
      obtain ⟨its, rv, ⟨o, n, ho, hc, _, hd⟩, _⟩ := I.list (SqL.of (K := X.K) e)
      obtain ⟨as, hr, bs, hb, hk⟩ := DqA.reprs I ds _ its ha rv (by simpa [PyData.showable] using hs) fun t ht => Nat.le_trans (listText_mem_le ht) hz'
      have rd : Reads s.heap (.ref a) (.list ds) _ := .list ho hc hd hr
      have hna : a ∉ bs := not_mem_of_deeper rd (by simp only [PyData.depth]; omega) hb
      refine ⟨_, rd, a :: bs, ReadAtMost.cons rd (by simp only [PyData.depth]; omega) hb, ?_⟩
      simp only [PyData.depth, PyData.shown]
      cases its with
      | nil =>
        cases hr
        simp only [PyData.shownAll, listText_nil]
        exact ReprK.listEmpty ho hc hd
      | cons y l => exact ReprK.list ho hc hd hna (by simpa using hk.length_eq) (fun i y e => hk.item i y (by simpa using e))
  | .tuple ds, _, _, h, r, hs, hz => by
    cases h with
    | @tup a xs _ e ha =>
      cases r
      have hz' : (tupleText (PyData.shownAll ds)).length ≤ sizeLine := by simpa only [PyData.shown] using hz
      obtain ⟨its, rv, ⟨o, ho, hc, n, hd⟩, _⟩ := I.tuple (SqT.of (K := X.K) e)
      obtain ⟨as, hr, bs, hb, hk⟩ := DqA.reprs I ds _ its ha rv (by simpa [PyData.showable] using hs) fun t ht => Nat.le_trans (tupleText_mem_le ht) hz'
      have rd : Reads s.heap (.ref a) (.tuple ds) _ := .tuple ho hc hd hr
      have hna : a ∉ bs := not_mem_of_deeper rd (by simp only [PyData.depth]; omega) hb
      refine ⟨_, rd, a :: bs, ReadAtMost.cons rd (by simp only [PyData.depth]; omega) hb, ?_⟩
      simp only [PyData.depth, PyData.shown]
      exact ReprK.tuple ho hc hd hna (by simpa using hk)
  | .dict kv, _, _, h, r, _, _ => by
    cases h with
    | @dic a e =>
      cases r
      obtain ⟨_, hsys, vs, rel, o, es, ep, ho, hx, hd, _, hp, _⟩ := I.hok a _ e
      cases rel
      have hes : es = #[] := by
        obtain ⟨l⟩ := es
        have : l = [] := by
          cases l with
          | nil => rfl
          | cons y l => exact nomatch hp
        rw [this]
      subst hes
      have rd : Reads s.heap (.ref a) (.dict []) _ := .dict ho hx.1 hd .nil .nil
      refine ⟨_, rd, [a], ReadAtMost.cons rd (Nat.zero_le _) (fun _ h => nomatch h), ?_⟩
      have := ReprK.dict (prog := X.prog) (w := X.w) (as := []) (d := 0) ho hx.1 hd hsys (fun h => nomatch h) .nil
      simpa only [PyData.depth, PyData.depthKv, PyData.shown, PyData.shownKv] using this
theorem DqA.reprs (I : Inv X pins σ H s) : ∀ (ds : List PyData) (vs : List V) (us : List Value), DqA H vs ds → Vals vs us → PyData.showableAll ds = true → (∀ t ∈ PyData.shownAll ds, t.length ≤ sizeLine) →
    ∃ as, ReadsAll s.heap us ds as ∧ ∃ bs, ReadAtMost s.heap (PyData.depthAll ds) bs ∧ ReprAllK X.prog X.w bs s.heap (PyData.depthAll ds) us (PyData.shownAll ds)
  | [], _, _, h, r, _, _ => by
    cases h
    cases r
    exact ⟨_, .nil, [], (fun _ h => nomatch h), by simp only [PyData.shownAll]; exact .nil⟩
  | d :: ds, _, _, h, r, hs, hz => by
    cases h with
    | cons h1 h2 =>
      cases r with
      | cons r1 r2 =>
        have hs' : d.showable = true ∧ PyData.showableAll ds = true := by simpa [PyData.showableAll] using hs
        obtain ⟨as, q1, b1, hb1, k1⟩ := Dq.reprs I d _ _ h1 r1 hs'.1 (hz _ (by simp only [PyData.shownAll]; exact List.mem_cons_self ..))
        obtain ⟨cs, q2, b2, hb2, k2⟩ := DqA.reprs I ds _ _ h2 r2 hs'.2 (fun t ht => hz t (by simp only [PyData.shownAll]; exact List.mem_cons_of_mem _ ht))
        refine ⟨_, .cons q1 q2, b1 ++ b2, ?_, ?_⟩
        · simp only [PyData.depthAll]
          exact (hb1.mono (Nat.le_max_left _ _)).append (hb2.mono (Nat.le_max_right _ _))
        · simp only [PyData.depthAll, PyData.shownAll]
          exact .cons ((k1.more fun b hb => List.mem_append_left _ hb).level_le (Nat.le_max_left _ _)) (k2.more_le (fun b hb => List.mem_append_right _ hb) (Nat.le_max_right _ _))
end
end

/-- repr(x) of data, where no repr is under way -/
def rRepr : List V → Hp → VK → Prop := fun xs H Q => ∃ v d, xs = [v] ∧ Dq H v d ∧ d.showable = true ∧ d.depth ≤ 40 ∧ d.shown.length ≤ sizeLine ∧ Q (.str d.shown) H
theorem call_repr {X : Cx} (hg : X.A.guards = some []) (hu : X.A.units + 64 < cLine) : CallR X (.builtin "repr") rRepr := by
  intro pins s σ H xs us Q I r h
  obtain ⟨v, d, rfl, hd, hs, hdep, hz, q⟩ := h
  obtain ⟨u, rfl, r1⟩ : ∃ u, us = [u] ∧ RelV v u := by
    cases r with
    | cons a b =>
      cases b
      exact ⟨_, rfl, a⟩
  have fin : ∀ (h' : Heap) (t : Tok) (tk : Nat), (∀ b o, s.heap.get? b = some o → h'.get? b = some o) → EP X pins σ Q (.str d.shown t) { s with heap := h', toks := tk } :=
    fun h' t tk hk => ⟨.str d.shown, H, I.kept (t' := tk) hk, ⟨t, rfl⟩, q⟩
  cases hd with
  | non =>
    simp only [PyData.shown] at fin
    cases r1
    exact PySem.P.repr_of_none (fin s.heap _ _ fun _ _ e => e)
  | bl b =>
    simp only [PyData.shown] at fin
    cases r1
    have := PySem.P.repr_of_bool (prog := X.prog) (w := X.w) (A := X.A) (E := X.xe) (b := b) (s := s) (Q := EP X pins σ Q)
    refine this ?_
    have f := fin s.heap s.toks (s.toks + 1) fun _ _ e => e
    cases b <;> exact f
  | int i =>
    simp only [PyData.shown] at fin
    obtain ⟨t, rfl⟩ := r1
    exact PySem.P.repr_of_int (by simpa [PyData.showable] using hs) (fin s.heap _ _ fun _ _ e => e)
  | str x =>
    simp only [PyData.shown] at fin hz
    obtain ⟨t, rfl⟩ := r1
    exact PySem.P.repr_of_str (fin s.heap _ _ fun _ _ e => e) hz
  | @lst a xs ds e ha =>
    obtain rfl : u = Value.ref a := r1
    simp only [PyData.depth] at hdep
    have hz' : (listText (PyData.shownAll ds)).length ≤ sizeLine := by simpa only [PyData.shown] using hz
    simp only [PyData.shown] at fin
    obtain ⟨its, rv, ⟨o, n, ho, hc, _, hd⟩, _⟩ := I.list (SqL.of (K := X.K) e)
    obtain ⟨as, hr, bs, hb, hk⟩ := DqA.reprs I ds _ its ha rv (by simpa [PyData.showable] using hs) fun t ht => Nat.le_trans (listText_mem_le ht) hz'
    have rd : Reads s.heap (.ref a) (.list ds) _ := .list ho hc hd hr
    have hna : a ∉ bs := not_mem_of_deeper rd (by simp only [PyData.depth]; omega) hb
    refine call_repr_slot (by omega) ⟨o, ho, hc⟩ F.slot_list_repr.toG ?_
    cases its with
    | nil =>
      cases hr
      have e0 : listText (PyData.shownAll []) = ("[]" : Str) := by simp only [PyData.shownAll, listText_nil]
      rw [e0] at fin
      exact call_list_repr_empty ⟨o, ho, hc⟩ ho hd ⟨_, _, rfl, fin s.heap _ _ fun _ _ e => e⟩
    | cons y l =>
      exact call_list_reprK ho hc hd hna (by simpa using hk.length_eq) (fun i y e => hk.item i y (by simpa using e)) hg (fun b _ => Clear.nil b) (by show X.A.units + 1 + _ < cLine; omega) (fun _ _ e => e) (fun h' t tk hk => ⟨_, _, rfl, fin h' t tk hk⟩) hz'
  | @tup a xs ds e ha =>
    obtain rfl : u = Value.ref a := r1
    simp only [PyData.depth] at hdep
    have hz' : (tupleText (PyData.shownAll ds)).length ≤ sizeLine := by simpa only [PyData.shown] using hz
    simp only [PyData.shown] at fin
    obtain ⟨its, rv, ⟨o, ho, hc, n, hd⟩, _⟩ := I.tuple (SqT.of (K := X.K) e)
    obtain ⟨as, hr, bs, hb, hk⟩ := DqA.reprs I ds _ its ha rv (by simpa [PyData.showable] using hs) fun t ht => Nat.le_trans (tupleText_mem_le ht) hz'
    have rd : Reads s.heap (.ref a) (.tuple ds) _ := .tuple ho hc hd hr
    have hna : a ∉ bs := not_mem_of_deeper rd (by simp only [PyData.depth]; omega) hb
    refine call_repr_slot (by omega) ⟨o, ho, hc⟩ F.slot_tuple_repr ?_
    exact call_tuple_reprK ho hc hd hna (by simpa using hk) hg (fun b _ => Clear.nil b) (by show X.A.units + 1 + _ < cLine; omega) (fun _ _ e => e) (fun h' t tk hk => ⟨_, _, rfl, fin h' t tk hk⟩) hz'
  | @dic a e =>
    obtain rfl : u = Value.ref a := r1
    obtain ⟨_, hsys, vs, rel, o, es, ep, ho, hx, hd, _, hp, _⟩ := I.hok a _ e
    cases rel
    have hes : es = #[] := by
      obtain ⟨l⟩ := es
      have : l = [] := by
        cases l with
        | nil => rfl
        | cons y l => exact nomatch hp
      rw [this]
    subst hes
    simp only [PyData.shown, PyData.shownKv] at fin hz
    refine call_repr_slot (by omega) ⟨o, ho, hx.1⟩ F.slot_dict_repr ?_
    exact call_dict_reprK (as := []) (d := 0) ho hx.1 hd hsys (fun h => nomatch h) .nil hg (fun b _ => Clear.nil b) (by show X.A.units + 1 + _ < cLine; omega) (fun _ _ e => e) (fun h' t tk hk => ⟨_, _, rfl, fin h' t tk hk⟩) hz
end Kr
namespace Kr
open PySem PySem.Spec PyProof.Rows L2
/-! ### defs that are called where no repr is under way -/
structure FnG (P : Program) (w : World) (K : PySem.W.Frag) (mg : Str → Option Value) (base : Heap) (CX : CXT) (k : Nat) (f : Addr) (fd : FuncData) (ps : List Str) (sp : Sp) : Prop where
  len : ∀ vs H Q E, sp vs H Q E → vs.length = ps.length
  run : ∀ (A : Around) (outer : List Env) (s : Shared) (H : Hp) (args : Args) (us : List Value) (vs : List V) (Q : VK) (E : XK), A.guards = some [] → Room k A → Env0 P w K mg base A outer s H → BindsTo s fd args (ps.zip us) → Vals vs us → sp vs H Q E →
    codeAny (model P w) A (.call (.ref f) args) (CR CX outer P w H s Q E) s
section
variable {P : Program} {w : World} {K : PySem.W.Frag} {mg : Str → Option Value} {base : Heap} {CX : CXT}
theorem FnG.mono {j k : Nat} {f : Addr} {fd : FuncData} {ps : List Str} {sp : Sp} (F : FnG P w K mg base CX j f fd ps sp) (h : j ≤ k) : FnG P w K mg base CX k f fd ps sp :=
  ⟨F.len, fun A outer s H args us vs Q E hg hr => F.run A outer s H args us vs Q E hg (hr.mono h)⟩
/-- by the body, as Fun.ok; the body is told that no repr is under way -/
theorem okG {x qual : Str} {st : Stmt} {f : Addr} {fd : FuncData} {N ps : List Str} {k : Nat} {sp : Sp} (F : Fun K x qual st f fd) (S : FnScope N ps (defScope st)) (len : ∀ vs H Q E, sp vs H Q E → vs.length = ps.length)
    (hbody : ∀ (cdv : Value) (A : Around) (outer : List Env) (s : Shared) (H : Hp) (vs : List V) (Q : VK) (E : XK), (A.deeper (envOfC qual (defScope st) s.heap.objs.size f cdv)).guards = some [] → Room k (A.deeper (envOfC qual (defScope st) s.heap.objs.size f cdv)) → sp vs H Q E →
      ∃ t, PSs (cxOf CX0 P w K mg base N qual (defScope st) f cdv A outer s H E).nox (defBody st) t ∧ t { nx := fun _ H' => Q .non H', rt := Q } (start N vs) H) : FnG P w K mg base CX0 (k + 1) f fd ps sp := by
  obtain ⟨oc, od, kV, doc, pm, an, cdv, ct, osl, rfl, lk, hcd⟩ := F.ex
  refine ⟨len, fun A outer s H args us vs Q E hg hr e0 hb r hsp => ?_⟩
  have KX : K.In s.heap := e0.mod.kin.keeps fun b o e => (e0.bs b o e).1
  have lim : s.heap.NoLimit := e0.mod.nolimit.keeps fun b o e => (e0.bs b o e).1
  refine codeAny_call_function hr.depth (KX _ _ lk) rfl S.co S.gen rfl (PySem.W.codeRec_of KX hcd) (hb _ _ _ _ ?_)
  have kinds : ∀ y ∈ ps.zip us, (defScope st).names.lookup y.1 = some .local ∨ ((defScope st).names.lookup y.1 = some .cell ∧ ((cellsFrom (s.heap.objs.size + 1) (defScope st).names []).lookup y.1).isSome = true) := by
    rintro ⟨n, v⟩ hy
    rcases S.par n (List.of_mem_zip hy).1 with q | q
    · exact .inl q
    · exact .inr ⟨q, PySem.W.cellsFrom_some _ _ _ (.inl q)⟩
  refine wpAny_newFunctionEnv_cells S.kind kinds fun env he s1 x => ?_
  subst he
  refine ⟨lim.keeps x.toInCall.keep, codeAny_func ?_⟩
  obtain ⟨t, ht, hq⟩ := hbody cdv A outer s H vs Q E (by first | exact hg | simpa [Around.deeper] using hg) (hr.deeper _) hsp
  have I : Inv (cxOf CX0 P w K mg base N qual (defScope st) f cdv A outer s H E) [] (start N vs) H s1 := inv_start S hr.hd e0 (len _ _ _ _ hsp) r x
  refine wpAny_mono (ht.nox.run [] s1 (start N vs) H _ I hq) (fun fl s' hs => ?_) fun e s' hs => hs
  cases fl with
  | ret u =>
    obtain ⟨v, σ', H', J, rv, q⟩ := hs
    exact ⟨v, H', J.os, J.bare, J.base, J.hok, rv, q⟩
  | next =>
    obtain ⟨σ', H', J, q⟩ := hs
    exact ⟨.non, H', J.os, J.bare, J.base, J.hok, rfl, q⟩
  | brk => exact hs.elim fun _ h => h.elim fun _ h => h.2.elim
  | cont => exact hs.elim fun _ h => h.elim fun _ h => h.2.elim
end
section
variable {X : Cx} {CX : CXT} {k : Nat} {f : Addr} {fd : FuncData} {ps : List Str} {sp : Sp} {dvs : List V} {ds : List Value} {E : XK} {x : Str} {p pos : Pos} {e : Expr} {es : List Expr} {t : TA}
/-- such a def's call, from a body of the same kind -/
theorem pe_callG (F : FnG X.prog X.w X.K X.mg X.base CX k f fd ps sp) (gd : X.A.guards = some []) (hr : Room k X.A) (hg : Gl X x) (hm : X.mg x = some (.ref f)) (hk : PySem.W.keepIn X.K (.ref f) = true) (hb : Binds X.K fd ps ds) (hd : Vals dvs ds) (hx : Passes CX X E)
    (ha : PA X (e :: es) t) (hdb : (x == ("__debug__" : Str)) = false := by decide) (he : starEach (e :: es) X.env = (false, eval e X.env) :: starEach es X.env := by rfl) (hpl : (backTo pos (starEach es X.env)).any (·.1) = false := by rfl) :
    PE X (.Call (.Name x p) (e :: es) [] pos) (tCall sp dvs E t) := by
  refine ⟨fun pins s σ H Q I h => wpAny_Call_Name_kw (ld_glob I hg hm ?_ hdb)⟩
  refine PySem.W.callWith_K (h₀ := X.base) I.ok.mod.kin hk (thn (ha.run pos pins s σ H _ I h) fun us s1 ⟨vs, H1, I1, r, q⟩ => ⟨I1.kIn, ?_⟩) he hpl
  have r2 : Vals (vs ++ dvs) (us ++ ds) := r.append hd
  have hl : (us ++ ds).length = ps.length := r2.length.symm.trans (F.len _ _ _ _ q)
  refine wpAny_call (codeAny_mono (F.run X.A X.stack s1 H1 ⟨us, []⟩ (us ++ ds) (vs ++ dvs) Q E gd hr I1.env0 (hb s1 us I1.kIn hl) r2 q) fun r s' hq => ?_)
  cases r with
  | error e => exact hx pins σ H1 s1 e s' I1 hq
  | ok fl =>
    cases fl with
    | ret u => exact I1.after hq
    | next => exact hq.elim
    | brk => exact hq.elim
    | cont => exact hq.elim
end

/-! ### the head: the law is called where nothing is under way -/
theorem law_callG {P : Program} {w : World} {K : PySem.W.Frag} {mg mb : Str → Option Value} {k : Nat} {fa a : Addr} {fd : FuncData} {x : Str} {sp : Sp} {s₁ : Shared} {vs : List Value} {ns : List Int}
    (KX : K.In s₁.heap) (hns : s₁.heap.Ns mainGlobals mg) (hb : s₁.heap.Ns builtinsNs mb) (hbb : ∀ x : Str, x ≠ "__name__" → mb x = bootBuiltins x) (hlim : s₁.heap.NoLimit) (hg : s₁.gens = #[])
    (ha : s₁.heap.get? a = some { cls := .type "list", data := .seq vs.toArray }) (hi : IntsAre vs ns) (hl : ns.length ≤ sizeLine) (hr : Room k callerA)
    (F : ∀ base : Heap, K.In base → base.Ns mainGlobals mg → FnG P w K mg base CX0 k fa fd [x] sp) (hbind : ∀ (s : Shared) (u : Value), BindsTo s fd ⟨[u], []⟩ [(x, u)])
    (hsp : ∀ H : Hp, Only H → SqL K H a (ns.map V.int) → sp [.ref a] H (fun v _ => v = .bl true) fun _ _ _ => False) :
    codeAny (model P w) callerA (.call (.ref fa) ⟨[.ref a], []⟩) (fun r s' => r = .ok (.ret (.bool true)) ∧ OldK s₁.heap s'.heap ∧ s'.os = s₁.os ∧ AllBare s'.gens) s₁ := by
  have rv := vals_ints hi
  have lenV := hi.length
  have step : ∀ H : Hp, Only H → SqL K H a (ns.map V.int) → HOk P w H s₁.heap → (∀ b, H b ≠ none → b = a) → (H a ≠ none → K.lookup a = none) →
      codeAny (model P w) callerA (.call (.ref fa) ⟨[.ref a], []⟩) (fun r s' => r = .ok (.ret (.bool true)) ∧ OldK s₁.heap s'.heap ∧ s'.os = s₁.os ∧ AllBare s'.gens) s₁ := by
    intro H hO hS hok only hK
    have free : ∀ {b : Addr} {o : Obj}, s₁.heap.get? b = some o → (b = a → H b = none) → (hidT s₁.heap H).get? b = some o := fun {b o} e n => hidT_get e (by
      cases q : H b with
      | none => rfl
      | some u => rw [n (only b (by rw [q]; simp))] at q; cases q)
    have ns2 : ∀ {b : Addr} {m : Str → Option Value}, s₁.heap.Ns b m → (hidT s₁.heap H).Ns b m := by
      rintro b m ⟨o, es, ep, e, d, r⟩
      refine ⟨o, es, ep, free e fun z => ?_, d, r⟩
      subst z
      rw [ha] at e
      cases e
      cases (show Data.seq vs.toArray _ = Data.dict es ep from d)
    have kin : K.In (hidT s₁.heap H) := fun b o e => free (KX b o e) fun z => by
      subst z
      cases q : H b with
      | none => rfl
      | some u => rw [hK (by rw [q]; simp)] at e; cases e
    have md : Mod K mg (hidT s₁.heap H) := ⟨kin, ns2 hns, ⟨mb, ns2 hb, hbb⟩, hlim.elim fun mc h => ⟨mc, ns2 h.1, h.2⟩⟩
    have e0 : Env0 P w K mg (hidT s₁.heap H) callerA [] s₁ H :=
      ⟨rfl, md, fun b o e => of_hidT e, Nat.le_of_eq (hidT_size _ _), trivial, fun b hb => absurd (show b ∈ ([] : List Addr) from hb) (by simp), hok, .of_eq hg⟩
    refine codeAny_mono ((F _ kin (ns2 hns)).run callerA [] s₁ H ⟨[.ref a], []⟩ [.ref a] [.ref a] _ _ rfl hr e0 (hbind s₁ (.ref a)) (.cons rfl .nil) (hsp H hO hS)) fun r s' h => ?_
    cases r with
    | error e => exact h.elim
    | ok fl =>
      cases fl with
      | next => exact h.elim
      | brk => exact h.elim
      | cont => exact h.elim
      | ret u =>
        obtain ⟨v, H', os, bare, un, hok', r', q⟩ := h
        obtain rfl : v = .bl true := q
        obtain rfl : u = Value.bool true := r'
        refine ⟨rfl, OldK.of_keep fun b o e => ?_, os, bare⟩
        rcases hO b with z | ⟨ob, xs, z⟩
        · exact un.keep b o e z (fun q => absurd (show b ∈ ([] : List Addr) from q) (by simp)) (by simp)
        · have e1 := (hok b _ z).1
          have e2 := (hok' b _ (un.frzs b ob _ z)).1
          rw [e] at e1
          cases e1
          exact e2
  cases hk : K.lookup a with
  | some o =>
    have e := KX a o hk
    rw [ha] at e
    cases e
    exact step (fun _ => none) (fun _ => .inl rfl) (.inr ⟨_, vs.toArray, _, hk, rfl, rfl, rfl, by rw [List.size_toArray, lenV]; exact hl, by simpa using rv⟩) (fun b u z => nomatch (show (none : Option HO) = some u from z)) (fun b z => absurd rfl z) fun z => absurd rfl z
  | none =>
    refine step (fun b => if b = a then some (.frz { cls := .type "list", data := .seq vs.toArray } (.lst (ns.map V.int))) else none) (fun b => ?_) (.inl (.inr ⟨_, if_pos rfl⟩)) (fun b u z => ?_) (fun b z => ?_) fun _ => hk
    · by_cases q : b = a
      · exact .inr ⟨_, _, if_pos q⟩
      · exact .inl (if_neg q)
    · by_cases q : b = a
      · cases (if_pos q).symm.trans z
        subst q
        exact ⟨ha, by rw [List.length_map]; exact hl, vs, _, rv, ha⟩
      · cases (if_neg q).symm.trans z
    · by_cases q : b = a
      · exact q
      · exact absurd (if_neg q) z
theorem walkG {l : PySem.W.OpenLaw} {n k : Nat} {q : Program} {loose : List Str} {XP : (Str → Option Value) → Heap → Prop} {YP : World → Heap → Prop} {d : DefRec} {K : Params → PySem.W.Frag} {sp : PySem.W.Frag → Sp} {x : Str}
    (hn : l.most = some n) (hn2 : n ≤ sizeLine) (hdf : d.params.defaults = []) (hr : Room k callerA) (hY : ∀ (w : World) (h : Heap), YP w h → (K w.params).In h)
    (F : ∀ (w : World) (mg : Str → Option Value) (fa : Addr) (h : Heap), (K w.params).In h → h.Ns mainGlobals mg → mg d.name = some (.ref fa) →
      ∃ fd : FuncData, (∀ (s : Shared) (u : Value), BindsTo s fd ⟨[u], []⟩ [(x, u)]) ∧ ∀ base : Heap, (K w.params).In base → base.Ns mainGlobals mg → FnG l.prog w (K w.params) mg base CX0 k fa fd [x] (sp (K w.params)))
    (hsp : ∀ (K : PySem.W.Frag) (H : Hp) (a : Addr) (ns : List Int), ns.length ≤ n → Only H → SqL K H a (ns.map V.int) → sp K [.ref a] H (fun v _ => v = .bl true) fun _ _ _ => False) :
    PySem.W.WalkO q loose XP YP l.row.toRowW d [] (fun f vs => PySem.call f vs) := by
  refine Att.attach_call hn hdf fun w s₀ s₁ mg mb fa o pm cd doc a vs ns G Y ho hd hcd hmg hobj hints hlen hg => ?_
  obtain ⟨fd, hb, hF⟩ := F w mg fa _ (hY w _ Y) G.T.g hmg
  exact law_callG (hY w _ Y) G.T.g G.T.b G.T.builtins G.T.nolimit hg hobj hints (Nat.le_trans hlen hn2) hr hF hb fun H hO hS => hsp _ H a ns hlen hO hS
end Kr
namespace Kr
open PySem PySem.Spec PyProof.Rows L2
/-- f(k = v, ..), names alone: how they bind -/
theorem kbn_of {K : PySem.W.Frag} {x qual : Str} {st : Stmt} {f : Addr} {fd : FuncData} {ps ks : List Str} (F : Fun K x qual st f fd) (g : {α : Type} → List α → List α)
    (hrel : ∀ {zs : List V} {ws : List Value}, Vals zs ws → Vals (g zs) (g ws))
    (h : ∀ (kV doc pm : Value) (an : Option Addr) (cdv ct : Value) (ws : List Value), ws.length = ks.length → bindArgs (PySem.W.fnOf x qual (defArgs st) (defBody st) (defScope st) .none kV doc pm an cdv ct) ⟨[], ks.zip ws⟩ = pure (ps.zip (g ws))) :
    KBn K fd ps 0 ks (fun _ ws => g ws) (fun _ zs => g zs) := by
  obtain ⟨oc, od, kV, doc, pm, an, cdv, ct, osl, rfl, lk, hcd⟩ := F.ex
  refine ⟨fun s us ws _ hu hw => ?_, fun _ r => hrel r⟩
  obtain rfl : us = [] := List.length_eq_zero_iff.mp hu
  exact .of_eq (h kV doc pm an cdv ct ws hw)
theorem vals_swap {zs : List V} {ws : List Value} (r : Vals zs ws) : Vals zs.reverse ws.reverse := r.reverse
section
variable {X : Cx} {CX : CXT} {k : Nat} {f : Addr} {fd : FuncData} {ps ks : List Str} {sp : Sp} {E : XK} {x : Str} {p pos : Pos} {kws : List Keyword} {tk : TA} {g : List Value → List Value → List Value} {gV : List V → List V → List V}
def tCallN (m : Nat) (sp : Sp) (gV : List V → List V → List V) (E : XK) (tk : TA) : TE := fun σ H Q => tk σ H fun zs H1 => zs.length = m ∧ sp (gV [] zs) H1 Q E
theorem pe_callN (F : FnOk X.prog X.w X.K X.mg X.base CX k f fd ps sp) (hr : Room k X.A) (hg : Gl X x) (hm : X.mg x = some (.ref f)) (hk : PySem.W.keepIn X.K (.ref f) = true) (hb : KBn X.K fd ps 0 ks g gV) (hx : Passes CX X E) (hkw : PK X kws tk)
    (hall : (backToKw pos (keywordEach kws X.env)).all (·.1.isSome) = true := by rfl) (hks : (backToKw pos (keywordEach kws X.env)).filterMap (·.1) = ks := by rfl) (hdb : (x == ("__debug__" : Str)) = false := by decide)
    (hpl : ((backTo pos (starEach [] X.env)).any (·.1) || (backToKw pos (keywordEach kws X.env)).any (·.1.isNone)) = false := by rfl) :
    PE X (.Call (.Name x p) [] kws pos) (tCallN ks.length sp gV E tk) := by
  refine ⟨fun pins s σ H Q I h => wpAny_Call_Name_kw (ld_glob I hg hm ?_ hdb)⟩
  refine PySem.W.callWith_KW0 (h₀ := X.base) I.ok.mod.kin hk hall ?_ hpl
  refine thn (hkw.run pos pins s σ H _ I h) fun ws s2 ⟨zs, H2, I2, rz, l2, q2⟩ => ⟨I2.kIn, ?_⟩
  rw [hks]
  have r2 := hb.rel .nil rz
  refine wpAny_call (codeAny_mono (F.run X.A X.stack s2 H2 ⟨[], ks.zip ws⟩ (g [] ws) (gV [] zs) _ E hr I2.env0 (hb.to s2 [] ws I2.kIn rfl (rz.length.symm.trans l2)) r2 q2) fun r s' hq => ?_)
  cases r with
  | error e => exact hx pins σ _ _ e s' I2 hq
  | ok fl =>
    cases fl with
    | ret u => exact I2.after hq
    | next => exact hq.elim
    | brk => exact hq.elim
    | cont => exact hq.elim
end
end Kr
namespace Kr
open PySem L2
def top (i : Nat) : Stmt := PySem.Challenge.pw_keyriders_k15_whole_powers_and_orders.main.body.getD i (.Pass ⟨0, 0, 0, 0⟩)
abbrev sRidersError : Stmt := top 3
abbrev sTooMany : Stmt := top 4
abbrev sLotsOf : Stmt := top 6
abbrev sAllLots : Stmt := top 7
abbrev sGoal : Stmt := top 9
abbrev sStill : Stmt := top 10
abbrev sWays : Stmt := top 11
abbrev sEntryBy : Stmt := top 12
abbrev sBoth : Stmt := top 13
abbrev sNumbers : Stmt := top 14
abbrev sAims : Stmt := top 15
abbrev sPower : Stmt := top 16
abbrev sEntryOf : Stmt := top 17
abbrev sOrderOf : Stmt := top 18
abbrev sCircles : Stmt := top 19
abbrev sStepsOf : Stmt := top 20
abbrev sBox : Stmt := top 22
abbrev sDraw : Stmt := top 23
abbrev sPick : Stmt := top 24
abbrev sMixed : Stmt := top 25
abbrev sEvery : Stmt := top 26
abbrev sDeed : Stmt := top 27
abbrev sEntry : Stmt := top 28
abbrev sMade : Stmt := top 29
abbrev sLPlaces : Stmt := top 30
abbrev sLKeysBehind : Stmt := top 31
abbrev sDrawn : Stmt := top 32
abbrev sLRounds : Stmt := top 33
abbrev sLOften : Stmt := top 34
abbrev sLFar : Stmt := top 35
abbrev sLCommon : Stmt := top 36
abbrev sLPrimes : Stmt := top 37
abbrev sLSome : Stmt := top 38
abbrev sLLeast : Stmt := top 39
abbrev sLWound : Stmt := top 40
abbrev sLIsWound : Stmt := top 41
abbrev sLaw : Stmt := top 42
end Kr
namespace Kr
open PySem PySem.Spec PyProof.Rows L2
/-- the names of the built-ins are theirs -/
structure Bi (mg : Str → Option Value) : Prop where
  len : mg "len" = none
  abs : mg "abs" = none
  int : mg "int" = none
  bool : mg "bool" = none
  tuple : mg "tuple" = none
  list : mg "list" = none
  range : mg "range" = none
  zip : mg "zip" = none
  repr : mg "repr" = none
  enumerate : mg "enumerate" = none
  isinstance : mg "isinstance" = none
  all : mg "all" = none
  sorted : mg "sorted" = none
  set : mg "set" = none
  sum : mg "sum" = none
  min : mg "min" = none
  max : mg "max" = none
  any : mg "any" = none
  str : mg "str" = none
theorem sz {n : Nat} (h : n ≤ 100000) : n ≤ sizeLine := Nat.le_trans h (by decide)
theorem szl {n : Nat} (h : n < 100000) : n < sizeLine := Nat.lt_of_lt_of_le h (by decide)
/-- two ways that meet again -/
theorem join2 {c A : Prop} [Decidable c] {G R : Hp → Prop} {H2 : Hp} (tail : ∀ H3, R H3 → G H3) (h2 : ¬ c → R H2) (h1 : c → (∀ H3, R H3 → G H3) → A) : if c then A else G H2 :=
  ite2 (fun h => h1 h tail) fun h => tail _ (h2 h)
theorem same_new {H : Hp} {q : Addr} {o : HO} (h : H q = none) : Same H (upd H q o) := fun b x e => by
  rw [upd_ne (ne_of_none e h)]
  exact e
structure Df (K : PySem.W.Frag) (mg : Str → Option Value) (x : Str) (st : Stmt) (ps : List Str) : Prop where
  ex : ∃ f fd, Fun K x x st f fd ∧ Binds K fd ps [] ∧ mg x = some (.ref f)
structure Ok (P : Program) (w : World) (K : PySem.W.Frag) (mg : Str → Option Value) (base : Heap) (k : Nat) (x : Str) (ps : List Str) (sp : Sp) : Prop where
  ex : ∃ f fd, FnOk P w K mg base CX0 k f fd ps sp ∧ PySem.W.keepIn K (.ref f) = true ∧ mg x = some (.ref f) ∧ Binds K fd ps []
section
variable {P : Program} {w : World} {K : PySem.W.Frag} {mg : Str → Option Value} {base : Heap}
theorem Df.ok {x : Str} {st : Stmt} {ps : List Str} {k : Nat} {sp : Sp} (D : Df K mg x st ps) (h : ∀ f fd, Fun K x x st f fd → FnOk P w K mg base CX0 k f fd ps sp) : Ok P w K mg base k x ps sp := by
  obtain ⟨f, fd, F, b, g⟩ := D.ex
  exact ⟨f, fd, h f fd F, F.kp, g, b⟩
theorem Ok.mono {x : Str} {ps : List Str} {j k : Nat} {sp : Sp} (D : Ok P w K mg base j x ps sp) (h : j ≤ k) : Ok P w K mg base k x ps sp := by
  obtain ⟨f, fd, F, r⟩ := D.ex
  exact ⟨f, fd, F.mono h, r⟩
end
theorem pe_fn {X : Cx} {k : Nat} {x : Str} {ps : List Str} {sp : Sp} {p pos : Pos} {e : Expr} {es : List Expr} {t : TA} (D : Ok X.prog X.w X.K X.mg X.base k x ps sp) (hr : Room k X.A) (hg : Gl X x) (ha : PA X (e :: es) t)
    (hdb : (x == ("__debug__" : Str)) = false := by decide) (he : starEach (e :: es) X.env = (false, eval e X.env) :: starEach es X.env := by rfl) (hpl : (backTo pos (starEach es X.env)).any (·.1) = false := by rfl) :
    PE X (.Call (.Name x p) (e :: es) [] pos) (tCall sp [] E0 t) := by
  obtain ⟨f, fd, F, kp, g, b⟩ := D.ex
  exact pe_call F hr hg g kp b .nil pass0 ha hdb he hpl
theorem atI_int {α : Type} {xs : List α} {r : Int} {v : α} (h0 : 0 ≤ r) (h : xs[r.toNat]? = some v) : atI xs r = some v := by
  have e : r = ((r.toNat : Nat) : Int) := by omega
  rw [e]
  exact atI_nat h
end Kr
namespace Kr
open PySem PySem.Spec PyProof.Rows L2
/-! ### the deck: a dict of a list and a number, apart from all else -/
def hid (p l : Addr) (H : Hp) : Hp := fun b => if b = p ∨ b = l then none else H b
theorem hid_ne {p l b : Addr} {H : Hp} (h1 : b ≠ p) (h2 : b ≠ l) : hid p l H b = H b := by
  unfold hid
  rw [if_neg (fun h => h.elim h1 h2)]
theorem hid_some {p l b : Addr} {H : Hp} {o : HO} (h : hid p l H b = some o) : b ≠ p ∧ b ≠ l ∧ H b = some o := by
  unfold hid at h
  by_cases e : b = p ∨ b = l
  · rw [if_pos e] at h
    cases h
  · rw [if_neg e] at h
    exact ⟨fun z => e (.inl z), fun z => e (.inr z), h⟩
theorem hid_same (p l : Addr) (H : Hp) : Same (hid p l H) H := fun _ _ h => (hid_some h).2.2
abbrev Ext (p l : Addr) (H H' : Hp) : Prop := Same (hid p l H) (hid p l H')
theorem Ext.of {p l : Addr} {H H' : Hp} (s : Same H H') : Ext p l H H' := fun b o h => by
  obtain ⟨h1, h2, h3⟩ := hid_some h
  rw [hid_ne h1 h2]
  exact s _ _ h3
theorem Ext.rfl {p l : Addr} {H : Hp} : Ext p l H H := Same.refl _
abbrev kG : Key := Sum.inr ("great" : Str)
abbrev kS : Key := Sum.inr ("stirred" : Str)
abbrev kC : Key := Sum.inr ("count" : Str)
theorem kgs : ¬ ("great" : Str) = "stirred" := by decide +kernel
theorem ksg : ¬ ("stirred" : Str) = "great" := by decide +kernel
theorem kgc : ¬ ("great" : Str) = "count" := by decide +kernel
theorem kcg : ¬ ("count" : Str) = "great" := by decide +kernel
theorem ksc : ¬ ("stirred" : Str) = "count" := by decide +kernel
theorem kcs : ¬ ("count" : Str) = "stirred" := by decide +kernel
def dkv (x : V) (st : Int × Int) : List (Key × V) := [(kG, x), (kS, .int st.1), (kC, .int st.2)]
theorem dkv_g (x : V) (st : Int × Int) : valV (dkv x st) kG = some x := valV_pos rfl
theorem dkv_s (x : V) (st : Int × Int) : valV (dkv x st) kS = some (.int st.1) := (valV_neg (fun z => kgs (Sum.inr.inj z))).trans (valV_pos rfl)
theorem dkv_c (x : V) (st : Int × Int) : valV (dkv x st) kC = some (.int st.2) := (valV_neg (fun z => kgc (Sum.inr.inj z))).trans ((valV_neg (fun z => ksc (Sum.inr.inj z))).trans (valV_pos rfl))
theorem dkv_pc (x : V) (st : Int × Int) (z : Int) : putK (dkv x st) kC (.int z) = dkv x (st.1, z) := by
  simp [putK, dkv, kgs, ksg, kgc, kcg, ksc, kcs]
theorem dkv_m (x : V) (a b : Int) : mergeK [] [(kG, x), (kS, .int a), (kC, .int b)] = dkv x (a, b) := by
  simp [mergeK, putK, dkv, kgs, ksg, kgc, kcg, ksc, kcs]
structure Deck (H : Hp) (p l : Addr) : Prop where
  ex : ∃ (ds : List Int) (st : Int × Int), H p = some (.dK (dkv (.ref l) st)) ∧ H l = some (.lst (ds.map V.int)) ∧ ds.length ≤ 63
theorem Deck.ne {H : Hp} {p l : Addr} (d : Deck H p l) : p ≠ l := by
  obtain ⟨ds, st, h1, h2, _⟩ := d.ex
  exact ne_of h1 h2 (by intro z; cases z)
theorem Deck.up {H H' : Hp} {p l : Addr} (d : Deck H p l) (s : Same H H') : Deck H' p l := by
  obtain ⟨ds, st, h1, h2, h3⟩ := d.ex
  exact ⟨ds, st, s _ _ h1, s _ _ h2, h3⟩
/-- a new object stands apart -/
theorem Deck.new {H : Hp} {p l q : Addr} (d : Deck H p l) (h : H q = none) : q ≠ p ∧ q ≠ l := by
  obtain ⟨ds, st, h1, h2, h3⟩ := d.ex
  exact ⟨(ne_of_none h1 h).symm, (ne_of_none h2 h).symm⟩
theorem hid_upd {H : Hp} {p l q : Addr} {o : HO} (h1 : q ≠ p) (h2 : q ≠ l) : hid p l (upd H q o) q = some o := by
  rw [hid_ne h1 h2, upd_same]
def spDeck (K : PySem.W.Frag) : Sp := fun vs H Q _ => ∃ (a : Addr) (ns : List Int), vs = [.ref a] ∧ SqL K H a (ns.map V.int) ∧ ns.length ≤ 1000 ∧ ∀ H' p l, Same H H' → H p = none → H l = none → Deck H' p l → Q (.ref p) H'
section
variable {P : Program} {w : World} {K : PySem.W.Frag} {mg : Str → Option Value} {base : Heap}
abbrev nBox : List Str := ["script", "marks", "stirred", "cell", "mark"]
theorem scDeck : FnScope nBox ["script"] (defScope sBox) := ⟨rfl, rfl, rfl, by decide +kernel, rfl, by decide +kernel, by decide +kernel⟩
theorem ok_deck {f : Addr} {fd : FuncData} {k : Nat} (F : Fun K "_law_box" "_law_box" sBox f fd) (B : Bi mg) : FnOk P w K mg base CX0 (k + 1) f fd ["script"] (spDeck K) := by
  refine F.ok scDeck (fun vs H Q E h => ?_) (fun cdv A outer s H vs Q E hr h => ?_)
  · obtain ⟨a, ns, rfl, _⟩ := h
    rfl
  · obtain ⟨a, ns, rfl, hS, hlen, q⟩ := h
    refine ⟨_, pss_cons (ps_par (i := 1) (j := 2) rfl scDeck.nd rfl rfl (by decide) rfl rfl (pa_cons
        (pe_lc (own := [("cell", 3)]) (g := gName 3) (tt := tYes) rfl scDeck.nd (pi_list (pe_slice sl_list (pv 0) po_none (po_some pe_int))) (blkOk_by (own := [("cell", 3)]) (N := nBox) (sc := defScope sBox) (by decide +kernel)) (fun _ _ _ _ _ => pg_name (i := 3) scDeck.nd rfl (.inl rfl)) (fun _ _ _ _ _ => pts_nil)
          (fun _ _ _ _ _ => pe_op op_add (pe_op op_mul pe_int (pe_callB call_abs (by rfl) B.abs (by decide +kernel) (pa_cons (pv 3) pa_nil))) (pe_callTy call_int1 (by rfl) B.int (by decide +kernel) (pa_cons (pe_cmpR op_lt (pv 3) pe_int (nomark _)) pa_nil))))
        (pa_cons (pe_op op_add pe_int (pe_callB call_len_seq (by rfl) B.len boot_len (pa_cons (pv 0) pa_nil))) pa_nil)) (by rfl))
      (pss_cons (ps_for PassesOwn.never rfl (pi_list (pv 1)) (pg_name (i := 4) scDeck.nd rfl (.inl rfl))
        (pss_one (ps_set (i := 2) scDeck.nd rfl (.inl rfl) (pe_op op_mod (pe_callTy call_int1 (by rfl) B.int (by decide +kernel) (pa_cons (pe_op op_add (pe_op op_mul (pv 2) pe_int) (pv 4)) pa_nil)) pe_int))))
      (pss_one (ps_ret (pe_disp (pps_cons pe_str (pe_lc (own := [("mark", 4)]) (g := gName 4) rfl scDeck.nd (pi_list (pv 1)) (blkOk_by (own := [("mark", 4)]) (N := nBox) (sc := defScope sBox) (by decide +kernel)) (fun _ _ _ _ _ => pg_name (i := 4) scDeck.nd rfl (.inl rfl)) (fun _ _ _ _ _ => pts_one (pt_cmpR op_gt (pv 4) (pe_op op_pow pe_int pe_int) (nomark _))) (fun _ _ _ _ _ => pv 4))
        (pps_cons pe_str (pv 2) (pps_cons pe_str pe_int pps_nil))) (by rfl) (by rfl) (fun z => by cases z) (by decide))))), ?_⟩
    refine ⟨.ref a, rfl, 63, rfl, a, _, rfl, hS, fun c nc => ?_⟩
    obtain ⟨ms, e63, hml⟩ : ∃ ms : List Int, cutV (ns.map V.int) none (some 63) = ms.map V.int ∧ ms.length ≤ 63 := by
      refine ⟨ns.take 63, ?_, by rw [List.length_take]; omega⟩
      unfold cutV
      rw [HT.sIx_none, show HT.sIx (ns.map V.int).length (ns.map V.int).length (some 63) = min 63 (ns.map V.int).length from HT.sIx_nat _ _ 63, List.drop_zero, Nat.sub_zero, List.length_map, List.map_take]
      rcases Nat.le_total 63 ns.length with h | h
      · rw [Nat.min_eq_left h]
      · rw [Nat.min_eq_right h, List.take_of_length_le (by rw [List.length_map]; exact Nat.le_refl _), List.take_of_length_le (by rw [List.length_map]; exact h)]
    rw [e63]
    have s1 := same_new (o := .lst (ms.map V.int)) nc
    have hc : upd H c (.lst (ms.map V.int)) c = some (.lst (ms.map V.int)) := upd_same
    generalize upd H c (.lst (ms.map V.int)) = H1 at s1 hc
    refine ⟨c, rfl, ⟨_, SqL.of hc⟩, fun D nD => ?_⟩
    refine lc_it (walk_list (K := K) (a := c) (xs := ms.map V.int)) (fun i G => ∃ zs : List Int, G D = some (.lst (zs.map V.int)) ∧ Same H1 G ∧ zs.length = i) ⟨[], upd_same, same_new nD, rfl⟩ (fun i G _ ⟨_, _, s2, _⟩ => SqL.of (s2 _ _ hc)) ?_ ?_
    · rintro i x G G' hi ⟨zs, hD, s2, hl⟩ ⟨rfl, hx⟩
      rw [List.length_map] at hi
      obtain ⟨z, rfl⟩ : ∃ z, x = V.int z := by
        rw [List.getElem?_map] at hx
        cases e : ms[i]? with
        | none => rw [e] at hx; cases hx
        | some z => rw [e] at hx; exact ⟨z, (Option.some.inj hx).symm⟩
      refine ⟨rfl, ?_⟩
      dsimp only [tYes]
      rw [if_pos rfl]
      refine ⟨.int z, rfl, z, rfl, ?_⟩
      refine ⟨_, _, rfl, rfl, .inl ⟨by decide, by decide⟩, .int z, rfl, _, _, rfl, rfl, .inr ⟨_, rfl, _, _, rfl, rfl, ?_⟩⟩
      refine ⟨_, hD, szl (by rw [List.length_map]; omega), zs ++ [_], by rw [upd_same, List.map_append]; rfl, fun b o hb => ?_, by rw [List.length_append, hl]; rfl⟩
      rw [upd_ne (ne_of_none hb nD)]
      exact s2 _ _ hb
    rintro G ⟨zs, hD, s2, hl⟩
    rw [List.length_map] at hl
    have sG := s1.trans s2
    refine ⟨.ref a, rfl, a, _, rfl, .inl (sG.seq hS), _, _, rfl, rfl, _, _, rfl, ?_⟩
    dsimp only
    generalize (40961 + ((ns.map V.int).length : Int)) = st0
    refine ⟨.ref D, rfl, D, rfl, ⟨_, SqL.of hD⟩, for_list (K := K) (xs := zs.map V.int) (fun i σ G2 => ∃ (st : Int) (v4 : Option V), σ = [some (.ref a), some (.ref D), some (.int st), none, v4] ∧ G2 = G) ⟨st0, none, rfl, rfl⟩ (fun i σ G2 _ ⟨_, _, _, e⟩ => by rw [e]; exact SqL.of hD) ?_ ?_⟩
    · rintro i x σ G2 hx ⟨st, v4, rfl, rfl⟩
      obtain ⟨z, rfl⟩ : ∃ z, x = V.int z := by
        rw [List.getElem?_map] at hx
        cases e : zs[i]? with
        | none => rw [e] at hx; cases hx
        | some z => rw [e] at hx; exact ⟨z, (Option.some.inj hx).symm⟩
      exact ⟨.int st, rfl, _, _, rfl, rfl, .inr ⟨by decide, by decide⟩, .int z, rfl, _, _, rfl, rfl, .inl ⟨_, rfl, _, _, rfl, rfl, (by show (0 : Int) < 4294967291; decide), _, _, rfl, rfl⟩⟩
    rintro σ G2 ⟨st, v4, rfl, rfl⟩
    intro p np
    have sp := same_new (o := .dK []) np
    have hD2 := sp _ _ hD
    have hp : upd G2 p (.dK []) p = some (.dK []) := upd_same
    have np0 : H p = none := sG.free np
    have sGp := sG.trans sp
    generalize upd G2 p (.dK []) = G3 at sp hD2 hp sGp
    refine ⟨.ref D, rfl, D, rfl, ⟨_, SqL.of hD2⟩, fun l nl => ?_⟩
    have nl0 : H l = none := sGp.free nl
    have nlp : l ≠ p := (ne_of_none hp nl).symm
    refine lc_it (walk_list (K := K) (a := D) (xs := zs.map V.int)) (fun i G => ∃ ds : List Int, G l = some (.lst (ds.map V.int)) ∧ Same G3 G ∧ ds.length ≤ i) ⟨[], upd_same, same_new nl, Nat.le_refl _⟩ (fun i G _ ⟨_, _, s2, _⟩ => SqL.of (s2 _ _ hD2)) ?_ ?_
    · rintro i x G' G'' hi ⟨ds, hL, s3, hdl⟩ ⟨rfl, hx⟩
      rw [List.length_map] at hi
      obtain ⟨z, rfl⟩ : ∃ z, x = V.int z := by
        rw [List.getElem?_map] at hx
        cases e : zs[i]? with
        | none => rw [e] at hx; cases hx
        | some z => rw [e] at hx; exact ⟨z, (Option.some.inj hx).symm⟩
      refine ⟨rfl, .int z, rfl, _, _, rfl, rfl, ⟨by decide, by decide, by decide⟩, _, _, rfl, rfl, _, rfl, ite2 (fun _ => ?_) (fun _ => ?_)⟩
      · refine ⟨.int z, rfl, _, hL, szl (by rw [List.length_map]; omega), ds ++ [z], by rw [upd_same, List.map_append]; rfl, fun b o hb => ?_, by rw [List.length_append]; show _ + 1 ≤ _; omega⟩
        rw [upd_ne (ne_of_none hb nl)]
        exact s3 _ _ hb
      · exact ⟨ds, hL, s3, by omega⟩
    rintro G4 ⟨ds, hL, s3, hdl⟩
    rw [List.length_map] at hdl
    refine ⟨.int st, rfl, s3 _ _ hp, [(kG, V.ref l), (kS, .int st), (kC, .int 0)], rfl, by show 3 ≤ 15; decide, ?_⟩
    rw [dkv_m]
    refine q _ p l (fun b o hb => ?_) np0 nl0 ⟨ds, (st, 0), upd_same, by rw [upd_ne nlp]; exact hL, by omega⟩
    rw [upd_ne (ne_of_none hb np0)]
    exact s3 _ _ (sGp _ _ hb)
end
end Kr
namespace Kr
open PySem PySem.Spec PyProof.Rows L2
/-! ### beside an empty list -/
def rEqN : R2 := fun x y H Q => ∃ l b xs, x = .ref l ∧ y = .ref b ∧ H l = some (.lst xs) ∧ H b = some (.lst []) ∧ Q (.bl xs.isEmpty) H
theorem op_eqN {X : Cx} (hu : X.A.units + 64 < cLine) : OpR X (compareOp .Eq) rEqN := by
  intro pins s σ H x y v u Q I rx ry h
  obtain ⟨l, b, xs, rfl, rfl, hl, hb, q⟩ := h
  obtain rfl : v = Value.ref l := rx
  obtain rfl : u = Value.ref b := ry
  obtain ⟨its, r1, p1, _⟩ := I.list (SqL.of (K := X.K) hl)
  obtain ⟨it2, r2, p2, _⟩ := I.list (SqL.of (K := X.K) hb)
  cases r2
  cases r1 with
  | nil => exact SeqAt.RcAt.lists (e := fun _ => true) p1.isList p2.isList rfl (by omega) (fun j h1 _ => absurd h1 (by simp)) X.prog X.w X.xe _ ⟨.bl true, H, I, by rfl, q⟩
  | cons _ _ => exact SeqAt.RcAt.lists_lengths p1.isList p2.isList (by simp) (by omega) X.prog X.w X.xe _ ⟨.bl false, H, I, rfl, q⟩
/-- a list beside one without items -/
def rNeN : R2 := fun x y H Q => ∃ l b xs, x = .ref l ∧ y = .ref b ∧ H l = some (.lst xs) ∧ H b = some (.lst []) ∧ Q (.bl (!xs.isEmpty)) H
theorem op_neN {X : Cx} (hu : X.A.units + 64 < cLine) : OpR X (compareOp .NotEq) rNeN := by
  intro pins s σ H x y v u Q I rx ry h
  obtain ⟨l, b, xs, rfl, rfl, hl, hb, q⟩ := h
  obtain rfl : v = Value.ref l := rx
  obtain rfl : u = Value.ref b := ry
  obtain ⟨its, r1, p1, _⟩ := I.list (SqL.of (K := X.K) hl)
  obtain ⟨it2, r2, p2, _⟩ := I.list (SqL.of (K := X.K) hb)
  cases r2
  have hn : its.length = xs.length := r1.length.symm
  by_cases he : xs = []
  · subst he
    have : its = [] := List.length_eq_zero_iff.mp hn
    subst this
    exact SeqAt.RcNeAt.lists (e := fun _ => true) p1.isList p2.isList rfl (by omega) (fun j h1 _ => absurd h1 (by simp)) X.prog X.w X.xe _ ⟨.bl false, H, I, by rfl, q⟩
  · have hne : (its.toArray.size != ([] : List Value).toArray.size) = true := by
      have := List.length_pos_iff.mpr he
      simp
      intro z
      subst z
      simp at hn
      exact he (List.length_eq_zero_iff.mp hn.symm)
    have e1 : (!xs.isEmpty) = true := by
      cases xs with
      | nil => exact absurd rfl he
      | cons _ _ => rfl
    rw [e1] at q
    exact SeqAt.RcNeAt.lists_lengths p1.isList p2.isList hne (by omega) X.prog X.w X.xe _ ⟨.bl true, H, I, rfl, q⟩
/-- zip of two tuples, of any lengths -/
theorem walk_zipT {K : PySem.W.Frag} {a b : Addr} {xs ys : List V} {n : Nat} (hn : n = min xs.length ys.length) : Walk (RZ.ItzT K a b) n (fun H => SqT K H a xs ∧ SqT K H b ys) (YPair (fun i => xs[i]?) (fun i => ys[i]?)) := by
  subst hn
  refine ⟨fun i _ hi q => ?_, fun _ ⟨q1, q2⟩ => ⟨xs, ys, q1, q2, (by omega)⟩, fun i H v H' _ ⟨q1, q2⟩ y => ?_⟩
  · obtain ⟨g1, g2⟩ := Nat.lt_min.mp hi
    exact ⟨xs, ys, xs[i], ys[i], q.1, q.2, List.getElem?_eq_getElem g1, List.getElem?_eq_getElem g2⟩
  · obtain ⟨T, x, z, t1, t2, t3, t4, t5⟩ := y
    exact ⟨T, x, z, t1, t2, t3, t4 _ q1, t5 _ q2⟩
theorem vals_ints_flat (ns : List Int) : flatV (.int 0) = true := rfl
end Kr
namespace Kr
open PySem PySem.Spec PyProof.Rows L2
def spDraw : Sp := fun vs H Q _ => ∃ (p l : Addr) (m : Int), vs = [.ref p, .int m] ∧ Deck H p l ∧ 1 ≤ m ∧ m < 1073741824 ∧ ∀ H' r, Deck H' p l → Ext p l H H' → 0 ≤ r → r < m → Q (.int r) H'
theorem Ext.new {p l q : Addr} {H H' : Hp} {o : HO} (e : Ext p l H H') (h : H' q = none) : Ext p l H (upd H' q o) := fun b x hb => by
  have h2 := e b x hb
  obtain ⟨h3, h4, h5⟩ := hid_some h2
  rw [hid_ne h3 h4, upd_ne (ne_of_none h5 h)]
  exact h5
theorem Ext.at {p l q : Addr} {H H' : Hp} {o : HO} (e : Ext p l H H') (h : q = p ∨ q = l) : Ext p l H (upd H' q o) := fun b x hb => by
  have h2 := e b x hb
  obtain ⟨h3, h4, h5⟩ := hid_some h2
  have hq : b ≠ q := fun z => h.elim (fun w => h3 (z.trans w)) fun w => h4 (z.trans w)
  rw [hid_ne h3 h4, upd_ne hq]
  exact h5
abbrev nDr : List Str := ["box", "many", "great", "mark", "count", "found"]
section
variable {P : Program} {w : World} {K : PySem.W.Frag} {mg : Str → Option Value} {base : Heap}
theorem scDraw : FnScope nDr ["box", "many"] (defScope sDraw) := ⟨rfl, rfl, rfl, by decide +kernel, rfl, by decide +kernel, by decide +kernel⟩
theorem ok_draw {f : Addr} {fd : FuncData} {k : Nat} (F : Fun K "_law_draw" "_law_draw" sDraw f fd) (B : Bi mg) : FnOk P w K mg base CX0 (k + 1) f fd ["box", "many"] spDraw := by
  refine F.ok scDraw (fun vs H Q E h => ?_) (fun cdv A outer s H vs Q E hr h => ?_)
  · obtain ⟨p, l, m, rfl, _⟩ := h
    rfl
  · obtain ⟨p, l, m, rfl, D, hm1, hm, q⟩ := h
    have hu := hu_of hr
    have hu2 : (cxOf CX0 P w K mg base nDr "_law_draw" (defScope sDraw) f cdv A outer s H E).A.units + 64 < cLine := hr.units
    refine ⟨_, pss_cons (ps_set (i := 2) scDraw.nd rfl (.inl rfl) (pe_dget hu (pv 0) pe_str (fun _ _ => rfl)))
      (pss_cons (ps_if (pt_cmpR (op_neN hu2) (pv 2) (pe_lst pa_nil) (nomark _))
        (pss_cons (ps_set (i := 3) scDraw.nd rfl (.inl rfl) (pe_ix ix_list (pv 2) pe_int (fun _ _ => rfl)))
        (pss_cons (ps_asg (pe_op op_fdiv (pv 3) (pv 1)) (pg_sub (pv 2) pe_int set_list))
        (pss_cons (ps_if (pt_cmpR op_lt (pv 3) (pv 1) (nomark _)) (pss_one (ps_expr (pe_bm PySem.F.plainAttrs_list PySem.F.slot_list_pop PySem.F.type_list_pop mt_popAt (pv 2) (pa_cons pe_int pa_nil)))) pss_nil)
        (pss_one (ps_ret (pe_op op_mod (pe_callTy call_int1 (by rfl) B.int (by decide +kernel) (pa_cons (pv 3) pa_nil)) (pv 1))))))) pss_nil)
      (pss_cons (ps_set (i := 4) scDraw.nd rfl (.inl rfl) (pe_op op_add (pe_dget hu (pv 0) pe_str (fun _ _ => rfl)) pe_int))
      (pss_cons (ps_dput hu (pv 0) pe_str (pv 4) rfl)
      (pss_cons (ps_set (i := 5) scDraw.nd rfl (.inl rfl) (pe_op op_mod (pe_callTy call_int1 (by rfl) B.int (by decide +kernel) (pa_cons (pe_op op_add (pe_dget hu (pv 0) pe_str (fun _ _ => rfl)) (pe_op op_mul pe_int (pv 4))) pa_nil)) pe_int))
      (pss_cons (ps_set (i := 5) scDraw.nd rfl (.inl rfl) (pe_op op_mod (pe_callTy call_int1 (by rfl) B.int (by decide +kernel) (pa_cons (pe_op op_add (pe_op op_add (pe_op op_mul (pv 5) (pv 5)) (pe_op op_mul pe_int (pv 4))) pe_int) pa_nil)) pe_int))
      (pss_cons (ps_set (i := 5) scDraw.nd rfl (.inl rfl) (pe_op op_mod (pe_callTy call_int1 (by rfl) B.int (by decide +kernel) (pa_cons (pe_op op_add (pe_op op_mul (pv 5) (pv 5)) (pe_dget hu (pv 0) pe_str (fun _ _ => rfl))) pa_nil)) pe_int))
      (pss_one (ps_ret (pe_op op_mod (pe_callTy call_int1 (by rfl) B.int (by decide +kernel) (pa_cons (pe_op op_fdiv (pv 5) pe_int) pa_nil)) (pv 1)))))))))), ?_⟩
    obtain ⟨ds, st, hp, hl, hd⟩ := id D.ex
    have nlp : l ≠ p := D.ne.symm
    have hgd : DGet H p (V.str "great") (some (.ref l)) := by rw [← dkv_g (.ref l) st]; exact DGet.k (k := kG) hp
    refine ⟨.ref p, rfl, p, .ref l, rfl, hgd, ?_⟩
    refine ⟨.ref l, rfl, by show 0 ≤ sizeLine; decide, fun e ne => ?_⟩
    have nep : e ≠ p := (ne_of_none hp ne).symm
    have nel : e ≠ l := (ne_of_none hl ne).symm
    have hp1 : upd H e (.lst []) p = some (.dK (dkv (.ref l) st)) := by rw [upd_ne nep.symm]; exact hp
    have hl1 : upd H e (.lst []) l = some (.lst (ds.map V.int)) := by rw [upd_ne nel.symm]; exact hl
    have E1 : Ext p l H (upd H e (.lst [])) := Ext.rfl.new ne
    refine ⟨l, e, ds.map V.int, rfl, rfl, hl1, upd_same, _, rfl, ?_⟩
    generalize upd H e (.lst []) = H1 at hp1 hl1 E1
    cases ds with
    | nil =>
      refine iteF ?_
      have hgc1 : DGet H1 p (V.str "count") (some (.int st.2)) := by rw [← dkv_c (.ref l) st]; exact DGet.k (k := kC) hp1
      refine ⟨.ref p, rfl, p, .int st.2, rfl, hgc1, _, _, rfl, rfl, ?_⟩
      dsimp only
      refine ⟨.int (st.2 + 1), rfl, .ref p, rfl, p, _, rfl, DPut.k (k := kC) hp1 (by show 3 < sizeLine; decide), ?_⟩
      rw [dkv_pc]
      have hp2 : upd H1 p (.dK (dkv (.ref l) (st.1, st.2 + 1))) p = some (.dK (dkv (.ref l) (st.1, st.2 + 1))) := upd_same
      have hl2 : upd H1 p (.dK (dkv (.ref l) (st.1, st.2 + 1))) l = some (.lst (([] : List Int).map V.int)) := by rw [upd_ne nlp]; exact hl1
      have E2 : Ext p l H (upd H1 p (.dK (dkv (.ref l) (st.1, st.2 + 1)))) := E1.at (.inl rfl)
      generalize upd H1 p (.dK (dkv (.ref l) (st.1, st.2 + 1))) = H2 at hp2 hl2 E2
      have hgs2 : DGet H2 p (V.str "stirred") (some (.int st.1)) := by
        have := dkv_s (.ref l) (st.1, st.2 + 1)
        rw [← this]
        exact DGet.k (k := kS) hp2
      generalize st.2 + 1 = ct at hp2
      refine ⟨.ref p, rfl, p, .int st.1, rfl, hgs2, .int ct, rfl, _, _, rfl, rfl, .inl ⟨by decide, by decide⟩, _, _, rfl, rfl, .inl ⟨_, rfl, _, _, rfl, rfl, (by show (0 : Int) < 4294967291; decide), ?_⟩⟩
      dsimp only
      have o0 : 0 ≤ ((st.1 + 2654435761 * ct) % 4294967291 : Int) := Int.emod_nonneg _ (by decide)
      have o1 : ((st.1 + 2654435761 * ct) % 4294967291 : Int) < 4294967291 := Int.emod_lt_of_pos _ (by decide)
      generalize ((st.1 + 2654435761 * ct) % 4294967291 : Int) = one at o0 o1
      refine ⟨.int one, rfl, .int one, rfl, _, _, rfl, rfl, .inl ⟨by omega, by omega⟩, .int ct, rfl, _, _, rfl, rfl, .inl ⟨by decide, by decide⟩, _, _, rfl, rfl, _, _, rfl, rfl, .inl ⟨_, rfl, _, _, rfl, rfl, (by show (0 : Int) < 4294967279; decide), ?_⟩⟩
      dsimp only
      have t0 : 0 ≤ ((one * one + 40503 * ct + 7) % 4294967279 : Int) := Int.emod_nonneg _ (by decide)
      have t1 : ((one * one + 40503 * ct + 7) % 4294967279 : Int) < 4294967279 := Int.emod_lt_of_pos _ (by decide)
      generalize ((one * one + 40503 * ct + 7) % 4294967279 : Int) = two at t0 t1
      refine ⟨.int two, rfl, .int two, rfl, _, _, rfl, rfl, .inl ⟨by omega, by omega⟩, .ref p, rfl, p, .int st.1, rfl, hgs2, _, _, rfl, rfl, .inl ⟨_, rfl, _, _, rfl, rfl, (by show (0 : Int) < 4294967231; decide), ?_⟩⟩
      dsimp only
      generalize ((two * two + st.1) % 4294967231 : Int) = three
      refine ⟨.int three, rfl, _, _, rfl, rfl, ⟨by decide, by decide⟩, .inl ⟨_, rfl, .int m, rfl, _, _, rfl, rfl, (by show 0 < m; omega), ?_⟩⟩
      exact q _ _ ⟨[], _, hp2, hl2, Nat.zero_le _⟩ E2 (Int.emod_nonneg _ (by omega)) (Int.emod_lt_of_pos _ (by omega))
    | cons d0 dr =>
      refine iteT ?_
      have hd' : dr.length + 1 ≤ 63 := hd
      refine ⟨.ref l, rfl, l, _, 0, .int d0, rfl, rfl, SqL.of hl1, by simpa using atI_nat (j := 0) (xs := (d0 :: dr).map V.int) (v := V.int d0) rfl, ?_⟩
      refine ⟨.int d0, rfl, .int m, rfl, _, _, rfl, rfl, ⟨by show 0 < m; omega, by show m < _; omega⟩, .ref l, rfl, l, _, 0, 0, rfl, rfl, hl1, ?_, ?_⟩
      · unfold ixN
        rw [if_pos (by decide), if_pos (by simp only [List.length_map, List.length_cons]; omega)]
        rfl
      dsimp only
      have hl2 : upd H1 l (.lst (((d0 :: dr).map V.int).set 0 (.int (d0 / m)))) l = some (.lst ((d0 / m :: dr).map V.int)) := upd_same
      have hp2 : upd H1 l (.lst (((d0 :: dr).map V.int).set 0 (.int (d0 / m)))) p = some (.dK (dkv (.ref l) st)) := by rw [upd_ne nlp.symm]; exact hp1
      have E2 : Ext p l H (upd H1 l (.lst (((d0 :: dr).map V.int).set 0 (.int (d0 / m))))) := E1.at (.inr rfl)
      generalize upd H1 l (.lst (((d0 :: dr).map V.int).set 0 (.int (d0 / m)))) = H2 at hp2 hl2 E2
      refine ⟨.int d0, rfl, .int m, rfl, _, _, rfl, rfl, _, rfl, ?_⟩
      refine join2 (H2 := H2) (R := fun H3 => ∃ ds3 : List Int, H3 p = some (.dK (dkv (.ref l) st)) ∧ H3 l = some (.lst (ds3.map V.int)) ∧ ds3.length ≤ 63 ∧ Ext p l H H3)
        (fun H3 hR => ?_) (fun _ => ⟨d0 / m :: dr, hp2, hl2, hd, E2⟩) (fun _ tail => ?_)
      · obtain ⟨ds3, hp3, hl3, hd3, E3⟩ := hR
        refine ⟨.int d0, rfl, .inl ⟨_, rfl, .int m, rfl, _, _, rfl, rfl, (by show 0 < m; omega), ?_⟩⟩
        exact q _ _ ⟨ds3, st, hp3, hl3, hd3⟩ E3 (Int.emod_nonneg _ (by omega)) (Int.emod_lt_of_pos _ (by omega))
      · refine ⟨.ref l, rfl, .inl ⟨rfl, _, SqL.of hl2⟩, l, _, 0, 0, .int (d0 / m), rfl, rfl, hl2, by decide, by decide, ?_, rfl, ?_⟩
        · exact (ixN_seq (by unfold ixN; rw [if_pos (by decide), if_pos (by simp only [List.length_map, List.length_cons]; omega)]; rfl)).1
        · exact tail _ ⟨dr, by rw [upd_ne nlp.symm]; exact hp2, upd_same, by omega, E2.at (.inr rfl)⟩
end
end Kr
namespace Kr
open PySem PySem.Spec PyProof.Rows L2
/-! ### defs by their names -/
section
variable {P : Program} {w : World} {K : PySem.W.Frag} {mg : Str → Option Value} {base : Heap}
end
section
variable {P : Program} {w : World} {K : PySem.W.Frag} {mg : Str → Option Value} {base : Heap}
theorem o_draw (D : Df K mg "_law_draw" sDraw ["box", "many"]) (B : Bi mg) : Ok P w K mg base 1 "_law_draw" ["box", "many"] spDraw := D.ok fun _ _ F => ok_draw F B
theorem o_deck (D : Df K mg "_law_box" sBox ["script"]) (B : Bi mg) : Ok P w K mg base 1 "_law_box" ["script"] (spDeck K) := D.ok fun _ _ F => ok_deck F B
end
end Kr
namespace Kr
open PySem PySem.Spec PyProof.Rows L2
/-! ### a module's name that holds a built-in (from math import comb) -/
theorem pe_callBG {X : Cx} {id : String} {r : List V → Hp → VK → Prop} {x : Str} {e : Expr} {es : List Expr} {t : TA} {p pos : Pos} (hc : CallR X (.builtin id) r) (hg : Gl X x) (hm : X.mg x = some (.builtin id)) (ha : PA X (e :: es) t) (hdb : (x == ("__debug__" : Str)) = false := by decide)
    (he : starEach (e :: es) X.env = (false, eval e X.env) :: starEach es X.env := by rfl) (hpl : (backTo pos (starEach es X.env)).any (·.1) = false := by rfl) : PE X (.Call (.Name x p) (e :: es) [] pos) (tCB r t) :=
  ⟨fun pn sh st hp W Iv hh => wpAny_Call_Name_kw (ld_glob Iv hg hm (PyProof.Rows.callWith_builtin1 (thn (ha.run pos pn sh st hp _ Iv hh) fun us s1 ⟨vs, H1, I1, r1, q1⟩ => hc pn s1 st H1 vs us W I1 r1 q1) he hpl) hdb)⟩
/-- comb(a, b) -/
def rComb : List V → Hp → VK → Prop := fun vs H Q => ∃ a b : Int, vs = [.int a, .int b] ∧ 0 ≤ a ∧ 0 ≤ b ∧ a < 1000 ∧ Q (.int (PySem.W.mcComb a b)) H
theorem call_comb {X : Cx} : CallR X (.builtin "math.comb") rComb := by
  intro pn sh st hp xs us Q Iv r h
  obtain ⟨a, b, rfl, h1, h2, h3, q⟩ := h
  cases r with
  | cons ra r =>
    cases r with
    | cons rb r =>
      cases r
      obtain ⟨t, rfl⟩ := ra
      obtain ⟨u, rfl⟩ := rb
      exact PySem.W.mc_comb h1 h2 (by omega) (.inr (by omega)) fun _ => ⟨.int (PySem.W.mcComb a b), hp, Iv.kept (t' := sh.toks + 1) (fun _ _ e => e), ⟨_, rfl⟩, q⟩
end Kr
namespace Kr
open PySem PySem.Spec PyProof.Rows L2
/-! ### data without lists and dicts: it stays while tuples stay -/
def TS (H H' : Hp) : Prop := ∀ b xs, H b = some (.tup xs) → H' b = some (.tup xs)
theorem TS.rfl {H : Hp} : TS H H := fun _ _ h => h
theorem TS.trans {H H' H'' : Hp} (a : TS H H') (b : TS H' H'') : TS H H'' := fun c xs h => b c xs (a c xs h)
theorem TS.of {H H' : Hp} (s : Same H H') : TS H H' := fun b xs h => s _ _ h
theorem TS.lst {H : Hp} {D : Addr} {xs ys : List V} (h : H D = some (.lst xs)) : TS H (upd H D (.lst ys)) := fun b zs e => by
  rw [upd_ne (ne_of e h (by intro z; cases z))]
  exact e
theorem TS.new {H : Hp} {q : Addr} {o : HO} (h : H q = none) : TS H (upd H q o) := fun b zs e => by
  rw [upd_ne (ne_of_none e h)]
  exact e
mutual
def flatT : PyData → Bool
  | .none | .bool _ | .int _ | .str _ => true
  | .tuple xs => flatTA xs
  | .list _ | .dict _ => false
def flatTA : List PyData → Bool
  | [] => true
  | x :: xs => flatT x && flatTA xs
end
mutual
theorem Dq.upT {H H' : Hp} (s : TS H H') : ∀ {v : V} {d : PyData}, flatT d = true → Dq H v d → Dq H' v d
  | _, _, _, .non => .non
  | _, _, _, .bl b => .bl b
  | _, _, _, .int i => .int i
  | _, _, _, .str x => .str x
  | _, _, h, .lst _ _ => by simp [flatT] at h
  | _, _, h, .tup e q => .tup (s _ _ e) (DqA.upT s (by simpa [flatT] using h) q)
  | _, _, h, .dic _ => by simp [flatT] at h
theorem DqA.upT {H H' : Hp} (s : TS H H') : ∀ {vs : List V} {ds : List PyData}, flatTA ds = true → DqA H vs ds → DqA H' vs ds
  | _, _, _, .nil => .nil
  | _ :: _, d :: ds, h, .cons a t => by
    have h2 : flatT d = true ∧ flatTA ds = true := by simpa [flatTA] using h
    exact .cons (Dq.upT s h2.1 a) (DqA.upT s h2.2 t)
end
theorem flatTA_of : ∀ {ds : List PyData}, (∀ d ∈ ds, flatT d = true) → flatTA ds = true
  | [], _ => rfl
  | d :: ds, h => by
    have h1 := h d List.mem_cons_self
    have h2 := flatTA_of (ds := ds) fun e he => h e (List.mem_cons_of_mem _ he)
    simp [flatTA, h1, h2]
mutual
/-- as the layer's own data, for == -/
theorem Dq.dp {K : PySem.W.Frag} {H : Hp} : ∀ {v : V} {d : PyData}, flatT d = true → Dq H v d → Dp K H v d
  | _, _, _, .non => .non
  | _, _, _, .bl b => .bl b
  | _, _, _, .int i => .int i
  | _, _, _, .str x => .str x
  | _, _, h, .lst _ _ => by simp [flatT] at h
  | _, _, h, .tup e q => .tup (SqT.of e) (DqA.dp (by simpa [flatT] using h) q)
  | _, _, h, .dic _ => by simp [flatT] at h
theorem DqA.dp {K : PySem.W.Frag} {H : Hp} : ∀ {vs : List V} {ds : List PyData}, flatTA ds = true → DqA H vs ds → DpAll K H vs ds
  | _, _, _, .nil => .nil
  | _ :: _, d :: ds, h, .cons a t => by
    have h2 : flatT d = true ∧ flatTA ds = true := by simpa [flatTA] using h
    exact .cons (Dq.dp h2.1 a) (DqA.dp h2.2 t)
end
theorem dqa_snoc {H : Hp} {vs : List V} {ds : List PyData} {v : V} {d : PyData} (a : DqA H vs ds) (b : Dq H v d) : DqA H (vs ++ [v]) (ds ++ [d]) := a.app (.one b)
/-! ### rows of signs -/
abbrev Row := List (Bool × Bool)
def bi (b : Bool) : Int := if b = true then 1 else 0
def pairD (p : Bool × Bool) : PyData := .tuple [.int (bi p.1), .int (bi p.2)]
def rowD (r : Row) : PyData := .tuple (r.map pairD)
theorem pair_flat (p : Bool × Bool) : flatT (pairD p) = true := by simp [pairD, flatT, flatTA]
theorem pairs_flat (r : Row) : flatTA (r.map pairD) = true := flatTA_of fun d hd => by
  obtain ⟨p, _, rfl⟩ := List.mem_map.mp hd
  exact pair_flat p
theorem row_flat (r : Row) : flatT (rowD r) = true := by
  simp only [rowD, flatT]
  exact pairs_flat r
theorem bi_inj {a b : Bool} : bi a = bi b ↔ a = b := by cases a <;> cases b <;> decide
theorem bi_one (a : Bool) : decide (bi a = 1) = a := by cases a <;> rfl
theorem bi_xor (a b : Bool) : Builtin.bitXor (bi a) (bi b) = bi (a ^^ b) := by cases a <;> cases b <;> decide +kernel
theorem bi_sum (a b : Bool) : (bi a + bi b) % 2 = bi (a ^^ b) := by cases a <;> cases b <;> decide +kernel
theorem pair_at {H : Hp} {b : Addr} {p : Bool × Bool} (h : H b = some (.tup [.int (bi p.1), .int (bi p.2)])) : Dq H (.ref b) (pairD p) := .tup h (.cons (.int _) (.cons (.int _) .nil))
theorem pair_inv {H : Hp} {v : V} {p : Bool × Bool} (h : Dq H v (pairD p)) : ∃ b, v = .ref b ∧ H b = some (.tup [.int (bi p.1), .int (bi p.2)]) := by
  obtain ⟨b, xs, rfl, e, q⟩ := Dq.tup_inv (show Dq H v (.tuple [.int (bi p.1), .int (bi p.2)]) from h)
  cases q with
  | cons h1 q =>
    cases q with
    | cons h2 q =>
      cases q
      cases h1
      cases h2
      exact ⟨b, rfl, e⟩
theorem row_inv {H : Hp} {v : V} {r : Row} (h : Dq H v (rowD r)) : ∃ a xs, v = .ref a ∧ H a = some (.tup xs) ∧ DqA H xs (r.map pairD) := Dq.tup_inv h
theorem pairs_get {H : Hp} {xs : List V} {r : Row} {i : Nat} {y : V} (q : DqA H xs (r.map pairD)) (e : xs[i]? = some y) : ∃ p, r[i]? = some p ∧ ∃ b, y = .ref b ∧ H b = some (.tup [.int (bi p.1), .int (bi p.2)]) := by
  obtain ⟨d, h1, h2⟩ := q.get e
  rw [List.getElem?_map] at h1
  cases hr : r[i]? with
  | none => rw [hr] at h1; cases h1
  | some p =>
    rw [hr] at h1
    cases Option.some.inj h1
    exact ⟨p, rfl, pair_inv h2⟩
theorem pairs_len {H : Hp} {xs : List V} {r : Row} (q : DqA H xs (r.map pairD)) : xs.length = r.length := by rw [q.len, List.length_map]
theorem pairD_inj {p q : Bool × Bool} : PyData.eqv (pairD p) (pairD q) = decide (p = q) := by
  obtain ⟨a, b⟩ := p
  obtain ⟨c, d⟩ := q
  cases a <;> cases b <;> cases c <;> cases d <;> decide +kernel
theorem rows_eqv : ∀ a b : Row, PyData.eqv (rowD a) (rowD b) = decide (a = b)
  | [], [] => by simp [rowD, PyData.eqv, PyData.eqvAll]
  | [], _ :: _ => by simp [rowD, PyData.eqv, PyData.eqvAll]
  | _ :: _, [] => by simp [rowD, PyData.eqv, PyData.eqvAll]
  | x :: a, y :: b => by
    have ih := rows_eqv a b
    simp only [rowD, PyData.eqv] at ih
    simp only [rowD, List.map_cons, PyData.eqv, PyData.eqvAll]
    rw [ih, pairD_inj, Bool.eq_iff_iff]
    simp
theorem pairs_lay : ∀ r : Row, PyData.canLayAll0 (r.map pairD) = true ∧ PyData.depthAll (r.map pairD) ≤ 2
  | [] => by simp [PyData.canLayAll0, PyData.depthAll]
  | p :: r => by
    obtain ⟨h1, h2⟩ := pairs_lay r
    simp only [List.map_cons, PyData.canLayAll0, PyData.depthAll, pairD, PyData.canLay0, PyData.depth, h1]
    refine ⟨by simp, by omega⟩
theorem row_shaped (r : Row) : SeqAt.shaped (rowD r) = true := by
  obtain ⟨h1, h2⟩ := pairs_lay r
  unfold SeqAt.shaped
  simp only [rowD, PyData.canLay0, PyData.depth, h1, Bool.true_and, decide_eq_true_eq]
  omega
theorem pair_shaped (p : Bool × Bool) : SeqAt.shaped (pairD p) = true := by
  obtain ⟨a, b⟩ := p
  cases a <;> cases b <;> decide +kernel
/-! ### sums of rows, rows of kinds -/
def addR (a b : Row) : Row := List.zipWith (fun p q => (p.1 ^^ q.1, p.2 ^^ q.2)) a b
def zeroR (n : Nat) : Row := List.replicate (n + 1) (false, false)
def chB (a b : Int) : Bool := if 0 ≤ b then PySem.W.mcComb a b % 2 == 1 else false
def kindR (n k : Nat) : Row := (List.range (n + 1)).map fun (m : Nat) => (chB ((n : Int) - 2 - k) (((m : Nat) : Int) - 1 - k), chB ((n : Int) - 2 - k) (((m : Nat) : Int) - k))
theorem addR_len {a b : Row} (h : a.length = b.length) : (addR a b).length = b.length := by
  unfold addR
  rw [List.length_zipWith, h, Nat.min_self]
theorem zeroR_len (n : Nat) : (zeroR n).length = n + 1 := List.length_replicate
theorem kindR_len (n k : Nat) : (kindR n k).length = n + 1 := by
  unfold kindR
  rw [List.length_map, List.length_range]
theorem addR_zero : ∀ (n : Nat) (r : Row), r.length = n → addR (List.replicate n (false, false)) r = r
  | 0, [], _ => rfl
  | n + 1, p :: r, h => by
    have ih := addR_zero n r (by simpa using h)
    unfold addR at ih ⊢
    rw [List.replicate_succ, List.zipWith_cons_cons, ih]
    simp
  | 0, _ :: _, h => by simp at h
  | _ + 1, [], h => by simp at h
end Kr
namespace Kr
open PySem PySem.Spec PyProof.Rows L2
/-! ### small data: what repr can show -/
structure Sm (k w : Nat) (d : PyData) : Prop where
  sh : d.showable = true
  ls : d.leavesShort 41 = true
  dp : d.depth ≤ k
  wt : d.weight ≤ w
theorem Sm.mono {k w k' w' : Nat} {d : PyData} (h : Sm k w d) (hk : k ≤ k') (hw : w ≤ w') : Sm k' w' d := ⟨h.sh, h.ls, Nat.le_trans h.dp hk, Nat.le_trans h.wt hw⟩
theorem sm_all {k w : Nat} : ∀ {ds : List PyData}, (∀ d ∈ ds, Sm k w d) → PyData.showableAll ds = true ∧ PyData.leavesShortAll 41 ds = true ∧ PyData.depthAll ds ≤ k ∧ PyData.weightAll ds ≤ (w + 1) * ds.length
  | [], _ => ⟨by simp [PyData.showableAll], by simp [PyData.leavesShortAll], by simp [PyData.depthAll], by simp [PyData.weightAll]⟩
  | d :: ds, h => by
    obtain ⟨h1, h2, h3, h4⟩ := sm_all fun x hx => h x (List.mem_cons_of_mem _ hx)
    have hd := h d List.mem_cons_self
    refine ⟨by simp [PyData.showableAll, hd.sh, h1], by simp [PyData.leavesShortAll, hd.ls, h2], ?_, ?_⟩
    · simp only [PyData.depthAll]
      have := hd.dp
      omega
    · simp only [PyData.weightAll, List.length_cons, Nat.mul_add]
      have := hd.wt
      omega
theorem Sm.lst {k w m : Nat} {ds : List PyData} (h : ∀ d ∈ ds, Sm k w d) (hm : ds.length ≤ m) : Sm (k + 1) ((w + 1) * m) (.list ds) := by
  obtain ⟨h1, h2, h3, h4⟩ := sm_all h
  refine ⟨by simpa [PyData.showable] using h1, by simpa [PyData.leavesShort] using h2, by simp only [PyData.depth]; omega, ?_⟩
  simp only [PyData.weight]
  exact Nat.le_trans h4 (Nat.mul_le_mul_left _ hm)
theorem Sm.tup {k w m : Nat} {ds : List PyData} (h : ∀ d ∈ ds, Sm k w d) (hm : ds.length ≤ m) : Sm (k + 1) ((w + 1) * m) (.tuple ds) := by
  obtain ⟨h1, h2, h3, h4⟩ := sm_all h
  refine ⟨by simpa [PyData.showable] using h1, by simpa [PyData.leavesShort] using h2, by simp only [PyData.depth]; omega, ?_⟩
  simp only [PyData.weight]
  exact Nat.le_trans h4 (Nat.mul_le_mul_left _ hm)
theorem Sm.int {i : Int} (h : i.natAbs < 10 ^ 40) : Sm 1 140 (.int i) := by
  have hl : (PyData.shown (.int i)).length ≤ 41 := by
    have e := int_text_length_le10 (k := 40) (by decide) h
    show (Str.ofString (toString i)).length ≤ 41
    rw [PySem.ofString_length]
    exact e
  have hg : i.natAbs.log2 < 134 := by
    by_cases h0 : i.natAbs = 0
    · rw [h0]
      decide
    · rw [Nat.log2_lt h0]
      exact Nat.lt_of_lt_of_le h (by decide)
  refine ⟨?_, by simpa [PyData.leavesShort] using hl, by simp [PyData.depth], ?_⟩
  · simp only [PyData.showable, decide_eq_true_eq]
    omega
  · simp only [PyData.weight]
    split <;> omega
theorem Sm.non : Sm 1 140 .none := ⟨rfl, rfl, by simp [PyData.depth], by simp [PyData.weight]⟩
theorem Sm.bl (b : Bool) : Sm 1 140 (.bool b) := ⟨rfl, rfl, by simp [PyData.depth], by simp [PyData.weight]⟩
theorem Sm.dic : Sm 1 140 (.dict []) := ⟨by simp [PyData.showable, PyData.showableKv], by simp [PyData.leavesShort, PyData.leavesShortKv], by simp [PyData.depth, PyData.depthKv], by simp [PyData.weight, PyData.weightKv]⟩
theorem Sm.str {x : Str} (h : (x.cps.toList.all fun c => decide (c < 16 ^ 8)) = true) (hs : x.length ≤ 4) : Sm 1 140 (.str x) :=
  ⟨by simp [PyData.showable], by simpa [PyData.leavesShort] using h, by simp [PyData.depth], Nat.le_trans (show x.cps.size ≤ 4 from hs) (by decide)⟩
/-- the text is short enough -/
theorem Sm.fits {k w : Nat} {d : PyData} (h : Sm k w d) (hw : w ≤ 380000) : d.shown.length ≤ sizeLine := by
  have h1 := PyData.shown_le 41 (by decide) d h.ls
  have h2 := h.wt
  rw [sizeLine_eq]
  omega
/-- repr of small data -/
theorem repr_sm {v : V} {d : PyData} {H : Hp} {Q : VK} {k w : Nat} (hd : Dq H v d) (h : Sm k w d) (hk : k ≤ 40) (hw : w ≤ 380000) (q : Q (.str d.shown) H) : rRepr [v] H Q :=
  ⟨v, d, rfl, hd, h.sh, Nat.le_trans h.dp hk, h.fits hw, q⟩
/-- t + u, tuples of any lengths: some object that holds both -/
theorem catA_k {K : PySem.W.Frag} {a b : Addr} {xs ys : List V} {Q : VK} {H : Hp} (ha : H a = some (.tup xs)) (hb : H b = some (.tup ys)) (hl : xs.length + ys.length ≤ 100000) (k : ∀ y H5, Same H H5 → H5 y = some (.tup (xs ++ ys)) → Q (.ref y) H5) : rCatA K (.ref a) (.ref b) H Q := by
  refine ⟨a, b, xs, ys, rfl, rfl, SqT.of ha, SqT.of hb, Nat.le_trans hl (by decide), fun e => k _ _ (Same.refl _) (by rw [e]; exact hb), fun _ e => k _ _ (Same.refl _) (by rw [e, List.append_nil]; exact ha), fun _ _ p np => k _ _ (fun c o h => ?_) upd_same⟩
  rw [upd_ne (ne_of_none h np)]
  exact h
/-- t[i:j] of a tuple: some object that holds it -/
theorem sliceA_k {K : PySem.W.Frag} {a : Addr} {xs : List V} {lo hi : Option Int} {Q : VK} {H : Hp} (ha : H a = some (.tup xs)) (k : ∀ y H5, Same H H5 → H5 y = some (.tup (cutV xs lo hi)) → Q (.ref y) H5) : rSlA K (.ref a) lo hi H Q := by
  refine ⟨a, xs, rfl, SqT.of ha, fun ⟨e1, e2⟩ => k _ _ (Same.refl _) ?_, fun _ p np => k _ _ (fun c o h => ?_) upd_same⟩
  · unfold cutV
    rw [e1, e2, List.drop_zero, Nat.sub_zero, List.take_length]
    exact ha
  · rw [upd_ne (ne_of_none h np)]
    exact h
theorem cut_to {xs : List V} {i : Nat} (h : i ≤ xs.length) : cutV xs none (some (i : Int)) = xs.take i := by
  unfold cutV
  rw [HT.sIx_none, HT.sIx_nat, List.drop_zero, Nat.sub_zero, Nat.min_eq_left h]
theorem cut_from {xs : List V} {i : Nat} (h : i ≤ xs.length) : cutV xs (some (i : Int)) none = xs.drop i := by
  unfold cutV
  rw [HT.sIx_none, HT.sIx_nat, Nat.min_eq_left h]
  exact List.take_of_length_le (by rw [List.length_drop]; exact Nat.le_refl _)
end Kr
namespace Kr
open PySem PySem.Spec PyProof.Rows L2
/-! ### beside the deck -/
theorem Ext.mut {p l f : Addr} {H H' : Hp} {o : HO} (e : Ext p l H H') (h : H f = none) : Ext p l H (upd H' f o) := fun b x hb => by
  obtain ⟨_, _, h5⟩ := hid_some hb
  obtain ⟨h1, h2, h3⟩ := hid_some (e b x hb)
  rw [hid_ne h1 h2, upd_ne (ne_of_none h5 h)]
  exact h3
theorem Deck.mut {H : Hp} {p l f : Addr} {o : HO} (d : Deck H p l) (h1 : f ≠ p) (h2 : f ≠ l) : Deck (upd H f o) p l := by
  obtain ⟨ds, st, a, b, c⟩ := d.ex
  exact ⟨ds, st, by rw [upd_ne h1.symm]; exact a, by rw [upd_ne h2.symm]; exact b, c⟩
theorem Ext.free {p l f : Addr} {H H' : Hp} (e : Ext p l H H') (h : H' f = none) (h1 : f ≠ p) (h2 : f ≠ l) : H f = none := by
  cases q : H f with
  | none => rfl
  | some o =>
    have := (hid_some (e f o (by rw [hid_ne h1 h2]; exact q))).2.2
    rw [h] at this
    cases this
theorem Ext.at_ {p l f : Addr} {H H' : Hp} {o : HO} (e : Ext p l H H') (h1 : f ≠ p) (h2 : f ≠ l) (q : H f = some o) : H' f = some o := (hid_some (e f o (by rw [hid_ne h1 h2]; exact q))).2.2
/-- tuples stand apart from the deck -/
theorem TS.hide {p l : Addr} {H : Hp} (D : Deck H p l) : TS H (hid p l H) := fun b xs h => by
  obtain ⟨ds, st, h1, h2, _⟩ := D.ex
  rw [hid_ne (ne_of h h1 (by intro z; cases z)) (ne_of h h2 (by intro z; cases z))]
  exact h
theorem TS.deck {p l : Addr} {H H' : Hp} (D : Deck H p l) (E : Ext p l H H') : TS H H' := (TS.hide D).trans ((TS.of E).trans (TS.of (hid_same p l H')))
/-- a list of a new address stands apart -/
structure Apart (p l f : Addr) : Prop where
  p : f ≠ p
  l : f ≠ l
theorem Deck.apart {H : Hp} {p l q : Addr} (d : Deck H p l) (h : H q = none) : Apart p l q := ⟨(d.new h).1, (d.new h).2⟩
theorem Apart.of {H : Hp} {p l f : Addr} (d : Deck H p l) (h : hid p l H f ≠ none) : Apart p l f := by
  cases q : hid p l H f with
  | none => exact absurd q h
  | some o => exact ⟨(hid_some q).1, (hid_some q).2.1⟩
end Kr
namespace Kr
open PySem PySem.Spec PyProof.Rows L2
theorem szm {n : Nat} (h : n ≤ 100000) : n < sizeLine := Nat.lt_of_le_of_lt h (by decide)
theorem walk_rg {n : Nat} : Walk (Itr 0 n) n (fun _ => True) (fun i H x H' => H' = H ∧ x = .int (i : Nat)) := walk_range.mono (fun _ h => h) fun i H x H' _ _ ⟨a, b⟩ => ⟨a, by rw [b]; show V.int (0 + (i : Int)) = _; rw [Int.zero_add]⟩
/-- a comprehension without tests whose items are new data, one for each turn -/
theorem lc_itF {J : It} {n : Nat} {G : Hp → Prop} {Y : Nat → Hp → V → Hp → Prop} (w : Walk J n G Y) {g : TG} {tt : TT} {te : TE} {vs : List Nat} {σ : L2.St} {H1 : Hp} {D : Addr} {Qd : Hp → Prop} (f : Nat → PyData) (nD : H1 D = none) (hn : n ≤ 100000) (hf : ∀ i, i < n → flatT (f i) = true) (hG : ∀ H, Same H1 H → G H)
    (hs : ∀ i x H H' (C : VK) (Cn : Hp → Prop), i < n → Same H1 H → Y i H x H' → (∀ y H4, Same H H4 → Dq H4 y (f i) → C y H4) → g x (wipe σ vs) H' fun σ2 H2 => wipe σ2 vs = wipe σ vs ∧ tt σ2 H2 fun b H3 => if b = true then te σ2 H3 C else Cn H3)
    (hd : ∀ H acc, Same H1 H → H D = some (.lst acc) → DqA H acc ((List.range n).map f) → Qd H) :
    ∃ W : Nat → Nat → Hp → Prop, (∃ m, W 0 m (upd H1 D (.lst []))) ∧ ∀ i m H, W i m H →
      (J.stop i H ∧ Qd H) ∨ (J.go i H ∧ ∃ Nx : Hp → Prop, (∀ H', Nx H' → ∃ m', m' < m ∧ W (i + 1) m' H') ∧ ∀ x H', J.yld i H x H' → g x (wipe σ vs) H' fun σ2 H2 => wipe σ2 vs = wipe σ vs ∧ tt σ2 H2 fun b H3 =>
        if b = true then te σ2 H3 fun y H4 => ∃ acc, H4 D = some (.lst acc) ∧ acc.length < sizeLine ∧ Nx (upd H4 D (.lst (acc ++ [y]))) else Nx H3) := by
  refine lc_it w (fun i H => ∃ acc, H D = some (.lst acc) ∧ Same H1 H ∧ DqA H acc ((List.range i).map f)) ⟨[], upd_same, fun b o e => by rw [upd_ne (ne_of_none e nD)]; exact e, .nil⟩ (fun i H _ ⟨_, _, s, _⟩ => hG H s) (fun i x H H' hi ⟨acc, hD, s, q⟩ y => ?_) fun H ⟨acc, hD, s, q⟩ => hd H acc s hD q
  refine hs i x H H' _ _ hi s y fun z H4 s4 d4 => ⟨acc, s4 _ _ hD, szm (by have := q.len; rw [List.length_map, List.length_range] at this; omega), acc ++ [z], upd_same, fun b o e => ?_, ?_⟩
  · rw [upd_ne (ne_of_none e nD)]
    exact s4 _ _ (s _ _ e)
  · have t : TS H4 (upd H4 D (.lst (acc ++ [z]))) := TS.lst (s4 _ _ hD)
    rw [List.range_succ, List.map_append]
    refine dqa_snoc (DqA.upT t ?_ (q.up s4)) (Dq.upT t (hf i hi) d4)
    exact flatTA_of fun d hd => by
      obtain ⟨j, hj, rfl⟩ := List.mem_map.mp hd
      exact hf j (by have := List.mem_range.mp hj; omega)
end Kr
namespace Kr
open PySem PySem.Spec PyProof.Rows L2
/-- the inner walk of a comprehension with two -/
def Inner (D : Addr) (J1 : It) (g1 : TG) (tt1 : TT) (te : TE) (vs1 : List Nat) (σ2 : L2.St) (H4 : Hp) (Nx : Hp → Prop) : Prop :=
  ∃ W1 : Nat → Nat → Hp → Prop, (∃ m, W1 0 m H4) ∧ ∀ j k H, W1 j k H →
      (J1.stop j H ∧ Nx H) ∨ (J1.go j H ∧ ∃ Nx1 : Hp → Prop, (∀ H', Nx1 H' → ∃ k', k' < k ∧ W1 (j + 1) k' H') ∧ ∀ x H', J1.yld j H x H' → g1 x (wipe σ2 vs1) H' fun σ3 H5 => wipe σ3 vs1 = wipe σ2 vs1 ∧ tt1 σ3 H5 fun b H6 =>
        if b = true then te σ3 H6 fun y H7 => ∃ acc, H7 D = some (.lst acc) ∧ acc.length < sizeLine ∧ Nx1 (upd H7 D (.lst (acc ++ [y]))) else Nx1 H6)
theorem inner_it {J1 : It} {n1 : Nat} {G1 : Hp → Prop} {Y1 : Nat → Hp → V → Hp → Prop} (w : Walk J1 n1 G1 Y1) {D : Addr} {g1 : TG} {tt1 : TT} {te : TE} {vs1 : List Nat} {σ2 : L2.St} {H4 : Hp} {Nx : Hp → Prop} (Pv : Nat → Hp → Prop) (h0 : Pv 0 H4) (hG : ∀ j H, j ≤ n1 → Pv j H → G1 H)
    (hs : ∀ j x H H', j < n1 → Pv j H → Y1 j H x H' → g1 x (wipe σ2 vs1) H' fun σ3 H5 => wipe σ3 vs1 = wipe σ2 vs1 ∧ tt1 σ3 H5 fun b H6 => if b = true then te σ3 H6 fun y H7 => ∃ acc, H7 D = some (.lst acc) ∧ acc.length < sizeLine ∧ Pv (j + 1) (upd H7 D (.lst (acc ++ [y]))) else Pv (j + 1) H6)
    (hd : ∀ H, Pv n1 H → Nx H) : Inner D J1 g1 tt1 te vs1 σ2 H4 Nx := by
  refine ⟨fun j k H => k = n1 - j ∧ j ≤ n1 ∧ Pv j H, ⟨n1, by simp, Nat.zero_le _, h0⟩, ?_⟩
  rintro j k H ⟨rfl, hj, p⟩
  have q := hG j H hj p
  by_cases hlt : j < n1
  · exact .inr ⟨w.goes j H hlt q, Pv (j + 1), fun H' p' => ⟨n1 - (j + 1), by omega, rfl, hlt, p'⟩, fun x H' y => hs j x H H' hlt p (w.yields j H x H' hlt q y)⟩
  · obtain rfl : j = n1 := by omega
    exact .inl ⟨w.stops H q, hd H p⟩
theorem lc2_it {J : It} {n : Nat} {G : Hp → Prop} {Y : Nat → Hp → V → Hp → Prop} (w : Walk J n G Y) {D : Addr} {g g1 : TG} {tt tt1 : TT} {wi1 : TI} {te : TE} {vs vs1 : List Nat} {σ : L2.St} {H1 : Hp} {Qd : Hp → Prop} (Pv : Nat → Hp → Prop) (h0 : Pv 0 (upd H1 D (.lst []))) (hG : ∀ i H, i ≤ n → Pv i H → G H)
    (hs : ∀ i x H H', i < n → Pv i H → Y i H x H' → g x (wipe σ vs) H' fun σ2 H2 => wipe σ2 vs = wipe σ vs ∧ tt σ2 H2 fun b H3 => if b = true then wi1 σ2 H3 fun J1 H4 => Inner D J1 g1 tt1 te vs1 σ2 H4 (Pv (i + 1)) else Pv (i + 1) H3) (hd : ∀ H, Pv n H → Qd H) :
    ∃ W : Nat → Nat → Hp → Prop, (∃ m, W 0 m (upd H1 D (.lst []))) ∧ ∀ i m H, W i m H →
      (J.stop i H ∧ Qd H) ∨ (J.go i H ∧ ∃ Nx : Hp → Prop, (∀ H', Nx H' → ∃ m', m' < m ∧ W (i + 1) m' H') ∧ ∀ x H', J.yld i H x H' → g x (wipe σ vs) H' fun σ2 H2 => wipe σ2 vs = wipe σ vs ∧ tt σ2 H2 fun b H3 =>
        if b = true then wi1 σ2 H3 fun J1 H4 => Inner D J1 g1 tt1 te vs1 σ2 H4 Nx else Nx H3) := by
  refine ⟨fun i m H => m = n - i ∧ i ≤ n ∧ Pv i H, ⟨n, by simp, Nat.zero_le _, h0⟩, ?_⟩
  rintro i m H ⟨rfl, hi, p⟩
  have q := hG i H hi p
  by_cases hlt : i < n
  · exact .inr ⟨w.goes i H hlt q, Pv (i + 1), fun H' p' => ⟨n - (i + 1), by omega, rfl, hlt, p'⟩, fun x H' y => hs i x H H' hlt p (w.yields i H x H' hlt q y)⟩
  · obtain rfl : i = n := by omega
    exact .inl ⟨w.stops H q, hd H p⟩
/-- data of a list of lists of numbers -/
def lotD (l : List Nat) : PyData := .tuple (l.map fun (x : Nat) => .int (x : Int))
def lv (l : List Nat) : List V := l.map fun (x : Nat) => V.int (x : Int)
theorem lv_dq {H : Hp} (l : List Nat) : DqA H (lv l) (l.map fun (x : Nat) => PyData.int (x : Int)) := by
  induction l with
  | nil => exact .nil
  | cons x l ih => exact .cons (.int _) ih
theorem lot_at {H : Hp} {a : Addr} {l : List Nat} (h : H a = some (.tup (lv l))) : Dq H (.ref a) (lotD l) := .tup h (lv_dq l)
theorem lot_inv {H : Hp} {v : V} {l : List Nat} (h : Dq H v (lotD l)) : ∃ a, v = .ref a ∧ H a = some (.tup (lv l)) := by
  obtain ⟨a, xs, rfl, e, q⟩ := Dq.tup_inv h
  have : ∀ (xs : List V) (l : List Nat), DqA H xs (l.map fun (x : Nat) => PyData.int (x : Int)) → xs = lv l := by
    intro xs l
    induction l generalizing xs with
    | nil => intro q; cases q; rfl
    | cons x l ih =>
      intro q
      cases q with
      | cons h1 h2 =>
        cases h1
        rw [ih _ h2]
        rfl
  rw [this xs l q] at e
  exact ⟨a, rfl, e⟩
theorem lot_flat (l : List Nat) : flatT (lotD l) = true := by
  simp only [lotD, flatT]
  exact flatTA_of fun d hd => by
    obtain ⟨x, _, rfl⟩ := List.mem_map.mp hd
    rfl
theorem lots_flat (L : List (List Nat)) : flatTA (L.map lotD) = true := flatTA_of fun d hd => by
  obtain ⟨l, _, rfl⟩ := List.mem_map.mp hd
  exact lot_flat l
theorem lots_get {H : Hp} {xs : List V} {L : List (List Nat)} {i : Nat} {y : V} (q : DqA H xs (L.map lotD)) (e : xs[i]? = some y) : ∃ l, L[i]? = some l ∧ ∃ a, y = .ref a ∧ H a = some (.tup (lv l)) := by
  obtain ⟨d, h1, h2⟩ := q.get e
  rw [List.getElem?_map] at h1
  cases hr : L[i]? with
  | none => rw [hr] at h1; cases h1
  | some l =>
    rw [hr] at h1
    cases Option.some.inj h1
    exact ⟨l, rfl, lot_inv h2⟩
end Kr
namespace Kr
/-! ### how many ways -/
def ch : Nat → Nat → Nat
  | _, 0 => 1
  | 0, _ + 1 => 0
  | n + 1, k + 1 => ch n k + ch n (k + 1)
theorem ch_tab : ∀ n : Nat, n < 26 → ∀ k : Nat, k < 27 → PySem.W.mcComb (n : Int) (k : Int) = (ch n k : Int) := by decide +kernel
theorem ch_zero : ∀ n k : Nat, n < k → ch n k = 0
  | 0, 0, h => absurd h (Nat.lt_irrefl _)
  | 0, k + 1, _ => by simp [ch]
  | n + 1, 0, h => by omega
  | n + 1, k + 1, h => by
    rw [ch, ch_zero n k (by omega), ch_zero n (k + 1) (by omega)]
theorem ch_self : ∀ n : Nat, ch n n = 1
  | 0 => by simp [ch]
  | n + 1 => by rw [ch, ch_self n, ch_zero n (n + 1) (by omega)]
theorem ch_pos : ∀ n k : Nat, k ≤ n → 0 < ch n k
  | n, 0, _ => by cases n <;> simp [ch]
  | 0, k + 1, h => by omega
  | n + 1, k + 1, h => by
    rw [ch]
    have := ch_pos n k (by omega)
    omega
/-- those of fewer places -/
def below (n s : Nat) : Nat := ((List.range s).map fun k => ch n k).sum
theorem below_succ (n s : Nat) : below n (s + 1) = below n s + ch n s := by
  unfold below
  rw [List.range_succ, List.map_append, List.sum_append]
  simp
theorem below_all (n : Nat) (hn : n < 26) : below n (n + 1) = 2 ^ n := by
  have : ∀ n : Nat, n < 26 → below n (n + 1) = 2 ^ n := by decide +kernel
  exact this n hn
theorem below_le {n s t : Nat} (h : s ≤ t) : below n s ≤ below n t := by
  induction t with
  | zero => rw [show s = 0 by omega]; exact Nat.le_refl _
  | succ t ih =>
    by_cases hs : s = t + 1
    · rw [hs]; exact Nat.le_refl _
    · rw [below_succ]
      have := ih (by omega)
      omega
/-! ### lots in their order -/
/-- the lot among those of k places from p on, m places being left -/
def un : Nat → Nat → Nat → Nat → List Nat
  | _, 0, _, _ => []
  | _, _ + 1, 0, _ => []
  | p, m + 1, k + 1, a => if a < ch m k then p :: un (p + 1) m k a else un (p + 1) m (k + 1) (a - ch m k)
/-- how many stand ahead -/
def rk : Nat → Nat → List Nat → Nat
  | _, _, [] => 0
  | _, 0, _ :: _ => 0
  | p, m + 1, x :: xs => if x = p then rk (p + 1) m xs else ch m xs.length + rk (p + 1) m (x :: xs)
/-- an ascending list of numbers from p to p + m - 1 -/
def Asc (p m : Nat) (l : List Nat) : Prop := l.Pairwise (· < ·) ∧ ∀ x ∈ l, p ≤ x ∧ x < p + m
theorem Asc.len : ∀ {p m : Nat} {l : List Nat}, Asc p m l → l.length ≤ m
  | _, _, [], _ => Nat.zero_le _
  | p, 0, x :: l, h => by
    have := h.2 x List.mem_cons_self
    omega
  | p, m + 1, x :: l, h => by
    obtain ⟨h1, h2⟩ := List.pairwise_cons.mp h.1
    have hx := h.2 x List.mem_cons_self
    have : Asc (p + 1) m l := ⟨h2, fun y hy => by
      have := h1 y hy
      have := h.2 y (List.mem_cons_of_mem _ hy)
      omega⟩
    have := this.len
    rw [List.length_cons]
    omega
theorem Asc.tail {p m x : Nat} {l : List Nat} (h : Asc p (m + 1) (x :: l)) (hx : x = p) : Asc (p + 1) m l := by
  obtain ⟨h1, h2⟩ := List.pairwise_cons.mp h.1
  refine ⟨h2, fun y hy => ?_⟩
  have := h1 y hy
  have := h.2 y (List.mem_cons_of_mem _ hy)
  omega
theorem Asc.skip {p m x : Nat} {l : List Nat} (h : Asc p (m + 1) (x :: l)) (hx : ¬ x = p) : Asc (p + 1) m (x :: l) := by
  refine ⟨h.1, fun y hy => ?_⟩
  obtain ⟨h1, _⟩ := List.pairwise_cons.mp h.1
  have hx0 := h.2 x List.mem_cons_self
  have hy0 := h.2 y hy
  rcases List.mem_cons.mp hy with e | hm
  · omega
  · have := h1 y hm
    omega
theorem rk_un : ∀ (m p : Nat) (l : List Nat), Asc p m l → un p m l.length (rk p m l) = l ∧ rk p m l < ch m l.length
  | 0, p, l, h => by
    have := h.len
    have : l = [] := List.length_eq_zero_iff.mp (by omega)
    subst this
    exact ⟨rfl, by simp [rk, ch]⟩
  | m + 1, p, [], _ => ⟨rfl, by simp [rk, ch]⟩
  | m + 1, p, x :: l, h => by
    simp only [List.length_cons, un, rk, ch]
    by_cases hx : x = p
    · obtain ⟨h1, h2⟩ := rk_un m (p + 1) l (h.tail hx)
      rw [if_pos hx, if_pos h2, h1, hx]
      exact ⟨rfl, by omega⟩
    · obtain ⟨h1, h2⟩ := rk_un m (p + 1) (x :: l) (h.skip hx)
      rw [if_neg hx, if_neg (by omega), Nat.add_sub_cancel_left]
      rw [List.length_cons] at h1 h2
      exact ⟨h1, by omega⟩
theorem un_rk : ∀ (m p k a : Nat), a < ch m k → Asc p m (un p m k a) ∧ (un p m k a).length = k ∧ rk p m (un p m k a) = a
  | 0, p, 0, a, h => ⟨⟨.nil, fun x hx => nomatch hx⟩, rfl, by simp [ch] at h; simp [un, rk, h]⟩
  | 0, p, k + 1, a, h => by simp [ch] at h
  | m + 1, p, 0, a, h => ⟨⟨.nil, fun x hx => nomatch hx⟩, rfl, by simp [ch] at h; simp [un, rk, h]⟩
  | m + 1, p, k + 1, a, h => by
    simp only [un]
    by_cases ha : a < ch m k
    · obtain ⟨⟨h1, h2⟩, h3, h4⟩ := un_rk m (p + 1) k a ha
      rw [if_pos ha]
      refine ⟨⟨List.pairwise_cons.mpr ⟨fun y hy => by have := h2 y hy; omega, h1⟩, fun y hy => ?_⟩, by rw [List.length_cons, h3], by simp [rk, h4]⟩
      rcases List.mem_cons.mp hy with e | hm
      · omega
      · have := h2 y hm
        omega
    · rw [ch] at h
      obtain ⟨⟨h1, h2⟩, h3, h4⟩ := un_rk m (p + 1) (k + 1) (a - ch m k) (by omega)
      rw [if_neg ha]
      refine ⟨⟨h1, fun y hy => by have := h2 y hy; omega⟩, h3, ?_⟩
      cases e : un (p + 1) m (k + 1) (a - ch m k) with
      | nil => rw [e] at h3; cases h3
      | cons x l =>
        rw [e] at h2 h3 h4
        have hx := h2 x List.mem_cons_self
        simp only [rk]
        rw [if_neg (by omega), h4, show l.length = k by simpa using h3]
        omega
/-! ### the number of a lot -/
def num (n : Nat) (l : List Nat) : Nat := below n l.length + rk 0 n l
/-- the size of the lot with a number, and what is left -/
def sizeAt (n : Nat) : Nat → Nat → Nat → Option (Nat × Nat)
  | 0, _, _ => none
  | f + 1, s, a => if a < ch n s then some (s, a) else sizeAt n f (s + 1) (a - ch n s)
def lotAt (n a : Nat) : Option (List Nat) := (sizeAt n (n + 1) 0 a).map fun (s, r) => un 0 n s r
theorem sizeAt_ok (n : Nat) : ∀ (f s a t r : Nat), t < s + f → s ≤ t → below n s + a = below n t + r → r < ch n t → sizeAt n f s a = some (t, r)
  | 0, s, a, t, r, h, h1, _, _ => by omega
  | f + 1, s, a, t, r, h, h1, h2, h3 => by
    simp only [sizeAt]
    by_cases hs : s = t
    · subst hs
      rw [if_pos (by omega)]
      have : a = r := by omega
      rw [this]
    · have h4 := below_le (n := n) (show s + 1 ≤ t by omega)
      rw [below_succ] at h4
      rw [if_neg (by omega)]
      exact sizeAt_ok n f (s + 1) (a - ch n s) t r (by omega) (by omega) (by rw [below_succ]; omega) h3
theorem sizeAt_ex (n : Nat) : ∀ (f s a : Nat), below n s + a < below n (s + f) → ∃ t r, sizeAt n f s a = some (t, r) ∧ s ≤ t ∧ t < s + f ∧ below n s + a = below n t + r ∧ r < ch n t
  | 0, s, a, h => by
    rw [Nat.add_zero] at h
    omega
  | f + 1, s, a, h => by
    simp only [sizeAt]
    by_cases ha : a < ch n s
    · rw [if_pos ha]
      exact ⟨s, a, rfl, Nat.le_refl _, by omega, rfl, ha⟩
    · rw [if_neg ha]
      obtain ⟨t, r, h1, h2, h3, h4, h5⟩ := sizeAt_ex n f (s + 1) (a - ch n s) (by rw [below_succ, show s + 1 + f = s + (f + 1) by omega]; omega)
      rw [below_succ] at h4
      exact ⟨t, r, h1, by omega, by omega, by omega, h5⟩
theorem sizeAt_none (n : Nat) : ∀ (f s a : Nat), below n (s + f) ≤ below n s + a → sizeAt n f s a = none
  | 0, s, a, _ => rfl
  | f + 1, s, a, h => by
    have h4 := below_le (n := n) (show s + 1 ≤ s + (f + 1) by omega)
    rw [below_succ] at h4
    simp only [sizeAt]
    rw [if_neg (by omega)]
    exact sizeAt_none n f (s + 1) (a - ch n s) (by rw [below_succ, show s + 1 + f = s + (f + 1) by omega]; omega)
theorem lotAt_num {n : Nat} {l : List Nat} (h : Asc 0 n l) : lotAt n (num n l) = some l := by
  obtain ⟨h1, h2⟩ := rk_un n 0 l h
  have hl := h.len
  unfold lotAt
  rw [sizeAt_ok n (n + 1) 0 (num n l) l.length (rk 0 n l) (by omega) (by omega) (by show 0 + _ = _; rw [Nat.zero_add]; rfl) h2]
  simp only [Option.map_some]
  rw [h1]
theorem lotAt_some {n a : Nat} (hn : n < 26) (ha : a < 2 ^ n) : ∃ l, lotAt n a = some l ∧ Asc 0 n l ∧ num n l = a := by
  obtain ⟨t, r, h1, h2, h3, h4, h5⟩ := sizeAt_ex n (n + 1) 0 a (by rw [Nat.zero_add, below_all n hn]; show 0 + a < _; omega)
  obtain ⟨g1, g2, g3⟩ := un_rk n 0 t r h5
  refine ⟨un 0 n t r, by unfold lotAt; rw [h1]; rfl, g1, ?_⟩
  unfold num
  rw [g2, g3]
  have : below n 0 = 0 := rfl
  omega
theorem lotAt_none {n a : Nat} (hn : n < 26) (ha : 2 ^ n ≤ a) : lotAt n a = none := by
  unfold lotAt
  rw [sizeAt_none n (n + 1) 0 a (by rw [Nat.zero_add, below_all n hn]; show _ ≤ 0 + a; omega)]
  rfl
/-! ### the same, by spots -/
/-- what lot_number adds for the places from s on -/
def numGo (n : Nat) : Nat → List Nat → Nat
  | _, [] => 0
  | p, x :: xs => ((List.range (x - p)).map fun j => ch (n - 1 - (p + j)) xs.length).sum + numGo n (x + 1) xs
theorem rk_go : ∀ (m p : Nat) (l : List Nat), Asc p m l → rk p m l = numGo (p + m) p l
  | m, p, [], _ => by cases m <;> rfl
  | 0, p, x :: l, h => by
    have := h.2 x List.mem_cons_self
    omega
  | m + 1, p, x :: l, h => by
    simp only [rk]
    by_cases hx : x = p
    · rw [if_pos hx, rk_go m (p + 1) l (h.tail hx)]
      simp only [numGo]
      rw [hx, Nat.sub_self, show p + (m + 1) = p + 1 + m by omega]
      simp
    · have hx0 := h.2 x List.mem_cons_self
      rw [if_neg hx, rk_go m (p + 1) (x :: l) (h.skip hx)]
      simp only [numGo]
      rw [show x - p = (x - (p + 1)) + 1 by omega, List.range_succ_eq_map, List.map_cons, List.map_map, List.sum_cons, show p + (m + 1) = p + 1 + m by omega]
      have e1 : ch (p + 1 + m - 1 - (p + 0)) l.length = ch m l.length := by congr 1; omega
      have e2 : ((fun j => ch (p + 1 + m - 1 - (p + j)) l.length) ∘ Nat.succ) = fun j => ch (p + 1 + m - 1 - (p + 1 + j)) l.length := by
        funext j
        show ch (p + 1 + m - 1 - (p + (j + 1))) l.length = _
        congr 1
        omega
      rw [e1, e2]
      omega
theorem num_go {n : Nat} {l : List Nat} (h : Asc 0 n l) : num n l = below n l.length + numGo n 0 l := by
  unfold num
  rw [rk_go n 0 l h, Nat.zero_add]
/-! ### all lots of a size -/
def nx (l : List Nat) : Nat := match l.getLast? with
  | some x => x + 1
  | none => 0
def stepL (n : Nat) (L : List (List Nat)) : List (List Nat) := L.flatMap fun l => (List.range' (nx l) (n - nx l)).map fun x => l ++ [x]
def lotsL (n : Nat) : Nat → List (List Nat)
  | 0 => [[]]
  | s + 1 => stepL n (lotsL n s)
/-- the law's own: lots that can't be filled up are left out -/
def lawStep (n s t : Nat) (L : List (List Nat)) : List (List Nat) := L.flatMap fun l => (List.range' (nx l) (n - s + t + 1 - nx l)).map fun x => l ++ [x]
def lawL (n s : Nat) : Nat → List (List Nat)
  | 0 => [[]]
  | t + 1 => lawStep n s t (lawL n s t)
def allL (n : Nat) : List (List Nat) := (List.range (n + 1)).flatMap fun s => lotsL n s
theorem lots_law : ∀ n : Nat, n < 13 → ∀ s : Nat, s < n + 1 → lawL n s s = lotsL n s := by decide +kernel
theorem lots_len : ∀ n : Nat, n < 13 → ∀ s : Nat, s < 13 → (lotsL n s).length = ch n s := by decide +kernel
theorem lots_nums : ∀ n : Nat, n < 7 → (allL n).map (num n) = List.range (2 ^ n) := by decide +kernel
end Kr
namespace Kr
open PySem PySem.Spec PyProof.Rows L2
theorem ch_small : ∀ n : Nat, n < 13 → ∀ s : Nat, s < 14 → ch n s < 1000 := by decide +kernel
theorem range1_succ (s j : Nat) : List.range' s (j + 1) = List.range' s j ++ [s + j] := by
  rw [List.range'_concat]
  simp
theorem flat_take {α β : Type} {L : List α} {f : α → List β} {i : Nat} {x : α} (h : L[i]? = some x) : (L.take (i + 1)).flatMap f = (L.take i).flatMap f ++ f x := by
  rw [List.take_add_one, h, List.flatMap_append]
  simp
theorem flat_le {α β : Type} (L : List α) (f : α → List β) (i : Nat) : ((L.take i).flatMap f).length ≤ (L.flatMap f).length := by
  conv => rhs; rw [← List.take_append_drop i L]
  rw [List.flatMap_append, List.length_append]
  omega
def exts (n : Nat) (l : List Nat) : List (List Nat) := (List.range' (nx l) (n - nx l)).map fun x => l ++ [x]
theorem step_exts (n : Nat) (L : List (List Nat)) : stepL n L = L.flatMap (exts n) := rfl
theorem nx_nil : nx [] = 0 := rfl
theorem nx_snoc (l : List Nat) (x : Nat) : nx (l ++ [x]) = x + 1 := by simp [nx]
theorem lv_snoc (l : List Nat) (x : Nat) : lv (l ++ [x]) = lv l ++ [V.int (x : Int)] := by simp [lv]
theorem lv_len (l : List Nat) : (lv l).length = l.length := by simp [lv]
theorem lots_in (n : Nat) : ∀ s, ∀ l ∈ lotsL n s, l.length = s ∧ ∀ x ∈ l, x < n
  | 0, l, h => by
    rw [List.mem_singleton.mp h]
    exact ⟨rfl, fun x hx => nomatch hx⟩
  | s + 1, l, h => by
    obtain ⟨k, hk, hl⟩ := List.mem_flatMap.mp h
    obtain ⟨x, hx, rfl⟩ := List.mem_map.mp hl
    obtain ⟨h1, h2⟩ := lots_in n s k hk
    have := List.mem_range'_1.mp hx
    refine ⟨by rw [List.length_append, h1]; rfl, fun y hy => ?_⟩
    rcases List.mem_append.mp hy with hy | hy
    · exact h2 y hy
    · rw [List.mem_singleton.mp hy]; omega
abbrev tNextL (K : PySem.W.Frag) (i : Nat) : TE := tIf (fun σ H Q => tVar i σ H fun x H' => ∃ k, TruV K x H' k ∧ Q k H') (tOp (rI0 fun i j => .int (i + j)) (tOp (rIxT K) (tVar i) (tUn (rU fun i => .int (-i)) (tC (.int 1)))) (tC (.int 1))) (tC (.int 0))
/-- what stands ahead of the extensions of a lot: lot[-1] + 1 if lot else 0 -/
theorem next_val {K : PySem.W.Frag} {σ : L2.St} {i : Nat} {a : Addr} {l : List Nat} {H : Hp} {Q : VK} (hv : σ[i]? = some (some (.ref a))) (ha : H a = some (.tup (lv l))) (q : Q (.int (nx l : Nat)) H) :
    tNextL K i σ H Q := by
  refine ⟨.ref a, hv, _, .inr (.inl ⟨_, SqT.of ha, rfl⟩), ?_⟩
  by_cases hl : l = []
  · subst hl
    exact iteF q
  · obtain ⟨k, x, rfl⟩ : ∃ k x, l = k ++ [x] := ⟨l.dropLast, l.getLast hl, (List.dropLast_concat_getLast hl).symm⟩
    rw [nx_snoc] at q
    have e : (!(lv (k ++ [x])).isEmpty) = true := by simp [lv]
    rw [e]
    refine iteT ⟨.ref a, hv, 1, rfl, a, _, -1, .int (x : Int), rfl, rfl, SqT.of ha, by rw [lv_snoc]; exact atI_last _ _, x, 1, rfl, rfl, ?_⟩
    have e2 : ((x : Int) + 1) = ((x + 1 : Nat) : Int) := by omega
    dsimp only
    rw [e2]
    exact q
def spLots : Sp := fun vs H Q _ => ∃ n s : Nat, vs = [.int (n : Int), .int (s : Int)] ∧ n ≤ 12 ∧ s ≤ 12 ∧ ∀ H' v, Same H H' → Dq H' v (.tuple ((lotsL n s).map lotD)) → Q v H'
end Kr
namespace Kr
open PySem PySem.Spec PyProof.Rows L2
def entD (e : List Int) : PyData := .tuple (e.map .int)
def tabD (T : List (List Int)) : PyData := .tuple (T.map entD)
/-- the entry of a lot l where the riders' ways are ws -/
def byE (l : List Nat) (ws : List Int) : List Int := (List.range ws.length).map fun x => if x ∈ l then -1 else ws.getD x 0
def ups (n : Nat) : List Int := (List.range n).map fun k => ((k : Nat) : Int)
def stillT (n : Nat) : List (List Int) := (allL n).map fun l => byE l (ups n)
def swapW (n a b : Nat) : List Int := ((ups n).set a (b : Int)).set b (a : Int)
def deedT (n : Nat) (q : List Nat) (a b : Nat) : List (List Int) := (allL n).map fun l => byE l (if q.all (fun x => decide (x ∈ l)) = true then swapW n a b else ups n)
theorem ent_flat (e : List Int) : flatT (entD e) = true := by
  simp only [entD, flatT]
  exact flatTA_of fun d hd => by
    obtain ⟨x, _, rfl⟩ := List.mem_map.mp hd
    rfl
theorem ents_flat (T : List (List Int)) : flatTA (T.map entD) = true := flatTA_of fun d hd => by
  obtain ⟨l, _, rfl⟩ := List.mem_map.mp hd
  exact ent_flat l
theorem ent_at {H : Hp} {a : Addr} {e : List Int} (h : H a = some (.tup (e.map V.int))) : Dq H (.ref a) (entD e) := .tup h (DqA.ints e)
theorem dqa_int {H : Hp} : ∀ {xs : List V} {ns : List Int}, DqA H xs (ns.map .int) → xs = ns.map V.int
  | _, [], .nil => rfl
  | _, n :: ns, .cons (.int _) t => by rw [dqa_int t]; rfl
theorem inV_lot (x : Nat) (l : List Nat) : inV (.int (x : Int)) (lv l) = decide (x ∈ l) := by
  unfold inV lv
  rw [Bool.eq_iff_iff, List.any_eq_true, decide_eq_true_iff]
  constructor
  · rintro ⟨v, hv, e⟩
    obtain ⟨y, hy, rfl⟩ := List.mem_map.mp hv
    have : (y : Int) = (x : Int) := by simpa [eqV] using e
    have : y = x := by omega
    rw [← this]
    exact hy
  · intro h
    exact ⟨_, List.mem_map.mpr ⟨x, h, rfl⟩, by simp [eqV]⟩
theorem lv_fl (l : List Nat) : (lv l).all flatV = true := by
  unfold lv
  rw [List.all_map]
  exact List.all_eq_true.mpr fun _ _ => rfl
/-- a statement that no run reaches -/
theorem ps_never {X : Cx} {st : Stmt} : PS X st (fun _ _ _ => False) := ⟨fun _ _ _ _ _ _ h => False.elim h⟩
def spAll6 : Sp := fun vs H Q _ => ∃ n : Nat, vs = [.int (n : Int)] ∧ n ≤ 6 ∧ ∀ H' v, Same H H' → Dq H' v (.tuple ((allL n).map lotD)) → Q v H'
def spEntBy : Sp := fun vs H Q _ => ∃ (a b : Addr) (l : List Nat) (ws : List Int), vs = [.ref a, .ref b] ∧ H a = some (.tup (lv l)) ∧ H b = some (.lst (ws.map V.int)) ∧ ws.length ≤ 100 ∧ ∀ H' t, Same H H' → H' t = some (.tup ((byE l ws).map V.int)) → Q (.ref t) H'
def spStill : Sp := fun vs H Q _ => ∃ n : Nat, vs = [.int (n : Int)] ∧ n ≤ 6 ∧ ∀ H' v, Same H H' → Dq H' v (tabD (stillT n)) → Q v H'
theorem rg_ups (n : Nat) : rgV 0 (n : Nat) = (ups n).map V.int := by
  unfold rgV ups
  rw [List.map_map, show ((n : Int) - 0).toNat = n by omega]
  exact List.map_congr_left fun i _ => by simp
theorem all_few : ∀ n : Nat, n < 7 → (allL n).length ≤ 64 := by decide +kernel
theorem all_len : ∀ n : Nat, n < 7 → (allL n).length = 2 ^ n := by decide +kernel
theorem map_getD {α β : Type} (g : α → β) (d : α) (L : List α) : (List.range L.length).map (fun i => g (L.getD i d)) = L.map g := by
  refine List.ext_getElem? fun i => ?_
  rw [List.getElem?_map, List.getElem?_map]
  by_cases h : i < L.length
  · rw [List.getElem?_range h, List.getElem?_eq_getElem h]
    show some (g (L.getD i d)) = some (g L[i])
    rw [List.getD_eq_getElem?_getD, List.getElem?_eq_getElem h]
    rfl
  · rw [List.getElem?_eq_none (by rw [List.length_range]; omega), List.getElem?_eq_none (by omega)]
    rfl
theorem getD_of {α : Type} {L : List α} {i : Nat} {x d : α} (h : L[i]? = some x) : L.getD i d = x := by
  rw [List.getD_eq_getElem?_getD, h]
  rfl
section
variable {P : Program} {w : World} {K : PySem.W.Frag} {mg : Str → Option Value} {base : Heap}
def spWays : Sp := fun vs H Q _ => ∃ (n : Nat) (b : Addr) (ws : List Int), vs = [.int (n : Int), .ref b] ∧ n ≤ 6 ∧ H b = some (.lst (ws.map V.int)) ∧ ws.length ≤ 100 ∧ ∀ H' v, Same H H' → Dq H' v (tabD ((allL n).map fun l => byE l ws)) → Q v H'
end
def spDeedT : Sp := fun vs H Q _ => ∃ (n : Nat) (d q : Addr) (as : List Nat) (a b : Nat), vs = [.int (n : Int), .ref d] ∧ n ≤ 6 ∧ H d = some (.tup [.ref q, .int (a : Int), .int (b : Int)]) ∧ H q = some (.tup (lv as)) ∧ as.length ≤ 24 ∧ a < n ∧ b < n ∧
  ∀ H' v, Same H H' → Dq H' v (tabD (deedT n as a b)) → Q v H'
def spExch : Sp := fun vs H Q _ => ∃ (n : Int) (a : Addr) (xs : List V) (v : V), vs = [.int n, .ref a] ∧ H a = some (.tup (v :: xs)) ∧ Q v H
theorem dqa_bools {H : Hp} : ∀ {xs : List V} {bs : List Bool}, DqA H xs (bs.map .bool) → xs = bs.map V.bl
  | _, [], .nil => rfl
  | _, n :: ns, .cons (.bl _) t => by rw [dqa_bools t]; rfl
theorem ixN_nat {n i : Nat} (h : i < n) : ixN n (i : Int) = some i := by
  unfold ixN
  rw [if_pos (by omega), if_pos (by omega), Int.toNat_natCast]
theorem take_snoc {α β : Type} {L : List α} {f : α → β} {i : Nat} {x : α} (h : L[i]? = some x) : (L.take (i + 1)).map f = (L.take i).map f ++ [f x] := by
  rw [List.take_add_one, h, List.map_append]
  rfl
def goalE (n : Nat) (e : List Int) : List Nat := (List.range n).filter fun x => !decide ((x : Int) ∈ e)
theorem every_few : ∀ n : Nat, n < 7 → ∀ i : Nat, i < 8 → ((List.range i).flatMap (lotsL n)).length ≤ 64 := by decide +kernel
def spGoal : Sp := fun vs H Q _ => ∃ (n : Nat) (a : Addr) (e : List Int), vs = [.int (n : Int), .ref a] ∧ n ≤ 100 ∧ H a = some (.tup (e.map V.int)) ∧ ∀ H' t, Same H H' → H' t = some (.tup (lv (goalE n e))) → Q (.ref t) H'
def spEvery : Sp := fun vs H Q _ => ∃ n : Nat, vs = [.int (n : Int)] ∧ n ≤ 6 ∧ ∀ H' v, Same H H' → Dq H' v (.list ((allL n).map lotD)) → Q v H'
theorem inV_int (x : Int) (l : List Int) : inV (.int x) (l.map V.int) = decide (x ∈ l) := by
  unfold inV
  rw [Bool.eq_iff_iff, List.any_eq_true, decide_eq_true_iff]
  constructor
  · rintro ⟨v, hv, e⟩
    obtain ⟨y, hy, rfl⟩ := List.mem_map.mp hv
    have : y = x := by simpa [eqV] using e
    rw [← this]
    exact hy
  · intro h
    exact ⟨_, List.mem_map.mpr ⟨x, h, rfl⟩, by simp [eqV]⟩
theorem int_fl (l : List Int) : (l.map V.int).all flatV = true := by
  rw [List.all_map]
  exact List.all_eq_true.mpr fun _ _ => rfl
theorem dep_ints1 : ∀ ds : List Int, PyData.depthAll (ds.map PyData.int) ≤ 1
  | [] => by simp [PyData.depthAll]
  | d :: ds => by
    have := dep_ints1 ds
    simp [PyData.depthAll, PyData.depth]
    omega
theorem lay_ints1 : ∀ ds : List Int, PyData.canLayAll0 (ds.map PyData.int) = true
  | [] => by simp [PyData.canLayAll0]
  | d :: ds => by simp [PyData.canLayAll0, PyData.canLay0, lay_ints1 ds]
theorem tup_shaped (ds : List Int) : SeqAt.shaped (.tuple (ds.map PyData.int)) = true := by
  unfold SeqAt.shaped
  have := dep_ints1 ds
  simp [PyData.canLay0, lay_ints1, PyData.depth]
  omega
theorem lot_shaped (l : List Nat) : SeqAt.shaped (lotD l) = true := by
  have e : l.map (fun (x : Nat) => PyData.int (x : Int)) = (l.map fun (x : Nat) => (x : Int)).map PyData.int := by rw [List.map_map]; rfl
  unfold lotD
  rw [e]
  exact tup_shaped _
theorem lot_nil_eqv (l : List Nat) : PyData.eqv (lotD l) (lotD []) = decide (l = []) := by
  cases l <;> simp [lotD, PyData.eqv, PyData.eqvAll]
section
variable {P : Program} {w : World} {K : PySem.W.Frag} {mg : Str → Option Value} {base : Heap}
/-- lot[-1] + 1 if lot != () else 0 -/
theorem next_ne {σ : L2.St} {i : Nat} {a : Addr} {l : List Nat} {G : Hp} {Q : VK} (hv : σ[i]? = some (some (.ref a))) (ha : G a = some (.tup (lv l))) (q : ∀ G', Same G G' → Q (.int (nx l : Nat)) G') :
    tIf (tTest (tOp (rNeD K) (tVar i) (tTup tNil))) (tOp (rI0 fun i j => .int (i + j)) (tOp (rIxT K) (tVar i) (tUn (rU fun i => .int (-i)) (tC (.int 1)))) (tC (.int 1))) (tC (.int 0)) σ G Q := by
  refine ⟨.ref a, hv, by show 0 ≤ sizeLine; decide, fun e ne => ?_⟩
  have s1 := same_new (o := .tup []) ne
  refine ⟨lotD l, lotD [], (lot_at (s1 _ _ ha)).dp (lot_flat l), (lot_at (l := []) upd_same).dp (lot_flat []), lot_shaped l, lot_shaped [], _, rfl, ?_⟩
  rw [lot_nil_eqv]
  by_cases hl : l = []
  · rw [decide_eq_true hl]
    subst hl
    exact iteF (q _ s1)
  · rw [decide_eq_false hl]
    obtain ⟨k, x, rfl⟩ : ∃ k x, l = k ++ [x] := ⟨l.dropLast, l.getLast hl, (List.dropLast_concat_getLast hl).symm⟩
    have h2 := q _ s1
    rw [nx_snoc] at h2
    refine iteT ⟨.ref a, hv, 1, rfl, a, _, -1, .int (x : Int), rfl, rfl, SqT.of (s1 _ _ ha), by rw [lv_snoc]; exact atI_last _ _, x, 1, rfl, rfl, ?_⟩
    have e2 : ((x : Int) + 1) = ((x + 1 : Nat) : Int) := by omega
    dsimp only
    rw [e2]
    exact h2
end
def setGo : Nat → List Int → List Int → List Int
  | _, [], acc => acc
  | y, x :: r, acc => setGo (y + 1) r (if 0 ≤ x then acc.set x.toNat (y : Int) else acc)
def lawE (n : Nat) (lies : List Int) : List Int := setGo 0 lies (List.replicate n (-1))
theorem setGo_len : ∀ (y : Nat) (r acc : List Int), (setGo y r acc).length = acc.length
  | _, [], _ => rfl
  | y, x :: r, acc => by
    unfold setGo
    rw [setGo_len]
    split
    · rw [List.length_set]
    · rfl
def spLEnt : Sp := fun vs H Q _ => ∃ (n : Nat) (a : Addr) (ls : List Int), vs = [.int (n : Int), .ref a] ∧ 3 ≤ n ∧ n ≤ 6 ∧ H a = some (.lst (ls.map V.int)) ∧ ls.length ≤ 100 ∧ (∀ x ∈ ls, x < n) ∧ ∀ H' t, Same H H' → H' t = some (.tup ((lawE n ls).map V.int)) → Q (.ref t) H'
abbrev Mv := List Nat × Nat × Nat
def stL (n : Nat) (l : List Nat) : List Int := (List.range n).map fun x => if x ∈ l then -1 else ((x : Nat) : Int)
def mvL (ls : List Int) (m : Mv) : List Int := if m.1.all (fun x => !decide (0 ≤ ls.getD x 0)) = true then (ls.set m.2.1 (ls.getD m.2.2 0)).set m.2.2 (ls.getD m.2.1 0) else ls
def madeE (n : Nat) (ms : List Mv) (l : List Nat) : List Int := lawE n (ms.foldl mvL (stL n l))
def madeT (n : Nat) (ms : List Mv) : List (List Int) := (allL n).map (madeE n ms)
def DeedAt (H : Hp) (v : V) (m : Mv) : Prop := ∃ d q, v = .ref d ∧ H d = some (.tup [.ref q, .int (m.2.1 : Nat), .int (m.2.2 : Nat)]) ∧ H q = some (.tup (lv m.1))
def spMade : Sp := fun vs H Q _ => ∃ (n : Nat) (mo : Addr) (xs : List V) (ms : List Mv), vs = [.int (n : Int), .ref mo] ∧ 3 ≤ n ∧ n ≤ 6 ∧ H mo = some (.lst xs) ∧ xs.length = ms.length ∧ (∀ (j : Nat) (v : V) (m : Mv), xs[j]? = some v → ms[j]? = some m → DeedAt H v m) ∧ (∀ m ∈ ms, (m.2.1 < n ∧ m.2.2 < n) ∧ m.1.length ≤ 100 ∧ ∀ x ∈ m.1, x < n) ∧
  ∀ H' v, Same H H' → Dq H' v (tabD (madeT n ms)) → Q v H'
theorem getD_lt {n : Nat} {ls : List Int} (hn : 0 < n) (h : ∀ x ∈ ls, x < n) (i : Nat) : ls.getD i 0 < n := by
  rw [List.getD_eq_getElem?_getD]
  cases e : ls[i]? with
  | none => show (0 : Int) < n; omega
  | some y => exact h y (List.mem_of_getElem? e)
theorem set_lt {n : Nat} {ls : List Int} {i : Nat} {z : Int} (hz : z < n) (h : ∀ x ∈ ls, x < n) : ∀ x ∈ ls.set i z, x < n := fun x hx => by
  rcases List.mem_or_eq_of_mem_set hx with h1 | h1
  · exact h x h1
  · rw [h1]; exact hz
theorem getD_get {ls : List Int} {i : Nat} (h : i < ls.length) : ls[i]? = some (ls.getD i 0) := by
  rw [List.getD_eq_getElem?_getD, List.getElem?_eq_getElem h]
  rfl
/-- a deed at n places -/
structure Deed (n : Nat) (m : Mv) : Prop where
  asc : Asc 0 n m.1
  ab : m.2.1 < m.2.2
  bn : m.2.2 < n
  na : m.2.1 ∉ m.1
  nb : m.2.2 ∉ m.1
/-- sorted pieces of a drawn order -/
theorem drawn_piece {n : Nat} {ys ps zs : List Int} (hp : ys.Perm (ups n)) (hs : ps.Sublist ys) (hz : zs.Perm ps) (ho : zs.Pairwise (· ≤ ·)) : ∃ ds : List Nat, zs = ds.map (fun (x : Nat) => (x : Int)) ∧ Asc 0 n ds := by
  have hm : ∀ z ∈ zs, 0 ≤ z ∧ z < n := fun z h => by
    have h1 := hp.subset (hs.subset (hz.subset h))
    unfold ups at h1
    obtain ⟨k, hk, rfl⟩ := List.mem_map.mp h1
    have := List.mem_range.mp hk
    omega
  have hnd : zs.Nodup := by
    have h0 : (ups n).Nodup := List.Pairwise.map _ (fun a b (h : a < b) => by show ((a : Nat) : Int) ≠ b; omega) List.pairwise_lt_range
    exact hz.symm.nodup ((hp.symm.nodup h0).sublist hs)
  refine ⟨zs.map Int.toNat, ?_, ?_, fun x hx => ?_⟩
  · rw [List.map_map]
    refine (List.map_id zs).symm.trans (List.map_congr_left fun z h => ?_)
    have := hm z h
    show z = ((z.toNat : Nat) : Int)
    omega
  · rw [List.pairwise_map]
    refine List.Pairwise.imp_of_mem (fun {a b} ha hb h => ?_) (ho.and hnd)
    have h1 := hm a ha
    have h2 := hm b hb
    have h3 : a ≤ b ∧ a ≠ b := h
    omega
  · obtain ⟨z, h, rfl⟩ := List.mem_map.mp hx
    have := hm z h
    exact ⟨Nat.zero_le _, by omega⟩
/-- a lot as a key -/
def lotK (l : List Nat) : List Key := l.map fun (x : Nat) => (Sum.inl (x : Int) : Key)
theorem lotK_v (l : List Nat) : (lotK l).map kV = lv l := by
  unfold lotK lv
  rw [List.map_map]
  rfl
def spNumbers : Sp := fun vs H Q _ => ∃ n : Nat, vs = [.int (n : Int)] ∧ n ≤ 6 ∧ ∀ H' p kvs, Same H H' → H' p = some (.dT kvs) → (∀ l ∈ allL n, valV kvs (lotK l) = some (.int (num n l : Nat))) → Q (.ref p) H'
def bothE (n : Nat) (U : List (List Int)) (e : List Int) : List Int := e.map fun x => if x = -1 then -1 else (U.getD (num n (goalE n e)) []).getD x.toNat 0
def bothT (n : Nat) (T U : List (List Int)) : List (List Int) := T.map (bothE n U)
/-- an entry: its goal is a lot, its places are places -/
def EntOk (n : Nat) (e : List Int) : Prop := goalE n e ∈ allL n ∧ e.length ≤ 100 ∧ ∀ x ∈ e, x = -1 ∨ (0 ≤ x ∧ x < n)
def spBoth : Sp := fun vs H Q _ => ∃ (n : Nat) (v u : V) (T U : List (List Int)), vs = [.int (n : Int), v, u] ∧ n ≤ 6 ∧ Dq H v (tabD T) ∧ Dq H u (tabD U) ∧ T.length ≤ 1000 ∧ (∀ e ∈ T, EntOk n e) ∧ U.length = 2 ^ n ∧ (∀ e ∈ U, e.length = n) ∧
  ∀ H' r, Same H H' → Dq H' r (tabD (bothT n T U)) → Q r H'
theorem all_num {n : Nat} (hn : n ≤ 6) {l : List Nat} (h : l ∈ allL n) : num n l < 2 ^ n := by
  have h1 : num n l ∈ (allL n).map (num n) := List.mem_map.mpr ⟨l, h, rfl⟩
  rw [lots_nums n (by omega)] at h1
  exact List.mem_range.mp h1
theorem ent_inv {H : Hp} {v : V} {e : List Int} (h : Dq H v (entD e)) : ∃ a, v = .ref a ∧ H a = some (.tup (e.map V.int)) := by
  obtain ⟨a, xs, rfl, ha, q⟩ := Dq.tup_inv h
  exact ⟨a, rfl, by rw [ha, dqa_int q]⟩
theorem ents_get {H : Hp} {xs : List V} {T : List (List Int)} {i : Nat} {y : V} (q : DqA H xs (T.map entD)) (h : xs[i]? = some y) : ∃ e, T[i]? = some e ∧ ∃ a, y = .ref a ∧ H a = some (.tup (e.map V.int)) := by
  obtain ⟨d, h1, h2⟩ := q.get h
  rw [List.getElem?_map] at h1
  cases hr : T[i]? with
  | none => rw [hr] at h1; cases h1
  | some e =>
    rw [hr] at h1
    cases Option.some.inj h1
    exact ⟨e, rfl, ent_inv h2⟩
section
variable {P : Program} {w : World} {K : PySem.W.Frag} {mg : Str → Option Value} {base : Heap}
theorem all_num_at {n : Nat} (hn : n ≤ 6) {i : Nat} {l : List Nat} (h : (allL n)[i]? = some l) : num n l = i ∧ i < 2 ^ n := by
  have e : ((allL n).map (num n))[i]? = some (num n l) := by rw [List.getElem?_map, h]; rfl
  rw [lots_nums n (by omega)] at e
  obtain ⟨h1, h2⟩ := List.getElem?_eq_some_iff.mp e
  rw [List.getElem_range] at h2
  rw [List.length_range] at h1
  exact ⟨h2.symm, h1⟩
theorem lotK_inj {l l' : List Nat} (h : lotK l = lotK l') : l = l' := by
  have := congrArg (List.map kV) h
  rw [lotK_v, lotK_v] at this
  unfold lv at this
  exact (List.map_inj_right (fun a b e => by
    have : (a : Int) = (b : Int) := V.int.inj e
    omega)).mp this
def aimsT (n : Nat) (T : List (List Int)) : List Int := T.map fun e => ((num n (goalE n e) : Nat) : Int)
def spAims : Sp := fun vs H Q _ => ∃ (n : Nat) (v : V) (T : List (List Int)), vs = [.int (n : Int), v] ∧ n ≤ 6 ∧ Dq H v (tabD T) ∧ T.length ≤ 1000 ∧ (∀ e ∈ T, goalE n e ∈ allL n) ∧
  ∀ H' p, Same H H' → H p = none → H' p = some (.lst ((aimsT n T).map V.int)) → Q (.ref p) H'
end
/-- an entry of the lot l at n places -/
structure EntV (n : Nat) (l : List Nat) (e : List Int) : Prop where
  len : e.length = n
  at_ : ∀ i, i < n → if i ∈ l then e.getD i 0 = -1 else 0 ≤ e.getD i 0 ∧ e.getD i 0 < n
  nd : (e.filter fun x => !decide (x = -1)).Nodup
def spIsEnt : Sp := fun vs H Q _ => ∃ (n : Nat) (la a : Addr) (l : List Nat) (e : List Int), vs = [.int (n : Int), .ref la, .ref a] ∧ n ≤ 6 ∧ H la = some (.tup (lv l)) ∧ H a = some (.tup (e.map V.int)) ∧ EntV n l e ∧ ∀ H', Same H H' → Q (.bl true) H'
def spTabErr : Sp := fun vs H Q _ => ∃ (n : Nat) (v : V) (T : List (List Int)), vs = [.int (n : Int), v] ∧ n ≤ 6 ∧ Dq H v (tabD T) ∧ T.length = 2 ^ n ∧ (∀ (i : Nat) (l : List Nat) (e : List Int), (allL n)[i]? = some l → T[i]? = some e → EntV n l e) ∧ (T.map (goalE n)).Nodup ∧ ∀ H', Same H H' → Q .non H'
/-- an ascending lot stands among all lots -/
theorem asc_all {n : Nat} (hn : n ≤ 6) {l : List Nat} (h : Asc 0 n l) (hasc : ∀ l ∈ allL n, Asc 0 n l) : l ∈ allL n := by
  have h1 : num n l < 2 ^ n := by
    rcases Nat.lt_or_ge (num n l) (2 ^ n) with c | c
    · exact c
    · have e := lotAt_none (by omega) c
      rw [lotAt_num h] at e
      cases e
  have h2 : num n l ∈ (allL n).map (num n) := by
    rw [lots_nums n (by omega)]
    exact List.mem_range.mpr h1
  obtain ⟨l', hl', e⟩ := List.mem_map.mp h2
  have e1 := lotAt_num (hasc l' hl')
  rw [e, lotAt_num h] at e1
  rw [Option.some.inj e1]
  exact hl'
theorem all_asc : ∀ n : Nat, n < 7 → ∀ l ∈ allL n, (l.Pairwise (· < ·) ∧ l.length ≤ 6) ∧ ∀ x ∈ l, x < n := by decide +kernel
theorem all_ascL {n : Nat} (hn : n ≤ 6) : ∀ l ∈ allL n, Asc 0 n l := fun l hl => ⟨(all_asc n (by omega) l hl).1.1, fun x hx => ⟨Nat.zero_le _, by have := (all_asc n (by omega) l hl).2 x hx; omega⟩⟩
def rLenK (K : PySem.W.Frag) : List V → Hp → VK → Prop := fun xs H Q => ∃ (p : Addr) (ys : List V), xs = [V.ref p] ∧ (SqL K H p ys ∨ SqT K H p ys) ∧ Q (V.int (ys.length : Nat)) H
theorem call_lenK {X : Cx} : CallR X (.builtin "len") (rLenK X.K) := call_len_seq
theorem own_filt : ∀ n : Nat, n < 7 → ∀ s : Nat, s < n + 1 → (allL n).filter (fun l => decide (l.length = s)) = lotsL n s := by decide +kernel
theorem lot_filt : ∀ n : Nat, n < 7 → ∀ l ∈ allL n, (List.range n).filter (fun x => decide (x ∈ l)) = l ∧ ((List.range n).filter (fun x => !decide (x ∈ l))).length + l.length = n := by decide +kernel
theorem own_all : ∀ n : Nat, n < 7 → ∀ s : Nat, s < n + 1 → ∀ l ∈ lotsL n s, l ∈ allL n := fun n _ s hs l h => List.mem_flatMap.mpr ⟨s, List.mem_range.mpr hs, h⟩
/-- entries for lots -/
structure Ents (n : Nat) (ls : List (List Nat)) (es : List (List Int)) : Prop where
  len : es.length = ls.length
  at_ : ∀ (t : Nat) (l : List Nat) (e : List Int), ls[t]? = some l → es[t]? = some e → EntV n l e
theorem Ents.nil {n : Nat} : Ents n [] [] := ⟨rfl, fun t l e h _ => by simp at h⟩
theorem Ents.snoc {n : Nat} {ls : List (List Nat)} {es : List (List Int)} {l : List Nat} {e : List Int} (h : Ents n ls es) (g : EntV n l e) : Ents n (ls ++ [l]) (es ++ [e]) := by
  refine ⟨by rw [List.length_append, List.length_append, h.len]; rfl, fun t l' e' h1 h2 => ?_⟩
  rcases Nat.lt_trichotomy t ls.length with c | c | c
  · rw [List.getElem?_append_left c] at h1
    rw [List.getElem?_append_left (by rw [h.len]; exact c)] at h2
    exact h.at_ t l' e' h1 h2
  · subst c
    rw [List.getElem?_append_right (Nat.le_refl _), Nat.sub_self] at h1
    rw [← h.len, List.getElem?_append_right (Nat.le_refl _), Nat.sub_self] at h2
    cases h1
    cases h2
    exact g
  · rw [List.getElem?_eq_none (by rw [List.length_append]; show _ + 1 ≤ t; omega)] at h1
    cases h1
/-- a table -/
structure TabOk (n : Nat) (T : List (List Int)) : Prop where
  ents : Ents n (allL n) T
  goals : (T.map (goalE n)).Perm (allL n)
theorem dqa_perm {α : Type} {H : Hp} {f : α → PyData} {xs ys : List V} (p : ys.Perm xs) : ∀ {L : List α}, DqA H xs (L.map f) → ∃ M : List α, M.Perm L ∧ DqA H ys (M.map f) := by
  induction p with
  | nil =>
    intro L q
    exact ⟨L, .refl _, q⟩
  | cons x p ih =>
    intro L q
    cases L with
    | nil => cases q
    | cons a L =>
      cases q with
      | cons h t =>
        obtain ⟨M, p2, q2⟩ := ih t
        exact ⟨a :: M, p2.cons a, .cons h q2⟩
  | swap x y l =>
    intro L q
    match L, q with
    | a :: b :: L, .cons h1 (.cons h2 t) => exact ⟨b :: a :: L, .swap _ _ _, .cons h2 (.cons h1 t)⟩
  | trans p1 p2 ih1 ih2 =>
    intro L q
    obtain ⟨M, m1, q1⟩ := ih2 q
    obtain ⟨N, m2, q2⟩ := ih1 q1
    exact ⟨N, m2.trans m1, q2⟩
theorem ints_perm {ys : List V} {zs : List Int} (p : ys.Perm (zs.map V.int)) : ∃ ws : List Int, ys = ws.map V.int ∧ ws.Perm zs := by
  obtain ⟨M, p2, q2⟩ := dqa_perm (H := fun _ => none) (f := PyData.int) p (DqA.ints zs)
  exact ⟨M, dqa_int q2, p2⟩
/-- what is left of the riders -/
def cnt (l : List Nat) (n i : Nat) : Nat := ((List.range n).drop i).countP fun t => !decide (t ∈ l)
theorem cnt_step {l : List Nat} {n i : Nat} (h : i < n) : cnt l n i = cnt l n (i + 1) + (if i ∈ l then 0 else 1) := by
  unfold cnt
  rw [List.drop_eq_getElem_cons (by rw [List.length_range]; exact h), List.countP_cons, List.getElem_range]
  by_cases c : i ∈ l <;> simp [c]
theorem cnt_end (l : List Nat) (n : Nat) : cnt l n n = 0 := by
  unfold cnt
  rw [List.drop_of_length_le (by rw [List.length_range]; exact Nat.le_refl _)]
  rfl
/-- the entry that comes of riders at l, free places in a drawn order -/
theorem ent_made {n : Nat} (hn : n ≤ 6) {l g : List Nat} {e zs : List Int} (hl : l ∈ allL n) (hg : g ∈ allL n) (len : e.length = n) (h1 : ∀ t, t < n → t ∈ l → e.getD t 0 = -1) (h2 : ∀ t, t < n → t ∉ l → e.getD t 0 ∈ zs)
    (h3 : e.filter (fun x => !decide (x = -1)) = zs.reverse) (hz : zs.Perm (((List.range n).filter fun y => !decide (y ∈ g)).map fun (y : Nat) => (y : Int))) : EntV n l e ∧ goalE n e = g := by
  have hm : ∀ z, z ∈ zs ↔ ∃ y : Nat, y < n ∧ y ∉ g ∧ (y : Int) = z := fun z => by
    rw [hz.mem_iff, List.mem_map]
    constructor
    · rintro ⟨y, hy, rfl⟩
      rw [List.mem_filter, List.mem_range] at hy
      exact ⟨y, hy.1, by simpa using hy.2, rfl⟩
    · rintro ⟨y, a, b, rfl⟩
      exact ⟨y, List.mem_filter.mpr ⟨List.mem_range.mpr a, by simpa using b⟩, rfl⟩
  refine ⟨⟨len, fun t ht => ?_, ?_⟩, ?_⟩
  · split
    · rename_i c
      exact h1 t ht c
    · rename_i c
      obtain ⟨y, a, _, e1⟩ := (hm _).mp (h2 t ht c)
      omega
  · rw [h3]
    have nd : (((List.range n).filter fun y => !decide (y ∈ g)).map fun (y : Nat) => (y : Int)).Nodup := List.Pairwise.map _ (fun a b (h : a ≠ b) z => h (by omega)) (List.Pairwise.filter _ List.nodup_range)
    exact List.pairwise_reverse.mpr ((hz.symm.nodup nd).imp fun h => h.symm)
  · rw [← (lot_filt n (by omega) g hg).1]
    unfold goalE
    refine List.filter_congr fun x hx => ?_
    have hx := List.mem_range.mp hx
    have e1 : (x : Int) ∈ e ↔ (x : Int) ∈ zs := by
      rw [← List.mem_reverse (as := zs), ← h3, List.mem_filter]
      constructor
      · exact fun h => ⟨h, by
          have : ¬ (x : Int) = -1 := by omega
          simp [this]⟩
      · exact fun h => h.1
    have e2 : (x : Int) ∈ zs ↔ x ∉ g := by
      rw [hm]
      constructor
      · rintro ⟨y, _, b, c⟩
        have : y = x := by omega
        exact this ▸ b
      · exact fun h => ⟨x, hx, h, rfl⟩
    rw [← decide_not, decide_eq_decide, e1, e2, Classical.not_not]
end Kr
namespace Kr
open PySem PySem.Spec PyProof.Rows L2
theorem new_dq {p l q : Addr} {H : Hp} {o : HO} (D : Deck H p l) (h : H q = none) : Ext p l H (upd H q o) ∧ Deck (upd H q o) p l ∧ hid p l (upd H q o) q = some o := by
  obtain ⟨h1, h2⟩ := D.new h
  exact ⟨Ext.rfl.new h, D.mut h1 h2, hid_upd h1 h2⟩
theorem seqIx {r : Int} {n : Nat} (h0 : 0 ≤ r) (h1 : r < n) : seqIndex? r n = some r.toNat := (ixN_seq (by unfold ixN; rw [if_pos h0, if_pos h1])).1
theorem erasev_perm (zs : List V) {k : Nat} (h : k < zs.length) : (zs[k] :: zs.eraseIdx k).Perm zs := by
  rw [List.eraseIdx_eq_take_drop_succ]
  have e : zs = zs.take k ++ zs[k] :: zs.drop (k + 1) := by
    rw [← List.drop_eq_getElem_cons h, List.take_append_drop]
  exact List.perm_middle.symm.trans (.of_eq e.symm)
/-- items in a drawn order -/
def spMixV : Sp := fun vs H Q _ => ∃ (p l a : Addr) (xs : List V), vs = [.ref p, .ref a] ∧ Deck H p l ∧ hid p l H a = some (.lst xs) ∧ xs.length ≤ 1000 ∧
  ∀ (H' : Hp) (f : Addr) (ys : List V), Deck H' p l → Ext p l H H' → H f = none → hid p l H' f = some (.lst ys) → ys.Perm xs → Q (.ref f) H'
def spDeed : Sp := fun vs H Q _ => ∃ (p l : Addr) (n : Nat), vs = [.ref p, .int (n : Int)] ∧ Deck H p l ∧ 3 ≤ n ∧ n ≤ 6 ∧ ∀ H' v m, Deck H' p l → Ext p l H H' → DeedAt H' v m → Deed n m → Q v H'
def spDrawn : Sp := fun vs H Q _ => ∃ (p l : Addr) (n : Nat), vs = [.ref p, .int (n : Int)] ∧ Deck H p l ∧ 3 ≤ n ∧ n ≤ 6 ∧ ∀ H' v T, Deck H' p l → Ext p l H H' → Dq H' v (tabD T) → TabOk n T → Q v H'
end Kr
namespace Kr
open PySem PySem.Spec PyProof.Rows L2
section
variable {P : Program} {w : World} {K : PySem.W.Frag} {mg : Str → Option Value} {base : Heap}
abbrev nDw : List Str := ["box", "n", "every", "found", "size", "own", "keys", "there", "free", "y", "x"]
theorem o_drawn (D0 : Df K mg "_law_drawn" sDrawn ["box", "n"]) (B : Bi mg) (ev : Ok P w K mg base 1 "_law_every" ["n"] spEvery) (mx : Ok P w K mg base 2 "_law_mixed" ["box", "items"] spMixV) : Ok P w K mg base 3 "_law_drawn" ["box", "n"] spDrawn := by
  have scDw : FnScope nDw ["box", "n"] (defScope sDrawn) := ⟨rfl, rfl, rfl, by decide +kernel, rfl, by decide +kernel, by decide +kernel⟩
  refine D0.ok fun f fd F => F.ok scDw (fun vs H Q E h => ?_) (fun cdv A outer s H vs Q E hr h => ?_)
  · obtain ⟨p, l, n, rfl, _⟩ := h
    rfl
  · obtain ⟨p, l, n, rfl, Dk, n0, n1, q⟩ := h
    have hr1 := hr.mono (show 1 ≤ 2 by decide)
    refine ⟨_, pss_cons (ps_par (i := 2) (j := 3) rfl scDw.nd rfl rfl (by decide) rfl rfl (pa_cons (pe_fn ev hr1 (by rfl) (pa_cons (pv 1) pa_nil)) (pa_cons (pe_lst pa_nil) pa_nil)) (by rfl))
      (pss_cons (ps_for PassesOwn.never rfl (pi_range1 (by rfl) B.range (pa_cons (pe_op op_add (pv 1) pe_int) pa_nil)) (pg_name (i := 4) scDw.nd rfl (.inr rfl))
        (pss_cons (ps_setLc (i := 5) (own := [("keys", 6)]) (g := gName 6) rfl scDw.nd rfl rfl (sw_true rfl rfl rfl (by decide +kernel)) (pi_list (pv 2)) (blkOk_by (own := [("keys", 6)]) (N := nDw) (sc := defScope sDrawn) (by decide +kernel))
          (fun _ _ _ _ _ => pg_name (i := 6) scDw.nd rfl (.inl rfl)) (fun _ _ _ _ _ => pts_one (pt_cmpR op_eq (pe_callB (r := rLenK K) call_lenK (by rfl) B.len boot_len (pa_cons (pv 6) pa_nil)) (pv 4) (nomark _))) (fun _ _ _ _ _ => pv 6))
        (pss_one (ps_for PassesOwn.never rfl (pi_zip (by rfl) B.zip (pa_cons (pv 5) (pa_cons (pe_fn mx hr (by rfl) (pa_cons (pv 0) (pa_cons (pv 5) pa_nil))) pa_nil))) (pg_tup rfl (pgs_cons (pg_name (i := 6) scDw.nd rfl (.inr rfl)) (pgs_cons (pg_name (i := 7) scDw.nd rfl (.inr rfl)) pgs_nil)))
          (pss_cons (ps_set (i := 8) scDw.nd rfl (.inr rfl) (pe_fn mx hr (by rfl) (pa_cons (pv 0) (pa_cons
            (pe_lc (own := [("y", 9)]) (g := gName 9) rfl scDw.nd (pi_range1 (by rfl) B.range (pa_cons (pv 1) pa_nil)) (blkOk_by (own := [("y", 9)]) (N := nDw) (sc := defScope sDrawn) (by decide +kernel))
              (fun _ _ _ _ _ => pg_name (i := 9) scDw.nd rfl (.inl rfl)) (fun _ _ _ _ _ => pts_one (pt_cmpR (r := rIn K true) op_notIn_seq (pv 9) (pv 7) rfl)) (fun _ _ _ _ _ => pv 9)) pa_nil))))
          (pss_one (ps_expr (pe_bm PySem.F.plainAttrs_list PySem.F.slot_list_append PySem.F.type_list_append mt_append (pv 3) (pa_cons (pe_callTy call_tuple_of (by rfl) B.tuple (by decide +kernel) (pa_cons
            (pe_lc (own := [("x", 10)]) (g := gName 10) (tt := tYes) (te := tIf (tTest (tOp (rIn K false) (tVar 10) (tVar 6))) (tUn (rU fun i => .int (-i)) (tC (.int 1))) (tBM0 K "list" rPop (tVar 8))) rfl scDw.nd (pi_range1 (by rfl) B.range (pa_cons (pv 1) pa_nil)) (blkOk_by (own := [("x", 10)]) (N := nDw) (sc := defScope sDrawn) (by decide +kernel))
              (fun _ _ _ _ _ => pg_name (i := 10) scDw.nd rfl (.inl rfl)) (fun _ _ _ _ _ => pts_nil)
              (fun _ _ _ _ _ => by exact pe_ifExp (pt_cmpR (r := rIn K false) op_in_seq (pv 10) (pv 6) rfl) (pe_un un_neg pe_int) (pe_bm0 PySem.F.plainAttrs_list PySem.F.slot_list_pop PySem.F.type_list_pop mt_pop (pv 8)))) pa_nil)) pa_nil)))))))))
      (pss_one (ps_ret (pe_callTy call_tuple_of (by rfl) B.tuple (by decide +kernel) (pa_cons (pv 3) pa_nil))))), ?_⟩
    refine ⟨.int n, rfl, n, rfl, n1, fun H1 v s1 hv => ?_⟩
    cases hv with
    | @lst L ks _ hL qk =>
    have hal2 := all_few n (by omega)
    have hkl : ks.length = (allL n).length := by rw [qk.len, List.length_map]
    have D1 := Dk.up s1
    refine ⟨by show 0 ≤ sizeLine; decide, fun fo nfo => ?_⟩
    obtain ⟨nfp, nfl⟩ := D1.new nfo
    have nf0 : H fo = none := s1.free nfo
    have s2 := same_new (o := .lst []) nfo
    have hfo : upd H1 fo (.lst []) fo = some (.lst []) := upd_same
    have D2 := D1.up s2
    have hL2 := s2 _ _ hL
    have qk2 := qk.up s2
    have nLp : L ≠ p := by
      obtain ⟨ds, st, h1, _, _⟩ := D1.ex
      exact ne_of hL h1 (by intro z; cases z)
    have nLl : L ≠ l := fun z => by
      obtain ⟨ds, st, _, h2, _⟩ := D1.ex
      rw [← z, hL] at h2
      have e : ks = ds.map V.int := HO.lst.inj (Option.some.inj h2)
      have h0 : 0 < ks.length := by rw [hkl]; have := all_len n (by omega); rw [this]; exact Nat.two_pow_pos n
      obtain ⟨y, hy⟩ : ∃ y, ks[0]? = some y := ⟨_, List.getElem?_eq_getElem h0⟩
      obtain ⟨_, _, b, rfl, _⟩ := lots_get qk hy
      rw [e, List.getElem?_map] at hy
      cases e2 : ds[0]? with
      | none => rw [e2] at hy; cases hy
      | some d => rw [e2] at hy; cases hy
    have nLf : L ≠ fo := ne_of_none hL nfo
    have E2 : Ext p l H (upd H1 fo (.lst [])) := Ext.of (s1.trans s2)
    generalize upd H1 fo (.lst []) = H2 at s2 hfo D2 hL2 qk2 E2
    refine ⟨_, _, rfl, .int n, rfl, _, _, rfl, rfl, (n : Int) + 1, rfl, by omega, by omega, ?_⟩
    rw [show ((n : Int) + 1).toNat = n + 1 by omega]
    refine for_it (walk_rg (n := n + 1)) (fun i σ G => ∃ (v4 v5 v6 v7 v8 : Option V) (acc : List V) (es : List (List Int)), σ = [some (.ref p), some (.int n), some (.ref L), some (.ref fo), v4, v5, v6, v7, v8, none, none] ∧ Deck G p l ∧ Ext p l H G ∧ G L = some (.lst ks) ∧ G fo = some (.lst acc) ∧ DqA G ks ((allL n).map lotD) ∧ DqA G acc (es.map entD) ∧
        Ents n ((List.range i).flatMap (lotsL n)) es ∧ (es.map (goalE n)).Perm ((List.range i).flatMap (lotsL n)))
      ⟨_, _, _, _, _, [], [], rfl, D2, E2, hL2, hfo, qk2, .nil, Ents.nil, .refl _⟩ (fun _ _ _ _ _ => trivial) ?_ ?_
    · rintro i x σ _ G hi ⟨v4, v5, v6, v7, v8, acc, es, rfl, DG, EG, hLG, hfG, qkG, qac, hes, hgo⟩ ⟨rfl, rfl⟩
      refine ⟨.ref L, rfl, L, rfl, ⟨_, SqL.of hLG⟩, fun W nW => ?_⟩
      have hWfo : W ≠ fo := (ne_of_none hfG nW).symm
      refine lc_it (walk_list (K := K) (a := L) (xs := ks)) (fun j G2 => ∃ ow, G2 W = some (.lst ow) ∧ Same G G2 ∧ DqA G2 ow ((((allL n).take j).filter fun l => decide (l.length = i)).map lotD)) ⟨[], upd_same, same_new nW, .nil⟩ (fun _ _ _ ⟨_, _, sm, _⟩ => SqL.of (sm _ _ hLG)) ?_ ?_
      · rintro j x _ G2 hj ⟨ow, hW, sm, qo⟩ ⟨rfl, hx⟩
        obtain ⟨k, hk, kb, rfl, hkb⟩ := lots_get qkG hx
        have er : ((allL n).take (j + 1)).filter (fun l => decide (l.length = i)) = ((allL n).take j).filter (fun l => decide (l.length = i)) ++ (if k.length = i then [k] else []) := by
          rw [List.take_add_one, hk, List.filter_append]
          by_cases c : k.length = i <;> simp [c]
        refine ⟨rfl, .ref kb, rfl, kb, _, rfl, .inr (SqT.of (sm _ _ hkb)), .int i, rfl, rfl, _, rfl, ?_⟩
        rw [er, lv_len]
        by_cases c : k.length = i
        · rw [decide_eq_true (show V.int (k.length : Int) = V.int (i : Int) by rw [c]), if_pos c]
          have ts : TS G2 (upd G2 W (.lst (ow ++ [.ref kb]))) := TS.lst hW
          refine iteT ⟨.ref kb, rfl, ow, hW, szm ?_, _, upd_same, fun b o hb => ?_, ?_⟩
          · rw [qo.len, List.length_map]
            have := List.length_filter_le (fun l => decide (l.length = i)) ((allL n).take j)
            rw [List.length_take] at this
            omega
          · rw [upd_ne (ne_of_none hb nW)]
            exact sm _ _ hb
          · rw [List.map_append]
            exact dqa_snoc (DqA.upT ts (lots_flat _) qo) (Dq.upT ts (lot_flat _) (lot_at (sm _ _ hkb)))
        · rw [decide_eq_false (fun z => c (by have := V.int.inj z; omega)), if_neg c, List.append_nil]
          exact iteF ⟨ow, hW, sm, qo⟩
      rintro G2 ⟨ow, hW, sm, qo⟩
      rw [hkl, List.take_length, own_filt n (by omega) i hi] at qo
      have DG2 := DG.up sm
      have EG2 : Ext p l H G2 := Same.trans EG (Ext.of sm)
      obtain ⟨nWp, nWl⟩ := DG.new nW
      have hLG2 := sm _ _ hLG
      have hfG2 := sm _ _ hfG
      have hal3 := every_few n (by omega) (i + 1) (by omega)
      have hown : (lotsL n i).length ≤ 64 := by
        rw [List.range_succ, List.flatMap_append, List.length_append] at hal3
        simp at hal3
        omega
      have howl : ow.length = (lotsL n i).length := by rw [qo.len, List.length_map]
      refine ⟨.ref W, rfl, .ref p, rfl, .ref W, rfl, p, l, W, ow, rfl, DG2, by rw [hid_ne nWp nWl]; exact hW, by omega, fun G3 M ms D3 E3 nM hM hp => ?_⟩
      obtain ⟨nMp, nMl, hM3⟩ := hid_some hM
      have ts3 : TS G2 G3 := TS.deck DG2 E3
      have qo3 := DqA.upT ts3 (lots_flat _) qo
      obtain ⟨ml, pm, qm⟩ := dqa_perm (f := lotD) hp qo3
      have hml := pm.length_eq
      have hmsl : ms.length = ml.length := by rw [qm.len, List.length_map]
      have hW3 : G3 W = some (.lst ow) := E3.at_ nWp nWl hW
      have hL3 : G3 L = some (.lst ks) := E3.at_ nLp nLl hLG2
      have hf3 : G3 fo = some (.lst acc) := E3.at_ nfp nfl hfG2
      have qac3 : DqA G3 acc (es.map entD) := DqA.upT ts3 (ents_flat _) (qac.up sm)
      have qk3 : DqA G3 ks ((allL n).map lotD) := DqA.upT ts3 (lots_flat _) (qkG.up sm)
      have EG3 : Ext p l H G3 := Same.trans EG2 E3
      have nMf : M ≠ fo := (ne_of_none hfG2 nM).symm
      refine ⟨W, M, ow, ms, rfl, SqL.of hW3, SqL.of hM3, ?_⟩
      refine for_it (walk_zip (n := (lotsL n i).length) (by omega)) (fun j σ G4 => ∃ (v6 v7 v8 : Option V) (acc4 : List V) (es4 : List (List Int)), σ = [some (.ref p), some (.int n), some (.ref L), some (.ref fo), some (.int i), some (.ref W), v6, v7, v8, none, none] ∧ Deck G4 p l ∧ Ext p l H G4 ∧
          (∀ b o, b ≠ p → b ≠ l → b ≠ fo → G3 b = some o → G4 b = some o) ∧ G4 fo = some (.lst acc4) ∧ DqA G4 acc4 (es4.map entD) ∧ Ents n ((List.range i).flatMap (lotsL n) ++ (lotsL n i).take j) es4 ∧ es4.map (goalE n) = es.map (goalE n) ++ ml.take j)
        ⟨_, _, _, acc, es, rfl, D3, EG3, fun b o _ _ _ h => h, hf3, qac3, by simpa using hes, by simp⟩ (fun j σ G4 _ ⟨_, _, _, _, _, _, _, _, k4, _⟩ => ⟨SqL.of (k4 _ _ nWp nWl hWfo hW3), SqL.of (k4 _ _ nMp nMl nMf hM3)⟩) ?_ ?_
      · rintro j _ σ G4 _ hj ⟨v6, v7, v8, acc4, es4, rfl, D4, E4, k4, hf4, qac4, hes4, hgo4⟩ ⟨T, x1, x2, rfl, nT, rfl, e1, e2⟩
        obtain ⟨k, hk, kb, rfl, hkb⟩ := lots_get qo3 e1
        obtain ⟨g, hg, gb, rfl, hgb⟩ := lots_get qm e2
        have hkA : k ∈ allL n := own_all n (by omega) i hi k (List.mem_of_getElem? hk)
        have hgA : g ∈ allL n := own_all n (by omega) i hi g (pm.subset (List.mem_of_getElem? hg))
        have hkl2 : k.length = i := (lots_in n i k (List.mem_of_getElem? hk)).1
        have hgl2 : g.length = i := (lots_in n i g (pm.subset (List.mem_of_getElem? hg))).1
        obtain ⟨z1, z2, dp3⟩ : ∃ z1 z2, G3 p = some (.dK z1) ∧ G3 l = some (.lst z2) := by
          obtain ⟨ds, st, h1, h2, _⟩ := D3.ex
          exact ⟨_, _, h1, h2⟩
        have nk : kb ≠ p ∧ kb ≠ l ∧ kb ≠ fo := ⟨ne_of hkb dp3.1 (by intro z; cases z), ne_of hkb dp3.2 (by intro z; cases z), ne_of hkb hf3 (by intro z; cases z)⟩
        have ng : gb ≠ p ∧ gb ≠ l ∧ gb ≠ fo := ⟨ne_of hgb dp3.1 (by intro z; cases z), ne_of hgb dp3.2 (by intro z; cases z), ne_of hgb hf3 (by intro z; cases z)⟩
        have sT := same_new (o := .tup [.ref kb, .ref gb]) nT
        refine ⟨T, [.ref kb, .ref gb], rfl, SqT.of upd_same, rfl, .ref kb, [.ref gb], rfl, .ref gb, [], rfl, rfl, ?_⟩
        have hkb5 := sT _ _ (k4 _ _ nk.1 nk.2.1 nk.2.2 hkb)
        have hgb5 := sT _ _ (k4 _ _ ng.1 ng.2.1 ng.2.2 hgb)
        have D5 := D4.up sT
        have hf5 := sT _ _ hf4
        generalize upd G4 T (.tup [.ref kb, .ref gb]) = G5 at sT hkb5 hgb5 D5 hf5
        dsimp only [tNext]
        refine ⟨.ref p, rfl, .int n, rfl, (n : Int), rfl, by omega, by omega, fun D nD => ?_⟩
        rw [Int.toNat_natCast]
        refine lc_it (walk_rg (n := n)) (fun t G => G D = some (.lst (lv ((List.range t).filter fun (y : Nat) => !decide (y ∈ g)))) ∧ Same G5 G) ⟨upd_same, same_new nD⟩ (fun _ _ _ _ => trivial) ?_ ?_
        · rintro t x _ G ht ⟨hD, s6⟩ ⟨rfl, rfl⟩
          refine ⟨rfl, .int t, rfl, .ref gb, rfl, gb, _, rfl, .inr (SqT.of (s6 _ _ hgb5)), rfl, lv_fl g, _, rfl, ?_⟩
          have er : (List.range (t + 1)).filter (fun (y : Nat) => !decide (y ∈ g)) = (List.range t).filter (fun (y : Nat) => !decide (y ∈ g)) ++ (if t ∈ g then [] else [t]) := by
            rw [List.range_succ, List.filter_append]
            by_cases hm : t ∈ g <;> simp [hm]
          rw [inV_lot, er]
          by_cases hm : t ∈ g
          · rw [decide_eq_true hm, if_pos hm, List.append_nil]
            exact iteF ⟨hD, s6⟩
          · rw [decide_eq_false hm, if_neg hm]
            refine iteT ⟨_, rfl, _, hD, szm ?_, ?_, fun b o hb => ?_⟩
            · rw [lv_len]
              have := List.length_filter_le (fun (y : Nat) => !decide (y ∈ g)) (List.range t)
              rw [List.length_range] at this
              omega
            · rw [upd_same]
              simp [lv]
            · rw [upd_ne (ne_of_none hb nD)]
              exact s6 _ _ hb
        rintro G6 ⟨hD6, s6⟩
        obtain ⟨nDp, nDl⟩ := D5.new nD
        have D6 := D5.up s6
        have hfl := (lot_filt n (by omega) g hgA).2
        have hkf := (lot_filt n (by omega) k hkA).2
        have efr : lv ((List.range n).filter fun (y : Nat) => !decide (y ∈ g)) = (((List.range n).filter fun (y : Nat) => !decide (y ∈ g)).map fun (y : Nat) => (y : Int)).map V.int := by
          unfold lv
          rw [List.map_map]
          rfl
        rw [efr] at hD6
        refine ⟨p, l, D, _, rfl, D6, by rw [hid_ne nDp nDl]; exact hD6, by rw [List.length_map, List.length_map]; omega, fun G7 fr ys D7 E7 nfr hfr hpy => ?_⟩
        obtain ⟨ws, rfl, hws⟩ := ints_perm hpy
        obtain ⟨nfrp, nfrl, hfr7⟩ := hid_some hfr
        have hwl : ws.length + g.length = n := by rw [hws.length_eq, List.length_map]; exact hfl
        have hwp : ∀ z ∈ ws, ¬ z = -1 := fun z hz => by
          obtain ⟨y, _, rfl⟩ := List.mem_map.mp (hws.subset hz)
          omega
        have ts7 : TS G6 G7 := TS.deck D6 E7
        have hkb7 := ts7 _ _ (s6 _ _ hkb5)
        have hf7 : G7 fo = some (.lst acc4) := E7.at_ nfp nfl (s6 _ _ hf5)
        have nfrf : fr ≠ fo := (ne_of_none (s6 _ _ hf5) nfr).symm
        dsimp only [tNext]
        refine ⟨.ref fo, rfl, .inl ⟨rfl, _, SqL.of hf7⟩, .int n, rfl, (n : Int), rfl, by omega, by omega, fun D2 nD2 => ?_⟩
        rw [Int.toNat_natCast]
        have nD2fr : D2 ≠ fr := (ne_of_none hfr7 nD2).symm
        have nkfr : kb ≠ fr := ne_of hkb7 hfr7 (by intro z; cases z)
        refine lc_it (walk_rg (n := n)) (fun t G => ∃ (a zs : List Int), G D2 = some (.lst (a.map V.int)) ∧ G fr = some (.lst (zs.map V.int)) ∧ (∀ b o, b ≠ fr → G7 b = some o → G b = some o) ∧ a.length = t ∧ zs.length = cnt k n t ∧
            ((∀ u, u < t → u ∈ k → a.getD u 0 = -1) ∧ ∀ u, u < t → u ∉ k → a.getD u 0 ∈ ws) ∧ a.filter (fun x => !decide (x = -1)) ++ zs.reverse = ws.reverse)
          ⟨[], ws, upd_same, by rw [upd_ne nD2fr.symm]; exact hfr7, fun b o _ hb => same_new nD2 _ _ hb, rfl, ?_, ⟨fun u h => absurd h (Nat.not_lt_zero u), fun u h => absurd h (Nat.not_lt_zero u)⟩, rfl⟩ (fun _ _ _ _ => trivial) ?_ ?_
        · unfold cnt
          rw [List.drop_zero, List.countP_eq_length_filter]
          omega
        · rintro t x _ G ht ⟨a, zs, hD, hfr8, k8, hal, hzl, ⟨ha1, ha2⟩, hfz⟩ ⟨rfl, rfl⟩
          have hkb8 := k8 _ _ nkfr hkb7
          rw [cnt_step ht] at hzl
          refine ⟨rfl, ?_⟩
          dsimp only [tYes]
          rw [if_pos rfl]
          refine ⟨.int t, rfl, .ref kb, rfl, kb, lv k, rfl, .inr (SqT.of hkb8), rfl, lv_fl k, _, rfl, ?_⟩
          rw [if_neg (by decide), inV_lot]
          have snoc : ∀ z : Int, (t ∈ k → z = -1) → (t ∉ k → z ∈ ws) → (∀ u, u < t + 1 → u ∈ k → (a ++ [z]).getD u 0 = -1) ∧ ∀ u, u < t + 1 → u ∉ k → (a ++ [z]).getD u 0 ∈ ws := fun z p1 p2 => by
            have ge : ∀ u, u < t → (a ++ [z]).getD u 0 = a.getD u 0 := fun u hu => by
              rw [List.getD_eq_getElem?_getD, List.getElem?_append_left (by omega), List.getD_eq_getElem?_getD]
            have gt : (a ++ [z]).getD t 0 = z := by
              rw [List.getD_eq_getElem?_getD, List.getElem?_append_right (by omega), hal, Nat.sub_self]
              rfl
            refine ⟨fun u hu hm => ?_, fun u hu hm => ?_⟩
            · rcases Nat.lt_or_ge u t with c | c
              · rw [ge u c]; exact ha1 u c hm
              · have : u = t := by omega
                subst this
                rw [gt]; exact p1 hm
            · rcases Nat.lt_or_ge u t with c | c
              · rw [ge u c]; exact ha2 u c hm
              · have : u = t := by omega
                subst this
                rw [gt]; exact p2 hm
          by_cases hm : t ∈ k
          · rw [decide_eq_true hm]
            rw [if_pos hm] at hzl
            refine iteT ⟨1, rfl, a.map V.int, hD, szm (by rw [List.length_map]; omega), a ++ [-1], zs, by rw [upd_same, List.map_append]; rfl, by rw [upd_ne nD2fr.symm]; exact hfr8, fun b o hb ho => ?_, by rw [List.length_append, hal]; rfl, hzl, snoc _ (fun _ => rfl) (fun z => absurd hm z), ?_⟩
            · rw [upd_ne (ne_of_none ho nD2)]
              exact k8 _ _ hb ho
            · rw [List.filter_append]
              simpa using hfz
          · rw [decide_eq_false hm]
            rw [if_neg hm] at hzl
            have hzne : zs ≠ [] := fun z => by rw [z] at hzl; simp at hzl
            obtain ⟨zs', z, rfl⟩ : ∃ zs' z, zs = zs' ++ [z] := ⟨zs.dropLast, zs.getLast hzne, (List.dropLast_concat_getLast hzne).symm⟩
            have hzw : z ∈ ws := by
              rw [← List.mem_reverse, ← hfz]
              simp
            rw [List.map_append] at hfr8
            rw [List.length_append] at hzl
            refine iteF ⟨.ref fr, rfl, .inl ⟨rfl, _, SqL.of hfr8⟩, fr, _, .int z, rfl, rfl, hfr8, by simp, ?_⟩
            have ed : (zs'.map V.int ++ [z].map V.int).dropLast = zs'.map V.int := by simp
            rw [ed]
            refine ⟨a.map V.int, by rw [upd_ne nD2fr]; exact hD, szm (by rw [List.length_map]; omega), a ++ [z], zs', by rw [upd_same, List.map_append]; rfl, by rw [upd_ne nD2fr.symm, upd_same], fun b o hb ho => ?_, by rw [List.length_append, hal]; rfl, Nat.add_right_cancel hzl, snoc _ (fun y => absurd y hm) (fun _ => hzw), ?_⟩
            · rw [upd_ne (ne_of_none ho nD2), upd_ne hb]
              exact k8 _ _ hb ho
            · rw [List.filter_append]
              have hz1 := hwp z hzw
              simpa [hz1] using hfz
        rintro G8 ⟨a, zs, hD, hfr8, k8, hal, hzl, ⟨ha1, ha2⟩, hfz⟩
        rw [cnt_end] at hzl
        have : zs = [] := List.length_eq_zero_iff.mp hzl
        subst this
        rw [List.reverse_nil, List.append_nil] at hfz
        obtain ⟨hEV, hGE⟩ := ent_made n1 hkA hgA hal ha1 ha2 hfz hws
        refine ⟨D2, _, rfl, .inl ⟨SqL.of hD, fun t nt => ?_⟩⟩
        have hf8 := k8 _ _ nfrf.symm hf7
        have st := same_new (o := .tup (a.map V.int)) nt
        have hfo9 := st _ _ hf8
        have acl : acc4.length ≤ 1000 := by
          have h1 := qac4.len
          rw [List.length_map, hes4.len, List.length_append, List.length_take] at h1
          have h2 := every_few n (by omega) i (by omega)
          omega
        have all : ∀ b o, b ≠ p → b ≠ l → b ≠ fo → G4 b = some o → upd (upd G8 t (.tup (a.map V.int))) fo (.lst (acc4 ++ [.ref t])) b = some o := fun b o h1 h2 h3 ho => by
          have h6 := s6 _ _ (sT _ _ ho)
          rw [upd_ne h3]
          exact st _ _ (k8 _ _ (ne_of_none h6 nfr) (E7.at_ h1 h2 h6))
        have ts78 : TS G7 G8 := fun b xs hb => k8 _ _ (ne_of hb hfr7 (by intro z; cases z)) hb
        have ts : TS G4 (upd (upd G8 t (.tup (a.map V.int))) fo (.lst (acc4 ++ [.ref t]))) := (TS.of sT).trans ((TS.of s6).trans (ts7.trans (ts78.trans ((TS.new nt).trans (TS.lst hfo9)))))
        have D8 : Deck G8 p l := by
          obtain ⟨ds, st, h1, h2, h3⟩ := D7.ex
          exact ⟨ds, st, k8 _ _ nfrp.symm h1, k8 _ _ nfrl.symm h2, h3⟩
        refine ⟨fo, acc4, .ref t, rfl, rfl, hfo9, szl (by omega), _, _, _, acc4 ++ [.ref t], es4 ++ [a], rfl, (D8.up st).mut nfp nfl, fun b o hb => ?_, fun b o h1 h2 h3 ho => all b o h1 h2 h3 (k4 _ _ h1 h2 h3 ho), upd_same, ?_, ?_, ?_⟩
        · obtain ⟨h1, h2, h3⟩ := hid_some hb
          rw [hid_ne h1 h2]
          exact all b o h1 h2 (ne_of_none h3 nf0) (E4.at_ h1 h2 h3)
        · rw [List.map_append]
          exact dqa_snoc (DqA.upT ts (ents_flat _) qac4) (Dq.upT (TS.lst hfo9) (ent_flat _) (ent_at upd_same))
        · rw [List.take_add_one, hk, ← List.append_assoc]
          exact hes4.snoc hEV
        · rw [List.map_append, hgo4, List.take_add_one, hg, List.append_assoc, ← hGE]
          rfl
      · rintro σ G4 ⟨v6, v7, v8, acc4, es4, rfl, D4, E4, k4, hf4, qac4, hes4, hgo4⟩
        have hL4 := k4 _ _ nLp nLl nLf hL3
        have ts34 : TS G3 G4 := fun b xs hb => by
          obtain ⟨ds, st, h1, h2, _⟩ := D3.ex
          exact k4 _ _ (ne_of hb h1 (by intro z; cases z)) (ne_of hb h2 (by intro z; cases z)) (ne_of hb hf3 (by intro z; cases z)) hb
        have er : (List.range (i + 1)).flatMap (lotsL n) = (List.range i).flatMap (lotsL n) ++ lotsL n i := by
          rw [List.range_succ, List.flatMap_append]
          simp
        rw [List.take_length] at hes4
        rw [List.take_of_length_le (by omega)] at hgo4
        refine ⟨_, _, _, _, _, acc4, es4, rfl, D4, E4, hL4, hf4, DqA.upT ts34 (lots_flat _) qk3, qac4, by rw [er]; exact hes4, ?_⟩
        rw [er, hgo4]
        exact hgo.append pm
    · rintro σ G ⟨v4, v5, v6, v7, v8, acc, es, rfl, DG, EG, hLG, hfG, qkG, qac, hes, hgo⟩
      refine ⟨.ref fo, rfl, fo, acc, rfl, .inl ⟨SqL.of hfG, fun t nt => q _ _ es (DG.up (same_new nt)) (Same.trans EG (Ext.of (same_new nt))) (.tup upd_same (qac.up (same_new nt))) ⟨hes, hgo⟩⟩⟩
end
end Kr
namespace Kr
open PySem PySem.Spec PyProof.Rows L2
/-- a drawn item of a list or a tuple -/
def spPick : Sp := fun vs H Q _ => ∃ (p l a : Addr) (xs : List V), vs = [.ref p, .ref a] ∧ Deck H p l ∧ (hid p l H a = some (.lst xs) ∨ hid p l H a = some (.tup xs)) ∧ 0 < xs.length ∧ xs.length < 100000 ∧
  ∀ (H' : Hp) (r : Nat) (v : V), Deck H' p l → Ext p l H H' → xs[r]? = some v → Q v H'
section
variable {P : Program} {w : World} {K : PySem.W.Frag} {mg : Str → Option Value} {base : Heap}
theorem o_pick (D : Df K mg "_law_pick" sPick ["box", "items"]) (B : Bi mg) (d : Ok P w K mg base 1 "_law_draw" ["box", "many"] spDraw) : Ok P w K mg base 2 "_law_pick" ["box", "items"] spPick := by
  have scPk : FnScope ["box", "items"] ["box", "items"] (defScope sPick) := ⟨rfl, rfl, rfl, by decide +kernel, rfl, by decide +kernel, by decide +kernel⟩
  refine D.ok fun f fd F => F.ok scPk (fun vs H Q E h => ?_) (fun cdv A outer s H vs Q E hr h => ?_)
  · obtain ⟨p, l, a, xs, rfl, _⟩ := h
    rfl
  · obtain ⟨p, l, a, xs, rfl, Dk, ha, h0, hl, q⟩ := h
    refine ⟨_, pss_one (ps_ret (pe_ix ix_seq (pv 1) (pe_fn d hr (by rfl) (pa_cons (pv 0) (pa_cons (pe_callB call_len_seq (by rfl) B.len boot_len (pa_cons (pv 1) pa_nil)) pa_nil))) (fun _ _ => rfl))), ?_⟩
    have hs : SqL K H a xs ∨ SqT K H a xs := ha.elim (fun z => .inl (SqL.of (hid_same p l H _ _ z))) fun z => .inr (SqT.of (hid_same p l H _ _ z))
    refine ⟨.ref a, rfl, .ref p, rfl, .ref a, rfl, a, xs, rfl, hs, p, l, (xs.length : Nat), rfl, Dk, by omega, by omega, fun H2 z D2 E2 z0 z1 => ?_⟩
    obtain ⟨r, rfl⟩ : ∃ r : Nat, z = r := ⟨z.toNat, by omega⟩
    obtain ⟨v, hv⟩ : ∃ v, xs[r]? = some v := ⟨_, List.getElem?_eq_getElem (by omega)⟩
    have k := q H2 r v D2 E2 hv
    rcases ha with z | z
    · exact .inl ⟨a, xs, r, v, rfl, rfl, SqL.of (hid_same p l H2 _ _ (E2 _ _ z)), atI_nat hv, k⟩
    · exact .inr (.inl ⟨a, xs, r, v, rfl, rfl, SqT.of (hid_same p l H2 _ _ (E2 _ _ z)), atI_nat hv, k⟩)
end
end Kr
namespace Kr
open PySem PySem.Spec PyProof.Rows L2
/-! ### entries as maps -/
/-- an entry of the lot l: places of keys have none, riders go to unlike places -/
structure EntF (n : Nat) (l : List Nat) (e : List Int) : Prop where
  len : e.length = n
  key : ∀ x, x < n → x ∈ l → e.getD x 0 = -1
  rid : ∀ x, x < n → x ∉ l → 0 ≤ e.getD x 0 ∧ e.getD x 0 < n
  inj : ∀ x y, x < n → y < n → x ∉ l → y ∉ l → e.getD x 0 = e.getD y 0 → x = y
theorem EntF.v {n : Nat} {l : List Nat} {e : List Int} (h : EntF n l e) : EntV n l e := by
  refine ⟨h.len, fun i hi => ?_, ?_⟩
  · split
    · rename_i c; exact h.key i hi c
    · rename_i c; exact h.rid i hi c
  · show (e.filter fun x => !decide (x = -1)).Pairwise (· ≠ ·)
    rw [List.pairwise_filter, List.pairwise_iff_getElem]
    intro i j hi hj hij p1 p2 z
    have g : ∀ i, (h : i < e.length) → e[i] = e.getD i 0 := fun i h => by rw [List.getD_eq_getElem?_getD, List.getElem?_eq_getElem h]; rfl
    rw [g i hi] at p1 z
    rw [g j hj] at p2 z
    rw [h.len] at hi hj
    have k1 : i ∉ l := fun c => by rw [h.key i hi c] at p1; exact absurd p1 (by decide)
    have k2 : j ∉ l := fun c => by rw [h.key j hj c] at p2; exact absurd p2 (by decide)
    have := h.inj i j hi hj k1 k2 z
    omega
theorem EntV.f {n : Nat} {l : List Nat} {e : List Int} (h : EntV n l e) : EntF n l e := by
  refine ⟨h.len, fun x hx c => ?_, fun x hx c => ?_, fun x y hx hy cx cy z => ?_⟩
  · have := h.at_ x hx; rwa [if_pos c] at this
  · have := h.at_ x hx; rwa [if_neg c] at this
  · have nd : (e.filter fun x => !decide (x = -1)).Pairwise (· ≠ ·) := h.nd
    rw [List.pairwise_filter, List.pairwise_iff_getElem] at nd
    have g : ∀ i, (h : i < e.length) → e[i] = e.getD i 0 := fun i h => by rw [List.getD_eq_getElem?_getD, List.getElem?_eq_getElem h]; rfl
    have pz : ∀ x, x < n → x ∉ l → (!decide (e.getD x 0 = -1)) = true := fun x hx c => by
      have := h.at_ x hx
      rw [if_neg c] at this
      simp only [Bool.not_eq_true', decide_eq_false_iff_not]
      omega
    have hl := h.len
    rcases Nat.lt_trichotomy x y with c | c | c
    · have := nd x y (by omega) (by omega) c
      rw [g x (by omega), g y (by omega)] at this
      exact absurd z (this (pz x hx cx) (pz y hy cy))
    · exact c
    · have := nd y x (by omega) (by omega) c
      rw [g x (by omega), g y (by omega)] at this
      exact absurd z.symm (this (pz y hy cy) (pz x hx cx))
theorem mem_e {e : List Int} {n : Nat} (h : e.length = n) {z : Int} : z ∈ e ↔ ∃ x, x < n ∧ e.getD x 0 = z := by
  subst h
  constructor
  · intro hz
    obtain ⟨x, hx, ez⟩ := List.getElem_of_mem hz
    exact ⟨x, hx, by rw [List.getD_eq_getElem?_getD, List.getElem?_eq_getElem hx]; exact ez⟩
  · rintro ⟨x, hx, ez⟩
    rw [List.getD_eq_getElem?_getD, List.getElem?_eq_getElem hx] at ez
    exact ez ▸ List.getElem_mem hx
theorem mem_goal {n : Nat} {e : List Int} {y : Nat} : y ∈ goalE n e ↔ y < n ∧ (y : Int) ∉ e := by
  unfold goalE
  rw [List.mem_filter, List.mem_range]
  simp
theorem goal_asc (n : Nat) (e : List Int) : Asc 0 n (goalE n e) := by
  refine ⟨List.Pairwise.filter _ List.pairwise_lt_range, fun x hx => ?_⟩
  have := (mem_goal.mp hx).1
  omega
theorem goal_all {n : Nat} (hn : n ≤ 6) (e : List Int) : goalE n e ∈ allL n := asc_all hn (goal_asc n e) (all_ascL hn)
/-- ascending lots with the same places are one -/
theorem asc_ext {n : Nat} {a b : List Nat} (ha : Asc 0 n a) (hb : Asc 0 n b) (h : ∀ x, x ∈ a ↔ x ∈ b) : a = b := by
  have p : a.Perm b := (List.perm_ext_iff_of_nodup (ha.1.imp fun h => Nat.ne_of_lt h) (hb.1.imp fun h => Nat.ne_of_lt h)).mpr h
  exact p.eq_of_pairwise (fun x y _ _ h1 h2 => absurd h2 (Nat.not_lt_of_lt h1)) ha.1 hb.1
theorem EntF.off {n : Nat} {l : List Nat} {e : List Int} (h : EntF n l e) {x : Nat} (hx : x < n) (c : x ∉ l) : (e.getD x 0).toNat < n ∧ (e.getD x 0).toNat ∉ goalE n e := by
  obtain ⟨h1, h2⟩ := h.rid x hx c
  refine ⟨by omega, fun z => (mem_goal.mp z).2 ((mem_e h.len).mpr ⟨x, hx, by omega⟩)⟩
theorem EntF.from {n : Nat} {l : List Nat} {e : List Int} (h : EntF n l e) {y : Nat} (hy : y < n) (c : y ∉ goalE n e) : ∃ x, x < n ∧ x ∉ l ∧ e.getD x 0 = y := by
  have : (y : Int) ∈ e := Classical.byContradiction fun z => c (mem_goal.mpr ⟨hy, z⟩)
  obtain ⟨x, hx, ex⟩ := (mem_e h.len).mp this
  refine ⟨x, hx, fun k => ?_, ex⟩
  have := h.key x hx k
  omega
theorem EntF.neg {n : Nat} {l : List Nat} {e : List Int} (h : EntF n l e) {x : Nat} (hx : x < n) : e.getD x 0 = -1 ↔ x ∈ l := by
  constructor
  · intro z
    refine Classical.byContradiction fun c => ?_
    have := (h.rid x hx c).1
    omega
  · exact h.key x hx
/-- one entry behind another -/
def cmpE (e u : List Int) : List Int := e.map fun x => if x = -1 then -1 else u.getD x.toNat 0
theorem map_getD_lt {α β : Type} {f : α → β} {L : List α} {i : Nat} {d : α} {d' : β} (h : i < L.length) : (L.map f).getD i d' = f (L.getD i d) := by
  rw [List.getD_eq_getElem?_getD, List.getElem?_map, List.getElem?_eq_getElem h, List.getD_eq_getElem?_getD, List.getElem?_eq_getElem h]
  rfl
theorem cmp_at {e u : List Int} {x : Nat} (h : x < e.length) : (cmpE e u).getD x 0 = if e.getD x 0 = -1 then -1 else u.getD (e.getD x 0).toNat 0 := map_getD_lt h
theorem EntF.cmp {n : Nat} {l : List Nat} {e u : List Int} (h : EntF n l e) (g : EntF n (goalE n e) u) : EntF n l (cmpE e u) ∧ goalE n (cmpE e u) = goalE n u := by
  have hl : (cmpE e u).length = n := by unfold cmpE; rw [List.length_map]; exact h.len
  have at_ : ∀ x, x < n → x ∉ l → (cmpE e u).getD x 0 = u.getD (e.getD x 0).toNat 0 := fun x hx c => by
    rw [cmp_at (by rw [h.len]; exact hx), if_neg (fun z => c ((h.neg hx).mp z))]
  have hf : EntF n l (cmpE e u) := by
    refine ⟨hl, fun x hx c => ?_, fun x hx c => ?_, fun x y hx hy cx cy z => ?_⟩
    · rw [cmp_at (by rw [h.len]; exact hx), if_pos ((h.neg hx).mpr c)]
    · rw [at_ x hx c]
      obtain ⟨p1, p2⟩ := h.off hx c
      exact g.rid _ p1 p2
    · rw [at_ x hx cx, at_ y hy cy] at z
      obtain ⟨p1, p2⟩ := h.off hx cx
      obtain ⟨p3, p4⟩ := h.off hy cy
      have e1 := g.inj _ _ p1 p3 p2 p4 z
      have r1 := h.rid x hx cx
      have r2 := h.rid y hy cy
      exact h.inj x y hx hy cx cy (by omega)
  refine ⟨hf, asc_ext (goal_asc _ _) (goal_asc _ _) fun y => ?_⟩
  rw [mem_goal, mem_goal, mem_e hl, mem_e g.len]
  refine and_congr_right fun hy => not_congr ⟨?_, ?_⟩
  · rintro ⟨x, hx, ex⟩
    by_cases c : x ∈ l
    · rw [hf.key x hx c] at ex
      omega
    · rw [at_ x hx c] at ex
      exact ⟨_, (h.off hx c).1, ex⟩
  · rintro ⟨x, hx, ex⟩
    have c : x ∉ goalE n e := fun c => by
      rw [g.key x hx c] at ex
      omega
    obtain ⟨x', hx', c', ex'⟩ := h.from hx c
    refine ⟨x', hx', ?_⟩
    rw [at_ x' hx' c', ex', Int.toNat_natCast]
    exact ex
theorem list_ext {n : Nat} {a b : List Int} (ha : a.length = n) (hb : b.length = n) (h : ∀ x, x < n → a.getD x 0 = b.getD x 0) : a = b := by
  refine List.ext_getElem (by omega) fun i h1 h2 => ?_
  have := h i (by omega)
  rw [List.getD_eq_getElem?_getD, List.getD_eq_getElem?_getD, List.getElem?_eq_getElem h1, List.getElem?_eq_getElem h2] at this
  exact this
theorem cmp_assoc {n : Nat} {l : List Nat} {e u w : List Int} (h : EntF n l e) (g : EntF n (goalE n e) u) : cmpE (cmpE e u) w = cmpE e (cmpE u w) := by
  have hl : (cmpE e u).length = n := (h.cmp g).1.len
  refine list_ext (n := n) (by unfold cmpE; rw [List.length_map, List.length_map, h.len]) (by unfold cmpE; rw [List.length_map, h.len]) fun x hx => ?_
  rw [cmp_at (by omega), cmp_at (by rw [h.len]; exact hx), cmp_at (by rw [h.len]; exact hx)]
  by_cases c : x ∈ l
  · rw [(h.neg hx).mpr c]
    rfl
  · have ne : ¬ e.getD x 0 = -1 := fun z => c ((h.neg hx).mp z)
    obtain ⟨p1, p2⟩ := h.off hx c
    rw [if_neg ne, if_neg ne, cmp_at (by rw [g.len]; exact p1)]
/-! ### tables as maps -/
def en (n : Nat) (T : List (List Int)) (l : List Nat) : List Int := T.getD (num n l) []
theorem bothE_cmp (n : Nat) (U : List (List Int)) (e : List Int) : bothE n U e = cmpE e (en n U (goalE n e)) := rfl
theorem all_at {n : Nat} (hn : n ≤ 6) {l : List Nat} (h : l ∈ allL n) : (allL n)[num n l]? = some l := by
  obtain ⟨i, hi, e⟩ := List.getElem_of_mem h
  have e1 : (allL n)[i]? = some l := by rw [List.getElem?_eq_getElem hi, e]
  rw [(all_num_at hn e1).1]
  exact e1
theorem en_map {n : Nat} (hn : n ≤ 6) {f : List Nat → List Int} {l : List Nat} (h : l ∈ allL n) : en n ((allL n).map f) l = f l := by
  unfold en
  rw [List.getD_eq_getElem?_getD, List.getElem?_map, all_at hn h]
  rfl
theorem TabOk.len {n : Nat} (hn : n ≤ 6) {T : List (List Int)} (h : TabOk n T) : T.length = 2 ^ n := h.ents.len.trans (all_len n (by omega))
theorem TabOk.get {n : Nat} (hn : n ≤ 6) {T : List (List Int)} (h : TabOk n T) {l : List Nat} (hl : l ∈ allL n) : T[num n l]? = some (en n T l) := by
  have h1 : num n l < T.length := by rw [h.len hn]; exact all_num hn hl
  unfold en
  rw [List.getD_eq_getElem?_getD, List.getElem?_eq_getElem h1]
  rfl
theorem TabOk.ent {n : Nat} (hn : n ≤ 6) {T : List (List Int)} (h : TabOk n T) {l : List Nat} (hl : l ∈ allL n) : EntF n l (en n T l) := (h.ents.at_ _ _ _ (all_at hn hl) (h.get hn hl)).f
theorem TabOk.map {n : Nat} (hn : n ≤ 6) {T : List (List Int)} (h : TabOk n T) : T = (allL n).map (en n T) := by
  refine List.ext_getElem? fun i => ?_
  rw [List.getElem?_map]
  cases e : (allL n)[i]? with
  | none =>
    show T[i]? = none
    rw [List.getElem?_eq_none_iff] at e ⊢
    rw [h.ents.len]
    exact e
  | some l =>
    rw [← (all_num_at hn e).1]
    exact h.get hn (List.mem_of_getElem? e)
theorem TabOk.of_map {n : Nat} (hn : n ≤ 6) {f : List Nat → List Int} (h : ∀ l ∈ allL n, EntF n l (f l)) (g : ((allL n).map fun l => goalE n (f l)).Perm (allL n)) : TabOk n ((allL n).map f) := by
  refine ⟨⟨List.length_map _, fun t l e h1 h2 => ?_⟩, by rw [List.map_map]; exact g⟩
  rw [List.getElem?_map, h1] at h2
  cases Option.some.inj h2
  exact (h l (List.mem_of_getElem? h1)).v
theorem TabOk.goalp {n : Nat} (hn : n ≤ 6) {T : List (List Int)} (h : TabOk n T) : ((allL n).map fun l => goalE n (en n T l)).Perm (allL n) := by
  have := h.goals
  rw [h.map hn, List.map_map] at this
  exact this
theorem both_map {n : Nat} (hn : n ≤ 6) {T U : List (List Int)} (h : TabOk n T) : bothT n T U = (allL n).map fun l => cmpE (en n T l) (en n U (goalE n (en n T l))) := by
  unfold bothT
  conv => lhs; rw [h.map hn]
  rw [List.map_map]
  rfl
theorem en_both {n : Nat} (hn : n ≤ 6) {T U : List (List Int)} (h : TabOk n T) {l : List Nat} (hl : l ∈ allL n) : en n (bothT n T U) l = cmpE (en n T l) (en n U (goalE n (en n T l))) := by
  rw [both_map hn h, en_map hn hl]
theorem TabOk.both {n : Nat} (hn : n ≤ 6) {T U : List (List Int)} (h : TabOk n T) (g : TabOk n U) : TabOk n (bothT n T U) := by
  rw [both_map hn h]
  refine TabOk.of_map hn (fun l hl => ((h.ent hn hl).cmp (g.ent hn (goal_all hn _))).1) ?_
  have e : ((allL n).map fun l => goalE n (cmpE (en n T l) (en n U (goalE n (en n T l))))) = ((allL n).map fun l => goalE n (en n T l)).map fun g => goalE n (en n U g) := by
    rw [List.map_map]
    exact List.map_congr_left fun l hl => ((h.ent hn hl).cmp (g.ent hn (goal_all hn _))).2
  rw [e]
  exact ((h.goalp hn).map _).trans (g.goalp hn)
theorem both_assoc {n : Nat} (hn : n ≤ 6) {T U W : List (List Int)} (h : TabOk n T) (g : TabOk n U) (k : TabOk n W) : bothT n (bothT n T U) W = bothT n T (bothT n U W) := by
  rw [both_map hn (h.both hn g), both_map (U := bothT n U W) hn h]
  refine List.map_congr_left fun l hl => ?_
  have hg := goal_all hn (en n T l)
  rw [en_both hn h hl, en_both hn g hg, ((h.ent hn hl).cmp (g.ent hn hg)).2]
  exact cmp_assoc (h.ent hn hl) (g.ent hn hg)
end Kr
namespace Kr
open PySem PySem.Spec PyProof.Rows L2
theorem ups_len (n : Nat) : (ups n).length = n := by unfold ups; rw [List.length_map, List.length_range]
theorem ups_at {n x : Nat} (h : x < n) : (ups n).getD x 0 = (x : Int) := by
  unfold ups
  rw [List.getD_eq_getElem?_getD, List.getElem?_map, List.getElem?_range h]
  rfl
theorem byE_len (l : List Nat) (w : List Int) : (byE l w).length = w.length := by unfold byE; rw [List.length_map, List.length_range]
theorem byE_at {l : List Nat} {w : List Int} {x : Nat} (h : x < w.length) : (byE l w).getD x 0 = if x ∈ l then -1 else w.getD x 0 := by
  unfold byE
  rw [List.getD_eq_getElem?_getD, List.getElem?_map, List.getElem?_range h]
  rfl
/-! ### ways that are their own contrary -/
structure Way (n : Nat) (w : List Int) (f : Nat → Nat) : Prop where
  len : w.length = n
  at_ : ∀ x, x < n → w.getD x 0 = (f x : Int)
  lt : ∀ x, x < n → f x < n
  inv : ∀ x, x < n → f (f x) = x
theorem way_ups (n : Nat) : Way n (ups n) id := ⟨ups_len n, fun x h => ups_at h, fun _ h => h, fun _ _ => rfl⟩
def sw (a b x : Nat) : Nat := if x = b then a else if x = a then b else x
theorem way_swap {n a b : Nat} (ha : a < n) (hb : b < n) (hab : a ≠ b) : Way n (swapW n a b) (sw a b) := by
  refine ⟨by unfold swapW; rw [List.length_set, List.length_set, ups_len], fun x h => ?_, fun x h => ?_, fun x h => ?_⟩
  · unfold swapW sw
    rw [List.getD_eq_getElem?_getD, List.getElem?_set, List.length_set, ups_len, List.getElem?_set, ups_len]
    by_cases c1 : x = b
    · subst c1
      rw [if_pos rfl, if_pos h, if_pos rfl]
      rfl
    · rw [if_neg (fun z => c1 z.symm), if_neg c1]
      by_cases c2 : x = a
      · subst c2
        rw [if_pos rfl, if_pos h, if_pos rfl]
        rfl
      · rw [if_neg (fun z => c2 z.symm), if_neg c2, ← List.getD_eq_getElem?_getD, ups_at h]
  · unfold sw
    split
    · exact ha
    · split
      · exact hb
      · exact h
  · unfold sw
    by_cases c1 : x = b
    · rw [if_pos c1, if_neg hab, if_pos rfl, c1]
    · rw [if_neg c1]
      by_cases c2 : x = a
      · rw [if_pos c2, if_pos rfl, c2]
      · rw [if_neg c2, if_neg c1, if_neg c2]
theorem Way.ent {n : Nat} {w : List Int} {f : Nat → Nat} (W : Way n w f) (l : List Nat) : EntF n l (byE l w) := by
  have at_ : ∀ x, x < n → x ∉ l → (byE l w).getD x 0 = (f x : Int) := fun x h c => by rw [byE_at (by rw [W.len]; exact h), if_neg c, W.at_ x h]
  refine ⟨(byE_len l w).trans W.len, fun x h c => by rw [byE_at (by rw [W.len]; exact h), if_pos c], fun x h c => ?_, fun x y hx hy cx cy z => ?_⟩
  · rw [at_ x h c]
    have := W.lt x h
    omega
  · rw [at_ x hx cx, at_ y hy cy] at z
    have e : f x = f y := by omega
    rw [← W.inv x hx, e, W.inv y hy]
theorem Way.goal {n : Nat} {w : List Int} {f : Nat → Nat} (W : Way n w f) (l : List Nat) {y : Nat} : y ∈ goalE n (byE l w) ↔ y < n ∧ f y ∈ l := by
  rw [mem_goal, mem_e ((byE_len l w).trans W.len)]
  refine and_congr_right fun hy => ?_
  constructor
  · intro h
    refine Classical.byContradiction fun c => h ⟨f y, W.lt y hy, ?_⟩
    rw [byE_at (by rw [W.len]; exact W.lt y hy), if_neg c, W.at_ _ (W.lt y hy), W.inv y hy]
  · rintro h ⟨x, hx, ex⟩
    rw [byE_at (by rw [W.len]; exact hx)] at ex
    split at ex
    · omega
    · rename_i c
      rw [W.at_ x hx] at ex
      have : f x = y := by omega
      rw [← this, W.inv x hx] at h
      exact c h
theorem goal_ups {n : Nat} {l : List Nat} (h : Asc 0 n l) : goalE n (byE l (ups n)) = l := by
  refine asc_ext (goal_asc _ _) h fun y => ?_
  rw [(way_ups n).goal]
  exact ⟨fun z => z.2, fun z => ⟨by have := (h.2 y z).2; omega, z⟩⟩
theorem cmp_ups {n : Nat} {l : List Nat} {e : List Int} (h : EntF n l e) : cmpE e (byE (goalE n e) (ups n)) = e := by
  refine list_ext (n := n) (by unfold cmpE; rw [List.length_map, h.len]) h.len fun x hx => ?_
  rw [cmp_at (by rw [h.len]; exact hx)]
  by_cases c : x ∈ l
  · rw [(h.neg hx).mpr c]
    rfl
  · obtain ⟨p1, p2⟩ := h.off hx c
    have r := h.rid x hx c
    rw [if_neg (by omega), byE_at (by rw [ups_len]; exact p1), if_neg p2, ups_at p1]
    omega
theorem ups_cmp {n : Nat} {l : List Nat} {e : List Int} (hl : EntF n l e) : cmpE (byE l (ups n)) e = e := by
  refine list_ext (n := n) (by unfold cmpE; rw [List.length_map, byE_len, ups_len]) hl.len fun x hx => ?_
  rw [cmp_at (by rw [byE_len, ups_len]; exact hx), byE_at (by rw [ups_len]; exact hx)]
  by_cases c : x ∈ l
  · rw [if_pos c, if_pos rfl, hl.key x hx c]
  · rw [if_neg c, ups_at hx, if_neg (by omega), Int.toNat_natCast]
/-! ### the calm table -/
theorem still_ok {n : Nat} (hn : n ≤ 6) : TabOk n (stillT n) := by
  refine TabOk.of_map hn (fun l _ => (way_ups n).ent l) ?_
  refine List.Perm.of_eq ?_
  refine (List.map_congr_left fun l hl => ?_).trans (List.map_id _)
  exact goal_ups (all_ascL hn l hl)
theorem en_still {n : Nat} (hn : n ≤ 6) {l : List Nat} (h : l ∈ allL n) : en n (stillT n) l = byE l (ups n) := en_map hn h
theorem both_still {n : Nat} (hn : n ≤ 6) {T : List (List Int)} (h : TabOk n T) : bothT n T (stillT n) = T := by
  rw [both_map hn h]
  conv => rhs; rw [h.map hn]
  refine List.map_congr_left fun l hl => ?_
  rw [en_still hn (goal_all hn _)]
  exact cmp_ups (h.ent hn hl)
theorem still_both {n : Nat} (hn : n ≤ 6) {T : List (List Int)} (h : TabOk n T) : bothT n (stillT n) T = T := by
  rw [both_map hn (still_ok hn)]
  conv => rhs; rw [h.map hn]
  refine List.map_congr_left fun l hl => ?_
  rw [en_still hn hl, goal_ups (all_ascL hn l hl)]
  exact ups_cmp (h.ent hn hl)
/-! ### tables of deeds -/
def isAll (q l : List Nat) : Bool := q.all fun x => decide (x ∈ l)
def dE (n : Nat) (m : Mv) (l : List Nat) : List Int := byE l (if isAll m.1 l = true then swapW n m.2.1 m.2.2 else ups n)
theorem deed_map (n : Nat) (m : Mv) : deedT n m.1 m.2.1 m.2.2 = (allL n).map (dE n m) := rfl
def dF (m : Mv) (l : List Nat) (x : Nat) : Nat := if isAll m.1 l = true then sw m.2.1 m.2.2 x else x
theorem isAll_iff {q l : List Nat} : isAll q l = true ↔ ∀ x ∈ q, x ∈ l := by
  unfold isAll
  rw [List.all_eq_true]
  simp
section
variable {n : Nat} {m : Mv}
theorem Deed.way (d : Deed n m) (l : List Nat) : Way n (if isAll m.1 l = true then swapW n m.2.1 m.2.2 else ups n) (dF m l) := by
  have h1 := d.ab
  have h2 := d.bn
  unfold dF
  by_cases c : isAll m.1 l = true
  · simp only [c, if_true]
    exact way_swap (by omega) h2 (by omega)
  · simp only [c, if_false]
    exact way_ups n
theorem Deed.ent (d : Deed n m) (l : List Nat) : EntF n l (dE n m l) := (d.way l).ent l
theorem Deed.same (d : Deed n m) {l : List Nat} (hl : Asc 0 n l) : isAll m.1 (goalE n (dE n m l)) = isAll m.1 l := by
  have sub : ∀ x ∈ m.1, dF m l x = x := fun x hx => by
    unfold dF sw
    split
    · rw [if_neg (show ¬ x = m.2.2 from fun z => d.nb (z ▸ hx)), if_neg (show ¬ x = m.2.1 from fun z => d.na (z ▸ hx))]
    · rfl
  rw [Bool.eq_iff_iff, isAll_iff, isAll_iff]
  refine forall_congr' fun x => forall_congr' fun hx => ?_
  show x ∈ goalE n (byE l _) ↔ _
  rw [(d.way l).goal, sub x hx]
  have := d.asc.2 x hx
  exact ⟨fun z => z.2, fun z => ⟨by omega, z⟩⟩
theorem Deed.back (d : Deed n m) {l : List Nat} (hl : Asc 0 n l) : goalE n (dE n m (goalE n (dE n m l))) = l ∧ cmpE (dE n m l) (dE n m (goalE n (dE n m l))) = byE l (ups n) := by
  have es := d.same hl
  have ef : dF m (goalE n (dE n m l)) = dF m l := by funext x; unfold dF; rw [es]
  have W := d.way l
  have W2 := d.way (goalE n (dE n m l))
  rw [ef] at W2
  refine ⟨asc_ext (goal_asc _ _) hl fun y => ?_, ?_⟩
  · show y ∈ goalE n (byE _ _) ↔ _
    rw [W2.goal]
    show y < n ∧ dF m l y ∈ goalE n (byE _ _) ↔ _
    rw [W.goal]
    constructor
    · rintro ⟨h1, h2, h3⟩
      rwa [W.inv y h1] at h3
    · intro h
      have h1 : y < n := by have := (hl.2 y h).2; omega
      exact ⟨h1, W.lt y h1, by rw [W.inv y h1]; exact h⟩
  · refine list_ext (n := n) (by unfold cmpE; rw [List.length_map]; exact (d.ent l).len) (by rw [byE_len, ups_len]) fun x hx => ?_
    rw [cmp_at (by rw [(d.ent l).len]; exact hx), byE_at (by rw [ups_len]; exact hx)]
    by_cases c : x ∈ l
    · rw [if_pos c, (d.ent l).key x hx c]
      rfl
    · have e1 : (dE n m l).getD x 0 = (dF m l x : Int) := by
        unfold dE
        rw [byE_at (by rw [W.len]; exact hx), if_neg c, W.at_ x hx]
      obtain ⟨p1, p2⟩ := (d.ent l).off hx c
      rw [e1, Int.toNat_natCast] at p1 p2
      rw [e1, if_neg (by omega), if_neg c, ups_at hx, Int.toNat_natCast]
      show (byE _ _).getD _ 0 = _
      rw [byE_at (by rw [W2.len]; exact p1), if_neg p2, W2.at_ _ p1, W.inv x hx]
theorem perm_inv {α : Type} [DecidableEq α] {L : List α} {g : α → α} (nd : L.Nodup) (cl : ∀ x ∈ L, g x ∈ L) (iv : ∀ x ∈ L, g (g x) = x) : (L.map g).Perm L := by
  have nd2 : (L.map g).Nodup := by
    show (L.map g).Pairwise (· ≠ ·)
    rw [List.pairwise_map]
    refine List.Pairwise.imp_of_mem (fun {a b} ha hb h z => h ?_) nd
    rw [← iv a ha, ← iv b hb, z]
  refine (List.perm_ext_iff_of_nodup nd2 nd).mpr fun a => ⟨fun h => ?_, fun h => ?_⟩
  · obtain ⟨x, hx, rfl⟩ := List.mem_map.mp h
    exact cl x hx
  · exact List.mem_map.mpr ⟨g a, cl a h, iv a h⟩
theorem all_nodup {n : Nat} (hn : n ≤ 6) : (allL n).Nodup := by
  have h : ((allL n).map (num n)).Pairwise (· ≠ ·) := by rw [lots_nums n (by omega)]; exact List.nodup_range
  rw [List.pairwise_map] at h
  exact h.imp fun h z => h (by rw [z])
theorem Deed.ok (d : Deed n m) (hn : n ≤ 6) : TabOk n (deedT n m.1 m.2.1 m.2.2) := by
  rw [deed_map]
  exact TabOk.of_map hn (fun l _ => d.ent l) (perm_inv (g := fun l => goalE n (dE n m l)) (all_nodup hn) (fun l _ => goal_all hn _) fun l hl => (d.back (all_ascL hn l hl)).1)
theorem Deed.twice (d : Deed n m) (hn : n ≤ 6) : bothT n (deedT n m.1 m.2.1 m.2.2) (deedT n m.1 m.2.1 m.2.2) = stillT n := by
  rw [both_map hn (d.ok hn)]
  refine List.map_congr_left fun l hl => ?_
  rw [deed_map, en_map hn hl, en_map hn (goal_all hn _)]
  exact (d.back (all_ascL hn l hl)).2
end
theorem TabOk.gl_inj' {n : Nat} {T : List (List Int)} (hn : n ≤ 6) (h : TabOk n T) {a b : List Nat} (ha : a ∈ allL n) (hb : b ∈ allL n) (e : goalE n (en n T a) = goalE n (en n T b)) : a = b := by
  have nd : ((allL n).map fun l => goalE n (en n T l)).Pairwise (· ≠ ·) := (h.goalp hn).symm.nodup (all_nodup hn)
  rw [List.pairwise_map, List.pairwise_iff_getElem] at nd
  obtain ⟨i, hi, rfl⟩ := List.getElem_of_mem ha
  obtain ⟨j, hj, rfl⟩ := List.getElem_of_mem hb
  rcases Nat.lt_trichotomy i j with c | c | c
  · exact absurd e (nd i j hi hj c)
  · subst c; rfl
  · exact absurd e.symm (nd j i hj hi c)
end Kr
namespace Kr
open PySem PySem.Spec PyProof.Rows L2
/-! ### the law's tables by deeds, deed by deed -/
theorem setGo_keep {x : Nat} : ∀ (k : Nat) (r acc : List Int), (∀ j, j < r.length → r.getD j 0 ≠ (x : Int)) → (setGo k r acc).getD x 0 = acc.getD x 0
  | _, [], _, _ => rfl
  | k, z :: r, acc, h => by
    unfold setGo
    rw [setGo_keep (k + 1) r _ fun j hj => by
      have := h (j + 1) (by rw [List.length_cons]; omega)
      simpa using this]
    have h0 := h 0 (by rw [List.length_cons]; omega)
    have h0 : z ≠ (x : Int) := by simpa using h0
    split
    · rename_i c
      rw [List.getD_eq_getElem?_getD, List.getElem?_set_ne (by omega), ← List.getD_eq_getElem?_getD]
    · rfl
theorem setGo_put {x : Nat} : ∀ (k : Nat) (r acc : List Int) (j : Nat), j < r.length → r.getD j 0 = (x : Int) → (∀ i, i < r.length → r.getD i 0 = (x : Int) → i = j) → x < acc.length → (setGo k r acc).getD x 0 = ((k + j : Nat) : Int)
  | _, [], _, j, h, _, _, _ => by simp at h
  | k, z :: r, acc, 0, h, e, u, hx => by
    unfold setGo
    have e : z = (x : Int) := by simpa using e
    rw [setGo_keep (k + 1) r _ fun i hi ei => by
      have := u (i + 1) (by rw [List.length_cons]; omega) (by simpa using ei)
      omega]
    rw [if_pos (by omega), e, Int.toNat_natCast, List.getD_eq_getElem?_getD, List.getElem?_set_self hx]
    rfl
  | k, z :: r, acc, j + 1, h, e, u, hx => by
    unfold setGo
    rw [setGo_put (k + 1) r _ j (by rw [List.length_cons] at h; omega) (by simpa using e) (fun i hi ei => by
      have := u (i + 1) (by rw [List.length_cons]; omega) (by simpa using ei)
      omega) (by split <;> first | (rw [List.length_set]; exact hx) | exact hx)]
    congr 1
    omega
/-- riders at their places: what lies at each place -/
structure Lies (n : Nat) (l : List Nat) (ls : List Int) : Prop where
  len : ls.length = n
  at_ : ∀ y, y < n → ls.getD y 0 = -1 ∨ ∃ x : Nat, x < n ∧ x ∉ l ∧ ls.getD y 0 = x
  has : ∀ x, x < n → x ∉ l → ∃ y, y < n ∧ ls.getD y 0 = (x : Int)
  one : ∀ y z, y < n → z < n → 0 ≤ ls.getD y 0 → ls.getD y 0 = ls.getD z 0 → y = z
section
variable {n : Nat} {l : List Nat} {ls : List Int}
theorem Lies.put (h : Lies n l ls) {x y : Nat} (hx : x < n) (hy : y < n) (e : ls.getD y 0 = (x : Int)) : (lawE n ls).getD x 0 = (y : Int) := by
  unfold lawE
  rw [setGo_put 0 ls _ y (by rw [h.len]; exact hy) e (fun i hi ei => h.one i y (by rw [← h.len]; exact hi) hy (by omega) (ei.trans e.symm)) (by rw [List.length_replicate]; exact hx), Nat.zero_add]
theorem Lies.keep (h : Lies n l ls) {x : Nat} (hx : x < n) (c : x ∈ l) : (lawE n ls).getD x 0 = -1 := by
  unfold lawE
  rw [setGo_keep 0 ls _ fun j hj ej => ?_]
  · rw [List.getD_eq_getElem?_getD, List.getElem?_replicate, if_pos hx]
    rfl
  · rcases h.at_ j (by rw [← h.len]; exact hj) with z | ⟨x', _, c', z⟩
    · rw [z] at ej; omega
    · rw [z] at ej
      have : x' = x := by omega
      exact c' (this ▸ c)
theorem lawE_len (n : Nat) (ls : List Int) : (lawE n ls).length = n := by unfold lawE; rw [setGo_len, List.length_replicate]
theorem Lies.ent (h : Lies n l ls) : EntF n l (lawE n ls) := by
  refine ⟨lawE_len n ls, fun x hx c => h.keep hx c, fun x hx c => ?_, fun x y hx hy cx cy z => ?_⟩
  · obtain ⟨y, hy, e⟩ := h.has x hx c
    rw [h.put hx hy e]
    omega
  · obtain ⟨u, hu, eu⟩ := h.has x hx cx
    obtain ⟨v, hv, ev⟩ := h.has y hy cy
    rw [h.put hx hu eu, h.put hy hv ev] at z
    have : u = v := by omega
    subst this
    rw [eu] at ev
    omega
theorem Lies.goal (h : Lies n l ls) {y : Nat} (hy : y < n) : y ∈ goalE n (lawE n ls) ↔ ¬ 0 ≤ ls.getD y 0 := by
  rw [mem_goal, mem_e (lawE_len n ls)]
  constructor
  · rintro ⟨_, h2⟩ c
    rcases h.at_ y hy with z | ⟨x, hx, _, z⟩
    · omega
    · exact h2 ⟨x, hx, h.put hx hy z⟩
  · refine fun c => ⟨hy, ?_⟩
    rintro ⟨x, hx, e⟩
    by_cases k : x ∈ l
    · rw [h.keep hx k] at e
      omega
    · obtain ⟨u, hu, eu⟩ := h.has x hx k
      rw [h.put hx hu eu] at e
      have : u = y := by omega
      subst this
      omega
theorem lies_start (n : Nat) (l : List Nat) : Lies n l (stL n l) := by
  have at_ : ∀ x, x < n → (stL n l).getD x 0 = if x ∈ l then -1 else (x : Int) := fun x hx => by
    unfold stL
    rw [List.getD_eq_getElem?_getD, List.getElem?_map, List.getElem?_range hx]
    rfl
  refine ⟨by unfold stL; rw [List.length_map, List.length_range], fun y hy => ?_, fun x hx c => ⟨x, hx, by rw [at_ x hx, if_neg c]⟩, fun y z hy hz p e => ?_⟩
  · rw [at_ y hy]
    by_cases c : y ∈ l
    · rw [if_pos c]; exact .inl rfl
    · rw [if_neg c]; exact .inr ⟨y, hy, c, rfl⟩
  · rw [at_ y hy] at p e
    rw [at_ z hz] at e
    split at e
    · rename_i c
      rw [if_pos c] at p
      omega
    · split at e <;> omega
/-- two places exchanged, or not -/
theorem Lies.moved (h : Lies n l ls) {m : Mv} (d : Deed n m) : Lies n l (mvL ls m) ∧ lawE n (mvL ls m) = cmpE (lawE n ls) (dE n m (goalE n (lawE n ls))) := by
  have hab := d.ab
  have hbn := d.bn
  have hcond : m.1.all (fun x => !decide (0 ≤ ls.getD x 0)) = isAll m.1 (goalE n (lawE n ls)) := by
    rw [Bool.eq_iff_iff, isAll_iff, List.all_eq_true]
    refine forall_congr' fun x => forall_congr' fun hx => ?_
    rw [h.goal (by have := (d.asc.2 x hx).2; omega)]
    simp
  have W := d.way (goalE n (lawE n ls))
  have at_ : ∀ y, y < n → (mvL ls m).getD y 0 = ls.getD (dF m (goalE n (lawE n ls)) y) 0 := fun y hy => by
    unfold mvL dF
    rw [hcond]
    split
    · unfold sw
      rw [List.getD_eq_getElem?_getD, List.getElem?_set, List.length_set, h.len, List.getElem?_set, h.len]
      by_cases c1 : y = m.2.2
      · rw [if_pos c1.symm, if_pos hbn, if_pos c1]
        rfl
      · rw [if_neg (fun z => c1 z.symm), if_neg c1]
        by_cases c2 : y = m.2.1
        · rw [if_pos c2.symm, if_pos (by omega), if_pos c2]
          rfl
        · rw [if_neg (fun z => c2 z.symm), if_neg c2, List.getD_eq_getElem?_getD]
    · rfl
  have hl : (mvL ls m).length = n := by
    unfold mvL
    split
    · rw [List.length_set, List.length_set]; exact h.len
    · exact h.len
  have hL : Lies n l (mvL ls m) := by
    refine ⟨hl, fun y hy => ?_, fun x hx c => ?_, fun y z hy hz p e => ?_⟩
    · rw [at_ y hy]
      exact h.at_ _ (W.lt y hy)
    · obtain ⟨y, hy, e⟩ := h.has x hx c
      exact ⟨_, W.lt y hy, by rw [at_ _ (W.lt y hy), W.inv y hy]; exact e⟩
    · rw [at_ y hy] at p e
      rw [at_ z hz] at e
      have := h.one _ _ (W.lt y hy) (W.lt z hz) p e
      rw [← W.inv y hy, this, W.inv z hz]
  refine ⟨hL, list_ext (n := n) (lawE_len n _) (by unfold cmpE; rw [List.length_map]; exact lawE_len n _) fun x hx => ?_⟩
  rw [cmp_at (by rw [lawE_len]; exact hx)]
  by_cases c : x ∈ l
  · rw [hL.keep hx c, h.keep hx c]
    rfl
  · obtain ⟨y, hy, e⟩ := h.has x hx c
    have e2 := h.put hx hy e
    obtain ⟨p1, p2⟩ := h.ent.off hx c
    rw [e2, Int.toNat_natCast] at p1 p2
    rw [e2, if_neg (by omega), Int.toNat_natCast, hL.put hx (W.lt y hy) (by rw [at_ _ (W.lt y hy), W.inv y hy]; exact e)]
    show _ = (byE _ _).getD _ 0
    rw [byE_at (by rw [W.len]; exact p1), if_neg p2, W.at_ _ p1]
end
theorem lies_all {n : Nat} {l : List Nat} : ∀ (ms : List Mv) (ls : List Int), Lies n l ls → (∀ m ∈ ms, Deed n m) → Lies n l (ms.foldl mvL ls)
  | [], _, h, _ => h
  | m :: ms, ls, h, d => lies_all ms _ (h.moved (d m List.mem_cons_self)).1 fun x hx => d x (List.mem_cons_of_mem _ hx)
theorem made_nil {n : Nat} (hn : n ≤ 6) : madeT n [] = stillT n := by
  refine List.map_congr_left fun l hl => ?_
  show lawE n (stL n l) = _
  have h := lies_start n l
  have at_ : ∀ x, x < n → (stL n l).getD x 0 = if x ∈ l then -1 else (x : Int) := fun x hx => by
    unfold stL
    rw [List.getD_eq_getElem?_getD, List.getElem?_map, List.getElem?_range hx]
    rfl
  refine list_ext (n := n) (lawE_len n _) (by rw [byE_len, ups_len]) fun x hx => ?_
  rw [byE_at (by rw [ups_len]; exact hx)]
  by_cases c : x ∈ l
  · rw [if_pos c, h.keep hx c]
  · rw [if_neg c, ups_at hx, h.put hx hx (by rw [at_ x hx, if_neg c])]
theorem made_ent {n : Nat} {ms : List Mv} (d : ∀ m ∈ ms, Deed n m) (l : List Nat) : EntF n l (madeE n ms l) := (lies_all ms _ (lies_start n l) d).ent
theorem made_snoc {n : Nat} (hn : n ≤ 6) {ms : List Mv} {m : Mv} (d : ∀ x ∈ ms ++ [m], Deed n x) : madeT n (ms ++ [m]) = bothT n (madeT n ms) (deedT n m.1 m.2.1 m.2.2) := by
  unfold madeT bothT
  rw [List.map_map]
  refine List.map_congr_left fun l hl => ?_
  have dm := d m (List.mem_append_right _ List.mem_cons_self)
  have h := (lies_all ms _ (lies_start n l) fun x hx => d x (List.mem_append_left _ hx)).moved dm
  show lawE n ((ms ++ [m]).foldl mvL (stL n l)) = cmpE (madeE n ms l) (en n (deedT n m.1 m.2.1 m.2.2) (goalE n (madeE n ms l)))
  rw [List.foldl_append, deed_map, en_map hn (goal_all hn _)]
  exact h.2
theorem made_ok {n : Nat} (hn : n ≤ 6) {ms : List Mv} (d : ∀ m ∈ ms, Deed n m) : TabOk n (madeT n ms) := by
  have : ∀ k, k ≤ ms.length → TabOk n (madeT n (ms.take k)) := fun k => by
    induction k with
    | zero =>
      intro _
      rw [List.take_zero, made_nil hn]
      exact still_ok hn
    | succ k ih =>
      intro hk
      have e : ms.take (k + 1) = ms.take k ++ [ms[k]] := by rw [List.take_add_one, List.getElem?_eq_getElem (by omega)]; rfl
      have d2 : ∀ x ∈ ms.take k ++ [ms[k]], Deed n x := fun x hx => d x (List.take_subset _ _ (e ▸ hx))
      rw [e, made_snoc hn d2]
      exact (ih (by omega)).both hn ((d2 _ (List.mem_append_right _ List.mem_cons_self)).ok hn)
  have := this ms.length (Nat.le_refl _)
  rwa [List.take_length] at this
theorem made_one {n : Nat} (hn : n ≤ 6) {m : Mv} (d : Deed n m) : madeT n [m] = deedT n m.1 m.2.1 m.2.2 := by
  have := made_snoc (ms := []) (m := m) hn fun x hx => by
    rw [List.nil_append, List.mem_singleton] at hx
    exact hx ▸ d
  rw [List.nil_append, made_nil hn, still_both hn (d.ok hn)] at this
  exact this
end Kr
namespace Kr
open PySem PySem.Spec PyProof.Rows L2
/-! ### tables turned back -/
theorem EntF.lies {n : Nat} {l : List Nat} {e : List Int} (h : EntF n l e) : Lies n (goalE n e) e := by
  refine ⟨h.len, fun y hy => ?_, fun x hx c => ?_, fun y z hy hz p q => ?_⟩
  · by_cases c : y ∈ l
    · exact .inl (h.key y hy c)
    · obtain ⟨p1, p2⟩ := h.off hy c
      have := h.rid y hy c
      exact .inr ⟨_, p1, p2, by omega⟩
  · obtain ⟨y, hy, _, e1⟩ := h.from hx c
    exact ⟨y, hy, e1⟩
  · have cy : y ∉ l := fun c => by rw [h.key y hy c] at p; omega
    have cz : z ∉ l := fun c => by rw [q, h.key z hz c] at p; omega
    exact h.inj y z hy hz cy cz q
/-- the entry that leads back -/
theorem EntF.back {n : Nat} {l : List Nat} {e : List Int} (hl : Asc 0 n l) (h : EntF n l e) : EntF n (goalE n e) (lawE n e) ∧ goalE n (lawE n e) = l := by
  refine ⟨h.lies.ent, asc_ext (goal_asc _ _) hl fun y => ?_⟩
  by_cases hy : y < n
  · rw [h.lies.goal hy]
    constructor
    · intro c
      refine Classical.byContradiction fun k => c (h.rid y hy k).1
    · intro k
      rw [h.key y hy k]
      decide
  · exact ⟨fun c => absurd (mem_goal.mp c).1 hy, fun c => absurd (by have := (hl.2 y c).2; omega) hy⟩
theorem back_at {n : Nat} {l : List Nat} {e : List Int} (h : EntF n l e) {x : Nat} (hx : x < n) (c : x ∉ l) : (lawE n e).getD (e.getD x 0).toNat 0 = (x : Int) := by
  obtain ⟨p1, p2⟩ := h.off hx c
  have := h.rid x hx c
  exact h.lies.put p1 hx (by omega)
theorem cmp_back {n : Nat} {l : List Nat} {e : List Int} (h : EntF n l e) : cmpE e (lawE n e) = byE l (ups n) := by
  refine list_ext (n := n) (by unfold cmpE; rw [List.length_map, h.len]) (by rw [byE_len, ups_len]) fun x hx => ?_
  rw [cmp_at (by rw [h.len]; exact hx), byE_at (by rw [ups_len]; exact hx)]
  by_cases c : x ∈ l
  · rw [if_pos c, (h.neg hx).mpr c, if_pos rfl]
  · rw [if_neg c, if_neg (fun z => c ((h.neg hx).mp z)), back_at h hx c, ups_at hx]
theorem back_back {n : Nat} {l : List Nat} {e : List Int} (hl : Asc 0 n l) (h : EntF n l e) : lawE n (lawE n e) = e := by
  obtain ⟨g, eg⟩ := h.back hl
  obtain ⟨k, ek⟩ := g.back (goal_asc _ _)
  rw [eg] at k
  refine list_ext (n := n) (lawE_len _ _) h.len fun x hx => ?_
  by_cases c : x ∈ l
  · rw [k.key x hx c, h.key x hx c]
  · obtain ⟨p1, p2⟩ := h.off hx c
    have e1 := back_at g p1 p2
    rw [back_at h hx c, Int.toNat_natCast] at e1
    have := h.rid x hx c
    rw [e1]
    omega
theorem back_cmp {n : Nat} {l : List Nat} {e : List Int} (hl : Asc 0 n l) (h : EntF n l e) : cmpE (lawE n e) e = byE (goalE n e) (ups n) := by
  have := cmp_back (h.back hl).1
  rwa [back_back hl h] at this
/-- the lot that is led to g -/
def srcL (n : Nat) (T : List (List Int)) (g : List Nat) : List Nat := ((allL n).find? fun l => decide (goalE n (en n T l) = g)).getD []
def turnT (n : Nat) (T : List (List Int)) : List (List Int) := (allL n).map fun g => lawE n (en n T (srcL n T g))
section
variable {n : Nat} {T U : List (List Int)}
theorem TabOk.src (hn : n ≤ 6) (h : TabOk n T) {g : List Nat} (hg : g ∈ allL n) : srcL n T g ∈ allL n ∧ goalE n (en n T (srcL n T g)) = g := by
  have hm : g ∈ (allL n).map fun l => goalE n (en n T l) := (h.goalp hn).symm.subset hg
  obtain ⟨l, hl, e⟩ := List.mem_map.mp hm
  unfold srcL
  cases hf : (allL n).find? fun l => decide (goalE n (en n T l) = g) with
  | none =>
    have := List.find?_eq_none.mp hf l hl
    exact absurd (decide_eq_true e) this
  | some z =>
    have p := List.find?_some hf
    exact ⟨List.mem_of_find?_eq_some hf, of_decide_eq_true p⟩
theorem TabOk.src_goal (hn : n ≤ 6) (h : TabOk n T) {l : List Nat} (hl : l ∈ allL n) : srcL n T (goalE n (en n T l)) = l := by
  obtain ⟨h1, h2⟩ := h.src hn (goal_all hn (en n T l))
  exact h.gl_inj' hn h1 hl h2
theorem en_turn (hn : n ≤ 6) {g : List Nat} (hg : g ∈ allL n) : en n (turnT n T) g = lawE n (en n T (srcL n T g)) := en_map hn hg
theorem TabOk.turn_ent (hn : n ≤ 6) (h : TabOk n T) {g : List Nat} (hg : g ∈ allL n) : EntF n g (lawE n (en n T (srcL n T g))) ∧ goalE n (lawE n (en n T (srcL n T g))) = srcL n T g := by
  obtain ⟨h1, h2⟩ := h.src hn hg
  have := (h.ent hn h1).back (all_ascL hn _ h1)
  rwa [h2] at this
theorem TabOk.turn (hn : n ≤ 6) (h : TabOk n T) : TabOk n (turnT n T) := by
  refine TabOk.of_map hn (fun g hg => (h.turn_ent hn hg).1) ?_
  have e : ((allL n).map fun g => goalE n (lawE n (en n T (srcL n T g)))) = (allL n).map (srcL n T) := List.map_congr_left fun g hg => (h.turn_ent hn hg).2
  rw [e]
  have p := ((h.goalp hn).symm.map (srcL n T))
  refine p.trans (List.Perm.of_eq ?_)
  rw [List.map_map]
  exact (List.map_congr_left fun l hl => h.src_goal hn hl).trans (List.map_id _)
theorem both_turn (hn : n ≤ 6) (h : TabOk n T) : bothT n T (turnT n T) = stillT n := by
  rw [both_map hn h]
  refine List.map_congr_left fun l hl => ?_
  rw [en_turn hn (goal_all hn _), h.src_goal hn hl]
  exact cmp_back (h.ent hn hl)
theorem turn_both (hn : n ≤ 6) (h : TabOk n T) : bothT n (turnT n T) T = stillT n := by
  rw [both_map hn (h.turn hn)]
  refine List.map_congr_left fun g hg => ?_
  obtain ⟨h1, h2⟩ := h.src hn hg
  rw [en_turn hn hg, (h.turn_ent hn hg).2]
  have := back_cmp (all_ascL hn _ h1) (h.ent hn h1)
  rwa [h2] at this
theorem inv_one (hn : n ≤ 6) (h : TabOk n T) {W : List (List Int)} (hW : TabOk n W) (e : bothT n T W = stillT n) : W = turnT n T := by
  rw [← still_both hn hW, ← turn_both hn h, both_assoc hn (h.turn hn) h hW, e, both_still hn (h.turn hn)]
theorem turn_turn (hn : n ≤ 6) (h : TabOk n T) : turnT n (turnT n T) = T := (inv_one hn (h.turn hn) h (turn_both hn h)).symm
theorem turn_of_both (hn : n ≤ 6) (h : TabOk n T) (g : TabOk n U) : turnT n (bothT n T U) = bothT n (turnT n U) (turnT n T) := by
  refine (inv_one hn (h.both hn g) ((g.turn hn).both hn (h.turn hn)) ?_).symm
  rw [both_assoc hn h g ((g.turn hn).both hn (h.turn hn)), ← both_assoc hn g (g.turn hn) (h.turn hn), both_turn hn g, still_both hn (h.turn hn), both_turn hn h]
/-! ### lists that are filled place by place -/
def putAll {α : Type} (ps : List (Nat × α)) (L : List α) : List α := ps.foldl (fun L p => L.set p.1 p.2) L
theorem putAll_len {α : Type} : ∀ (ps : List (Nat × α)) (L : List α), (putAll ps L).length = L.length
  | [], _ => rfl
  | p :: ps, L => by
    unfold putAll
    rw [List.foldl_cons]
    exact (putAll_len ps _).trans List.length_set
theorem putAll_keep {α : Type} {i : Nat} : ∀ (ps : List (Nat × α)) (L : List α), (∀ p ∈ ps, p.1 ≠ i) → (putAll ps L)[i]? = L[i]?
  | [], _, _ => rfl
  | p :: ps, L, h => by
    unfold putAll
    rw [List.foldl_cons]
    refine (putAll_keep ps _ fun q hq => h q (List.mem_cons_of_mem _ hq)).trans ?_
    exact List.getElem?_set_ne (h p List.mem_cons_self)
theorem putAll_at {α : Type} {i : Nat} {v : α} : ∀ (ps : List (Nat × α)) (L : List α), (ps.map (·.1)).Nodup → (i, v) ∈ ps → i < L.length → (putAll ps L)[i]? = some v
  | p :: ps, L, nd, h, hi => by
    have nd2 : p.1 ∉ ps.map (·.1) ∧ (ps.map (·.1)).Nodup := by simpa using nd
    unfold putAll
    rw [List.foldl_cons]
    rcases List.mem_cons.mp h with c | c
    · subst c
      refine (putAll_keep ps _ fun q hq z => nd2.1 (List.mem_map.mpr ⟨q, hq, z⟩)).trans ?_
      exact List.getElem?_set_self hi
    · exact putAll_at ps _ nd2.2 c (by rw [List.length_set]; exact hi)
theorem putAll_snoc {α : Type} (ps : List (Nat × α)) (p : Nat × α) (L : List α) : putAll (ps ++ [p]) L = (putAll ps L).set p.1 p.2 := by
  unfold putAll
  rw [List.foldl_append]
  rfl
theorem putAll_mem {α : Type} {d : α} : ∀ (ps : List (Nat × α)) (L : List α), d ∈ putAll ps L → d ∈ L ∨ ∃ p ∈ ps, d = p.2
  | [], _, h => .inl h
  | p :: ps, L, h => by
    unfold putAll at h
    rw [List.foldl_cons] at h
    rcases putAll_mem ps _ h with c | ⟨q, hq, e⟩
    · rcases List.mem_or_eq_of_mem_set c with k | k
      · exact .inl k
      · exact .inr ⟨p, List.mem_cons_self, k⟩
    · exact .inr ⟨q, List.mem_cons_of_mem _ hq, e⟩
def backP (n : Nat) (e : List Int) : Nat × PyData := (num n (goalE n e), entD (lawE n e))
theorem put_flat (n k : Nat) (T : List (List Int)) : flatTA (putAll (T.map (backP n)) (List.replicate k (.tuple []))) = true := flatTA_of fun d hd => by
  rcases putAll_mem _ _ hd with c | ⟨p, hp, rfl⟩
  · rw [List.eq_of_mem_replicate c]
    rfl
  · obtain ⟨e, _, rfl⟩ := List.mem_map.mp hp
    exact ent_flat _
theorem turn_put (hn : n ≤ 6) (h : TabOk n T) : putAll (T.map (backP n)) (List.replicate (2 ^ n) (.tuple [])) = (turnT n T).map entD := by
  have hT := h.map hn
  have nd : ((T.map (backP n)).map (·.1)).Nodup := by
    rw [List.map_map]
    have e : (T.map ((fun x : Nat × PyData => x.1) ∘ backP n)) = (T.map (goalE n)).map (num n) := by rw [List.map_map]; rfl
    rw [e]
    have := (h.goals.map (num n))
    rw [lots_nums n (by omega)] at this
    exact this.symm.nodup List.nodup_range
  refine List.ext_getElem? fun i => ?_
  by_cases hi : i < 2 ^ n
  · obtain ⟨g, hg⟩ : ∃ g, (allL n)[i]? = some g := ⟨_, List.getElem?_eq_getElem (by rw [all_len n (by omega)]; exact hi)⟩
    have hga := List.mem_of_getElem? hg
    obtain ⟨h1, h2⟩ := h.src hn hga
    have hmem : (i, entD (lawE n (en n T (srcL n T g)))) ∈ T.map (backP n) := by
      refine List.mem_map.mpr ⟨en n T (srcL n T g), List.mem_of_getElem? (h.get hn h1), ?_⟩
      unfold backP
      rw [h2, (all_num_at hn hg).1]
    rw [putAll_at _ _ nd hmem (by rw [List.length_replicate]; exact hi)]
    unfold turnT
    rw [List.getElem?_map, List.getElem?_map, hg]
    rfl
  · rw [List.getElem?_eq_none (by rw [putAll_len, List.length_replicate]; omega), List.getElem?_eq_none (by rw [List.length_map, (h.turn hn).len hn]; omega)]
end
def spUndone : Sp := fun vs H Q _ => ∃ (n : Nat) (v : V) (T : List (List Int)), vs = [.int (n : Int), v] ∧ n ≤ 6 ∧ Dq H v (tabD T) ∧ TabOk n T ∧ ∀ H' r, Same H H' → Dq H' r (tabD (turnT n T)) → Q r H'
def spTurnB : Sp := fun vs H Q _ => ∃ (n : Nat) (a : Addr) (l : List Nat) (e : List Int), vs = [.ref a] ∧ n ≤ 6 ∧ H a = some (.tup (e.map V.int)) ∧ EntF n l e ∧ ∀ H' t, Same H H' → H' t = some (.tup ((lawE n e).map V.int)) → Q (.ref t) H'
end Kr
namespace Kr
open PySem PySem.Spec PyProof.Rows L2
/-! ### the rounds of a table's riders -/
abbrev Pr := Nat × Nat
def lotI (n i : Nat) : List Nat := (allL n).getD i []
/-- a lot's number, and a place without a key -/
def prs (n : Nat) : List Pr := (List.range (2 ^ n)).flatMap fun i => ((List.range n).filter fun x => !decide (x ∈ lotI n i)).map fun x => (i, x)
def stp (n : Nat) (T : List (List Int)) (p : Pr) : Pr := (num n (goalE n (T.getD p.1 [])), ((T.getD p.1 []).getD p.2 0).toNat)
def itr (S : Pr → Pr) : Nat → Pr → Pr
  | 0, p => p
  | k + 1, p => itr S k (S p)
theorem itr_add (S : Pr → Pr) : ∀ (a b : Nat) (p : Pr), itr S (a + b) p = itr S b (itr S a p)
  | 0, b, p => by rw [Nat.zero_add]; rfl
  | a + 1, b, p => by
    rw [Nat.add_right_comm]
    exact itr_add S a b (S p)
theorem itr_succ (S : Pr → Pr) (k : Nat) (p : Pr) : itr S (k + 1) p = S (itr S k p) := itr_add S k 1 p
theorem itr_fix {S : Pr → Pr} {m : Nat} {p : Pr} (h : itr S m p = p) : ∀ q, itr S (m * q) p = p
  | 0 => rfl
  | q + 1 => by rw [Nat.mul_succ, itr_add, itr_fix h q, h]
theorem mem_prs {n : Nat} {p : Pr} : p ∈ prs n ↔ p.1 < 2 ^ n ∧ p.2 < n ∧ p.2 ∉ lotI n p.1 := by
  unfold prs
  rw [List.mem_flatMap]
  constructor
  · rintro ⟨i, hi, h⟩
    obtain ⟨x, hx, rfl⟩ := List.mem_map.mp h
    obtain ⟨h1, h2⟩ := List.mem_filter.mp hx
    exact ⟨List.mem_range.mp hi, List.mem_range.mp h1, by simpa using h2⟩
  · rintro ⟨h1, h2, h3⟩
    exact ⟨p.1, List.mem_range.mpr h1, List.mem_map.mpr ⟨p.2, List.mem_filter.mpr ⟨List.mem_range.mpr h2, by simpa using h3⟩, rfl⟩⟩
theorem prs_len : ∀ n : Nat, n < 7 → (prs n).length ≤ 192 := by decide +kernel
theorem sub_len {α : Type} [DecidableEq α] : ∀ {C L : List α}, C.Nodup → (∀ x ∈ C, x ∈ L) → C.length ≤ L.length
  | [], _, _, _ => Nat.zero_le _
  | c :: C, L, nd, h => by
    obtain ⟨h1, h2⟩ := List.nodup_cons.mp nd
    have hc := h c List.mem_cons_self
    have := sub_len (L := L.erase c) h2 fun x hx => (List.mem_erase_of_ne (fun (z : x = c) => h1 (by rw [← z]; exact hx))).mpr (h x (List.mem_cons_of_mem _ hx))
    rw [List.length_erase_of_mem hc] at this
    have := List.length_pos_of_mem hc
    rw [List.length_cons]
    omega
section
variable {n : Nat} {T U : List (List Int)}
theorem lot_get (hn : n ≤ 6) {i : Nat} (hi : i < 2 ^ n) : (allL n)[i]? = some (lotI n i) := by
  have : i < (allL n).length := by rw [all_len n (by omega)]; exact hi
  unfold lotI
  rw [List.getD_eq_getElem?_getD, List.getElem?_eq_getElem this]
  rfl
theorem lot_num (hn : n ≤ 6) {i : Nat} (hi : i < 2 ^ n) : num n (lotI n i) = i := (all_num_at hn (lot_get hn hi)).1
theorem lot_mem (hn : n ≤ 6) {i : Nat} (hi : i < 2 ^ n) : lotI n i ∈ allL n := List.mem_of_getElem? (lot_get hn hi)
theorem lot_of_num (hn : n ≤ 6) {l : List Nat} (hl : l ∈ allL n) : lotI n (num n l) = l := by
  have h := all_at hn hl
  unfold lotI
  rw [List.getD_eq_getElem?_getD, h]
  rfl
theorem en_at (hn : n ≤ 6) {i : Nat} (hi : i < 2 ^ n) (T : List (List Int)) : en n T (lotI n i) = T.getD i [] := by
  unfold en
  rw [lot_num hn hi]
theorem TabOk.at_i (hn : n ≤ 6) (h : TabOk n T) {i : Nat} (hi : i < 2 ^ n) : EntF n (lotI n i) (T.getD i []) := by
  rw [← en_at hn hi]
  exact h.ent hn (lot_mem hn hi)
theorem stp_in (hn : n ≤ 6) (h : TabOk n T) {p : Pr} (hp : p ∈ prs n) : stp n T p ∈ prs n := by
  obtain ⟨h1, h2, h3⟩ := mem_prs.mp hp
  have hE := h.at_i hn h1
  have hg := goal_all hn (T.getD p.1 [])
  refine mem_prs.mpr ⟨all_num hn hg, ?_⟩
  show ((T.getD p.1 []).getD p.2 0).toNat < n ∧ ((T.getD p.1 []).getD p.2 0).toNat ∉ lotI n (num n (goalE n (T.getD p.1 [])))
  rw [lot_of_num hn hg]
  exact hE.off h2 h3
theorem stp_inj (hn : n ≤ 6) (h : TabOk n T) {p q : Pr} (hp : p ∈ prs n) (hq : q ∈ prs n) (e : stp n T p = stp n T q) : p = q := by
  obtain ⟨h1, h2, h3⟩ := mem_prs.mp hp
  obtain ⟨g1, g2, g3⟩ := mem_prs.mp hq
  have e1 : num n (goalE n (T.getD p.1 [])) = num n (goalE n (T.getD q.1 [])) := congrArg Prod.fst e
  have e2 : ((T.getD p.1 []).getD p.2 0).toNat = ((T.getD q.1 []).getD q.2 0).toNat := congrArg Prod.snd e
  have eg : goalE n (T.getD p.1 []) = goalE n (T.getD q.1 []) := by
    rw [← lot_of_num hn (goal_all hn (T.getD p.1 [])), e1, lot_of_num hn (goal_all hn _)]
  rw [← en_at hn h1, ← en_at hn g1] at eg
  have el := h.gl_inj' hn (lot_mem hn h1) (lot_mem hn g1) eg
  have ei : p.1 = q.1 := by rw [← lot_num hn h1, el, lot_num hn g1]
  have hE := h.at_i hn h1
  rw [← ei] at e2 g3
  have r1 := hE.rid p.2 h2 h3
  have r2 := hE.rid q.2 g2 g3
  have := hE.inj p.2 q.2 h2 g2 h3 g3 (by omega)
  exact Prod.ext ei this
theorem itr_in (hn : n ≤ 6) (h : TabOk n T) : ∀ (k : Nat) {p : Pr}, p ∈ prs n → itr (stp n T) k p ∈ prs n
  | 0, _, hp => hp
  | k + 1, _, hp => itr_in hn h k (stp_in hn h hp)
theorem itr_inj (hn : n ≤ 6) (h : TabOk n T) : ∀ (k : Nat) {p q : Pr}, p ∈ prs n → q ∈ prs n → itr (stp n T) k p = itr (stp n T) k q → p = q
  | 0, _, _, _, _, e => e
  | k + 1, _, _, hp, hq, e => stp_inj hn h hp hq (itr_inj hn h k (stp_in hn h hp) (stp_in hn h hq) e)
end
/-! ### rounds -/
structure Cyc (S : Pr → Pr) (C : List Pr) : Prop where
  ne : 0 < C.length
  nd : C.Nodup
  st : ∀ i p, C[i]? = some p → C[(i + 1) % C.length]? = some (S p)
theorem Cyc.at_ {S : Pr → Pr} {C : List Pr} (h : Cyc S C) : ∀ (k i : Nat) (p : Pr), C[i]? = some p → C[(i + k) % C.length]? = some (itr S k p)
  | 0, i, p, e => by
    have := (List.getElem?_eq_some_iff.mp e).1
    rw [Nat.add_zero, Nat.mod_eq_of_lt this]
    exact e
  | k + 1, i, p, e => by
    have := h.at_ k _ _ (h.st i p e)
    rw [Nat.mod_add_mod] at this
    rw [show i + (k + 1) = i + 1 + k by omega]
    exact this
theorem nd_ix {α : Type} {C : List α} (nd : C.Nodup) {i j : Nat} {x : α} (hi : C[i]? = some x) (hj : C[j]? = some x) : i = j := by
  obtain ⟨a1, a2⟩ := List.getElem?_eq_some_iff.mp hi
  obtain ⟨b1, b2⟩ := List.getElem?_eq_some_iff.mp hj
  have pw : C.Pairwise (· ≠ ·) := nd
  rw [List.pairwise_iff_getElem] at pw
  rcases Nat.lt_trichotomy i j with c | c | c
  · exact absurd (a2.trans b2.symm) (pw i j a1 b1 c)
  · exact c
  · exact absurd (b2.trans a2.symm) (pw j i b1 a1 c)
theorem Cyc.fix {S : Pr → Pr} {C : List Pr} (h : Cyc S C) {p : Pr} (hp : p ∈ C) (m : Nat) : itr S m p = p ↔ C.length ∣ m := by
  obtain ⟨i, hi⟩ := List.getElem?_of_mem hp
  have hl := (List.getElem?_eq_some_iff.mp hi).1
  have e := h.at_ m i p hi
  constructor
  · intro z
    rw [z] at e
    have e1 := nd_ix h.nd e hi
    have e2 : (i + m) % C.length = i % C.length := by rw [e1, Nat.mod_eq_of_lt hl]
    have := (Nat.sub_mod_eq_zero_of_mod_eq e2)
    rw [Nat.add_sub_cancel_left] at this
    exact Nat.dvd_of_mod_eq_zero this
  · rintro ⟨q, rfl⟩
    rw [Nat.add_mul_mod_self_left, Nat.mod_eq_of_lt hl, hi] at e
    exact (Option.some.inj e).symm
/-! ### any number of times -/
def fac : Nat → Nat
  | 0 => 1
  | n + 1 => (n + 1) * fac n
theorem fac_pos : ∀ n, 0 < fac n
  | 0 => Nat.one_pos
  | n + 1 => Nat.mul_pos (Nat.succ_pos n) (fac_pos n)
theorem dvd_fac {m : Nat} (h0 : 0 < m) : ∀ {n : Nat}, m ≤ n → m ∣ fac n
  | 0, h => absurd h0 (by omega)
  | n + 1, h => by
    unfold fac
    by_cases e : m = n + 1
    · rw [e]
      exact Nat.dvd_mul_right _ _
    · exact Nat.dvd_mul_left_of_dvd (dvd_fac h0 (by omega)) _
def bigN : Nat := fac 192
theorem bigN_pos : 0 < bigN := fac_pos _
theorem dvd_big {m : Nat} (h0 : 0 < m) (h : m ≤ 192) : m ∣ bigN := dvd_fac h0 h
def powS (S : Pr → Pr) (k : Int) (p : Pr) : Pr := itr S (k % (bigN : Int)).toNat p
theorem mod_big {m : Nat} (hm : m ∣ bigN) (s : Nat) (k : Int) : (((s : Int) + k) % (m : Int)).toNat = (s + (k % (bigN : Int)).toNat) % m := by
  have hb : (0 : Int) < bigN := by have := bigN_pos; omega
  have h0 := Int.emod_nonneg k (show (bigN : Int) ≠ 0 by omega)
  have e1 : (((k % (bigN : Int)).toNat : Nat) : Int) = k % (bigN : Int) := Int.toNat_of_nonneg h0
  have hd : (m : Int) ∣ (bigN : Int) := Int.natCast_dvd_natCast.mpr hm
  have e2 : (k % (bigN : Int)) % (m : Int) = k % (m : Int) := Int.emod_emod_of_dvd k hd
  have e3 : (((s + (k % (bigN : Int)).toNat) % m : Nat) : Int) = ((s : Int) + k) % (m : Int) := by
    rw [Int.natCast_emod, Int.natCast_add, e1, Int.add_emod, e2, ← Int.add_emod]
  rw [← e3, Int.toNat_natCast]
theorem Cyc.pow {S : Pr → Pr} {C : List Pr} (h : Cyc S C) (hl : C.length ≤ 192) {s : Nat} {p : Pr} (hp : C[s]? = some p) (k : Int) : C[(((s : Int) + k) % (C.length : Int)).toNat]? = some (powS S k p) := by
  rw [mod_big (dvd_big h.ne hl)]
  exact h.at_ _ _ _ hp
section
variable {n : Nat} {T U : List (List Int)}
/-- each rider comes back -/
theorem itr_back (hn : n ≤ 6) (h : TabOk n T) {p : Pr} (hp : p ∈ prs n) : ∃ m, 0 < m ∧ m ≤ 192 ∧ itr (stp n T) m p = p := by
  apply Classical.byContradiction
  intro hno
  have ne : ∀ i j, i < j → j < 193 → itr (stp n T) i p ≠ itr (stp n T) j p := fun i j hij hj e => by
    rw [show j = (j - i) + i by omega, itr_add] at e
    exact hno ⟨j - i, by omega, by omega, (itr_inj hn h i hp (itr_in hn h _ hp) e).symm⟩
  have nd : ((List.range 193).map fun i => itr (stp n T) i p).Nodup := by
    show List.Pairwise (· ≠ ·) _
    rw [List.pairwise_map]
    exact List.Pairwise.imp_of_mem (fun {a b} ha hb hab => ne a b hab (List.mem_range.mp hb)) List.pairwise_lt_range
  have := sub_len nd fun x hx => by
    obtain ⟨i, _, rfl⟩ := List.mem_map.mp hx
    exact itr_in hn h i hp
  rw [List.length_map, List.length_range] at this
  have := prs_len n (by omega)
  omega
theorem itr_big (hn : n ≤ 6) (h : TabOk n T) {p : Pr} (hp : p ∈ prs n) : itr (stp n T) bigN p = p := by
  obtain ⟨m, m0, m1, e⟩ := itr_back hn h hp
  obtain ⟨q, hq⟩ := dvd_big m0 m1
  rw [hq]
  exact itr_fix e q
theorem itr_mod (hn : n ≤ 6) (h : TabOk n T) {p : Pr} (hp : p ∈ prs n) (m : Nat) : itr (stp n T) (m % bigN) p = itr (stp n T) m p := by
  have e := Nat.div_add_mod m bigN
  have : itr (stp n T) m p = itr (stp n T) (bigN * (m / bigN) + m % bigN) p := by rw [e]
  rw [this, itr_add, itr_fix (itr_big hn h hp)]
theorem powS_nat (hn : n ≤ 6) (h : TabOk n T) {p : Pr} (hp : p ∈ prs n) (m : Nat) : powS (stp n T) (m : Int) p = itr (stp n T) m p := by
  unfold powS
  rw [← Int.natCast_emod, Int.toNat_natCast, itr_mod hn h hp]
theorem powS_in (hn : n ≤ 6) (h : TabOk n T) {p : Pr} (hp : p ∈ prs n) (k : Int) : powS (stp n T) k p ∈ prs n := itr_in hn h _ hp
theorem powS_add (hn : n ≤ 6) (h : TabOk n T) {p : Pr} (hp : p ∈ prs n) (k l : Int) : powS (stp n T) l (powS (stp n T) k p) = powS (stp n T) (k + l) p := by
  unfold powS
  rw [← itr_add]
  have hb : (0 : Int) < bigN := by have := bigN_pos; omega
  have h1 := Int.emod_nonneg k (show (bigN : Int) ≠ 0 by omega)
  have h2 := Int.emod_nonneg l (show (bigN : Int) ≠ 0 by omega)
  rw [← itr_mod hn h hp]
  congr 1
  have e : ((((k % (bigN : Int)).toNat + (l % (bigN : Int)).toNat) % bigN : Nat) : Int) = (k + l) % (bigN : Int) := by
    rw [Int.natCast_emod, Int.natCast_add, Int.toNat_of_nonneg h1, Int.toNat_of_nonneg h2, ← Int.add_emod]
  rw [← e, Int.toNat_natCast]
/-- a table of where its riders go -/
def tabF (n : Nat) (f : Pr → Nat) : List (List Int) := (List.range (2 ^ n)).map fun i => (List.range n).map fun x => if (i, x) ∈ prs n then (f (i, x) : Int) else -1
def powT (n : Nat) (T : List (List Int)) (k : Int) : List (List Int) := tabF n fun p => (powS (stp n T) k p).2
theorem tabF_congr {f g : Pr → Nat} (h : ∀ p ∈ prs n, f p = g p) : tabF n f = tabF n g := by
  unfold tabF
  refine List.map_congr_left fun i _ => List.map_congr_left fun x _ => ?_
  by_cases c : (i, x) ∈ prs n
  · rw [if_pos c, if_pos c, h _ c]
  · rw [if_neg c, if_neg c]
theorem tab_stp (hn : n ≤ 6) (h : TabOk n T) : T = tabF n fun p => (stp n T p).2 := by
  have hl := h.len hn
  refine List.ext_getElem? fun i => ?_
  unfold tabF
  rw [List.getElem?_map]
  by_cases hi : i < 2 ^ n
  · rw [List.getElem?_range hi]
    have hE := h.at_i hn hi
    have e1 : T[i]? = some (T.getD i []) := by rw [List.getD_eq_getElem?_getD, List.getElem?_eq_getElem (by omega)]; rfl
    rw [e1]
    refine congrArg some (list_ext hE.len (by rw [List.length_map, List.length_range]) fun x hx => ?_)
    rw [map_getD_lt (d := 0) (by rw [List.length_range]; exact hx), show (List.range n).getD x 0 = x by rw [List.getD_eq_getElem?_getD, List.getElem?_range hx]; rfl]
    by_cases c : x ∈ lotI n i
    · rw [if_neg fun z => (mem_prs.mp z).2.2 c]
      exact hE.key x hx c
    · rw [if_pos (mem_prs.mpr ⟨hi, hx, c⟩)]
      have := hE.rid x hx c
      show _ = (((T.getD i []).getD x 0).toNat : Int)
      omega
  · rw [List.getElem?_eq_none (by omega), List.getElem?_eq_none (by rw [List.length_range]; omega)]
    rfl
theorem stp_ext (hn : n ≤ 6) (h : TabOk n T) (g : TabOk n U) (e : ∀ p ∈ prs n, stp n T p = stp n U p) : T = U := by
  rw [tab_stp hn h, tab_stp hn g]
  exact tabF_congr fun p hp => by rw [e p hp]
theorem stp_still (hn : n ≤ 6) {p : Pr} (hp : p ∈ prs n) : stp n (stillT n) p = p := by
  obtain ⟨h1, h2, h3⟩ := mem_prs.mp hp
  have e : (stillT n).getD p.1 [] = byE (lotI n p.1) (ups n) := by rw [← en_at hn h1, en_still hn (lot_mem hn h1)]
  unfold stp
  rw [e, goal_ups (all_ascL hn _ (lot_mem hn h1)), lot_num hn h1, byE_at (by rw [ups_len]; exact h2), if_neg h3, ups_at h2, Int.toNat_natCast]
theorem stp_both (hn : n ≤ 6) (h : TabOk n T) (g : TabOk n U) {p : Pr} (hp : p ∈ prs n) : stp n (bothT n T U) p = stp n U (stp n T p) := by
  obtain ⟨h1, h2, h3⟩ := mem_prs.mp hp
  have hl := lot_mem hn h1
  have hE := h.at_i hn h1
  have hg := goal_all hn (T.getD p.1 [])
  have hEu := g.ent hn hg
  have e : (bothT n T U).getD p.1 [] = cmpE (T.getD p.1 []) (en n U (goalE n (T.getD p.1 []))) := by
    rw [← en_at hn h1, en_both hn h hl, en_at hn h1]
  have eu : U.getD (num n (goalE n (T.getD p.1 []))) [] = en n U (goalE n (T.getD p.1 [])) := rfl
  have r := hE.rid p.2 h2 h3
  unfold stp
  rw [e, (hE.cmp hEu).2, cmp_at (by rw [hE.len]; exact h2), if_neg (by omega)]
  show _ = (num n (goalE n (U.getD (num n (goalE n (T.getD p.1 []))) [])), ((U.getD (num n (goalE n (T.getD p.1 []))) []).getD ((T.getD p.1 []).getD p.2 0).toNat 0).toNat)
  rw [eu]
def itT (n : Nat) (T : List (List Int)) : Nat → List (List Int)
  | 0 => stillT n
  | k + 1 => bothT n (itT n T k) T
theorem itT_ok (hn : n ≤ 6) (h : TabOk n T) : ∀ k, TabOk n (itT n T k)
  | 0 => still_ok hn
  | k + 1 => (itT_ok hn h k).both hn h
theorem stp_itT (hn : n ≤ 6) (h : TabOk n T) : ∀ (k : Nat) {p : Pr}, p ∈ prs n → stp n (itT n T k) p = itr (stp n T) k p
  | 0, _, hp => stp_still hn hp
  | k + 1, _, hp => by
    rw [itr_succ, ← stp_itT hn h k hp]
    exact stp_both hn (itT_ok hn h k) h hp
theorem powT_it (hn : n ≤ 6) (h : TabOk n T) (k : Int) : powT n T k = itT n T (k % (bigN : Int)).toNat := by
  rw [tab_stp hn (itT_ok hn h _)]
  exact tabF_congr fun p hp => by rw [stp_itT hn h _ hp]; rfl
theorem powT_ok (hn : n ≤ 6) (h : TabOk n T) (k : Int) : TabOk n (powT n T k) := by rw [powT_it hn h]; exact itT_ok hn h _
theorem stp_powT (hn : n ≤ 6) (h : TabOk n T) (k : Int) {p : Pr} (hp : p ∈ prs n) : stp n (powT n T k) p = powS (stp n T) k p := by rw [powT_it hn h, stp_itT hn h _ hp]; rfl
theorem powT_add (hn : n ≤ 6) (h : TabOk n T) (k l : Int) : bothT n (powT n T k) (powT n T l) = powT n T (k + l) := by
  refine stp_ext hn ((powT_ok hn h k).both hn (powT_ok hn h l)) (powT_ok hn h _) fun p hp => ?_
  rw [stp_both hn (powT_ok hn h k) (powT_ok hn h l) hp, stp_powT hn h k hp, stp_powT hn h l (powS_in hn h hp k), stp_powT hn h _ hp, powS_add hn h hp]
theorem powT_one (hn : n ≤ 6) (h : TabOk n T) : powT n T 1 = T := by
  refine stp_ext hn (powT_ok hn h 1) h fun p hp => ?_
  rw [stp_powT hn h 1 hp, show (1 : Int) = ((1 : Nat) : Int) from rfl, powS_nat hn h hp]
  rfl
theorem powT_succ (hn : n ≤ 6) (h : TabOk n T) (k : Int) : bothT n (powT n T k) T = powT n T (k + 1) := by
  have := powT_add hn h k 1
  rw [powT_one hn h] at this
  exact this
/-! ### the order -/
structure Rounds (n : Nat) (S : Pr → Pr) (CL : List (List Pr)) : Prop where
  cyc : ∀ C ∈ CL, Cyc S C
  sub : ∀ C ∈ CL, ∀ p ∈ C, p ∈ prs n
  all : ∀ p ∈ prs n, ∃ C ∈ CL, p ∈ C
theorem Rounds.len {S : Pr → Pr} {CL : List (List Pr)} (hn : n ≤ 6) (h : Rounds n S CL) {C : List Pr} (hC : C ∈ CL) : C.length ≤ 192 := Nat.le_trans (sub_len (h.cyc C hC).nd (h.sub C hC)) (prs_len n (by omega))
structure IsOrd (n : Nat) (S : Pr → Pr) (o : Nat) : Prop where
  pos : 0 < o
  dvd : ∀ m : Nat, (∀ p ∈ prs n, itr S m p = p) ↔ o ∣ m
theorem IsOrd.uniq {S : Pr → Pr} {a b : Nat} (h : IsOrd n S a) (g : IsOrd n S b) : a = b :=
  Nat.dvd_antisymm ((h.dvd b).mp ((g.dvd b).mpr (Nat.dvd_refl b))) ((g.dvd a).mp ((h.dvd a).mpr (Nat.dvd_refl a)))
def lcmL (ls : List Nat) : Nat := ls.foldl Nat.lcm 1
theorem lcm_fold : ∀ (ls : List Nat) (a m : Nat), ls.foldl Nat.lcm a ∣ m ↔ a ∣ m ∧ ∀ l ∈ ls, l ∣ m
  | [], a, m => by simp
  | l :: ls, a, m => by
    rw [List.foldl_cons, lcm_fold ls]
    constructor
    · rintro ⟨h1, h2⟩
      refine ⟨Nat.dvd_trans (Nat.dvd_lcm_left a l) h1, fun x hx => ?_⟩
      rcases List.mem_cons.mp hx with rfl | hx
      · exact Nat.dvd_trans (Nat.dvd_lcm_right a _) h1
      · exact h2 x hx
    · rintro ⟨h1, h2⟩
      exact ⟨Nat.lcm_dvd h1 (h2 l List.mem_cons_self), fun x hx => h2 x (List.mem_cons_of_mem _ hx)⟩
theorem lcm_fold_pos : ∀ (ls : List Nat) (a : Nat), 0 < a → (∀ l ∈ ls, 0 < l) → 0 < ls.foldl Nat.lcm a
  | [], a, h, _ => h
  | l :: ls, a, h, g => lcm_fold_pos ls _ (Nat.lcm_pos h (g l List.mem_cons_self)) fun x hx => g x (List.mem_cons_of_mem _ hx)
theorem Rounds.ord {S : Pr → Pr} {CL : List (List Pr)} (h : Rounds n S CL) : IsOrd n S (lcmL (CL.map List.length)) := by
  refine ⟨lcm_fold_pos _ _ Nat.one_pos fun l hl => ?_, fun m => ?_⟩
  · obtain ⟨C, hC, rfl⟩ := List.mem_map.mp hl
    exact (h.cyc C hC).ne
  · unfold lcmL
    rw [lcm_fold]
    constructor
    · intro k
      refine ⟨Nat.one_dvd m, fun l hl => ?_⟩
      obtain ⟨C, hC, rfl⟩ := List.mem_map.mp hl
      have c := h.cyc C hC
      have hx : C[0]'c.ne ∈ C := List.getElem_mem c.ne
      exact (c.fix hx m).mp (k _ (h.sub C hC _ hx))
    · rintro ⟨_, k⟩ p hp
      obtain ⟨C, hC, hpC⟩ := h.all p hp
      exact ((h.cyc C hC).fix hpC m).mpr (k _ (List.mem_map.mpr ⟨C, hC, rfl⟩))
theorem pow_calm (hn : n ≤ 6) (h : TabOk n T) {o : Nat} (ho : IsOrd n (stp n T) o) (m : Nat) : powT n T (m : Int) = stillT n ↔ o ∣ m := by
  rw [← ho.dvd m]
  constructor
  · intro e p hp
    rw [← powS_nat hn h hp, ← stp_powT hn h _ hp, e, stp_still hn hp]
  · intro k
    refine stp_ext hn (powT_ok hn h _) (still_ok hn) fun p hp => ?_
    rw [stp_powT hn h _ hp, powS_nat hn h hp, stp_still hn hp, k p hp]
end
end Kr
namespace Kr
open PySem PySem.Spec PyProof.Rows L2
/-! ### a table that leads some lots round, the others calm -/
def nxt (M : List (List Nat)) (l : List Nat) : List Nat := if l ∈ M then M.getD ((M.idxOf l + 1) % M.length) [] else l
theorem nxt_out {M : List (List Nat)} {l : List Nat} (h : l ∉ M) : nxt M l = l := by
  unfold nxt
  rw [if_neg h]
theorem nxt_at {M : List (List Nat)} (nd : M.Nodup) {j : Nat} {l : List Nat} (h : M[j]? = some l) : M[(j + 1) % M.length]? = some (nxt M l) := by
  have hm := List.mem_of_getElem? h
  have hj := (List.getElem?_eq_some_iff.mp h).1
  have hi : M[M.idxOf l]? = some l := by
    have h1 := List.idxOf_lt_length_of_mem hm
    rw [List.getElem?_eq_getElem h1, List.getElem_idxOf h1]
  have e := nd_ix nd hi h
  unfold nxt
  rw [if_pos hm, e, List.getD_eq_getElem?_getD, List.getElem?_eq_getElem (Nat.mod_lt _ (by omega))]
  rfl
theorem nxt_in {M : List (List Nat)} (nd : M.Nodup) {l : List Nat} (h : l ∈ M) : nxt M l ∈ M := by
  obtain ⟨j, hj⟩ := List.getElem?_of_mem h
  exact List.mem_of_getElem? (nxt_at nd hj)
theorem succ_inj {m i j : Nat} (hi : i < m) (hj : j < m) (e : (i + 1) % m = (j + 1) % m) : i = j := by
  have h : ∀ k, k < m → (k + 1) % m = if k + 1 = m then 0 else k + 1 := fun k hk => by
    by_cases c : k + 1 = m
    · rw [if_pos c, c, Nat.mod_self]
    · rw [if_neg c, Nat.mod_eq_of_lt (by omega)]
  rw [h i hi, h j hj] at e
  split at e <;> split at e <;> omega
theorem nxt_inj {M : List (List Nat)} (nd : M.Nodup) {a b : List Nat} (e : nxt M a = nxt M b) : a = b := by
  by_cases ha : a ∈ M
  · by_cases hb : b ∈ M
    · obtain ⟨i, hi⟩ := List.getElem?_of_mem ha
      obtain ⟨j, hj⟩ := List.getElem?_of_mem hb
      have h1 := nxt_at nd hi
      have h2 := nxt_at nd hj
      rw [← e] at h2
      have := succ_inj (List.getElem?_eq_some_iff.mp hi).1 (List.getElem?_eq_some_iff.mp hj).1 (nd_ix nd h1 h2)
      rw [this, hj] at hi
      exact (Option.some.inj hi).symm
    · have := nxt_in nd ha
      rw [e, nxt_out hb] at this
      exact absurd this hb
  · by_cases hb : b ∈ M
    · have := nxt_in nd hb
      rw [← e, nxt_out ha] at this
      exact absurd this ha
    · rw [nxt_out ha, nxt_out hb] at e
      exact e
theorem nxt_perm {n : Nat} (hn : n ≤ 6) {M : List (List Nat)} (nd : M.Nodup) (sub : ∀ l ∈ M, l ∈ allL n) : ((allL n).map (nxt M)).Perm (allL n) := by
  have nd2 : ((allL n).map (nxt M)).Nodup := by
    show List.Pairwise (· ≠ ·) _
    rw [List.pairwise_map]
    exact List.Pairwise.imp (fun {a b} hab z => hab (nxt_inj nd z)) (all_nodup hn)
  refine (List.perm_ext_iff_of_nodup nd2 (all_nodup hn)).mpr fun a => ⟨fun h => ?_, fun h => ?_⟩
  · obtain ⟨l, hl, rfl⟩ := List.mem_map.mp h
    by_cases c : l ∈ M
    · exact sub _ (nxt_in nd c)
    · rw [nxt_out c]
      exact hl
  · by_cases c : a ∈ M
    · obtain ⟨j, hj⟩ := List.getElem?_of_mem c
      have hjl := (List.getElem?_eq_some_iff.mp hj).1
      obtain ⟨l, hl⟩ : ∃ l, M[(j + (M.length - 1)) % M.length]? = some l := ⟨_, List.getElem?_eq_getElem (Nat.mod_lt _ (by omega))⟩
      have h1 := nxt_at nd hl
      rw [Nat.mod_add_mod, show j + (M.length - 1) + 1 = j + M.length by omega, Nat.add_mod_right, Nat.mod_eq_of_lt hjl, hj] at h1
      exact List.mem_map.mpr ⟨l, sub l (List.mem_of_getElem? hl), (Option.some.inj h1).symm⟩
    · exact List.mem_map.mpr ⟨a, h, nxt_out c⟩
abbrev freeG (n : Nat) (g : List Nat) : List Nat := (List.range n).filter fun (y : Nat) => !decide (y ∈ g)
theorem rot_perm {α : Type} (xs : List α) (i : Nat) : (xs.drop i ++ xs.take i).Perm xs := by
  have := List.perm_append_comm (l₁ := xs.drop i) (l₂ := xs.take i)
  rw [List.take_append_drop] at this
  exact this
theorem ent_ranks {n : Nat} (hn : n ≤ 6) {k g fz : List Nat} {a : List Int} (hk : k ∈ allL n) (hg : g ∈ allL n) (hal : a.length = n) (hf : fz.Perm (freeG n g)) (hl : fz.length = (freeG n k).length)
    (i1 : ∀ r u, (freeG n k)[r]? = some u → a.getD u 0 = (fz.getD r 0 : Nat)) (i2 : ∀ u, u < n → u ∈ k → a.getD u 0 = -1) : EntV n k a ∧ goalE n a = g := by
  have ea : a = (List.range n).map fun u => a.getD u 0 := list_ext (n := n) hal (by rw [List.length_map, List.length_range]) fun u hu => by
    rw [map_getD_lt (d := 0) (by rw [List.length_range]; omega), show (List.range n).getD u 0 = u by rw [List.getD_eq_getElem?_getD, List.getElem?_range (by omega)]; rfl]
  have hrk : ∀ u, u < n → u ∉ k → ∃ r, (freeG n k)[r]? = some u := fun u hu hm => List.getElem?_of_mem (List.mem_filter.mpr ⟨List.mem_range.mpr hu, by simpa using hm⟩)
  have ef : a.filter (fun x => !decide (x = -1)) = fz.map fun (y : Nat) => (y : Int) := by
    have e1 : a.filter (fun x => !decide (x = -1)) = (freeG n k).map fun u => a.getD u 0 := by
      rw [ea, List.filter_map]
      have e2 : (List.range n).filter ((fun x => !decide (x = -1)) ∘ fun u => a.getD u 0) = freeG n k := by
        refine List.filter_congr fun u hu => ?_
        have hu := List.mem_range.mp hu
        show (!decide (a.getD u 0 = -1)) = !decide (u ∈ k)
        by_cases c : u ∈ k
        · rw [i2 u hu c, decide_eq_true c]
          rfl
        · obtain ⟨r, hr⟩ := hrk u hu c
          rw [i1 r u hr, decide_eq_false c, decide_eq_false (by omega)]
      rw [e2, ← ea]
    rw [e1]
    refine List.ext_getElem? fun r => ?_
    rw [List.getElem?_map, List.getElem?_map]
    cases h : (freeG n k)[r]? with
    | none => rw [List.getElem?_eq_none (by rw [hl]; exact List.getElem?_eq_none_iff.mp h)]; rfl
    | some u =>
      have hr : r < fz.length := by rw [hl]; exact (List.getElem?_eq_some_iff.mp h).1
      rw [List.getElem?_eq_getElem hr]
      show some (a.getD u 0) = some ((fz[r] : Nat) : Int)
      rw [i1 r u h, List.getD_eq_getElem?_getD, List.getElem?_eq_getElem hr]
      rfl
  refine ent_made (zs := (fz.map fun (y : Nat) => (y : Int)).reverse) hn hk hg hal i2 (fun u hu hm => ?_) (by rw [List.reverse_reverse]; exact ef) ((List.reverse_perm _).trans (hf.map _))
  obtain ⟨r, hr⟩ := hrk u hu hm
  have hrl : r < fz.length := by rw [hl]; exact (List.getElem?_eq_some_iff.mp hr).1
  rw [List.mem_reverse, i1 r u hr]
  refine List.mem_map.mpr ⟨fz.getD r 0, ?_, rfl⟩
  rw [List.getD_eq_getElem?_getD, List.getElem?_eq_getElem hrl]
  exact List.getElem_mem hrl
end Kr
namespace Kr
open PySem PySem.Spec PyProof.Rows L2
/-- two ways of an expression that meet again -/
theorem ifE_join {c : Prop} [Decidable c] {a b : TE} {σ τ : L2.St} {Ha Hb : Hp} {Q : VK} (R : V → Hp → Prop) (h : ∀ v G, R v G → Q v G) (hA : c → ∀ Q' : VK, (∀ v G, R v G → Q' v G) → a σ Ha Q') (hB : ¬ c → ∀ Q' : VK, (∀ v G, R v G → Q' v G) → b τ Hb Q') : if c then a σ Ha Q else b τ Hb Q :=
  ite2 (fun k => hA k Q h) fun k => hB k Q h
/-- two ways of a statement that meet again, none of which ends the def -/
theorem ifS_join {c : Prop} [Decidable c] {a b : L2.TS} {D : Ends} {σ τ : L2.St} {Ha Hb : Hp} (R : L2.St → Hp → Prop) (h : ∀ σ G, R σ G → D.nx σ G) (hA : c → ∀ D' : Ends, (∀ σ G, R σ G → D'.nx σ G) → a D' σ Ha) (hB : ¬ c → ∀ D' : Ends, (∀ σ G, R σ G → D'.nx σ G) → b D' τ Hb) : if c then a D σ Ha else b D τ Hb :=
  ite2 (fun k => hA k D h) fun k => hB k D h
end Kr
namespace Kr
open PySem PySem.Spec PyProof.Rows L2
theorem cut1 (xs : List V) : cutV xs (some 1) none = xs.drop 1 := by
  cases xs with
  | nil => rfl
  | cons x r => exact cut_from (i := 1) (by rw [List.length_cons]; omega)
theorem cut1t (xs : List V) : cutV xs none (some 1) = xs.take 1 := by
  cases xs with
  | nil => rfl
  | cons x r => exact cut_to (i := 1) (by rw [List.length_cons]; omega)
theorem lots_many : ∀ n : Nat, n < 7 → 5 ≤ n → ∀ s : Nat, s < n - 1 → 1 ≤ s → 5 ≤ (lotsL n s).length := by decide +kernel
theorem rot_at {α : Type} {M : List α} {j : Nat} (hj : j < M.length) : (M.drop 1 ++ M.take 1)[j]? = M[(j + 1) % M.length]? := by
  by_cases c : j + 1 = M.length
  · rw [List.getElem?_append_right (by rw [List.length_drop]; omega), List.length_drop, show j - (M.length - 1) = 0 by omega, c, Nat.mod_self, List.getElem?_take]
    rw [if_pos (by decide)]
  · rw [List.getElem?_append_left (by rw [List.length_drop]; omega), List.getElem?_drop, Nat.mod_eq_of_lt (by omega), Nat.add_comm 1 j]
def spWound : Sp := fun vs H Q _ => ∃ (p l : Addr) (n : Nat), vs = [.ref p, .int (n : Int)] ∧ Deck H p l ∧ 5 ≤ n ∧ n ≤ 6 ∧ ∀ H' v T, Deck H' p l → Ext p l H H' → Dq H' v (tabD T) → TabOk n T → Q v H'
section
variable {P : Program} {w : World} {K : PySem.W.Frag} {mg : Str → Option Value} {base : Heap}
def scopeLw : Scope := { kind := ScopeKind.function, names := [(".0", NameKind.local), ("keys", NameKind.cell), ("tuple", NameKind.globalImplicit), ("range", NameKind.globalImplicit), ("found", NameKind.cell), ("n", NameKind.cell)], isGenerator := false, isCoroutine := false }
def scopeLx : Scope := { kind := ScopeKind.function, names := [(".0", NameKind.local), ("x", NameKind.local), ("keys", NameKind.free)], isGenerator := false, isCoroutine := false }
def rTupOf (K : PySem.W.Frag) : List V → Hp → VK → Prop := fun xs H Q => ∃ p ys, xs = [.ref p] ∧ ((SqL K H p ys ∧ ∀ l, H l = none → Q (.ref l) (upd H l (.tup ys))) ∨ (SqT K H p ys ∧ Q (.ref p) H))
abbrev nLw : List Str := ["box", "n", "size", "found", "own", "keys", "there", "free", "y", "entry", "rank", "x"]
theorem blkLw : BlkOk nLw scopeLw scopeLx [("x", 11)] := blkOk_by (by decide +kernel)
theorem o_lWound (D0 : Df K mg "_law_wound" sLWound ["box", "n"]) (B : Bi mg) (dr : Ok P w K mg base 1 "_law_draw" ["box", "many"] spDraw) (ev : Ok P w K mg base 1 "_law_every" ["n"] spEvery) (mx : Ok P w K mg base 2 "_law_mixed" ["box", "items"] spMixV) (pk : Ok P w K mg base 2 "_law_pick" ["box", "items"] spPick) : Ok P w K mg base 3 "_law_wound" ["box", "n"] spWound := by
  have scLw : FnScope nLw ["box", "n"] (defScope sLWound) := ⟨rfl, rfl, rfl, by decide +kernel, rfl, by decide +kernel, by decide +kernel⟩
  refine D0.ok fun f fd F => F.ok scLw (fun vs H Q E h => ?_) (fun cdv A outer s H vs Q E hr h => ?_)
  · obtain ⟨p, l, n, rfl, _⟩ := h
    rfl
  · obtain ⟨p, l, n, rfl, Dk, n0, n1, q⟩ := h
    have hu1 := hu_of hr
    have hr1 := hr.mono (by decide : 1 ≤ 2)
    have hu : (cxOf CX0 P w K mg base nLw "_law_wound" (defScope sLWound) f cdv A outer s H E).A.units + 64 < cLine := hr.units
    refine ⟨_, pss_cons (ps_asg (pe_tup (pa_cons (pe_fn pk hr (by rfl) (pa_cons (pv 0) (pa_cons (pe_lst (pa_cons pe_int (pa_cons pe_int (pa_cons pe_int (pa_cons pe_int (pa_cons (pe_op op_add pe_int (pe_fn dr hr1 (by rfl) (pa_cons (pv 0) (pa_cons (pe_op op_sub (pv 1) pe_int) pa_nil)))) pa_nil)))))) pa_nil))) (pa_cons pe_dnewT pa_nil))) (pg_tup rfl (pgs_cons (pg_name (i := 2) scLw.nd rfl (.inr rfl)) (pgs_cons (pg_name (i := 3) scLw.nd rfl (.inr rfl)) pgs_nil))))
      (pss_cons (ps_set (i := 4) scLw.nd rfl (.inl rfl) (pe_slice sl_list (pe_fn mx hr (by rfl) (pa_cons (pv 0) (pa_cons (pe_lc (own := [("keys", 5)]) (g := gName 5) rfl scLw.nd (pi_list (pe_fn ev hr1 (by rfl) (pa_cons (pv 1) pa_nil))) (blkOk_by (own := [("keys", 5)]) (N := nLw) (sc := defScope sLWound) (by decide +kernel)) (fun _ _ _ _ _ => pg_name (i := 5) scLw.nd rfl (.inl rfl)) (fun _ _ _ _ _ => pts_one (pt_cmpR op_eq (pe_callB (r := rLenK K) call_lenK (by rfl) B.len boot_len (pa_cons (pv 5) pa_nil)) (pv 2) (nomark _))) (fun _ _ _ _ _ => (pv 5))) pa_nil))) (po_some pe_int) po_none))
      (pss_cons (ps_for PassesOwn.never rfl (pi_zip (by rfl) B.zip (pa_cons (pv 4) (pa_cons (pe_op op_cat (pe_slice sl_list (pv 4) (po_some pe_int) po_none) (pe_slice sl_list (pv 4) po_none (po_some pe_int))) pa_nil))) (pg_tup rfl (pgs_cons (pg_name (i := 5) scLw.nd rfl (.inr rfl)) (pgs_cons (pg_name (i := 6) scLw.nd rfl (.inr rfl)) pgs_nil)))
        (pss_cons (ps_setLc (i := 7) (own := [("y", 8)]) (g := gName 8) rfl scLw.nd rfl rfl (sw_true rfl rfl rfl (by decide +kernel)) (pi_range1 (by rfl) B.range (pa_cons (pv 1) pa_nil)) (blkOk_by (own := [("y", 8)]) (N := nLw) (sc := defScope sLWound) (by decide +kernel)) (fun _ _ _ _ _ => pg_name (i := 8) scLw.nd rfl (.inl rfl)) (fun _ _ _ _ _ => pts_one (pt_cmpR (r := rIn K true) op_notIn_seq (pv 8) (pv 6) rfl)) (fun _ _ _ _ _ => (pv 8)))
        (pss_cons (ps_set (i := 7) scLw.nd rfl (.inl rfl) (pe_ifExp (pt_cmpR (op_eqD hu) (pv 6) (pe_ix ix_list (pv 4) pe_int (fun _ _ => rfl)) (nomark _)) (pe_op op_cat (pe_slice sl_list (pv 7) (po_some pe_int) po_none) (pe_slice sl_list (pv 7) po_none (po_some pe_int))) (pv 7)))
        (pss_cons (ps_set (i := 9) scLw.nd rfl (.inl rfl) (pe_op op_rep (pe_lst (pa_cons (pe_un un_neg pe_int) pa_nil)) (pv 1)))
        (pss_cons (ps_for PassesOwn.never rfl (pi_enum (by rfl) B.enumerate (pa_cons (pe_lc (own := [("x", 11)]) (g := gName 11) rfl scLw.nd (pi_range1 (by rfl) B.range (pa_cons (pv 1) pa_nil)) (blkOk_by (own := [("x", 11)]) (N := nLw) (sc := defScope sLWound) (by decide +kernel)) (fun _ _ _ _ _ => pg_name (i := 11) scLw.nd rfl (.inl rfl)) (fun _ _ _ _ _ => pts_one (pt_cmpR (r := rIn K true) op_notIn_seq (pv 11) (pv 5) rfl)) (fun _ _ _ _ _ => (pv 11))) pa_nil)) (pg_tup rfl (pgs_cons (pg_name (i := 10) scLw.nd rfl (.inl rfl)) (pgs_cons (pg_name (i := 11) scLw.nd rfl (.inl rfl)) pgs_nil)))
          (pss_one (ps_asg (pe_ix ix_list (pv 7) (pv 10) (fun _ _ => rfl)) (pg_sub (pv 9) (pv 11) set_list))))
        (pss_one (ps_dput hu1 (pv 3) (pv 5) (pe_callTy call_tuple_of (by rfl) B.tuple (by decide +kernel) (pa_cons (pv 9) pa_nil)) rfl)))))))
      (pss_one (ps_ret (pe_callTy call_tuple_of (by rfl) B.tuple (by decide +kernel) (pa_cons (pe_lc (te := tDGet2 (tVar 3) (tVar 5) (tCB (rTupOf K) (tCons (tLc (iRng1 (tCons (tVar 1) tNil)) (gName 11) tYes (tIf (tTest (tOp (rIn K false) (tVar 11) (tVar 5))) (tUn (rU fun i => .int (-i)) (tC (.int 1))) (tVar 11)) [11]) tNil))) (own := [("keys", 5)]) (g := gName 5) (tt := tYes) rfl scLw.nd (pi_list (pe_fn ev hr1 (by rfl) (pa_cons (pv 1) pa_nil))) (blkOk_by (own := [("keys", 5)]) (N := nLw) (sc := defScope sLWound) (by decide +kernel)) (fun _ _ _ _ _ => pg_name (i := 5) scLw.nd rfl (.inr rfl)) (fun _ _ _ _ _ => pts_nil) (fun _ _ _ _ _ => by exact (pe_dget2 hu1 (pv 3) (pv 5) (pe_callTy (r := rTupOf K) call_tuple_of (by rfl) B.tuple (by decide +kernel) (pa_cons (pe_lc (own := [("x", 11)]) (g := gName 11) (tt := tYes) rfl scLw.nd (pi_range1 (by rfl) B.range (pa_cons (pv 1) pa_nil)) blkLw (fun _ _ _ _ _ => pg_name (i := 11) scLw.nd rfl (.inl rfl)) (fun _ _ _ _ _ => pts_nil) (fun _ _ _ _ _ => (pe_ifExp (pt_cmpR (r := rIn K false) op_in_seq (pv 11) (pv 5) rfl) (pe_un un_neg pe_int) (pv 11)))) pa_nil)) ⟨by rfl, by rfl, by rfl, by rfl⟩))) pa_nil)))))), ?_⟩
    refine ⟨.ref p, rfl, .ref p, rfl, .int n, rfl, _, _, rfl, rfl, p, l, (n : Int) - 2, rfl, Dk, by omega, by omega, fun H1 r D1 E1 r0 r1 => ⟨_, _, rfl, rfl, by show 5 ≤ sizeLine; decide, fun A0 nA0 => ?_⟩⟩
    obtain ⟨nAp, nAl⟩ := D1.new nA0
    refine ⟨p, l, A0, _, rfl, D1.up (same_new nA0), .inl (by rw [hid_ne nAp nAl]; exact upd_same), by show 0 < 5; decide, by show 5 < 100000; decide, fun H2 rr v D2 E2' hv => ?_⟩
    have E2 : Ext p l H H2 := Same.trans (Ext.new E1 nA0) E2'
    obtain ⟨s, hs1, hs2, rfl⟩ : ∃ s : Nat, 1 ≤ s ∧ s + 2 ≤ n ∧ v = .int (s : Int) := by
      rcases rr with _ | _ | _ | _ | _ | rr
      · exact ⟨2, by decide, by omega, (Option.some.inj hv).symm⟩
      · exact ⟨2, by decide, by omega, (Option.some.inj hv).symm⟩
      · exact ⟨2, by decide, by omega, (Option.some.inj hv).symm⟩
      · exact ⟨3, by decide, by omega, (Option.some.inj hv).symm⟩
      · refine ⟨1 + r.toNat, by omega, by omega, ?_⟩
        rw [← Option.some.inj hv]
        show V.int (1 + r) = _
        congr 1
        omega
      · cases hv
    clear hv E2' nA0 nAp nAl E1 D1
    refine fun D nD => ⟨by show 2 ≤ sizeLine; decide, fun tt ntt => ⟨tt, [.int s, .ref D], rfl, SqT.of upd_same, rfl, .int s, [.ref D], rfl, .ref D, [], rfl, rfl, ?_⟩⟩
    obtain ⟨nDp, nDl⟩ := D2.new nD
    have s23 := (same_new (o := .dT []) nD).trans (same_new (o := .tup [.int (s : Int), .ref D]) ntt)
    have hD3 : upd (upd H2 D (.dT [])) tt (.tup [.int (s : Int), .ref D]) D = some (.dT []) := by
      rw [upd_ne (ne_of_none upd_same ntt)]
      exact upd_same
    have D3 := D2.up s23
    have E3 : Ext p l H (upd (upd H2 D (.dT [])) tt (.tup [.int (s : Int), .ref D])) := Same.trans E2 (Ext.of s23)
    generalize upd (upd H2 D (.dT [])) tt (.tup [.int (s : Int), .ref D]) = H3 at hD3 D3 E3
    have nD0 : H D = none := Ext.free E2 nD nDp nDl
    clear s23 nD ntt E2 D2
    try dsimp only [tNext]
    refine ⟨.ref p, rfl, .int n, rfl, n, rfl, n1, fun H4 ve s4 hve => ?_⟩
    cases hve with
    | @lst L ks _ hL qk =>
    have hal2 := all_few n (by omega)
    have hkl : ks.length = (allL n).length := by rw [qk.len, List.length_map]
    refine ⟨L, rfl, ⟨_, SqL.of hL⟩, fun W nW => ?_⟩
    refine lc_it (walk_list (K := K) (a := L) (xs := ks)) (fun j G2 => ∃ ow, G2 W = some (.lst ow) ∧ Same H4 G2 ∧ DqA G2 ow ((((allL n).take j).filter fun l => decide (l.length = s)).map lotD)) ⟨[], upd_same, same_new nW, .nil⟩ (fun _ _ _ ⟨_, _, sm, _⟩ => SqL.of (sm _ _ hL)) ?_ ?_
    · rintro j x _ G2 hj ⟨ow, hW, sm, qo⟩ ⟨rfl, hx⟩
      obtain ⟨k, hk, kb, rfl, hkb⟩ := lots_get qk hx
      have er : ((allL n).take (j + 1)).filter (fun l => decide (l.length = s)) = ((allL n).take j).filter (fun l => decide (l.length = s)) ++ (if k.length = s then [k] else []) := by
        rw [List.take_add_one, hk, List.filter_append]
        by_cases c : k.length = s <;> simp [c]
      refine ⟨rfl, .ref kb, rfl, kb, _, rfl, .inr (SqT.of (sm _ _ hkb)), .int s, rfl, rfl, _, rfl, ?_⟩
      rw [er, lv_len]
      by_cases c : k.length = s
      · rw [decide_eq_true (show V.int (k.length : Int) = V.int (s : Int) by rw [c]), if_pos c]
        have ts : TS G2 (upd G2 W (.lst (ow ++ [.ref kb]))) := TS.lst hW
        refine iteT ⟨.ref kb, rfl, ow, hW, szm ?_, _, upd_same, fun b o hb => ?_, ?_⟩
        · rw [qo.len, List.length_map]
          have := List.length_filter_le (fun l => decide (l.length = s)) ((allL n).take j)
          rw [List.length_take] at this
          omega
        · rw [upd_ne (ne_of_none hb nW)]
          exact sm _ _ hb
        · rw [List.map_append]
          exact dqa_snoc (DqA.upT ts (lots_flat _) qo) (Dq.upT ts (lot_flat _) (lot_at (sm _ _ hkb)))
      · rw [decide_eq_false (fun z => c (by have := V.int.inj z; omega)), if_neg c, List.append_nil]
        exact iteF ⟨ow, hW, sm, qo⟩
    rintro G2 ⟨ow, hW, sm, qo⟩
    rw [hkl, List.take_length, own_filt n (by omega) s (by omega)] at qo
    have s34 := s4.trans sm
    have DG2 := D3.up s34
    have EG2 : Ext p l H G2 := Same.trans E3 (Ext.of s34)
    obtain ⟨nWp, nWl⟩ := (D3.up s4).new nW
    have hD4 := s34 _ _ hD3
    have nWD : W ≠ D := (ne_of_none (s4 _ _ hD3) nW).symm
    clear s34 sm s4 qk hL nW
    have hown : (lotsL n s).length ≤ 64 := by
      have := every_few n (by omega) (s + 1) (by omega)
      rw [List.range_succ, List.flatMap_append, List.length_append] at this
      simp at this
      omega
    have howl : ow.length = (lotsL n s).length := by rw [qo.len, List.length_map]
    refine ⟨p, l, W, ow, rfl, DG2, by rw [hid_ne nWp nWl]; exact hW, by omega, fun G3 M ms D5 E5' nM hM hp => ?_⟩
    obtain ⟨nMp, nMl, hM3⟩ := hid_some hM
    have ts3 : TS G2 G3 := TS.deck DG2 E5'
    have qo3 := DqA.upT ts3 (lots_flat _) qo
    obtain ⟨ml, pm, qm⟩ := dqa_perm (f := lotD) hp qo3
    have hmsl : ms.length = ml.length := by rw [qm.len, List.length_map]
    have hml := pm.length_eq
    have hD5 : G3 D = some (.dT []) := E5'.at_ nDp nDl hD4
    have E5 : Ext p l H G3 := Same.trans EG2 E5'
    have hmany := lots_many n (by omega) n0 s (by omega) hs1
    clear EG2 E5' hM hp ts3 qo3 qo hW DG2 hD4
    refine ⟨_, rfl, M, ms, rfl, SqL.of hM3, fun O nO => ?_⟩
    rw [cut1]
    have nOM : M ≠ O := ne_of_none hM3 nO
    have nOD : D ≠ O := ne_of_none hD5 nO
    have s5 := same_new (o := .lst (ms.drop 1)) nO
    have hO : upd G3 O (.lst (ms.drop 1)) O = some (.lst (ms.drop 1)) := upd_same
    have qm5 : DqA (upd G3 O (.lst (ms.drop 1))) (ms.drop 1) ((ml.drop 1).map lotD) := by rw [List.map_drop]; exact (qm.up s5).drop 1
    have D6 := D5.up s5
    have E6 : Ext p l H (upd G3 O (.lst (ms.drop 1))) := Same.trans E5 (Ext.of s5)
    have hD6 := s5 _ _ hD5
    generalize upd G3 O (.lst (ms.drop 1)) = G4 at hO qm5 D6 E6 hD6
    clear s5 hD5 qm D5 E5 nO hM3 nOM
    -- the lots that are led round
    have ndl : (lotsL n s).Nodup := by
      rw [← own_filt n (by omega) s (by omega)]
      exact (all_nodup n1).filter _
    have nd : (ml.drop 1).Nodup := List.Sublist.nodup (List.drop_sublist _ _) (pm.symm.nodup ndl)
    have subM : ∀ k ∈ ml.drop 1, k ∈ lotsL n s := fun k hk => pm.subset (List.mem_of_mem_drop hk)
    have hml1 : (ml.drop 1).length + 1 = (lotsL n s).length := by rw [List.length_drop]; omega
    have hwl : (ms.drop 1).length = (ml.drop 1).length := by rw [List.length_drop, List.length_drop, hmsl]
    generalize ms.drop 1 = ws at hO qm5 hwl
    generalize ml.drop 1 = M0 at qm5 hwl nd subM hml1
    clear hml hmsl pm ml ms hkl hal2
    have subA : ∀ k ∈ M0, k ∈ allL n := fun k hk => own_all n (by omega) s (by omega) k (subM k hk)
    try dsimp only [tNext]
    refine ⟨.ref O, rfl, .ref O, rfl, _, rfl, O, ws, rfl, SqL.of hO, fun c1 nc1 => ?_⟩
    rw [cut1]
    have t1 := same_new (o := .lst (ws.drop 1)) nc1
    have hc1 : upd G4 c1 (.lst (ws.drop 1)) c1 = some (.lst (ws.drop 1)) := upd_same
    refine ⟨.ref O, rfl, _, rfl, O, ws, rfl, SqL.of (t1 _ _ hO), fun c2 nc2 => ?_⟩
    rw [cut1t]
    have t2 := same_new (o := .lst (ws.take 1)) nc2
    have hc2 : upd (upd G4 c1 (.lst (ws.drop 1))) c2 (.lst (ws.take 1)) c2 = some (.lst (ws.take 1)) := upd_same
    have hc1' := t2 _ _ hc1
    refine ⟨c1, c2, _, _, rfl, rfl, hc1', hc2, by rw [List.length_drop, List.length_take, sizeLine_eq]; omega, fun Z nZ => ?_⟩
    have t3 := same_new (o := .lst (ws.drop 1 ++ ws.take 1)) nZ
    have hZ : upd (upd (upd G4 c1 (.lst (ws.drop 1))) c2 (.lst (ws.take 1))) Z (.lst (ws.drop 1 ++ ws.take 1)) Z = some (.lst (ws.drop 1 ++ ws.take 1)) := upd_same
    have t13 := t1.trans (t2.trans t3)
    have hO7 := t13 _ _ hO
    have hD7 := t13 _ _ hD6
    have qm7 := qm5.up t13
    have D7 := D6.up t13
    have E7 : Ext p l H (upd (upd (upd G4 c1 (.lst (ws.drop 1))) c2 (.lst (ws.take 1))) Z (.lst (ws.drop 1 ++ ws.take 1))) := Same.trans E6 (Ext.of t13)
    generalize upd (upd (upd G4 c1 (.lst (ws.drop 1))) c2 (.lst (ws.take 1))) Z (.lst (ws.drop 1 ++ ws.take 1)) = G7 at hZ hO7 hD7 qm7 D7 E7
    clear t13 t3 t2 t1 hc1' hc2 hc1 nc1 nc2 nZ hO hD6 qm5 D6 E6
    have nOD : O ≠ D := ne_of hO7 hD7 (by intro z; cases z)
    have nZD : Z ≠ D := ne_of hZ hD7 (by intro z; cases z)
    have qz : DqA G7 (ws.drop 1 ++ ws.take 1) ((M0.drop 1 ++ M0.take 1).map lotD) := by
      rw [List.map_append, List.map_drop, List.map_take]
      exact (qm7.drop 1).app (qm7.take 1)
    refine ⟨O, Z, ws, _, rfl, SqL.of hO7, SqL.of hZ, ?_⟩
    refine for_it (walk_zip (n := M0.length) (by rw [List.length_append, List.length_drop, List.length_take]; omega)) (fun j σ G => ∃ (v5 v6 v7 v9 v10 v11 : Option V) (kvs : List (List Key × V)), σ = [some (.ref p), some (.int n), some (.int s), some (.ref D), some (.ref O), v5, v6, v7, none, v9, v10, v11] ∧
        (∀ b o, b ≠ D → G7 b = some o → G b = some o) ∧ G D = some (.dT kvs) ∧ kvs.length ≤ j ∧ (∀ k, k ∉ M0.take j → valV kvs (lotK k) = none) ∧ ∀ r k, r < j → M0[r]? = some k → ∃ a e, valV kvs (lotK k) = some (.ref a) ∧ G a = some (.tup (e.map V.int)) ∧ EntV n k e ∧ goalE n e = nxt M0 k)
      ⟨_, _, _, _, _, _, [], rfl, fun _ _ _ h => h, hD7, Nat.zero_le _, fun _ _ => rfl, fun _ _ h => absurd h (Nat.not_lt_zero _)⟩ (fun j σ G _ ⟨_, _, _, _, _, _, _, _, k, _⟩ => ⟨SqL.of (k _ _ nOD hO7), SqL.of (k _ _ nZD hZ)⟩) ?_ ?_
    · rintro j _ σ G _ hj ⟨v5, v6, v7, v9, v10, v11, kvs, rfl, kG, hG, hkvl, hno, hyes⟩ ⟨T, x1, x2, rfl, nT, rfl, e1, e2⟩
      obtain ⟨k, hk, kb, rfl, hkb⟩ := lots_get qm7 e1
      obtain ⟨g, hg, gb, rfl, hgb⟩ := lots_get qz e2
      rw [rot_at hj, nxt_at nd hk] at hg
      have eg : nxt M0 k = g := Option.some.inj hg
      have hkM := List.mem_of_getElem? hk
      have hgM : g ∈ M0 := eg ▸ nxt_in nd hkM
      have hkl := (lots_in n s k (subM k hkM)).1
      have hgl := (lots_in n s g (subM g hgM)).1
      have nkD : kb ≠ D := ne_of hkb hD7 (by intro z; cases z)
      have ngD : gb ≠ D := ne_of hgb hD7 (by intro z; cases z)
      have sT := same_new (o := .tup [.ref kb, .ref gb]) nT
      refine ⟨T, [.ref kb, .ref gb], rfl, SqT.of upd_same, rfl, .ref kb, [.ref gb], rfl, .ref gb, [], rfl, rfl, ?_⟩
      have k1 : ∀ b o, b ≠ D → G7 b = some o → upd G T (.tup [.ref kb, .ref gb]) b = some o := fun b o h1 h2 => sT _ _ (kG _ _ h1 h2)
      have hG1 := sT _ _ hG
      have hyes1 : ∀ r k, r < j → M0[r]? = some k → ∃ a e, valV kvs (lotK k) = some (.ref a) ∧ upd G T (.tup [.ref kb, .ref gb]) a = some (.tup (e.map V.int)) ∧ EntV n k e ∧ goalE n e = nxt M0 k := fun r k h1 h2 => let ⟨a, e, x, y, z⟩ := hyes r k h1 h2; ⟨a, e, x, sT _ _ y, z⟩
      generalize upd G T (.tup [.ref kb, .ref gb]) = G1 at k1 hG1 hyes1
      clear sT nT kG hG hyes
      try dsimp only [tNext]
      refine ⟨.int n, rfl, (n : Int), rfl, by omega, by omega, fun F nF => ?_⟩
      rw [Int.toNat_natCast]
      refine lc_it (walk_rg (n := n)) (fun t G2 => G2 F = some (.lst (lv ((List.range t).filter fun (y : Nat) => !decide (y ∈ g)))) ∧ Same G1 G2) ⟨upd_same, same_new nF⟩ (fun _ _ _ _ => trivial) ?_ ?_
      · rintro t x _ G2 ht ⟨hF, s6⟩ ⟨rfl, rfl⟩
        refine ⟨rfl, .int t, rfl, .ref gb, rfl, gb, _, rfl, .inr (SqT.of (s6 _ _ (k1 _ _ ngD hgb))), rfl, lv_fl g, _, rfl, ?_⟩
        have er : (List.range (t + 1)).filter (fun (y : Nat) => !decide (y ∈ g)) = (List.range t).filter (fun (y : Nat) => !decide (y ∈ g)) ++ (if t ∈ g then [] else [t]) := by
          rw [List.range_succ, List.filter_append]
          by_cases hm : t ∈ g <;> simp [hm]
        rw [inV_lot, er]
        by_cases hm : t ∈ g
        · rw [decide_eq_true hm, if_pos hm, List.append_nil]
          exact iteF ⟨hF, s6⟩
        · rw [decide_eq_false hm, if_neg hm]
          refine iteT ⟨_, rfl, _, hF, szm ?_, ?_, fun b o hb => ?_⟩
          · rw [lv_len]
            have := List.length_filter_le (fun (y : Nat) => !decide (y ∈ g)) (List.range t)
            rw [List.length_range] at this
            omega
          · rw [upd_same]
            simp [lv]
          · rw [upd_ne (ne_of_none hb nF)]
            exact s6 _ _ hb
      rintro G2 ⟨hF, s6⟩
      have k2 : ∀ b o, b ≠ D → G7 b = some o → G2 b = some o := fun b o h1 h2 => s6 _ _ (k1 _ _ h1 h2)
      have hG2 := s6 _ _ hG1
      have hyes2 : ∀ r k, r < j → M0[r]? = some k → ∃ a e, valV kvs (lotK k) = some (.ref a) ∧ G2 a = some (.tup (e.map V.int)) ∧ EntV n k e ∧ goalE n e = nxt M0 k := fun r k h1 h2 => let ⟨a, e, x, y, z⟩ := hyes1 r k h1 h2; ⟨a, e, x, s6 _ _ y, z⟩
      clear hyes1 s6 hG1 k1 nF
      obtain ⟨w0, hw0⟩ : ∃ w0, ws[0]? = some w0 := ⟨_, List.getElem?_eq_getElem (by omega)⟩
      obtain ⟨g0, hg0, gb0, rfl, hgb0⟩ := lots_get qm7 hw0
      have ng0 : gb0 ≠ D := ne_of hgb0 hD7 (by intro z; cases z)
      try dsimp only [tNext]
      refine ⟨.ref gb, rfl, .ref O, rfl, O, ws, ((0 : Nat) : Int), _, rfl, rfl, SqL.of (k2 _ _ nOD hO7), atI_nat hw0, lotD g, lotD g0, (lot_at (k2 _ _ ngD hgb)).dp (lot_flat _), (lot_at (k2 _ _ ng0 hgb0)).dp (lot_flat _), lot_shaped _, lot_shaped _, _, rfl, ?_⟩
      refine ifE_join (R := fun v G3 => ∃ F2 fz, v = .ref F2 ∧ Same G2 G3 ∧ G3 F2 = some (.lst (lv fz)) ∧ fz.Perm (freeG n g)) ?_ (fun _ Q' k => ?_) (fun _ Q' k => ?_)
      rotate_left
      · refine ⟨.ref F, rfl, _, rfl, F, _, rfl, SqL.of hF, fun c1 nc1 => ?_⟩
        rw [cut1]
        have t1 := same_new (o := .lst ((lv (freeG n g)).drop 1)) nc1
        refine ⟨.ref F, rfl, _, rfl, F, _, rfl, SqL.of (t1 _ _ hF), fun c2 nc2 => ?_⟩
        rw [cut1t]
        have t2 := same_new (o := .lst ((lv (freeG n g)).take 1)) nc2
        refine ⟨c1, c2, _, _, rfl, rfl, t2 _ _ upd_same, upd_same, ?_, fun Z2 nZ2 => k _ _ ⟨Z2, freeG n g |>.drop 1 |>.append (freeG n g |>.take 1), rfl, t1.trans (t2.trans (same_new nZ2)), ?_, rot_perm _ 1⟩⟩
        · rw [List.length_drop, List.length_take, lv_len, sizeLine_eq]
          have := List.length_filter_le (fun (y : Nat) => !decide (y ∈ g)) (List.range n)
          rw [List.length_range] at this
          omega
        · rw [upd_same]
          show _ = some (HO.lst (lv ((freeG n g).drop 1 ++ (freeG n g).take 1)))
          unfold lv
          rw [List.map_append, List.map_drop, List.map_take]
      · exact ⟨.ref F, rfl, k _ _ ⟨F, freeG n g, rfl, Same.refl _, hF, .refl _⟩⟩
      rintro v G3 ⟨F2, fz, rfl, s7, hF2, hfz⟩
      have k3 : ∀ b o, b ≠ D → G7 b = some o → G3 b = some o := fun b o h1 h2 => s7 _ _ (k2 _ _ h1 h2)
      have hG3 := s7 _ _ hG2
      have hyes3 : ∀ r k, r < j → M0[r]? = some k → ∃ a e, valV kvs (lotK k) = some (.ref a) ∧ G3 a = some (.tup (e.map V.int)) ∧ EntV n k e ∧ goalE n e = nxt M0 k := fun r k h1 h2 => let ⟨a, e, x, y, z⟩ := hyes2 r k h1 h2; ⟨a, e, x, s7 _ _ y, z⟩
      clear hyes2 s7 hG2 k2 hF
      have hfl1 := (lot_filt n (by omega) g (subA g hgM)).2
      have hfl2 := (lot_filt n (by omega) k (subA k hkM)).2
      have hfzl : fz.length = (freeG n k).length := by
        have := hfz.length_eq
        show fz.length = ((List.range n).filter fun (y : Nat) => !decide (y ∈ k)).length
        have e3 : (freeG n g).length + g.length = n := hfl1
        omega
      try dsimp only [tNext]
      refine ⟨1, rfl, by show 1 ≤ sizeLine; decide, fun l1 nl1 => ⟨.int n, rfl, l1, (n : Int), [.int (-1)], rfl, rfl, upd_same, by omega, by omega, by show 1 * _ ≤ sizeLine; exact sz (by omega), fun fo nfo => ?_⟩⟩
      have sl := (same_new (o := .lst [.int (-1)]) nl1).trans (same_new (o := .lst (List.replicate (n : Int).toNat [V.int (-1)]).flatten) nfo)
      have hfo : upd (upd G3 l1 (.lst [.int (-1)])) fo (.lst (List.replicate (n : Int).toNat [V.int (-1)]).flatten) fo = some (.lst ((List.replicate n (-1 : Int)).map V.int)) := by
        rw [upd_same, Int.toNat_natCast, List.map_replicate]
        exact congrArg _ (congrArg _ (by
          have : ∀ (k : Nat), (List.replicate k [V.int (-1)]).flatten = List.replicate k (V.int (-1)) := fun k => by
            induction k with
            | zero => rfl
            | succ k ih => rw [List.replicate_succ, List.flatten_cons, ih]; rfl
          exact this n))
      have nff : ∀ b o, G3 b = some o → b ≠ fo := fun b o hb => ne_of_none (same_new (o := .lst [.int (-1)]) nl1 _ _ hb) nfo
      generalize upd (upd G3 l1 (.lst [.int (-1)])) fo (.lst (List.replicate (n : Int).toNat [V.int (-1)]).flatten) = G4 at hfo sl
      clear nfo nl1
      try dsimp only [tNext]
      refine ⟨.int n, rfl, (n : Int), rfl, by omega, by omega, fun R nR => ?_⟩
      rw [Int.toNat_natCast]
      have nRfo : R ≠ fo := (ne_of_none hfo nR).symm
      refine lc_it (walk_rg (n := n)) (fun t G5 => G5 R = some (.lst (lv ((List.range t).filter fun (y : Nat) => !decide (y ∈ k)))) ∧ Same G4 G5) ⟨upd_same, same_new nR⟩ (fun _ _ _ _ => trivial) ?_ ?_
      · rintro t x _ G5 ht ⟨hR, s6⟩ ⟨rfl, rfl⟩
        refine ⟨rfl, .int t, rfl, .ref kb, rfl, kb, _, rfl, .inr (SqT.of (s6 _ _ (sl _ _ (k3 _ _ nkD hkb)))), rfl, lv_fl k, _, rfl, ?_⟩
        have er : (List.range (t + 1)).filter (fun (y : Nat) => !decide (y ∈ k)) = (List.range t).filter (fun (y : Nat) => !decide (y ∈ k)) ++ (if t ∈ k then [] else [t]) := by
          rw [List.range_succ, List.filter_append]
          by_cases hm : t ∈ k <;> simp [hm]
        rw [inV_lot, er]
        by_cases hm : t ∈ k
        · rw [decide_eq_true hm, if_pos hm, List.append_nil]
          exact iteF ⟨hR, s6⟩
        · rw [decide_eq_false hm, if_neg hm]
          refine iteT ⟨_, rfl, _, hR, szm ?_, ?_, fun b o hb => ?_⟩
          · rw [lv_len]
            have := List.length_filter_le (fun (y : Nat) => !decide (y ∈ k)) (List.range t)
            rw [List.length_range] at this
            omega
          · rw [upd_same]
            simp [lv]
          · rw [upd_ne (ne_of_none hb nR)]
            exact s6 _ _ hb
      rintro G5 ⟨hR, s6⟩
      have hfo5 := s6 _ _ hfo
      have s35 := sl.trans s6
      clear sl s6 hfo nR
      refine ⟨R, _, rfl, SqL.of hR, for_it walk_enum (fun t σ G6 => ∃ (v10 v11 : Option V) (a : List Int), σ = [some (.ref p), some (.int n), some (.int s), some (.ref D), some (.ref O), some (.ref kb), some (.ref gb), some (.ref F2), none, some (.ref fo), v10, v11] ∧ (∀ b o, b ≠ fo → G5 b = some o → G6 b = some o) ∧ G6 fo = some (.lst (a.map V.int)) ∧ a.length = n ∧
          (∀ r u, r < t → (freeG n k)[r]? = some u → a.getD u 0 = ((fz.getD r 0 : Nat) : Int)) ∧ (∀ u, u < n → (∀ r, r < t → (freeG n k)[r]? ≠ some u) → a.getD u 0 = -1))
        ⟨_, _, _, rfl, fun _ _ _ h => h, hfo5, List.length_replicate, fun _ _ h => absurd h (Nat.not_lt_zero _), fun u hu _ => by rw [List.getD_eq_getElem?_getD, List.getElem?_replicate, if_pos hu]; rfl⟩ (fun t σ G6 _ ⟨_, _, _, _, k, _⟩ => SqL.of (k _ _ nRfo hR)) ?_ ?_⟩
      · rintro t _ σ G6 _ ht ⟨v10, v11, a, rfl, k6, hf6, hal, i1, i2⟩ ⟨tt, x, y, rfl, ntt, rfl, e1, e2⟩
        cases Option.some.inj e1
        rw [lv_len] at ht
        have ndf : (freeG n k).Nodup := List.nodup_range.filter _
        obtain ⟨u, hu, rfl⟩ : ∃ u, (freeG n k)[t]? = some u ∧ V.int ((u : Nat) : Int) = y := by
          have e4 : (lv (freeG n k))[t]? = some y := e2
          unfold lv at e4
          rw [List.getElem?_map] at e4
          obtain ⟨u, h1, h2⟩ := Option.map_eq_some_iff.mp e4
          exact ⟨u, h1, h2⟩
        have hun : u < n := List.mem_range.mp (List.mem_filter.mp (List.mem_of_getElem? hu)).1
        have stt := same_new (o := .tup [.int (t : Nat), .int (u : Nat)]) ntt
        refine ⟨tt, [.int (t : Nat), .int (u : Nat)], rfl, SqT.of upd_same, rfl, .int (t : Nat), [.int (u : Nat)], rfl, .int (u : Nat), [], rfl, rfl, ?_⟩
        have hf7 := stt _ _ hf6
        have hF6 : upd G6 tt (.tup [.int (t : Nat), .int (u : Nat)]) F2 = some (.lst (lv fz)) := stt _ _ (k6 _ _ (nff _ _ hF2) (s35 _ _ hF2))
        have hft : (lv fz)[t]? = some (.int ((fz.getD t 0 : Nat) : Int)) := by
          unfold lv
          rw [List.getElem?_map, List.getElem?_eq_getElem (show t < fz.length by rw [hfzl]; exact ht), List.getD_eq_getElem?_getD, List.getElem?_eq_getElem (show t < fz.length by rw [hfzl]; exact ht)]
          rfl
        refine ⟨.ref F2, rfl, .int (t : Nat), rfl, F2, _, t, _, rfl, rfl, SqL.of hF6, atI_nat hft, .ref fo, rfl, .int (u : Nat), rfl, fo, _, u, u, rfl, rfl, hf7, ixN_nat (by rw [List.length_map, hal]; exact hun), _, _, a.set u ((fz.getD t 0 : Nat) : Int), rfl, fun b o h1 h2 => ?_, ?_, by rw [List.length_set]; exact hal, fun r u' hr hu' => ?_, fun u' hu'n hno' => ?_⟩
        · rw [upd_ne h1]
          exact stt _ _ (k6 _ _ h1 h2)
        · rw [upd_same, List.map_set]
        · by_cases e : u' = u
          · subst e
            have : r = t := nd_ix ndf hu' hu
            subst this
            rw [List.getD_eq_getElem?_getD, List.getElem?_set_self (by rw [hal]; exact hun)]
            rfl
          · have hrt : r < t := by
              rcases Nat.lt_or_ge r t with c | c
              · exact c
              · have : r = t := by omega
                rw [this, hu] at hu'
                exact absurd (Option.some.inj hu').symm e
            rw [List.getD_eq_getElem?_getD, List.getElem?_set_ne (fun z => e z.symm), ← List.getD_eq_getElem?_getD]
            exact i1 r u' hrt hu'
        · have hne : u ≠ u' := fun z => hno' t (Nat.lt_succ_self t) (by rw [hu, z])
          rw [List.getD_eq_getElem?_getD, List.getElem?_set_ne hne, ← List.getD_eq_getElem?_getD]
          exact i2 u' hu'n fun r hr => hno' r (by omega)
      · rintro σ G6 ⟨v10, v11, a, rfl, k6, hf6, hal, i1, i2⟩
        rw [lv_len] at i1 i2
        obtain ⟨hEV, hGE⟩ := ent_ranks n1 (subA k hkM) (subA g hgM) hal hfz hfzl (fun r u hu => i1 r u (List.getElem?_eq_some_iff.mp hu).1 hu) (fun u hu hm => i2 u hu fun r hr z => by
          have := (List.mem_filter.mp (List.mem_of_getElem? z)).2
          simp [hm] at this)
        try dsimp only [tNext]
        refine ⟨.ref fo, rfl, fo, _, rfl, .inl ⟨SqL.of hf6, fun e ne => ?_⟩⟩
        have se := same_new (o := .tup (a.map V.int)) ne
        have he : upd G6 e (.tup (a.map V.int)) e = some (.tup (a.map V.int)) := upd_same
        have k8 : ∀ b o, G3 b = some o → upd G6 e (.tup (a.map V.int)) b = some o := fun b o h1 => se _ _ (k6 _ _ (nff _ _ h1) (s35 _ _ h1))
        generalize upd G6 e (.tup (a.map V.int)) = G8 at he k8
        have hD8 := k8 _ _ hG3
        have hkb8 := k8 _ _ (k3 _ _ nkD hkb)
        refine ⟨.ref D, rfl, .ref kb, rfl, D, _, rfl, DPut.t (k := lotK k) hD8 (by rw [lotK_v]; exact hkb8) (szl (by omega)), ?_⟩
        have ts : ∀ (b : Addr) (ys : List V), G8 b = some (.tup ys) → upd G8 D (.dT (putK kvs (lotK k) (.ref e))) b = some (.tup ys) := fun b ys hb => by
          rw [upd_ne (ne_of hb hD8 (by intro z; cases z))]
          exact hb
        have hlp := length_putK kvs (lotK k) (V.ref e)
        refine ⟨_, _, _, _, _, _, putK kvs (lotK k) (.ref e), rfl, fun b o h1 h2 => ?_, upd_same, by omega, fun k' hk' => ?_, fun r k' hr hk' => ?_⟩
        · rw [upd_ne h1]
          exact k8 _ _ (k3 _ _ h1 h2)
        · rw [valV_put, if_neg fun z => hk' (by
            rw [lotK_inj z, List.take_add_one, hk]
            exact List.mem_append_right _ (List.mem_singleton.mpr rfl))]
          exact hno k' fun z => hk' (by
            rw [List.take_add_one]
            exact List.mem_append_left _ z)
        · by_cases e5 : k' = k
          · subst e5
            refine ⟨e, a, by rw [valV_put, if_pos rfl], ts _ _ he, hEV, ?_⟩
            rw [hGE, eg]
          · have hrj : r < j := by
              rcases Nat.lt_or_ge r j with c | c
              · exact c
              · have : r = j := by omega
                rw [this, hk] at hk'
                exact absurd (Option.some.inj hk').symm e5
            obtain ⟨a', e', h1, h2, h3⟩ := hyes3 r k' hrj hk'
            exact ⟨a', e', by rw [valV_put, if_neg fun z => e5 (lotK_inj z)]; exact h1, ts _ _ (k8 _ _ h2), h3⟩
    · rintro σ G ⟨v5, v6, v7, v9, v10, v11, kvs, rfl, kG, hG, hkvl, hno, hyes⟩
      rw [List.take_length] at hno
      have D8 : Deck G p l := by
        obtain ⟨ds, st, h1, h2, h3⟩ := D7.ex
        exact ⟨ds, st, kG _ _ nDp.symm h1, kG _ _ nDl.symm h2, h3⟩
      have E8 : Ext p l H G := fun b o hb => by
        obtain ⟨a1, a2, a3⟩ := hid_some hb
        obtain ⟨b1, b2, b3⟩ := hid_some (E7 _ _ hb)
        rw [hid_ne b1 b2]
        exact kG _ _ (fun z => by rw [z, nD0] at a3; cases a3) b3
      refine ⟨.int n, rfl, n, rfl, n1, fun G8 ve2 s8 hve2 => ?_⟩
      cases hve2 with
      | @lst L2 ks2 _ hL2 qk2 =>
      have hal2 := all_few n (by omega)
      have hkl2 : ks2.length = (allL n).length := by rw [qk2.len, List.length_map]
      have hG8 := s8 _ _ hG
      refine ⟨L2, rfl, ⟨_, SqL.of hL2⟩, fun W2 nW2 => ?_⟩
      refine lc_it (walk_list (K := K) (a := L2) (xs := ks2)) (fun i G9 => ∃ ys T, G9 W2 = some (.lst ys) ∧ Same G8 G9 ∧ DqA G9 ys (T.map entD) ∧ Ents n ((allL n).take i) T ∧ T.map (goalE n) = ((allL n).take i).map (nxt M0)) ⟨[], [], upd_same, same_new nW2, .nil, Ents.nil, rfl⟩ (fun _ _ _ ⟨_, _, _, sm, _⟩ => SqL.of (sm _ _ hL2)) ?_ ?_
      · rintro i x _ G9 hi ⟨ys, T, hW2, sm, qy, hen, hgo⟩ ⟨rfl, hx⟩
        obtain ⟨k, hk, kb, rfl, hkb⟩ := lots_get qk2 hx
        have hkA := List.mem_of_getElem? hk
        refine ⟨rfl, ?_⟩
        dsimp only [tYes]
        rw [if_pos rfl]
        refine ⟨.ref D, rfl, D, rfl, .inr ⟨kvs, .inl (sm _ _ hG8)⟩, .ref kb, rfl, .int n, rfl, (n : Int), rfl, by omega, by omega, fun X nX => ?_⟩
        rw [Int.toNat_natCast]
        refine lc_itF (walk_rg (n := n)) (fun x => .int (if x ∈ k then -1 else ((x : Nat) : Int))) nX (by omega) (fun _ _ => rfl) (fun _ _ => trivial) (fun x y G10 G10' C Cn hx s9 hy c => ?_) (fun G10 bs s9 hX qb => ?_)
        · obtain ⟨rfl, rfl⟩ := hy
          refine ⟨rfl, ?_⟩
          dsimp only [tYes]
          rw [if_pos rfl]
          refine ⟨.int x, rfl, .ref kb, rfl, kb, lv k, rfl, .inr (SqT.of (s9 _ _ (sm _ _ hkb))), rfl, lv_fl k, _, rfl, ?_⟩
          rw [inV_lot]
          by_cases hm : x ∈ k
          · rw [decide_eq_true hm]
            rw [if_pos hm] at c
            exact iteT ⟨1, rfl, c _ _ (Same.refl _) (.int _)⟩
          · rw [decide_eq_false hm]
            rw [if_neg hm] at c
            exact iteF ⟨_, rfl, c _ _ (Same.refl _) (.int _)⟩
        · have ebs : bs = ((List.range n).map fun x => if x ∈ k then (-1 : Int) else ((x : Nat) : Int)).map V.int := dqa_int (by rw [List.map_map]; exact qb)
          subst ebs
          refine ⟨X, _, rfl, .inl ⟨SqL.of hX, fun t nt => ?_⟩⟩
          have st := s9.trans (same_new (o := .tup (((List.range n).map fun x => if x ∈ k then (-1 : Int) else ((x : Nat) : Int)).map V.int)) nt)
          have ht : upd G10 t (.tup (((List.range n).map fun x => if x ∈ k then (-1 : Int) else ((x : Nat) : Int)).map V.int)) t = some (.tup (((List.range n).map fun x => if x ∈ k then (-1 : Int) else ((x : Nat) : Int)).map V.int)) := upd_same
          generalize upd G10 t (.tup (((List.range n).map fun x => if x ∈ k then (-1 : Int) else ((x : Nat) : Int)).map V.int)) = G11 at st ht
          have etk : (allL n).take (i + 1) = (allL n).take i ++ [k] := by rw [List.take_add_one, hk]; rfl
          have hW3 := st _ _ hW2
          have ysl : ys.length ≤ 64 := by
            rw [qy.len, List.length_map, hen.len, List.length_take]
            omega
          refine ⟨valV kvs (lotK k), DGet.t (st _ _ (sm _ _ hG8)) (by rw [lotK_v]; exact st _ _ (sm _ _ hkb)), ?_⟩
          have fin : ∀ (b : Addr) (e : List Int), G11 b = some (.tup (e.map V.int)) → EntV n k e → goalE n e = nxt M0 k → ∃ ys' T', upd G11 W2 (.lst (ys ++ [.ref b])) W2 = some (.lst ys') ∧ Same G8 (upd G11 W2 (.lst (ys ++ [.ref b]))) ∧ DqA (upd G11 W2 (.lst (ys ++ [.ref b]))) ys' (T'.map entD) ∧ Ents n ((allL n).take (i + 1)) T' ∧ T'.map (goalE n) = ((allL n).take (i + 1)).map (nxt M0) := fun b e hb hv hg => by
            have ts : TS G11 (upd G11 W2 (.lst (ys ++ [.ref b]))) := TS.lst hW3
            refine ⟨_, T ++ [e], upd_same, fun c o hc => ?_, ?_, by rw [etk]; exact hen.snoc hv, by rw [etk, List.map_append, List.map_append, hgo]; show _ ++ [goalE n e] = _; rw [hg]; rfl⟩
            · rw [upd_ne (ne_of_none hc nW2)]
              exact st _ _ (sm _ _ hc)
            · rw [List.map_append]
              exact dqa_snoc (DqA.upT ts (ents_flat _) (qy.up st)) (ent_at (ts _ _ hb))
          by_cases hm : k ∈ M0
          · obtain ⟨r, hr⟩ := List.getElem?_of_mem hm
            obtain ⟨a, e, h1, h2, h3, h4⟩ := hyes r k (List.getElem?_eq_some_iff.mp hr).1 hr
            rw [h1]
            exact ⟨ys, hW3, szm (by omega), fin a e (st _ _ (sm _ _ (s8 _ _ h2))) h3 h4⟩
          · rw [hno k hm]
            obtain ⟨h3, h4⟩ := ent_ranks (a := (List.range n).map fun x => if x ∈ k then (-1 : Int) else ((x : Nat) : Int)) n1 hkA hkA (by rw [List.length_map, List.length_range]) (.refl (freeG n k)) rfl (fun r u hu => by
              have hu2 := List.mem_filter.mp (List.mem_of_getElem? hu)
              have hun : u < n := List.mem_range.mp hu2.1
              have hm2 : u ∉ k := by simpa using hu2.2
              rw [map_getD_lt (d := 0) (by rw [List.length_range]; exact hun), show (List.range n).getD u 0 = u by rw [List.getD_eq_getElem?_getD, List.getElem?_range hun]; rfl, if_neg hm2, List.getD_eq_getElem?_getD, hu]
              rfl) (fun u hun hm2 => by
              rw [map_getD_lt (d := 0) (by rw [List.length_range]; exact hun), show (List.range n).getD u 0 = u by rw [List.getD_eq_getElem?_getD, List.getElem?_range hun]; rfl, if_pos hm2])
            exact ⟨ys, hW3, szm (by omega), fin t _ ht h3 (by rw [h4, nxt_out hm])⟩
      rintro G9 ⟨ys, T, hW2, sm, qy, hen, hgo⟩
      rw [hkl2, List.take_length] at hen hgo
      refine ⟨W2, _, rfl, .inl ⟨SqL.of hW2, fun t nt => q _ _ T ((D8.up (s8.trans sm)).up (same_new nt)) (Same.trans E8 (Ext.of ((s8.trans sm).trans (same_new nt)))) (.tup upd_same (qy.up (same_new nt))) ⟨hen, by rw [hgo]; exact nxt_perm n1 nd subA⟩⟩⟩
end
end Kr
namespace Kr
open PySem PySem.Spec PyProof.Rows L2
/-! ### defs that may be called by names in the contrary order; defs that are called where no repr is under way -/
structure OkN (P : Program) (w : World) (K : PySem.W.Frag) (mg : Str → Option Value) (base : Heap) (k : Nat) (x : Str) (ps ks : List Str) (sp : Sp) : Prop where
  ex : ∃ f fd, FnOk P w K mg base CX0 k f fd ps sp ∧ PySem.W.keepIn K (.ref f) = true ∧ mg x = some (.ref f) ∧ Binds K fd ps [] ∧ KBn K fd ps 0 ks (fun _ ws => ws.reverse) (fun _ zs => zs.reverse)
structure DfN (K : PySem.W.Frag) (mg : Str → Option Value) (x : Str) (st : Stmt) (ps ks : List Str) : Prop where
  ex : ∃ f fd, Fun K x x st f fd ∧ Binds K fd ps [] ∧ mg x = some (.ref f) ∧ KBn K fd ps 0 ks (fun _ ws => ws.reverse) (fun _ zs => zs.reverse)
structure OkG (P : Program) (w : World) (K : PySem.W.Frag) (mg : Str → Option Value) (base : Heap) (k : Nat) (x : Str) (ps : List Str) (sp : Sp) : Prop where
  ex : ∃ f fd, FnG P w K mg base CX0 k f fd ps sp ∧ PySem.W.keepIn K (.ref f) = true ∧ mg x = some (.ref f) ∧ Binds K fd ps []
section
variable {P : Program} {w : World} {K : PySem.W.Frag} {mg : Str → Option Value} {base : Heap}
theorem OkN.ok {x : Str} {ps ks : List Str} {k : Nat} {sp : Sp} (D : OkN P w K mg base k x ps ks sp) : Ok P w K mg base k x ps sp := let ⟨f, fd, a, b, c, d, _⟩ := D.ex; ⟨f, fd, a, b, c, d⟩
theorem OkN.mono {x : Str} {ps ks : List Str} {j k : Nat} {sp : Sp} (D : OkN P w K mg base j x ps ks sp) (h : j ≤ k) : OkN P w K mg base k x ps ks sp := let ⟨f, fd, a, r⟩ := D.ex; ⟨f, fd, a.mono h, r⟩
theorem DfN.df {x : Str} {st : Stmt} {ps ks : List Str} (D : DfN K mg x st ps ks) : Df K mg x st ps := let ⟨f, fd, a, b, c, _⟩ := D.ex; ⟨f, fd, a, b, c⟩
/-- a promise of the def by place holds by names -/
theorem DfN.okN {x : Str} {st : Stmt} {ps ks : List Str} {k : Nat} {sp : Sp} (D : DfN K mg x st ps ks) (h : ∀ f fd, Fun K x x st f fd → FnOk P w K mg base CX0 k f fd ps sp) : OkN P w K mg base k x ps ks sp := by
  obtain ⟨f, fd, F, b, g, n⟩ := D.ex
  exact ⟨f, fd, h f fd F, F.kp, g, b, n⟩
theorem Df.okG {x : Str} {st : Stmt} {ps : List Str} {k : Nat} {sp : Sp} (D : Df K mg x st ps) (h : ∀ f fd, Fun K x x st f fd → FnG P w K mg base CX0 k f fd ps sp) : OkG P w K mg base k x ps sp := by
  obtain ⟨f, fd, F, b, g⟩ := D.ex
  exact ⟨f, fd, h f fd F, F.kp, g, b⟩
theorem OkG.mono {x : Str} {ps : List Str} {j k : Nat} {sp : Sp} (D : OkG P w K mg base j x ps sp) (h : j ≤ k) : OkG P w K mg base k x ps sp := by
  obtain ⟨f, fd, F, r⟩ := D.ex
  exact ⟨f, fd, F.mono h, r⟩
end
section
variable {X : Cx} {k : Nat} {x : Str} {ps ks : List Str} {sp : Sp} {p pos : Pos} {e : Expr} {es : List Expr} {t : TA} {kws : List Keyword} {tk : TA}
theorem pe_fnN (D : OkN X.prog X.w X.K X.mg X.base k x ps ks sp) (hr : Room k X.A) (hg : Gl X x) (hkw : PK X kws tk)
    (hall : (backToKw pos (keywordEach kws X.env)).all (·.1.isSome) = true := by rfl) (hks : (backToKw pos (keywordEach kws X.env)).filterMap (·.1) = ks := by rfl) (hdb : (x == ("__debug__" : Str)) = false := by decide)
    (hpl : ((backTo pos (starEach [] X.env)).any (·.1) || (backToKw pos (keywordEach kws X.env)).any (·.1.isNone)) = false := by rfl) :
    PE X (.Call (.Name x p) [] kws pos) (tCallN ks.length sp (fun _ zs => zs.reverse) E0 tk) := by
  obtain ⟨f, fd, F, kp, g, b, n⟩ := D.ex
  exact pe_callN F hr hg g kp n pass0 hkw hall hks hdb hpl
theorem pe_fnG (D : OkG X.prog X.w X.K X.mg X.base k x ps sp) (gd : X.A.guards = some []) (hr : Room k X.A) (hg : Gl X x) (ha : PA X (e :: es) t)
    (hdb : (x == ("__debug__" : Str)) = false := by decide) (he : starEach (e :: es) X.env = (false, eval e X.env) :: starEach es X.env := by rfl) (hpl : (backTo pos (starEach es X.env)).any (·.1) = false := by rfl) :
    PE X (.Call (.Name x p) (e :: es) [] pos) (tCall sp [] E0 t) := by
  obtain ⟨f, fd, F, kp, g, b⟩ := D.ex
  exact pe_callG F gd hr hg g kp b .nil pass0 ha hdb he hpl
end
/-! ### what is shown is small -/
theorem Sm.lit {i : Int} (h : i.natAbs < 32) : Sm 1 5 (.int i) := by
  have a := Sm.int (i := i) (by omega)
  refine ⟨a.sh, a.ls, a.dp, ?_⟩
  simp only [PyData.weight]
  split
  · omega
  · rename_i h0
    have h1 : i.natAbs ≠ 0 := fun z => h0 (by simp; omega)
    have : i.natAbs.log2 < 5 := (Nat.log2_lt h1).mpr h
    omega
theorem Sm.strm {x : Str} {m : Nat} (h : (x.cps.toList.all fun c => decide (c < 16 ^ 8)) = true) (hs : x.length ≤ m) : Sm 1 m (.str x) :=
  ⟨by simp [PyData.showable], by simpa [PyData.leavesShort] using h, by simp [PyData.depth], hs⟩
theorem Sm.two {k w : Nat} {a b : PyData} (ha : Sm k w a) (hb : Sm k w b) : Sm (k + 1) ((w + 1) * 2) (.list [a, b]) := Sm.lst (fun d hd => by
  simp only [List.mem_cons, List.not_mem_nil, or_false] at hd
  rcases hd with rfl | rfl
  · exact ha
  · exact hb) (Nat.le_refl _)
/-- repr(e) != repr(e'), as a test -/
theorem ne_repr {te te2 : TE} {σ : L2.St} {H : Hp} {Q : Bool → Hp → Prop} (h : te σ H fun v H1 => rRepr [v] H1 fun x H2 => te2 σ H2 fun v2 H3 => rRepr [v2] H3 fun y H4 => rNe x y H4 fun z H5 => ∃ k, z = .bl k ∧ Q k H5) :
    tTest (tOp rNe (tCB rRepr (tCons te tNil)) (tCB rRepr (tCons te2 tNil))) σ H Q := h
/-- repr(e) != x, x a text in a slot -/
theorem ne_reprV {te te2 : TE} {σ : L2.St} {H : Hp} {Q : Bool → Hp → Prop} (h : te σ H fun v H1 => rRepr [v] H1 fun x H2 => te2 σ H2 fun y H4 => rNe x y H4 fun z H5 => ∃ k, z = .bl k ∧ Q k H5) :
    tTest (tOp rNe (tCB rRepr (tCons te tNil)) te2) σ H Q := h
theorem ret_eq_repr {te te2 : TE} {σ : L2.St} {H : Hp} {D : Ends} (h : te σ H fun v H1 => rRepr [v] H1 fun x H2 => te2 σ H2 fun v2 H3 => rRepr [v2] H3 fun y H4 => rEq x y H4 fun z H5 => D.rt z H5) : tRet (tOp rEq (tCB rRepr (tCons te tNil)) (tCB rRepr (tCons te2 tNil))) D σ H := h
theorem ret_eq_reprV {te te2 : TE} {σ : L2.St} {H : Hp} {D : Ends} (h : te σ H fun v H1 => rRepr [v] H1 fun x H2 => te2 σ H2 fun y H4 => rEq x y H4 fun z H5 => D.rt z H5) : tRet (tOp rEq (tCB rRepr (tCons te tNil)) te2) D σ H := h
/-- repr of small data, the text under a name -/
theorem repr_x {v : V} {d : PyData} {H : Hp} {Q : VK} {k w : Nat} (hd : Dq H v d) (h : Sm k w d) (hk : k ≤ 40) (hw : w ≤ 380000) (q : ∀ x, x = d.shown → Q (.str x) H) : rRepr [v] H Q := repr_sm hd h hk hw (q _ rfl)
theorem repr_ne {v : V} {d : PyData} {H : Hp} {x : Str} {Q : Bool → Hp → Prop} {k w : Nat} (hx : x = d.shown) (hd : Dq H v d) (h : Sm k w d) (hk : k ≤ 40) (hw : w ≤ 380000) (q : Q false H) :
    rRepr [v] H fun y H4 => rNe (.str x) y H4 fun z H5 => ∃ k, z = .bl k ∧ Q k H5 := by
  refine repr_x hd h hk hw fun y hy => ?_
  rw [← hy] at hx
  subst hx
  refine ⟨rfl, _, rfl, ?_⟩
  rw [decide_eq_true rfl]
  exact q
theorem repr_eq {v : V} {d : PyData} {H : Hp} {x : Str} {Q : VK} {k w : Nat} (hx : x = d.shown) (hd : Dq H v d) (h : Sm k w d) (hk : k ≤ 40) (hw : w ≤ 380000) (q : Q (.bl true) H) :
    rRepr [v] H fun y H4 => rEq (.str x) y H4 fun z H5 => Q z H5 := by
  refine repr_x hd h hk hw fun y hy => ?_
  rw [← hy] at hx
  subst hx
  refine ⟨rfl, ?_⟩
  rw [decide_eq_true rfl]
  exact q
theorem txt_eq {x y : Str} {d : PyData} {H : Hp} {Q : VK} (hx : x = d.shown) (hy : y = d.shown) (q : Q (.bl true) H) : rEq (.str x) (.str y) H Q := by
  rw [← hy] at hx
  subst hx
  refine ⟨rfl, ?_⟩
  rw [decide_eq_true rfl]
  exact q
theorem Sm.three {k w : Nat} {a b c : PyData} (ha : Sm k w a) (hb : Sm k w b) (hc : Sm k w c) : Sm (k + 1) ((w + 1) * 3) (.list [a, b, c]) := Sm.lst (fun d hd => by
  simp only [List.mem_cons, List.not_mem_nil, or_false] at hd
  rcases hd with rfl | rfl | rfl
  · exact ha
  · exact hb
  · exact hc) (Nat.le_refl _)
/-- two texts of the same data -/
theorem txt_ne {x y : Str} {d : PyData} {H : Hp} {Q : Bool → Hp → Prop} (hx : x = d.shown) (hy : y = d.shown) (q : Q false H) : rNe (.str x) (.str y) H fun z H5 => ∃ k, z = .bl k ∧ Q k H5 := by
  rw [← hy] at hx
  subst hx
  refine ⟨rfl, _, rfl, ?_⟩
  rw [decide_eq_true rfl]
  exact q
end Kr
namespace Kr
open PySem PySem.Spec PyProof.Rows L2
/-! ### what the laws show of tables -/
theorem tab_flat (T : List (List Int)) : flatT (tabD T) = true := by simp only [tabD, flatT]; exact ents_flat T
def deedD (m : Mv) : PyData := .tuple [lotD m.1, .int (m.2.1 : Nat), .int (m.2.2 : Nat)]
theorem deed_flat (m : Mv) : flatT (deedD m) = true := by simp [deedD, flatT, flatTA, lot_flat]
theorem deed_dq {H : Hp} {v : V} {m : Mv} (h : DeedAt H v m) : Dq H v (deedD m) := by
  obtain ⟨d, q, rfl, h1, h2⟩ := h
  exact .tup h1 (.cons (lot_at h2) (.cons (.int _) (.cons (.int _) .nil)))
theorem DeedAt.upT {H H' : Hp} {v : V} {m : Mv} (s : TS H H') (h : DeedAt H v m) : DeedAt H' v m := by
  obtain ⟨d, q, rfl, h1, h2⟩ := h
  exact ⟨d, q, rfl, s _ _ h1, s _ _ h2⟩
theorem sm_lot {l : List Nat} {m : Nat} (hl : l.length ≤ m) (h : ∀ x ∈ l, x < 24) : Sm 2 (6 * m) (lotD l) := by
  refine Sm.tup (k := 1) (w := 5) (fun d hd => ?_) (by rw [List.length_map]; exact hl)
  obtain ⟨x, hx, rfl⟩ := List.mem_map.mp hd
  exact .lit (by have := h x hx; omega)
theorem sm_ent {e : List Int} (hl : e.length ≤ 6) (h : ∀ x ∈ e, -1 ≤ x ∧ x < 24) : Sm 2 (6 * 6) (entD e) := by
  refine Sm.tup (k := 1) (w := 5) (fun d hd => ?_) (by rw [List.length_map]; exact hl)
  obtain ⟨x, hx, rfl⟩ := List.mem_map.mp hd
  exact .lit (by have := h x hx; omega)
theorem EntF.le {n : Nat} {l : List Nat} {e : List Int} (h : EntF n l e) : ∀ x ∈ e, x = -1 ∨ (0 ≤ x ∧ x < n) := fun z hz => by
  obtain ⟨x, hx, rfl⟩ := (mem_e h.len).mp hz
  by_cases c : x ∈ l
  · exact .inl (h.key x hx c)
  · exact .inr (h.rid x hx c)
theorem sm_entF {n : Nat} (hn : n ≤ 6) {l : List Nat} {e : List Int} (h : EntF n l e) : Sm 2 (6 * 6) (entD e) := sm_ent (by rw [h.len]; exact hn) fun x hx => by
  have := h.le x hx
  omega
theorem TabOk.mem {n : Nat} (hn : n ≤ 6) {T : List (List Int)} (h : TabOk n T) {e : List Int} (he : e ∈ T) : ∃ l ∈ allL n, EntF n l e := by
  rw [h.map hn] at he
  obtain ⟨l, hl, rfl⟩ := List.mem_map.mp he
  exact ⟨l, hl, h.ent hn hl⟩
theorem sm_tab {n : Nat} (hn : n ≤ 6) {T : List (List Int)} (h : TabOk n T) : Sm 3 ((6 * 6 + 1) * 64) (tabD T) := by
  refine Sm.tup (k := 2) (w := 6 * 6) (fun d hd => ?_) (by rw [List.length_map, h.ents.len]; exact all_few n (by omega))
  obtain ⟨e, he, rfl⟩ := List.mem_map.mp hd
  obtain ⟨l, _, f⟩ := h.mem hn he
  exact sm_entF hn f
theorem sm_deed {n : Nat} (hn : n ≤ 6) {m : Mv} (d : Deed n m) : Sm 3 ((36 + 1) * 3) (deedD m) := by
  have h1 := d.ab
  have h2 := d.bn
  refine Sm.tup (k := 2) (w := 36) (fun x hx => ?_) (Nat.le_refl _)
  simp only [List.mem_cons, List.not_mem_nil, or_false] at hx
  rcases hx with rfl | rfl | rfl
  · exact sm_lot (m := 6) (by have := d.asc.len; omega) fun x hx => by have := (d.asc.2 x hx).2; omega
  · exact (Sm.lit (by omega)).mono (by decide) (by decide)
  · exact (Sm.lit (by omega)).mono (by decide) (by decide)
theorem ents_lay : ∀ T : List (List Int), PyData.canLayAll0 (T.map entD) = true ∧ PyData.depthAll (T.map entD) ≤ 2
  | [] => by simp [PyData.canLayAll0, PyData.depthAll]
  | e :: T => by
    obtain ⟨h1, h2⟩ := ents_lay T
    have h3 := dep_ints1 e
    simp only [List.map_cons, PyData.canLayAll0, PyData.depthAll, entD, PyData.canLay0, PyData.depth, h1, lay_ints1]
    refine ⟨by simp, by omega⟩
theorem tab_shaped (T : List (List Int)) : SeqAt.shaped (tabD T) = true := by
  obtain ⟨h1, h2⟩ := ents_lay T
  unfold SeqAt.shaped
  simp only [tabD, PyData.canLay0, PyData.depth, h1, Bool.true_and, decide_eq_true_eq]
  omega
theorem TabOk.uniq {n : Nat} (hn : n ≤ 6) {T : List (List Int)} (h : TabOk n T) {i j : Nat} {e : List Int} (h1 : T[i]? = some e) (h2 : T[j]? = some e) : i = j := by
  have at_ : ∀ {i : Nat}, T[i]? = some e → ∃ l, (allL n)[i]? = some l ∧ EntF n l e := fun {i} hi => by
    have hl : i < (allL n).length := by rw [← h.ents.len]; exact (List.getElem?_eq_some_iff.mp hi).1
    exact ⟨_, List.getElem?_eq_getElem hl, (h.ents.at_ i _ _ (List.getElem?_eq_getElem hl) hi).f⟩
  obtain ⟨a, ha, fa⟩ := at_ h1
  obtain ⟨b, hb, fb⟩ := at_ h2
  have e1 : a = b := asc_ext (all_ascL hn _ (List.mem_of_getElem? ha)) (all_ascL hn _ (List.mem_of_getElem? hb)) fun x => by
    by_cases hx : x < n
    · rw [← fa.neg hx, ← fb.neg hx]
    · exact ⟨fun z => absurd ((all_ascL hn _ (List.mem_of_getElem? ha)).2 x z).2 (by omega), fun z => absurd ((all_ascL hn _ (List.mem_of_getElem? hb)).2 x z).2 (by omega)⟩
  subst e1
  rw [← (all_num_at hn ha).1, ← (all_num_at hn hb).1]
/-! ### what the program's tests ask -/
theorem TabOk.both_in {n : Nat} (hn : n ≤ 6) {T : List (List Int)} (h : TabOk n T) : T.length ≤ 1000 ∧ (∀ e ∈ T, EntOk n e) ∧ T.length = 2 ^ n ∧ ∀ e ∈ T, e.length = n := by
  refine ⟨by rw [h.ents.len]; exact Nat.le_trans (all_few n (by omega)) (by decide), fun e he => ?_, h.len hn, fun e he => ?_⟩
  · obtain ⟨l, _, f⟩ := h.mem hn he
    exact ⟨goal_all hn e, by rw [f.len]; omega, f.le⟩
  · obtain ⟨l, _, f⟩ := h.mem hn he
    exact f.len
theorem TabOk.nd {n : Nat} (hn : n ≤ 6) {T : List (List Int)} (h : TabOk n T) : (T.map (goalE n)).Nodup := h.goals.symm.nodup (all_nodup hn)
theorem all_head : ∀ n : Nat, n < 7 → (allL n)[0]? = some [] := by decide +kernel
theorem TabOk.head {n : Nat} (hn : n ≤ 6) {T : List (List Int)} (h : TabOk n T) : ∃ r, T = en n T [] :: r := by
  have e := all_head n (by omega)
  cases hA : allL n with
  | nil => rw [hA] at e; cases e
  | cons a r =>
    rw [hA] at e
    have ea : a = [] := Option.some.inj e
    subst ea
    have h2 := h.map hn
    rw [hA, List.map_cons] at h2
    exact ⟨_, h2⟩
theorem nil_all {n : Nat} (hn : n ≤ 6) : ([] : List Nat) ∈ allL n := List.mem_of_getElem? (all_head n (by omega))
theorem ints_eqv : ∀ a b : List Int, PyData.eqvAll (a.map .int) (b.map .int) = decide (a = b)
  | [], [] => by simp [PyData.eqvAll]
  | [], _ :: _ => by simp [PyData.eqvAll]
  | _ :: _, [] => by simp [PyData.eqvAll]
  | x :: a, y :: b => by
    have ih := ints_eqv a b
    simp only [List.map_cons, PyData.eqvAll]
    rw [ih, Bool.eq_iff_iff]
    simp [PyData.eqv]
theorem ent_eqv (a b : List Int) : PyData.eqv (entD a) (entD b) = decide (a = b) := by
  unfold entD
  simp only [PyData.eqv]
  exact ints_eqv a b
theorem lot_eqv (a b : List Nat) : PyData.eqv (lotD a) (lotD b) = decide (a = b) := by
  have e : ∀ l : List Nat, lotD l = entD (l.map fun (x : Nat) => (x : Int)) := fun l => by
    unfold lotD entD
    rw [List.map_map]
    rfl
  rw [e, e, ent_eqv, decide_eq_decide]
  exact List.map_inj_right (fun a b z => by omega)
theorem ent_shaped (e : List Int) : SeqAt.shaped (entD e) = true := tup_shaped e
theorem deed_head {n : Nat} {m : Mv} (d : Deed n m) : dE n m [] = byE [] (ups n) ↔ m.1 ≠ [] := by
  have h1 := d.ab
  have h2 := d.bn
  constructor
  · intro e z
    have e1 : dE n m [] = byE [] (swapW n m.2.1 m.2.2) := by
      unfold dE isAll
      rw [z]
      rfl
    rw [e1] at e
    have W := way_swap (n := n) (a := m.2.1) (b := m.2.2) (by omega) h2 (by omega)
    have e2 : (byE [] (swapW n m.2.1 m.2.2)).getD m.2.1 0 = (byE [] (ups n)).getD m.2.1 0 := by rw [e]
    rw [byE_at (by rw [W.len]; omega), byE_at (by rw [ups_len]; omega), if_neg (by simp), if_neg (by simp), W.at_ _ (by omega), ups_at (by omega)] at e2
    unfold sw at e2
    rw [if_neg (by omega), if_pos rfl] at e2
    omega
  · intro h
    unfold dE
    rw [if_neg]
    rw [isAll_iff]
    cases hm : m.1 with
    | nil => exact absurd hm h
    | cons x r => exact fun z => absurd (z x List.mem_cons_self) (by simp)
end Kr
namespace Kr
open PySem PySem.Spec PyProof.Rows L2
/-! ### pairs: a lot's number, a place -/
abbrev pK (p : Pr) : List Key := [.inl (p.1 : Int), .inl (p.2 : Int)]
abbrev pV (p : Pr) : List V := [.int (p.1 : Int), .int (p.2 : Int)]
theorem pK_v (p : Pr) : (pK p).map kV = pV p := rfl
theorem pK_inj {p q : Pr} (h : pK p = pK q) : p = q := by
  obtain ⟨a, b⟩ := p
  obtain ⟨c, d⟩ := q
  simp only [pK, List.cons.injEq, Sum.inl.injEq, and_true] at h
  exact Prod.ext (by show a = c; omega) (by show b = d; omega)
structure StepsAt (n : Nat) (T : List (List Int)) (H : Hp) (kvs : List (List Key × V)) : Prop where
  keys : ∀ kv ∈ kvs, ∃ p ∈ prs n, kv.1 = pK p
  val : ∀ p ∈ prs n, ∃ a, valV kvs (pK p) = some (.ref a) ∧ H a = some (.tup (pV (stp n T p)))
  len : kvs.length ≤ 1000
theorem StepsAt.up {n : Nat} {T : List (List Int)} {H H' : Hp} {kvs : List (List Key × V)} (h : StepsAt n T H kvs) (s : TS H H') : StepsAt n T H' kvs := ⟨h.keys, fun p hp => let ⟨a, x, y⟩ := h.val p hp; ⟨a, x, s _ _ y⟩, h.len⟩
theorem putK_keys {kvs : List (List Key × V)} {k : List Key} {v : V} {P : List Key → Prop} (h : ∀ kv ∈ kvs, P kv.1) (hk : P k) : ∀ kv ∈ putK kvs k v, P kv.1 := by
  intro kv hkv
  unfold putK at hkv
  split at hkv
  · obtain ⟨x, hx, rfl⟩ := List.mem_map.mp hkv
    split
    · exact h x hx
    · exact h x hx
  · rcases List.mem_append.mp hkv with c | c
    · exact h kv c
    · rw [List.mem_singleton.mp c]
      exact hk
theorem valV_mem {kvs : List (List Key × V)} {k : List Key} {v : V} (h : valV kvs k = some v) : ∃ i : Nat, kvs[i]? = some (k, v) := by
  unfold valV at h
  obtain ⟨kv, h1, h2⟩ := Option.map_eq_some_iff.mp h
  have h3 := List.find?_some h1
  simp only [decide_eq_true_eq] at h3
  obtain ⟨i, hi⟩ := List.getElem?_of_mem (List.mem_of_find?_eq_some h1)
  refine ⟨i, ?_⟩
  rw [hi, ← h3, ← h2]
def spSteps : Sp := fun vs H Q _ => ∃ (n : Nat) (v : V) (T : List (List Int)), vs = [.int (n : Int), v] ∧ n ≤ 6 ∧ Dq H v (tabD T) ∧ TabOk n T ∧ ∀ H' p kvs, Same H H' → H p = none → H' p = some (.dT kvs) → StepsAt n T H' kvs → Q (.ref p) H'
section
variable {P : Program} {w : World} {K : PySem.W.Frag} {mg : Str → Option Value} {base : Heap}
abbrev nSo : List Str := ["n", "table", "aims", "steps", "number", "entry", "place", "way"]
theorem o_steps (D0 : Df K mg "steps_of" sStepsOf ["n", "table"]) (B : Bi mg) (ai : Ok P w K mg base 4 "aims_of" ["n", "table"] spAims) : Ok P w K mg base 5 "steps_of" ["n", "table"] spSteps := by
  have scSo : FnScope nSo ["n", "table"] (defScope sStepsOf) := ⟨rfl, rfl, rfl, by decide +kernel, rfl, by decide +kernel, by decide +kernel⟩
  refine D0.ok fun f fd F => F.ok scSo (fun vs H Q E h => ?_) (fun cdv A outer s H vs Q E hr h => ?_)
  · obtain ⟨n, v, T, rfl, _⟩ := h
    rfl
  · obtain ⟨n, v, T, rfl, n1, hv, okT, q⟩ := h
    have hu1 := hu_of hr
    refine ⟨_, pss_cons (ps_set (i := 2) scSo.nd rfl (.inl rfl) (pe_fn ai hr (by rfl) (pa_cons (pv 0) (pa_cons (pv 1) pa_nil))))
      (pss_cons (ps_set (i := 3) scSo.nd rfl (.inl rfl) pe_dnewT)
      (pss_cons (ps_for PassesOwn.never rfl (pi_enumT (by rfl) B.enumerate (pa_cons (pv 1) pa_nil)) (pg_tup rfl (pgs_cons (pg_name (i := 4) scSo.nd rfl (.inl rfl)) (pgs_cons (pg_name (i := 5) scSo.nd rfl (.inl rfl)) pgs_nil)))
        (pss_one (ps_for PassesOwn.never rfl (pi_enumT (by rfl) B.enumerate (pa_cons (pv 5) pa_nil)) (pg_tup rfl (pgs_cons (pg_name (i := 6) scSo.nd rfl (.inl rfl)) (pgs_cons (pg_name (i := 7) scSo.nd rfl (.inl rfl)) pgs_nil)))
          (pss_one (ps_if (pt_cmpR op_ne (pv 7) (pe_un un_neg pe_int) (nomark _)) (pss_one (ps_dput hu1 (pv 3) (pe_tup (pa_cons (pv 4) (pa_cons (pv 6) pa_nil))) (pe_tup (pa_cons (pe_ix ix_list (pv 2) (pv 4) (fun _ _ => rfl)) (pa_cons (pv 7) pa_nil))) rfl)) pss_nil)))))
      (pss_one (ps_ret (pv 3))))), ?_⟩
    obtain ⟨hT1, hT2, hT3, hT4⟩ := okT.both_in n1
    refine ⟨.int n, rfl, v, rfl, n, v, T, rfl, n1, hv, hT1, fun e he => (hT2 e he).1, fun H1 ad s1 nad had => ?_⟩
    have hv1 := hv.up s1
    obtain ⟨va, xs, rfl, hva, qx⟩ := Dq.tup_inv hv1
    have hxl : xs.length = 2 ^ n := by rw [qx.len, List.length_map, hT3]
    have hp64 : 2 ^ n ≤ 64 := by have := all_few n (by omega); rw [all_len n (by omega)] at this; exact this
    have hai : (aimsT n T).length = 2 ^ n := by unfold aimsT; rw [List.length_map, hT3]
    try dsimp only [tNext]
    refine fun D nD => ?_
    have s2 := same_new (o := .dT []) nD
    have hD : upd H1 D (.dT []) D = some (.dT []) := upd_same
    have nf : ∀ b o, H b = some o → b ≠ D := fun b o hb => ne_of_none (s1 _ _ hb) nD
    have s12 := s1.trans s2
    have hva2 := s2 _ _ hva
    have had2 := s2 _ _ had
    have qx2 := qx.up s2
    have nD0 := s1.free nD
    generalize upd H1 D (.dT []) = H2 at hD s12 hva2 had2 qx2
    clear s2 nD hva had qx hv1 nad
    have nva : va ≠ D := ne_of hva2 hD (by intro z; cases z)
    have nad : ad ≠ D := ne_of had2 hD (by intro z; cases z)
    try dsimp only [tNext]
    refine ⟨.ref va, rfl, va, _, rfl, SqT.of hva2, for_it walk_enumT (fun i σ G => ∃ (v4 v5 v6 v7 : Option V) (kvs : List (List Key × V)), σ = [some (.int n), some (.ref va), some (.ref ad), some (.ref D), v4, v5, v6, v7] ∧ (∀ b o, b ≠ D → H2 b = some o → G b = some o) ∧ G D = some (.dT kvs) ∧ kvs.length ≤ 6 * i ∧
        (∀ kv ∈ kvs, ∃ p ∈ prs n, kv.1 = pK p) ∧ ∀ p ∈ prs n, p.1 < i → ∃ a, valV kvs (pK p) = some (.ref a) ∧ G a = some (.tup (pV (stp n T p))))
      ⟨_, _, _, _, [], rfl, fun _ _ _ h => h, hD, Nat.zero_le _, (fun _ h => nomatch h), fun _ _ h => absurd h (Nat.not_lt_zero _)⟩ (fun i σ G _ ⟨_, _, _, _, _, _, k, _⟩ => SqT.of (k _ _ nva hva2)) ?_ ?_⟩
    · rintro i _ σ G _ hi ⟨v4, v5, v6, v7, kvs, rfl, k, hG, hkl, hky, hkv⟩ ⟨t, x, y, rfl, nt, rfl, e1, e2⟩
      cases Option.some.inj e1
      obtain ⟨e, he, ea, rfl, hea⟩ := ents_get qx2 e2
      have hi2 : i < 2 ^ n := by omega
      have eT : T.getD i [] = e := getD_of he
      have hE := okT.at_i n1 hi2
      rw [eT] at hE
      have nea : ea ≠ D := ne_of hea hD (by intro z; cases z)
      have st := same_new (o := .tup [.int (i : Nat), .ref ea]) nt
      refine ⟨t, [.int (i : Nat), .ref ea], rfl, SqT.of upd_same, rfl, .int (i : Nat), [.ref ea], rfl, .ref ea, [], rfl, rfl, ?_⟩
      have k1 : ∀ b o, b ≠ D → H2 b = some o → upd G t (.tup [.int (i : Nat), .ref ea]) b = some o := fun b o h1 h2 => st _ _ (k _ _ h1 h2)
      have hG1 := st _ _ hG
      have hkv1 : ∀ p ∈ prs n, p.1 < i → ∃ a, valV kvs (pK p) = some (.ref a) ∧ upd G t (.tup [.int (i : Nat), .ref ea]) a = some (.tup (pV (stp n T p))) := fun p hp hpi => let ⟨a, x, y⟩ := hkv p hp hpi; ⟨a, x, st _ _ y⟩
      generalize upd G t (.tup [.int (i : Nat), .ref ea]) = G1 at k1 hG1 hkv1
      clear st nt hG k hkv
      have hea1 := k1 _ _ nea hea
      refine ⟨.ref ea, rfl, ea, _, rfl, SqT.of hea1, for_it walk_enumT (fun j σ G => ∃ (v6 v7 : Option V) (kvs : List (List Key × V)), σ = [some (.int n), some (.ref va), some (.ref ad), some (.ref D), some (.int i), some (.ref ea), v6, v7] ∧ (∀ b o, b ≠ D → G1 b = some o → G b = some o) ∧ G D = some (.dT kvs) ∧ kvs.length ≤ 6 * i + j ∧
          (∀ kv ∈ kvs, ∃ p ∈ prs n, kv.1 = pK p) ∧ ∀ p ∈ prs n, (p.1 < i ∨ p.1 = i ∧ p.2 < j) → ∃ a, valV kvs (pK p) = some (.ref a) ∧ G a = some (.tup (pV (stp n T p))))
        ⟨_, _, kvs, rfl, fun _ _ _ h => h, hG1, by omega, hky, fun p hp h => hkv1 p hp (h.elim (fun z => z) fun z => absurd z.2 (Nat.not_lt_zero _))⟩ (fun j σ G _ ⟨_, _, _, _, k, _⟩ => SqT.of (k _ _ nea hea1)) ?_ ?_⟩
      · rintro j _ σ G2 _ hj ⟨v6, v7, kvs, rfl, k, hG, hkl, hky, hkv⟩ ⟨t, x, y, rfl, nt, rfl, e1, e3⟩
        cases Option.some.inj e1
        rw [List.length_map] at hj
        have hjn : j < n := by rw [← hE.len]; exact hj
        have ey : y = .int (e.getD j 0) := by
          have e4 : (e.map V.int)[j]? = some y := e3
          rw [List.getElem?_map, getD_get hj] at e4
          exact (Option.some.inj e4).symm
        subst ey
        have hz := hE.key j hjn
        have hz2 := hE.rid j hjn
        have hst : stp n T (i, j) = (num n (goalE n e), (e.getD j 0).toNat) := by
          unfold stp
          rw [eT]
        generalize e.getD j 0 = z at hz hz2 hst
        have st := same_new (o := .tup [.int (j : Nat), .int z]) nt
        refine ⟨t, [.int (j : Nat), .int z], rfl, SqT.of upd_same, rfl, .int (j : Nat), [.int z], rfl, .int z, [], rfl, rfl, ?_⟩
        refine ⟨.int z, rfl, 1, rfl, rfl, _, rfl, ?_⟩
        by_cases hm : j ∈ lotI n i
        · rw [decide_eq_true (show V.int z = V.int (-1) by rw [hz hm])]
          refine iteF ⟨_, _, kvs, rfl, fun b o h1 h2 => st _ _ (k _ _ h1 h2), st _ _ hG, by omega, hky, fun p hp h => ?_⟩
          obtain ⟨a, x, y⟩ := hkv p hp (by
            rcases h with h | ⟨h1, h2⟩
            · exact .inl h
            · refine .inr ⟨h1, ?_⟩
              by_cases c : p.2 = j
              · have := (mem_prs.mp hp).2.2
                rw [h1, c] at this
                exact absurd hm this
              · omega)
          exact ⟨a, x, st _ _ y⟩
        · obtain ⟨z0, z1⟩ := hz2 hm
          obtain ⟨m, rfl⟩ : ∃ m : Nat, z = m := ⟨z.toNat, by omega⟩
          rw [decide_eq_false (show ¬ V.int (m : Int) = V.int (-1) from fun y => by have := V.int.inj y; omega)]
          have hpr : (i, j) ∈ prs n := mem_prs.mpr ⟨hi2, hjn, hm⟩
          rw [Int.toNat_natCast] at hst
          have haim : ((aimsT n T).map V.int)[i]? = some (.int ((num n (goalE n e) : Nat) : Int)) := by
            unfold aimsT
            rw [List.getElem?_map, List.getElem?_map, he]
            rfl
          have had3 := st _ _ (k _ _ nad (k1 _ _ nad had2))
          refine iteT ⟨.ref ad, rfl, .int i, rfl, ad, _, i, _, rfl, rfl, SqL.of had3, atI_nat haim, .int m, rfl, by show 2 ≤ sizeLine; decide, fun a na => ?_⟩
          have sa := same_new (o := .tup [.int ((num n (goalE n e) : Nat) : Int), .int m]) na
          refine ⟨.ref D, rfl, .int i, rfl, .int j, rfl, by show 2 ≤ sizeLine; decide, fun c nc => ?_⟩
          have sc := same_new (o := .tup [.int i, .int j]) nc
          have hc : upd (upd (upd G2 t (.tup [.int (j : Nat), .int m])) a (.tup [.int ((num n (goalE n e) : Nat) : Int), .int m])) c (.tup [.int i, .int j]) c = some (.tup ((pK (i, j)).map kV)) := upd_same
          have ha := sc _ _ (show upd (upd G2 t (.tup [.int (j : Nat), .int m])) a (.tup [.int ((num n (goalE n e) : Nat) : Int), .int m]) a = some (.tup [.int ((num n (goalE n e) : Nat) : Int), .int m]) from upd_same)
          have s3 := st.trans (sa.trans sc)
          have hG3 := s3 _ _ hG
          generalize upd (upd (upd G2 t (.tup [.int (j : Nat), .int m])) a (.tup [.int ((num n (goalE n e) : Nat) : Int), .int m])) c (.tup [.int i, .int j]) = G3 at s3 hG3 hc ha
          refine ⟨D, _, rfl, DPut.t hG3 hc (szl (by omega)), ?_⟩
          have ts : TS G3 (upd G3 D (.dT (putK kvs (pK (i, j)) (.ref a)))) := fun b ys hb => by
            rw [upd_ne (ne_of hb hG3 (by intro z; cases z))]
            exact hb
          have hlp := length_putK kvs (pK (i, j)) (V.ref a)
          refine ⟨_, _, putK kvs (pK (i, j)) (.ref a), rfl, fun b o h1 h2 => ?_, upd_same, by omega, putK_keys (P := fun k => ∃ p ∈ prs n, k = pK p) hky ⟨(i, j), hpr, rfl⟩, fun p hp h => ?_⟩
          · rw [upd_ne h1]
            exact s3 _ _ (k _ _ h1 h2)
          · rw [valV_put]
            by_cases ep : p = (i, j)
            · subst ep
              rw [if_pos rfl, hst]
              exact ⟨a, rfl, ts _ _ ha⟩
            · rw [if_neg fun z => ep (pK_inj z)]
              obtain ⟨a', x, y⟩ := hkv p hp (by
                rcases h with h | ⟨h1, h2⟩
                · exact .inl h
                · refine .inr ⟨h1, ?_⟩
                  have : p.2 ≠ j := fun z => ep (Prod.ext h1 z)
                  omega)
              exact ⟨a', x, ts _ _ (s3 _ _ y)⟩
      · rintro σ G ⟨v6, v7, kvs, rfl, k, hG, hkl, hky, hkv⟩
        rw [List.length_map, hE.len] at hkl
        refine ⟨_, _, _, _, kvs, rfl, fun b o h1 h2 => k _ _ h1 (k1 _ _ h1 h2), hG, by omega, hky, fun p hp h => hkv p hp ?_⟩
        by_cases c : p.1 < i
        · exact .inl c
        · refine .inr ⟨by omega, ?_⟩
          rw [List.length_map, hE.len]
          exact (mem_prs.mp hp).2.1
    · rintro σ G ⟨v4, v5, v6, v7, kvs, rfl, k, hG, hkl, hky, hkv⟩
      exact ⟨.ref D, rfl, q G D kvs (fun b o hb => k _ _ (nf _ _ hb) (s12 _ _ hb)) nD0 hG ⟨hky, fun p hp => hkv p hp (by rw [hxl]; exact (mem_prs.mp hp).1), by omega⟩⟩
end
end Kr
namespace Kr
open PySem PySem.Spec PyProof.Rows L2 PySem.SeqAt PySem.MeetsSeq
/-! ### x == i, x any data, i a number -/
theorem dict_eq_declines_int (l : Addr) (es : Array DictEntry) (ep : Nat) (dd : Option Addr) (sl : Array (Option Value)) (b : Int) (u : Tok) :
    Meets (Builtin.«dict.__eq__» ⟨[.ref l, .int b u], []⟩) (fun _ R s => s.heap.get? l = some { cls := .type "dict", dict := dd, data := .dict es ep, slots := sl } ∧ R (.ok (.ret .notImplemented)) s) :=
  .of_wp fun prog w A R s h => by obtain ⟨hp, g, d, tk, os⟩ := s; obtain ⟨hl, h⟩ := h; have f1 := F.sub_int_dict; wp_walk using wpAny_loadPart' hl; exact ⟨_, rfl, h⟩
theorem int_eq_declines_dict (b : Int) (u : Tok) (l : Addr) (c : Value) (es : Array DictEntry) (ep : Nat) (dd : Option Addr) (sl : Array (Option Value)) :
    Meets (Builtin.«int.__eq__» ⟨[.int b u, .ref l], []⟩) (fun _ R s => s.heap.get? l = some { cls := c, dict := dd, data := .dict es ep, slots := sl } ∧ R (.ok (.ret .notImplemented)) s) :=
  .of_wp fun prog w A R s h => by obtain ⟨hp, g, d, tk, os⟩ := s; obtain ⟨hl, h⟩ := h; wp_walk using wpAny_loadPart' hl, wpAny_load hl; exact ⟨_, rfl, h⟩
theorem rc_dict_int {A : Around} {s : Shared} {l : Addr} {es : Array DictEntry} {ep : Nat} {dd : Option Addr} {sl : Array (Option Value)} (b : Int) (u : Tok) (ho : s.heap.get? l = some { cls := .type "dict", dict := dd, data := .dict es ep, slots := sl }) (hu : A.units < cLine) : RcAt A s (.ref l) (.int b u) false := fun prog w E Q h => by
  exact rc_eq_decline_or (k := false) ⟨_, ho, rfl⟩ (typeIs_int s b u) (by decide) F.sub_int_dict F.slot_dict_eq F.slot_int_eq_refl
    (fun _ hq => call_meets F.slot_dict_eq ⟨_, ho, rfl⟩ F.entry_dict_eq (F.args_dict_eq_2 _ _) (dict_eq_declines_int l es ep dd sl b u) ⟨ho, hq⟩)
    (fun _ hq => call_meets F.slot_int_eq_refl (typeIs_int s b u) F.entry_int_eq (F.args_int_eq_2 _ _) (int_eq_declines_dict b u l (.type "dict") es ep dd sl) ⟨ho, hq⟩)
    (fun _ hq => wpAny_of_eq (rfl : isSame (.ref l) (.int b u) = pure false) hq) (.inr hu) h
def rEq1 : R2 := fun x y H Q => ∃ (d : PyData) (i : Int), Dq H x d ∧ y = .int i ∧ Q (.bl (PyData.eqv d (.int i))) H
theorem op_eq1 {X : Cx} (hu : X.A.units + 64 < cLine) : OpR X (compareOp .Eq) rEq1 := by
  intro pins s σ H x y v u Q I rx ry h
  obtain ⟨d, i, hd, rfl, q⟩ := h
  obtain ⟨t, rfl⟩ := ry
  have hu : X.A.units < cLine := by omega
  cases hd with
  | non =>
    cases rx
    exact RcAt.none_int i t X.prog X.w X.xe _ ⟨.bl _, H, I, rfl, q⟩
  | bl b =>
    cases rx
    exact RcAt.bool_int b i t X.prog X.w X.xe _ ⟨.bl _, H, I, rfl, q⟩
  | int j =>
    obtain ⟨t', rfl⟩ := rx
    exact RcAt.int_int j t' i t X.prog X.w X.xe _ ⟨.bl _, H, I, rfl, q⟩
  | str z =>
    obtain ⟨t', rfl⟩ := rx
    exact RcAt.str_int z t' i t X.prog X.w X.xe _ ⟨.bl _, H, I, rfl, q⟩
  | lst e _ =>
    cases rx
    obtain ⟨its, _, p1, _⟩ := I.list (SqL.of (K := X.K) e)
    exact RcAt.list_int i t p1.isList hu X.prog X.w X.xe _ ⟨.bl _, H, I, rfl, q⟩
  | tup e _ =>
    cases rx
    obtain ⟨its, _, p1, _⟩ := I.tuple (SqT.of (K := X.K) e)
    exact RcAt.tuple_int i t p1 hu X.prog X.w X.xe _ ⟨.bl _, H, I, rfl, q⟩
  | @dic a e =>
    cases rx
    obtain ⟨_, hsys, vs, rel, ⟨cls, dd, data, sl⟩, es, ep, ho, hx, hd, _⟩ := I.hok a _ e
    obtain rfl : cls = .type "dict" := hx.1
    simp only at hd
    subst hd
    exact rc_dict_int i t ho hu X.prog X.w X.xe _ ⟨.bl _, H, I, rfl, q⟩
/-- a tuple beside () -/
def rEqT0 (K : PySem.W.Frag) : R2 := fun x y H Q => ∃ l b xs, x = .ref l ∧ y = .ref b ∧ SqT K H l xs ∧ SqT K H b [] ∧ Q (.bl xs.isEmpty) H
theorem all0 (n : Nat) (e : Nat → Bool) : ((List.range (min n 0)).all e && n == 0) = decide (n = 0) := by
  rw [Nat.min_zero]
  cases n <;> rfl
theorem isE {xs : List V} {its : List Value} (r : Vals xs its) : decide (its.toArray.size = 0) = xs.isEmpty := by
  cases r with
  | nil => rfl
  | cons _ _ => rfl
theorem op_eqT0 {X : Cx} (hu : X.A.units + 64 < cLine) : OpR X (compareOp .Eq) (rEqT0 X.K) := by
  intro pins s σ H x y v u Q I rx ry h
  obtain ⟨l, b, xs, rfl, rfl, hl, hb, q⟩ := h
  obtain rfl : v = Value.ref l := rx
  obtain rfl : u = Value.ref b := ry
  obtain ⟨its, r1, p1, _⟩ := I.tuple hl
  obtain ⟨it2, r2, p2, _⟩ := I.tuple hb
  cases r2
  refine SeqAt.RcAt.tuples (e := fun _ => true) p1 p2 (by omega) (fun j _ h2 => absurd h2 (by simp)) X.prog X.w X.xe _ ⟨.bl xs.isEmpty, H, I, ?_, q⟩
  show Value.bool _ = Value.bool _
  rw [← isE r1]
  exact congrArg Value.bool (all0 _ _)
end Kr
namespace Kr
open PySem PySem.Spec PyProof.Rows L2
/-! ### the heap without some lists and dicts that change -/
def hidS (S : List Addr) (H : Hp) : Hp := fun b => if b ∈ S then none else H b
theorem hidS_ne {S : List Addr} {b : Addr} {H : Hp} (h : b ∉ S) : hidS S H b = H b := by
  unfold hidS
  rw [if_neg h]
theorem hidS_some {S : List Addr} {b : Addr} {H : Hp} {o : HO} (h : hidS S H b = some o) : b ∉ S ∧ H b = some o := by
  unfold hidS at h
  by_cases e : b ∈ S
  · rw [if_pos e] at h
    cases h
  · rw [if_neg e] at h
    exact ⟨e, h⟩
theorem hidS_same (S : List Addr) (H : Hp) : Same (hidS S H) H := fun _ _ h => (hidS_some h).2
theorem hidS_up {S : List Addr} {H H' : Hp} (s : Same H H') : Same (hidS S H) (hidS S H') := fun b o h => by
  obtain ⟨h1, h2⟩ := hidS_some h
  rw [hidS_ne h1]
  exact s _ _ h2
theorem hidS_ext {S : List Addr} {p l : Addr} {H H' : Hp} (hp : p ∈ S) (hl : l ∈ S) (e : Ext p l H H') : Same (hidS S H) (hidS S H') := fun b o h => by
  obtain ⟨h1, h2⟩ := hidS_some h
  rw [hidS_ne h1]
  exact e.at_ (fun z => h1 (z ▸ hp)) (fun z => h1 (z ▸ hl)) h2
/-- these are there, and are no tuples -/
structure Offs (S : List Addr) (H : Hp) : Prop where
  at_ : ∀ b ∈ S, ∃ o, H b = some o ∧ ∀ xs, o ≠ .tup xs
theorem Offs.up {S : List Addr} {H H' : Hp} (h : Offs S H) (s : Same H H') : Offs S H' := ⟨fun b hb => let ⟨o, a, c⟩ := h.at_ b hb; ⟨o, s _ _ a, c⟩⟩
theorem Offs.tup {S : List Addr} {H : Hp} {y : Addr} {xs : List V} (h : Offs S H) (e : H y = some (.tup xs)) : hidS S H y = some (.tup xs) := by
  rw [hidS_ne fun hb => ?_]
  · exact e
  · obtain ⟨o, a, c⟩ := h.at_ y hb
    rw [e] at a
    exact c _ (Option.some.inj a).symm
theorem Offs.new {S : List Addr} {H : Hp} {q : Addr} (h : Offs S H) (e : H q = none) : q ∉ S := fun hb => by
  obtain ⟨o, a, _⟩ := h.at_ q hb
  rw [e] at a
  cases a
theorem Offs.put {S : List Addr} {H : Hp} {q : Addr} {o : HO} (h : Offs S H) (e : H q = none) : hidS S (upd H q o) q = some o := by
  rw [hidS_ne (h.new e), upd_same]
theorem Offs.deck {S : List Addr} {p l : Addr} {H H' : Hp} (h : Offs S H) (e : Ext p l H H') (D : Deck H' p l) : Offs S H' := ⟨fun b hb => by
  obtain ⟨ds, st, a, c, _⟩ := D.ex
  by_cases z1 : b = p
  · exact ⟨_, by rw [z1]; exact a, by intro xs z; cases z⟩
  · by_cases z2 : b = l
    · exact ⟨_, by rw [z2]; exact c, by intro xs z; cases z⟩
    · obtain ⟨o, f, g⟩ := h.at_ b hb
      exact ⟨o, e.at_ z1 z2 f, g⟩⟩
theorem Deck.offs {p l : Addr} {H : Hp} (D : Deck H p l) : Offs [p, l] H := ⟨fun b hb => by
  obtain ⟨ds, st, a, c, _⟩ := D.ex
  simp only [List.mem_cons, List.not_mem_nil, or_false] at hb
  rcases hb with rfl | rfl
  · exact ⟨_, a, by intro xs z; cases z⟩
  · exact ⟨_, c, by intro xs z; cases z⟩⟩
/-! ### rows of small data -/
structure SmA (k w : Nat) (ds : List PyData) : Prop where
  sh : PyData.showableAll ds = true
  ls : PyData.leavesShortAll 41 ds = true
  dp : PyData.depthAll ds ≤ k
  wt : PyData.weightAll ds ≤ w
theorem SmA.mono {k w k' w' : Nat} {ds : List PyData} (h : SmA k w ds) (hk : k ≤ k') (hw : w ≤ w') : SmA k' w' ds := ⟨h.sh, h.ls, Nat.le_trans h.dp hk, Nat.le_trans h.wt hw⟩
theorem SmA.tup {k w : Nat} {ds : List PyData} (h : SmA k w ds) : Sm (k + 1) w (.tuple ds) := ⟨by simpa [PyData.showable] using h.sh, by simpa [PyData.leavesShort] using h.ls, by have := h.dp; simp only [PyData.depth]; omega, by have := h.wt; simpa only [PyData.weight] using this⟩
theorem SmA.lst {k w : Nat} {ds : List PyData} (h : SmA k w ds) : Sm (k + 1) w (.list ds) := ⟨by simpa [PyData.showable] using h.sh, by simpa [PyData.leavesShort] using h.ls, by have := h.dp; simp only [PyData.depth]; omega, by have := h.wt; simpa only [PyData.weight] using this⟩
theorem Sm.tup_row {k w : Nat} {ds : List PyData} (h : Sm (k + 1) w (.tuple ds)) : SmA k w ds := ⟨by simpa [PyData.showable] using h.sh, by simpa [PyData.leavesShort] using h.ls, by have := h.dp; simp only [PyData.depth] at this; omega, by have := h.wt; simpa only [PyData.weight] using this⟩
theorem SmA.nil : SmA 0 0 [] := ⟨by simp [PyData.showableAll], by simp [PyData.leavesShortAll], by simp [PyData.depthAll], by simp [PyData.weightAll]⟩
theorem SmA.cons {k w w' : Nat} {d : PyData} {ds : List PyData} (a : Sm k w d) (b : SmA k w' ds) : SmA k (w + 1 + w') (d :: ds) :=
  ⟨by simp [PyData.showableAll, a.sh, b.sh], by simp [PyData.leavesShortAll, a.ls, b.ls], by have := a.dp; have := b.dp; simp only [PyData.depthAll]; omega, by have := a.wt; have := b.wt; simp only [PyData.weightAll]; omega⟩
theorem SmA.inv {k w : Nat} {d : PyData} {ds : List PyData} (h : SmA k w (d :: ds)) : ∃ w1 w2, Sm k w1 d ∧ SmA k w2 ds ∧ w1 + 1 + w2 = w := by
  obtain ⟨h1, h2, h3, h4⟩ := h
  simp only [PyData.showableAll, PyData.leavesShortAll, Bool.and_eq_true, PyData.depthAll, PyData.weightAll] at h1 h2 h3 h4
  exact ⟨w - 1 - d.weight.min 0 - PyData.weightAll ds, PyData.weightAll ds, ⟨h1.1, h2.1, by omega, by simp; omega⟩, ⟨h1.2, h2.2, by omega, Nat.le_refl _⟩, by simp; omega⟩
theorem SmA.one {k w : Nat} {d : PyData} (a : Sm k w d) : SmA k (w + 1) [d] := by
  have := SmA.cons a (SmA.nil.mono (Nat.zero_le k) (Nat.le_refl 0))
  exact this
theorem SmA.app {k : Nat} : ∀ {a b : List PyData} {w w' : Nat}, SmA k w a → SmA k w' b → SmA k (w + w') (a ++ b)
  | [], _, _, _, _, hb => hb.mono (Nat.le_refl _) (Nat.le_add_left _ _)
  | d :: a, b, w, w', ha, hb => by
    obtain ⟨w1, w2, h1, h2, e⟩ := ha.inv
    exact (SmA.cons h1 (SmA.app h2 hb)).mono (Nat.le_refl _) (by omega)
theorem SmA.take {k : Nat} : ∀ {a : List PyData} {w : Nat} (i : Nat), SmA k w a → SmA k w (a.take i)
  | [], _, i, h => by rw [List.take_nil]; exact h
  | d :: a, w, 0, h => SmA.nil.mono (Nat.zero_le _) (Nat.zero_le _)
  | d :: a, w, i + 1, h => by
    obtain ⟨w1, w2, h1, h2, e⟩ := h.inv
    exact (SmA.cons h1 (h2.take i)).mono (Nat.le_refl _) (by omega)
theorem SmA.drop {k : Nat} : ∀ {a : List PyData} {w : Nat} (i : Nat), SmA k w a → SmA k w (a.drop i)
  | [], _, i, h => by rw [List.drop_nil]; exact h
  | d :: a, w, 0, h => h
  | d :: a, w, i + 1, h => by
    obtain ⟨w1, w2, h1, h2, e⟩ := h.inv
    exact (h2.drop i).mono (Nat.le_refl _) (by omega)
theorem SmA.mem {k : Nat} : ∀ {a : List PyData} {w : Nat} {d : PyData}, SmA k w a → d ∈ a → Sm k w d
  | d :: a, w, x, h, hx => by
    obtain ⟨w1, w2, h1, h2, e⟩ := h.inv
    rcases List.mem_cons.mp hx with rfl | hx
    · exact h1.mono (Nat.le_refl _) (by omega)
    · exact (h2.mem hx).mono (Nat.le_refl _) (by omega)
/-- items exchanged for truths -/
theorem SmA.boo {k : Nat} (f : PyData → PyData) (hf : ∀ d, f d = d ∨ ∃ b, f d = .bool b) : ∀ {a : List PyData} {w : Nat}, SmA k w a → 1 ≤ k → SmA k w (a.map f)
  | [], _, h, _ => h
  | d :: a, w, h, hk => by
    obtain ⟨w1, w2, h1, h2, e⟩ := h.inv
    refine (SmA.cons (w := w1) ?_ (h2.boo f hf hk)).mono (Nat.le_refl _) (by omega)
    rcases hf d with z | ⟨b, z⟩
    · rw [z]
      exact h1
    · rw [z]
      exact ⟨rfl, rfl, by simp [PyData.depth], by simp [PyData.weight]⟩
end Kr
namespace Kr
open PySem PySem.Spec PyProof.Rows L2
abbrev pD (p : Pr) : PyData := .tuple [.int (p.1 : Int), .int (p.2 : Int)]
def circD (C : List Pr) : PyData := .list (C.map pD)
theorem pD_flat (L : List Pr) : flatTA (L.map pD) = true := flatTA_of fun d hd => by
  obtain ⟨p, _, rfl⟩ := List.mem_map.mp hd
  simp [pD, flatT, flatTA]
theorem pD_at {H : Hp} {a : Addr} {p : Pr} (h : H a = some (.tup (pV p))) : Dq H (.ref a) (pD p) := .tup h (.cons (.int _) (.cons (.int _) .nil))
theorem pD_inv {H : Hp} {v : V} {p : Pr} (h : Dq H v (pD p)) : ∃ a, v = .ref a ∧ H a = some (.tup (pV p)) := by
  obtain ⟨a, xs, rfl, e, q⟩ := Dq.tup_inv h
  cases q with
  | cons h1 q =>
    cases q with
    | cons h2 q =>
      cases q
      cases h1
      cases h2
      exact ⟨a, rfl, e⟩
theorem pD_get {H : Hp} {xs : List V} {L : List Pr} {i : Nat} {y : V} (q : DqA H xs (L.map pD)) (e : xs[i]? = some y) : ∃ p, L[i]? = some p ∧ ∃ a, y = .ref a ∧ H a = some (.tup (pV p)) := by
  obtain ⟨d, h1, h2⟩ := q.get e
  rw [List.getElem?_map] at h1
  cases hr : L[i]? with
  | none => rw [hr] at h1; cases h1
  | some p =>
    rw [hr] at h1
    cases Option.some.inj h1
    exact ⟨p, rfl, pD_inv h2⟩
/-! ### a path that comes back -/
structure Path (S : Pr → Pr) (P : List Pr) (q : Pr) : Prop where
  st : ∀ (i : Nat) (x : Pr), P[i]? = some x → (P ++ [q])[i + 1]? = some (S x)
theorem Path.more {S : Pr → Pr} {P : List Pr} {q : Pr} (h : Path S P q) : Path S (P ++ [q]) (S q) := ⟨fun i x hx => by
  rcases Nat.lt_trichotomy i P.length with c | c | c
  · rw [List.getElem?_append_left c] at hx
    have := h.st i x hx
    rw [List.getElem?_append_left (by rw [List.length_append]; show _ < _ + 1; omega)]
    exact this
  · subst c
    rw [List.getElem?_append_right (Nat.le_refl _), Nat.sub_self] at hx
    cases hx
    rw [List.getElem?_append_right (by rw [List.length_append]; show _ + 1 ≤ _; omega), List.length_append]
    show [S q][P.length + 1 - (P.length + 1)]? = _
    rw [Nat.sub_self]
    rfl
  · rw [List.getElem?_eq_none (by rw [List.length_append]; show _ + 1 ≤ _; omega)] at hx
    cases hx⟩
theorem path_close {n : Nat} {S : Pr → Pr} {CL : List (List Pr)} {P : List Pr} {q : Pr} (inj : ∀ a b, a ∈ prs n → b ∈ prs n → S a = S b → a = b) (h : Path S P q) (ne : P ≠ []) (nd : (CL.flatten ++ P).Nodup) (sub : ∀ x ∈ CL.flatten ++ P, x ∈ prs n)
    (cyc : ∀ C ∈ CL, Cyc S C) (hq : q ∈ CL.flatten ++ P) : Cyc S P := by
  have hl : 0 < P.length := List.length_pos_iff.mpr ne
  obtain ⟨z, hz⟩ : ∃ z, P[P.length - 1]? = some z := ⟨_, List.getElem?_eq_getElem (by omega)⟩
  have e1 := h.st _ _ hz
  rw [show P.length - 1 + 1 = P.length by omega, List.getElem?_append_right (Nat.le_refl _), Nat.sub_self] at e1
  have eq : q = S z := Option.some.inj e1
  have hzP := List.mem_of_getElem? hz
  have hzp : z ∈ prs n := sub z (List.mem_append_right _ hzP)
  have ndP : P.Nodup := (List.nodup_append.mp nd).2.1
  have dis := (List.nodup_append.mp nd).2.2
  have hqP : q ∈ P := by
    rcases List.mem_append.mp hq with c | c
    · obtain ⟨C, hC, hqC⟩ := List.mem_flatten.mp c
      have k := cyc C hC
      obtain ⟨j, hj⟩ := List.getElem?_of_mem hqC
      have hjl := (List.getElem?_eq_some_iff.mp hj).1
      obtain ⟨r, hr⟩ : ∃ r, C[(j + (C.length - 1)) % C.length]? = some r := ⟨_, List.getElem?_eq_getElem (Nat.mod_lt _ k.ne)⟩
      have e2 := k.st _ _ hr
      rw [Nat.mod_add_mod, show j + (C.length - 1) + 1 = j + C.length by omega, Nat.add_mod_right, Nat.mod_eq_of_lt hjl, hj] at e2
      have e3 : S r = S z := by rw [← eq]; exact (Option.some.inj e2).symm
      have hrC := List.mem_of_getElem? hr
      have hrF : r ∈ CL.flatten := List.mem_flatten.mpr ⟨C, hC, hrC⟩
      have := inj r z (sub r (List.mem_append_left _ hrF)) hzp e3
      exact absurd this (dis r hrF z hzP)
    · exact c
  obtain ⟨j, hj⟩ := List.getElem?_of_mem hqP
  have hjl := (List.getElem?_eq_some_iff.mp hj).1
  have j0 : j = 0 := by
    apply Classical.byContradiction
    intro hj0
    obtain ⟨r, hr⟩ : ∃ r, P[j - 1]? = some r := ⟨_, List.getElem?_eq_getElem (by omega)⟩
    have e2 := h.st _ _ hr
    rw [show j - 1 + 1 = j by omega, List.getElem?_append_left hjl, hj] at e2
    have e3 : S r = S z := by rw [← eq]; exact (Option.some.inj e2).symm
    have hrP := List.mem_of_getElem? hr
    have := inj r z (sub r (List.mem_append_right _ hrP)) hzp e3
    rw [this] at hr
    have := nd_ix ndP hr hz
    omega
  subst j0
  refine ⟨hl, ndP, fun i p hp => ?_⟩
  have hil := (List.getElem?_eq_some_iff.mp hp).1
  have e2 := h.st i p hp
  by_cases c : i + 1 < P.length
  · rw [Nat.mod_eq_of_lt c]
    rw [List.getElem?_append_left c] at e2
    exact e2
  · have c : i + 1 = P.length := by omega
    rw [c, List.getElem?_append_right (Nat.le_refl _), Nat.sub_self] at e2
    rw [c, Nat.mod_self, hj]
    exact e2
/-! ### the pairs that are met -/
def metK (L : List Pr) : List (List Key × V) := L.map fun p => (pK p, V.bl true)
theorem metK_val (q : Pr) : ∀ L : List Pr, valV (metK L) (pK q) = if q ∈ L then some (.bl true) else none
  | [] => by simp [metK, valV_nil]
  | p :: L => by
    have ih := metK_val q L
    unfold metK at ih ⊢
    rw [List.map_cons]
    by_cases c : p = q
    · subst c
      rw [valV_pos rfl, if_pos List.mem_cons_self]
    · rw [valV_neg (fun z => c (pK_inj z)), ih]
      by_cases d : q ∈ L
      · rw [if_pos d, if_pos (List.mem_cons_of_mem _ d)]
      · rw [if_neg d, if_neg fun z => (List.mem_cons.mp z).elim (fun w => c w.symm) d]
theorem metK_put {L : List Pr} {q : Pr} (h : q ∉ L) : putK (metK L) (pK q) (.bl true) = metK (L ++ [q]) := by
  rw [putK_new _ (by rw [metK_val, if_neg h])]
  unfold metK
  rw [List.map_append]
  rfl
theorem metK_len (L : List Pr) : (metK L).length = L.length := List.length_map ..
def spCircles : Sp := fun vs H Q _ => ∃ (n : Nat) (v : V) (T : List (List Int)), vs = [.int (n : Int), v] ∧ n ≤ 6 ∧ Dq H v (tabD T) ∧ TabOk n T ∧ ∀ H' p cs CL, Same H H' → H p = none → H' p = some (.lst cs) → DqA H' cs (CL.map circD) → Rounds n (stp n T) CL → CL.length ≤ 1000 → CL.flatten.Nodup → Q (.ref p) H'
section
variable {P : Program} {w : World} {K : PySem.W.Frag} {mg : Str → Option Value} {base : Heap}
abbrev nCi : List Str := ["n", "table", "steps", "met", "circles", "start", "circle", "pair"]
theorem o_circles (D0 : Df K mg "_circles" sCircles ["n", "table"]) (B : Bi mg) (so : Ok P w K mg base 5 "steps_of" ["n", "table"] spSteps) : Ok P w K mg base 6 "_circles" ["n", "table"] spCircles := by
  have scCi : FnScope nCi ["n", "table"] (defScope sCircles) := ⟨rfl, rfl, rfl, by decide +kernel, rfl, by decide +kernel, by decide +kernel⟩
  refine D0.ok fun f fd F => F.ok scCi (fun vs H Q E h => ?_) (fun cdv A outer s H vs Q E hr h => ?_)
  · obtain ⟨n, v, T, rfl, _⟩ := h
    rfl
  · obtain ⟨n, v, T, rfl, n1, hv, okT, q⟩ := h
    have hu1 := hu_of hr
    have hu : (cxOf CX0 P w K mg base nCi "_circles" (defScope sCircles) f cdv A outer s H E).A.units + 64 < cLine := hr.units
    refine ⟨_, pss_cons (ps_set (i := 2) scCi.nd rfl (.inl rfl) (pe_fn so hr (by rfl) (pa_cons (pv 0) (pa_cons (pv 1) pa_nil))))
      (pss_cons (ps_set (i := 3) scCi.nd rfl (.inl rfl) pe_dnewT)
      (pss_cons (ps_set (i := 4) scCi.nd rfl (.inl rfl) (pe_lst pa_nil))
      (pss_cons (ps_lock (ps_for PassesOwn.never rfl (pi_keys (pv 2)) (pg_name (i := 5) scCi.nd rfl (.inl rfl))
        (pss_cons (ps_set (i := 6) scCi.nd rfl (.inl rfl) (pe_lst pa_nil))
        (pss_cons (ps_set (i := 7) scCi.nd rfl (.inl rfl) (pv 5))
        (pss_cons (ps_while PassesOwn.never (pt_cmp (pc_dnotin hu1 (pv 7) (pv 3)) (by rfl))
          (pss_cons (ps_dput hu1 (pv 3) (pv 7) pe_bl rfl)
          (pss_cons (ps_expr (pe_bm PySem.F.plainAttrs_list PySem.F.slot_list_append PySem.F.type_list_append mt_append (pv 6) (pa_cons (pv 7) pa_nil)))
          (pss_one (ps_set (i := 7) scCi.nd rfl (.inl rfl) (pe_dget hu1 (pv 2) (pv 7) (fun _ _ => rfl)))))))
        (pss_one (ps_if (pt_cmpR (op_neN hu) (pv 6) (pe_lst pa_nil) (nomark _)) (pss_one (ps_expr (pe_bm PySem.F.plainAttrs_list PySem.F.slot_list_append PySem.F.type_list_append mt_append (pv 4) (pa_cons (pv 6) pa_nil)))) pss_nil)))))))
      (pss_one (ps_ret (pv 4)))))), ?_⟩
    refine ⟨.int n, rfl, v, rfl, n, v, T, rfl, n1, hv, okT, fun H1 Da kvs s1 nDa hDa hst => ?_⟩
    try dsimp only [tNext]
    refine fun M nM => ?_
    have s2 := same_new (o := .dT []) nM
    have hM : upd H1 M (.dT []) M = some (.dT []) := upd_same
    have nfM : ∀ b o, H1 b = some o → b ≠ M := fun b o hb => ne_of_none hb nM
    have nDM := nfM _ _ hDa
    have hDa2 := s2 _ _ hDa
    generalize upd H1 M (.dT []) = H2 at s2 hM hDa2
    try dsimp only [tNext]
    refine ⟨by show 0 ≤ sizeLine; decide, fun Cc nCc => ?_⟩
    have s3 := same_new (o := .lst []) nCc
    have hCc : upd H2 Cc (.lst []) Cc = some (.lst []) := upd_same
    have nCM : Cc ≠ M := (ne_of_none hM nCc).symm
    have nDC : Da ≠ Cc := ne_of_none hDa2 nCc
    have hM3 := s3 _ _ hM
    have hDa3 := s3 _ _ hDa2
    have s13 := s2.trans s3
    have nCH : ∀ b o, H1 b = some o → b ≠ Cc := fun b o hb => ne_of_none (s2 _ _ hb) nCc
    have nCc1 : H Cc = none := s1.free (s2.free nCc)
    generalize upd H2 Cc (.lst []) = H3 at s13 hCc hM3 hDa3
    clear s2 s3 hM hDa2 nCc nM
    try dsimp only [tNext]
    refine ⟨Da, .dT kvs, hDa3, trivial, fun od => ?_⟩
    have hDa4 : upd H3 Da (.frz od (.dT kvs)) Da = some (.frz od (.dT kvs)) := upd_same
    have k4 : ∀ b o, b ≠ Da → H3 b = some o → upd H3 Da (.frz od (.dT kvs)) b = some o := fun b o hb ho => by rw [upd_ne hb]; exact ho
    have hM4 := k4 _ _ nDM.symm hM3
    have hCc4 := k4 _ _ nDC.symm hCc
    generalize upd H3 Da (.frz od (.dT kvs)) = H4 at hDa4 k4 hM4 hCc4
    have ts4 : ∀ G : Hp, (∀ b o, b ≠ M → b ≠ Cc → H4 b = some o → G b = some o) → TS H1 G := fun G k b xs hb => k _ _ (nfM _ _ hb) (nCH _ _ hb) (k4 _ _ (ne_of hb hDa (by intro z; cases z)) (s13 _ _ hb))
    have inj : ∀ a b, a ∈ prs n → b ∈ prs n → stp n T a = stp n T b → a = b := fun a b ha hb e => stp_inj n1 okT ha hb e
    have hpl := prs_len n (by omega)
    refine ⟨.ref Da, rfl, Da, od, rfl, .inr ⟨kvs, hDa4, for_it walk_keysT (fun i σ G => ∃ (v5 v6 v7 : Option V) (cs : List V) (CL : List (List Pr)), σ = [some (.int n), some v, some (.ref Da), some (.ref M), some (.ref Cc), v5, v6, v7] ∧ (∀ b o, b ≠ M → b ≠ Cc → H4 b = some o → G b = some o) ∧
        G M = some (.dT (metK CL.flatten)) ∧ G Cc = some (.lst cs) ∧ DqA (hidS [M, Cc, Da] G) cs (CL.map circD) ∧ (∀ C ∈ CL, Cyc (stp n T) C) ∧ CL.flatten.Nodup ∧ (∀ x ∈ CL.flatten, x ∈ prs n) ∧ CL.length ≤ i ∧ ∀ (j : Nat) (p : Pr) (u : V), j < i → kvs[j]? = some (pK p, u) → p ∈ CL.flatten)
      ⟨_, _, _, [], [], rfl, fun _ _ _ _ h => h, hM4, hCc4, .nil, (fun _ h => nomatch h), List.nodup_nil, (fun _ h => nomatch h), Nat.le_refl _, fun j p u h _ => absurd h (Nat.not_lt_zero _)⟩ (fun i σ G _ ⟨_, _, _, _, _, _, k, _⟩ => k _ _ nDM nDC hDa4) ?_ ?_⟩⟩
    rotate_left
    · rintro σ G ⟨v5, v6, v7, cs, CL, rfl, k, hGM, hGC, qcs, cyc, nd, sub, hcl, hall⟩
      have hGD := k _ _ nDM nDC hDa4
      refine ⟨hGD, .ref Cc, rfl, q _ Cc cs CL (fun b o hb => ?_) nCc1 (by rw [upd_ne nDC.symm]; exact hGC) (qcs.up fun b o hb => ?_) ⟨cyc, fun C hC p hp => sub p (List.mem_flatten.mpr ⟨C, hC, hp⟩), fun p hp => ?_⟩ (by have := hst.len; omega) nd⟩
      · by_cases e : b = Da
        · subst e
          rw [nDa] at hb
          cases hb
        · rw [upd_ne e]
          have h1 := s1 _ _ hb
          exact k _ _ (nfM _ _ h1) (nCH _ _ h1) (k4 _ _ e (s13 _ _ h1))
      · obtain ⟨h1, h2⟩ := hidS_some hb
        have e : b ≠ Da := fun z => h1 (by rw [z]; simp)
        rw [upd_ne e]
        exact h2
      · obtain ⟨a, ha, _⟩ := hst.val p hp
        obtain ⟨j, hj⟩ := valV_mem ha
        exact List.mem_flatten.mp (hall j p _ (List.getElem?_eq_some_iff.mp hj).1 hj)
    · rintro i x σ _ G hi ⟨v5, v6, v7, cs, CL, rfl, k, hGM, hGC, qcs, cyc, nd, sub, hcl, hall⟩ ⟨rfl, kk, u0, a0, hk0, rfl, ha0⟩
      obtain ⟨p0, hp0, rfl⟩ : ∃ p ∈ prs n, kk = pK p := hst.keys _ (List.mem_of_getElem? hk0)
      have hGD := k _ _ nDM nDC hDa4
      have of0 : Offs [M, Cc, Da] G := ⟨fun b hb => by
        simp only [List.mem_cons, List.not_mem_nil, or_false] at hb
        rcases hb with rfl | rfl | rfl
        · exact ⟨_, hGM, by intro xs z; cases z⟩
        · exact ⟨_, hGC, by intro xs z; cases z⟩
        · exact ⟨_, hGD, by intro xs z; cases z⟩⟩
      refine ⟨by show 0 ≤ sizeLine; decide, fun c nc => ?_⟩
      have ncS := of0.new nc
      have ncM : c ≠ M := fun z => ncS (by rw [z]; simp)
      have ncC : c ≠ Cc := fun z => ncS (by rw [z]; simp)
      have ncD : c ≠ Da := fun z => ncS (by rw [z]; simp)
      have sc := same_new (o := .lst []) nc
      have hc : upd G c (.lst []) c = some (.lst []) := upd_same
      have nfc : ∀ b o, G b = some o → b ≠ c := fun b o hb => ne_of_none hb nc
      have hGM1 := sc _ _ hGM
      have hGC1 := sc _ _ hGC
      have ha1 := sc _ _ ha0
      generalize upd G c (.lst []) = G1 at sc hc hGM1 hGC1 ha1
      try dsimp only [tNext]
      refine ⟨.ref a0, rfl, ?_⟩
      refine while_by (fun σ G2 => ∃ (b : Addr) (ws : List V) (P : List Pr) (q : Pr), σ = [some (.int n), some v, some (.ref Da), some (.ref M), some (.ref Cc), some (.ref a0), some (.ref c), some (.ref b)] ∧ (∀ b o, b ≠ M → b ≠ c → G1 b = some o → G2 b = some o) ∧
          G2 M = some (.dT (metK (CL.flatten ++ P))) ∧ G2 c = some (.lst ws) ∧ DqA G2 ws (P.map pD) ∧ G2 b = some (.tup (pV q)) ∧ Path (stp n T) P q ∧ (P ++ [q])[0]? = some p0 ∧ (CL.flatten ++ P).Nodup ∧ (∀ x ∈ CL.flatten ++ P, x ∈ prs n) ∧ q ∈ prs n)
        (fun σ G2 => match G2 M with | some (.dT kvm) => 400 - kvm.length | _ => 0)
        ⟨a0, [], [], p0, rfl, fun _ _ _ _ h => h, by rw [List.append_nil]; exact hGM1, hc, .nil, ha1, ⟨fun i x h => by simp at h⟩, rfl, by rw [List.append_nil]; exact nd, by rw [List.append_nil]; exact sub, hp0⟩ ?_ ?_
      rotate_left
      · rintro σ G2 Q1 Q2 hq ⟨y, hy, z, hz, a, o, e1, e2, kk, e3, e4⟩
        exact ⟨y, hy, z, hz, a, o, e1, e2, kk, e3, hq _ _ e4⟩
      rintro σ G2 ⟨b, ws, P, qq, rfl, k2, hM2, hc2, qws, hb2, hpa, hst0, nd2, sub2, hqp⟩
      have hLl := sub_len nd2 sub2
      have hwl : ws.length ≤ 192 := by
        rw [qws.len, List.length_map]
        rw [List.length_append] at hLl
        omega
      refine ⟨.ref b, rfl, .ref M, rfl, M, valV (metK (CL.flatten ++ P)) (pK qq), rfl, DGet.t hM2 hb2, _, rfl, ?_⟩
      rw [metK_val]
      by_cases hin : qq ∈ CL.flatten ++ P
      · rw [if_pos hin]
        refine iteF ?_
        try dsimp only [tNext]
        refine ⟨.ref c, rfl, by show 0 ≤ sizeLine; decide, fun e ne => ?_⟩
        have s5 := same_new (o := .lst []) ne
        refine ⟨c, e, ws, rfl, rfl, s5 _ _ hc2, upd_same, _, rfl, ?_⟩
        have hM5 := s5 _ _ hM2
        have hc5 := s5 _ _ hc2
        have hC5 := s5 _ _ (k2 _ _ nCM ncC.symm hGC1)
        have s25 : ∀ b o, b ≠ M → G b = some o → upd G2 e (.lst []) b = some o := fun b o h1 h2 => s5 _ _ (k2 _ _ h1 (nfc _ _ h2) (sc _ _ h2))
        have of2 : Offs [M, Cc, Da] G2 := ⟨fun b hb => by
          simp only [List.mem_cons, List.not_mem_nil, or_false] at hb
          rcases hb with rfl | rfl | rfl
          · exact ⟨_, hM2, by intro xs z; cases z⟩
          · exact ⟨_, k2 _ _ nCM ncC.symm hGC1, by intro xs z; cases z⟩
          · exact ⟨_, k2 _ _ nDM ncD.symm (sc _ _ hGD), by intro xs z; cases z⟩⟩
        have qws5 : DqA (hidS [M, Cc, Da] (upd G2 e (.lst []))) ws (P.map pD) := DqA.upT (fun b xs hb => hidS_up s5 _ _ (of2.tup hb)) (pD_flat _) qws
        generalize upd G2 e (.lst []) = G5 at hM5 hc5 hC5 s25 qws5
        clear s5 ne
        have h25 : Same (hidS [M, Cc, Da] G) (hidS [M, Cc, Da] G5) := fun b o hb => by
          obtain ⟨h1, h2⟩ := hidS_some hb
          rw [hidS_ne h1]
          exact s25 _ _ (fun z => h1 (by rw [z]; simp)) h2
        have k5 : ∀ b o, b ≠ M → b ≠ Cc → H4 b = some o → G5 b = some o := fun b o h1 h2 h3 => s25 _ _ h1 (k _ _ h1 h2 h3)
        have p0in : p0 ∈ CL.flatten ++ P := by
          cases P with
          | nil =>
            have : qq = p0 := Option.some.inj hst0
            rw [← this]
            exact hin
          | cons x r =>
            have : x = p0 := Option.some.inj hst0
            rw [← this]
            exact List.mem_append_right _ List.mem_cons_self
        have hall' : ∀ (j : Nat) (p : Pr) (u : V), j < i + 1 → kvs[j]? = some (pK p, u) → p ∈ CL.flatten ++ P := fun j p u hj e => by
          rcases Nat.lt_or_ge j i with d | d
          · exact List.mem_append_left _ (hall j p u d e)
          · have : j = i := by omega
            rw [this, hk0] at e
            have := pK_inj (congrArg Prod.fst (Option.some.inj e))
            rw [← this]
            exact p0in
        cases hP : P with
        | nil =>
          subst hP
          obtain rfl : ws = [] := List.length_eq_zero_iff.mp qws.len
          rw [List.append_nil] at hM5 hall'
          exact iteF ⟨_, _, _, cs, CL, rfl, k5, hM5, hC5, qcs.up h25, cyc, nd, sub, by omega, hall'⟩
        | cons x r =>
          have hne : P ≠ [] := by rw [hP]; exact List.cons_ne_nil _ _
          have hws : ws.isEmpty = false := by
            cases ws with
            | nil =>
              have := qws.len
              rw [hP] at this
              simp at this
            | cons _ _ => rfl
          rw [hws]
          have hcy := path_close inj hpa hne nd2 sub2 cyc hin
          have efl : (CL ++ [P]).flatten = CL.flatten ++ P := by rw [List.flatten_append]; simp
          refine iteT ⟨.ref Cc, rfl, .inl ⟨rfl, _, SqL.of hC5⟩, .ref c, rfl, Cc, cs, .ref c, rfl, rfl, hC5, szl (by have h1 := qcs.len; have h2 := hst.len; rw [List.length_map] at h1; omega), _, _, _, cs ++ [.ref c], CL ++ [P], rfl, fun b o h1 h2 h3 => ?_, ?_, upd_same, ?_, fun C hC => ?_, by rw [efl]; exact nd2, by rw [efl]; exact sub2, by rw [List.length_append]; show _ + 1 ≤ _; omega, by rw [efl]; exact hall'⟩
          · rw [upd_ne h2]
            exact k5 _ _ h1 h2 h3
          · rw [upd_ne nCM.symm, efl]
            exact hM5
          · rw [List.map_append]
            have mu : Same (hidS [M, Cc, Da] G5) (hidS [M, Cc, Da] (upd G5 Cc (.lst (cs ++ [.ref c])))) := fun b o hb => by
              obtain ⟨h1, h2⟩ := hidS_some hb
              rw [hidS_ne h1, upd_ne (fun z => h1 (by rw [z]; simp))]
              exact h2
            refine dqa_snoc ((qcs.up h25).up mu) (.lst (xs := ws) (mu _ _ ?_) (qws5.up mu))
            rw [hidS_ne ncS]
            exact hc5
          · rcases List.mem_append.mp hC with d | d
            · exact cyc C d
            · rw [List.mem_singleton.mp d]
              exact hcy
      · rw [if_neg hin]
        refine iteT ?_
        refine ⟨.ref M, rfl, .ref b, rfl, M, _, rfl, DPut.t (k := pK qq) hM2 hb2 (szl (by rw [metK_len]; omega)), ?_⟩
        rw [metK_put hin]
        have hM3' : upd G2 M (.dT (metK (CL.flatten ++ P ++ [qq]))) M = some (.dT (metK (CL.flatten ++ P ++ [qq]))) := upd_same
        have t3 : TS G2 (upd G2 M (.dT (metK (CL.flatten ++ P ++ [qq])))) := fun b xs hb => by
          rw [upd_ne (ne_of hb hM2 (by intro z; cases z))]
          exact hb
        have k3 : ∀ b o, b ≠ M → G2 b = some o → upd G2 M (.dT (metK (CL.flatten ++ P ++ [qq]))) b = some o := fun b o h1 h2 => by rw [upd_ne h1]; exact h2
        generalize upd G2 M (.dT (metK (CL.flatten ++ P ++ [qq]))) = G3 at hM3' t3 k3
        have hc3 := k3 _ _ ncM hc2
        refine ⟨.ref c, rfl, .inl ⟨rfl, _, SqL.of hc3⟩, .ref b, rfl, c, ws, .ref b, rfl, rfl, hc3, szl (by omega), ?_⟩
        have t4 : TS G3 (upd G3 c (.lst (ws ++ [.ref b]))) := TS.lst hc3
        have k34 : ∀ b' o, b' ≠ c → G3 b' = some o → upd G3 c (.lst (ws ++ [.ref b])) b' = some o := fun b' o h1 h2 => by rw [upd_ne h1]; exact h2
        have hc4 : upd G3 c (.lst (ws ++ [.ref b])) c = some (.lst (ws ++ [.ref b])) := upd_same
        have hM4' := k34 _ _ ncM.symm hM3'
        have hb4 := t4 _ _ (t3 _ _ hb2)
        have qws4 := DqA.upT (t3.trans t4) (pD_flat _) qws
        have kk4 : ∀ b' o, b' ≠ M → b' ≠ c → G1 b' = some o → upd G3 c (.lst (ws ++ [.ref b])) b' = some o := fun b' o h1 h2 h3 => k34 _ _ h2 (k3 _ _ h1 (k2 _ _ h1 h2 h3))
        generalize upd G3 c (.lst (ws ++ [.ref b])) = G6 at hc4 hM4' hb4 qws4 kk4
        clear t3 t4 k3 k34 hM3' hc3
        have hD6 := kk4 _ _ nDM ncD.symm (sc _ _ hGD)
        obtain ⟨a', hva', ha'⟩ := hst.val qq hqp
        have ha6 : G6 a' = some (.tup (pV (stp n T qq))) := by
          have h1 := ts4 G k _ _ ha'
          exact kk4 _ _ (nfM _ _ ha') (nfc _ _ h1) (sc _ _ h1)
        try dsimp only [tNext]
        refine ⟨.ref Da, rfl, .ref b, rfl, Da, .ref a', rfl, .inr ⟨kvs, pK qq, b, .inr ⟨od, hD6⟩, rfl, hb4, hva'.symm⟩, ?_⟩
        refine ⟨⟨a', ws ++ [.ref b], P ++ [qq], stp n T qq, rfl, kk4, by rw [← List.append_assoc]; exact hM4', hc4, ?_, ha6, hpa.more, ?_, ?_, fun x hx => ?_, stp_in n1 okT hqp⟩, ?_⟩
        · rw [List.map_append]
          exact dqa_snoc qws4 (pD_at hb4)
        · rw [List.getElem?_append_left (by rw [List.length_append]; show 0 < _ + 1; omega)]
          exact hst0
        · rw [← List.append_assoc]
          refine List.nodup_append.mpr ⟨nd2, by simp, fun x hx y hy z => ?_⟩
          rw [List.mem_singleton.mp hy] at z
          exact hin (z ▸ hx)
        · rw [← List.append_assoc] at hx
          rcases List.mem_append.mp hx with d | d
          · exact sub2 x d
          · rw [List.mem_singleton.mp d]
            exact hqp
        · show (match G6 M with | some (.dT kvm) => 400 - kvm.length | _ => 0) < (match G2 M with | some (.dT kvm) => 400 - kvm.length | _ => 0)
          rw [hM4', hM2]
          show 400 - (metK (CL.flatten ++ P ++ [qq])).length < 400 - (metK (CL.flatten ++ P)).length
          rw [metK_len, metK_len, List.length_append (as := CL.flatten ++ P)]
          show 400 - (_ + 1) < _
          omega
end
end Kr
namespace Kr
open PySem PySem.Spec PyProof.Rows L2
/-- lcm(a, b), numbers of some thousand bits -/
def rLcm : List V → Hp → VK → Prop := fun vs H Q => ∃ a b : Nat, vs = [.int (a : Int), .int (b : Int)] ∧ a < 2 ^ 6000 ∧ b < 2 ^ 6000 ∧ Q (.int ((Nat.lcm a b : Nat) : Int)) H
theorem lcm_lt {a b : Nat} (ha : a < 2 ^ 6000) (hb : b < 2 ^ 6000) : Nat.lcm a b < 2 ^ 12000 := by
  refine Nat.lt_of_le_of_lt (PySem.W.mc_lcm_le a b) ?_
  rw [show (2 : Nat) ^ 12000 = 2 ^ 6000 * 2 ^ 6000 by rw [← Nat.pow_add]]
  rcases Nat.eq_zero_or_pos b with h | h
  · rw [h, Nat.mul_zero]
    exact Nat.mul_pos (Nat.two_pow_pos _) (Nat.two_pow_pos _)
  · exact Nat.mul_lt_mul'' ha hb
theorem log_lt {a m : Nat} (h : a < 2 ^ m) (hm : 0 < m) : a.log2 < m := by
  by_cases z : a = 0
  · rw [z]
    simpa using hm
  · exact (Nat.log2_lt z).mpr h
theorem call_lcm {X : Cx} : CallR X (.builtin "math.lcm") rLcm := by
  intro pn sh st hp xs us Q Iv r h
  obtain ⟨a, b, rfl, h1, h2, q⟩ := h
  cases r with
  | cons ra r =>
    cases r with
    | cons rb r =>
      cases r
      obtain ⟨t, rfl⟩ := ra
      obtain ⟨u, rfl⟩ := rb
      have e1 : ((Nat.lcm 1 (a : Int).natAbs).lcm (b : Int).natAbs) = Nat.lcm a b := by rw [PySem.W.mc_lcm_one, Int.natAbs_natCast, Int.natAbs_natCast]
      have l1 : (max 1 (a : Int).natAbs).log2 < 6000 := log_lt (by rw [Int.natAbs_natCast]; exact Nat.max_lt.mpr ⟨Nat.one_lt_two_pow (by decide), h1⟩) (by decide)
      have l2 : (max (a : Int).natAbs (b : Int).natAbs).log2 < 6000 := log_lt (by rw [Int.natAbs_natCast, Int.natAbs_natCast]; exact Nat.max_lt.mpr ⟨h1, h2⟩) (by decide)
      have l3 : (Nat.lcm a b).log2 < 12000 := log_lt (lcm_lt h1 h2) (by decide)
      refine call_function_meets PySem.W.MGF.kind_lcm PySem.W.MGF.plain_lcm PySem.W.MGF.entry_lcm (PySem.W.MGF.args_lcm _ _) (PySem.W.mg_run_lcm a t b u (by omega) (by omega) ?_).meets ?_
      · rw [e1, Int.natAbs_natCast]
        exact Nat.lt_trans l3 (by decide)
      · rw [e1]
        exact ⟨.int ((Nat.lcm a b : Nat) : Int), hp, Iv.kept (t' := sh.toks + 1) (fun _ _ e => e), ⟨_, rfl⟩, q⟩
end Kr
namespace Kr
open PySem PySem.Spec PyProof.Rows L2
/-! ### a bound of an order -/
theorem cube_le : ∀ l : Nat, l < 193 → l ^ 3 ≤ 3 ^ l := by decide +kernel
theorem lcm_cube : ∀ (ls : List Nat) (a s : Nat), a ^ 3 ≤ 3 ^ s → (∀ l ∈ ls, l < 193) → (ls.foldl Nat.lcm a) ^ 3 ≤ 3 ^ (s + ls.sum)
  | [], _, _, h, _ => h
  | l :: ls, a, s, h, hp => by
    have h1 : (Nat.lcm a l) ^ 3 ≤ 3 ^ (s + l) := by
      refine Nat.le_trans (Nat.pow_le_pow_left (PySem.W.mc_lcm_le a l) 3) ?_
      rw [Nat.mul_pow, Nat.pow_add]
      exact Nat.mul_le_mul h (cube_le l (hp l List.mem_cons_self))
    have := lcm_cube ls (Nat.lcm a l) (s + l) h1 fun x hx => hp x (List.mem_cons_of_mem _ hx)
    rw [List.foldl_cons, List.sum_cons, ← Nat.add_assoc]
    exact this
theorem len_flat : ∀ CL : List (List Pr), (CL.map List.length).sum = CL.flatten.length
  | [] => rfl
  | C :: CL => by rw [List.map_cons, List.sum_cons, List.flatten_cons, List.length_append, len_flat CL]
theorem lcm_small {CL : List (List Pr)} (h0 : ∀ C ∈ CL, C.length < 193) (h : CL.flatten.length ≤ 192) (i : Nat) : (((CL.map List.length).take i).foldl Nat.lcm 1) < 2 ^ 110 := by
  have hs : ((CL.map List.length).take i).sum ≤ 192 := by
    have e : (CL.map List.length).sum = ((CL.map List.length).take i).sum + ((CL.map List.length).drop i).sum := by rw [← List.sum_append_nat, List.take_append_drop]
    rw [len_flat] at e
    omega
  have hc := lcm_cube ((CL.map List.length).take i) 1 0 (by decide) fun l hl => by
    obtain ⟨C, hC, rfl⟩ := List.mem_map.mp (List.mem_of_mem_take hl)
    exact h0 C hC
  have h1 : 3 ^ (0 + ((CL.map List.length).take i).sum) ≤ 3 ^ 192 := Nat.pow_le_pow_right (by decide) (by omega)
  apply Classical.byContradiction
  intro hno
  have h2 : (2 ^ 110) ^ 3 ≤ (((CL.map List.length).take i).foldl Nat.lcm 1) ^ 3 := Nat.pow_le_pow_left (by omega) 3
  have h3 : 3 ^ 192 < (2 ^ 110) ^ 3 := by decide +kernel
  omega
/-- a bound of the order, to show it -/
theorem Rounds.ord_lt {n : Nat} {S : Pr → Pr} {CL : List (List Pr)} (hn : n ≤ 6) (h : Rounds n S CL) (h2 : CL.flatten.length ≤ 192) : lcmL (CL.map List.length) < 2 ^ 110 := by
  have := lcm_small (fun C hC => Nat.lt_succ_of_le (h.len hn hC)) h2 (CL.map List.length).length
  rw [List.take_length] at this
  exact this
end Kr
namespace Kr
open PySem PySem.Spec PyProof.Rows L2
theorem bigN_lt : bigN < 2 ^ 6000 := by decide +kernel
theorem lcmL_dvd {ls : List Nat} (h : ∀ l ∈ ls, 0 < l ∧ l ≤ 192) : lcmL ls ∣ bigN := (lcm_fold ls 1 bigN).mpr ⟨Nat.one_dvd _, fun l hl => dvd_big (h l hl).1 (h l hl).2⟩
theorem lcmL_snoc (ls : List Nat) (x : Nat) : lcmL (ls ++ [x]) = Nat.lcm (lcmL ls) x := by unfold lcmL; rw [List.foldl_append]; rfl
def spOrder : Sp := fun vs H Q _ => ∃ (n : Nat) (v : V) (T : List (List Int)), vs = [.int (n : Int), v] ∧ n ≤ 6 ∧ Dq H v (tabD T) ∧ TabOk n T ∧ ∀ H' (o : Nat), Same H H' → IsOrd n (stp n T) o → o < 2 ^ 110 → Q (.int (o : Int)) H'
/-- a row of behind -/
def rowF (n : Nat) (f : Pr → Nat) (i : Nat) : List Int := (List.range n).map fun x => if (i, x) ∈ prs n then (f (i, x) : Int) else -1
structure BehAt (n : Nat) (f : Pr → Pr) (H : Hp) (kvs : List (List Key × V)) : Prop where
  keys : ∀ kv ∈ kvs, ∃ p ∈ prs n, kv.1 = pK p
  val : ∀ p ∈ prs n, ∃ a, valV kvs (pK p) = some (.ref a) ∧ H a = some (.tup (pV (f p)))
theorem BehAt.up {n : Nat} {f : Pr → Pr} {H H' : Hp} {kvs : List (List Key × V)} (h : BehAt n f H kvs) (s : TS H H') : BehAt n f H' kvs := ⟨h.keys, fun p hp => let ⟨a, x, y⟩ := h.val p hp; ⟨a, x, s _ _ y⟩⟩
theorem BehAt.none {n : Nat} {f : Pr → Pr} {H : Hp} {kvs : List (List Key × V)} (h : BehAt n f H kvs) {p : Pr} (hp : p ∉ prs n) : valV kvs (pK p) = none := by
  cases e : valV kvs (pK p) with
  | none => rfl
  | some v =>
    obtain ⟨i, hi⟩ := valV_mem e
    obtain ⟨q, hq, eq⟩ := h.keys _ (List.mem_of_getElem? hi)
    exact absurd (pK_inj eq ▸ hq) hp
def spEntOf : Sp := fun vs H Q _ => ∃ (n i : Nat) (D : Addr) (kvs : List (List Key × V)) (f : Pr → Pr), vs = [.int (n : Int), .int (i : Int), .ref D] ∧ n ≤ 6 ∧ H D = some (.dT kvs) ∧ BehAt n f H kvs ∧ ∀ H' t, Same H H' → H' t = some (.tup ((rowF n (fun p => (f p).2) i).map V.int)) → Q (.ref t) H'
def spPower : Sp := fun vs H Q _ => ∃ (n : Nat) (v : V) (T : List (List Int)) (k : Int), vs = [.int (n : Int), v, .int k] ∧ n ≤ 6 ∧ Dq H v (tabD T) ∧ TabOk n T ∧ ∀ H' r, Same H H' → Dq H' r (tabD (powT n T k)) → Q r H'
section
variable {P : Program} {w : World} {K : PySem.W.Frag} {mg : Str → Option Value} {base : Heap}
abbrev nOo : List Str := ["n", "table", "order", "circle"]
theorem f_order {f : Addr} {fd : FuncData} (F : Fun K "order_of" "order_of" sOrderOf f fd) (B : Bi mg) (LC : mg "lcm" = some (.builtin "math.lcm")) (ci : Ok P w K mg base 6 "_circles" ["n", "table"] spCircles) : FnOk P w K mg base CX0 7 f fd ["n", "table"] spOrder := by
  have scOo : FnScope nOo ["n", "table"] (defScope sOrderOf) := ⟨rfl, rfl, rfl, by decide +kernel, rfl, by decide +kernel, by decide +kernel⟩
  refine F.ok scOo (fun vs H Q E h => ?_) (fun cdv A outer s H vs Q E hr h => ?_)
  · obtain ⟨n, v, T, rfl, _⟩ := h
    rfl
  · obtain ⟨n, v, T, rfl, n1, hv, okT, q⟩ := h
    refine ⟨_, pss_cons (ps_set (i := 2) scOo.nd rfl (.inl rfl) pe_int)
      (pss_cons (ps_for PassesOwn.never rfl (pi_list (pe_fn ci hr (by rfl) (pa_cons (pv 0) (pa_cons (pv 1) pa_nil)))) (pg_name (i := 3) scOo.nd rfl (.inl rfl))
        (pss_one (ps_set (i := 2) scOo.nd rfl (.inl rfl) (pe_callBG call_lcm (by rfl) LC (pa_cons (pv 2) (pa_cons (pe_callB call_len_seq (by rfl) B.len boot_len (pa_cons (pv 3) pa_nil)) pa_nil))))))
      (pss_one (ps_ret (pv 2)))), ?_⟩
    refine ⟨.int n, rfl, v, rfl, n, v, T, rfl, n1, hv, okT, fun H1 c cs CL s1 nc hc qcs rd hcl nd => ?_⟩
    have hbl : ∀ l ∈ CL.map List.length, 0 < l ∧ l ≤ 192 := fun l hl => by
      obtain ⟨C, hC, rfl⟩ := List.mem_map.mp hl
      exact ⟨(rd.cyc C hC).ne, rd.len n1 hC⟩
    have hsl : cs.length = CL.length := by rw [qcs.len, List.length_map]
    refine ⟨c, rfl, ⟨_, SqL.of hc⟩, for_it (walk_list (K := K) (a := c) (xs := cs)) (fun i σ G => ∃ v3 : Option V, σ = [some (.int n), some v, some (.int ((lcmL ((CL.map List.length).take i) : Nat) : Int)), v3] ∧ G = H1) ⟨_, rfl, rfl⟩ (fun i σ G _ ⟨_, _, e⟩ => by rw [e]; exact SqL.of hc) ?_ ?_⟩
    · rintro i x σ _ G hi ⟨v3, rfl, rfl⟩ ⟨rfl, hx⟩
      obtain ⟨d, hd, hdq⟩ := qcs.get hx
      rw [List.getElem?_map] at hd
      cases hC : CL[i]? with
      | none => rw [hC] at hd; cases hd
      | some C =>
        rw [hC] at hd
        cases hd
        cases hdq with
        | @lst ca xs _ hca qx =>
        have hxl : xs.length = C.length := by rw [qx.len, List.length_map]
        have et : (CL.map List.length).take (i + 1) = (CL.map List.length).take i ++ [C.length] := by
          rw [List.take_add_one, List.getElem?_map, hC]
          rfl
        have hd1 := lcmL_dvd (ls := (CL.map List.length).take i) fun l hl => hbl l (List.mem_of_mem_take hl)
        have hlt := Nat.lt_of_le_of_lt (Nat.le_of_dvd bigN_pos hd1) bigN_lt
        have hcl2 := hbl C.length (List.mem_map.mpr ⟨C, List.mem_of_getElem? hC, rfl⟩)
        refine ⟨_, rfl, .ref ca, rfl, ca, xs, rfl, .inl (SqL.of hca), lcmL ((CL.map List.length).take i), xs.length, rfl, hlt, by rw [hxl]; exact Nat.lt_of_le_of_lt hcl2.2 (Nat.lt_of_lt_of_le (by decide : 192 < 2 ^ 8) (Nat.pow_le_pow_right (by decide) (by decide))), some (.ref ca), ?_, rfl⟩
        rw [et, lcmL_snoc, hxl]
        rfl
    · rintro σ G ⟨v3, rfl, rfl⟩
      have e : (CL.map List.length).take cs.length = CL.map List.length := List.take_of_length_le (by rw [List.length_map, hsl]; exact Nat.le_refl _)
      exact ⟨_, rfl, q _ _ s1 (by rw [e]; exact rd.ord) (by rw [e]; exact rd.ord_lt n1 (Nat.le_trans (sub_len nd fun x hx => let ⟨C, h1, h2⟩ := List.mem_flatten.mp hx; rd.sub C h1 x h2) (prs_len n (by omega))))⟩
abbrev nEo : List Str := ["n", "number", "behind", "place"]
theorem o_entOf (D0 : Df K mg "_entry_of" sEntryOf ["n", "number", "behind"]) (B : Bi mg) : Ok P w K mg base 1 "_entry_of" ["n", "number", "behind"] spEntOf := by
  have scEo : FnScope nEo ["n", "number", "behind"] (defScope sEntryOf) := ⟨rfl, rfl, rfl, by decide +kernel, rfl, by decide +kernel, by decide +kernel⟩
  refine D0.ok fun f fd F => F.ok scEo (fun vs H Q E h => ?_) (fun cdv A outer s H vs Q E hr h => ?_)
  · obtain ⟨n, i, D, kvs, f, rfl, _⟩ := h
    rfl
  · obtain ⟨n, i, D, kvs, g, rfl, n1, hD, beh, q⟩ := h
    have hu1 := hu_of hr
    refine ⟨_, pss_one (ps_ret (pe_callTy call_tuple_of (by rfl) B.tuple (by decide +kernel) (pa_cons (pe_lc (own := [("place", 3)]) (g := gName 3) (tt := tYes) (te := tIf (tB (tDIn (tTup (tCons (tVar 1) (tCons (tVar 3) tNil))) (tVar 2))) (tOp (rIxT K) (tDGet (tVar 2) (tTup (tCons (tVar 1) (tCons (tVar 3) tNil)))) (tC (.int 1))) (tUn (rU fun i => .int (-i)) (tC (.int 1)))) rfl scEo.nd (pi_range1 (by rfl) B.range (pa_cons (pv 0) pa_nil)) (blkOk_by (own := [("place", 3)]) (N := nEo) (sc := defScope sEntryOf) (by decide +kernel)) (fun _ _ _ _ _ => pg_name (i := 3) scEo.nd rfl (.inl rfl)) (fun _ _ _ _ _ => pts_nil)
      (fun _ _ _ _ _ => by exact (pe_ifExp (pt_cmp (pc_din hu1 (pe_tup (pa_cons (pv 1) (pa_cons (pv 3) pa_nil))) (pv 2)) (by rfl)) (pe_ix (r := rIxT K) ix_tup (pe_dget hu1 (pv 2) (pe_tup (pa_cons (pv 1) (pa_cons (pv 3) pa_nil))) (fun _ _ => rfl)) pe_int (fun _ _ => rfl)) (pe_un un_neg pe_int)))) pa_nil))), ?_⟩
    refine ⟨.int n, rfl, (n : Int), rfl, by omega, by omega, fun W nW => ?_⟩
    rw [Int.toNat_natCast]
    refine lc_itF (walk_rg (n := n)) (fun x => .int (if (i, x) ∈ prs n then ((g (i, x)).2 : Int) else -1)) nW (by omega) (fun _ _ => rfl) (fun _ _ => trivial) (fun x y G G' C Cn hx s2 hy c => ?_) (fun G bs s2 hW qb => ?_)
    · obtain ⟨rfl, rfl⟩ := hy
      refine ⟨rfl, ?_⟩
      dsimp only [tYes]
      rw [if_pos rfl]
      refine ⟨.int i, rfl, .int x, rfl, by show 2 ≤ sizeLine; decide, fun t nt => ?_⟩
      have st := same_new (o := .tup [.int i, .int x]) nt
      have ht : upd G' t (.tup [.int i, .int x]) t = some (.tup ((pK (i, x)).map kV)) := upd_same
      have hD1 := st _ _ (s2 _ _ hD)
      have beh1 := (beh.up (TS.of s2)).up (TS.of st)
      generalize upd G' t (.tup [.int i, .int x]) = G1 at st ht hD1 beh1
      refine ⟨.ref D, rfl, D, valV kvs (pK (i, x)), rfl, DGet.t hD1 ht, _, rfl, ?_⟩
      by_cases hm : (i, x) ∈ prs n
      · obtain ⟨a, hva, ha⟩ := beh1.val _ hm
        rw [if_pos hm] at c
        rw [hva]
        refine iteT ⟨.ref D, rfl, .int i, rfl, .int x, rfl, by show 2 ≤ sizeLine; decide, fun t2 nt2 => ?_⟩
        have st2 := same_new (o := .tup [.int i, .int x]) nt2
        have ht2 : upd G1 t2 (.tup [.int i, .int x]) t2 = some (.tup ((pK (i, x)).map kV)) := upd_same
        refine ⟨D, .ref a, rfl, ?_, a, _, 1, .int ((g (i, x)).2 : Int), rfl, rfl, SqT.of (st2 _ _ ha), atI_nat (j := 1) rfl, c _ _ (st.trans st2) (.int _)⟩
        rw [← hva]
        exact DGet.t (st2 _ _ hD1) ht2
      · rw [beh1.none hm]
        rw [if_neg hm] at c
        exact iteF ⟨1, rfl, c _ _ st (.int _)⟩
    · have eb : bs = (rowF n (fun p => (g p).2) i).map V.int := dqa_int (by unfold rowF; rw [List.map_map]; exact qb)
      subst eb
      exact ⟨W, _, rfl, .inl ⟨SqL.of hW, fun t nt => q _ _ (s2.trans (same_new nt)) upd_same⟩⟩
end
end Kr
namespace Kr
open PySem PySem.Spec PyProof.Rows L2
/-! ### d.values() of a dict with tuple keys, and the list of them -/
section
variable {prog : Program} {w : World} {A : Around} {E : Value → Shared → Prop} {s : Shared} {o : Obj} {es : Array DictEntry} {ep : Nat}
theorem kdl_rawV {r d : Addr} (hd : o.data = .dict es ep) :
    PySem.W.KdlSrc prog w "dict_values" r d es.size (fun i v => ∃ en : DictEntry, es[i]? = some en ∧ v = en.val) (fun h => h.get? r = some (DSub.viewOb "dict_values" d) ∧ h.get? d = some o) where
  type := fun _ hm => ⟨_, hm.1, rfl⟩
  there := fun _ hm => ⟨Heap.lt_size hm.1, Heap.lt_size hm.2⟩
  keep := fun _ _ hm hk => ⟨hk r (.inl rfl) _ hm.1, hk d (.inr rfl) _ hm.2⟩
  notList := by decide
  notTuple := by decide
  hint := fun _ _ s _ hm hq => PySem.W.kdl_hint_values (s := s) ⟨_, hm.1, rfl⟩ hq
  iter := fun _ s hh hm => ⟨_, _, (fun _ _ hq => DSub.iter_vals hm.1 hm.2 hd hq), DSub.walksVal (a := d) hh (Nat.ne_of_lt (Heap.lt_size hm.2)) hd (fun i e he => ⟨e, he, rfl⟩), ⟨Heap.get?_push_size _ rfl, Heap.get?_push_of_some _ hm.2⟩⟩
theorem meetsValues {d : Addr} (hd : (d == sysModules) = false) :
    MeetsIn prog w (Builtin.«dict.values» ⟨[.ref d], []⟩) (fun _ R s => DT.Raw s.heap d es ep ∧ R (.ok (.ret (.ref s.heap.objs.size))) { s with heap := s.heap.push { cls := .type "dict_values", data := .fields #[.ref d] } }) :=
  .of_wp fun A R s ⟨hm, h⟩ => by
    refine wpAny_bind ?_
    unfold Builtin.Dict.noArgs
    refine wpAny_bind (wpAny_notOrdered_dict hm.typeIs ?_)
    show wpAny _ _ (pure d) _ _ s
    refine wpAny_pure ?_
    show wpAny _ _ (Builtin.Dict.showsAll d >>= _) _ _ s
    unfold Builtin.Dict.showsAll
    rw [if_neg (by rw [hd]; exact Bool.false_ne_true)]
    refine wpAny_bind (wpAny_pure ?_)
    exact wpAny_bind (wpAny_newObj_type (wpAny_pure ⟨_, rfl, h⟩))
theorem callValues {d : Addr} {Q : Value → Shared → Prop} (hd : (d == sysModules) = false) (hm : DT.Raw s.heap d es ep)
    (h : Q (.ref s.heap.objs.size) { s with heap := s.heap.push { cls := .type "dict_values", data := .fields #[.ref d] } }) : wpAny (model prog w) A (call (.builtin "dict.values") [.ref d]) Q E s :=
  call_meetsIn PySem.F.slot_dict_values hm.typeIs PySem.F.entry_dict_values (PySem.F.args_dict_values_1 _) (meetsValues (es := es) (ep := ep) hd) ⟨hm, h⟩
end
def rValsT : V → List V → Hp → VK → Prop := fun x xs H Q => ∃ (a : Addr) (kvs : List (List L2.Key × V)), x = .ref a ∧ xs = [] ∧ H a = some (.dT kvs) ∧ ∀ p, H p = none → Q (.ref p) (upd H p (viewO "dict_values" p a))
theorem mt_valuesT {X : Cx} : MtR X "dict.values" rValsT := by
  intro pins s σ H x xs v us Q I rx rxs h
  obtain ⟨a, kvs, rfl, rfl, ha, q⟩ := h
  cases rx
  cases rxs
  obtain ⟨z, hd, xs', rel, o, es, ep, ho, hx, hdat, _⟩ := dt_of I.hok ha
  refine callValues (es := es) (ep := ep) hd ⟨o, ho, hx, hdat⟩ ?_
  have hf : H s.heap.objs.size = none := I.hok.fresh (Nat.le_refl _)
  exact ⟨.ref s.heap.objs.size, upd H s.heap.objs.size (viewO "dict_values" s.heap.objs.size a), I.laid (t' := s.toks) (fun b u e => Heap.get?_push_of_some _ e) (Nat.le_refl _) (viewO_ok (Heap.get?_push_size _ rfl)), rfl, q _ hf⟩
def rListVals : List V → Hp → VK → Prop := fun xs H Q => ∃ (p d : Addr) (kvs : List (List L2.Key × V)), xs = [.ref p] ∧ H p = some (viewO "dict_values" p d) ∧ H d = some (.dT kvs) ∧ ∀ q, H q = none → Q (.ref q) (upd H q (.lst (kvs.map (·.2))))
theorem call_list_vals {X : Cx} (hc : X.calm = true) : CallR X (.type "list") rListVals := by
  intro pins s σ H xs us Q I r h
  obtain ⟨p, d, kvs, rfl, hp, hd, q⟩ := h
  obtain ⟨u, rfl, rx⟩ := r.one
  cases rx
  have hv : s.heap.get? p = some (DSub.viewOb "dict_values" d) := (show ObjOk X.prog X.w H s.heap p (viewO "dict_values" p d) from I.hok p _ hp).1
  obtain ⟨z, hs, ks, pr, o, es, ep, ho, hx, hdt, he, hn⟩ := (show ObjOk X.prog X.w H s.heap d (.dT kvs) from I.hok d _ hd)
  have l1 : es.size = ks.length := size_of_entries he
  have l2 : kvs.length = ks.length := Paired.length pr
  refine PySem.W.kdl_call (kdl_rawV hdt) (I.ok.hd hc) ⟨hv, ho⟩ (by omega) fun h' tk acc' c' kp e it => ?_
  have rv : Vals (kvs.map (·.2)) acc'.toList := by
    have hl : acc'.toList.length = ks.length := by rw [Array.length_toList, it.1]; exact l1
    refine vals_of_at (by rw [List.length_map, hl]; exact l2) fun j x w h1 h2 => ?_
    obtain ⟨en, hen, hv2⟩ := it.2 j w (by rw [← Array.getElem?_toList]; exact h2)
    have qe := entry_at he j
    rw [hen] at qe
    cases hb : ks[j]? with
    | none =>
      rw [hb] at qe
      exact nomatch (show some en = none from qe)
    | some b =>
      rw [hb] at qe
      have e2 : en = entryOfKey (tupleKind (mixKind X.prog X.w)) b := Option.some.inj qe
      obtain ⟨y, hy, ry⟩ := DX.pget pr hb
      rw [List.getElem?_map, hy] at h1
      cases h1
      rw [hv2, e2]
      exact ry.2.2
  have hz : (kvs.map (·.2)).length ≤ sizeLine := by rw [List.length_map]; exact z
  refine ⟨.ref s.heap.objs.size, _, I.laid (t' := tk) (o := .lst (kvs.map (·.2))) kp (Nat.le_refl _) ?_, rfl, q _ (I.hok.fresh (Nat.le_refl _))⟩
  exact ⟨hz, acc'.toList, c', rv, by rw [Array.toArray_toList]; exact e⟩
end Kr
namespace Kr
open PySem PySem.Spec PyProof.Rows L2
/-! ### conditions of while: more may be asked of what follows -/
def MonoE (t : TE) : Prop := ∀ σ H (Q Q' : VK), (∀ v H1, Q v H1 → Q' v H1) → t σ H Q → t σ H Q'
def MonoC (t : TT) : Prop := ∀ σ H (Q Q' : Bool → Hp → Prop), (∀ v H1, Q v H1 → Q' v H1) → t σ H Q → t σ H Q'
def MonoR (r : R2) : Prop := ∀ x y H (Q Q' : VK), (∀ v H1, Q v H1 → Q' v H1) → r x y H Q → r x y H Q'
theorem mono_var (i : Nat) : MonoE (tVar i) := fun _ _ _ _ h ⟨v, e, q⟩ => ⟨v, e, h _ _ q⟩
theorem mono_c (v : V) : MonoE (tC v) := fun _ _ _ _ h q => h _ _ q
theorem mono_op {r : R2} {a b : TE} (hr : MonoR r) (ha : MonoE a) (hb : MonoE b) : MonoE (tOp r a b) := fun σ _ _ _ h q => ha _ _ _ _ (fun _ _ q => hb _ _ _ _ (fun _ _ q => hr _ _ _ _ _ h q) q) q
theorem mono_rI0 (g : Int → Int → V) : MonoR (rI0 g) := fun _ _ _ _ _ h ⟨i, j, a, b, q⟩ => ⟨i, j, a, b, h _ _ q⟩
theorem mono_rI (C : Int → Int → Prop) (g : Int → Int → V) : MonoR (rI C g) := fun _ _ _ _ _ h ⟨i, j, a, b, c, q⟩ => ⟨i, j, a, b, c, h _ _ q⟩
theorem mono_ixT (K : PySem.W.Frag) : MonoR (rIxT K) := fun _ _ _ _ _ h ⟨p, xs, i, v, a, b, c, d, q⟩ => ⟨p, xs, i, v, a, b, c, d, h _ _ q⟩
theorem mono_ixL (K : PySem.W.Frag) : MonoR (rIxL K) := fun _ _ _ _ _ h ⟨p, xs, i, v, a, b, c, d, q⟩ => ⟨p, xs, i, v, a, b, c, d, h _ _ q⟩
theorem mono_din {a b : TE} (ha : MonoE a) (hb : MonoE b) : MonoE (tDIn a b) := fun σ _ _ _ h q => ha _ _ _ _ (fun _ _ q => hb _ _ _ _ (fun _ _ ⟨x, o, e, g, q⟩ => ⟨x, o, e, g, h _ _ q⟩) q) q
theorem mono_dnotin {a b : TE} (ha : MonoE a) (hb : MonoE b) : MonoE (tDNotIn a b) := fun σ _ _ _ h q => ha _ _ _ _ (fun _ _ q => hb _ _ _ _ (fun _ _ ⟨x, o, e, g, q⟩ => ⟨x, o, e, g, h _ _ q⟩) q) q
theorem mono_B {a : TE} (ha : MonoE a) : MonoC (tB a) := fun _ _ _ _ h q => ha _ _ _ _ (fun _ _ ⟨c, e, q⟩ => ⟨c, e, h _ _ q⟩) q
theorem mono_test {a : TE} (ha : MonoE a) : MonoC (tTest a) := fun _ _ _ _ h q => ha _ _ _ _ (fun _ _ ⟨c, e, q⟩ => ⟨c, e, h _ _ q⟩) q
theorem mono_and {a b : TT} (ha : MonoC a) (hb : MonoC b) : MonoC (tAnd a b) := fun _ _ _ _ h q => ha _ _ _ _ (fun c _ q => by
  cases c with
  | true => exact hb _ _ _ _ h q
  | false => exact h _ _ q) q
def MonoA (t : TA) : Prop := ∀ σ H (Q Q' : List V → Hp → Prop), (∀ v H1, Q v H1 → Q' v H1) → t σ H Q → t σ H Q'
def MonoL (r : List V → Hp → VK → Prop) : Prop := ∀ vs H (Q Q' : VK), (∀ v H1, Q v H1 → Q' v H1) → r vs H Q → r vs H Q'
theorem mono_nil : MonoA tNil := fun _ _ _ _ h q => h _ _ q
theorem mono_cons {t : TE} {u : TA} (a : MonoE t) (b : MonoA u) : MonoA (tCons t u) := fun _ _ _ _ h q => a _ _ _ _ (fun _ _ q => b _ _ _ _ (fun _ _ q => h _ _ q) q) q
theorem mono_cb {r : List V → Hp → VK → Prop} {t : TA} (hr : MonoL r) (a : MonoA t) : MonoE (tCB r t) := fun _ _ _ _ h q => a _ _ _ _ (fun _ _ q => hr _ _ _ _ h q) q
theorem mono_eq : MonoR rEq := fun _ _ _ _ _ h ⟨a, q⟩ => ⟨a, h _ _ q⟩
theorem mono_int : MonoL (fun xs H Q => (∃ i, xs = [.int i] ∧ Q (.int i) H) ∨ ∃ k, xs = [.bl k] ∧ Q (.int (if k then 1 else 0)) H) := fun _ _ _ _ h q => q.elim (fun ⟨i, e, q⟩ => .inl ⟨i, e, h _ _ q⟩) fun ⟨i, e, q⟩ => .inr ⟨i, e, h _ _ q⟩
end Kr
namespace Kr
open PySem PySem.Spec PyProof.Rows L2
theorem dqa_at {H : Hp} : ∀ {xs : List V} {ds : List PyData}, xs.length = ds.length → (∀ (i : Nat) (x : V) (d : PyData), xs[i]? = some x → ds[i]? = some d → Dq H x d) → DqA H xs ds
  | [], [], _, _ => .nil
  | [], _ :: _, h, _ => by simp at h
  | _ :: _, [], h, _ => by simp at h
  | x :: xs, d :: ds, h, f => .cons (f 0 x d rfl rfl) (dqa_at (by simpa using h) fun i y e h1 h2 => f (i + 1) y e (by simpa using h1) (by simpa using h2))
/-! ### the rounds as the law keeps them -/
abbrev Rw := Pr × List Pr × Nat
def rowP (C : List Pr) : List Rw := C.zipIdx.map fun ps => (ps.1, C, ps.2)
def rowsOf (CL : List (List Pr)) : List Rw := CL.flatMap rowP
def roD (r : Rw) : PyData := .tuple [circD r.2.1, .int (r.2.2 : Int)]
theorem rowP_get {C : List Pr} {i : Nat} : (rowP C)[i]? = C[i]?.map fun p => (p, C, i) := by
  unfold rowP
  rw [List.getElem?_map, List.getElem?_zipIdx]
  cases C[i]? with
  | none => rfl
  | some p => simp
theorem rowP_fst (C : List Pr) : (rowP C).map (·.1) = C := by
  refine List.ext_getElem? fun i => ?_
  rw [List.getElem?_map, rowP_get]
  cases C[i]? <;> rfl
theorem rowsOf_fst : ∀ CL : List (List Pr), (rowsOf CL).map (·.1) = CL.flatten
  | [] => rfl
  | C :: CL => by
    unfold rowsOf
    rw [List.flatMap_cons, List.map_append, rowP_fst, List.flatten_cons]
    exact congrArg _ (rowsOf_fst CL)
theorem rowsOf_mem {CL : List (List Pr)} {r : Rw} (h : r ∈ rowsOf CL) : r.2.1 ∈ CL ∧ r.2.1[r.2.2]? = some r.1 := by
  obtain ⟨C, hC, hr⟩ := List.mem_flatMap.mp h
  obtain ⟨i, hi⟩ := List.getElem?_of_mem hr
  rw [rowP_get] at hi
  obtain ⟨p, hp, rfl⟩ := Option.map_eq_some_iff.mp hi
  exact ⟨hC, hp⟩
theorem rowsOf_snoc (CL : List (List Pr)) (P : List Pr) : rowsOf (CL ++ [P]) = rowsOf CL ++ rowP P := by
  unfold rowsOf
  rw [List.flatMap_append]
  simp
structure RndAt (H : Hp) (CL : List (List Pr)) (kvs : List (List Key × V)) : Prop where
  keys : kvs.map (·.1) = CL.flatten.map pK
  vals : DqA H (kvs.map (·.2)) ((rowsOf CL).map roD)
theorem RndAt.up {H H' : Hp} {CL : List (List Pr)} {kvs : List (List Key × V)} (h : RndAt H CL kvs) (s : Same H H') : RndAt H' CL kvs := ⟨h.keys, h.vals.up s⟩
theorem keys_none {kvs : List (List Key × V)} {L : List Pr} {q : Pr} (h : kvs.map (·.1) = L.map pK) (hq : q ∉ L) : valV kvs (pK q) = none := by
  cases e : valV kvs (pK q) with
  | none => rfl
  | some v =>
    obtain ⟨i, hi⟩ := valV_mem e
    have h1 : (kvs.map (·.1))[i]? = some (pK q) := by rw [List.getElem?_map, hi]; rfl
    rw [h, List.getElem?_map] at h1
    obtain ⟨p, hp, ep⟩ := Option.map_eq_some_iff.mp h1
    exact absurd (pK_inj ep ▸ List.mem_of_getElem? hp) hq
theorem keys_some {kvs : List (List Key × V)} {L : List Pr} {q : Pr} (h : kvs.map (·.1) = L.map pK) (hq : q ∈ L) : ∃ v, valV kvs (pK q) = some v := by
  cases e : valV kvs (pK q) with
  | some v => exact ⟨v, rfl⟩
  | none =>
    unfold valV at e
    rw [Option.map_eq_none_iff, List.find?_eq_none] at e
    have : pK q ∈ kvs.map (·.1) := by rw [h]; exact List.mem_map.mpr ⟨q, hq, rfl⟩
    obtain ⟨kv, hkv, ek⟩ := List.mem_map.mp this
    exact absurd (by simpa using ek) (e kv hkv)
/-- the round of a pair, and its place in it -/
theorem RndAt.val {H : Hp} {CL : List (List Pr)} {kvs : List (List Key × V)} (h : RndAt H CL kvs) {p : Pr} (hp : p ∈ CL.flatten) : ∃ a r xs C s, valV kvs (pK p) = some (.ref a) ∧ H a = some (.tup [.ref r, .int ((s : Nat) : Int)]) ∧ H r = some (.lst xs) ∧ DqA H xs (C.map pD) ∧ C ∈ CL ∧ C[s]? = some p := by
  obtain ⟨v, hv⟩ := keys_some h.keys hp
  obtain ⟨i, hi⟩ := valV_mem hv
  obtain ⟨d, hd, qd⟩ := h.vals.get (i := i) (v := v) (by rw [List.getElem?_map, hi]; rfl)
  rw [List.getElem?_map] at hd
  obtain ⟨r, hr, rfl⟩ := Option.map_eq_some_iff.mp hd
  have h1 : (kvs.map (·.1))[i]? = some (pK p) := by rw [List.getElem?_map, hi]; rfl
  rw [h.keys, ← rowsOf_fst, List.getElem?_map, List.getElem?_map, hr] at h1
  have e1 : r.1 = p := pK_inj (Option.some.inj h1)
  obtain ⟨m1, m2⟩ := rowsOf_mem (List.mem_of_getElem? hr)
  obtain ⟨a, ys, rfl, ha, q⟩ := Dq.tup_inv qd
  cases q with
  | cons q1 q =>
  cases q with
  | cons q2 q =>
  cases q
  cases q2
  cases q1 with
  | @lst b xs _ hb qx =>
  exact ⟨a, b, xs, r.2.1, r.2.2, hv, ha, hb, qx, m1, by rw [m2, e1]⟩
theorem row_at {H : Hp} {xs : List V} {T : List (List Int)} {i : Nat} (q : DqA H xs (T.map entD)) (hi : i < T.length) : ∃ a, xs[i]? = some (.ref a) ∧ H a = some (.tup ((T.getD i []).map V.int)) := by
  have hl : i < xs.length := by rw [q.len, List.length_map]; exact hi
  obtain ⟨e, he, a, ex, ha⟩ := ents_get q (List.getElem?_eq_getElem hl)
  refine ⟨a, by rw [List.getElem?_eq_getElem hl, ex], ?_⟩
  rw [getD_of he]
  exact ha
def spRounds : Sp := fun vs H Q _ => ∃ (n : Nat) (v : V) (T : List (List Int)), vs = [.int (n : Int), v] ∧ n ≤ 6 ∧ Dq H v (tabD T) ∧ TabOk n T ∧ ∀ H' D kvs CL, Same H H' → H D = none → H' D = some (.dT kvs) → RndAt H' CL kvs → Rounds n (stp n T) CL → CL.flatten.Nodup → CL.flatten.length ≤ 192 → Q (.ref D) H'
/-- what holds between the turns -/
structure RnSt (n : Nat) (T : List (List Int)) (D : Addr) (H1 G : Hp) (kvs : List (List Key × V)) (CL : List (List Pr)) : Prop where
  kp : ∀ b o, b ≠ D → H1 b = some o → G b = some o
  dict : G D = some (.dT kvs)
  rn : RndAt (hidS [D] G) CL kvs
  cyc : ∀ C ∈ CL, Cyc (stp n T) C
  nd : CL.flatten.Nodup
  sub : ∀ x ∈ CL.flatten, x ∈ prs n
section
variable {P : Program} {w : World} {K : PySem.W.Frag} {mg : Str → Option Value} {base : Heap}
abbrev nLr : List Str := ["n", "table", "every", "places", "found", "number", "x", "row", "here", "entry"]
theorem o_lRounds (D0 : Df K mg "_law_rounds" sLRounds ["n", "table"]) (B : Bi mg) (ev : Ok P w K mg base 1 "_law_every" ["n"] spEvery) (pl : Ok P w K mg base 2 "_law_places" ["n"] spNumbers) (kb : Ok P w K mg base 1 "_law_keys_behind" ["n", "entry"] spGoal) : Ok P w K mg base 3 "_law_rounds" ["n", "table"] spRounds := by
  have scLr : FnScope nLr ["n", "table"] (defScope sLRounds) := ⟨rfl, rfl, rfl, by decide +kernel, rfl, by decide +kernel, by decide +kernel⟩
  refine D0.ok fun f fd F => F.ok scLr (fun vs H Q E h => ?_) (fun cdv A outer s H vs Q E hr h => ?_)
  · obtain ⟨n, v, T, rfl, _⟩ := h
    rfl
  · obtain ⟨n, v, T, rfl, n1, hv, okT, q⟩ := h
    have hu1 := hu_of hr
    have hr1 := hr.mono (by decide : 1 ≤ 2)
    refine ⟨_, pss_cons (ps_par3 (i := 2) (j := 3) (l := 4) rfl scLr.nd rfl rfl rfl (by decide) (by decide) (by decide) rfl rfl rfl (pa_cons (pe_fn ev hr1 (by rfl) (pa_cons (pv 0) pa_nil)) (pa_cons (pe_fn pl hr (by rfl) (pa_cons (pv 0) pa_nil)) (pa_cons pe_dnewT pa_nil))) (by rfl))
      (pss_cons (ps_for PassesOwn.never rfl (pi_range1 (by rfl) B.range (pa_cons (pe_callB call_len_seq (by rfl) B.len boot_len (pa_cons (pv 2) pa_nil)) pa_nil)) (pg_name (i := 5) scLr.nd rfl (.inl rfl))
        (pss_one (ps_for PassesOwn.never rfl (pi_range1 (by rfl) B.range (pa_cons (pv 0) pa_nil)) (pg_name (i := 6) scLr.nd rfl (.inl rfl))
          (pss_cons (ps_par (i := 7) (j := 8) rfl scLr.nd rfl rfl (by decide) rfl rfl (pa_cons (pe_lst pa_nil) (pa_cons (pe_tup (pa_cons (pv 5) (pa_cons (pv 6) pa_nil))) pa_nil)) (by rfl))
          (pss_one (ps_while PassesOwn.never (PW.pt (pw_and (pt_cmp (pc_dnotin hu1 (pv 8) (pv 4)) (by rfl)) (pw_and1 (pt_cmpR op_ge (pe_ix ix_tup (pe_ix ix_tup (pv 1) (pe_ix ix_tup (pv 8) pe_int (fun _ _ => rfl)) (fun _ _ => rfl)) (pe_ix ix_tup (pv 8) pe_int (fun _ _ => rfl)) (fun _ _ => rfl)) pe_int (nomark _)))))
            (pss_cons (ps_dput hu1 (pv 4) (pv 8) (pe_tup (pa_cons (pv 7) (pa_cons (pe_callB call_len_seq (by rfl) B.len boot_len (pa_cons (pv 7) pa_nil)) pa_nil))) rfl)
            (pss_cons (ps_expr (pe_bm PySem.F.plainAttrs_list PySem.F.slot_list_append PySem.F.type_list_append mt_append (pv 7) (pa_cons (pv 8) pa_nil)))
            (pss_cons (ps_set (i := 9) scLr.nd rfl (.inl rfl) (pe_ix ix_tup (pv 1) (pe_ix ix_tup (pv 8) pe_int (fun _ _ => rfl)) (fun _ _ => rfl)))
            (pss_one (ps_set (i := 8) scLr.nd rfl (.inl rfl) (pe_tup (pa_cons (pe_dget hu1 (pv 3) (pe_fn kb hr1 (by rfl) (pa_cons (pv 0) (pa_cons (pv 9) pa_nil))) (fun _ _ => rfl)) (pa_cons (pe_ix ix_tup (pv 9) (pe_ix ix_tup (pv 8) pe_int (fun _ _ => rfl)) (fun _ _ => rfl)) pa_nil))))))))))))))
      (pss_one (ps_ret (pv 4)))), ?_⟩
    refine ⟨.int n, rfl, n, rfl, n1, fun He ve s1 hve => ?_⟩
    refine ⟨.int n, rfl, n, rfl, n1, fun Hp pl0 nbs s2 hpl hnb => ?_⟩
    refine fun D nD => ?_
    have s3 := same_new (o := .dT []) nD
    have hD : upd Hp D (.dT []) D = some (.dT []) := upd_same
    have hpD : pl0 ≠ D := ne_of_none hpl nD
    have sH := s1.trans (s2.trans s3)
    have nD0 : H D = none := s1.free (s2.free nD)
    have hv1 := hv.up sH
    have hpl1 := s3 _ _ hpl
    have hve1 := hve.up (s2.trans s3)
    generalize upd Hp D (.dT []) = H1 at hD sH hv1 hpl1 hve1
    clear s1 s2 s3 nD hpl hve
    cases hve1 with
    | @lst ea es _ hea qe =>
    have hp64 : 2 ^ n ≤ 64 := by have := all_few n (by omega); rw [all_len n (by omega)] at this; exact this
    have hel : es.length = 2 ^ n := by rw [qe.len, List.length_map, all_len n (by omega)]
    obtain ⟨va, xs, rfl, hva, qx⟩ := Dq.tup_inv hv1
    have hTl := okT.len n1
    have hvD : va ≠ D := ne_of hva hD (by intro z; cases z)
    have nf : ∀ b o, H b = some o → b ≠ D := fun b o hb z => by rw [z, nD0] at hb; cases hb
    refine ⟨_, _, _, rfl, ?_⟩
    try dsimp only [tNext]
    refine ⟨.ref ea, rfl, ea, es, rfl, .inl (SqL.of hea), (es.length : Int), rfl, by omega, by omega, ?_⟩
    rw [Int.toNat_natCast, hel]
    refine for_it (walk_rg (n := 2 ^ n)) (fun i σ G => ∃ (v5 v6 v7 v8 v9 : Option V) (kvs : List (List Key × V)) (CL : List (List Pr)), σ = [some (.int n), some (.ref va), some (.ref ea), some (.ref pl0), some (.ref D), v5, v6, v7, v8, v9] ∧ RnSt n T D H1 G kvs CL ∧ ∀ p ∈ prs n, p.1 < i → p ∈ CL.flatten)
      ⟨_, _, _, _, _, [], [], rfl, ⟨fun _ _ _ h => h, hD, ⟨rfl, .nil⟩, (fun _ h => nomatch h), List.nodup_nil, (fun _ h => nomatch h)⟩, fun _ _ h => absurd h (Nat.not_lt_zero _)⟩ (fun _ _ _ _ _ => trivial) ?_ ?_
    · rintro i _ σ _ G hi ⟨v5, v6, v7, v8, v9, kvs, CL, rfl, st, all⟩ ⟨rfl, rfl⟩
      refine ⟨.int n, rfl, (n : Int), rfl, by omega, by omega, ?_⟩
      rw [Int.toNat_natCast]
      refine for_it (walk_rg (n := n)) (fun j σ G => ∃ (v6 v7 v8 v9 : Option V) (kvs : List (List Key × V)) (CL : List (List Pr)), σ = [some (.int n), some (.ref va), some (.ref ea), some (.ref pl0), some (.ref D), some (.int i), v6, v7, v8, v9] ∧ RnSt n T D H1 G kvs CL ∧ ∀ p ∈ prs n, (p.1 < i ∨ p.1 = i ∧ p.2 < j) → p ∈ CL.flatten)
        ⟨_, _, _, _, kvs, CL, rfl, st, fun p hp h => all p hp (h.elim (fun z => z) fun z => absurd z.2 (Nat.not_lt_zero _))⟩ (fun _ _ _ _ _ => trivial) ?_ ?_
      · rintro j _ σ _ G hj ⟨v6, v7, v8, v9, kvs, CL, rfl, st, all⟩ ⟨rfl, rfl⟩
        have of0 : Offs [D] G := ⟨fun b hb => by
          rw [List.mem_singleton.mp hb]
          exact ⟨_, st.dict, by intro xs z; cases z⟩⟩
        refine ⟨by show 0 ≤ sizeLine; decide, fun c nc => ?_⟩
        have ncD : c ≠ D := fun z => of0.new nc (by rw [z]; simp)
        have sc := same_new (o := .lst []) nc
        have hc : upd G c (.lst []) c = some (.lst []) := upd_same
        have nfc : ∀ b o, G b = some o → b ≠ c := fun b o hb => ne_of_none hb nc
        generalize upd G c (.lst []) = G0 at sc hc
        refine ⟨.int i, rfl, .int j, rfl, by show 2 ≤ sizeLine; decide, fun b0 nb0 => ?_⟩
        have sb := same_new (o := .tup [.int (i : Int), .int (j : Int)]) nb0
        have hb0 : upd G0 b0 (.tup [.int (i : Int), .int (j : Int)]) b0 = some (.tup (pV (i, j))) := upd_same
        have hc1 := sb _ _ hc
        have s01 := sc.trans sb
        generalize upd G0 b0 (.tup [.int (i : Int), .int (j : Int)]) = G1 at sb hb0 hc1 s01
        clear sc hc sb nb0
        refine ⟨_, _, rfl, ?_⟩
        try dsimp only [tNext]
        refine while_by (fun σ G2 => ∃ (b : Addr) (ws : List V) (P : List Pr) (q : Pr) (v9 : Option V) (kvP : List (List Key × V)), σ = [some (.int n), some (.ref va), some (.ref ea), some (.ref pl0), some (.ref D), some (.int i), some (.int j), some (.ref c), some (.ref b), v9] ∧ (∀ b' o, b' ≠ D → b' ≠ c → G1 b' = some o → G2 b' = some o) ∧
            G2 D = some (.dT (kvs ++ kvP)) ∧ (kvs ++ kvP).map (·.1) = (CL.flatten ++ P).map pK ∧ kvP.length = P.length ∧ (∀ (l : Nat) (kv : List Key × V), kvP[l]? = some kv → ∃ a, kv.2 = .ref a ∧ G2 a = some (.tup [.ref c, .int (l : Int)])) ∧ G2 c = some (.lst ws) ∧ DqA G2 ws (P.map pD) ∧ G2 b = some (.tup (pV q)) ∧
            Path (stp n T) P q ∧ (P ++ [q])[0]? = some (i, j) ∧ (CL.flatten ++ P).Nodup ∧ (∀ x ∈ CL.flatten ++ P, x ∈ prs n) ∧ q.1 < 2 ^ n ∧ q.2 < n ∧ (q ∈ prs n ∨ P = []))
          (fun σ G2 => match G2 D with | some (.dT kvm) => 400 - kvm.length | _ => 0)
          ⟨b0, [], [], (i, j), v9, [], rfl, fun _ _ _ _ h => h, by rw [List.append_nil]; exact s01 _ _ st.dict, by rw [List.append_nil, List.append_nil]; exact st.rn.keys, rfl, (fun _ _ h => nomatch h), hc1, .nil, hb0, ⟨fun i x h => by simp at h⟩, rfl, by rw [List.append_nil]; exact st.nd, by rw [List.append_nil]; exact st.sub, hi, hj, .inr rfl⟩ ?_ ?_
        rotate_left
        · exact mono_and (mono_B (mono_dnotin (mono_var 8) (mono_var 4))) (mono_test (mono_op (mono_rI0 _) (mono_op (mono_ixT _) (mono_op (mono_ixT _) (mono_var 1) (mono_op (mono_ixT _) (mono_var 8) (mono_c _))) (mono_op (mono_ixT _) (mono_var 8) (mono_c _))) (mono_c _)))
        rintro σ G2 ⟨b, ws, P, qq, v9, kvP, rfl, k2, hD2, hks, hkl, hkP, hc2, qws, hb2, hpa, hst0, nd2, sub2, hq1, hq2, hqp⟩
        have hLl := Nat.le_trans (sub_len nd2 sub2) (prs_len n (by omega))
        have hkvl : (kvs ++ kvP).length ≤ 192 := by
          have := congrArg List.length hks
          rw [List.length_map, List.length_map] at this
          omega
        have hwl : ws.length = P.length := by rw [qws.len, List.length_map]
        have hPl : P.length ≤ 192 := by rw [List.length_append] at hLl; omega
        have kG : ∀ b' o, b' ≠ D → G b' = some o → G2 b' = some o := fun b' o h1 h2 => k2 _ _ h1 (nfc _ _ h2) (s01 _ _ h2)
        have k1 : ∀ b' o, b' ≠ D → H1 b' = some o → G2 b' = some o := fun b' o h1 h2 => kG _ _ h1 (st.kp _ _ h1 h2)
        have sG : Same (hidS [D] G) (hidS [D] G2) := fun b' o hb => by
          obtain ⟨h1, h2⟩ := hidS_some hb
          rw [hidS_ne h1]
          exact kG _ _ (fun z => h1 (by rw [z]; simp)) h2
        have hqs : ∀ p ∈ prs n, (p.1 < i ∨ p.1 = i ∧ p.2 < j + 1) → p ≠ (i, j) → p ∈ CL.flatten := fun p hp h hne => all p hp (by
          rcases h with h | ⟨h1, h2⟩
          · exact .inl h
          · refine .inr ⟨h1, ?_⟩
            by_cases e : p.2 = j
            · exact absurd (Prod.ext h1 e) hne
            · omega)
        have hva2 := k1 _ _ hvD hva
        refine ⟨.ref b, rfl, .ref D, rfl, D, valV (kvs ++ kvP) (pK qq), rfl, DGet.t hD2 hb2, _, rfl, ?_⟩
        by_cases hin : qq ∈ CL.flatten ++ P
        · obtain ⟨v0, hv0⟩ := keys_some hks hin
          rw [hv0]
          refine iteF (iteF ?_)
          cases hP : P with
          | nil =>
            subst hP
            obtain rfl : kvP = [] := List.length_eq_zero_iff.mp hkl
            rw [List.append_nil] at hD2 hin
            have eq0 : qq = (i, j) := Option.some.inj hst0
            refine ⟨_, _, _, _, kvs, CL, rfl, ⟨k1, hD2, st.rn.up sG, st.cyc, st.nd, st.sub⟩, fun p hp h => ?_⟩
            by_cases e : p = (i, j)
            · rw [e, ← eq0]
              exact hin
            · exact hqs p hp h e
          | cons x r =>
            have hne : P ≠ [] := by rw [hP]; exact List.cons_ne_nil _ _
            have inj : ∀ a b, a ∈ prs n → b ∈ prs n → stp n T a = stp n T b → a = b := fun a b ha hb e => stp_inj n1 okT ha hb e
            have hcy := path_close inj hpa hne nd2 sub2 st.cyc hin
            have efl : (CL ++ [P]).flatten = CL.flatten ++ P := by rw [List.flatten_append]; simp
            have hx0 : (i, j) ∈ P := by
              rw [hP] at hst0
              have : x = (i, j) := Option.some.inj hst0
              rw [hP, ← this]
              exact List.mem_cons_self
            refine ⟨_, _, _, _, kvs ++ kvP, CL ++ [P], rfl, ⟨k1, hD2, ⟨by rw [efl]; exact hks, ?_⟩, fun C hC => ?_, by rw [efl]; exact nd2, by rw [efl]; exact sub2⟩, fun p hp h => ?_⟩
            · rw [List.map_append, rowsOf_snoc, List.map_append]
              refine (st.rn.vals.up sG).app (dqa_at (by rw [List.length_map, List.length_map, hkl]; unfold rowP; rw [List.length_map, List.length_zipIdx]) fun l x d h1 h2 => ?_)
              rw [List.getElem?_map] at h1 h2
              obtain ⟨kv, hkv, rfl⟩ := Option.map_eq_some_iff.mp h1
              obtain ⟨rr, hrr, rfl⟩ := Option.map_eq_some_iff.mp h2
              rw [rowP_get] at hrr
              obtain ⟨pp, hpp, rfl⟩ := Option.map_eq_some_iff.mp hrr
              obtain ⟨a, ea, ha⟩ := hkP l kv hkv
              have of2 : Offs [D] G2 := ⟨fun b' hb => by
                rw [List.mem_singleton.mp hb]
                exact ⟨_, hD2, by intro xs z; cases z⟩⟩
              rw [ea]
              refine .tup (of2.tup ha) (.cons (.lst (xs := ws) (by rw [hidS_ne (by simpa using ncD)]; exact hc2) ?_) (.cons (.int _) .nil))
              exact DqA.upT (fun b' ys hb => of2.tup hb) (pD_flat _) qws
            · rcases List.mem_append.mp hC with d | d
              · exact st.cyc C d
              · rw [List.mem_singleton.mp d]
                exact hcy
            · rw [efl]
              by_cases e : p = (i, j)
              · rw [e]
                exact List.mem_append_right _ hx0
              · exact List.mem_append_left _ (hqs p hp h e)
        · rw [keys_none hks hin]
          obtain ⟨ra, hra, hrr⟩ := row_at qx (i := qq.1) (by rw [hTl]; exact hq1)
          have hE := okT.at_i n1 hq1
          have hraD : ra ≠ D := ne_of hrr hD (by intro z; cases z)
          have hrr2 := k1 _ _ hraD hrr
          have hcell : ((T.getD qq.1 []).map V.int)[qq.2]? = some (.int ((T.getD qq.1 []).getD qq.2 0)) := by rw [List.getElem?_map, getD_get (by rw [hE.len]; exact hq2)]; rfl
          refine iteT ⟨.ref va, rfl, .ref b, rfl, b, _, ((0 : Nat) : Int), _, rfl, rfl, SqT.of hb2, atI_nat (j := 0) rfl, va, xs, _, _, rfl, rfl, SqT.of hva2, atI_nat hra, .ref b, rfl, b, _, ((1 : Nat) : Int), _, rfl, rfl, SqT.of hb2, atI_nat (j := 1) rfl, ra, _, _, _, rfl, rfl, SqT.of hrr2, atI_nat hcell, _, _, rfl, rfl, _, rfl, ?_⟩
          by_cases hpr : qq ∈ prs n
          · have hm : qq.2 ∉ lotI n qq.1 := (mem_prs.mp hpr).2.2
            obtain ⟨z0, z1⟩ := hE.rid qq.2 hq2 hm
            obtain ⟨m, hm2⟩ : ∃ m : Nat, (T.getD qq.1 []).getD qq.2 0 = m := ⟨_, (Int.toNat_of_nonneg z0).symm⟩
            have hstp : stp n T qq = (num n (goalE n (T.getD qq.1 [])), m) := by
              unfold stp
              rw [hm2, Int.toNat_natCast]
            rw [decide_eq_true z0]
            refine iteT ?_
            try dsimp only [tNext]
            refine ⟨.ref c, rfl, .ref c, rfl, c, ws, rfl, .inl (SqL.of hc2), by show 2 ≤ sizeLine; decide, fun a na => ?_⟩
            have sa := same_new (o := .tup [.ref c, .int (ws.length : Nat)]) na
            have ha : upd G2 a (.tup [.ref c, .int (ws.length : Nat)]) a = some (.tup [.ref c, .int (ws.length : Nat)]) := upd_same
            have hD3 := sa _ _ hD2
            have hb3 := sa _ _ hb2
            generalize upd G2 a (.tup [.ref c, .int (ws.length : Nat)]) = G3 at sa ha hD3 hb3
            refine ⟨.ref D, rfl, .ref b, rfl, D, _, rfl, DPut.t (k := pK qq) hD3 hb3 (szl (by omega)), ?_⟩
            rw [putK_new _ (keys_none hks hin)]
            have hD4 : upd G3 D (.dT (kvs ++ kvP ++ [(pK qq, .ref a)])) D = some (.dT (kvs ++ kvP ++ [(pK qq, .ref a)])) := upd_same
            have t4 : TS G3 (upd G3 D (.dT (kvs ++ kvP ++ [(pK qq, .ref a)]))) := fun b' ys hb => by
              rw [upd_ne (ne_of hb hD3 (by intro z; cases z))]
              exact hb
            have k4 : ∀ b' o, b' ≠ D → G2 b' = some o → upd G3 D (.dT (kvs ++ kvP ++ [(pK qq, .ref a)])) b' = some o := fun b' o h1 h2 => by rw [upd_ne h1]; exact sa _ _ h2
            have t24 := (TS.of sa).trans t4
            have ha4 := t4 _ _ ha
            generalize upd G3 D (.dT (kvs ++ kvP ++ [(pK qq, .ref a)])) = G4 at hD4 t4 k4 t24 ha4
            clear sa ha hD3 hb3 t4
            have hc4 := k4 _ _ ncD hc2
            have hb4 := t24 _ _ hb2
            try dsimp only [tNext]
            refine ⟨.ref c, rfl, .inl ⟨rfl, _, SqL.of hc4⟩, .ref b, rfl, c, ws, .ref b, rfl, rfl, hc4, szl (by omega), ?_⟩
            have hc5 : upd G4 c (.lst (ws ++ [.ref b])) c = some (.lst (ws ++ [.ref b])) := upd_same
            have t5 : TS G4 (upd G4 c (.lst (ws ++ [.ref b]))) := TS.lst hc4
            have k5 : ∀ b' o, b' ≠ D → b' ≠ c → G2 b' = some o → upd G4 c (.lst (ws ++ [.ref b])) b' = some o := fun b' o h1 h2 h3 => by rw [upd_ne h2]; exact k4 _ _ h1 h3
            have hD5 : upd G4 c (.lst (ws ++ [.ref b])) D = some (.dT (kvs ++ kvP ++ [(pK qq, .ref a)])) := by rw [upd_ne ncD.symm]; exact hD4
            have t25 := t24.trans t5
            have ha5 := t5 _ _ ha4
            generalize upd G4 c (.lst (ws ++ [.ref b])) = G5 at hc5 t5 k5 hD5 t25 ha5
            clear k4 hD4 ha4 hc4 t5
            have hva5 := t25 _ _ hva2
            have hb5 := t25 _ _ hb2
            have hrr5 := t25 _ _ hrr2
            try dsimp only [tNext]
            refine ⟨.ref va, rfl, .ref b, rfl, b, _, ((0 : Nat) : Int), _, rfl, rfl, SqT.of hb5, atI_nat (j := 0) rfl, va, xs, _, _, rfl, rfl, SqT.of hva5, atI_nat hra, ?_⟩
            try dsimp only [tNext]
            refine ⟨.ref pl0, rfl, .int n, rfl, .ref ra, rfl, n, ra, T.getD qq.1 [], rfl, by omega, hrr5, fun G6 g0 s6 hg => ?_⟩
            have hgl := goal_all n1 (T.getD qq.1 [])
            have hplc : pl0 ≠ c := fun z => by
              have h1 := st.kp _ _ hpD hpl1
              rw [z, nc] at h1
              cases h1
            have hpl6 := s6 _ _ (k5 _ _ hpD hplc (k1 _ _ hpD hpl1))
            refine ⟨pl0, .int ((num n (goalE n (T.getD qq.1 [])) : Nat) : Int), rfl, ?_, .ref ra, rfl, .ref b, rfl, b, _, ((1 : Nat) : Int), _, rfl, rfl, SqT.of (s6 _ _ hb5), atI_nat (j := 1) rfl, ra, _, _, _, rfl, rfl, SqT.of (s6 _ _ hrr5), atI_nat hcell, by show 2 ≤ sizeLine; decide, fun b' nb' => ?_⟩
            · rw [← hnb _ hgl]
              exact DGet.t hpl6 (by rw [lotK_v]; exact hg)
            have s7 := s6.trans (same_new (o := .tup [.int ((num n (goalE n (T.getD qq.1 [])) : Nat) : Int), .int ((T.getD qq.1 []).getD qq.2 0)]) nb')
            have hb7 : upd G6 b' (.tup [.int ((num n (goalE n (T.getD qq.1 [])) : Nat) : Int), .int ((T.getD qq.1 []).getD qq.2 0)]) b' = some (.tup (pV (stp n T qq))) := by
              rw [upd_same, hstp, hm2]
            generalize upd G6 b' (.tup [.int ((num n (goalE n (T.getD qq.1 [])) : Nat) : Int), .int ((T.getD qq.1 []).getD qq.2 0)]) = G7 at s7 hb7
            have t27 := t25.trans (TS.of s7)
            have hD7 := s7 _ _ hD5
            have hnx := stp_in n1 okT hpr
            try dsimp only [tNext]
            refine ⟨⟨b', ws ++ [.ref b], P ++ [qq], stp n T qq, _, kvP ++ [(pK qq, .ref a)], rfl, fun b1 o h1 h2 h3 => s7 _ _ (k5 _ _ h1 h2 (k2 _ _ h1 h2 h3)), by rw [← List.append_assoc]; exact hD7, ?_, by rw [List.length_append, List.length_append, hkl]; rfl, fun l kv hkv => ?_, s7 _ _ hc5, ?_, hb7, hpa.more, ?_, ?_, fun x hx => ?_, (mem_prs.mp hnx).1, (mem_prs.mp hnx).2.1, .inl hnx⟩, ?_⟩
            · rw [← List.append_assoc, ← List.append_assoc, List.map_append, hks, List.map_append (l₁ := CL.flatten ++ P)]
              rfl
            · rcases Nat.lt_trichotomy l kvP.length with d | d | d
              · rw [List.getElem?_append_left d] at hkv
                obtain ⟨a', e1, e2⟩ := hkP l kv hkv
                exact ⟨a', e1, t27 _ _ e2⟩
              · subst d
                rw [List.getElem?_append_right (Nat.le_refl _), Nat.sub_self] at hkv
                cases Option.some.inj hkv
                exact ⟨a, rfl, by rw [hkl, ← hwl]; exact s7 _ _ ha5⟩
              · rw [List.getElem?_eq_none (by rw [List.length_append]; show _ + 1 ≤ _; omega)] at hkv
                cases hkv
            · rw [List.map_append]
              exact dqa_snoc (DqA.upT t27 (pD_flat _) qws) (pD_at (t27 _ _ hb2))
            · rw [List.getElem?_append_left (by rw [List.length_append]; show 0 < _ + 1; omega)]
              exact hst0
            · rw [← List.append_assoc]
              refine List.nodup_append.mpr ⟨nd2, by simp, fun x hx y hy z => ?_⟩
              rw [List.mem_singleton.mp hy] at z
              exact hin (z ▸ hx)
            · rw [← List.append_assoc] at hx
              rcases List.mem_append.mp hx with d | d
              · exact sub2 x d
              · rw [List.mem_singleton.mp d]
                exact hpr
            · show (match G7 D with | some (.dT kvm) => 400 - kvm.length | _ => 0) < (match G2 D with | some (.dT kvm) => 400 - kvm.length | _ => 0)
              rw [hD7, hD2]
              show 400 - (kvs ++ kvP ++ [(pK qq, V.ref a)]).length < 400 - (kvs ++ kvP).length
              rw [List.length_append (as := kvs ++ kvP)]
              show 400 - (_ + 1) < _
              omega
          · have hP0 : P = [] := hqp.resolve_left hpr
            subst hP0
            obtain rfl : kvP = [] := List.length_eq_zero_iff.mp hkl
            rw [List.append_nil] at hD2
            have eq0 : qq = (i, j) := Option.some.inj hst0
            have hkey := hE.key qq.2 hq2 (by
              apply Classical.byContradiction
              intro hno
              exact hpr (mem_prs.mpr ⟨hq1, hq2, hno⟩))
            rw [decide_eq_false (by rw [hkey]; decide)]
            refine iteF ⟨_, _, _, _, kvs, CL, rfl, ⟨k1, hD2, st.rn.up sG, st.cyc, st.nd, st.sub⟩, fun p hp h => hqs p hp h fun e => ?_⟩
            rw [e, ← eq0] at hp
            exact hpr hp
      · rintro σ G ⟨v6, v7, v8, v9, kvs, CL, rfl, st, all⟩
        refine ⟨_, _, _, _, _, kvs, CL, rfl, st, fun p hp h => all p hp ?_⟩
        by_cases c : p.1 < i
        · exact .inl c
        · exact .inr ⟨by omega, (mem_prs.mp hp).2.1⟩
    · rintro σ G ⟨v5, v6, v7, v8, v9, kvs, CL, rfl, st, all⟩
      have hall : ∀ p ∈ prs n, p ∈ CL.flatten := fun p hp => all p hp (mem_prs.mp hp).1
      exact ⟨.ref D, rfl, q G D kvs CL (fun b o hb => st.kp _ _ (nf _ _ hb) (sH _ _ hb)) nD0 st.dict (st.rn.up (hidS_same _ _)) ⟨st.cyc, fun C hC p hp => st.sub p (List.mem_flatten.mpr ⟨C, hC, hp⟩), fun p hp => List.mem_flatten.mp (hall p hp)⟩ st.nd (Nat.le_trans (sub_len st.nd st.sub) (prs_len n (by omega)))⟩
end
end Kr
namespace Kr
open PySem PySem.Spec PyProof.Rows L2
theorem lt_pow {a m k : Nat} (h : a < 2 ^ m) (hk : m ≤ k) : a < 2 ^ k := Nat.lt_of_lt_of_le h (Nat.pow_le_pow_right (by decide) hk)
def spFar : Sp := fun vs H Q _ => ∃ (p l : Addr), vs = [.ref p] ∧ Deck H p l ∧ ∀ H' (r : Int), Deck H' p l → Ext p l H H' → 0 ≤ r → r < 1000000000000000000000000000000 → Q (.int r) H'
def spCommon : Sp := fun vs H Q _ => ∃ a b : Nat, vs = [.int (a : Int), .int (b : Int)] ∧ 0 < a ∧ 0 < b ∧ a < 2 ^ 4000 ∧ b < 2 ^ 4000 ∧ Q (.int ((Nat.lcm a b : Nat) : Int)) H
def spPrimes : Sp := fun vs H Q _ => ∃ m : Nat, vs = [.int (m : Int)] ∧ 0 < m ∧ m < 2 ^ 2000 ∧ ∀ H' p (ps : List Nat), Same H H' → H p = none → H' p = some (.lst (ps.map fun x : Nat => V.int (x : Int))) → (∀ x ∈ ps, 2 ≤ x ∧ x ∣ m) → ps.length ≤ 3000 → Q (.ref p) H'
section
variable {P : Program} {w : World} {K : PySem.W.Frag} {mg : Str → Option Value} {base : Heap}
abbrev nLf : List Str := ["box", "found", "turn"]
theorem o_lFar (D0 : Df K mg "_law_far" sLFar ["box"]) (B : Bi mg) (dr : Ok P w K mg base 1 "_law_draw" ["box", "many"] spDraw) : Ok P w K mg base 2 "_law_far" ["box"] spFar := by
  have scLf : FnScope nLf ["box"] (defScope sLFar) := ⟨rfl, rfl, rfl, by decide +kernel, rfl, by decide +kernel, by decide +kernel⟩
  refine D0.ok fun f fd F => F.ok scLf (fun vs H Q E h => ?_) (fun cdv A outer s H vs Q E hr h => ?_)
  · obtain ⟨p, l, rfl, _⟩ := h
    rfl
  · obtain ⟨p, l, rfl, hd, q⟩ := h
    refine ⟨_, pss_cons (ps_set (i := 1) scLf.nd rfl (.inl rfl) pe_int)
      (pss_cons (ps_for PassesOwn.never rfl (pi_range1 (by rfl) B.range (pa_cons pe_int pa_nil)) (pg_name (i := 2) scLf.nd rfl (.inl rfl))
        (pss_one (ps_set (i := 1) scLf.nd rfl (.inl rfl) (pe_op op_add (pe_op op_mul pe_int (pv 1)) (pe_fn dr hr (by rfl) (pa_cons (pv 0) (pa_cons pe_int pa_nil)))))))
      (pss_one (ps_ret (pv 1)))), ?_⟩
    refine ⟨(6 : Int), rfl, by decide, by decide, ?_⟩
    refine for_it (walk_rg (n := 6)) (fun i σ G => ∃ (r : Int) (v2 : Option V), σ = [some (.ref p), some (.int r), v2] ∧ Deck G p l ∧ Ext p l H G ∧ 0 ≤ r ∧ r < 100000 ^ i) ⟨0, _, rfl, hd, Ext.rfl, by decide, by decide⟩ (fun _ _ _ _ _ => trivial) ?_ ?_
    · rintro i _ σ _ G hi ⟨r, v2, rfl, hG, e, r0, r1⟩ ⟨rfl, rfl⟩
      refine ⟨_, rfl, _, _, rfl, rfl, .inl ⟨by decide, by decide⟩, .ref p, rfl, p, l, 100000, rfl, hG, by decide, by decide, fun G2 u hG2 e2 u0 u1 => ⟨_, _, rfl, rfl, 100000 * r + u, _, rfl, hG2, e.trans e2, by omega, ?_⟩⟩
      rw [Int.pow_succ]
      omega
    · rintro σ G ⟨r, v2, rfl, hG, e, r0, r1⟩
      exact ⟨_, rfl, q _ _ hG e r0 (by simpa using r1)⟩
abbrev nLc : List Str := ["one", "other", "small", "great"]
theorem o_lCommon (D0 : Df K mg "_law_common" sLCommon ["one", "other"]) (B : Bi mg) : Ok P w K mg base 1 "_law_common" ["one", "other"] spCommon := by
  have scLc : FnScope nLc ["one", "other"] (defScope sLCommon) := ⟨rfl, rfl, rfl, by decide +kernel, rfl, by decide +kernel, by decide +kernel⟩
  refine D0.ok fun f fd F => F.ok scLc (fun vs H Q E h => ?_) (fun cdv A outer s H vs Q E hr h => ?_)
  · obtain ⟨a, b, rfl, _⟩ := h
    rfl
  · obtain ⟨a, b, rfl, ha, hb, ha2, hb2, q⟩ := h
    refine ⟨_, pss_cons (ps_par (i := 2) (j := 3) rfl scLc.nd rfl rfl (by decide) rfl rfl (pa_cons (pv 0) (pa_cons (pv 1) pa_nil)) (by rfl))
      (pss_cons (ps_while PassesOwn.never (pt_cmpR op_gt (pv 2) pe_int (nomark _))
        (pss_one (ps_par (i := 2) (j := 3) rfl scLc.nd rfl rfl (by decide) rfl rfl (pa_cons (pe_op op_mod (pe_callTy call_int1 (by rfl) B.int (by decide +kernel) (pa_cons (pv 3) pa_nil)) (pv 2)) (pa_cons (pv 2) pa_nil)) (by rfl))))
      (pss_one (ps_ret (pe_op op_fdivW (pe_op op_mulW (pv 0) (pv 1)) (pv 3))))), ?_⟩
    refine ⟨.int a, rfl, .int b, rfl, _, _, rfl, ?_⟩
    refine while_by (fun σ G => ∃ s g : Nat, σ = [some (.int a), some (.int b), some (.int s), some (.int g)] ∧ G = H ∧ 0 < g ∧ g < 2 ^ 4000 ∧ s < 2 ^ 4000 ∧ Nat.gcd s g = Nat.gcd a b) (fun σ _ => match σ with | [_, _, some (.int s), _] => s.toNat | _ => 0) ⟨a, b, rfl, rfl, hb, hb2, ha2, rfl⟩ ?_ (mono_test (mono_op (mono_rI0 _) (mono_var 2) (mono_c _)))
    rintro σ G ⟨s, g, rfl, rfl, g0, g1, s1, hg⟩
    refine ⟨_, rfl, _, _, rfl, rfl, _, rfl, ?_⟩
    by_cases h0 : 0 < s
    · rw [decide_eq_true (show (0 : Int) < (s : Int) by omega)]
      refine iteT ⟨.int g, rfl, .inl ⟨_, rfl, .int s, rfl, _, _, rfl, rfl, by omega, .int s, rfl, _, _, rfl, ⟨g % s, s, by show [_, _, some (V.int ((g : Int) % (s : Int))), _] = _; rw [← Int.natCast_emod], rfl, h0, s1, Nat.lt_trans (Nat.mod_lt _ h0) s1, by rw [← Nat.gcd_rec, hg]⟩, ?_⟩⟩
      show ((g : Int) % (s : Int)).toNat < ((s : Int)).toNat
      rw [← Int.natCast_emod, Int.toNat_natCast, Int.toNat_natCast]
      exact Nat.mod_lt _ h0
    · obtain rfl : s = 0 := by omega
      refine iteF ?_
      try dsimp only [tNext]
      refine ⟨.int a, rfl, .int b, rfl, _, _, rfl, rfl, wide_mul (a := 4000) (b := 4000) (by rw [Int.natAbs_natCast]; exact ha2) (by rw [Int.natAbs_natCast]; exact hb2) (by decide) (by decide) (by decide), .int g, rfl, _, _, rfl, rfl, wide_div (b := 4000) (by omega) (by rw [Int.natAbs_natCast]; exact g1) (by decide) (by decide), ?_⟩
      rw [Nat.gcd_zero_left] at hg
      subst hg
      have e : (a : Int) * (b : Int) / ((Nat.gcd a b : Nat) : Int) = ((Nat.lcm a b : Nat) : Int) := by
        rw [← Int.natCast_mul, ← Int.natCast_ediv]
        rfl
      show Q (V.int ((a : Int) * (b : Int) / ((Nat.gcd a b : Nat) : Int))) _
      rw [e]
      exact q
abbrev nLp : List Str := ["many", "found", "left", "p"]
theorem o_lPrimes (D0 : Df K mg "_law_primes" sLPrimes ["many"]) (B : Bi mg) : Ok P w K mg base 1 "_law_primes" ["many"] spPrimes := by
  have scLp : FnScope nLp ["many"] (defScope sLPrimes) := ⟨rfl, rfl, rfl, by decide +kernel, rfl, by decide +kernel, by decide +kernel⟩
  refine D0.ok fun f fd F => F.ok scLp (fun vs H Q E h => ?_) (fun cdv A outer s H vs Q E hr h => ?_)
  · obtain ⟨m, rfl, _⟩ := h
    rfl
  · obtain ⟨m, rfl, hm0, hm, q⟩ := h
    refine ⟨_, pss_cons (ps_par3 (i := 1) (j := 2) (l := 3) rfl scLp.nd rfl rfl rfl (by decide) (by decide) (by decide) rfl rfl rfl (pa_cons (pe_lst pa_nil) (pa_cons (pv 0) (pa_cons pe_int pa_nil))) (by rfl))
      (pss_cons (ps_while PassesOwn.never (pt_cmpR op_le (pe_op op_mulW (pv 3) (pv 3)) (pv 2) (nomark _))
        (pss_cons (ps_if (pt_cmpR op_eq (pe_op op_mod (pe_callTy call_int1 (by rfl) B.int (by decide +kernel) (pa_cons (pv 2) pa_nil)) (pv 3)) pe_int (nomark _)) (pss_cons (ps_expr (pe_bm PySem.F.plainAttrs_list PySem.F.slot_list_append PySem.F.type_list_append mt_append (pv 1) (pa_cons (pv 3) pa_nil)))
          (pss_one (ps_while PassesOwn.never (pt_cmpR op_eq (pe_op op_mod (pe_callTy call_int1 (by rfl) B.int (by decide +kernel) (pa_cons (pv 2) pa_nil)) (pv 3)) pe_int (nomark _))
            (pss_one (ps_set (i := 2) scLp.nd rfl (.inl rfl) (pe_op op_fdivW (pv 2) (pv 3))))))) pss_nil)
        (pss_one (ps_set (i := 3) scLp.nd rfl (.inl rfl) (pe_op op_add (pv 3) pe_int)))))
      (pss_one (ps_ret (pe_op op_cat (pv 1) (pe_ifExp (pt_cmpR op_gt (pv 2) pe_int (nomark _)) (pe_lst (pa_cons (pv 2) pa_nil)) (pe_lst pa_nil)))))), ?_⟩
    refine ⟨by show 0 ≤ sizeLine; decide, fun c nc => ⟨.int m, rfl, _, _, _, rfl, ?_⟩⟩
    have s1 := same_new (o := .lst []) nc
    have hc : upd H c (.lst []) c = some (.lst []) := upd_same
    generalize upd H c (.lst []) = H1 at s1 hc
    refine while_by (fun σ G => ∃ (ps : List Nat) (l p : Nat), σ = [some (.int m), some (.ref c), some (.int l), some (.int p)] ∧ Same H G ∧ G c = some (.lst (ps.map fun x : Nat => V.int (x : Int))) ∧ 2 ≤ p ∧ p ≤ m + 2 ∧ 0 < l ∧ l ∣ m ∧ (∀ x ∈ ps, 2 ≤ x ∧ x ∣ m) ∧ 2 ^ ps.length * l ≤ m)
      (fun σ _ => match σ with | [_, _, _, some (.int p)] => m + 3 - p.toNat | _ => 0) ⟨[], m, 2, rfl, s1, hc, by decide, by omega, hm0, Nat.dvd_refl m, (fun _ h => nomatch h), by simp⟩ ?_ (mono_test (mono_op (mono_rI0 _) (mono_op (mono_rI _ _) (mono_var 3) (mono_var 3)) (mono_var 2)))
    rintro σ G ⟨ps, l, p, rfl, sG, hG, p2, pm, l0, ld, hps, hpl⟩
    have hlm := Nat.le_of_dvd hm0 ld
    have hpb : p < 2 ^ 2001 := by
      have : 2 ^ 2001 = 2 ^ 2000 + 2 ^ 2000 := by rw [Nat.pow_succ]; omega
      have h2 : 2 ≤ 2 ^ 2000 := Nat.le_trans (by decide : 2 ≤ 2 ^ 1) (Nat.pow_le_pow_right (by decide) (by decide))
      omega
    have hlen : ps.length ≤ 2000 := by
      apply Classical.byContradiction
      intro hno
      have h1 : 2 ^ 2000 ≤ 2 ^ ps.length := Nat.pow_le_pow_right (by decide) (by omega)
      have h2 : 2 ^ ps.length ≤ 2 ^ ps.length * l := Nat.le_mul_of_pos_right _ l0
      omega
    refine ⟨.int p, rfl, .int p, rfl, _, _, rfl, rfl, wide_mul (a := 2001) (b := 2001) (by rw [Int.natAbs_natCast]; exact hpb) (by rw [Int.natAbs_natCast]; exact hpb) (by decide) (by decide) (by decide), .int l, rfl, _, _, rfl, rfl, _, rfl, ?_⟩
    by_cases hpp : p * p ≤ l
    · have hpm : p ≤ m := Nat.le_trans (Nat.le_mul_of_pos_left p (by omega)) (Nat.le_trans hpp hlm)
      rw [decide_eq_true (show (p : Int) * (p : Int) ≤ (l : Int) by rw [← Int.natCast_mul]; omega)]
      refine iteT ⟨.int l, rfl, .inl ⟨_, rfl, .int p, rfl, _, _, rfl, rfl, by omega, rfl, _, rfl, ?_⟩⟩
      by_cases hd : l % p = 0
      · rw [decide_eq_true (show V.int ((l : Int) % (p : Int)) = V.int 0 by rw [← Int.natCast_emod, hd]; rfl)]
        refine iteT ⟨.ref c, rfl, .inl ⟨rfl, _, SqL.of hG⟩, .int p, rfl, c, _, .int p, rfl, rfl, hG, szl (by rw [List.length_map]; omega), ?_⟩
        have hc1 : upd G c (.lst ((ps.map fun x : Nat => V.int (x : Int)) ++ [.int p])) c = some (.lst ((ps ++ [p]).map fun x : Nat => V.int (x : Int))) := by rw [upd_same, List.map_append]; rfl
        have sG1 : Same H (upd G c (.lst ((ps.map fun x : Nat => V.int (x : Int)) ++ [.int p]))) := fun b o hb => by
          rw [upd_ne (ne_of_none hb nc)]
          exact sG _ _ hb
        generalize upd G c (.lst ((ps.map fun x : Nat => V.int (x : Int)) ++ [.int p])) = G1 at hc1 sG1
        have hpd : p ∣ m := Nat.dvd_trans (Nat.dvd_of_mod_eq_zero hd) ld
        try dsimp only [tNext]
        refine while_by (fun σ G2 => ∃ l2 : Nat, σ = [some (.int m), some (.ref c), some (.int l2), some (.int p)] ∧ G2 = G1 ∧ 0 < l2 ∧ l2 ∣ m ∧ (l2 = l ∨ 2 ^ (ps.length + 1) * l2 ≤ m)) (fun σ _ => match σ with | [_, _, some (.int l), _] => l.toNat | _ => 0) ⟨l, rfl, rfl, l0, ld, .inl rfl⟩ ?_ (mono_test (mono_op mono_eq (mono_op (mono_rI _ _) (mono_cb mono_int (mono_cons (mono_var 2) mono_nil)) (mono_var 3)) (mono_c _)))
        rintro σ G2 ⟨l2, rfl, rfl, g0, gd, gl⟩
        refine ⟨.int l2, rfl, .inl ⟨_, rfl, .int p, rfl, _, _, rfl, rfl, by omega, rfl, _, rfl, ?_⟩⟩
        by_cases hd2 : l2 % p = 0
        · rw [decide_eq_true (show V.int ((l2 : Int) % (p : Int)) = V.int 0 by rw [← Int.natCast_emod, hd2]; rfl)]
          have hpl2 : p ≤ l2 := Nat.le_of_dvd g0 (Nat.dvd_of_mod_eq_zero hd2)
          have hdv : l2 / p * p = l2 := Nat.div_mul_cancel (Nat.dvd_of_mod_eq_zero hd2)
          have hlt : l2 / p < l2 := Nat.div_lt_self g0 p2
          refine iteT ⟨.int l2, rfl, .int p, rfl, _, _, rfl, rfl, wide_div (b := 2001) (by omega) (by rw [Int.natAbs_natCast]; exact hpb) (by decide) (by decide), ⟨l2 / p, by show [_, _, some (V.int ((l2 : Int) / (p : Int))), _] = _; rw [← Int.natCast_ediv], rfl, Nat.div_pos hpl2 (by omega), Nat.dvd_trans ⟨p, hdv.symm⟩ gd, .inr ?_⟩, ?_⟩
          · rcases gl with gl | gl
            · have h3 : 2 * (l2 / p) ≤ l2 / p * p := by rw [Nat.mul_comm]; exact Nat.mul_le_mul_left _ p2
              rw [Nat.pow_succ, Nat.mul_assoc]
              refine Nat.le_trans (Nat.mul_le_mul_left _ (Nat.le_trans h3 (Nat.le_of_eq hdv))) ?_
              rw [gl]
              exact hpl
            · exact Nat.le_trans (Nat.mul_le_mul_left _ (Nat.le_of_lt hlt)) gl
          · show ((l2 : Int) / (p : Int)).toNat < ((l2 : Int)).toNat
            rw [← Int.natCast_ediv, Int.toNat_natCast, Int.toNat_natCast]
            exact hlt
        · rw [decide_eq_false (show ¬ V.int ((l2 : Int) % (p : Int)) = V.int 0 from fun z => by
            have z1 := V.int.inj z
            rw [← Int.natCast_emod] at z1
            omega)]
          have hg2 : 2 ^ (ps.length + 1) * l2 ≤ m := gl.resolve_left fun z => hd2 (by rw [z]; exact hd)
          refine iteF ⟨.int p, rfl, _, _, rfl, rfl, ⟨ps ++ [p], l2, p + 1, rfl, sG1, hc1, by omega, by omega, g0, gd, fun x hx => ?_, by rw [List.length_append]; exact hg2⟩, ?_⟩
          · rcases List.mem_append.mp hx with d | d
            · exact hps x d
            · rw [List.mem_singleton.mp d]
              exact ⟨p2, hpd⟩
          · show m + 3 - (((p : Int) + 1)).toNat < m + 3 - ((p : Int)).toNat
            omega
      · rw [decide_eq_false (show ¬ V.int ((l : Int) % (p : Int)) = V.int 0 from fun z => by
          have z1 := V.int.inj z
          rw [← Int.natCast_emod] at z1
          omega)]
        refine iteF ⟨.int p, rfl, _, _, rfl, rfl, ⟨ps, l, p + 1, rfl, sG, hG, by omega, by omega, l0, ld, hps, hpl⟩, ?_⟩
        show m + 3 - (((p : Int) + 1)).toNat < m + 3 - ((p : Int)).toNat
        omega
    · rw [decide_eq_false (show ¬ (p : Int) * (p : Int) ≤ (l : Int) by rw [← Int.natCast_mul]; omega)]
      refine iteF ?_
      try dsimp only [tNext]
      refine ⟨.ref c, rfl, .int l, rfl, _, _, rfl, rfl, _, rfl, ?_⟩
      by_cases hl1 : 1 < l
      · rw [decide_eq_true (show (1 : Int) < (l : Int) by omega)]
        refine iteT ⟨.int l, rfl, by show 1 ≤ sizeLine; decide, fun e ne => ?_⟩
        have se := same_new (o := .lst [.int (l : Int)]) ne
        refine ⟨c, e, _, _, rfl, rfl, se _ _ hG, upd_same, by rw [List.length_map, sizeLine_eq]; show _ + 1 ≤ _; omega, fun r nr => ?_⟩
        refine q _ r (ps ++ [l]) (sG.trans (se.trans (same_new nr))) (sG.free (se.free nr)) (by rw [upd_same, List.map_append]; rfl) (fun x hx => ?_) (by rw [List.length_append]; show _ + 1 ≤ _; omega)
        rcases List.mem_append.mp hx with d | d
        · exact hps x d
        · rw [List.mem_singleton.mp d]
          exact ⟨hl1, ld⟩
      · rw [decide_eq_false (show ¬ (1 : Int) < (l : Int) by omega)]
        refine iteF ⟨by show 0 ≤ sizeLine; decide, fun e ne => ?_⟩
        have se := same_new (o := .lst []) ne
        refine ⟨c, e, _, _, rfl, rfl, se _ _ hG, upd_same, by rw [List.length_map, sizeLine_eq]; show _ + 0 ≤ _; omega, fun r nr => ?_⟩
        exact q _ r ps (sG.trans (se.trans (same_new nr))) (sG.free (se.free nr)) (by rw [upd_same, List.append_nil]) hps (by omega)
end
end Kr
namespace Kr
open PySem PySem.Spec PyProof.Rows L2
/-! ### the least common multiple of all rounds -/
def stepC (a : Nat) (r : Rw) : Nat := if r.2.2 = 0 then Nat.lcm a r.2.1.length else a
theorem foldRow_tail (C : List Pr) : ∀ (L : List Rw) (a : Nat), (∀ r ∈ L, r.2.2 ≠ 0) → L.foldl stepC a = a
  | [], _, _ => rfl
  | r :: L, a, h => by
    rw [List.foldl_cons]
    have : stepC a r = a := by unfold stepC; rw [if_neg (h r List.mem_cons_self)]
    rw [this]
    exact foldRow_tail C L a fun x hx => h x (List.mem_cons_of_mem _ hx)
theorem foldRow (C : List Pr) (hC : 0 < C.length) (a : Nat) : (rowP C).foldl stepC a = Nat.lcm a C.length := by
  cases e : rowP C with
  | nil =>
    have : (rowP C).length = C.length := by unfold rowP; rw [List.length_map, List.length_zipIdx]
    rw [e] at this
    simp at this
    omega
  | cons r L =>
    have h0 := rowP_get (C := C) (i := 0)
    rw [e, List.getElem?_cons_zero, List.getElem?_eq_getElem hC] at h0
    have er : r = (C[0], C, 0) := Option.some.inj h0
    rw [List.foldl_cons, foldRow_tail C]
    · rw [er]
      rfl
    · intro x hx
      obtain ⟨i, hi⟩ := List.getElem?_of_mem hx
      have h1 := rowP_get (C := C) (i := i + 1)
      rw [e, List.getElem?_cons_succ, hi] at h1
      obtain ⟨p, _, ep⟩ := Option.map_eq_some_iff.mp h1.symm
      rw [← ep]
      exact Nat.succ_ne_zero i
theorem foldRows : ∀ (CL : List (List Pr)) (a : Nat), (∀ C ∈ CL, 0 < C.length) → (rowsOf CL).foldl stepC a = (CL.map List.length).foldl Nat.lcm a
  | [], _, _ => rfl
  | C :: CL, a, h => by
    have : rowsOf (C :: CL) = rowP C ++ rowsOf CL := by unfold rowsOf; rw [List.flatMap_cons]
    rw [this, List.foldl_append, foldRow C (h C List.mem_cons_self), foldRows CL _ fun x hx => h x (List.mem_cons_of_mem _ hx), List.map_cons, List.foldl_cons]
def spLeast : Sp := fun vs H Q _ => ∃ (n : Nat) (v : V) (T : List (List Int)), vs = [.int (n : Int), v] ∧ n ≤ 6 ∧ Dq H v (tabD T) ∧ TabOk n T ∧ ∀ H' (o : Nat), Same H H' → IsOrd n (stp n T) o → o < 2 ^ 110 → Q (.int (o : Int)) H'
theorem fold_at {CL : List (List Pr)} (h0 : ∀ C ∈ CL, 0 < C.length) : ∀ (L : List Rw), (∀ r ∈ L, r.2.1 ∈ CL) → ∀ a, 0 < a ∧ a ∣ bigN → (∀ C ∈ CL, C.length ≤ 192) → 0 < L.foldl stepC a ∧ L.foldl stepC a ∣ bigN
  | [], _, a, h, _ => h
  | r :: L, hL, a, h, hC => by
    rw [List.foldl_cons]
    refine fold_at h0 L (fun x hx => hL x (List.mem_cons_of_mem _ hx)) _ ?_ hC
    unfold stepC
    have hr := hL r List.mem_cons_self
    by_cases e : r.2.2 = 0
    · rw [if_pos e]
      exact ⟨Nat.lcm_pos h.1 (h0 _ hr), Nat.lcm_dvd h.2 (dvd_big (h0 _ hr) (hC _ hr))⟩
    · rw [if_neg e]
      exact h
section
variable {P : Program} {w : World} {K : PySem.W.Frag} {mg : Str → Option Value} {base : Heap}
abbrev nLl : List Str := ["n", "table", "least", "row", "spot"]
theorem o_lLeast (D0 : Df K mg "_law_least" sLLeast ["n", "table"]) (B : Bi mg) (lr : Ok P w K mg base 3 "_law_rounds" ["n", "table"] spRounds) (lc : Ok P w K mg base 1 "_law_common" ["one", "other"] spCommon) : Ok P w K mg base 4 "_law_least" ["n", "table"] spLeast := by
  have scLl : FnScope nLl ["n", "table"] (defScope sLLeast) := ⟨rfl, rfl, rfl, by decide +kernel, rfl, by decide +kernel, by decide +kernel⟩
  refine D0.ok fun f fd F => F.ok scLl (fun vs H Q E h => ?_) (fun cdv A outer s H vs Q E hr h => ?_)
  · obtain ⟨n, v, T, rfl, _⟩ := h
    rfl
  · obtain ⟨n, v, T, rfl, n1, hv, okT, q⟩ := h
    have hr1 := hr.mono (by decide : 1 ≤ 3)
    refine ⟨_, pss_cons (ps_set (i := 2) scLl.nd rfl (.inl rfl) pe_int)
      (pss_cons (ps_for PassesOwn.never rfl (pi_list (pe_callTy (call_list_vals rfl) (by rfl) B.list (by decide +kernel) (pa_cons (pe_bm0 PySem.F.plainAttrs_dict PySem.F.slot_dict_values PySem.F.type_dict_values mt_valuesT (pe_fn lr hr (by rfl) (pa_cons (pv 0) (pa_cons (pv 1) pa_nil)))) pa_nil))) (pg_tup rfl (pgs_cons (pg_name (i := 3) scLl.nd rfl (.inl rfl)) (pgs_cons (pg_name (i := 4) scLl.nd rfl (.inl rfl)) pgs_nil)))
        (pss_one (ps_set (i := 2) scLl.nd rfl (.inl rfl) (pe_ifExp (pt_cmpR op_eq (pv 4) pe_int (nomark _)) (pe_fn lc hr1 (by rfl) (pa_cons (pv 2) (pa_cons (pe_callB call_len_seq (by rfl) B.len boot_len (pa_cons (pv 3) pa_nil)) pa_nil))) (pv 2)))))
      (pss_one (ps_ret (pv 2)))), ?_⟩
    refine ⟨.int n, rfl, v, rfl, n, v, T, rfl, n1, hv, okT, fun H1 D kvs CL s1 nD hD rn rd nd hfl => ?_⟩
    refine ⟨.inr (.inr (.inl ⟨rfl, .inr ⟨kvs, hD⟩⟩)), D, kvs, rfl, rfl, hD, fun p np => ?_⟩
    have s2 := same_new (o := viewO "dict_values" p D) np
    have hp : upd H1 p (viewO "dict_values" p D) p = some (viewO "dict_values" p D) := upd_same
    have hD2 := s2 _ _ hD
    have rn2 := rn.up s2
    have s12 := s1.trans s2
    generalize upd H1 p (viewO "dict_values" p D) = H2 at s12 hp hD2 rn2
    refine ⟨p, D, kvs, rfl, hp, hD2, fun L nL => ?_⟩
    have s3 := same_new (o := .lst (kvs.map (·.2))) nL
    have hL : upd H2 L (.lst (kvs.map (·.2))) L = some (.lst (kvs.map (·.2))) := upd_same
    have rn3 := rn2.up s3
    have s13 := s12.trans s3
    generalize upd H2 L (.lst (kvs.map (·.2))) = H3 at s13 hL rn3
    clear s2 s3 hp hD2 rn rn2 np nL
    have hC0 : ∀ C ∈ CL, 0 < C.length := fun C hC => (rd.cyc C hC).ne
    have hC1 : ∀ C ∈ CL, C.length ≤ 192 := fun C hC => rd.len n1 hC
    have hrl : (rowsOf CL).length = kvs.length := by
      have h1 := congrArg List.length (rowsOf_fst CL)
      have h2 := congrArg List.length rn3.keys
      rw [List.length_map] at h1
      rw [List.length_map, List.length_map] at h2
      omega
    have hg : ∀ i, 0 < ((rowsOf CL).take i).foldl stepC 1 ∧ ((rowsOf CL).take i).foldl stepC 1 ∣ bigN := fun i => fold_at hC0 _ (fun r hr => (rowsOf_mem (List.mem_of_mem_take hr)).1) 1 ⟨Nat.one_pos, Nat.one_dvd _⟩ hC1
    refine ⟨L, rfl, ⟨_, SqL.of hL⟩, for_it (walk_list (K := K) (a := L) (xs := kvs.map (·.2))) (fun i σ G => ∃ v3 v4 : Option V, σ = [some (.int n), some v, some (.int ((((rowsOf CL).take i).foldl stepC 1 : Nat) : Int)), v3, v4] ∧ G = H3) ⟨_, _, rfl, rfl⟩ (fun i σ G _ ⟨_, _, _, e⟩ => by rw [e]; exact SqL.of hL) ?_ ?_⟩
    · rintro i x σ _ G hi ⟨v3, v4, rfl, rfl⟩ ⟨rfl, hx⟩
      obtain ⟨d, hd, hdq⟩ := rn3.vals.get hx
      rw [List.getElem?_map] at hd
      obtain ⟨r, hrr, rfl⟩ := Option.map_eq_some_iff.mp hd
      obtain ⟨a, ys, rfl, ha, qy⟩ := Dq.tup_inv hdq
      cases qy with
      | cons q1 qy =>
      cases qy with
      | cons q2 qy =>
      cases qy
      cases q2
      cases q1 with
      | @lst b xs _ hb qx =>
      have hxl : xs.length = r.2.1.length := by rw [qx.len, List.length_map]
      obtain ⟨m1, m2⟩ := rowsOf_mem (List.mem_of_getElem? hrr)
      obtain ⟨g0, g1⟩ := hg i
      have hgb : ((rowsOf CL).take i).foldl stepC 1 < 2 ^ 4000 := by
        refine Nat.lt_of_le_of_lt (Nat.le_of_dvd bigN_pos g1) ?_
        decide +kernel
      have et : ((rowsOf CL).take (i + 1)).foldl stepC 1 = stepC (((rowsOf CL).take i).foldl stepC 1) r := by
        rw [List.take_add_one, hrr, List.foldl_append]
        rfl
      refine ⟨a, [.ref b, .int (r.2.2 : Nat)], rfl, SqT.of ha, rfl, .ref b, [.int (r.2.2 : Nat)], rfl, .int (r.2.2 : Nat), [], rfl, rfl, ?_⟩
      refine ⟨.int (r.2.2 : Nat), rfl, rfl, _, rfl, ?_⟩
      by_cases e0 : r.2.2 = 0
      · rw [decide_eq_true (show V.int ((r.2.2 : Nat) : Int) = V.int 0 by rw [e0]; rfl)]
        refine iteT ⟨_, rfl, .ref b, rfl, b, xs, rfl, .inl (SqL.of hb), ((rowsOf CL).take i).foldl stepC 1, xs.length, rfl, g0, by rw [hxl]; exact hC0 _ m1, hgb, by rw [hxl]; exact Nat.lt_of_le_of_lt (hC1 _ m1) (Nat.lt_of_lt_of_le (by decide : 192 < 2 ^ 8) (Nat.pow_le_pow_right (by decide) (by decide))), some (.ref b), some (.int (r.2.2 : Nat)), ?_, rfl⟩
        rw [et]
        unfold stepC
        rw [if_pos e0, hxl]
        rfl
      · rw [decide_eq_false (show ¬ V.int ((r.2.2 : Nat) : Int) = V.int 0 from fun z => e0 (by have := V.int.inj z; omega))]
        refine iteF ⟨_, rfl, some (.ref b), some (.int (r.2.2 : Nat)), ?_, rfl⟩
        rw [et]
        unfold stepC
        rw [if_neg e0]
        rfl
    · rintro σ G ⟨v3, v4, rfl, rfl⟩
      rw [List.length_map, ← hrl, List.take_length, foldRows CL 1 hC0]
      exact ⟨_, rfl, q _ _ s13 rd.ord (rd.ord_lt n1 hfl)⟩
end
end Kr
namespace Kr
open PySem PySem.Spec PyProof.Rows L2
theorem Rounds.fl {n : Nat} {S : Pr → Pr} {CL : List (List Pr)} (h : Rounds n S CL) {p : Pr} (hp : p ∈ prs n) : p ∈ CL.flatten := List.mem_flatten.mpr (h.all p hp)
/-- behind, as far as some circles are done -/
structure BehP (n : Nat) (f : Pr → Pr) (H : Hp) (L : List Pr) (kvs : List (List Key × V)) : Prop where
  keys : ∀ kv ∈ kvs, ∃ p ∈ prs n, kv.1 = pK p
  val : ∀ p ∈ L, ∃ a, valV kvs (pK p) = some (.ref a) ∧ H a = some (.tup (pV (f p)))
theorem BehP.up {n : Nat} {f : Pr → Pr} {H H' : Hp} {L : List Pr} {kvs : List (List Key × V)} (h : BehP n f H L kvs) (s : TS H H') : BehP n f H' L kvs := ⟨h.keys, fun p hp => let ⟨a, x, y⟩ := h.val p hp; ⟨a, x, s _ _ y⟩⟩
theorem BehP.put {n : Nat} {f : Pr → Pr} {H : Hp} {L : List Pr} {kvs : List (List Key × V)} {p : Pr} {a : Addr} (h : BehP n f H L kvs) (hp : p ∈ prs n) (ha : H a = some (.tup (pV (f p)))) : BehP n f H (L ++ [p]) (putK kvs (pK p) (.ref a)) := by
  refine ⟨putK_keys (P := fun k => ∃ p ∈ prs n, k = pK p) h.keys ⟨p, hp, rfl⟩, fun q hq => ?_⟩
  rw [valV_put]
  by_cases e : q = p
  · subst e
    rw [if_pos rfl]
    exact ⟨a, rfl, ha⟩
  · rw [if_neg fun z => e (pK_inj z)]
    rcases List.mem_append.mp hq with c | c
    · exact h.val q c
    · exact absurd (List.mem_singleton.mp c) e
theorem flat_takeC {α : Type} {L : List (List α)} {i : Nat} {C : List α} (h : L[i]? = some C) : (L.take (i + 1)).flatten = (L.take i).flatten ++ C := by
  rw [List.take_add_one, h, List.flatten_append]
  simp
section
variable {P : Program} {w : World} {K : PySem.W.Frag} {mg : Str → Option Value} {base : Heap}
abbrev nPo : List Str := ["n", "table", "k", "behind", "circle", "spot", "pair", "number"]
theorem f_power {f : Addr} {fd : FuncData} (F : Fun K "power" "power" sPower f fd) (B : Bi mg) (ci : Ok P w K mg base 6 "_circles" ["n", "table"] spCircles) (eo : Ok P w K mg base 1 "_entry_of" ["n", "number", "behind"] spEntOf) : FnOk P w K mg base CX0 7 f fd ["n", "table", "k"] spPower := by
  have scPo : FnScope nPo ["n", "table", "k"] (defScope sPower) := ⟨rfl, rfl, rfl, by decide +kernel, rfl, by decide +kernel, by decide +kernel⟩
  refine F.ok scPo (fun vs H Q E h => ?_) (fun cdv A outer s H vs Q E hr h => ?_)
  · obtain ⟨n, v, T, k, rfl, _⟩ := h
    rfl
  · obtain ⟨n, v, T, k, rfl, n1, hv, okT, q⟩ := h
    have hu1 := hu_of hr
    have hr1 := hr.mono (by decide : 1 ≤ 6)
    refine ⟨_, pss_cons (ps_set (i := 3) scPo.nd rfl (.inr rfl) pe_dnewT)
      (pss_cons (ps_for PassesOwn.never rfl (pi_list (pe_fn ci hr (by rfl) (pa_cons (pv 0) (pa_cons (pv 1) pa_nil)))) (pg_name (i := 4) scPo.nd rfl (.inl rfl))
        (pss_one (ps_for PassesOwn.never rfl (pi_enum (by rfl) B.enumerate (pa_cons (pv 4) pa_nil)) (pg_tup rfl (pgs_cons (pg_name (i := 5) scPo.nd rfl (.inl rfl)) (pgs_cons (pg_name (i := 6) scPo.nd rfl (.inl rfl)) pgs_nil)))
          (pss_one (ps_dput hu1 (pv 3) (pv 6) (pe_ix ix_list (pv 4) (pe_op op_mod (pe_op op_add (pv 5) (pv 2)) (pe_callB call_len_seq (by rfl) B.len boot_len (pa_cons (pv 4) pa_nil))) (fun _ _ => rfl)) rfl)))))
      (pss_one (ps_ret (pe_callTy call_tuple_of (by rfl) B.tuple (by decide +kernel) (pa_cons (pe_lc (own := [("number", 7)]) (g := gName 7) (tt := tYes) rfl scPo.nd (pi_range1 (by rfl) B.range (pa_cons (pe_callB call_len_seq (by rfl) B.len boot_len (pa_cons (pv 1) pa_nil)) pa_nil)) (blkOk_by (own := [("number", 7)]) (N := nPo) (sc := defScope sPower) (by decide +kernel)) (fun _ _ _ _ _ => pg_name (i := 7) scPo.nd rfl (.inl rfl)) (fun _ _ _ _ _ => pts_nil) (fun _ _ _ _ _ => (pe_fn eo hr1 (by rfl) (pa_cons (pv 0) (pa_cons (pv 7) (pa_cons (pv 3) pa_nil)))))) pa_nil))))), ?_⟩
    refine fun D nD => ?_
    have s0 := same_new (o := .dT []) nD
    have hD : upd H D (.dT []) D = some (.dT []) := upd_same
    have hv0 := hv.up s0
    have nf : ∀ b o, H b = some o → b ≠ D := fun b o hb => ne_of_none hb nD
    generalize upd H D (.dT []) = H0 at s0 hD hv0
    refine ⟨.int n, rfl, v, rfl, n, v, T, rfl, n1, hv0, okT, fun H1 c cs CL s1 nc hc qcs rd hcl _ => ?_⟩
    have hsl : cs.length = CL.length := by rw [qcs.len, List.length_map]
    have hD1 := s1 _ _ hD
    have ncD : c ≠ D := fun z => by rw [z, hD] at nc; cases nc
    have hlen : ∀ C ∈ CL, C.length ≤ 192 := fun C hC => rd.len n1 hC
    refine ⟨c, rfl, ⟨_, SqL.of hc⟩, for_it (walk_list (K := K) (a := c) (xs := cs)) (fun i σ G => ∃ (v4 v5 v6 : Option V) (kvs : List (List Key × V)), σ = [some (.int n), some v, some (.int k), some (.ref D), v4, v5, v6, none] ∧ (∀ b o, b ≠ D → H1 b = some o → G b = some o) ∧ G D = some (.dT kvs) ∧ kvs.length ≤ 192 * i ∧ BehP n (powS (stp n T) k) G (CL.take i).flatten kvs)
      ⟨_, _, _, [], rfl, fun _ _ _ h => h, hD1, Nat.zero_le _, ⟨(fun _ h => nomatch h), (fun _ h => nomatch h)⟩⟩ (fun i σ G _ ⟨_, _, _, _, _, k, _⟩ => SqL.of (k _ _ ncD hc)) ?_ ?_⟩
    · rintro i x σ _ G hi ⟨v4, v5, v6, kvs, rfl, kG, hG, hkl, beh⟩ ⟨rfl, hx⟩
      obtain ⟨d, hd, hdq⟩ := qcs.get hx
      rw [List.getElem?_map] at hd
      cases hC : CL[i]? with
      | none => rw [hC] at hd; cases hd
      | some C =>
        rw [hC] at hd
        cases hd
        cases hdq with
        | @lst ca xs _ hca qx =>
        have hCm := List.mem_of_getElem? hC
        have hxl : xs.length = C.length := by rw [qx.len, List.length_map]
        have hCl := hlen C hCm
        have cy := rd.cyc C hCm
        have hcD : ca ≠ D := fun z => by
          rw [z, hD1] at hca
          cases hca
        have hi2 : i < 1000 := by omega
        refine ⟨.ref ca, rfl, ca, xs, rfl, SqL.of (kG _ _ hcD hca), for_it walk_enum (fun j σ G2 => ∃ (v5 v6 : Option V) (kvs : List (List Key × V)), σ = [some (.int n), some v, some (.int k), some (.ref D), some (.ref ca), v5, v6, none] ∧ (∀ b o, b ≠ D → H1 b = some o → G2 b = some o) ∧ G2 D = some (.dT kvs) ∧ kvs.length ≤ 192 * i + j ∧ BehP n (powS (stp n T) k) G2 ((CL.take i).flatten ++ C.take j) kvs)
          ⟨_, _, kvs, rfl, kG, hG, by omega, by rw [List.take_zero, List.append_nil]; exact beh⟩ (fun j σ G2 _ ⟨_, _, _, _, k2, _⟩ => SqL.of (k2 _ _ hcD hca)) ?_ ?_⟩
        · rintro j _ σ G2 _ hj ⟨v5, v6, kvs, rfl, k2, hG2, hkl2, beh2⟩ ⟨t, x, y, rfl, nt, rfl, e1, e2⟩
          cases Option.some.inj e1
          obtain ⟨p, hp, a0, rfl, ha0⟩ := pD_get qx e2
          have hpp : p ∈ prs n := rd.sub C hCm p (List.mem_of_getElem? hp)
          have st := same_new (o := .tup [.int (j : Nat), .ref a0]) nt
          refine ⟨t, [.int (j : Nat), .ref a0], rfl, SqT.of upd_same, rfl, .int (j : Nat), [.ref a0], rfl, .ref a0, [], rfl, rfl, ?_⟩
          have hpow := cy.pow hCl hp k
          have hm0 : 0 ≤ ((j : Int) + k) % (C.length : Int) := Int.emod_nonneg _ (by have := cy.ne; omega)
          obtain ⟨m, hm⟩ : ∃ m : Nat, ((j : Int) + k) % (C.length : Int) = m := ⟨_, (Int.toNat_of_nonneg hm0).symm⟩
          rw [hm, Int.toNat_natCast] at hpow
          obtain ⟨w1, hw1⟩ : ∃ w1, xs[m]? = some w1 := ⟨_, List.getElem?_eq_getElem (by rw [hxl]; exact (List.getElem?_eq_some_iff.mp hpow).1)⟩
          obtain ⟨p', hp', a1, rfl, ha1⟩ := pD_get qx hw1
          rw [hpow] at hp'
          cases Option.some.inj hp'
          have k3 : ∀ b o, b ≠ D → H1 b = some o → upd G2 t (.tup [.int (j : Nat), .ref a0]) b = some o := fun b o h1 h2 => st _ _ (k2 _ _ h1 h2)
          have hG3 := st _ _ hG2
          have beh3 := beh2.up (TS.of st)
          generalize upd G2 t (.tup [.int (j : Nat), .ref a0]) = G3 at k3 hG3 beh3
          have na0 : a0 ≠ D := ne_of ha0 hD1 (by intro z; cases z)
          have na1 : a1 ≠ D := ne_of ha1 hD1 (by intro z; cases z)
          refine ⟨.ref ca, rfl, .int j, rfl, .int k, rfl, _, _, rfl, rfl, .ref ca, rfl, ca, xs, rfl, .inl (SqL.of (k3 _ _ hcD hca)), _, _, rfl, rfl, by have := cy.ne; omega, ca, xs, m, _, rfl, by rw [hxl]; exact congrArg V.int hm, SqL.of (k3 _ _ hcD hca), atI_nat hw1, ?_⟩
          refine ⟨.ref D, rfl, .ref a0, rfl, D, _, rfl, DPut.t (k := pK p) hG3 (k3 _ _ na0 ha0) ?_, ?_⟩
          · rw [sizeLine_eq]
            omega
          · have ts : TS G3 (upd G3 D (.dT (putK kvs (pK p) (.ref a1)))) := fun b ys hb => by
              rw [upd_ne (ne_of hb hG3 (by intro z; cases z))]
              exact hb
            have hlp := length_putK kvs (pK p) (V.ref a1)
            refine ⟨_, _, putK kvs (pK p) (.ref a1), rfl, fun b o h1 h2 => by rw [upd_ne h1]; exact k3 _ _ h1 h2, upd_same, by omega, ?_⟩
            rw [List.take_add_one, hp, ← List.append_assoc]
            exact (beh3.put hpp (k3 _ _ na1 ha1)).up ts
        · rintro σ G2 ⟨v5, v6, kvs, rfl, k2, hG2, hkl2, beh2⟩
          rw [hxl, List.take_length, ← flat_takeC hC] at beh2
          exact ⟨_, _, _, kvs, rfl, k2, hG2, by omega, beh2⟩
    · rintro σ G ⟨v4, v5, v6, kvs, rfl, kG, hG, hkl, beh⟩
      have beh0 : BehAt n (powS (stp n T) k) G kvs := ⟨beh.keys, fun p hp => beh.val p (by rw [hsl, List.take_length]; exact rd.fl hp)⟩
      have sHG : Same H G := fun b o hb => kG _ _ (nf _ _ hb) (s1 _ _ (s0 _ _ hb))
      obtain ⟨va, es, rfl, hva, qe⟩ := Dq.tup_inv (hv.up sHG)
      have hTl := okT.len n1
      have hel : es.length = 2 ^ n := by rw [qe.len, List.length_map, hTl]
      have hp64 : 2 ^ n ≤ 64 := by have := all_few n (by omega); rw [all_len n (by omega)] at this; exact this
      refine ⟨.ref va, rfl, va, es, rfl, .inr (SqT.of hva), (es.length : Int), rfl, by omega, by omega, fun W nW => ?_⟩
      rw [Int.toNat_natCast, hel]
      refine lc_itF (walk_rg (n := 2 ^ n)) (fun i => entD (rowF n (fun p => (powS (stp n T) k p).2) i)) nW (by omega) (fun _ _ => ent_flat _) (fun _ _ => trivial) (fun x y G1 G' C Cn hx s2 hy c => ?_) (fun G1 bs s2 hW qb => ?_)
      · obtain ⟨rfl, rfl⟩ := hy
        refine ⟨rfl, ?_⟩
        dsimp only [tYes]
        rw [if_pos rfl]
        refine ⟨.int n, rfl, .int x, rfl, .ref D, rfl, n, x, D, kvs, powS (stp n T) k, rfl, n1, s2 _ _ hG, beh0.up (TS.of s2), fun H' t s3 ht => ?_⟩
        exact c _ _ s3 (ent_at ht)
      · refine ⟨W, _, rfl, .inl ⟨SqL.of hW, fun t nt => q _ _ (sHG.trans (s2.trans (same_new nt))) ?_⟩⟩
        exact .tup upd_same (by rw [show (powT n T k).map entD = _ from List.map_map ..]; exact qb.up (same_new nt))
end
end Kr
namespace Kr
open PySem PySem.Spec PyProof.Rows L2
/-- a row of behind, done up to a place -/
def rowX (n : Nat) (f : Pr → Nat) (i x : Nat) : List Int := (List.range n).map fun y => if y < x ∧ (i, y) ∈ prs n then (f (i, y) : Int) else -1
theorem rowX_len (n : Nat) (f : Pr → Nat) (i x : Nat) : (rowX n f i x).length = n := by unfold rowX; rw [List.length_map, List.length_range]
theorem rowX_zero (n : Nat) (f : Pr → Nat) (i : Nat) : rowX n f i 0 = List.replicate n (-1) := by
  unfold rowX
  refine List.eq_replicate_iff.mpr ⟨by rw [List.length_map, List.length_range], fun y hy => ?_⟩
  obtain ⟨z, _, rfl⟩ := List.mem_map.mp hy
  rw [if_neg fun h => Nat.not_lt_zero _ h.1]
theorem rowX_end (n : Nat) (f : Pr → Nat) (i : Nat) : rowX n f i n = rowF n f i := by
  unfold rowX rowF
  refine List.map_congr_left fun y hy => ?_
  by_cases c : (i, y) ∈ prs n
  · rw [if_pos ⟨List.mem_range.mp hy, c⟩, if_pos c]
  · rw [if_neg fun h => c h.2, if_neg c]
theorem rowX_out {n : Nat} {f : Pr → Nat} {i x : Nat} (h : (i, x) ∉ prs n) : rowX n f i (x + 1) = rowX n f i x := by
  unfold rowX
  refine List.map_congr_left fun y hy => ?_
  by_cases c : (i, y) ∈ prs n
  · have hne : y ≠ x := fun z => h (z ▸ c)
    by_cases d : y < x
    · rw [if_pos ⟨by omega, c⟩, if_pos ⟨d, c⟩]
    · rw [if_neg fun z => by omega, if_neg fun z => d z.1]
  · rw [if_neg fun z => c z.2, if_neg fun z => c z.2]
theorem rowX_in {n : Nat} {f : Pr → Nat} {i x : Nat} (h : (i, x) ∈ prs n) : (rowX n f i x).set x (f (i, x) : Int) = rowX n f i (x + 1) := by
  refine List.ext_getElem? fun y => ?_
  rw [List.getElem?_set]
  unfold rowX
  rw [List.length_map, List.length_range, List.getElem?_map, List.getElem?_map]
  by_cases hy : y < n
  · rw [List.getElem?_range hy]
    by_cases e : x = y
    · subst e
      rw [if_pos rfl, if_pos hy]
      show _ = some (if _ then _ else _)
      rw [if_pos ⟨Nat.lt_succ_self _, h⟩]
    · rw [if_neg e]
      show some (if _ then _ else _) = some (if _ then _ else _)
      by_cases c : (i, y) ∈ prs n
      · by_cases d : y < x
        · rw [if_pos ⟨d, c⟩, if_pos ⟨by omega, c⟩]
        · rw [if_neg fun z => d z.1, if_neg fun z => by omega]
      · rw [if_neg fun z => c z.2, if_neg fun z => c z.2]
  · rw [List.getElem?_eq_none (by rw [List.length_range]; omega)]
    by_cases e : x = y
    · rw [if_pos e, if_neg (by omega)]
      rfl
    · rw [if_neg e]
      rfl
theorem powT_take {n : Nat} (T : List (List Int)) (k : Int) {i : Nat} (h : i < 2 ^ n) : (powT n T k).take (i + 1) = (powT n T k).take i ++ [rowF n (fun p => (powS (stp n T) k p).2) i] := by
  rw [List.take_add_one]
  have : (powT n T k)[i]? = some (rowF n (fun p => (powS (stp n T) k p).2) i) := by
    unfold powT tabF
    rw [List.getElem?_map, List.getElem?_range h]
    rfl
  rw [this]
  rfl
theorem powT_len {n : Nat} (T : List (List Int)) (k : Int) : (powT n T k).length = 2 ^ n := by unfold powT tabF; rw [List.length_map, List.length_range]
section
variable {P : Program} {w : World} {K : PySem.W.Frag} {mg : Str → Option Value} {base : Heap}
abbrev nLof : List Str := ["n", "table", "many", "found", "told", "number", "keys", "entry", "x", "row", "spot"]
theorem o_lOften (D0 : Df K mg "_law_often" sLOften ["n", "table", "many"]) (B : Bi mg) (ev : Ok P w K mg base 1 "_law_every" ["n"] spEvery) (lr : Ok P w K mg base 3 "_law_rounds" ["n", "table"] spRounds) : Ok P w K mg base 4 "_law_often" ["n", "table", "many"] spPower := by
  have scLo : FnScope nLof ["n", "table", "many"] (defScope sLOften) := ⟨rfl, rfl, rfl, by decide +kernel, rfl, by decide +kernel, by decide +kernel⟩
  refine D0.ok fun f fd F => F.ok scLo (fun vs H Q E h => ?_) (fun cdv A outer s H vs Q E hr h => ?_)
  · obtain ⟨n, v, T, k, rfl, _⟩ := h
    rfl
  · obtain ⟨n, v, T, k, rfl, n1, hv, okT, q⟩ := h
    have hu1 := hu_of hr
    have hr1 := hr.mono (by decide : 1 ≤ 3)
    refine ⟨_, pss_cons (ps_par (i := 3) (j := 4) rfl scLo.nd rfl rfl (by decide) rfl rfl (pa_cons (pe_fn lr hr (by rfl) (pa_cons (pv 0) (pa_cons (pv 1) pa_nil))) (pa_cons (pe_lst pa_nil) pa_nil)) (by rfl))
      (pss_cons (ps_for PassesOwn.never rfl (pi_enum (by rfl) B.enumerate (pa_cons (pe_fn ev hr1 (by rfl) (pa_cons (pv 0) pa_nil)) pa_nil)) (pg_tup rfl (pgs_cons (pg_name (i := 5) scLo.nd rfl (.inl rfl)) (pgs_cons (pg_name (i := 6) scLo.nd rfl (.inl rfl)) pgs_nil)))
        (pss_cons (ps_set (i := 7) scLo.nd rfl (.inl rfl) (pe_op op_rep (pe_lst (pa_cons (pe_un un_neg pe_int) pa_nil)) (pv 0)))
        (pss_cons (ps_for PassesOwn.never rfl (pi_range1 (by rfl) B.range (pa_cons (pv 0) pa_nil)) (pg_name (i := 8) scLo.nd rfl (.inl rfl))
          (pss_one (ps_if (pt_cmpR (r := rIn K true) op_notIn_seq (pv 8) (pv 6) rfl) (pss_cons (ps_asg (pe_dget hu1 (pv 3) (pe_tup (pa_cons (pv 5) (pa_cons (pv 8) pa_nil))) (fun _ _ => rfl)) (pg_tup rfl (pgs_cons (pg_name (i := 9) scLo.nd rfl (.inl rfl)) (pgs_cons (pg_name (i := 10) scLo.nd rfl (.inl rfl)) pgs_nil))))
            (pss_one (ps_asg (pe_ix ix_tup (pe_ix ix_list (pv 9) (pe_op op_mod (pe_callTy call_int1 (by rfl) B.int (by decide +kernel) (pa_cons (pe_op op_add (pv 10) (pv 2)) pa_nil)) (pe_callB call_len_seq (by rfl) B.len boot_len (pa_cons (pv 9) pa_nil))) (fun _ _ => rfl)) pe_int (fun _ _ => rfl)) (pg_sub (pv 7) (pv 8) set_list)))) pss_nil)))
        (pss_one (ps_expr (pe_bm PySem.F.plainAttrs_list PySem.F.slot_list_append PySem.F.type_list_append mt_append (pv 4) (pa_cons (pe_callTy call_tuple_of (by rfl) B.tuple (by decide +kernel) (pa_cons (pv 7) pa_nil)) pa_nil)))))))
      (pss_one (ps_ret (pe_callTy call_tuple_of (by rfl) B.tuple (by decide +kernel) (pa_cons (pv 4) pa_nil))))), ?_⟩
    refine ⟨.int n, rfl, v, rfl, n, v, T, rfl, n1, hv, okT, fun H1 D kvs CL s1 nD hD rn rd nd hfl => ?_⟩
    refine ⟨by show 0 ≤ sizeLine; decide, fun t nt => ⟨_, _, rfl, ?_⟩⟩
    have st := same_new (o := .lst []) nt
    have ht : upd H1 t (.lst []) t = some (.lst []) := upd_same
    have hD1 := st _ _ hD
    have rn1 := rn.up st
    have nf : ∀ b o, H b = some o → b ≠ t := fun b o hb => ne_of_none (s1 _ _ hb) nt
    have s01 := s1.trans st
    generalize upd H1 t (.lst []) = H2 at ht hD1 rn1 s01
    clear st hD rn nt
    try dsimp only [tNext]
    refine ⟨.int n, rfl, n, rfl, n1, fun H3 ve s3 hve => ?_⟩
    cases hve with
    | @lst ea es _ hea qe =>
    have hp64 : 2 ^ n ≤ 64 := by have := all_few n (by omega); rw [all_len n (by omega)] at this; exact this
    have hel : es.length = 2 ^ n := by rw [qe.len, List.length_map, all_len n (by omega)]
    have ht3 := s3 _ _ ht
    have hD3 := s3 _ _ hD1
    have rn3 := rn1.up s3
    have nea : ea ≠ t := fun z => by
      rw [z, ht3] at hea
      cases hea
      rw [List.length_nil] at hel
      have : 0 < 2 ^ n := Nat.pow_pos (by decide)
      omega
    have nDt : D ≠ t := ne_of hD3 ht3 (by intro z; cases z)
    have s03 := s01.trans s3
    refine ⟨ea, es, rfl, SqL.of hea, for_it walk_enum (fun i σ G => ∃ (v5 v6 v7 v8 v9 v10 : Option V) (acc : List V), σ = [some (.int n), some v, some (.int k), some (.ref D), some (.ref t), v5, v6, v7, v8, v9, v10] ∧ (∀ b o, b ≠ t → H3 b = some o → G b = some o) ∧ G t = some (.lst acc) ∧ DqA G acc (((powT n T k).take i).map entD))
      ⟨_, _, _, _, _, _, [], rfl, fun _ _ _ h => h, ht3, .nil⟩ (fun i σ G _ ⟨_, _, _, _, _, _, _, _, k, _⟩ => SqL.of (k _ _ nea hea)) ?_ ?_⟩
    · rintro i _ σ G _ hi ⟨v5, v6, v7, v8, v9, v10, acc, rfl, kG, hG, qac⟩ ⟨tt, x, y, rfl, ntt, rfl, e1, e2⟩
      cases Option.some.inj e1
      have hi2 : i < 2 ^ n := by omega
      obtain ⟨l, hl, lb, rfl, hlb⟩ := lots_get qe e2
      have ell : l = lotI n i := by
        have := lot_get n1 hi2
        rw [hl] at this
        exact Option.some.inj this
      subst ell
      have nlb : lb ≠ t := ne_of hlb ht3 (by intro z; cases z)
      have stt := same_new (o := .tup [.int (i : Nat), .ref lb]) ntt
      refine ⟨tt, [.int (i : Nat), .ref lb], rfl, SqT.of upd_same, rfl, .int (i : Nat), [.ref lb], rfl, .ref lb, [], rfl, rfl, ?_⟩
      have kG1 : ∀ b o, b ≠ t → H3 b = some o → upd G tt (.tup [.int (i : Nat), .ref lb]) b = some o := fun b o h1 h2 => stt _ _ (kG _ _ h1 h2)
      have hG1 := stt _ _ hG
      have qac1 := qac.up stt
      generalize upd G tt (.tup [.int (i : Nat), .ref lb]) = G1 at kG1 hG1 qac1
      clear stt ntt kG hG qac
      refine ⟨1, rfl, by show 1 ≤ sizeLine; decide, fun l1 nl1 => ⟨.int n, rfl, l1, (n : Int), [.int (-1)], rfl, rfl, upd_same, by omega, by omega, by show 1 * _ ≤ sizeLine; exact sz (by omega), fun fo nfo => ?_⟩⟩
      have sl := (same_new (o := .lst [.int (-1)]) nl1).trans (same_new (o := .lst (List.replicate (n : Int).toNat [V.int (-1)]).flatten) nfo)
      have hfo : upd (upd G1 l1 (.lst [.int (-1)])) fo (.lst (List.replicate (n : Int).toNat [V.int (-1)]).flatten) fo = some (.lst ((rowX n (fun p => (powS (stp n T) k p).2) i 0).map V.int)) := by
        rw [upd_same, Int.toNat_natCast, rowX_zero, List.map_replicate]
        exact congrArg _ (congrArg _ (by
          have : ∀ (k : Nat), (List.replicate k [V.int (-1)]).flatten = List.replicate k (V.int (-1)) := fun k => by
            induction k with
            | zero => rfl
            | succ k ih => rw [List.replicate_succ, List.flatten_cons, ih]; rfl
          exact this n))
      have nff : ∀ b o, G1 b = some o → b ≠ fo := fun b o hb => ne_of_none (same_new (o := .lst [.int (-1)]) nl1 _ _ hb) nfo
      have kG2 : ∀ b o, b ≠ t → H3 b = some o → upd (upd G1 l1 (.lst [.int (-1)])) fo (.lst (List.replicate (n : Int).toNat [V.int (-1)]).flatten) b = some o := fun b o h1 h2 => sl _ _ (kG1 _ _ h1 h2)
      have hG2 := sl _ _ hG1
      have qac2 := qac1.up sl
      have nft : fo ≠ t := fun z => nff _ _ hG1 z.symm
      generalize upd (upd G1 l1 (.lst [.int (-1)])) fo (.lst (List.replicate (n : Int).toNat [V.int (-1)]).flatten) = G2 at hfo kG2 hG2 qac2
      clear sl nfo nl1
      try dsimp only [tNext]
      refine ⟨.int n, rfl, (n : Int), rfl, by omega, by omega, ?_⟩
      rw [Int.toNat_natCast]
      refine for_it (walk_rg (n := n)) (fun x σ G3 => ∃ v8 v9 v10 : Option V, σ = [some (.int n), some v, some (.int k), some (.ref D), some (.ref t), some (.int (i : Nat)), some (.ref lb), some (.ref fo), v8, v9, v10] ∧ (∀ b o, b ≠ fo → G2 b = some o → G3 b = some o) ∧ G3 fo = some (.lst ((rowX n (fun p => (powS (stp n T) k p).2) i x).map V.int)))
        ⟨_, _, _, rfl, fun _ _ _ h => h, hfo⟩ (fun _ _ _ _ _ => trivial) ?_ ?_
      · rintro x _ σ _ G3 hx ⟨v8, v9, v10, rfl, k3, hf3⟩ ⟨rfl, rfl⟩
        have kk : ∀ b o, b ≠ t → H3 b = some o → G3 b = some o := fun b o h1 h2 => k3 _ _ (nff _ _ (kG1 _ _ h1 h2)) (kG2 _ _ h1 h2)
        have hlb3 := kk _ _ nlb hlb
        refine ⟨.int x, rfl, .ref lb, rfl, lb, lv (lotI n i), rfl, .inr (SqT.of hlb3), rfl, lv_fl _, _, rfl, ?_⟩
        rw [inV_lot]
        by_cases hm : x ∈ lotI n i
        · rw [decide_eq_true hm]
          refine iteF ⟨_, _, _, rfl, k3, ?_⟩
          rw [rowX_out fun z => (mem_prs.mp z).2.2 hm]
          exact hf3
        · rw [decide_eq_false hm]
          have hpr : (i, x) ∈ prs n := mem_prs.mpr ⟨hi2, hx, hm⟩
          obtain ⟨a, r, xs, C, s, hva, ha, hr0, qx, hC, hCs⟩ := rn3.val (rd.fl hpr)
          have cy := rd.cyc C hC
          have hCl := rd.len n1 hC
          have hxl : xs.length = C.length := by rw [qx.len, List.length_map]
          have nat : a ≠ t := ne_of ha ht3 (by intro z; cases z)
          have nrt : r ≠ t := fun z => by
            rw [z, ht3] at hr0
            cases hr0
            have := cy.ne
            rw [← hxl] at this
            exact Nat.lt_irrefl _ this
          refine iteT ⟨.ref D, rfl, .int (i : Nat), rfl, .int x, rfl, by show 2 ≤ sizeLine; decide, fun c nc => ?_⟩
          have sc := same_new (o := .tup [.int (i : Nat), .int (x : Nat)]) nc
          have hc : upd G3 c (.tup [.int (i : Nat), .int (x : Nat)]) c = some (.tup ((pK (i, x)).map kV)) := upd_same
          have kc : ∀ b o, b ≠ t → H3 b = some o → upd G3 c (.tup [.int (i : Nat), .int (x : Nat)]) b = some o := fun b o h1 h2 => sc _ _ (kk _ _ h1 h2)
          have hf4 := sc _ _ hf3
          have k4 : ∀ b o, b ≠ fo → G2 b = some o → upd G3 c (.tup [.int (i : Nat), .int (x : Nat)]) b = some o := fun b o h1 h2 => sc _ _ (k3 _ _ h1 h2)
          generalize upd G3 c (.tup [.int (i : Nat), .int (x : Nat)]) = G4 at hc kc hf4 k4
          have hpow := cy.pow hCl hCs k
          have hm0 : 0 ≤ ((s : Int) + k) % (C.length : Int) := Int.emod_nonneg _ (by have := cy.ne; omega)
          obtain ⟨m, hm2⟩ : ∃ m : Nat, ((s : Int) + k) % (C.length : Int) = m := ⟨_, (Int.toNat_of_nonneg hm0).symm⟩
          rw [hm2, Int.toNat_natCast] at hpow
          obtain ⟨w1, hw1⟩ : ∃ w1, xs[m]? = some w1 := ⟨_, List.getElem?_eq_getElem (by rw [hxl]; exact (List.getElem?_eq_some_iff.mp hpow).1)⟩
          obtain ⟨p', hp', a1, rfl, ha1⟩ := pD_get qx hw1
          rw [hpow] at hp'
          cases Option.some.inj hp'
          have na1 : a1 ≠ t := ne_of ha1 ht3 (by intro z; cases z)
          refine ⟨D, .ref a, rfl, by rw [← hva]; exact DGet.t (kc _ _ nDt hD3) hc, a, [.ref r, .int (s : Nat)], rfl, SqT.of (kc _ _ nat ha), rfl, .ref r, [.int (s : Nat)], rfl, .int (s : Nat), [], rfl, rfl, ?_⟩
          try dsimp only [tNext]
          refine ⟨.ref r, rfl, .int (s : Nat), rfl, .int k, rfl, _, _, rfl, rfl, .inl ⟨_, rfl, .ref r, rfl, r, xs, rfl, .inl (SqL.of (kc _ _ nrt hr0)), _, _, rfl, rfl, by have := cy.ne; omega, r, xs, m, _, rfl, by rw [hxl]; exact congrArg V.int hm2, SqL.of (kc _ _ nrt hr0), atI_nat hw1, a1, _, ((1 : Nat) : Int), _, rfl, rfl, SqT.of (kc _ _ na1 ha1), atI_nat (j := 1) rfl, ?_⟩⟩
          refine ⟨.ref fo, rfl, .int x, rfl, fo, _, x, x, rfl, rfl, hf4, ixN_nat (by rw [List.length_map, rowX_len]; exact hx), _, _, _, rfl, fun b o h1 h2 => ?_, ?_⟩
          · rw [upd_ne h1]
            exact k4 _ _ h1 h2
          · rw [upd_same, ← rowX_in hpr, List.map_set]
      · rintro σ G3 ⟨v8, v9, v10, rfl, k3, hf3⟩
        rw [rowX_end] at hf3
        have hG3 := k3 _ _ nft.symm hG2
        have ts : TS G2 G3 := fun b ys hb => k3 _ _ (fun z => by
          rw [z, hfo] at hb
          cases hb) hb
        have qac3 := DqA.upT ts (ents_flat _) qac2
        refine ⟨.ref t, rfl, .inl ⟨rfl, _, SqL.of hG3⟩, .ref fo, rfl, fo, _, rfl, .inl ⟨SqL.of hf3, fun r nr => ?_⟩⟩
        have sr := same_new (o := .tup ((rowF n (fun p => (powS (stp n T) k p).2) i).map V.int)) nr
        have hr0 : upd G3 r (.tup ((rowF n (fun p => (powS (stp n T) k p).2) i).map V.int)) r = some (.tup ((rowF n (fun p => (powS (stp n T) k p).2) i).map V.int)) := upd_same
        have hG4 := sr _ _ hG3
        have acl : acc.length ≤ 2 ^ n := by
          rw [qac3.len, List.length_map, List.length_take, powT_len]
          exact Nat.min_le_right _ _
        refine ⟨t, acc, .ref r, rfl, rfl, hG4, szl (by omega), _, _, _, _, _, _, acc ++ [.ref r], rfl, fun b o h1 h2 => ?_, upd_same, ?_⟩
        · rw [upd_ne h1]
          exact sr _ _ (k3 _ _ (nff _ _ (kG1 _ _ h1 h2)) (kG2 _ _ h1 h2))
        · rw [powT_take T k hi2, List.map_append]
          have t5 : TS (upd G3 r (.tup ((rowF n (fun p => (powS (stp n T) k p).2) i).map V.int))) (upd (upd G3 r (.tup ((rowF n (fun p => (powS (stp n T) k p).2) i).map V.int))) t (.lst (acc ++ [.ref r]))) := TS.lst hG4
          exact dqa_snoc (DqA.upT t5 (ents_flat _) (qac3.up sr)) (ent_at (t5 _ _ hr0))
    · rintro σ G ⟨v5, v6, v7, v8, v9, v10, acc, rfl, kG, hG, qac⟩
      rw [hel, List.take_of_length_le (by rw [powT_len]; exact Nat.le_refl _)] at qac
      refine ⟨.ref t, rfl, t, _, rfl, .inl ⟨SqL.of hG, fun r nr => q _ _ (fun b o hb => same_new nr _ _ (kG _ _ (nf _ _ hb) (s03 _ _ hb))) (.tup upd_same (qac.up (same_new nr)))⟩⟩
end
end Kr
namespace Kr
open PySem PySem.Spec PyProof.Rows L2
theorem sum_cast : ∀ l : List Nat, (l.map fun (x : Nat) => (x : Int)).sum = ((l.sum : Nat) : Int)
  | [] => rfl
  | x :: l => by
    rw [List.map_cons, List.sum_cons, List.sum_cons, sum_cast l]
    omega
theorem comb_val {n k : Nat} (hn : n < 26) (hk : k < 27) {a b : Int} (ha : a = n) (hb : b = k) : PySem.W.mcComb a b = (ch n k : Int) := by
  rw [ha, hb]
  exact ch_tab n hn k hk
def spNum : Sp := fun vs H Q _ => ∃ (n : Nat) (a : Addr) (l : List Nat), vs = [.int (n : Int), .ref a] ∧ H a = some (.tup (lv l)) ∧ Asc 0 n l ∧ n ≤ 24 ∧ ∀ H', Same H H' → Q (.int (num n l : Nat)) H'
def spChoices : Sp := fun vs H Q _ => ∃ a b : Int, vs = [.int a, .int b] ∧ 0 ≤ a ∧ a < 1000 ∧ Q (.int (if 0 ≤ b then PySem.W.mcComb a b else 0)) H
def spKind : Sp := fun vs H Q _ => ∃ n k : Nat, vs = [.int (n : Int), .int (k : Int)] ∧ k + 2 ≤ n ∧ n ≤ 30 ∧ ∀ H' r, Same H H' → Dq H' r (rowD (kindR n k)) → Q r H'
theorem chB_val (a b : Int) : (if 0 ≤ b then PySem.W.mcComb a b else 0) % 2 = bi (chB a b) := by
  unfold chB
  by_cases h : 0 ≤ b
  · rw [if_pos h, if_pos h]
    have : PySem.W.mcComb a b % 2 = 0 ∨ PySem.W.mcComb a b % 2 = 1 := by omega
    rcases this with e | e <;> rw [e] <;> rfl
  · rw [if_neg h, if_neg h]
    rfl
/-! ### numbers of the lots of a size -/
def numsL (n s : Nat) : List Int := (List.range (ch n s)).map fun (j : Nat) => ((below n s + j : Nat) : Int)
def spNumsOf : Sp := fun vs H Q _ => ∃ n s : Nat, vs = [.int (n : Int), .int (s : Int)] ∧ n ≤ 6 ∧ s ≤ n ∧ ∀ H' p, Same H H' → H p = none → H' p = some (.lst ((numsL n s).map V.int)) → Q (.ref p) H'
theorem num_first : ∀ n : Nat, n < 7 → ∀ s : Nat, s < n + 1 → num n (List.range s) = below n s := by decide +kernel
theorem range_asc {n s : Nat} (h : s ≤ n) : Asc 0 n (List.range s) := ⟨List.pairwise_lt_range, fun x hx => by have := List.mem_range.mp hx; omega⟩
theorem below_lt : ∀ n : Nat, n < 7 → ∀ s : Nat, s < n + 1 → below n s + ch n s ≤ 2 ^ n := by decide +kernel
theorem nums_lots : ∀ n : Nat, n < 7 → ∀ s : Nat, s < n + 1 → (lotsL n s).map (num n) = (List.range (ch n s)).map fun j => below n s + j := by decide +kernel
end Kr
namespace Kr
open PySem PySem.Spec PyProof.Rows L2
/-! ### signs -/
/-- how many ahead of the j-th are greater -/
def invA (xs : List Int) (j : Nat) : Nat := (xs.take j).countP fun a => decide (xs.getD j 0 < a)
def invS (xs : List Int) (i : Nat) : Nat := ((List.range i).map (invA xs)).sum
def invN (xs : List Int) : Nat := invS xs xs.length
def oddN (k : Nat) : Bool := decide (k % 2 = 1)
def sgI (xs : List Int) : Bool := oddN (invN xs)
theorem invS_succ (xs : List Int) (i : Nat) : invS xs (i + 1) = invS xs i + invA xs i := by
  unfold invS
  rw [List.range_succ, List.map_append, List.sum_append]
  simp
theorem invA_le (xs : List Int) (i : Nat) : invA xs i ≤ i := by
  unfold invA
  refine Nat.le_trans List.countP_le_length ?_
  rw [List.length_take]
  omega
theorem invS_le (xs : List Int) : ∀ i m, i ≤ m → invS xs i ≤ i * m
  | 0, _, _ => by simp [invS]
  | i + 1, m, h => by
    have h1 := invS_le xs i m (by omega)
    have h2 := invA_le xs i
    rw [invS_succ, Nat.add_mul]
    omega
theorem odd_mod (k : Nat) : ((k : Int) % 2) = bi (oddN k) := by
  unfold oddN bi
  rcases Nat.mod_two_eq_zero_or_one k with h | h
  · rw [h]
    simp
    omega
  · rw [h]
    simp
    omega
theorem odd_add (a b : Nat) : oddN (a + b) = (oddN a ^^ oddN b) := by
  unfold oddN
  rcases Nat.mod_two_eq_zero_or_one a with h | h <;> rcases Nat.mod_two_eq_zero_or_one b with k | k <;> simp [Nat.add_mod, h, k]
theorem sum_ones (k : Nat) : (List.replicate k (1 : Int)).sum = (k : Int) := by
  induction k with
  | zero => rfl
  | succ k ih => rw [List.replicate_succ, List.sum_cons, ih]; omega
def spSign : Sp := fun vs H Q _ => ∃ (a : Addr) (xs : List Int), vs = [.ref a] ∧ H a = some (.lst (xs.map V.int)) ∧ xs.length ≤ 100 ∧ ∀ H', Same H H' → Q (.int (bi (sgI xs))) H'
/-- the riders of an entry -/
def ridE (e : List Int) : List Int := e.filter fun x => !decide (x = -1)
/-- the sign of the riders of entries, together -/
def sgR : List (List Int) → Bool
  | [] => false
  | e :: es => (sgI (ridE e) ^^ sgR es)
theorem sgR_sum : ∀ es : List (List Int), ((es.map fun e => bi (sgI (ridE e))).sum) % 2 = bi (sgR es)
  | [] => rfl
  | e :: es => by
    have ih := sgR_sum es
    rw [List.map_cons, List.sum_cons]
    show _ = bi (sgI (ridE e) ^^ sgR es)
    rw [← bi_sum, ← ih]
    omega
def spCarry : Sp := fun vs H Q _ => ∃ (a : Addr) (us : List V) (es : List (List Int)), vs = [.ref a] ∧ H a = some (.lst us) ∧ DqA H us (es.map entD) ∧ es.length ≤ 100 ∧ (∀ e ∈ es, e.length ≤ 100) ∧ ∀ H', Same H H' → Q (.int (bi (sgR es))) H'
/-- the row of a table -/
def sgT (n : Nat) (T : List (List Int)) : Row := (List.range (n + 1)).map fun s => (sgI ((lotsL n s).map fun l => ((num n (goalE n (en n T l)) : Nat) : Int)), sgR ((lotsL n s).map (en n T)))
def spSigns : Sp := fun vs H Q _ => ∃ (n : Nat) (v : V) (T : List (List Int)), vs = [.int (n : Int), v] ∧ n ≤ 6 ∧ Dq H v (tabD T) ∧ TabOk n T ∧ ∀ H' r, Same H H' → Dq H' r (rowD (sgT n T)) → Q r H'
end Kr
namespace Kr
open PySem PySem.Spec PyProof.Rows L2
/-! ### signs as sums over pairs -/
def xorA : List Bool → Bool
  | [] => false
  | b :: r => (b ^^ xorA r)
theorem xorA_perm {a b : List Bool} (p : a.Perm b) : xorA a = xorA b := by
  induction p with
  | nil => rfl
  | cons x _ ih => simp [xorA, ih]
  | swap x y l => simp only [xorA]; cases x <;> cases y <;> simp
  | trans _ _ h1 h2 => exact h1.trans h2
theorem xorA_app : ∀ a b : List Bool, xorA (a ++ b) = (xorA a ^^ xorA b)
  | [], b => by simp [xorA]
  | x :: a, b => by
    rw [List.cons_append]
    simp only [xorA]
    rw [xorA_app a b, Bool.xor_assoc]
theorem xorA_xor {α : Type} (f g : α → Bool) : ∀ l : List α, xorA (l.map fun x => (f x ^^ g x)) = (xorA (l.map f) ^^ xorA (l.map g))
  | [] => rfl
  | x :: l => by
    simp only [List.map_cons, xorA]
    rw [xorA_xor f g l]
    cases f x <;> cases g x <;> simp
def pairN {α : Type} (g : α → α → Bool) : List α → Bool
  | [] => false
  | x :: r => (xorA (r.map (g x)) ^^ pairN g r)
theorem pairN_map {α β : Type} (f : α → β) (g : β → β → Bool) : ∀ l : List α, pairN g (l.map f) = pairN (fun x y => g (f x) (f y)) l
  | [] => rfl
  | x :: l => by
    rw [List.map_cons]
    simp only [pairN]
    rw [pairN_map f g l, List.map_map]
    rfl
theorem pairN_congr {α : Type} {g h : α → α → Bool} : ∀ {l : List α}, l.Pairwise (fun x y => g x y = h x y) → pairN g l = pairN h l
  | [], _ => rfl
  | x :: l, p => by
    rw [List.pairwise_cons] at p
    simp only [pairN]
    rw [pairN_congr p.2, List.map_congr_left p.1]
theorem pairN_xor {α : Type} (g h : α → α → Bool) : ∀ l : List α, pairN (fun x y => (g x y ^^ h x y)) l = (pairN g l ^^ pairN h l)
  | [] => rfl
  | x :: l => by
    simp only [pairN]
    rw [pairN_xor g h l, xorA_xor]
    cases xorA (l.map (g x)) <;> cases xorA (l.map (h x)) <;> cases pairN g l <;> cases pairN h l <;> rfl
theorem pairN_perm {α : Type} {g : α → α → Bool} {a b : List α} (p : a.Perm b) (sy : ∀ x ∈ a, ∀ y ∈ a, g x y = g y x) : pairN g a = pairN g b := by
  induction p with
  | nil => rfl
  | cons x p ih =>
    simp only [pairN]
    rw [ih fun u hu v hv => sy u (List.mem_cons_of_mem _ hu) v (List.mem_cons_of_mem _ hv), xorA_perm (p.map _)]
  | swap x y l =>
    have e := sy x (by simp) y (by simp)
    simp only [pairN, List.map_cons, xorA]
    rw [e]
    cases g y x <;> cases xorA (l.map (g x)) <;> cases xorA (l.map (g y)) <;> cases pairN g l <;> rfl
  | trans p1 p2 h1 h2 => exact (h1 sy).trans (h2 fun u hu v hv => sy u (p1.symm.subset hu) v (p1.symm.subset hv))
theorem odd_count {α : Type} (f : α → Bool) : ∀ l : List α, oddN (l.countP f) = xorA (l.map f)
  | [] => rfl
  | x :: l => by
    rw [List.countP_cons, List.map_cons, odd_add, odd_count f l]
    simp only [xorA]
    cases f x <;> simp [oddN]
theorem inv_cons (x : Int) (r : List Int) : invN (x :: r) = r.countP (fun y => decide (y < x)) + invN r := by
  have key : ∀ i, i ≤ r.length → invS (x :: r) (i + 1) = (r.take i).countP (fun y => decide (y < x)) + invS r i := by
    intro i
    induction i with
    | zero =>
      intro _
      rw [invS_succ]
      simp [invS, invA]
    | succ i ih =>
      intro hi
      rw [invS_succ, ih (by omega), invS_succ, List.take_add_one, getD_get (show i < r.length by omega), List.countP_append]
      have e : invA (x :: r) (i + 1) = (if r.getD i 0 < x then 1 else 0) + invA r i := by
        unfold invA
        rw [List.take_succ_cons, List.countP_cons, show (x :: r).getD (i + 1) 0 = r.getD i 0 from by simp]
        by_cases c : r.getD i 0 < x <;> simp only [c, decide_true, decide_false, if_true, if_false, Bool.false_eq_true] <;> omega
      rw [e]
      have e2 : List.countP (fun y => decide (y < x)) (some (r.getD i 0)).toList = if r.getD i 0 < x then 1 else 0 := by
        generalize r.getD i 0 = z
        by_cases c : z < x <;> simp [c]
      rw [e2]
      omega
  have := key r.length (Nat.le_refl _)
  rw [List.take_length] at this
  exact this
theorem sgI_pair : ∀ xs : List Int, sgI xs = pairN (fun x y => decide (y < x)) xs
  | [] => rfl
  | x :: r => by
    unfold sgI
    rw [inv_cons, odd_add, odd_count]
    simp only [pairN]
    rw [← sgI_pair r]
    rfl
theorem sgI_map {α : Type} (k : α → Int) (l : List α) : sgI (l.map k) = pairN (fun x y => decide (k y < k x)) l := by rw [sgI_pair, pairN_map]
/-- a row in an order, its values led on: both signs together -/
theorem sg_comp {α : Type} {L ts : List α} {k h : α → Int} (p : ts.Perm L) (asc : L.Pairwise fun x y => k x < k y) (hi : L.Pairwise fun x y => h x ≠ h y) : sgI (ts.map h) = (sgI (ts.map k) ^^ sgI (L.map h)) := by
  rw [sgI_map, sgI_map, sgI_map]
  have both : ∀ x ∈ L, ∀ y ∈ L, (x = y ∧ k x = k y) ∨ (k x ≠ k y ∧ h x ≠ h y) := by
    intro x hx y hy
    obtain ⟨i, hi', rfl⟩ := List.getElem_of_mem hx
    obtain ⟨j, hj', rfl⟩ := List.getElem_of_mem hy
    rcases Nat.lt_trichotomy i j with c | c | c
    · have a1 := List.pairwise_iff_getElem.mp asc i j hi' hj' c
      have a2 := List.pairwise_iff_getElem.mp hi i j hi' hj' c
      exact .inr ⟨by omega, a2⟩
    · subst c
      exact .inl ⟨rfl, rfl⟩
    · have a1 := List.pairwise_iff_getElem.mp asc j i hj' hi' c
      have a2 := List.pairwise_iff_getElem.mp hi j i hj' hi' c
      exact .inr ⟨by omega, fun z => a2 z.symm⟩
  let D : α → α → Bool := fun x y => (decide (k x < k y) ^^ decide (h x < h y))
  have sy : ∀ x ∈ ts, ∀ y ∈ ts, D x y = D y x := by
    intro x hx y hy
    show (decide (k x < k y) ^^ decide (h x < h y)) = (decide (k y < k x) ^^ decide (h y < h x))
    rcases both x (p.subset hx) y (p.subset hy) with ⟨rfl, _⟩ | ⟨n1, n2⟩
    · rfl
    · have e1 : decide (k y < k x) = !decide (k x < k y) := by rw [← decide_not, decide_eq_decide]; omega
      have e2 : decide (h y < h x) = !decide (h x < h y) := by rw [← decide_not, decide_eq_decide]; omega
      rw [e1, e2]
      cases decide (k x < k y) <;> cases decide (h x < h y) <;> rfl
  have eL : pairN D L = pairN (fun x y => decide (h y < h x)) L := by
    refine pairN_congr ?_
    refine List.Pairwise.imp_of_mem (fun {x y} hx hy hxy => ?_) (asc.and hi)
    show (decide (k x < k y) ^^ decide (h x < h y)) = decide (h y < h x)
    rw [decide_eq_true hxy.1]
    have e2 : decide (h y < h x) = !decide (h x < h y) := by rw [← decide_not, decide_eq_decide]; have := hxy.2; omega
    rw [e2]
    cases decide (h x < h y) <;> rfl
  have nd : ts.Pairwise fun x y => x ≠ y := p.symm.nodup (asc.imp fun a z => by rw [z] at a; omega)
  have eT : pairN (fun x y => decide (h y < h x)) ts = pairN (fun x y => (decide (k y < k x) ^^ D x y)) ts := by
    refine pairN_congr ?_
    refine List.Pairwise.imp_of_mem (fun {x y} hx hy hxy => ?_) nd
    show decide (h y < h x) = (decide (k y < k x) ^^ (decide (k x < k y) ^^ decide (h x < h y)))
    rcases both x (p.subset hx) y (p.subset hy) with ⟨z, _⟩ | ⟨n1, n2⟩
    · exact absurd z hxy
    · have e1 : decide (k y < k x) = !decide (k x < k y) := by rw [← decide_not, decide_eq_decide]; omega
      have e2 : decide (h y < h x) = !decide (h x < h y) := by rw [← decide_not, decide_eq_decide]; omega
      rw [e1, e2]
      cases decide (k x < k y) <;> cases decide (h x < h y) <;> rfl
  rw [eT, pairN_xor, pairN_perm p sy, eL]
/-- ascending: even -/
theorem sg_asc {xs : List Int} (h : xs.Pairwise (· < ·)) : sgI xs = false := by
  rw [sgI_pair]
  have : ∀ l : List Int, l.Pairwise (· < ·) → pairN (fun x y => decide (y < x)) l = false := by
    intro l
    induction l with
    | nil => intro _; rfl
    | cons x l ih =>
      intro p
      rw [List.pairwise_cons] at p
      simp only [pairN]
      rw [ih p.2]
      have e : ∀ r : List Int, (∀ y ∈ r, x < y) → xorA (r.map fun y => decide (y < x)) = false := by
        intro r
        induction r with
        | nil => intro _; rfl
        | cons y r ih2 =>
          intro q
          have h1 := q y List.mem_cons_self
          rw [List.map_cons]
          simp only [xorA]
          rw [ih2 fun z hz => q z (List.mem_cons_of_mem _ hz), decide_eq_false (by omega)]
          rfl
      rw [e l p.1]
      rfl
  exact this xs h
/-! ### the row of two tables, one behind the other -/
/-- the places without a key -/
def freeL (n : Nat) (l : List Nat) : List Nat := (List.range n).filter fun x => !decide (x ∈ l)
theorem free_asc (n : Nat) (l : List Nat) : (freeL n l).Pairwise (· < ·) := List.Pairwise.filter _ List.pairwise_lt_range
theorem mem_free {n : Nat} {l : List Nat} {x : Nat} : x ∈ freeL n l ↔ x < n ∧ x ∉ l := by
  unfold freeL
  rw [List.mem_filter, List.mem_range]
  simp
theorem EntF.rid_eq {n : Nat} {l : List Nat} {e : List Int} (h : EntF n l e) : ridE e = (freeL n l).map fun x => e.getD x 0 := by
  have e1 : e = (List.range n).map fun x => e.getD x 0 := by
    refine list_ext h.len (by rw [List.length_map, List.length_range]) fun x hx => ?_
    rw [List.getD_eq_getElem?_getD, List.getD_eq_getElem?_getD, List.getElem?_map, List.getElem?_range hx]
    show e[x]?.getD 0 = e.getD x 0
    rw [List.getD_eq_getElem?_getD]
  unfold ridE freeL
  conv => lhs; rw [e1]
  rw [List.filter_map]
  congr 1
  refine List.filter_congr fun x hx => ?_
  have hx := List.mem_range.mp hx
  show (!decide (e.getD x 0 = -1)) = _
  rw [decide_eq_decide.mpr (h.neg hx)]
theorem EntF.rid_perm {n : Nat} {l : List Nat} {e : List Int} (h : EntF n l e) : ((freeL n l).map fun x => (e.getD x 0).toNat).Perm (freeL n (goalE n e)) := by
  refine (List.perm_ext_iff_of_nodup ?_ ((free_asc _ _).imp fun z => Nat.ne_of_lt z)).mpr fun y => ?_
  · show List.Pairwise _ _
    rw [List.pairwise_map]
    refine List.Pairwise.imp_of_mem (fun {a b} ha hb hab z => ?_) ((free_asc n l).imp fun z => Nat.ne_of_lt z)
    obtain ⟨a1, a2⟩ := mem_free.mp ha
    obtain ⟨b1, b2⟩ := mem_free.mp hb
    have r1 := h.rid a a1 a2
    have r2 := h.rid b b1 b2
    exact hab (h.inj a b a1 b1 a2 b2 (by omega))
  · rw [mem_free, List.mem_map]
    constructor
    · rintro ⟨x, hx, rfl⟩
      obtain ⟨x1, x2⟩ := mem_free.mp hx
      exact h.off x1 x2
    · rintro ⟨y1, y2⟩
      obtain ⟨x, x1, x2, ex⟩ := h.from y1 y2
      exact ⟨x, mem_free.mpr ⟨x1, x2⟩, by omega⟩
theorem sg_cmp {n : Nat} {l : List Nat} {e u : List Int} (h : EntF n l e) (g : EntF n (goalE n e) u) : sgI (ridE (cmpE e u)) = (sgI (ridE e) ^^ sgI (ridE u)) := by
  rw [(h.cmp g).1.rid_eq, h.rid_eq, g.rid_eq]
  have e1 : ((freeL n l).map fun x => (cmpE e u).getD x 0) = ((freeL n l).map fun x => (e.getD x 0).toNat).map fun y => u.getD y 0 := by
    rw [List.map_map]
    refine List.map_congr_left fun x hx => ?_
    obtain ⟨x1, x2⟩ := mem_free.mp hx
    rw [cmp_at (by rw [h.len]; exact x1), if_neg (fun z => x2 ((h.neg x1).mp z))]
    rfl
  have e2 : ((freeL n l).map fun x => e.getD x 0) = ((freeL n l).map fun x => (e.getD x 0).toNat).map fun (y : Nat) => (y : Int) := by
    rw [List.map_map]
    refine List.map_congr_left fun x hx => ?_
    obtain ⟨x1, x2⟩ := mem_free.mp hx
    have r := h.rid x x1 x2
    show _ = (((e.getD x 0).toNat : Nat) : Int)
    omega
  rw [e1, e2]
  refine sg_comp (k := fun (y : Nat) => (y : Int)) h.rid_perm ((free_asc _ _).imp fun z => by omega) ?_
  refine List.Pairwise.imp_of_mem (fun {a b} ha hb hab z => ?_) ((free_asc n (goalE n e)).imp fun z => Nat.ne_of_lt z)
  obtain ⟨a1, a2⟩ := mem_free.mp ha
  obtain ⟨b1, b2⟩ := mem_free.mp hb
  exact hab (g.inj a b a1 b1 a2 b2 z)
theorem sgR_xor : ∀ es : List (List Int), sgR es = xorA (es.map fun e => sgI (ridE e))
  | [] => rfl
  | e :: es => by
    rw [List.map_cons]
    simp only [sgR, xorA]
    rw [sgR_xor es]
theorem goal_len {n : Nat} {l : List Nat} {e : List Int} (hl : Asc 0 n l) (h : EntF n l e) : (goalE n e).length = l.length := by
  have p := h.rid_perm.length_eq
  rw [List.length_map] at p
  have c : ∀ g : List Nat, Asc 0 n g → (freeL n g).length + g.length = n := fun g hg => by
    have e1 : (List.range n).filter (fun x => decide (x ∈ g)) = g := by
      refine asc_ext (n := n) ⟨List.Pairwise.filter _ List.pairwise_lt_range, fun x hx => ?_⟩ hg fun x => ?_
      · have := List.mem_range.mp (List.mem_filter.mp hx).1
        omega
      · rw [List.mem_filter, List.mem_range]
        simp only [decide_eq_true_eq]
        exact ⟨fun z => z.2, fun z => ⟨by have := (hg.2 x z).2; omega, z⟩⟩
    have e2 := List.length_eq_countP_add_countP (fun x => decide (x ∈ g)) (l := List.range n)
    rw [List.length_range, List.countP_eq_length_filter, e1, List.countP_eq_length_filter] at e2
    unfold freeL
    have e3 : (List.range n).filter (fun x => !decide (x ∈ g)) = (List.range n).filter (fun a => decide ¬decide (a ∈ g) = true) := List.filter_congr fun x _ => by simp
    rw [e3]
    omega
  have h1 := c l hl
  have h2 := c _ (goal_asc n e)
  omega
/-- the lots of a size are led to lots of that size -/
theorem lots_size : ∀ n : Nat, n < 7 → ∀ s : Nat, s < n + 1 → ∀ l ∈ allL n, l.length = s → l ∈ lotsL n s := by decide +kernel
theorem lots_nd : ∀ n : Nat, n < 7 → ∀ s : Nat, s < n + 1 → (lotsL n s).Pairwise fun a b => num n a < num n b := fun n hn s hs => by
  have h := nums_lots n hn s hs
  have p : ((lotsL n s).map (num n)).Pairwise (· < ·) := by
    rw [h, List.pairwise_map]
    exact List.pairwise_lt_range.imp fun z => by omega
  rwa [List.pairwise_map] at p
theorem TabOk.size_perm {n : Nat} (hn : n ≤ 6) {T : List (List Int)} (h : TabOk n T) {s : Nat} (hs : s ≤ n) : ((lotsL n s).map fun l => goalE n (en n T l)).Perm (lotsL n s) := by
  have nd0 : (lotsL n s).Pairwise (· ≠ ·) := (lots_nd n (by omega) s (by omega)).imp fun z e => by rw [e] at z; omega
  have mem : ∀ l ∈ lotsL n s, l ∈ allL n := own_all n (by omega) s (by omega)
  have nd : ((lotsL n s).map fun l => goalE n (en n T l)).Nodup := by
    show List.Pairwise _ _
    rw [List.pairwise_map]
    exact List.Pairwise.imp_of_mem (fun {a b} ha hb hab z => hab (h.gl_inj' hn (mem a ha) (mem b hb) z)) nd0
  refine (List.perm_ext_iff_of_nodup nd nd0).mpr fun g => ⟨fun hg => ?_, fun hg => ?_⟩
  · obtain ⟨l, hl, rfl⟩ := List.mem_map.mp hg
    refine lots_size n (by omega) s (by omega) _ (goal_all hn _) ?_
    rw [goal_len (all_ascL hn l (mem l hl)) (h.ent hn (mem l hl))]
    exact (lots_in n s l hl).1
  · have hm : g ∈ (allL n).map fun l => goalE n (en n T l) := (h.goalp hn).symm.subset (mem g hg)
    obtain ⟨l, hl, e⟩ := List.mem_map.mp hm
    refine List.mem_map.mpr ⟨l, lots_size n (by omega) s (by omega) l hl ?_, e⟩
    have := goal_len (all_ascL hn l hl) (h.ent hn hl)
    rw [e, (lots_in n s g hg).1] at this
    exact this.symm
theorem num_inj {n : Nat} (hn : n ≤ 6) {a b : List Nat} (ha : a ∈ allL n) (hb : b ∈ allL n) (e : num n a = num n b) : a = b := by
  have h1 := all_at hn ha
  rw [e, all_at hn hb] at h1
  exact (Option.some.inj h1).symm
/-- the row of two tables, one behind the other -/
theorem sgT_both {n : Nat} (hn : n ≤ 6) {T U : List (List Int)} (h : TabOk n T) (g : TabOk n U) : sgT n (bothT n T U) = addR (sgT n T) (sgT n U) := by
  unfold sgT addR
  rw [List.zipWith_map, List.zipWith_self]
  refine List.map_congr_left fun s hs => ?_
  have hs := List.mem_range.mp hs
  have mem : ∀ l ∈ lotsL n s, l ∈ allL n := own_all n (by omega) s (by omega)
  have P := h.size_perm hn (s := s) (by omega)
  have eg : ∀ l ∈ lotsL n s, en n (bothT n T U) l = cmpE (en n T l) (en n U (goalE n (en n T l))) := fun l hl => en_both hn h (mem l hl)
  have ent : ∀ l ∈ lotsL n s, EntF n l (en n T l) ∧ EntF n (goalE n (en n T l)) (en n U (goalE n (en n T l))) := fun l hl => ⟨h.ent hn (mem l hl), g.ent hn (goal_all hn _)⟩
  refine Prod.ext ?_ ?_
  · show sgI ((lotsL n s).map fun l => ((num n (goalE n (en n (bothT n T U) l)) : Nat) : Int)) = (_ ^^ _)
    have e1 : ((lotsL n s).map fun l => ((num n (goalE n (en n (bothT n T U) l)) : Nat) : Int)) = ((lotsL n s).map fun l => goalE n (en n T l)).map fun l => ((num n (goalE n (en n U l)) : Nat) : Int) := by
      rw [List.map_map]
      refine List.map_congr_left fun l hl => ?_
      rw [eg l hl, ((ent l hl).1.cmp (ent l hl).2).2]
      rfl
    have e2 : ((lotsL n s).map fun l => ((num n (goalE n (en n T l)) : Nat) : Int)) = ((lotsL n s).map fun l => goalE n (en n T l)).map fun l => ((num n l : Nat) : Int) := by rw [List.map_map]; rfl
    rw [e1, sg_comp (k := fun l => ((num n l : Nat) : Int)) P ((lots_nd n (by omega) s (by omega)).imp fun z => by omega) ?_, e2]
    have nd0 : (lotsL n s).Pairwise (· ≠ ·) := (lots_nd n (by omega) s (by omega)).imp fun z e => by rw [e] at z; omega
    refine List.Pairwise.imp_of_mem (fun {a b} ha hb hab z => hab ?_) nd0
    have e3 : num n (goalE n (en n U a)) = num n (goalE n (en n U b)) := by omega
    exact g.gl_inj' hn (mem a ha) (mem b hb) (num_inj hn (goal_all hn _) (goal_all hn _) e3)
  · show sgR ((lotsL n s).map (en n (bothT n T U))) = (_ ^^ _)
    rw [sgR_xor, sgR_xor, sgR_xor, List.map_map, List.map_map, List.map_map]
    have e1 : ((lotsL n s).map ((fun e => sgI (ridE e)) ∘ en n (bothT n T U))) = (lotsL n s).map fun l => (sgI (ridE (en n T l)) ^^ sgI (ridE (en n U (goalE n (en n T l))))) := by
      refine List.map_congr_left fun l hl => ?_
      show sgI (ridE (en n (bothT n T U) l)) = _
      rw [eg l hl]
      exact sg_cmp (ent l hl).1 (ent l hl).2
    rw [e1, xorA_xor]
    have e2 : ((lotsL n s).map fun l => sgI (ridE (en n U (goalE n (en n T l))))) = ((lotsL n s).map fun l => goalE n (en n T l)).map fun g => sgI (ridE (en n U g)) := by rw [List.map_map]; rfl
    rw [e2, xorA_perm (P.map _)]
    rfl
end Kr
namespace Kr
open PySem PySem.Spec PyProof.Rows L2
/-! ### the rows of deeds -/
def codeL (n : Nat) (l : List Nat) : Nat := l.foldl (fun c x => c + (2 ^ n - 2 ^ (n - 1 - x))) 0
def cinv : List Nat → Bool
  | [] => false
  | x :: r => ((r.countP fun y => Nat.blt y x) % 2 == 1) ^^ cinv r
def memB (x : Nat) : List Nat → Bool
  | [] => false
  | y :: r => Nat.beq x y || memB x r
def swB (a b x : Nat) : Nat := bif Nat.beq x b then a else bif Nat.beq x a then b else x
def gl (n : Nat) (q : List Nat) (a b : Nat) (l : List Nat) : List Nat := bif q.all (fun x => memB x l) then (List.range n).filter (fun y => memB (swB a b y) l) else l
def leadS (n : Nat) (q : List Nat) (a b : Nat) (s : Nat) : Bool := cinv ((lotsL n s).map fun l => codeL n (gl n q a b l))
def rdS (n : Nat) (q : List Nat) (a b : Nat) (s : Nat) : Bool := xorA ((lotsL n s).map fun l => bif q.all (fun x => memB x l) then cinv (((List.range n).filter fun x => !memB x l).map (swB a b)) else false)
def chkAB (n : Nat) : Bool := (allL n).all fun q => (List.range n).all fun b => (List.range b).all fun a => memB a q || memB b q || (List.range (n + 1)).all fun s => leadS n q a b s == chB ((n : Int) - 2 - q.length) (((s : Nat) : Int) - 1 - q.length) && rdS n q a b s == chB ((n : Int) - 2 - q.length) (((s : Nat) : Int) - q.length)
theorem chk_few : ∀ n : Nat, n < 6 → chkAB n = true := by decide +kernel
theorem chk_6 : chkAB 6 = true := by decide +kernel
theorem chk_all {n : Nat} (hn : n ≤ 6) : chkAB n = true := by
  rcases Nat.lt_or_ge n 6 with c | c
  · exact chk_few n c
  · have : n = 6 := by omega
    subst this
    exact chk_6
theorem memB_eq (x : Nat) : ∀ l : List Nat, memB x l = decide (x ∈ l)
  | [] => rfl
  | y :: l => by
    unfold memB
    rw [memB_eq x l, Bool.eq_iff_iff]
    simp
theorem beq_dec (x y : Nat) : Nat.beq x y = decide (x = y) := by rw [Bool.eq_iff_iff, Nat.beq_eq, decide_eq_true_iff]
theorem swB_eq (a b x : Nat) : swB a b x = sw a b x := by
  unfold swB sw
  rw [beq_dec, beq_dec]
  by_cases h1 : x = b
  · simp [h1]
  · by_cases h2 : x = a
    · simp [h1, h2]
    · simp [h1, h2]
theorem cinv_pair : ∀ l : List Nat, cinv l = pairN (fun x y => Nat.blt y x) l
  | [] => rfl
  | x :: l => by
    unfold cinv
    rw [cinv_pair l]
    simp only [pairN]
    rw [← odd_count]
    congr 1
theorem blt_eq (x y : Nat) : Nat.blt x y = decide ((x : Int) < y) := by
  rw [Bool.eq_iff_iff, Nat.blt_eq, decide_eq_true_iff]
  omega
theorem code_asc : ∀ n : Nat, n < 7 → ∀ s : Nat, s < n + 1 → (lotsL n s).Pairwise fun a b => codeL n a < codeL n b := by decide +kernel
/-- two ascending keys order alike -/
theorem keys_alike {α : Type} {L : List α} {k h : α → Nat} (a1 : L.Pairwise fun x y => k x < k y) (a2 : L.Pairwise fun x y => h x < h y) {x y : α} (hx : x ∈ L) (hy : y ∈ L) : (k x < k y ↔ h x < h y) := by
  obtain ⟨i, hi, rfl⟩ := List.getElem_of_mem hx
  obtain ⟨j, hj, rfl⟩ := List.getElem_of_mem hy
  rcases Nat.lt_trichotomy i j with c | c | c
  · exact ⟨fun _ => List.pairwise_iff_getElem.mp a2 i j hi hj c, fun _ => List.pairwise_iff_getElem.mp a1 i j hi hj c⟩
  · subst c
    exact ⟨fun z => absurd z (Nat.lt_irrefl _), fun z => absurd z (Nat.lt_irrefl _)⟩
  · have b1 := List.pairwise_iff_getElem.mp a1 j i hj hi c
    have b2 := List.pairwise_iff_getElem.mp a2 j i hj hi c
    omega
theorem sg_code {n : Nat} (hn : n ≤ 6) {s : Nat} (hs : s ≤ n) {ts : List (List Nat)} (h : ∀ l ∈ ts, l ∈ lotsL n s) : sgI (ts.map fun l => ((num n l : Nat) : Int)) = cinv (ts.map (codeL n)) := by
  rw [sgI_map, cinv_pair, pairN_map]
  refine pairN_congr ?_
  have all : ∀ x ∈ ts, ∀ y ∈ ts, decide (((num n y : Nat) : Int) < ((num n x : Nat) : Int)) = Nat.blt (codeL n y) (codeL n x) := fun x hx y hy => by
    rw [blt_eq, decide_eq_decide]
    have := keys_alike (lots_nd n (by omega) s (by omega)) (code_asc n (by omega) s (by omega)) (h y hy) (h x hx)
    omega
  exact List.pairwise_iff_forall_sublist.mpr fun {x y} hxy => all x (hxy.subset (by simp)) y (hxy.subset (by simp))
theorem deed_gl {n : Nat} {m : Mv} (d : Deed n m) {l : List Nat} (hl : Asc 0 n l) : goalE n (dE n m l) = gl n m.1 m.2.1 m.2.2 l := by
  have ea : (m.1.all fun x => memB x l) = isAll m.1 l := by
    unfold isAll
    congr 1
    funext x
    exact memB_eq x l
  unfold gl
  rw [ea]
  have W := d.way l
  cases hc : isAll m.1 l with
  | false =>
    refine asc_ext (goal_asc _ _) hl fun y => ?_
    show y ∈ goalE n (byE l _) ↔ _
    rw [W.goal]
    have e : dF m l y = y := by unfold dF; rw [hc]; rfl
    rw [e]
    exact ⟨fun z => z.2, fun z => ⟨by have := (hl.2 y z).2; omega, z⟩⟩
  | true =>
    show _ = (List.range n).filter _
    refine asc_ext (goal_asc _ _) ⟨List.Pairwise.filter _ List.pairwise_lt_range, fun x hx => ?_⟩ fun y => ?_
    · have := List.mem_range.mp (List.mem_filter.mp hx).1
      omega
    · show y ∈ goalE n (byE l _) ↔ _
      rw [W.goal, List.mem_filter, List.mem_range, memB_eq, swB_eq]
      have e : dF m l y = sw m.2.1 m.2.2 y := by unfold dF; rw [hc]; rfl
      rw [e]
      simp
theorem deed_rid {n : Nat} {m : Mv} (d : Deed n m) (l : List Nat) : sgI (ridE (dE n m l)) = (bif m.1.all (fun x => memB x l) then cinv (((List.range n).filter fun x => !memB x l).map (swB m.2.1 m.2.2)) else false) := by
  have ea : (m.1.all fun x => memB x l) = isAll m.1 l := by
    unfold isAll
    congr 1
    funext x
    exact memB_eq x l
  rw [ea, (d.ent l).rid_eq]
  have W := d.way l
  have at_ : ∀ x ∈ freeL n l, (dE n m l).getD x 0 = (dF m l x : Int) := fun x hx => by
    obtain ⟨x1, x2⟩ := mem_free.mp hx
    unfold dE
    rw [byE_at (by rw [W.len]; exact x1), if_neg x2, W.at_ x x1]
  rw [List.map_congr_left at_]
  cases hc : isAll m.1 l with
  | false =>
    have e : ((freeL n l).map fun x => (dF m l x : Int)) = (freeL n l).map fun (x : Nat) => (x : Int) := List.map_congr_left fun x _ => by unfold dF; rw [hc]; rfl
    rw [e]
    refine sg_asc ?_
    rw [List.pairwise_map]
    exact (free_asc n l).imp fun z => by omega
  | true =>
    show _ = cinv _
    have ef : ((List.range n).filter fun x => !memB x l) = freeL n l := List.filter_congr fun x _ => by rw [memB_eq]
    rw [ef, cinv_pair, pairN_map, sgI_map]
    have e : ∀ x, dF m l x = swB m.2.1 m.2.2 x := fun x => by unfold dF; rw [hc, swB_eq]; rfl
    refine congrArg (fun g => pairN g (freeL n l)) ?_
    funext x y
    rw [blt_eq, e, e]
/-- the row of a deed -/
theorem sgT_deed {n : Nat} (hn : n ≤ 6) {m : Mv} (d : Deed n m) : sgT n (deedT n m.1 m.2.1 m.2.2) = kindR n m.1.length := by
  have c := chk_all hn
  unfold chkAB at c
  rw [List.all_eq_true] at c
  have c1 := c m.1 (asc_all hn d.asc (all_ascL hn))
  rw [List.all_eq_true] at c1
  have c2 := c1 m.2.2 (List.mem_range.mpr d.bn)
  rw [List.all_eq_true] at c2
  have c3 := c2 m.2.1 (List.mem_range.mpr d.ab)
  rw [memB_eq, memB_eq, decide_eq_false d.na, decide_eq_false d.nb, Bool.false_or, Bool.false_or, List.all_eq_true] at c3
  unfold sgT kindR
  refine List.map_congr_left fun s hs => ?_
  have c4 := c3 s hs
  have hs := List.mem_range.mp hs
  have mem : ∀ l ∈ lotsL n s, l ∈ allL n := own_all n (by omega) s (by omega)
  rw [Bool.and_eq_true, beq_iff_eq, beq_iff_eq] at c4
  refine Prod.ext ?_ ?_
  · show sgI _ = chB _ _
    rw [← c4.1]
    have e1 : ((lotsL n s).map fun l => ((num n (goalE n (en n (deedT n m.1 m.2.1 m.2.2) l)) : Nat) : Int)) = ((lotsL n s).map fun l => goalE n (dE n m l)).map fun l => ((num n l : Nat) : Int) := by
      rw [List.map_map]
      refine List.map_congr_left fun l hl => ?_
      rw [deed_map, en_map hn (mem l hl)]
      rfl
    rw [e1, sg_code (s := s) hn (by omega) fun g hg => ?_]
    · unfold leadS
      rw [List.map_map]
      congr 1
      refine List.map_congr_left fun l hl => ?_
      show codeL n (goalE n (dE n m l)) = _
      rw [deed_gl d (all_ascL hn l (mem l hl))]
    · obtain ⟨l, hl, rfl⟩ := List.mem_map.mp hg
      refine lots_size n (by omega) s (by omega) _ (goal_all hn _) ?_
      rw [goal_len (all_ascL hn l (mem l hl)) (d.ent l)]
      exact (lots_in n s l hl).1
  · show sgR _ = chB _ _
    rw [← c4.2, sgR_xor, List.map_map]
    unfold rdS
    congr 1
    refine List.map_congr_left fun l hl => ?_
    show sgI (ridE (en n (deedT n m.1 m.2.1 m.2.2) l)) = _
    rw [deed_map, en_map hn (mem l hl)]
    exact deed_rid d l
theorem sgT_len (n : Nat) (T : List (List Int)) : (sgT n T).length = n + 1 := by unfold sgT; rw [List.length_map, List.length_range]
theorem addR_twice : ∀ a : Row, addR a a = List.replicate a.length (false, false)
  | [] => rfl
  | p :: a => by
    have ih := addR_twice a
    unfold addR at ih ⊢
    rw [List.zipWith_cons_cons, ih, List.length_cons, List.replicate_succ]
    simp
theorem addR_comm (a b : Row) : addR a b = addR b a := by
  unfold addR
  rw [List.zipWith_comm]
  congr 1
  funext p q
  rw [Bool.xor_comm, Bool.xor_comm p.2]
theorem addR_assoc : ∀ a b c : Row, addR (addR a b) c = addR a (addR b c)
  | [], _, _ => by simp [addR]
  | _ :: _, [], _ => by simp [addR]
  | _ :: _, _ :: _, [] => by simp [addR]
  | p :: a, q :: b, r :: c => by
    have ih := addR_assoc a b c
    unfold addR at ih ⊢
    simp only [List.zipWith_cons_cons]
    rw [ih, Bool.xor_assoc, Bool.xor_assoc]
theorem sgT_still {n : Nat} (hn : n ≤ 6) : sgT n (stillT n) = zeroR n := by
  have h := sgT_both hn (still_ok hn) (still_ok hn)
  rw [both_still hn (still_ok hn), addR_twice, sgT_len] at h
  exact h
end Kr
namespace Kr
open PySem PySem.Spec PyProof.Rows L2
theorem sm_ord {o : Nat} (h : o < 2 ^ 110) : Sm 1 140 (.int (o : Int)) := Sm.int (by rw [Int.natAbs_natCast]; exact Nat.lt_trans h (by decide +kernel))
theorem sm_told {n : Nat} (hn : n ≤ 6) {o : Nat} (h : o < 2 ^ 110) {T : List (List Int)} (hT : TabOk n T) : ∃ k w, k ≤ 40 ∧ w ≤ 380000 ∧ Sm k w (.list [.int (o : Int), tabD T]) :=
  ⟨_, _, by decide, by decide, Sm.two ((sm_ord h).mono (by decide) (by decide)) (sm_tab hn hT)⟩
def spIsWound : Sp := fun vs H Q _ => ∃ (p l : Addr), vs = [.ref p] ∧ Deck H p l ∧ ∀ H', Q (.bl true) H'
section
variable {P : Program} {w : World} {K : PySem.W.Frag} {mg : Str → Option Value} {base : Heap}
abbrev nIw : List Str := ["box", "n", "table", "many", "k", "told"]
theorem o_lIsWound (D0 : Df K mg "_law_is_wound" sLIsWound ["box"]) (B : Bi mg) (dr : Ok P w K mg base 1 "_law_draw" ["box", "many"] spDraw) (pk : Ok P w K mg base 2 "_law_pick" ["box", "items"] spPick) (fa : Ok P w K mg base 2 "_law_far" ["box"] spFar) (wo : Ok P w K mg base 3 "_law_wound" ["box", "n"] spWound)
    (oo : Ok P w K mg base 7 "order_of" ["n", "table"] spOrder) (po : Ok P w K mg base 7 "power" ["n", "table", "k"] spPower) (ll : Ok P w K mg base 4 "_law_least" ["n", "table"] spLeast) (lo : Ok P w K mg base 4 "_law_often" ["n", "table", "many"] spPower) : OkG P w K mg base 8 "_law_is_wound" ["box"] spIsWound := by
  have scIw : FnScope nIw ["box"] (defScope sLIsWound) := ⟨rfl, rfl, rfl, by decide +kernel, rfl, by decide +kernel, by decide +kernel⟩
  refine D0.okG fun f fd F => okG F scIw (fun vs H Q E h => ?_) (fun cdv A outer s H vs Q E hg hr4 h => ?_)
  · obtain ⟨p, l, rfl, _⟩ := h
    rfl
  · obtain ⟨p, l, rfl, Dk, q⟩ := h
    have hr0 := hr4.mono (show 1 ≤ 7 by decide)
    have hr1 := hr4.mono (show 3 ≤ 7 by decide)
    have hr2 := hr4.mono (show 2 ≤ 7 by decide)
    have hr3 := hr4.mono (show 2 ≤ 7 by decide)
    have hr5 := hr4.mono (show 4 ≤ 7 by decide)
    have hr6 := hr4.mono (show 4 ≤ 7 by decide)
    have cr := call_repr (X := (cxOf CX0 P w K mg base nIw "_law_is_wound" (defScope sLIsWound) f cdv A outer s H E).nox) hg hr4.units
    refine ⟨_, pss_cons (ps_set (i := 1) scIw.nd rfl (.inl rfl) (pe_ifExp (pt_cmpR op_eq (pe_fn dr hr0 (by rfl) (pa_cons (pv 0) (pa_cons pe_int pa_nil))) pe_int (nomark _)) pe_int pe_int))
      (pss_cons (ps_par (i := 2) (j := 3) rfl scIw.nd rfl rfl (by decide) rfl rfl (pa_cons (pe_fn wo hr1 (by rfl) (pa_cons (pv 0) (pa_cons (pv 1) pa_nil))) (pa_cons (pe_op op_add pe_int (pe_fn pk hr2 (by rfl) (pa_cons (pv 0) (pa_cons (pe_lst (pa_cons pe_int (pa_cons pe_int (pa_cons (pe_fn dr hr0 (by rfl) (pa_cons (pv 0) (pa_cons pe_int pa_nil))) pa_nil)))) pa_nil)))) pa_nil)) (by rfl))
      (pss_cons (ps_set (i := 4) scIw.nd rfl (.inl rfl) (pe_ifExp (pt_cmpR op_eq (pv 1) pe_int (nomark _)) (pe_fn pk hr2 (by rfl) (pa_cons (pv 0) (pa_cons (pe_lst (pa_cons (pv 3) (pa_cons (pe_un un_neg (pv 3)) (pa_cons (pv 3) (pa_cons (pe_op op_pow pe_int pe_int) (pa_cons (pe_op op_sub (pe_op op_pow pe_int pe_int) pe_int) (pa_cons (pe_fn fa hr3 (by rfl) (pa_cons (pv 0) pa_nil)) pa_nil))))))) pa_nil))) (pv 3)))
      (pss_cons (ps_set (i := 5) scIw.nd rfl (.inl rfl) (pe_lst (pa_cons (pe_fn oo hr4 (by rfl) (pa_cons (pv 1) (pa_cons (pv 2) pa_nil))) (pa_cons (pe_fn po hr4 (by rfl) (pa_cons (pv 1) (pa_cons (pv 2) (pa_cons (pv 4) pa_nil)))) pa_nil))))
      (pss_one (ps_ret (pe_cmpR op_eq (pe_callB cr (by rfl) B.repr (by decide +kernel) (pa_cons (pv 5) pa_nil)) (pe_callB cr (by rfl) B.repr (by decide +kernel) (pa_cons (pe_lst (pa_cons (pe_fn ll hr5 (by rfl) (pa_cons (pv 1) (pa_cons (pv 2) pa_nil))) (pa_cons (pe_fn lo hr6 (by rfl) (pa_cons (pv 1) (pa_cons (pv 2) (pa_cons (pv 4) pa_nil)))) pa_nil))) pa_nil)) (nomark _))))))), ?_⟩
    refine ⟨.ref p, rfl, p, l, 4, rfl, Dk, by decide, by decide, fun H1 r D1 E1 r0 r1 => ⟨rfl, _, rfl, ifE_join (R := fun v G => G = H1 ∧ ∃ n : Nat, v = .int n ∧ 5 ≤ n ∧ n ≤ 6) ?_ (fun _ Q' k => k _ _ ⟨rfl, 6, rfl, by decide, by decide⟩) (fun _ Q' k => k _ _ ⟨rfl, 5, rfl, by decide, by decide⟩)⟩⟩
    rintro v G ⟨rfl, n, rfl, n0, n1⟩
    dsimp only [tNext]
    refine ⟨.ref p, rfl, .int n, rfl, p, l, n, rfl, D1, n0, n1, fun H2 tv T D2 E2 htv okT => ?_⟩
    refine ⟨.ref p, rfl, .ref p, rfl, p, l, 1000, rfl, D2, by decide, by decide, fun H3 r3 D3 E3 a0 a1 => ⟨by show 3 ≤ sizeLine; decide, fun A0 nA0 => ?_⟩⟩
    obtain ⟨nAp, nAl⟩ := D3.new nA0
    have s3 := same_new (o := .lst [.int 0, .int 0, .int r3]) nA0
    have htv3 := (Dq.upT (TS.deck D2 E3) (tab_flat _) htv).up s3
    have D3' := D3.up s3
    refine ⟨p, l, A0, _, rfl, D3', .inl (by rw [hid_ne nAp nAl]; exact upd_same), by show 0 < 3; decide, by show 3 < 100000; decide, fun H4 rr v D4 E4 hv => ?_⟩
    have htv4 := Dq.upT (TS.deck D3' E4) (tab_flat _) htv3
    obtain ⟨m0, rfl⟩ : ∃ m0 : Int, v = .int m0 := by
      rcases rr with _ | _ | _ | rr
      · exact ⟨0, (Option.some.inj hv).symm⟩
      · exact ⟨0, (Option.some.inj hv).symm⟩
      · exact ⟨r3, (Option.some.inj hv).symm⟩
      · cases hv
    clear hv D3' htv3 s3 nA0 nAp nAl htv E1 E2 E3 E4
    refine ⟨_, _, rfl, rfl, _, _, rfl, ?_⟩
    dsimp only [tNext]
    refine ⟨.int n, rfl, rfl, _, rfl, ifE_join (R := fun v G => ∃ k : Int, v = .int k ∧ Deck G p l ∧ Dq G tv (tabD T)) ?_ (fun _ Q' k => ?_) (fun _ Q' k => ?_)⟩
    rotate_left
    · refine ⟨.ref p, rfl, _, rfl, _, rfl, _, rfl, _, rfl, _, _, rfl, rfl, ⟨by decide, by decide, by decide⟩, _, _, rfl, rfl, ⟨by decide, by decide, by decide⟩, _, _, rfl, rfl, .ref p, rfl, p, l, rfl, D4, fun H5 r5 D5 E5 f0 f1 => ⟨by show 6 ≤ sizeLine; decide, fun A1 nA1 => ?_⟩⟩
      obtain ⟨nAp, nAl⟩ := D5.new nA1
      have s5 := same_new (o := .lst [.int (5354228880 + m0), .int (-(5354228880 + m0)), .int (5354228880 + m0), .int (10 ^ 30), .int (10 ^ 30 - 1), .int r5]) nA1
      refine ⟨p, l, A1, _, rfl, D5.up s5, .inl (by rw [hid_ne nAp nAl]; exact upd_same), by show 0 < 6; decide, by show 6 < 100000; decide, fun H6 rr v D6 E6 hv => ?_⟩
      obtain ⟨k0, rfl⟩ : ∃ k0 : Int, v = .int k0 := by
        rcases rr with _ | _ | _ | _ | _ | _ | rr
        · exact ⟨_, (Option.some.inj hv).symm⟩
        · exact ⟨_, (Option.some.inj hv).symm⟩
        · exact ⟨_, (Option.some.inj hv).symm⟩
        · exact ⟨_, (Option.some.inj hv).symm⟩
        · exact ⟨_, (Option.some.inj hv).symm⟩
        · exact ⟨_, (Option.some.inj hv).symm⟩
        · cases hv
      exact k _ _ ⟨k0, rfl, D6, Dq.upT (TS.deck (D5.up s5) E6) (tab_flat _) ((Dq.upT (TS.deck D4 E5) (tab_flat _) htv4).up s5)⟩
    · exact ⟨_, rfl, k _ _ ⟨_, rfl, D4, htv4⟩⟩
    rintro v G5 ⟨k, rfl, D5, ht⟩
    dsimp only [tNext]
    refine ⟨.int n, rfl, tv, rfl, n, tv, T, rfl, n1, ht, okT, fun H7 o s7 ho hlt => ⟨.int n, rfl, tv, rfl, .int k, rfl, n, tv, T, k, rfl, n1, ht.up s7, okT, fun H8 pv0 s8 hpv => ⟨by show 2 ≤ sizeLine; decide, fun L nL => ?_⟩⟩⟩
    have s9 := same_new (o := .lst [.int (o : Int), pv0]) nL
    have hL : upd H8 L (.lst [.int (o : Int), pv0]) L = some (.lst [.int (o : Int), pv0]) := upd_same
    have hp9 := hpv.up s9
    have ht9 := ht.up (s7.trans (s8.trans s9))
    generalize upd H8 L (.lst [.int (o : Int), pv0]) = G9 at hL hp9 ht9
    obtain ⟨kk, ww, hk, hw, sm⟩ := sm_told n1 hlt (powT_ok n1 okT k)
    dsimp only [tNext]
    refine ret_eq_repr ⟨.ref L, rfl, repr_x (d := .list [.int (o : Int), tabD (powT n T k)]) (.lst hL (.cons (.int _) (.cons hp9 .nil))) sm hk hw fun x ex => ?_⟩
    refine ⟨.int n, rfl, tv, rfl, n, tv, T, rfl, n1, ht9, okT, fun H10 o2 s10 ho2 hlt2 => ⟨.int n, rfl, tv, rfl, .int k, rfl, n, tv, T, k, rfl, n1, ht9.up s10, okT, fun H11 pv2 s11 hpv2 => ⟨by show 2 ≤ sizeLine; decide, fun L2 nL2 => ?_⟩⟩⟩
    obtain rfl : o2 = o := ho2.uniq ho
    have s12 := same_new (o := .lst [.int (o2 : Int), pv2]) nL2
    exact repr_eq ex (.lst upd_same (.cons (.int _) (.cons (hpv2.up s12) .nil))) sm hk hw (q _)
end
end Kr
namespace Kr
open PySem PySem.Spec PyProof.Rows L2
/-- deeds in a list -/
structure DeedsAt (n : Nat) (H : Hp) (vs : List V) (ms : List Mv) : Prop where
  len : vs.length = ms.length
  at_ : ∀ (j : Nat) (v : V) (m : Mv), vs[j]? = some v → ms[j]? = some m → DeedAt H v m
  ok : ∀ m ∈ ms, Deed n m
theorem DeedsAt.nil {n : Nat} {H : Hp} : DeedsAt n H [] [] := ⟨rfl, fun j v m h => by simp at h, fun m h => by simp at h⟩
theorem DeedsAt.upT {n : Nat} {H H' : Hp} {vs : List V} {ms : List Mv} (s : TS H H') (h : DeedsAt n H vs ms) : DeedsAt n H' vs ms := ⟨h.len, fun j v m a b => (h.at_ j v m a b).upT s, h.ok⟩
theorem DeedsAt.snoc {n : Nat} {H : Hp} {vs : List V} {ms : List Mv} {v : V} {m : Mv} (h : DeedsAt n H vs ms) (a : DeedAt H v m) (d : Deed n m) : DeedsAt n H (vs ++ [v]) (ms ++ [m]) := by
  refine ⟨by rw [List.length_append, List.length_append, h.len]; rfl, fun j x y e1 e2 => ?_, fun x hx => ?_⟩
  · rcases Nat.lt_or_ge j vs.length with c | c
    · rw [List.getElem?_append_left c] at e1
      rw [List.getElem?_append_left (by rw [← h.len]; exact c)] at e2
      exact h.at_ j x y e1 e2
    · rw [List.getElem?_append_right c] at e1
      rw [List.getElem?_append_right (by rw [← h.len]; exact c), ← h.len] at e2
      cases hk : j - vs.length with
      | zero =>
        rw [hk] at e1 e2
        cases e1
        cases e2
        exact a
      | succ k => rw [hk] at e1; simp at e1
  · rcases List.mem_append.mp hx with c | c
    · exact h.ok x c
    · rw [List.mem_singleton.mp c]; exact d
theorem Deed.in_made {n : Nat} {m : Mv} (d : Deed n m) (hn : n ≤ 6) : (m.2.1 < n ∧ m.2.2 < n) ∧ m.1.length ≤ 100 ∧ ∀ x ∈ m.1, x < n := by
  have h1 := d.ab
  have h2 := d.bn
  exact ⟨⟨by omega, h2⟩, by have := d.asc.len; omega, fun x hx => by have := (d.asc.2 x hx).2; omega⟩
section
variable {P : Program} {w : World} {K : PySem.W.Frag} {mg : Str → Option Value} {base : Heap}
abbrev nLs : List Str := ["box", "n", "way", "turn"]
theorem scLs : FnScope nLs ["box", "n"] (defScope sLSome) := ⟨rfl, rfl, rfl, by decide +kernel, rfl, by decide +kernel, by decide +kernel⟩
theorem o_lSome (D0 : Df K mg "_law_some" sLSome ["box", "n"]) (B : Bi mg) (dr : Ok P w K mg base 1 "_law_draw" ["box", "many"] spDraw) (dw : Ok P w K mg base 3 "_law_drawn" ["box", "n"] spDrawn) (ld : Ok P w K mg base 3 "_law_deed" ["box", "n"] spDeed) (ma : Ok P w K mg base 2 "_law_made" ["n", "moves"] spMade) :
    Ok P w K mg base 4 "_law_some" ["box", "n"] spDrawn := by
  refine D0.ok fun f fd F => F.ok scLs (fun vs H Q E h => ?_) (fun cdv A outer s H vs Q E hr h => ?_)
  · obtain ⟨p, l, n, rfl, _⟩ := h
    rfl
  · obtain ⟨p, l, n, rfl, Dk, n0, hn, q⟩ := h
    have hr1 := hr.mono (show 1 ≤ 3 by decide)
    have hr2 := hr.mono (show 2 ≤ 3 by decide)
    refine ⟨_, pss_cons (ps_set (i := 2) scLs.nd rfl (.inl rfl) (pe_fn dr hr1 (by rfl) (pa_cons (pv 0) (pa_cons pe_int pa_nil))))
      (pss_cons (ps_if (pt_cmpR op_lt (pv 2) pe_int (nomark _)) (pss_one (ps_ret (pe_fn dw hr (by rfl) (pa_cons (pv 0) (pa_cons (pv 1) pa_nil))))) pss_nil)
      (pss_one (ps_ret (pe_fn ma hr2 (by rfl) (pa_cons (pv 1) (pa_cons
        (pe_lc (own := [("turn", 3)]) (g := gName 3) (tt := tYes) rfl scLs.nd (pi_range1 (by rfl) B.range (pa_cons (pe_ifExp (pt_cmpR op_eq (pv 2) pe_int (nomark _)) (pe_fn dr hr1 (by rfl) (pa_cons (pv 0) (pa_cons pe_int pa_nil))) pe_int) pa_nil)) (blkOk_by (own := [("turn", 3)]) (N := nLs) (sc := defScope sLSome) (by decide +kernel))
          (fun _ _ _ _ _ => pg_name (i := 3) scLs.nd rfl (.inl rfl)) (fun _ _ _ _ _ => pts_nil) (fun _ _ _ _ _ => pe_fn ld hr (by rfl) (pa_cons (pv 0) (pa_cons (pv 1) pa_nil)))) pa_nil)))))), ?_⟩
    refine ⟨.ref p, rfl, p, l, 5, rfl, Dk, by decide, by decide, fun H1 z D1 E1 z0 z1 => ⟨.int z, rfl, _, _, rfl, rfl, _, rfl, ite2 (fun c => ?_) (fun c => ?_)⟩⟩
    · exact ⟨.ref p, rfl, .int n, rfl, p, l, n, rfl, D1, n0, hn, fun H2 v T D2 E2 hv hT => q H2 v T D2 (Same.trans E1 E2) hv hT⟩
    · clear c
      dsimp only [tNext]
      refine ⟨.int n, rfl, .int z, rfl, rfl, _, rfl, ite2 (fun c => ?_) (fun c => ?_)⟩
      all_goals first
        | have ct := of_decide_eq_true c
          refine ⟨.ref p, rfl, p, l, 7, rfl, D1, by decide, by decide, fun H2 k D2 E2 k0 k1 => ⟨k, rfl, by omega, by omega, fun D nD => ?_⟩⟩
          have E12 : Ext p l H H2 := Same.trans E1 E2
          obtain ⟨m, hm, hk⟩ : ∃ m : Nat, k.toNat = m ∧ m ≤ 7 := ⟨k.toNat, rfl, by omega⟩
          rw [hm]
          clear ct c k0 k1 E2
        | refine ⟨(0 : Int), rfl, by decide, by decide, fun D nD => ?_⟩
          obtain ⟨H2, eH, D2, E12⟩ : ∃ H2, H2 = H1 ∧ Deck H2 p l ∧ Ext p l H H2 := ⟨H1, rfl, D1, E1⟩
          rw [← eH] at nD ⊢
          obtain ⟨m, hm, hk⟩ : ∃ m : Nat, (0 : Int).toNat = m ∧ m ≤ 7 := ⟨0, rfl, by decide⟩
          rw [hm]
          clear c
      all_goals
        obtain ⟨nDp, nDl⟩ := D2.new nD
        have nD0 : H D = none := E12.free nD nDp nDl
        refine lc_it (walk_rg (n := m)) (fun i G => ∃ acc ms, G D = some (.lst acc) ∧ Deck G p l ∧ Ext p l H G ∧ acc.length = i ∧ DeedsAt n G acc ms) ⟨[], [], upd_same, D2.mut nDp nDl, E12.mut nD0, rfl, .nil⟩ (fun _ _ _ _ => trivial) ?_ ?_
        · rintro i x _ G hi ⟨acc, ms, hD, DG, EG, hal, hde⟩ ⟨rfl, rfl⟩
          refine ⟨rfl, ?_⟩
          dsimp only [tYes]
          rw [if_pos rfl]
          refine ⟨.ref p, rfl, .int n, rfl, p, l, n, rfl, DG, n0, hn, fun G2 dv md DG2 EG2 hdv hdd => ?_⟩
          have hD2 := EG2.at_ nDp nDl hD
          have ts : TS G2 (upd G2 D (.lst (acc ++ [dv]))) := TS.lst hD2
          exact ⟨acc, hD2, szm (by omega), acc ++ [dv], ms ++ [md], upd_same, DG2.mut nDp nDl, Ext.mut (Same.trans EG EG2) nD0, by rw [List.length_append, hal]; rfl, ((hde.upT (TS.deck DG EG2)).snoc hdv hdd).upT ts⟩
        · rintro G ⟨acc, ms, hD, DG, EG, hal, hde⟩
          refine ⟨n, D, acc, ms, rfl, n0, hn, hD, hde.len, hde.at_, fun m hm => (hde.ok m hm).in_made hn, fun H' v s' hv => q H' v _ (DG.up s') (Same.trans EG (Ext.of s')) hv (made_ok hn hde.ok)⟩
end
end Kr
namespace Kr
open PySem PySem.Spec PyProof.Rows L2
/-! ### zip of a list and a tuple -/
section
variable {prog : Program} {w : World} {A : Around} {E : Value → Shared → Prop} {s : Shared}
abbrev Rest (h h' : Heap) (z TO i1 i2 : Addr) : Prop := ∀ c o, c ≠ z → c ≠ TO → c ≠ i1 → c ≠ i2 → h.get? c = some o → h'.get? c = some o
theorem zlt_item {z TI TO i1 i2 l1 l2 : Addr} {k : Nat} {xs ys : Array Value} {x y a b : Value} {W : Value → Shared → Prop} (D : ZipApart z TI TO i1 i2 l1 l2) (gz : IsZip s.heap z TI TO .none) (gI : IsPair s.heap TI (.ref i1) (.ref i2)) (gO : IsPair s.heap TO a b)
    (f1 : s.heap.IsListIter i1 l1 k) (f2 : s.heap.IsTupleIter i2 l2 k) (c1 : s.heap.IsList l1 xs) (c2 : s.heap.IsTuple l2 ys) (ex : xs[k]? = some x) (ey : ys[k]? = some y)
    (fin : ∀ h', IsZip h' z TI TO (rawInt s.heap.objs.size) → IsPair h' TO x y → h'.IsListIter i1 l1 (k + 1) → h'.IsTupleIter i2 l2 (k + 1) → IsPair h' s.heap.objs.size x y → h'.objs.size = s.heap.objs.size + 1 → Rest s.heap h' z TO i1 i2 → W (.ref s.heap.objs.size) { s with heap := h' }) :
    wpAny (model prog w) A (Builtin.«zip.__next__» ⟨[.ref z], []⟩) (fun f s' => ∃ v, f = .done (.ret v) ∧ W v s') E s := by
  show wpAny _ _ (field (.ref z) 2 >>= _) _ _ _; refine wpAny_bind (wpAny_field gz rfl (x := .bool false) rfl ?_)
  show wpAny _ _ (field (.ref z) 3 >>= _) _ _ _; refine wpAny_bind (wpAny_field gz rfl (x := .ref TI) rfl (wpAny_bind (wpAny_seqItems gI rfl ?_)))
  show wpAny _ _ (Builtin.SmallTypes.ownedTupleIsFree (.ref z) >>= _) _ _ _; refine wpAny_bind ?_; unfold Builtin.SmallTypes.ownedTupleIsFree
  refine wpAny_bind (wpAny_field gz rfl (x := .none) rfl (wpAny_pure ?_)); simp only [if_true]
  refine wpAny_bind (wpAny_rule (wpAny_bind (wpAny_field gz rfl (x := .ref TO) rfl (wpAny_bind (wpAny_setField_rec gz (by simp) fun ha ga ea => ?_)))))
  replace ga : IsZip ha z TI TO .ellipsis := ga
  refine wpAny_bind ?_; simp only [List.zipIdx_cons, List.zipIdx_nil, List.forIn_cons, List.forIn_nil]
  refine wpAny_bind (wpAny_bind (wpAny_onRaise ?_)); show wpAny _ _ (Builtin.SmallTypes.nextOf (.ref i1) >>= _) _ _ _
  refine wpAny_bind (wpAny_nextOf_list_item (f1.extBut ea.extBut D.i1z) (c1.extBut ea.extBut D.l1z) ex fun hb fb eb => wpAny_pure ?_)
  have gb : IsPair hb TO a b := eb.extBut _ _ D.TOi1 (ea.extBut _ _ D.TOz gO)
  refine wpAny_bind (wpAny_seqItems gb rfl (wpAny_bind (wpAny_updateSeq_pair gb fun hc gc ec => wpAny_bind (wpAny_letGo (wpAny_pure ?_)))))
  replace gc : IsPair hc TO x b := gc
  refine wpAny_bind (wpAny_bind (wpAny_onRaise ?_)); show wpAny _ _ (Builtin.SmallTypes.nextOf (.ref i2) >>= _) _ _ _
  refine wpAny_bind (RZ.nextOf_tuple_item (((f2.extBut ea.extBut D.i2z).extBut eb.extBut D.i12.symm).extBut ec.extBut D.TOi2.symm) (((c2.extBut ea.extBut D.l2z).extBut eb.extBut D.l2i1).extBut ec.extBut D.l2TO) ey fun hd fd ed => wpAny_pure ?_)
  have gd : IsPair hd TO x b := ed.extBut _ _ D.TOi2 gc
  refine wpAny_bind (wpAny_seqItems gd rfl (wpAny_bind (wpAny_updateSeq_pair gd fun he ge ee => wpAny_bind (wpAny_letGo (wpAny_pure (wpAny_pure ?_))))))
  replace ge : IsPair he TO x y := ge
  refine wpAny_bind (wpAny_seqItems ge rfl (wpAny_bind (wpAny_newTuple ?_)))
  have size0 : he.objs.size = s.heap.objs.size := by rw [ee.1, ed.1, ec.1, eb.1, ea.1]
  have gz5 : IsZip he z TI TO .ellipsis := ee.extBut _ _ D.TOz.symm (ed.extBut _ _ D.i2z.symm (ec.extBut _ _ D.TOz.symm (eb.extBut _ _ D.i1z.symm ga)))
  have rest5 : Rest s.heap he z TO i1 i2 := fun c o n1 n2 n3 n4 q => ee.extBut _ _ n2 (ed.extBut _ _ n4 (ec.extBut _ _ n2 (eb.extBut _ _ n3 (ea.extBut _ _ n1 q))))
  have fa5 : he.IsListIter i1 l1 (k + 1) := ((fb.extBut ec.extBut D.TOi1.symm).extBut ed.extBut D.i12).extBut ee.extBut D.TOi1.symm
  have fb5 : he.IsTupleIter i2 l2 (k + 1) := fd.extBut ee.extBut D.TOi2.symm
  have ltz : z < he.objs.size := Heap.lt_size gz5
  show wpAny _ _ (Builtin.SmallTypes.ownedTupleHandOut (.ref z) (.ref he.objs.size) >>= _) _ _ _; refine wpAny_bind ?_; unfold Builtin.SmallTypes.ownedTupleHandOut
  have gz6 : IsZip (he.push { cls := .type "tuple", data := .seq #[x, y] }) z TI TO .ellipsis := Heap.get?_push_of_some _ gz5
  refine wpAny_bind (wpAny_setField_rec gz6 (by simp) fun hf gf ef => ?_)
  replace gf : IsZip hf z TI TO (rawInt he.objs.size) := gf
  refine wpAny_setField_rec gf (by simp) fun hg gg eg => ?_
  replace gg : IsZip hg z TI TO (rawInt he.objs.size) := gg
  have lift : ∀ c o, c ≠ z → he.get? c = some o → hg.get? c = some o := fun c o n q => eg.extBut _ _ n (ef.extBut _ _ n (Heap.get?_push_of_some _ q))
  have gT : IsPair hg he.objs.size x y := eg.extBut _ _ (Nat.ne_of_gt ltz) (ef.extBut _ _ (Nat.ne_of_gt ltz) (Heap.get?_push_size _ rfl))
  have sz8 : hg.objs.size = he.objs.size + 1 := by rw [eg.1, ef.1, Heap.size_push]
  rw [size0] at gg gT sz8
  refine wpAny_pure ⟨_, rfl, ?_⟩; show W (.ref he.objs.size) _; rw [size0]
  exact fin hg gg (lift _ _ D.TOz ge) (fa5.at fun o q => lift _ o D.i1z q) (fb5.at fun o q => lift _ o D.i2z q) gT sz8 fun c o n1 n2 n3 n4 q => lift c o n1 (rest5 c o n1 n2 n3 n4 q)
theorem zlt_end {z TI TO i1 i2 l1 l2 : Addr} {k : Nat} {xs ys : Array Value} {a b : Value} {W : Fin → Shared → Prop} (hh : A.handled = none) (D : ZipApart z TI TO i1 i2 l1 l2) (gz : IsZip s.heap z TI TO .none) (gI : IsPair s.heap TI (.ref i1) (.ref i2)) (gO : IsPair s.heap TO a b)
    (f1 : s.heap.IsListIter i1 l1 k) (f2 : s.heap.IsTupleIter i2 l2 k) (c1 : s.heap.IsList l1 xs) (c2 : s.heap.IsTuple l2 ys) (stop : xs[k]? = none ∨ ys[k]? = none)
    (out : ∀ h' e, Rest s.heap h' z TO i1 i2 → (∃ o, h'.get? e = some o ∧ o.cls = .type "StopIteration") → E (.ref e) { s with heap := h' }) : wpAny (model prog w) A (Builtin.«zip.__next__» ⟨[.ref z], []⟩) W E s := by
  show wpAny _ _ (field (.ref z) 2 >>= _) _ _ _; refine wpAny_bind (wpAny_field gz rfl (x := .bool false) rfl ?_)
  show wpAny _ _ (field (.ref z) 3 >>= _) _ _ _; refine wpAny_bind (wpAny_field gz rfl (x := .ref TI) rfl (wpAny_bind (wpAny_seqItems gI rfl ?_)))
  show wpAny _ _ (Builtin.SmallTypes.ownedTupleIsFree (.ref z) >>= _) _ _ _; refine wpAny_bind ?_; unfold Builtin.SmallTypes.ownedTupleIsFree
  refine wpAny_bind (wpAny_field gz rfl (x := .none) rfl (wpAny_pure ?_)); simp only [if_true]
  refine wpAny_bind (wpAny_rule (wpAny_bind (wpAny_field gz rfl (x := .ref TO) rfl (wpAny_bind (wpAny_setField_rec gz (by simp) fun ha ga ea => ?_)))))
  replace ga : IsZip ha z TI TO .ellipsis := ga
  refine wpAny_bind ?_; simp only [List.zipIdx_cons, List.zipIdx_nil, List.forIn_cons, List.forIn_nil]
  refine wpAny_bind (wpAny_bind (wpAny_onRaise ?_)); show wpAny _ _ (Builtin.SmallTypes.nextOf (.ref i1) >>= _) _ _ _
  cases ex : xs[k]? with
  | none =>
    refine wpAny_bind (wpAny_nextOf_list_end hh (f1.extBut ea.extBut D.i1z) (c1.extBut ea.extBut D.l1z) ex fun hb e eb stp => ?_)
    obtain ⟨oe, goe, ce⟩ := stp
    have gb : IsZip hb z TI TO .ellipsis := eb _ _ D.i1z.symm ga
    have nez : e ≠ z := fun q => by subst q; rw [gb] at goe; cases goe; simp at ce
    exact wpAny_setField_rec gb (by simp) fun hc _ ec => out hc e (fun c o n1 _ n3 _ q => ec.extBut _ _ n1 (eb _ _ n3 (ea.extBut _ _ n1 q))) ⟨oe, ec.extBut _ _ nez goe, ce⟩
  | some x =>
    have ey : ys[k]? = none := by rcases stop with q | q; rw [ex] at q; cases q; exact q
    refine wpAny_bind (wpAny_nextOf_list_item (f1.extBut ea.extBut D.i1z) (c1.extBut ea.extBut D.l1z) ex fun hb fb eb => wpAny_pure ?_)
    have gb : IsPair hb TO a b := eb.extBut _ _ D.TOi1 (ea.extBut _ _ D.TOz gO)
    refine wpAny_bind (wpAny_seqItems gb rfl (wpAny_bind (wpAny_updateSeq_pair gb fun hc gc ec => wpAny_bind (wpAny_letGo (wpAny_pure ?_)))))
    refine wpAny_bind (wpAny_bind (wpAny_onRaise ?_)); show wpAny _ _ (Builtin.SmallTypes.nextOf (.ref i2) >>= _) _ _ _
    refine wpAny_bind (RZ.nextOf_tuple_end hh (((f2.extBut ea.extBut D.i2z).extBut eb.extBut D.i12.symm).extBut ec.extBut D.TOi2.symm) (((c2.extBut ea.extBut D.l2z).extBut eb.extBut D.l2i1).extBut ec.extBut D.l2TO) ey fun hd e ed stp => ?_)
    obtain ⟨oe, goe, ce⟩ := stp
    have gd : IsZip hd z TI TO .ellipsis := ed _ _ D.i2z.symm (ec.extBut _ _ D.TOz.symm (eb.extBut _ _ D.i1z.symm ga))
    have nez : e ≠ z := fun q => by subst q; rw [gd] at goe; cases goe; simp at ce
    exact wpAny_setField_rec gd (by simp) fun he _ ee => out he e (fun c o n1 n2 n3 n4 q => ee.extBut _ _ n1 (ed _ _ n4 (ec.extBut _ _ n2 (eb.extBut _ _ n3 (ea.extBut _ _ n1 q))))) ⟨oe, ee.extBut _ _ nez goe, ce⟩
/-- the zip object -/
abbrev q1 (h : Heap) (l1 : Addr) : Heap := h.push { cls := .type "list_iterator", data := .fields #[.ref l1, .int 0 0] }
abbrev q2 (h : Heap) (l1 l2 : Addr) : Heap := (q1 h l1).push { cls := .type "tuple_iterator", data := .fields #[.ref l2, .int 0 0] }
abbrev q3 (h : Heap) (l1 l2 : Addr) : Heap := (q2 h l1 l2).push { cls := .type "tuple", data := .seq #[.ref h.objs.size, .ref (q1 h l1).objs.size] }
abbrev q4 (h : Heap) (l1 l2 : Addr) : Heap := (q3 h l1 l2).push { cls := .type "tuple", data := .seq #[.none, .none] }
abbrev q5 (h : Heap) (l1 l2 : Addr) : Heap := (q4 h l1 l2).push { cls := .type "zip", data := .fields #[.none, .bool false, .bool false, .ref (q2 h l1 l2).objs.size, .ref (q3 h l1 l2).objs.size] }
theorem meets_zlt (l1 l2 : Addr) (xs ys : Array Value) : Meets (Builtin.«zip.__new__» ⟨[.type "zip", .ref l1, .ref l2], []⟩) (fun _ R s => s.heap.IsList l1 xs ∧ s.heap.IsTuple l2 ys ∧ R (.ok (.ret (.ref (q4 s.heap l1 l2).objs.size))) { s with heap := q5 s.heap l1 l2 }) :=
  .of_wp fun prog w A R s h => by
    obtain ⟨hp, g, d, tk, os⟩ := s; obtain ⟨c1, c2, h⟩ := h
    have hsub := sub_zip
    have L1 : Heap.IsList (Shared.heap ⟨hp, g, d, tk, os⟩) l1 xs := c1
    have L2 : Heap.IsTuple (Shared.heap ⟨hp.push { cls := .type "list_iterator", data := .fields #[.ref l1, .int 0 0] }, g, d, tk, os⟩) l2 ys := Heap.IsTuple.push c2 _
    wp_walk using wpAny_pyIter_list L1, wpAny_pyIter_tuple L2
    exact ⟨_, rfl, h⟩
theorem call_zlt {l1 l2 : Addr} {xs ys : Array Value} {W : Value → Shared → Prop} (c1 : s.heap.IsList l1 xs) (c2 : s.heap.IsTuple l2 ys)
    (h : ∀ h', IsZip h' (s.heap.objs.size + 4) (s.heap.objs.size + 2) (s.heap.objs.size + 3) .none → IsPair h' (s.heap.objs.size + 2) (.ref s.heap.objs.size) (.ref (s.heap.objs.size + 1)) → IsPair h' (s.heap.objs.size + 3) .none .none → h'.IsListIter s.heap.objs.size l1 0 → h'.IsTupleIter (s.heap.objs.size + 1) l2 0 →
      (∀ c o, s.heap.get? c = some o → h'.get? c = some o) → W (.ref (s.heap.objs.size + 4)) { s with heap := h' }) : wpAny (model prog w) A (call (.type "zip") [.ref l1, .ref l2]) W E s := by
  refine callType_new F.called_zip (by decide) (F.typeCall_zip_2 _ _) (F.newCall_zip_2 _ _) (fun ob => F.args_object_init_3 ob _ _) F.entry_zip_new (meets_zlt l1 l2 xs ys) ⟨c1, c2, ?_⟩
  have n1 : (q1 s.heap l1).objs.size = s.heap.objs.size + 1 := Heap.size_push ..
  have n2 : (q2 s.heap l1 l2).objs.size = s.heap.objs.size + 2 := by rw [Heap.size_push, n1]
  have n3 : (q3 s.heap l1 l2).objs.size = s.heap.objs.size + 3 := by rw [Heap.size_push, n2]
  have n4 : (q4 s.heap l1 l2).objs.size = s.heap.objs.size + 4 := by rw [Heap.size_push, n3]
  have p5 : (q5 s.heap l1 l2).get? (q4 s.heap l1 l2).objs.size = some _ := Heap.get?_push_size _ rfl
  have p4 : (q5 s.heap l1 l2).get? (q3 s.heap l1 l2).objs.size = some _ := Heap.get?_push_of_some _ (Heap.get?_push_size _ rfl)
  have p3 : (q5 s.heap l1 l2).get? (q2 s.heap l1 l2).objs.size = some _ := Heap.get?_push_of_some _ (Heap.get?_push_of_some _ (Heap.get?_push_size _ rfl))
  have p2 : (q5 s.heap l1 l2).get? (q1 s.heap l1).objs.size = some _ := Heap.get?_push_of_some _ (Heap.get?_push_of_some _ (Heap.get?_push_of_some _ (Heap.get?_push_size _ rfl)))
  have p1 : (q5 s.heap l1 l2).get? s.heap.objs.size = some _ := Heap.get?_push_of_some _ (Heap.get?_push_of_some _ (Heap.get?_push_of_some _ (Heap.get?_push_of_some _ (Heap.get?_push_size _ rfl))))
  show _ ∧ _; rw [n2, n3, n4] at p5; rw [n1, n2] at p3; rw [n3] at p4; rw [n1] at p2; rw [n4]
  exact ⟨⟨_, p5, rfl⟩, h _ p5 p3 p4 ⟨_, p1, rfl, rfl⟩ ⟨_, p2, rfl, rfl⟩ fun c o x => Heap.get?_push_of_some _ (Heap.get?_push_of_some _ (Heap.get?_push_of_some _ (Heap.get?_push_of_some _ (Heap.get?_push_of_some _ x))))⟩
end
/-- the walk of it: a new pair each turn -/
def ItzM (K : PySem.W.Frag) (a b : Addr) : It :=
  ⟨fun i H => ∃ (xs ys : List V) (x y : V), SqL K H a xs ∧ SqT K H b ys ∧ xs[i]? = some x ∧ ys[i]? = some y,
    fun i H v H' => ∃ T x y, v = .ref T ∧ H T = none ∧ H' = upd H T (.tup [x, y]) ∧ (∀ xs, SqL K H a xs → xs[i]? = some x) ∧ ∀ ys, SqT K H b ys → ys[i]? = some y,
    fun i H => ∃ xs ys : List V, SqL K H a xs ∧ SqT K H b ys ∧ (xs.length ≤ i ∨ ys.length ≤ i)⟩
theorem turn_zlt {P : Program} {w : World} {K : PySem.W.Frag} {elts : List Expr} {kk : Nat} {tpos : Pos} {a b z TI TO i1 i2 : Addr} (D : ZipApart z TI TO i1 i2 a b) :
    Turn P w K (.Tuple elts kk tpos) (ItzM K a b) [z, TI, TO, i1, i2] z (fun i h => IsZip h z TI TO .none ∧ IsPair h TI (.ref i1) (.ref i2) ∧ (∃ x y, IsPair h TO x y) ∧ h.IsListIter i1 a i ∧ h.IsTupleIter i2 b i) where
  mem := by simp
  obj := fun i h st c hc => by
    obtain ⟨gz, gI, ⟨x, y, gO⟩, ⟨o1, e1, _, d1⟩, ⟨o2, e2, _, d2⟩⟩ := st
    have cases5 : c = z ∨ c = TI ∨ c = TO ∨ c = i1 ∨ c = i2 := by simpa using hc
    exact cases5.elim (fun e => e ▸ ⟨_, gz, fun v q => nomatch q⟩) fun r => r.elim (fun e => e ▸ ⟨_, gI, fun v q => nomatch q⟩) fun r => r.elim (fun e => e ▸ ⟨_, gO, fun v q => nomatch q⟩) fun r => r.elim (fun e => e ▸ ⟨o1, e1, fun v q => by rw [d1] at q; cases q⟩) fun e => e ▸ ⟨o2, e2, fun v q => by rw [d2] at q; cases q⟩
  keep := fun i h h' ⟨gz, gI, ⟨x, y, gO⟩, f1, f2⟩ k => ⟨k z (by simp) _ gz, k TI (by simp) _ gI, ⟨x, y, k TO (by simp) _ gO⟩, f1.at fun o q => k i1 (by simp) o q, f2.at fun o q => k i2 (by simp) o q⟩
  item := by
    intro X eP ew eK calm i pins s σ H E I fp st hg
    subst eP ew eK
    obtain ⟨gz, gI, ⟨x0, y0, gO⟩, f1, f2⟩ := st
    obtain ⟨xs, ys, x, y, qx, qy, ex, ey⟩ := hg
    obtain ⟨its, rv, p, _⟩ := I.list qx
    obtain ⟨its2, rv2, p2, _⟩ := I.tuple qy
    obtain ⟨u, hu, ru⟩ := rv.get ex
    obtain ⟨u2, hu2, ru2⟩ := rv2.get ey
    have zl : z < s.heap.objs.size := Heap.lt_size gz
    have hT : s.TypeIs (.ref z) "zip" := ⟨_, gz, rfl⟩
    unfold pyNext
    refine wpAny_bind (wpAny_attempt (wpAny_callSpecial?_slot (name := Str.ofString "__next__") hT F.slot_zip_next (wpAny_call_entry F.slot_zip_next hT F.entry_zip_next (zlt_item D gz gI gO f1 f2 p.isList p2 (x := u) (y := u2) (by simpa using hu) (by simpa using hu2) fun h' z' o' w1 w2 gT gs rst => wpAny_pure ?_) (F.args_zip_next_1 _))))
    refine ⟨_, rfl, wpAny_letOwnedTupleGo_zip (s := { s with heap := h' }) z' fun h'' z'' sb => ?_⟩
    have gT2 : h''.get? s.heap.objs.size = some { cls := .type "tuple", data := .seq #[u, u2] } := (sb.2 _ (Nat.ne_of_gt zl)).trans gT
    have rst2 : ∀ c o, c ∉ [z, TI, TO, i1, i2] → s.heap.get? c = some o → h''.get? c = some o := fun c o nb q => by
      simp only [List.mem_cons, List.not_mem_nil, or_false, not_or] at nb
      exact (sb.2 c nb.1).trans (rst c o nb.1 nb.2.2.1 nb.2.2.2.1 nb.2.2.2.2 q)
    have I1 : Inv X pins σ (upd H s.heap.objs.size (.tup [x, y])) { s with heap := h'' } :=
      I.turnedNew (t' := s.toks) (ch := [z, TI, TO, i1, i2]) rst2 fp (Nat.le_refl _) ⟨by show 2 ≤ sizeLine; decide, [u, u2], .cons ru (.cons ru2 .nil), ⟨_, gT2, rfl, _, rfl⟩⟩
    refine ⟨.ref s.heap.objs.size, _, I1, rfl, ⟨_, x, y, rfl, I.hok.fresh (Nat.le_refl _), rfl, fun l hl => by rw [I.list_inj hl qx]; exact ex, fun l hl => by rw [I.tuple_inj hl qy]; exact ey⟩, ⟨z'', (sb.2 _ D.TIz).trans (rst _ _ D.TIz D.TITO D.TIi1 D.TIi2 gI), ⟨u, u2, (sb.2 _ D.TOz).trans o'⟩, w1.at fun o q => (sb.2 _ D.i1z).trans q, w2.at fun o q => (sb.2 _ D.i2z).trans q⟩, fun c hcm => ?_⟩
    have lt : c < s.heap.objs.size := by
      have cases5 : c = z ∨ c = TI ∨ c = TO ∨ c = i1 ∨ c = i2 := by simpa using hcm
      obtain ⟨_, e1, _⟩ := f1
      obtain ⟨_, e2, _⟩ := f2
      exact cases5.elim (fun e => e ▸ zl) fun r => r.elim (fun e => e ▸ Heap.lt_size gI) fun r => r.elim (fun e => e ▸ Heap.lt_size gO) fun r => r.elim (fun e => e ▸ Heap.lt_size e1) fun e => e ▸ Heap.lt_size e2
    rw [upd_ne (Nat.ne_of_lt lt)]
    exact (fp c hcm).1
  done := by
    intro X eP ew eK calm i pins s σ H E I fp st hg
    subst eP ew eK
    obtain ⟨gz, gI, ⟨x0, y0, gO⟩, f1, f2⟩ := st
    obtain ⟨xs, ys, qx, qy, stop⟩ := hg
    obtain ⟨its, rv, p, _⟩ := I.list qx
    obtain ⟨its2, rv2, p2, _⟩ := I.tuple qy
    have l1 := rv.length
    have l2 := rv2.length
    have he : its.toArray[i]? = none ∨ its2.toArray[i]? = none := stop.elim (fun q => .inl (by simp; omega)) fun q => .inr (by simp; omega)
    have hT : s.TypeIs (.ref z) "zip" := ⟨_, gz, rfl⟩
    unfold pyNext
    refine wpAny_bind (wpAny_attempt (wpAny_callSpecial?_slot (name := Str.ofString "__next__") hT F.slot_zip_next (wpAny_call_entry F.slot_zip_next hT F.entry_zip_next (zlt_end (I.ok.hd calm) D gz gI gO f1 f2 p.isList p2 he fun h' e rst stp => ?_) (F.args_zip_next_1 _))))
    obtain ⟨o, ho, hc⟩ := stp
    refine wpAny_bind (wpAny_isInstance (T := "StopIteration") (b := true) ⟨o, ho, hc⟩ isSubtype_stop (wpAny_pure ⟨rfl, I.turnedL (t' := s.toks) (ch := [z, TI, TO, i1, i2]) (fun c o nb q => ?_) fp⟩))
    simp only [List.mem_cons, List.not_mem_nil, or_false, not_or] at nb
    exact rst c o nb.1 nb.2.2.1 nb.2.2.2.1 nb.2.2.2.2 q
  self := fun A i s Q E st h => wpAny_pyIter_zip st.1 h
def iZipM (K : PySem.W.Frag) (ta : TA) : TI := fun σ H R => ta σ H fun vs H1 => ∃ a b xs ys, vs = [.ref a, .ref b] ∧ SqL K H1 a xs ∧ SqT K H1 b ys ∧ R (ItzM K a b) H1
theorem pi_zipM {X : Cx} {e e2 : Expr} {ta : TA} {p pos tpos : Pos} {elts : List Expr} {kk : Nat} (hg : Gl X "zip") (hm : X.mg "zip" = none) (ha : PA X [e, e2] ta)
    (hs : starEach [e, e2] X.env = (false, eval e X.env) :: starEach [e2] X.env := by rfl) (hpl : (backTo pos (starEach [e2] X.env)).any (·.1) = false := by rfl) : PI X (.Tuple elts kk tpos) (.Call (.Name "zip" p) [e, e2] [] pos) (iZipM X.K ta) := by
  refine ⟨fun pn sh st hp R Iv hh => Call_ (ld_blt Iv hg hm PyProof.Rows.boot_zip (PyProof.Rows.callWith_type1 (thn (ha.run pos pn sh st hp _ Iv hh) fun us s1 ⟨vs, H1, I1, r1, q1⟩ => ?_) hs hpl))⟩
  obtain ⟨a, b, xs, ys, rfl, qx, qy, q⟩ := q1
  cases r1 with
  | cons r rr =>
    cases rr with
    | cons r' rr =>
      cases rr; cases r; cases r'
      obtain ⟨its, rv, p1, _⟩ := I1.list qx
      obtain ⟨its2, rv2, p2, _⟩ := I1.tuple qy
      obtain ⟨o2, ho2, _⟩ := id p2
      refine call_zlt p1.isList p2 fun h' gz gI gO f1 f2 hk => wpAny_pyIter_zip gz ?_
      have I2 : Inv X pn st H1 { s1 with heap := h' } := I1.kept (t' := s1.toks) hk
      refine ⟨s1.heap.objs.size + 4, [s1.heap.objs.size + 4, s1.heap.objs.size + 2, s1.heap.objs.size + 3, s1.heap.objs.size, s1.heap.objs.size + 1], _, _, H1, rfl, I2, turn_zlt (PySem.W.ktu_apart s1.heap.objs.size a b p1.lt (Heap.lt_size ho2)), ⟨gz, gI, ⟨_, _, gO⟩, f1, f2⟩, fun c hcm => ?_, q⟩
      have le : s1.heap.objs.size ≤ c := by
        have cases5 : c = s1.heap.objs.size + 4 ∨ c = s1.heap.objs.size + 2 ∨ c = s1.heap.objs.size + 3 ∨ c = s1.heap.objs.size ∨ c = s1.heap.objs.size + 1 := by simpa using hcm
        rcases cases5 with q | q | q | q | q <;> rw [q] <;> first | exact Nat.le_add_right _ _ | exact Nat.le_refl _
      exact I1.fpOk le (I1.hok.fresh le)
theorem walk_zlt {K : PySem.W.Frag} {a b : Addr} {xs ys : List V} {n : Nat} (hn : n = min xs.length ys.length) : Walk (ItzM K a b) n (fun H => SqL K H a xs ∧ SqT K H b ys) (YPair (fun i => xs[i]?) (fun i => ys[i]?)) := by
  subst hn
  refine ⟨fun i _ hi q => ?_, fun _ ⟨g1, g2⟩ => ⟨xs, ys, g1, g2, (by omega)⟩, fun i H v H' _ ⟨g1, g2⟩ ⟨T, x, z, t1, t2, t3, t4, t5⟩ => ⟨T, x, z, t1, t2, t3, t4 _ g1, t5 _ g2⟩⟩
  obtain ⟨m1, m2⟩ := Nat.lt_min.mp hi
  exact ⟨xs, ys, xs[i], ys[i], q.1, q.2, List.getElem?_eq_getElem m1, List.getElem?_eq_getElem m2⟩
end Kr
namespace Kr
open PySem PySem.Spec PyProof.Rows L2
section
variable {P : Program} {w : World} {K : PySem.W.Frag} {mg : Str → Option Value} {base : Heap}
abbrev nBo : List Str := ["n", "one", "other", "entries", "aim", "entry", "onward", "place"]
theorem f_both {f : Addr} {fd : FuncData} (F : Fun K "both" "both" sBoth f fd) (B : Bi mg) (ai : Ok P w K mg base 4 "aims_of" ["n", "table"] spAims) : FnOk P w K mg base CX0 5 f fd ["n", "one", "other"] spBoth := by
  have scBo : FnScope nBo ["n", "one", "other"] (defScope sBoth) := ⟨rfl, rfl, rfl, by decide +kernel, rfl, by decide +kernel, by decide +kernel⟩
  refine F.ok scBo (fun vs H Q E h => ?_) (fun cdv A outer s H vs Q E hr h => ?_)
  · obtain ⟨n, v, u, T, U, rfl, _⟩ := h
    rfl
  · obtain ⟨n, v, u, T, U, rfl, hn, hv, hu', hTl, hT, hUl, hU, q⟩ := h
    refine ⟨_, pss_cons (ps_set (i := 3) scBo.nd rfl (.inl rfl) (pe_lst pa_nil))
      (pss_cons (ps_for PassesOwn.never rfl (pi_zipM (by rfl) B.zip (pa_cons (pe_fn ai hr (by rfl) (pa_cons (pv 0) (pa_cons (pv 1) pa_nil))) (pa_cons (pv 1) pa_nil))) (pg_tup rfl (pgs_cons (pg_name (i := 4) scBo.nd rfl (.inl rfl)) (pgs_cons (pg_name (i := 5) scBo.nd rfl (.inl rfl)) pgs_nil)))
        (pss_cons (ps_set (i := 6) scBo.nd rfl (.inr rfl) (pe_ix ix_tup (pv 2) (pv 4) (fun _ _ => rfl)))
        (pss_one (ps_expr (pe_bm PySem.F.plainAttrs_list PySem.F.slot_list_append PySem.F.type_list_append mt_append (pv 3) (pa_cons (pe_callTy call_tuple_of (by rfl) B.tuple (by decide +kernel) (pa_cons
          (pe_lc (own := [("place", 7)]) (g := gName 7) (tt := tYes) rfl scBo.nd (pi_tup (pv 5)) (blkOk_by (own := [("place", 7)]) (N := nBo) (sc := defScope sBoth) (by decide +kernel)) (fun _ _ _ _ _ => pg_name (i := 7) scBo.nd rfl (.inl rfl)) (fun _ _ _ _ _ => pts_nil)
            (fun _ _ _ _ _ => pe_ifExp (pt_cmpR op_eq (pv 7) (pe_un un_neg pe_int) (nomark _)) (pe_un un_neg pe_int) (pe_ix (r := rIxT K) ix_tup (pv 6) (pv 7) (fun _ _ => rfl)))) pa_nil)) pa_nil))))))
      (pss_one (ps_ret (pe_callTy call_tuple_of (by rfl) B.tuple (by decide +kernel) (pa_cons (pv 3) pa_nil))))), ?_⟩
    refine ⟨by show 0 ≤ sizeLine; decide, fun en nen => ?_⟩
    have s1 := same_new (o := .lst []) nen
    have hen : upd H en (.lst []) en = some (.lst []) := upd_same
    have nf : ∀ b o, H b = some o → b ≠ en := fun b o hb => ne_of_none hb nen
    generalize upd H en (.lst []) = H1 at hen s1
    refine ⟨.int n, rfl, v, rfl, n, v, T, rfl, hn, hv.up s1, hTl, fun e he => (hT e he).1, fun H2 ad s2 nad had => ?_⟩
    have s12 := s1.trans s2
    have hen2 := s2 _ _ hen
    have hv2 := hv.up s12
    have hu2 := hu'.up s12
    obtain ⟨va, xs, rfl, hva, qx⟩ := Dq.tup_inv hv2
    obtain ⟨ua, us, rfl, hua, qu⟩ := Dq.tup_inv hu2
    have nva : va ≠ en := ne_of hva hen2 (by intro z; cases z)
    have nua : ua ≠ en := ne_of hua hen2 (by intro z; cases z)
    have nad2 : ad ≠ en := (ne_of_none hen nad).symm
    have hxl : xs.length = T.length := by rw [qx.len, List.length_map]
    have hul : us.length = 2 ^ n := by rw [qu.len, List.length_map, hUl]
    have hail : ((aimsT n T).map V.int).length = T.length := by unfold aimsT; rw [List.length_map, List.length_map]
    refine ⟨.ref va, rfl, ad, va, _, xs, rfl, SqL.of had, SqT.of hva, for_it (walk_zlt (n := T.length) (by omega)) (fun i σ G => ∃ (v4 v5 v6 : Option V) (acc : List V), σ = [some (.int n), some (.ref va), some (.ref ua), some (.ref en), v4, v5, v6, none] ∧
        (∀ b o, b ≠ en → H2 b = some o → G b = some o) ∧ G en = some (.lst acc) ∧ DqA G acc ((T.take i).map fun e => entD (bothE n U e)))
      ⟨_, _, _, [], rfl, fun _ _ _ h => h, hen2, .nil⟩ (fun i σ G _ ⟨_, _, _, _, _, k, _⟩ => ⟨SqL.of (k _ _ nad2 had), SqT.of (k _ _ nva hva)⟩) ?_ ?_⟩
    · rintro i _ σ G _ hi ⟨v4, v5, v6, acc, rfl, k, hG, qac⟩ ⟨t0, x1, x2, rfl, nt0, rfl, e1, e2⟩
      obtain ⟨e, he, ea, rfl, hea⟩ := ents_get qx e2
      have e3 : x1 = .int ((num n (goalE n e) : Nat) : Int) := by
        have e4 : ((aimsT n T).map V.int)[i]? = some x1 := e1
        unfold aimsT at e4
        rw [List.getElem?_map, List.getElem?_map, he] at e4
        exact (Option.some.inj e4).symm
      subst e3
      have st0 := same_new (o := .tup [.int ((num n (goalE n e) : Nat) : Int), .ref ea]) nt0
      have nea : ea ≠ en := ne_of hea hen2 (by intro z; cases z)
      have hea' := st0 _ _ (k _ _ nea hea)
      obtain ⟨hgo, hel, hex⟩ := hT e (List.mem_of_getElem? he)
      have hnum := all_num hn hgo
      have acl : acc.length = i := by
        rw [qac.len, List.length_map, List.length_take]
        omega
      have hG0 := st0 _ _ hG
      have qac0 := qac.up st0
      refine ⟨t0, [.int ((num n (goalE n e) : Nat) : Int), .ref ea], rfl, SqT.of upd_same, rfl, .int ((num n (goalE n e) : Nat) : Int), [.ref ea], rfl, .ref ea, [], rfl, rfl, ?_⟩
      have k0 : ∀ b o, b ≠ en → H2 b = some o → upd G t0 (.tup [.int ((num n (goalE n e) : Nat) : Int), .ref ea]) b = some o := fun b o hb ho => st0 _ _ (k _ _ hb ho)
      generalize upd G t0 (.tup [.int ((num n (goalE n e) : Nat) : Int), .ref ea]) = G1 at hea' hG0 qac0 k0
      obtain ⟨uv, huv⟩ : ∃ uv, us[num n (goalE n e)]? = some uv := ⟨_, List.getElem?_eq_getElem (by omega)⟩
      obtain ⟨ue, hue, uea, rfl, huea⟩ := ents_get qu huv
      have hue2 : U.getD (num n (goalE n e)) [] = ue := getD_of hue
      have huel := hU ue (List.mem_of_getElem? hue)
      have nuea : uea ≠ en := ne_of huea hen2 (by intro z; cases z)
      refine ⟨.ref ua, rfl, .int ((num n (goalE n e) : Nat) : Int), rfl, ua, us, (num n (goalE n e) : Nat), .ref uea, rfl, rfl, SqT.of (k0 _ _ nua hua), atI_nat huv, ?_⟩
      have hue3 := k0 _ _ nuea huea
      dsimp only [tNext]
      refine ⟨.ref en, rfl, .inl ⟨rfl, _, SqL.of hG0⟩, .ref ea, rfl, ea, rfl, ⟨_, SqT.of hea'⟩, fun D nD => ?_⟩
      refine lc_itF (walk_tup (K := K) (a := ea) (xs := e.map V.int)) (fun j => .int (if e.getD j 0 = -1 then -1 else ue.getD (e.getD j 0).toNat 0)) nD (by rw [List.length_map]; omega) (fun _ _ => rfl) (fun G s => SqT.of (s _ _ hea')) (fun j y G3 G3' C Cn hj s4 hy c => ?_) (fun G4 bs s4 hD qb => ?_)
      · obtain ⟨rfl, hy⟩ := hy
        rw [List.length_map] at hj
        have ey : y = .int (e.getD j 0) := by
          rw [List.getElem?_map, getD_get hj] at hy
          exact (Option.some.inj hy).symm
        subst ey
        have hxe := hex _ (List.mem_of_getElem? (getD_get hj))
        generalize e.getD j 0 = z at c hxe
        refine ⟨rfl, ?_⟩
        dsimp only [tYes]
        rw [if_pos rfl]
        refine ⟨.int z, rfl, 1, rfl, rfl, _, rfl, ?_⟩
        by_cases hz : z = -1
        · rw [decide_eq_true (show V.int z = V.int (-1) by rw [hz])]
          rw [if_pos hz] at c
          exact iteT ⟨1, rfl, c _ _ (Same.refl _) (.int _)⟩
        · rw [decide_eq_false (fun y => hz (V.int.inj y))]
          rw [if_neg hz] at c
          have hz2 := hxe.resolve_left hz
          obtain ⟨m, rfl⟩ : ∃ m : Nat, z = m := ⟨z.toNat, by omega⟩
          rw [Int.toNat_natCast] at c
          exact iteF ⟨.ref uea, rfl, .int m, rfl, uea, _, m, .int (ue.getD m 0), rfl, rfl, SqT.of (s4 _ _ hue3), atI_nat (by rw [List.getElem?_map, getD_get (by omega)]; rfl), c _ _ (Same.refl _) (.int _)⟩
      have em := map_getD (fun (z : Int) => PyData.int (if z = -1 then -1 else ue.getD z.toNat 0)) 0 e
      rw [List.length_map, em] at qb
      have ebs : bs = (bothE n U e).map V.int := dqa_int (by
        unfold bothE
        rw [hue2, List.map_map]
        exact qb)
      subst ebs
      refine ⟨D, _, rfl, .inl ⟨SqL.of hD, fun t2 nt2 => ?_⟩⟩
      have s5 := same_new (o := .tup ((bothE n U e).map V.int)) nt2
      have ht2 : upd G4 t2 (.tup ((bothE n U e).map V.int)) t2 = some (.tup ((bothE n U e).map V.int)) := upd_same
      have hG5 := s5 _ _ (s4 _ _ hG0)
      generalize upd G4 t2 (.tup ((bothE n U e).map V.int)) = G5 at s5 ht2 hG5
      have ts : TS G5 (upd G5 en (.lst (acc ++ [.ref t2]))) := TS.lst hG5
      refine ⟨en, acc, .ref t2, rfl, rfl, hG5, szl (by omega), _, _, _, _, rfl, fun b o hb ho => ?_, upd_same, ?_⟩
      · rw [upd_ne hb]
        exact s5 _ _ (s4 _ _ (k0 _ _ hb ho))
      · rw [take_snoc he]
        refine dqa_snoc (DqA.upT ts (flatTA_of fun d hd => ?_) ((qac0.up s4).up s5)) (Dq.upT ts (ent_flat _) (ent_at ht2))
        obtain ⟨l', _, rfl⟩ := List.mem_map.mp hd
        exact ent_flat _
    · rintro σ G ⟨v4, v5, v6, acc, rfl, k, hG, qac⟩
      rw [List.take_length] at qac
      refine ⟨.ref en, rfl, en, acc, rfl, .inl ⟨SqL.of hG, fun t nt => q _ _ (fun b' o hb => same_new nt _ _ (k _ _ (nf _ _ hb) (s12 _ _ hb))) (.tup upd_same ?_)⟩⟩
      unfold bothT
      rw [List.map_map]
      exact qac.up (same_new nt)
end
end Kr
namespace Kr
open PySem PySem.Spec PyProof.Rows L2
section
variable {P : Program} {w : World} {K : PySem.W.Frag} {mg : Str → Option Value} {base : Heap}
theorem f_still {f : Addr} {fd : FuncData} (F : Fun K "still" "still" sStill f fd) (B : Bi mg) (wt : Ok P w K mg base 3 "ways_table" ["n", "ways"] spWays) : FnOk P w K mg base CX0 4 f fd ["n"] spStill := by
  have scSt : FnScope ["n"] ["n"] (defScope sStill) := ⟨rfl, rfl, rfl, by decide +kernel, rfl, by decide +kernel, by decide +kernel⟩
  refine F.ok scSt (fun vs H Q E h => ?_) (fun cdv A outer s H vs Q E hr h => ?_)
  · obtain ⟨n, rfl, _⟩ := h
    rfl
  · obtain ⟨n, rfl, hn, q⟩ := h
    refine ⟨_, pss_one (ps_ret (pe_fn wt hr (by rfl) (pa_cons (pv 0) (pa_cons (pe_listRg rfl (by rfl) B.list (prg_1 (by rfl) B.range (pv 0))) pa_nil)))), ?_⟩
    refine ⟨.int n, rfl, .int n, rfl, (n : Int), rfl, RgOk.of_le (Int.le_refl _) (by omega) (by decide) (by omega), fun r nr => ?_⟩
    rw [rg_ups]
    exact ⟨n, r, ups n, rfl, hn, upd_same, by unfold ups; rw [List.length_map, List.length_range]; omega, fun H' v s hv => q _ _ ((same_new nr).trans s) hv⟩
end
end Kr
namespace Kr
open PySem PySem.Spec PyProof.Rows L2
theorem tabs_eqv : ∀ a b : List (List Int), PyData.eqvAll (a.map entD) (b.map entD) = decide (a = b)
  | [], [] => by simp [PyData.eqvAll]
  | [], _ :: _ => by simp [PyData.eqvAll]
  | _ :: _, [] => by simp [PyData.eqvAll]
  | x :: a, y :: b => by
    simp only [List.map_cons, PyData.eqvAll, ent_eqv, tabs_eqv a b]
    rw [Bool.eq_iff_iff]
    simp
theorem tab_eqv (T U : List (List Int)) : PyData.eqv (tabD T) (tabD U) = decide (T = U) := by
  simp only [tabD, PyData.eqv]
  exact tabs_eqv T U
theorem joinC {c : TT} {σ : L2.St} {H : Hp} {Q : Bool → Hp → Prop} (R : Bool → Hp → Prop) (h : ∀ b G, R b G → Q b G) (hc : ∀ Q' : Bool → Hp → Prop, (∀ b G, R b G → Q' b G) → c σ H Q') : c σ H Q := hc Q h
theorem joinE {t : TE} {σ : L2.St} {H : Hp} {Q : VK} (R : V → Hp → Prop) (h : ∀ b G, R b G → Q b G) (hc : ∀ Q' : VK, (∀ b G, R b G → Q' b G) → t σ H Q') : t σ H Q := hc Q h
theorem sm_ords {o : Nat} (h : o < 2 ^ 110) : Sm 2 ((140 + 1) * 2) (.list [.int (o : Int), .int (o : Int)]) := (sm_ord h).two (sm_ord h)
abbrev nLaw : List Str := ["script", "box", "seldom", "n", "table", "known", "least", "calm", "primes", "k", "p", "menu", "turn", "told", "further", "together"]
def spLaw (K : PySem.W.Frag) : Sp := fun vs H Q _ => ∃ (a : Addr) (ns : List Int), vs = [.ref a] ∧ SqL K H a (ns.map V.int) ∧ ns.length ≤ 63 ∧ ∀ H', Q (.bl true) H'
structure Top (P : Program) (w : World) (K : PySem.W.Frag) (mg : Str → Option Value) (base : Heap) : Prop where
  deck : Ok P w K mg base 1 "_law_box" ["script"] (spDeck K)
  draw : Ok P w K mg base 1 "_law_draw" ["box", "many"] spDraw
  pick : Ok P w K mg base 2 "_law_pick" ["box", "items"] spPick
  wound : OkG P w K mg base 8 "_law_is_wound" ["box"] spIsWound
  some : Ok P w K mg base 4 "_law_some" ["box", "n"] spDrawn
  ord : OkN P w K mg base 7 "order_of" ["n", "table"] ["table", "n"] spOrder
  least : Ok P w K mg base 4 "_law_least" ["n", "table"] spLeast
  still : Ok P w K mg base 4 "still" ["n"] spStill
  primes : Ok P w K mg base 1 "_law_primes" ["many"] spPrimes
  pow : OkN P w K mg base 7 "power" ["n", "table", "k"] ["k", "table", "n"] spPower
  often : Ok P w K mg base 4 "_law_often" ["n", "table", "many"] spPower
  far : Ok P w K mg base 2 "_law_far" ["box"] spFar
  both : Ok P w K mg base 5 "both" ["n", "one", "other"] spBoth
/-- what stays -/
structure A15 (n : Nat) (p l : Addr) (tv cv : V) (T : List (List Int)) (G : Hp) : Prop where
  D : Deck G p l
  tab : Dq G tv (tabD T)
  cal : Dq G cv (tabD (stillT n))
theorem A15.up {n : Nat} {p l : Addr} {tv cv : V} {T : List (List Int)} {G G' : Hp} (h : A15 n p l tv cv T G) (s : Same G G') : A15 n p l tv cv T G' := ⟨h.D.up s, h.tab.up s, h.cal.up s⟩
theorem A15.deck {n : Nat} {p l : Addr} {tv cv : V} {T : List (List Int)} {G G' : Hp} (h : A15 n p l tv cv T G) (D : Deck G' p l) (E : Ext p l G G') : A15 n p l tv cv T G' := ⟨D, Dq.upT (TS.deck h.D E) (tab_flat _) h.tab, Dq.upT (TS.deck h.D E) (tab_flat _) h.cal⟩
section
variable {P : Program} {w : World} {K : PySem.W.Frag} {mg : Str → Option Value} {base : Heap}
theorem scLaw : FnScope nLaw ["script"] (defScope sLaw) := ⟨rfl, rfl, rfl, by decide +kernel, rfl, by decide +kernel, by decide +kernel⟩
theorem ok_law {f : Addr} {fd : FuncData} (F : Fun K "law" "law" sLaw f fd) (B : Bi mg) (U : Top P w K mg base) : FnG P w K mg base CX0 9 f fd ["script"] (spLaw K) := by
  refine okG F scLaw (fun vs H Q E h => ?_) (fun cdv A outer s H vs Q E hg hr8 h => ?_)
  · obtain ⟨a, ns, rfl, _⟩ := h
    rfl
  · obtain ⟨sa, ns, rfl, hS, hlen, q⟩ := h
    have hr1 := hr8.mono (show 1 ≤ 8 by decide)
    have hr2 := hr8.mono (show 2 ≤ 8 by decide)
    have hr4 := hr8.mono (show 4 ≤ 8 by decide)
    have hr5 := hr8.mono (show 5 ≤ 8 by decide)
    have hr7 := hr8.mono (show 7 ≤ 8 by decide)
    have hu : (cxOf CX0 P w K mg base nLaw "law" (defScope sLaw) f cdv A outer s H E).A.units + 64 < cLine := hr8.units
    have cr := call_repr (X := (cxOf CX0 P w K mg base nLaw "law" (defScope sLaw) f cdv A outer s H E).nox) hg hr8.units
    refine ⟨_, pss_cons (ps_set (i := 1) scLaw.nd rfl (.inl rfl) (pe_fn U.deck hr1 (by rfl) (pa_cons (pv 0) pa_nil)))
      (pss_cons (ps_set (i := 2) scLaw.nd rfl (.inl rfl) (pe_fn U.draw hr1 (by rfl) (pa_cons (pv 1) (pa_cons pe_int pa_nil))))
      (pss_cons (ps_if (pt_cmpR (r := rIn K false) op_in_seq (pv 2) (pe_tup (pa_cons pe_int (pa_cons pe_int pa_nil))) rfl) (pss_one (ps_ret (pe_fnG U.wound hg hr8 (by rfl) (pa_cons (pv 1) pa_nil)))) pss_nil)
      (pss_cons (ps_set (i := 3) scLaw.nd rfl (.inr rfl) (pe_ifExp (pt_cmpR op_eq (pv 2) pe_int (nomark _)) pe_int (pe_fn U.pick hr2 (by rfl) (pa_cons (pv 1) (pa_cons (pe_lst (pa_cons pe_int (pa_cons pe_int (pa_cons pe_int (pa_cons pe_int (pa_cons pe_int (pa_cons pe_int pa_nil))))))) pa_nil)))))
      (pss_cons (ps_set (i := 4) scLaw.nd rfl (.inr rfl) (pe_fn U.some hr4 (by rfl) (pa_cons (pv 1) (pa_cons (pv 3) pa_nil))))
      (pss_cons (ps_asg (pe_tup (pa_cons (pe_callB cr (by rfl) B.repr (by decide +kernel) (pa_cons (pv 4) pa_nil)) (pa_cons (pe_fn U.least hr4 (by rfl) (pa_cons (pv 3) (pa_cons (pv 4) pa_nil))) pa_nil))) (pg_tup rfl (pgs_cons (pg_name (i := 5) scLaw.nd rfl (.inl rfl)) (pgs_cons (pg_name (i := 6) scLaw.nd rfl (.inr rfl)) pgs_nil))))
      (pss_cons (ps_if (pt_cmpR op_ne (pe_callB cr (by rfl) B.repr (by decide +kernel) (pa_cons (pe_lst (pa_cons (pe_fn U.ord.ok hr7 (by rfl) (pa_cons (pv 3) (pa_cons (pv 4) pa_nil))) (pa_cons (pe_fnN U.ord hr7 (by rfl) (pk_cons (pv 4) (pk_cons (pv 3) pk_nil))) pa_nil))) pa_nil)) (pe_callB cr (by rfl) B.repr (by decide +kernel) (pa_cons (pe_lst (pa_cons (pv 6) (pa_cons (pv 6) pa_nil))) pa_nil)) (nomark _)) (pss_one (ps_ret pe_bl)) pss_nil)
      (pss_cons (ps_asg (pe_tup (pa_cons (pe_fn U.still hr4 (by rfl) (pa_cons (pv 3) pa_nil)) (pa_cons (pe_fn U.primes hr1 (by rfl) (pa_cons (pv 6) pa_nil)) pa_nil))) (pg_tup rfl (pgs_cons (pg_name (i := 7) scLaw.nd rfl (.inr rfl)) (pgs_cons (pg_name (i := 8) scLaw.nd rfl (.inl rfl)) pgs_nil))))
      (pss_cons (ps_set (i := 8) scLaw.nd rfl (.inl rfl) (pe_ifExp (PW.pt (pw_or (pt_cmpR op_lt (pv 3) pe_int (nomark _)) (pw_or1 (pt_cmpR (op_eqN hu) (pv 8) (pe_lst pa_nil) (nomark _))))) (pv 8) (pe_lst (pa_cons (pe_fn U.pick hr2 (by rfl) (pa_cons (pv 1) (pa_cons (pv 8) pa_nil))) pa_nil))))
      (pss_cons (ps_if (PW.pt (pw_or (pt_cmpR op_eq (pv 3) pe_int (nomark _)) (pw_or1 (PW.pt (pw_and (pt_cmpR op_eq (pv 3) pe_int (nomark _)) (pw_and1 (pt_cmpR op_eq (pe_fn U.draw hr1 (by rfl) (pa_cons (pv 1) (pa_cons pe_int pa_nil))) pe_int (nomark _)))))))) (pss_cons (ps_set (i := 9) scLaw.nd rfl (.inl rfl) (pe_fn U.pick hr2 (by rfl) (pa_cons (pv 1) (pa_cons (pe_lst (pa_cons (pe_un un_neg pe_int) (pa_cons (pe_op op_sub (pe_op op_pow pe_int pe_int) (pe_fn U.draw hr1 (by rfl) (pa_cons (pv 1) (pa_cons pe_int pa_nil)))) (pa_cons (pe_un un_neg (pe_op op_pow pe_int pe_int)) pa_nil)))) pa_nil))))
        (pss_cons (ps_set (i := 9) scLaw.nd rfl (.inl rfl) (pe_ifExp (pt_cmpR op_eq (pv 3) pe_int (nomark _)) (pe_fn U.far hr2 (by rfl) (pa_cons (pv 1) pa_nil)) (pv 9)))
        (pss_one (ps_ret (pe_and (pe_cmpR op_eq (pe_callB cr (by rfl) B.repr (by decide +kernel) (pa_cons (pe_fn U.pow.ok hr7 (by rfl) (pa_cons (pv 3) (pa_cons (pv 4) (pa_cons (pv 9) pa_nil)))) pa_nil)) (pe_callB cr (by rfl) B.repr (by decide +kernel) (pa_cons (pe_fn U.often hr4 (by rfl) (pa_cons (pv 3) (pa_cons (pv 4) (pa_cons (pv 9) pa_nil)))) pa_nil)) (nomark _)) (pe_one (pe_or (pe_cmpR op_eq (pv 3) pe_int (nomark _)) (pe_one (pe_cmpR (op_eqD hu) (pe_fn U.pow.ok hr7 (by rfl) (pa_cons (pv 3) (pa_cons (pv 4) (pa_cons (pv 6) pa_nil)))) (pv 7) (nomark _)))))))))) pss_nil)
      (pss_cons (ps_if (PW.pt (pw_or (pt_cmpR (op_neD hu) (pe_fn U.pow.ok hr7 (by rfl) (pa_cons (pv 3) (pa_cons (pv 4) (pa_cons (pv 6) pa_nil)))) (pv 7) (nomark _)) (pw_or1 (pt_cmpR (op_neN hu) (pe_lc (own := [("p", 10)]) (g := gName 10) rfl scLaw.nd (pi_list (pv 8)) (blkOk_by (own := [("p", 10)]) (N := nLaw) (sc := defScope sLaw) (by decide +kernel)) (fun _ _ _ _ _ => pg_name (i := 10) scLaw.nd rfl (.inl rfl)) (fun _ _ _ _ _ => pts_one (pt_cmpR (r := rEqD K) (op_eqD (by exact hu)) (pe_fn U.pow.ok hr7 (by rfl) (pa_cons (pv 3) (pa_cons (pv 4) (pa_cons (pe_op op_fdivW (pv 6) (pv 10)) pa_nil)))) (pv 7) (nomark _))) (fun _ _ _ _ _ => pe_int)) (pe_lst pa_nil) (nomark _))))) (pss_one (ps_ret pe_bl)) pss_nil)
      (pss_cons (ps_set (i := 11) scLaw.nd rfl (.inl rfl) (pe_lst (pa_cons pe_int (pa_cons pe_int (pa_cons (pe_un un_neg pe_int) (pa_cons pe_int (pa_cons (pe_un un_neg pe_int) (pa_cons pe_int (pa_cons pe_int (pa_cons (pe_un un_neg pe_int) (pa_cons (pe_op op_add (pv 6) pe_int) (pa_cons (pe_op op_sub (pv 6) pe_int) (pa_cons (pe_un un_neg (pv 6)) pa_nil)))))))))))))
      (pss_cons (ps_if (PW.pt (pw_or (pt_cmpR op_eq (pv 3) pe_int (nomark _)) (pw_or1 (PW.pt (pw_and (pt_cmpR op_eq (pv 3) pe_int (nomark _)) (pw_and1 (pt_cmpR op_eq (pe_fn U.draw hr1 (by rfl) (pa_cons (pv 1) (pa_cons pe_int pa_nil))) pe_int (nomark _)))))))) (pss_one (ps_set (i := 11) scLaw.nd rfl (.inl rfl) (pe_op op_cat (pe_lst (pa_cons (pe_fn U.pick hr2 (by rfl) (pa_cons (pv 1) (pa_cons (pe_lst (pa_cons (pe_fn U.far hr2 (by rfl) (pa_cons (pv 1) pa_nil)) (pa_cons (pe_un un_neg (pe_fn U.far hr2 (by rfl) (pa_cons (pv 1) pa_nil))) (pa_cons (pe_op op_pow pe_int pe_int) (pa_cons (pe_un un_neg (pe_op op_pow pe_int pe_int)) pa_nil))))) pa_nil))) pa_nil)) (pv 11)))) pss_nil)
      (pss_cons (ps_for PassesOwn.never rfl (pi_range1 (by rfl) B.range (pa_cons (pe_op op_add (pe_op op_sub pe_int (pv 3)) pe_int) pa_nil)) (pg_name (i := 12) scLaw.nd rfl (.inl rfl))
        (pss_cons (ps_set (i := 9) scLaw.nd rfl (.inl rfl) (pe_ifExp (pt_cmpR op_eq (pv 12) pe_int (nomark _)) (pe_ix ix_list (pv 11) pe_int (fun _ _ => rfl)) (pe_fn U.pick hr2 (by rfl) (pa_cons (pv 1) (pa_cons (pe_slice sl_list (pv 11) (po_some pe_int) po_none) pa_nil)))))
        (pss_cons (ps_set (i := 13) scLaw.nd rfl (.inl rfl) (pe_ifExp (pt_cmpR op_eq (pv 12) pe_int (nomark _)) (pe_fnN U.pow hr7 (by rfl) (pk_cons (pv 9) (pk_cons (pv 4) (pk_cons (pv 3) pk_nil)))) (pe_fn U.pow.ok hr7 (by rfl) (pa_cons (pv 3) (pa_cons (pv 4) (pa_cons (pv 9) pa_nil))))))
        (pss_one (ps_if (pt_cmpR op_ne (pe_callB cr (by rfl) B.repr (by decide +kernel) (pa_cons (pv 13) pa_nil)) (pe_callB cr (by rfl) B.repr (by decide +kernel) (pa_cons (pe_fn U.often hr4 (by rfl) (pa_cons (pv 3) (pa_cons (pv 4) (pa_cons (pv 9) pa_nil)))) pa_nil)) (nomark _)) (pss_one (ps_ret pe_bl)) pss_nil)))))
      (pss_cons (ps_par (i := 9) (j := 14) rfl scLaw.nd rfl rfl (by decide) rfl rfl (pa_cons (pe_op op_sub (pe_fn U.draw hr1 (by rfl) (pa_cons (pv 1) (pa_cons pe_int pa_nil))) pe_int) (pa_cons (pe_op op_sub (pe_fn U.draw hr1 (by rfl) (pa_cons (pv 1) (pa_cons pe_int pa_nil))) pe_int) pa_nil)) (by rfl))
      (pss_cons (ps_set (i := 15) scLaw.nd rfl (.inl rfl) (pe_fn U.both hr5 (by rfl) (pa_cons (pv 3) (pa_cons (pe_fn U.pow.ok hr7 (by rfl) (pa_cons (pv 3) (pa_cons (pv 4) (pa_cons (pv 9) pa_nil)))) (pa_cons (pe_fn U.pow.ok hr7 (by rfl) (pa_cons (pv 3) (pa_cons (pv 4) (pa_cons (pv 14) pa_nil)))) pa_nil)))))
      (pss_cons (ps_if (pt_cmpR op_ne (pe_callB cr (by rfl) B.repr (by decide +kernel) (pa_cons (pv 15) pa_nil)) (pe_callB cr (by rfl) B.repr (by decide +kernel) (pa_cons (pe_fn U.pow.ok hr7 (by rfl) (pa_cons (pv 3) (pa_cons (pv 4) (pa_cons (pe_op op_add (pv 9) (pv 14)) pa_nil)))) pa_nil)) (nomark _)) (pss_one (ps_ret pe_bl)) pss_nil)
      (pss_one (ps_ret (pe_and (pe_cmpR op_eq (pe_callB cr (by rfl) B.repr (by decide +kernel) (pa_cons (pe_fn U.both hr5 (by rfl) (pa_cons (pv 3) (pa_cons (pe_fn U.pow.ok hr7 (by rfl) (pa_cons (pv 3) (pa_cons (pv 4) (pa_cons (pv 9) pa_nil)))) (pa_cons (pv 4) pa_nil)))) pa_nil)) (pe_callB cr (by rfl) B.repr (by decide +kernel) (pa_cons (pe_fn U.pow.ok hr7 (by rfl) (pa_cons (pv 3) (pa_cons (pv 4) (pa_cons (pe_op op_add (pv 9) pe_int) pa_nil)))) pa_nil)) (nomark _)) (pe_one (pe_cmpR op_eq (pe_callB cr (by rfl) B.repr (by decide +kernel) (pa_cons (pv 4) pa_nil)) (pv 5) (nomark _)))))))))))))))))))))), ?_⟩
    refine ⟨.ref sa, rfl, sa, ns, rfl, hS, Nat.le_trans hlen (by decide), fun H1 p l s1 np nl D1 => ?_⟩
    dsimp only [tNext]
    refine ⟨.ref p, rfl, p, l, 16, rfl, D1, by decide, by decide, fun H2 se D2 E2 z0 z1 => ?_⟩
    dsimp only [tNext]
    refine ⟨.int se, rfl, by show 2 ≤ sizeLine; decide, fun t nt => ⟨t, [.int 1, .int 2], rfl, .inr (SqT.of upd_same), rfl, rfl, _, rfl, ?_⟩⟩
    have D2' := D2.up (same_new (o := .tup [.int 1, .int 2]) nt)
    generalize upd H2 t (.tup [.int 1, .int 2]) = H3 at D2'
    refine ite2 (fun c => ⟨.ref p, rfl, p, l, rfl, D2', fun H' => q _⟩) (fun c => ?_)
    clear c E2 D2 D1 nt s1 np nl
    dsimp only [tNext]
    refine ⟨.int se, rfl, rfl, _, rfl, ifE_join (R := fun v G => ∃ n : Nat, v = .int n ∧ 3 ≤ n ∧ n ≤ 6 ∧ Deck G p l) ?_ (fun _ Q' k => k _ _ ⟨6, rfl, by decide, by decide, D2'⟩) (fun _ Q' k => ?_)⟩
    rotate_left
    · refine ⟨.ref p, rfl, by show 6 ≤ sizeLine; decide, fun A0 nA0 => ?_⟩
      obtain ⟨nAp, nAl⟩ := D2'.new nA0
      refine ⟨p, l, A0, _, rfl, D2'.up (same_new nA0), .inl (by rw [hid_ne nAp nAl]; exact upd_same), by show 0 < 6; decide, by show 6 < 100000; decide, fun H4 rr v D4 E4 hv => ?_⟩
      rcases rr with _ | _ | _ | _ | _ | _ | rr
      · exact k _ _ ⟨3, (Option.some.inj hv).symm, by decide, by decide, D4⟩
      · exact k _ _ ⟨3, (Option.some.inj hv).symm, by decide, by decide, D4⟩
      · exact k _ _ ⟨4, (Option.some.inj hv).symm, by decide, by decide, D4⟩
      · exact k _ _ ⟨4, (Option.some.inj hv).symm, by decide, by decide, D4⟩
      · exact k _ _ ⟨4, (Option.some.inj hv).symm, by decide, by decide, D4⟩
      · exact k _ _ ⟨5, (Option.some.inj hv).symm, by decide, by decide, D4⟩
      · cases hv
    rintro v G0 ⟨n, rfl, n0, n1, D0⟩
    clear D2'
    dsimp only [tNext]
    refine ⟨.ref p, rfl, .int n, rfl, p, l, n, rfl, D0, n0, n1, fun H4 tv T D4 E4 htv okT => ?_⟩
    clear E4 D0
    dsimp only [tNext]
    refine ⟨tv, rfl, ?_⟩
    dsimp only [tNil]
    refine repr_x (d := tabD T) htv (sm_tab n1 okT) (by decide) (by decide) fun kx ekx => ⟨.int n, rfl, tv, rfl, n, tv, T, rfl, n1, htv, okT, fun H5 o s5 ho hlt => ⟨by show 2 ≤ sizeLine; decide, fun t nt => ⟨t, [.str kx, .int (o : Int)], rfl, SqT.of upd_same, rfl, .str kx, [.int (o : Int)], rfl, .int (o : Int), [], rfl, rfl, ?_⟩⟩⟩
    have s6 := s5.trans (same_new (o := .tup [.str kx, .int (o : Int)]) nt)
    have ht6 := htv.up s6
    have D6 := D4.up s6
    generalize upd H5 t (.tup [.str kx, .int (o : Int)]) = H6 at ht6 D6 s6
    clear s5 s6 nt htv D4
    refine ne_repr ⟨.int n, rfl, tv, rfl, n, tv, T, rfl, n1, ht6, okT, fun H7 o1 s7 ho1 hl1 => ⟨tv, rfl, .int n, rfl, rfl, n, tv, T, rfl, n1, ht6.up s7, okT, fun H8 o2 s8 ho2 hl2 => ⟨by show 2 ≤ sizeLine; decide, fun L nL => ?_⟩⟩⟩
    obtain rfl : o = o1 := ho.uniq ho1
    obtain rfl : o = o2 := ho.uniq ho2
    have s9 := (s7.trans s8).trans (same_new (o := .lst [.int (o : Int), .int (o : Int)]) nL)
    refine repr_x (d := .list [.int (o : Int), .int (o : Int)]) (.lst upd_same (.cons (.int _) (.cons (.int _) .nil))) (sm_ords hlt) (by decide) (by decide) fun x ex => ⟨.int (o : Int), rfl, .int (o : Int), rfl, by show 2 ≤ sizeLine; decide, fun L2 nL2 => repr_ne ex (.lst upd_same (.cons (.int _) (.cons (.int _) .nil))) (sm_ords hlt) (by decide) (by decide) (iteF ?_)⟩
    have s10 := s9.trans (same_new (o := .lst [.int (o : Int), .int (o : Int)]) nL2)
    have ht10 := ht6.up s10
    have D10 := D6.up s10
    generalize upd (upd H8 L (.lst [.int (o : Int), .int (o : Int)])) L2 (.lst [.int (o : Int), .int (o : Int)]) = G10 at ht10 D10 s10
    clear s7 s8 s9 s10 nL nL2 ho1 ho2 hl1 hl2 ex ht6 D6
    have ho2 : o < 2 ^ 2000 := lt_pow hlt (by decide)
    dsimp only [tNext]
    refine ⟨.int n, rfl, n, rfl, n1, fun H8 cv s8 hcv => ⟨.int (o : Int), rfl, o, rfl, ho.pos, ho2, fun H9 pl ps s9 npl hpl hpp hpn => ⟨by show 2 ≤ sizeLine; decide, fun t nt => ⟨t, [cv, .ref pl], rfl, SqT.of upd_same, rfl, cv, [.ref pl], rfl, .ref pl, [], rfl, rfl, ?_⟩⟩⟩⟩
    have s11 := (s8.trans s9).trans (same_new (o := .tup [cv, .ref pl]) nt)
    have A11 : A15 n p l tv cv T (upd H9 t (.tup [cv, .ref pl])) := ⟨D10.up s11, ht10.up s11, (hcv.up s9).up (same_new nt)⟩
    obtain ⟨npp, npl2⟩ := (D10.up s8).new npl
    have hpl11 := same_new (o := .tup [cv, .ref pl]) nt _ _ hpl
    generalize upd H9 t (.tup [cv, .ref pl]) = G11 at A11 hpl11
    clear s11 s8 s9 hcv ht10 D10 hpl npl nt
    dsimp only [tNext]
    refine joinE (t := tIf _ _ _) (R := fun v G => ∃ (pl : Addr) (ps : List Nat), v = .ref pl ∧ A15 n p l tv cv T G ∧ G pl = some (.lst (ps.map fun x : Nat => V.int (x : Int))) ∧ (∀ x ∈ ps, 2 ≤ x ∧ x ∣ o) ∧ pl ≠ p ∧ pl ≠ l) ?_ (fun Q' k => ?_)
    rotate_left
    · refine ⟨.int n, rfl, _, _, rfl, rfl, _, rfl, ?_⟩
      by_cases h4 : n < 4
      · rw [decide_eq_true (show (n : Int) < 4 by omega)]
        exact iteT (iteT ⟨.ref pl, rfl, k _ _ ⟨pl, ps, rfl, A11, hpl11, hpp, npp, npl2⟩⟩)
      · rw [decide_eq_false (show ¬ (n : Int) < 4 by omega)]
        refine iteF ⟨.ref pl, rfl, by show 0 ≤ sizeLine; decide, fun e ne => ⟨pl, e, _, rfl, rfl, same_new ne _ _ hpl11, upd_same, _, rfl, ?_⟩⟩
        have se := same_new (o := .lst []) ne
        have A12 := A11.up se
        have hpl12 := se _ _ hpl11
        generalize upd G11 e (.lst []) = G12 at A12 hpl12
        cases ps with
        | nil => exact iteT ⟨.ref pl, rfl, k _ _ ⟨pl, [], rfl, A12, hpl12, hpp, npp, npl2⟩⟩
        | cons x0 r0 =>
          refine iteF ⟨.ref p, rfl, .ref pl, rfl, p, l, pl, _, rfl, A12.D, .inl (by rw [hid_ne npp npl2]; exact hpl12), by rw [List.length_map]; exact Nat.succ_pos _, by rw [List.length_map]; exact Nat.lt_of_le_of_lt hpn (by decide), fun H13 rr v D13 E13 hv => ⟨by show 1 ≤ sizeLine; decide, fun L nL => ?_⟩⟩
          rw [List.getElem?_map] at hv
          obtain ⟨x, hx, rfl⟩ := Option.map_eq_some_iff.mp hv
          obtain ⟨nLp, nLl⟩ := D13.new nL
          exact k _ _ ⟨L, [x], rfl, (A12.deck D13 E13).up (same_new nL), upd_same, fun y hy => by rw [List.mem_singleton.mp hy]; exact hpp x (List.mem_of_getElem? hx), nLp, nLl⟩
    clear A11 hpl11 hpp hpn npp npl2
    rintro v G12 ⟨pl, ps, rfl, A12, hpl12, hpp, npp, npl2⟩
    try dsimp only [tNext]
    refine joinC (c := tOr _ _) (R := fun b G => A15 n p l tv cv T G ∧ G pl = some (.lst (ps.map fun x : Nat => V.int (x : Int))) ∧ (b = true → 5 ≤ n) ∧ (b = false → n ≤ 5)) ?_ (fun Q' k => ?_)
    rotate_left
    · refine ⟨.int n, rfl, rfl, _, rfl, ?_⟩
      by_cases h6 : n = 6
      · rw [decide_eq_true (show V.int (n : Int) = V.int 6 by rw [h6]; rfl)]
        exact iteT (k _ _ ⟨A12, hpl12, fun _ => by omega, fun z => by cases z⟩)
      · rw [decide_eq_false (show ¬ V.int (n : Int) = V.int 6 from fun z => h6 (by have := V.int.inj z; omega))]
        refine iteF ⟨.int n, rfl, rfl, _, rfl, ?_⟩
        by_cases h5 : n = 5
        · rw [decide_eq_true (show V.int (n : Int) = V.int 5 by rw [h5]; rfl)]
          refine iteT ⟨.ref p, rfl, p, l, 3, rfl, A12.D, by decide, by decide, fun H13 r D13 E13 _ _ => ⟨rfl, _, rfl, k _ _ ⟨A12.deck D13 E13, E13.at_ npp npl2 hpl12, fun _ => by omega, fun _ => by omega⟩⟩⟩
        · rw [decide_eq_false (show ¬ V.int (n : Int) = V.int 5 from fun z => h5 (by have := V.int.inj z; omega))]
          exact iteF (k _ _ ⟨A12, hpl12, (fun z => nomatch z), (fun _ => by omega)⟩)
    clear A12 hpl12
    rintro b G13 ⟨A13, hpl13, hb1, hb2⟩
    have hcalm : powT n T (o : Int) = stillT n := (pow_calm n1 okT ho o).mpr (Nat.dvd_refl o)
    cases b with
    | true =>
      clear hb2 hpl13
      refine iteT ?_
      try dsimp only [tNext]
      refine ⟨.ref p, rfl, _, rfl, _, _, rfl, rfl, ⟨by decide, by decide, by decide⟩, .ref p, rfl, p, l, 1000, rfl, A13.D, by decide, by decide, fun H14 r D14 E14 _ _ => ⟨_, _, rfl, rfl, _, _, rfl, rfl, ⟨by decide, by decide, by decide⟩, _, rfl, by show 3 ≤ sizeLine; decide, fun A0 nA0 => ?_⟩⟩
      obtain ⟨nAp, nAl⟩ := D14.new nA0
      have sA := same_new (o := .lst [.int (-3), .int (10 ^ 9 - r), .int (-(10 ^ 9))]) nA0
      refine ⟨p, l, A0, _, rfl, D14.up sA, .inl (by rw [hid_ne nAp nAl]; exact upd_same), by show 0 < 3; decide, by show 3 < 100000; decide, fun H15 rr v D15 E15 hv => ?_⟩
      have A15' := ((A13.deck D14 E14).up sA).deck D15 E15
      obtain ⟨k0, rfl⟩ : ∃ k0 : Int, v = .int k0 := by
        rcases rr with _ | _ | _ | rr
        · exact ⟨_, (Option.some.inj hv).symm⟩
        · exact ⟨_, (Option.some.inj hv).symm⟩
        · exact ⟨_, (Option.some.inj hv).symm⟩
        · cases hv
      clear hv E15 D15 sA nAp nAl nA0 E14 D14 A13
      try dsimp only [tNext]
      refine ⟨.int n, rfl, rfl, _, rfl, ifE_join (R := fun v G => ∃ k : Int, v = .int k ∧ A15 n p l tv cv T G) ?_ (fun _ Q' k => ⟨.ref p, rfl, p, l, rfl, A15'.D, fun H16 r6 D16 E16 _ _ => k _ _ ⟨r6, rfl, A15'.deck D16 E16⟩⟩) (fun _ Q' k => ⟨_, rfl, k _ _ ⟨k0, rfl, A15'⟩⟩)⟩
      clear A15'
      rintro v G16 ⟨k, rfl, A16⟩
      try dsimp only [tNext]
      refine ⟨.int n, rfl, tv, rfl, .int k, rfl, n, tv, T, k, rfl, n1, A16.tab, okT, fun H17 r1 s17 h1 => ?_⟩
      dsimp only [tNil]
      have smP := sm_tab n1 (powT_ok n1 okT k)
      refine repr_x (d := tabD (powT n T k)) h1 smP (by decide) (by decide) fun x ex => ⟨.int n, rfl, tv, rfl, .int k, rfl, n, tv, T, k, rfl, n1, A16.tab.up s17, okT, fun H18 r2 s18 h2 => ?_⟩
      dsimp only [tNil]
      refine repr_eq ex h2 smP (by decide) (by decide) ⟨true, rfl, iteT ?_⟩
      refine ⟨.int n, rfl, rfl, _, rfl, ite2 (fun _ => q _) (fun _ => ?_)⟩
      have A18 := (A16.up s17).up s18
      refine ⟨.int n, rfl, tv, rfl, .int (o : Int), rfl, n, tv, T, (o : Int), rfl, n1, A18.tab, okT, fun H19 r3 s19 h3 => ⟨cv, rfl, tabD (powT n T (o : Int)), tabD (stillT n), h3.dp (tab_flat _), (A18.cal.up s19).dp (tab_flat _), tab_shaped _, tab_shaped _, ?_⟩⟩
      rw [tab_eqv, decide_eq_true hcalm]
      exact q _
    | false =>
      have hn5 := hb2 rfl
      clear hb1 hb2
      refine iteF ?_
      try dsimp only [tNext]
      refine ⟨.int n, rfl, tv, rfl, .int (o : Int), rfl, n, tv, T, (o : Int), rfl, n1, A13.tab, okT, fun H14 r1 s14 h1 => ⟨cv, rfl, tabD (powT n T (o : Int)), tabD (stillT n), h1.dp (tab_flat _), (A13.cal.up s14).dp (tab_flat _), tab_shaped _, tab_shaped _, _, rfl, ?_⟩⟩
      rw [tab_eqv, decide_eq_true hcalm]
      have A14 := A13.up s14
      have hpl14 := s14 _ _ hpl13
      clear h1 s14 A13 hpl13
      refine iteF ⟨.ref pl, rfl, pl, rfl, ⟨_, SqL.of hpl14⟩, fun W nW => ?_⟩
      refine lc_it (walk_list (K := K) (a := pl) (xs := ps.map fun x : Nat => V.int (x : Int))) (fun j G => G W = some (.lst []) ∧ Same H14 G) ⟨upd_same, same_new nW⟩ (fun _ _ _ ⟨_, sm⟩ => SqL.of (sm _ _ hpl14)) ?_ ?_
      · rintro j x _ G hj ⟨hW, sm⟩ ⟨rfl, hx⟩
        rw [List.getElem?_map] at hx
        obtain ⟨y, hy, rfl⟩ := Option.map_eq_some_iff.mp hx
        obtain ⟨y2, yd⟩ := hpp y (List.mem_of_getElem? hy)
        have hyo := Nat.le_of_dvd ho.pos yd
        have A := A14.up sm
        refine ⟨rfl, .int n, rfl, tv, rfl, .int (o : Int), rfl, .int (y : Int), rfl, _, _, rfl, rfl, wide_div (b := 2000) (by omega) (by rw [Int.natAbs_natCast]; exact Nat.lt_of_le_of_lt hyo ho2) (by decide) (by decide), n, tv, T, (o : Int) / (y : Int), rfl, n1, A.tab, okT, fun H15 r3 s15 h3 => ⟨cv, rfl, tabD (powT n T ((o : Int) / (y : Int))), tabD (stillT n), h3.dp (tab_flat _), (A.cal.up s15).dp (tab_flat _), tab_shaped _, tab_shaped _, _, rfl, ?_⟩⟩
        have hne : powT n T ((o : Int) / (y : Int)) ≠ stillT n := fun z => by
          rw [← Int.natCast_ediv, pow_calm n1 okT ho] at z
          have h0 : 0 < o / y := Nat.div_pos hyo (by omega)
          have h1 := Nat.le_of_dvd h0 z
          have h2 := Nat.div_lt_self ho.pos y2
          omega
        rw [tab_eqv, decide_eq_false hne]
        exact iteF ⟨s15 _ _ hW, sm.trans s15⟩
      rintro G14 ⟨hW, sm⟩
      refine ⟨by show 0 ≤ sizeLine; decide, fun e ne => ⟨W, e, [], rfl, rfl, same_new ne _ _ hW, upd_same, _, rfl, iteF ?_⟩⟩
      have A15' := (A14.up sm).up (same_new (o := .lst []) ne)
      generalize upd G14 e (.lst []) = G15 at A15'
      clear sm hW nW ne A14 hpl14
      try dsimp only [tNext]
      refine ⟨_, rfl, _, rfl, _, rfl, .int (o : Int), rfl, _, _, rfl, rfl, .int (o : Int), rfl, _, _, rfl, rfl, .int (o : Int), rfl, _, rfl, by show 11 ≤ sizeLine; decide, fun M nM => ?_⟩
      obtain ⟨nMp, nMl⟩ := A15'.D.new nM
      have sM := same_new (o := .lst [.int 0, .int 1, .int (-1), .int 2, .int (-2), .int 3, .int 12, .int (-12), .int ((o : Int) + 1), .int ((o : Int) - 1), .int (-(o : Int))]) nM
      have A16 := A15'.up sM
      have hM : upd G15 M (.lst [.int 0, .int 1, .int (-1), .int 2, .int (-2), .int 3, .int 12, .int (-12), .int ((o : Int) + 1), .int ((o : Int) - 1), .int (-(o : Int))]) M = some (.lst (([0, 1, -1, 2, -2, 3, 12, -12, (o : Int) + 1, (o : Int) - 1, -(o : Int)] : List Int).map V.int)) := upd_same
      generalize hms : ([0, 1, -1, 2, -2, 3, 12, -12, (o : Int) + 1, (o : Int) - 1, -(o : Int)] : List Int) = ms at hM
      have hml : ms.length = 11 := by rw [← hms]; rfl
      have gen : ∃ G16, G16 = upd G15 M (.lst [.int 0, .int 1, .int (-1), .int 2, .int (-2), .int 3, .int 12, .int (-12), .int ((o : Int) + 1), .int ((o : Int) - 1), .int (-(o : Int))]) := ⟨_, rfl⟩
      obtain ⟨G16, hG16⟩ := gen
      rw [← hG16] at A16 hM
      try dsimp only [tNext]
      refine joinC (c := tOr _ _) (R := fun b G => A15 n p l tv cv T G ∧ G M = some (.lst (ms.map V.int))) ?_ (fun Q' k => ?_)
      rotate_left
      · refine ⟨.int n, rfl, rfl, _, rfl, ?_⟩
        rw [← hG16]
        refine ite2 (fun _ => k _ _ ⟨A16, hM⟩) (fun _ => ⟨.int n, rfl, rfl, _, rfl, ite2 (fun _ => ?_) (fun _ => k _ _ ⟨A16, hM⟩)⟩)
        exact ⟨.ref p, rfl, p, l, 2, rfl, A16.D, by decide, by decide, fun H17 r D17 E17 _ _ => ⟨rfl, _, rfl, k _ _ ⟨A16.deck D17 E17, E17.at_ nMp nMl hM⟩⟩⟩
      clear A16 hM hG16 sM
      rintro b G17 ⟨A17, hM⟩
      refine ifS_join (R := fun σ G => ∃ (m : Addr) (xs : List Int) (v9 v12 v13 : Option V), σ = [some (.ref sa), some (.ref p), some (.int se), some (.int n), some tv, some (.str kx), some (.int (o : Int)), some cv, some (.ref pl), v9, none, some (.ref m), v12, v13, none, none] ∧ A15 n p l tv cv T G ∧ G m = some (.lst (xs.map V.int)) ∧ 2 ≤ xs.length ∧ xs.length ≤ 100 ∧ m ≠ p ∧ m ≠ l) ?_ (fun _ D' k => ?_) (fun _ D' k => ?_)
      rotate_left
      · refine ⟨.ref p, rfl, .ref p, rfl, p, l, rfl, A17.D, fun H18 r1 D18 E18 _ _ => ⟨.ref p, rfl, p, l, rfl, D18, fun H19 r2 D19 E19 _ _ => ⟨_, rfl, _, _, rfl, rfl, ⟨by decide, by decide, by decide⟩, _, _, rfl, rfl, ⟨by decide, by decide, by decide⟩, _, rfl, by show 4 ≤ sizeLine; decide, fun A0 nA0 => ?_⟩⟩⟩
        have A19 := (A17.deck D18 E18).deck D19 E19
        have hM19 := E19.at_ nMp nMl (E18.at_ nMp nMl hM)
        obtain ⟨nAp, nAl⟩ := D19.new nA0
        have sA := same_new (o := .lst [.int r1, .int (-r2), .int (10 ^ 30), .int (-(10 ^ 30))]) nA0
        refine ⟨p, l, A0, _, rfl, D19.up sA, .inl (by rw [hid_ne nAp nAl]; exact upd_same), by show 0 < 4; decide, by show 4 < 100000; decide, fun H20 rr v D20 E20 hv => ?_⟩
        have A20 := (A19.up sA).deck D20 E20
        have hM20 := E20.at_ nMp nMl (sA _ _ hM19)
        obtain ⟨k0, rfl⟩ : ∃ k0 : Int, v = .int k0 := by
          rcases rr with _ | _ | _ | _ | rr
          · exact ⟨_, (Option.some.inj hv).symm⟩
          · exact ⟨_, (Option.some.inj hv).symm⟩
          · exact ⟨_, (Option.some.inj hv).symm⟩
          · exact ⟨_, (Option.some.inj hv).symm⟩
          · cases hv
        clear hv sA nAp nAl nA0 E20 D20 E19 D19 E18 D18 A19 hM19
        refine ⟨by show 1 ≤ sizeLine; decide, fun L1 nL1 => ⟨.ref M, rfl, L1, M, _, _, rfl, rfl, upd_same, same_new nL1 _ _ hM20, by rw [List.length_map, hml]; show 1 + 11 ≤ _; decide, fun Z nZ => ?_⟩⟩
        have sZ := (same_new (o := .lst [.int k0]) nL1).trans (same_new (o := .lst ([V.int k0] ++ ms.map V.int)) nZ)
        obtain ⟨nZp, nZl⟩ := (A20.D.up (same_new (o := .lst [.int k0]) nL1)).new nZ
        exact k _ _ ⟨Z, k0 :: ms, _, _, _, rfl, A20.up sZ, upd_same, by rw [List.length_cons]; omega, by rw [List.length_cons]; omega, nZp, nZl⟩
      · exact k _ _ ⟨M, ms, _, _, _, rfl, A17, hM, by omega, by omega, nMp, nMl⟩
      clear A17 hM nMp nMl
      rintro σ G18 ⟨m, xs, v9, v12, v13, rfl, A18, hm, hx2, hx1, nmp, nml⟩
      clear hml hms hpp npp npl2
      try dsimp only [tNext]
      refine ⟨.int n, rfl, _, _, rfl, rfl, _, _, rfl, rfl, 5 - (n : Int) + 1, rfl, by omega, by omega, ?_⟩
      have e6 : (5 - (n : Int) + 1).toNat = 6 - n := by omega
      rw [e6]
      refine for_it (walk_rg (n := 6 - n)) (fun i σ G => ∃ v9 v12 v13 : Option V, σ = [some (.ref sa), some (.ref p), some (.int se), some (.int n), some tv, some (.str kx), some (.int (o : Int)), some cv, some (.ref pl), v9, none, some (.ref m), v12, v13, none, none] ∧ A15 n p l tv cv T G ∧ G m = some (.lst (xs.map V.int))) ⟨_, _, _, rfl, A18, hm⟩ (fun _ _ _ _ _ => trivial) ?_ ?_
      · rintro i _ σ _ G hi ⟨v9, v12, v13, rfl, A, hmG⟩ ⟨rfl, rfl⟩
        refine ⟨.int i, rfl, rfl, _, rfl, ifE_join (R := fun v G => ∃ k : Int, v = .int k ∧ A15 n p l tv cv T G ∧ G m = some (.lst (xs.map V.int))) ?_ (fun _ Q' k => ?_) (fun _ Q' k => ?_)⟩
        rotate_left
        · obtain ⟨x0, hx0⟩ : ∃ x0, xs[0]? = some x0 := ⟨_, List.getElem?_eq_getElem (by omega)⟩
          exact ⟨.ref m, rfl, m, _, ((0 : Nat) : Int), .int x0, rfl, rfl, SqL.of hmG, atI_nat (j := 0) (by rw [List.getElem?_map, hx0]; rfl), k _ _ ⟨x0, rfl, A, hmG⟩⟩
        · refine ⟨.ref p, rfl, .ref m, rfl, _, rfl, m, _, rfl, SqL.of hmG, fun S nS => ?_⟩
          rw [cut1]
          obtain ⟨nSp, nSl⟩ := A.D.new nS
          have sS := same_new (o := .lst ((xs.map V.int).drop 1)) nS
          refine ⟨p, l, S, _, rfl, A.D.up sS, .inl (by rw [hid_ne nSp nSl]; exact upd_same), by rw [List.length_drop, List.length_map]; omega, by rw [List.length_drop, List.length_map]; omega, fun H20 rr v D20 E20 hv => ?_⟩
          rw [← List.map_drop, List.getElem?_map] at hv
          obtain ⟨k0, _, rfl⟩ := Option.map_eq_some_iff.mp hv
          exact k _ _ ⟨k0, rfl, (A.up sS).deck D20 E20, E20.at_ nmp nml (sS _ _ hmG)⟩
        clear A hmG
        rintro v G20 ⟨k, rfl, A20, hm20⟩
        try dsimp only [tNext]
        have smP := sm_tab n1 (powT_ok n1 okT k)
        refine ⟨.int i, rfl, rfl, _, rfl, ifE_join (R := fun v G => Dq G v (tabD (powT n T k)) ∧ A15 n p l tv cv T G ∧ G m = some (.lst (xs.map V.int))) ?_ (fun _ Q' kq => ?_) (fun _ Q' kq => ?_)⟩
        rotate_left
        · exact ⟨.int k, rfl, tv, rfl, .int n, rfl, rfl, n, tv, T, k, rfl, n1, A20.tab, okT, fun H21 r s21 h => kq _ _ ⟨h, A20.up s21, s21 _ _ hm20⟩⟩
        · exact ⟨.int n, rfl, tv, rfl, .int k, rfl, n, tv, T, k, rfl, n1, A20.tab, okT, fun H21 r s21 h => kq _ _ ⟨h, A20.up s21, s21 _ _ hm20⟩⟩
        clear A20 hm20
        rintro v G21 ⟨hv, A21, hm21⟩
        try dsimp only [tNext]
        refine ne_repr ⟨v, rfl, ?_⟩
        dsimp only [tNil]
        refine repr_x (d := tabD (powT n T k)) hv smP (by decide) (by decide) fun x ex => ⟨.int n, rfl, tv, rfl, .int k, rfl, n, tv, T, k, rfl, n1, A21.tab, okT, fun H22 r s22 h => ?_⟩
        refine repr_ne ex h smP (by decide) (by decide) (iteF ?_)
        exact ⟨_, _, _, rfl, A21.up s22, s22 _ _ hm21⟩
      clear A18 hm v9 v12 v13
      rintro σ G22 ⟨v9, v12, v13, rfl, A22, hm22⟩
      clear hm22
      try dsimp only [tNext]
      refine ⟨.ref p, rfl, p, l, 30, rfl, A22.D, by decide, by decide, fun H23 ka D23 E23 _ _ => ⟨_, _, rfl, rfl, .ref p, rfl, p, l, 16, rfl, D23, by decide, by decide, fun H24 kb D24 E24 _ _ => ⟨_, _, rfl, rfl, _, _, rfl, ?_⟩⟩⟩
      have A24 := (A22.deck D23 E23).deck D24 E24
      clear D23 E23 D24 E24 A22
      try dsimp only [tNext]
      have okK := powT_ok n1 okT (ka - 15)
      have okF := powT_ok n1 okT (kb - 8)
      obtain ⟨b1, b2, b3, b4⟩ := okK.both_in n1
      obtain ⟨b5, b6, b7, b8⟩ := okF.both_in n1
      obtain ⟨c5, c6, c7, c8⟩ := okT.both_in n1
      refine ⟨.int n, rfl, .int n, rfl, tv, rfl, .int (ka - 15), rfl, n, tv, T, (ka - 15), rfl, n1, A24.tab, okT, fun H25 r1 s25 h1 => ⟨.int n, rfl, tv, rfl, .int (kb - 8), rfl, n, tv, T, (kb - 8), rfl, n1, A24.tab.up s25, okT, fun H26 r2 s26 h2 => ⟨n, r1, r2, _, _, rfl, n1, h1.up s26, h2, b1, b2, b7, b8, fun H27 r3 s27 h3 => ?_⟩⟩⟩
      rw [powT_add n1 okT] at h3
      have A27 := ((A24.up s25).up s26).up s27
      clear A24 h1 h2 s25 s26 s27
      have smA := sm_tab n1 (powT_ok n1 okT ((ka - 15) + (kb - 8)))
      try dsimp only [tNext]
      refine ne_repr ⟨r3, rfl, ?_⟩
      dsimp only [tNil]
      refine repr_x (d := tabD (powT n T ((ka - 15) + (kb - 8)))) h3 smA (by decide) (by decide) fun x ex => ⟨.int n, rfl, tv, rfl, .int (ka - 15), rfl, .int (kb - 8), rfl, _, _, rfl, rfl, n, tv, T, (ka - 15) + (kb - 8), rfl, n1, A27.tab, okT, fun H28 r4 s28 h4 => ?_⟩
      refine repr_ne ex h4 smA (by decide) (by decide) (iteF ?_)
      have A28 := A27.up s28
      clear A27 h3 h4 s28 ex
      try dsimp only [tNext]
      refine ⟨.int n, rfl, .int n, rfl, tv, rfl, .int (ka - 15), rfl, n, tv, T, (ka - 15), rfl, n1, A28.tab, okT, fun H29 r5 s29 h5 => ⟨tv, rfl, n, r5, tv, _, T, rfl, n1, h5, A28.tab.up s29, b1, b2, c7, c8, fun H30 r6 s30 h6 => ?_⟩⟩
      rw [powT_succ n1 okT] at h6
      have A30 := (A28.up s29).up s30
      have smS := sm_tab n1 (powT_ok n1 okT ((ka - 15) + 1))
      dsimp only [tNil]
      refine repr_x (d := tabD (powT n T ((ka - 15) + 1))) h6 smS (by decide) (by decide) fun x ex => ⟨.int n, rfl, tv, rfl, .int (ka - 15), rfl, _, _, rfl, rfl, n, tv, T, (ka - 15) + 1, rfl, n1, A30.tab, okT, fun H31 r7 s31 h7 => ?_⟩
      dsimp only [tNil]
      refine repr_eq ex h7 smS (by decide) (by decide) ⟨true, rfl, iteT ?_⟩
      refine ⟨tv, rfl, ?_⟩
      dsimp only [tNil]
      refine repr_x (d := tabD T) (A30.tab.up s31) (sm_tab n1 okT) (by decide) (by decide) fun y ey => ⟨.str kx, rfl, txt_eq ey ekx (q _)⟩
end
end Kr
namespace Kr
open PySem PySem.Spec PyProof.Rows L2
section
variable {P : Program} {w : World} {K : PySem.W.Frag} {mg : Str → Option Value} {base : Heap}
abbrev nAl : List Str := ["n", "size", "lot"]
theorem scAl : FnScope nAl ["n"] (defScope sAllLots) := ⟨rfl, rfl, rfl, by decide +kernel, rfl, by decide +kernel, by decide +kernel⟩
theorem o_all6 (D0 : Df K mg "all_lots" sAllLots ["n"]) (B : Bi mg) (hM : ∃ t, mg "MAX_TABLE" = some (.int 6 t)) (lo : Ok P w K mg base 1 "lots_of" ["n", "size"] spLots) : Ok P w K mg base 2 "all_lots" ["n"] spAll6 := by
  obtain ⟨tM, gM⟩ := hM
  refine D0.ok fun f fd F => F.ok scAl (fun vs H Q E h => ?_) (fun cdv A outer s H vs Q E hr h => ?_)
  · obtain ⟨n, rfl, _⟩ := h
    rfl
  · obtain ⟨n, rfl, hn6, q⟩ := h
    refine ⟨_, pss_cons (ps_if (pt_cmpR op_gt (pv 0) (pe_glob (v := .int 6) (by rfl) gM ⟨_, rfl⟩) (nomark _)) (pss_one ps_never) pss_nil)
      (pss_one (ps_ret (pe_callTy call_tuple_of (by rfl) B.tuple (by decide +kernel) (pa_cons
        (pe_lc2 (wi1 := iTup K (tCall spLots [] E0 (tCons (tVar 0) (tCons (tVar 1) tNil)))) (own := [("size", 1), ("lot", 2)]) (vs1 := [2]) (g := gName 1) (g1 := gName 2) (tt := tYes) (tt1 := tYes) rfl scAl.nd (pi_range1 (by rfl) B.range (pa_cons (pe_op op_add (pv 0) pe_int) pa_nil)) (blkOk_by (own := [("size", 1), ("lot", 2)]) (N := nAl) (sc := defScope sAllLots) (by decide +kernel)) (by decide)
          (fun _ _ _ _ _ => pg_name (i := 1) scAl.nd rfl (.inl rfl)) (fun _ _ _ _ _ => pts_nil)
          (fun _ _ _ _ _ => by exact pi_tup (pe_fn lo hr (by rfl) (pa_cons (pv 0) (pa_cons (pv 1) pa_nil))))
          (fun _ _ _ _ _ => pg_name (i := 2) scAl.nd rfl (.inl rfl)) (fun _ _ _ _ _ => pts_nil) (fun _ _ _ _ _ => pv 2)) pa_nil)))), ?_⟩
    refine ⟨.int n, rfl, _, _, rfl, rfl, _, rfl, ite2 (fun h6 => ?_) (fun h6 => ?_)⟩
    · have : (6 : Int) < n := of_decide_eq_true h6
      omega
    refine ⟨.int n, rfl, _, _, rfl, rfl, (n : Int) + 1, rfl, by omega, by omega, fun D nD => ?_⟩
    have hm : ((n : Int) + 1).toNat = n + 1 := by omega
    rw [hm]
    have hfull : ∀ i, i ≤ n + 1 → (((List.range (n + 1)).take i).flatMap (lotsL n)).length ≤ 1000 := by
      intro i hi
      have h1 := flat_le (List.range (n + 1)) (lotsL n) i
      have h2 : ∀ n : Nat, n < 7 → ((List.range (n + 1)).flatMap (lotsL n)).length ≤ 1000 := by decide +kernel
      have := h2 n (by omega)
      omega
    refine lc2_it (walk_rg (n := n + 1)) (fun i G => ∃ acc, G D = some (.lst acc) ∧ Same H G ∧ DqA G acc ((((List.range (n + 1)).take i).flatMap (lotsL n)).map lotD)) ⟨[], upd_same, same_new nD, .nil⟩ (fun _ _ _ _ => trivial) ?_ ?_
    · rintro i x G G' hi ⟨acc, hD, s2, qa⟩ ⟨rfl, rfl⟩
      refine ⟨rfl, ?_⟩
      dsimp only [tYes]
      rw [if_pos rfl]
      refine ⟨.int n, rfl, .int i, rfl, n, i, rfl, by omega, by omega, fun G2 v s3 hv => ?_⟩
      obtain ⟨a, xs, rfl, ha, qx2⟩ := Dq.tup_inv hv
      have hxl : xs.length = (lotsL n i).length := by rw [qx2.len, List.length_map]
      have hri : (List.range (n + 1))[i]? = some i := List.getElem?_range hi
      have hb := hfull (i + 1) (by omega)
      rw [flat_take hri, List.length_append] at hb
      refine ⟨a, rfl, ⟨xs, SqT.of ha⟩, ?_⟩
      refine inner_it (walk_tup (K := K) (a := a) (xs := xs)) (fun j G3 => ∃ acc, G3 D = some (.lst acc) ∧ Same H G3 ∧ G3 a = some (.tup xs) ∧ DqA G3 xs ((lotsL n i).map lotD) ∧ DqA G3 acc ((((List.range (n + 1)).take i).flatMap (lotsL n) ++ (lotsL n i).take j).map lotD)) ⟨acc, s3 _ _ hD, s2.trans s3, ha, qx2, by simpa using qa.up s3⟩ (fun j G3 _ ⟨_, _, _, h, _⟩ => SqT.of h) ?_ ?_
      · rintro j x G3 G3' hj ⟨acc2, hD2, s4, ha3, qxs, qa2⟩ ⟨rfl, hx⟩
        obtain ⟨l, hl, b, rfl, hbl⟩ := lots_get qxs hx
        refine ⟨rfl, ?_⟩
        dsimp only [tYes]
        rw [if_pos rfl]
        have hal : acc2.length ≤ 1000 := by
          have := qa2.len
          rw [List.length_map, List.length_append, List.length_take] at this
          omega
        have ts : TS G3' (upd G3' D (.lst (acc2 ++ [.ref b]))) := TS.lst hD2
        refine ⟨.ref b, rfl, acc2, hD2, szm (by omega), acc2 ++ [.ref b], upd_same, fun c o hc => ?_, ts _ _ ha3, DqA.upT ts (lots_flat _) qxs, ?_⟩
        · rw [upd_ne (ne_of_none hc nD)]
          exact s4 _ _ hc
        · rw [List.take_add_one, hl, ← List.append_assoc, List.map_append]
          exact dqa_snoc (DqA.upT ts (lots_flat _) qa2) (Dq.upT ts (lot_flat _) (lot_at hbl))
      · rintro G3 ⟨acc2, hD2, s4, ha3, qxs, qa2⟩
        refine ⟨acc2, hD2, s4, ?_⟩
        rw [hxl, List.take_length] at qa2
        rw [flat_take hri]
        exact qa2
    · rintro G ⟨acc, hD, s2, qa⟩
      have e : (List.range (n + 1)).take (n + 1) = List.range (n + 1) := List.take_of_length_le (by rw [List.length_range]; exact Nat.le_refl _)
      rw [e] at qa
      exact ⟨D, acc, rfl, .inl ⟨SqL.of hD, fun t nt => q _ _ (s2.trans (same_new nt)) (.tup upd_same (qa.up (same_new nt)))⟩⟩
end
end Kr
namespace Kr
open PySem PySem.Spec PyProof.Rows L2
section
variable {P : Program} {w : World} {K : PySem.W.Frag} {mg : Str → Option Value} {base : Heap}
abbrev nLo : List Str := ["n", "size", "lots", "_", "lot", "place"]
theorem scLo : FnScope nLo ["n", "size"] (defScope sLotsOf) := ⟨rfl, rfl, rfl, by decide +kernel, rfl, by decide +kernel, by decide +kernel⟩
theorem f_lotsOf {f : Addr} {fd : FuncData} (F : Fun K "lots_of" "lots_of" sLotsOf f fd) (B : Bi mg) : FnOk P w K mg base CX0 1 f fd ["n", "size"] spLots := by
  refine F.ok scLo (fun vs H Q E h => ?_) (fun cdv A outer s H vs Q E hr h => ?_)
  · obtain ⟨n, s, rfl, _⟩ := h
    rfl
  · obtain ⟨n, s, rfl, hn, hs, q⟩ := h
    refine ⟨_, pss_cons (ps_set (i := 2) scLo.nd rfl (.inl rfl) (pe_lst (pa_cons (pe_tup pa_nil) pa_nil)))
      (pss_cons (ps_for PassesOwn.never rfl (pi_range1 (by rfl) B.range (pa_cons (pv 1) pa_nil)) (pg_name (i := 3) scLo.nd rfl (.inl rfl))
        (pss_one (ps_setLc2 (wi1 := iRng2 (tCons (tNextL K 4) (tCons (tVar 0) tNil))) (i := 2) (own := [("lot", 4), ("place", 5)]) (vs1 := [5]) (g := gName 4) (g1 := gName 5) (tt := tYes) (tt1 := tYes) rfl scLo.nd rfl rfl (sw_true rfl rfl rfl (by decide +kernel)) (pi_list (pv 2)) (blkOk_by (own := [("lot", 4), ("place", 5)]) (N := nLo) (sc := defScope sLotsOf) (by decide +kernel)) (by decide)
          (fun _ _ _ _ _ => pg_name (i := 4) scLo.nd rfl (.inl rfl)) (fun _ _ _ _ _ => pts_nil)
          (fun _ _ _ _ _ => by exact pi_range2 (by rfl) B.range (pa_cons (pe_ifExp (pt_truth (pv 4) (by intro _; rfl)) (pe_op op_add (pe_ix (r := rIxT K) ix_tup (pv 4) (pe_un un_neg pe_int) (fun _ _ => rfl)) pe_int) pe_int) (pa_cons (pv 0) pa_nil)))
          (fun _ _ _ _ _ => pg_name (i := 5) scLo.nd rfl (.inl rfl)) (fun _ _ _ _ _ => pts_nil)
          (fun _ _ _ _ _ => pe_op (r := rCatA K) op_catA (pv 4) (pe_tup (pa_cons (pv 5) pa_nil))))))
      (pss_one (ps_ret (pe_callTy call_tuple_of (by rfl) B.tuple (by decide +kernel) (pa_cons (pv 2) pa_nil))))), ?_⟩
    refine ⟨by show 0 ≤ sizeLine; decide, fun t nt => ⟨by show 1 ≤ sizeLine; decide, fun l0 nl0 => ?_⟩⟩
    have s0 := (same_new (o := .tup []) nt).trans (same_new (o := .lst [.ref t]) nl0)
    have ht0 : upd (upd H t (.tup [])) l0 (.lst [.ref t]) t = some (.tup (lv [])) := same_new (o := .lst [.ref t]) nl0 _ _ upd_same
    refine ⟨.int s, rfl, (s : Int), rfl, by omega, by omega, for_it (walk_rg (n := s)) (fun t σ H2 => ∃ (L : Addr) (us : List V) (v3 : Option V), σ = [some (.int n), some (.int s), some (.ref L), v3, none, none] ∧ (∀ b o, H b = some o → H2 b = some o) ∧ H2 L = some (.lst us) ∧ DqA H2 us ((lotsL n t).map lotD))
      ⟨l0, _, none, rfl, s0, upd_same, .cons (lot_at (l := []) ht0) .nil⟩ (fun _ _ _ _ _ => trivial) ?_ ?_⟩
    · rintro t x σ H2 H2' ht ⟨L, us, v3, rfl, sm, hL, qus⟩ ⟨rfl, rfl⟩
      have hul : us.length = (lotsL n t).length := by rw [qus.len, List.length_map]
      have hful : ((lotsL n t).flatMap (exts n)).length < 1000 := by
        have := lots_len n (by omega) (t + 1) (by omega)
        have h2 := ch_small n (by omega) (t + 1) (by omega)
        show (lotsL n (t + 1)).length < 1000
        omega
      refine ⟨.ref L, rfl, L, rfl, ⟨us, SqL.of hL⟩, fun D nD => ?_⟩
      refine lc2_it (walk_list (K := K) (a := L) (xs := us)) (fun i G => ∃ acc, G D = some (.lst acc) ∧ Same H2' G ∧ DqA G acc ((((lotsL n t).take i).flatMap (exts n)).map lotD)) ⟨[], upd_same, same_new nD, .nil⟩ (fun i G _ ⟨_, _, s2, _⟩ => SqL.of (s2 _ _ hL)) ?_ ?_
      · rintro i x G G' hi ⟨acc, hD, s2, qa⟩ ⟨rfl, hx⟩
        obtain ⟨l, hl, a, rfl, ha0⟩ := lots_get qus hx
        have ha := s2 _ _ ha0
        refine ⟨rfl, ?_⟩
        dsimp only [tYes]
        rw [if_pos rfl]
        refine next_val (l := l) rfl ha ⟨.int n, rfl, _, _, rfl, ⟨by omega, ?_, by omega, by omega⟩, ?_⟩
        · have hin := (lots_in n t l (List.mem_of_getElem? hl)).2
          by_cases hl0 : l = []
          · subst hl0
            rw [nx_nil]
            omega
          · have e : l = l.dropLast ++ [l.getLast hl0] := (List.dropLast_concat_getLast hl0).symm
            have := hin _ (List.getLast_mem hl0)
            rw [e, nx_snoc]
            omega
        have hnn : ((n : Int) - (nx l : Nat)).toNat = n - nx l := by omega
        rw [hnn]
        have hpre := flat_le (lotsL n t) (exts n) (i + 1)
        rw [flat_take hl, List.length_append] at hpre
        have hel : (exts n l).length = n - nx l := by unfold exts; rw [List.length_map, List.length_range']
        have hacc : acc.length = (((lotsL n t).take i).flatMap (exts n)).length := by rw [qa.len, List.length_map]
        refine inner_it (walk_range (lo := (nx l : Nat)) (n := n - nx l)) (fun j G2 => ∃ acc, G2 D = some (.lst acc) ∧ Same H2' G2 ∧ DqA G2 acc ((((lotsL n t).take i).flatMap (exts n) ++ (List.range' (nx l) j).map fun x => l ++ [x]).map lotD)) ⟨acc, hD, s2, by simpa using qa⟩ (fun _ _ _ _ => trivial) ?_ ?_
        · rintro j x G2 G2' hj ⟨acc2, hD2, s3, qa2⟩ ⟨rfl, rfl⟩
          refine ⟨rfl, ?_⟩
          dsimp only [tYes]
          rw [if_pos rfl]
          have ha2 : G2' a = some (.tup (lv l)) := s3 _ _ ha0
          refine ⟨.ref a, rfl, .int _, rfl, by show 1 ≤ sizeLine; decide, fun u nu => ?_⟩
          have su := same_new (o := .tup [.int ((nx l : Nat) + (j : Int))]) nu
          have hll : l.length ≤ 12 := by have := (lots_in n t l (List.mem_of_getElem? hl)).1; omega
          refine catA_k (su _ _ ha2) upd_same (by rw [lv_len]; show _ + 1 ≤ _; omega) fun y H5 s5 hy => ?_
          have hD5 := s5 _ _ (su _ _ hD2)
          have hl2 : acc2.length < 1000 := by
            have := qa2.len
            rw [List.length_map, List.length_append, List.length_map, List.length_range'] at this
            omega
          refine ⟨acc2, hD5, szm (by omega), acc2 ++ [.ref y], upd_same, fun b o hb => ?_, ?_⟩
          · rw [upd_ne (ne_of_none hb nD)]
            exact s5 _ _ (su _ _ (s3 _ _ hb))
          · have ts : TS H5 (upd H5 D (.lst (acc2 ++ [.ref y]))) := TS.lst hD5
            rw [range1_succ, List.map_append (f := fun x => l ++ [x]), ← List.append_assoc, List.map_append (f := lotD)]
            refine dqa_snoc (DqA.upT ts (lots_flat _) ((qa2.up su).up s5)) (Dq.upT ts (lot_flat _) ?_)
            refine lot_at ?_
            rw [hy, lv_snoc]
            simp
        · rintro G2 ⟨acc2, hD2, s3, qa2⟩
          refine ⟨acc2, hD2, s3, ?_⟩
          rw [flat_take hl]
          exact qa2
      · rintro G ⟨acc, hD, s2, qa⟩
        rw [hul, List.take_length] at qa
        exact ⟨D, acc, _, rfl, fun b o hb => s2 _ _ (sm _ _ hb), hD, qa⟩
    · rintro σ H2 ⟨L, us, v3, rfl, sm, hL, qus⟩
      exact ⟨.ref L, rfl, L, us, rfl, .inl ⟨SqL.of hL, fun t nt => q _ _ (fun b o hb => same_new nt _ _ (sm _ _ hb)) (.tup upd_same (qus.up (same_new nt)))⟩⟩
end
end Kr
namespace Kr
open PySem PySem.Spec PyProof.Rows L2
section
variable {P : Program} {w : World} {K : PySem.W.Frag} {mg : Str → Option Value} {base : Heap}
theorem f_goal {f : Addr} {fd : FuncData} (F : Fun K "goal" "goal" sGoal f fd) (B : Bi mg) : FnOk P w K mg base CX0 1 f fd ["n", "entry"] spGoal := by
  have scGo : FnScope ["n", "entry", "place"] ["n", "entry"] (defScope sGoal) := ⟨rfl, rfl, rfl, by decide +kernel, rfl, by decide +kernel, by decide +kernel⟩
  refine F.ok scGo (fun vs H Q E h => ?_) (fun cdv A outer s H vs Q E hr h => ?_)
  · obtain ⟨n, a, e, rfl, _⟩ := h
    rfl
  · obtain ⟨n, a, e, rfl, hn, ha, q⟩ := h
    refine ⟨_, pss_one (ps_ret (pe_callTy call_tuple_of (by rfl) B.tuple (by decide +kernel) (pa_cons
      (pe_lc (own := [("place", 2)]) (g := gName 2) rfl scGo.nd (pi_range1 (by rfl) B.range (pa_cons (pv 0) pa_nil)) (blkOk_by (own := [("place", 2)]) (N := ["n", "entry", "place"]) (sc := defScope sGoal) (by decide +kernel))
        (fun _ _ _ _ _ => pg_name (i := 2) scGo.nd rfl (.inl rfl)) (fun _ _ _ _ _ => pts_one (pt_cmpR (r := rIn K true) op_notIn_seq (pv 2) (pv 1) rfl))
        (fun _ _ _ _ _ => pv 2)) pa_nil))), ?_⟩
    refine ⟨.int n, rfl, (n : Int), rfl, by omega, by omega, fun D nD => ?_⟩
    refine lc_it (walk_rg (n := n)) (fun i G => G D = some (.lst (lv ((List.range i).filter fun (x : Nat) => !decide ((x : Int) ∈ e)))) ∧ Same H G) ⟨upd_same, same_new nD⟩ (fun _ _ _ _ => trivial) ?_ ?_
    · rintro i x G G' hi ⟨hD, s1⟩ ⟨rfl, rfl⟩
      refine ⟨rfl, .int i, rfl, .ref a, rfl, a, _, rfl, .inr (SqT.of (s1 _ _ ha)), rfl, int_fl e, _, rfl, ?_⟩
      have er : (List.range (i + 1)).filter (fun (x : Nat) => !decide ((x : Int) ∈ e)) = (List.range i).filter (fun (x : Nat) => !decide ((x : Int) ∈ e)) ++ (if (i : Int) ∈ e then [] else [i]) := by
        rw [List.range_succ, List.filter_append]
        by_cases hm : (i : Int) ∈ e
        · rw [if_pos hm]
          simp [hm]
        · rw [if_neg hm]
          simp [hm]
      rw [inV_int, er]
      by_cases hm : (i : Int) ∈ e
      · rw [decide_eq_true hm, if_pos hm, List.append_nil]
        exact iteF ⟨hD, s1⟩
      · rw [decide_eq_false hm, if_neg hm]
        refine iteT ⟨_, rfl, _, hD, szm ?_, ?_, fun b o hb => ?_⟩
        · rw [lv_len]
          have := List.length_filter_le (fun (x : Nat) => !decide ((x : Int) ∈ e)) (List.range i)
          rw [List.length_range] at this
          omega
        · rw [upd_same]
          simp [lv]
        · rw [upd_ne (ne_of_none hb nD)]
          exact s1 _ _ hb
    · rintro G ⟨hD, s1⟩
      exact ⟨D, _, rfl, .inl ⟨SqL.of hD, fun t nt => q _ t (s1.trans (same_new nt)) upd_same⟩⟩
theorem o_goal (D0 : Df K mg "goal" sGoal ["n", "entry"]) (B : Bi mg) : Ok P w K mg base 1 "goal" ["n", "entry"] spGoal := D0.ok fun _ _ F => f_goal F B
end
end Kr
namespace Kr
open PySem PySem.Spec PyProof.Rows L2
section
variable {P : Program} {w : World} {K : PySem.W.Frag} {mg : Str → Option Value} {base : Heap}
theorem o_ways (D0 : Df K mg "ways_table" sWays ["n", "ways"]) (B : Bi mg) (al : Ok P w K mg base 2 "all_lots" ["n"] spAll6) (eb : Ok P w K mg base 1 "_entry_by" ["lot", "ways"] spEntBy) : Ok P w K mg base 3 "ways_table" ["n", "ways"] spWays := by
  have scSt : FnScope ["n", "ways", "lot"] ["n", "ways"] (defScope sWays) := ⟨rfl, rfl, rfl, by decide +kernel, rfl, by decide +kernel, by decide +kernel⟩
  refine D0.ok fun f fd F => F.ok scSt (fun vs H Q E h => ?_) (fun cdv A outer s H vs Q E hr h => ?_)
  · obtain ⟨n, b, ws, rfl, _⟩ := h
    rfl
  · obtain ⟨n, b, ws, rfl, hn, hb, hw, q⟩ := h
    have hr1 := hr.mono (show 1 ≤ 2 by decide)
    refine ⟨_, pss_one (ps_ret (pe_callTy call_tuple_of (by rfl) B.tuple (by decide +kernel) (pa_cons
      (pe_lc (own := [("lot", 2)]) (g := gName 2) (tt := tYes) rfl scSt.nd (pi_tup (pe_fn al hr (by rfl) (pa_cons (pv 0) pa_nil))) (blkOk_by (own := [("lot", 2)]) (N := ["n", "ways", "lot"]) (sc := defScope sWays) (by decide +kernel))
        (fun _ _ _ _ _ => pg_name (i := 2) scSt.nd rfl (.inl rfl)) (fun _ _ _ _ _ => pts_nil)
        (fun _ _ _ _ _ => pe_fn eb hr1 (by rfl) (pa_cons (pv 2) (pa_cons (pv 1) pa_nil)))) pa_nil))), ?_⟩
    refine ⟨.int n, rfl, n, rfl, hn, fun H1 v s1 hv => ?_⟩
    obtain ⟨a, xs, rfl, ha, qx⟩ := Dq.tup_inv hv
    refine ⟨a, rfl, ⟨xs, SqT.of ha⟩, fun D nD => ?_⟩
    have hxl : xs.length = (allL n).length := by rw [qx.len, List.length_map]
    have hal := all_few n (by omega)
    refine lc_itF (walk_tup (K := K) (a := a) (xs := xs)) (fun i => entD (byE ((allL n).getD i []) ws)) nD (by omega) (fun _ _ => ent_flat _) (fun G s => SqT.of (s _ _ ha)) (fun i x G G' C Cn hi s2 y c => ?_) (fun G acc s2 hD qa => ?_)
    · obtain ⟨rfl, hx⟩ := y
      obtain ⟨l, hl, b', rfl, hb'⟩ := lots_get qx hx
      rw [getD_of hl] at c
      refine ⟨rfl, ?_⟩
      dsimp only [tYes]
      rw [if_pos rfl]
      exact ⟨.ref b', rfl, .ref b, rfl, b', b, l, ws, rfl, s2 _ _ hb', s2 _ _ (s1 _ _ hb), hw, fun H' t s' ht => c _ _ s' (ent_at ht)⟩
    rw [hxl, map_getD (fun l => entD (byE l ws))] at qa
    refine ⟨D, acc, rfl, .inl ⟨SqL.of hD, fun t nt => q _ _ (s1.trans (s2.trans (same_new nt))) (.tup upd_same ?_)⟩⟩
    rw [List.map_map]
    exact qa.up (same_new nt)
end
end Kr
namespace Kr
open PySem PySem.Spec PyProof.Rows L2
section
variable {P : Program} {w : World} {K : PySem.W.Frag} {mg : Str → Option Value} {base : Heap}
theorem o_entBy (D : Df K mg "_entry_by" sEntryBy ["lot", "ways"]) (B : Bi mg) : Ok P w K mg base 1 "_entry_by" ["lot", "ways"] spEntBy := by
  have scEb : FnScope ["lot", "ways", "place", "way"] ["lot", "ways"] (defScope sEntryBy) := ⟨rfl, rfl, rfl, by decide +kernel, rfl, by decide +kernel, by decide +kernel⟩
  refine D.ok fun f fd F => F.ok scEb (fun vs H Q E h => ?_) (fun cdv A outer s H vs Q E hr h => ?_)
  · obtain ⟨a, b, l, ws, rfl, _⟩ := h
    rfl
  · obtain ⟨a, b, l, ws, rfl, ha, hb, hw, q⟩ := h
    refine ⟨_, pss_one (ps_ret (pe_callTy call_tuple_of (by rfl) B.tuple (by decide +kernel) (pa_cons
      (pe_lc (own := [("place", 2), ("way", 3)]) (g := gTup K 2 (gCons (gName 2) (gCons (gName 3) gNil))) (tt := tYes) rfl scEb.nd (pi_enum (by rfl) B.enumerate (pa_cons (pv 1) pa_nil)) (blkOk_by (own := [("place", 2), ("way", 3)]) (N := ["lot", "ways", "place", "way"]) (sc := defScope sEntryBy) (by decide +kernel))
        (fun _ _ _ _ _ => pg_tup rfl (pgs_cons (pg_name (i := 2) scEb.nd rfl (.inl rfl)) (pgs_cons (pg_name (i := 3) scEb.nd rfl (.inl rfl)) pgs_nil))) (fun _ _ _ _ _ => pts_nil)
        (fun _ _ _ _ _ => pe_ifExp (pt_cmpR (r := rIn K false) op_in_seq (pv 2) (pv 0) rfl) (pe_un un_neg pe_int) (pv 3))) pa_nil))), ?_⟩
    refine ⟨.ref b, rfl, b, _, rfl, SqL.of hb, fun D nD => ?_⟩
    refine lc_itF walk_enum (fun i => .int (if i ∈ l then -1 else ws.getD i 0)) nD (by rw [List.length_map]; omega) (fun _ _ => rfl) (fun G s => SqL.of (s _ _ hb)) (fun i x G G' C Cn hi s1 y c => ?_) (fun G acc s1 hD qa => ?_)
    · rw [List.length_map] at hi
      obtain ⟨T, x1, x2, rfl, nT, rfl, e1, e2⟩ := y
      cases Option.some.inj e1
      have e3 : x2 = .int (ws.getD i 0) := by
        have e4 : (ws.map V.int)[i]? = some x2 := e2
        rw [List.getElem?_map, List.getElem?_eq_getElem hi] at e4
        rw [List.getD_eq_getElem?_getD, List.getElem?_eq_getElem hi]
        exact (Option.some.inj e4).symm
      subst e3
      have sT := same_new (o := .tup [.int (i : Nat), .int (ws.getD i 0)]) nT
      have haT := sT _ _ (s1 _ _ ha)
      refine ⟨T, [.int (i : Nat), .int (ws.getD i 0)], rfl, SqT.of upd_same, rfl, .int (i : Nat), [.int (ws.getD i 0)], rfl, .int (ws.getD i 0), [], rfl, rfl, rfl, ?_⟩
      dsimp only [tYes]
      rw [if_pos rfl]
      refine ⟨.int (i : Nat), rfl, .ref a, rfl, a, lv l, rfl, .inr (SqT.of haT), rfl, lv_fl l, _, rfl, ?_⟩
      rw [inV_lot]
      by_cases hm : i ∈ l
      · rw [decide_eq_true hm]
        rw [if_pos hm] at c
        exact iteT ⟨1, rfl, c _ _ sT (.int _)⟩
      · rw [decide_eq_false hm]
        rw [if_neg hm] at c
        exact iteF ⟨_, rfl, c _ _ sT (.int _)⟩
    have eacc : acc = (byE l ws).map V.int := dqa_int (by
      rw [List.length_map] at qa
      unfold byE
      rw [List.map_map]
      exact qa)
    subst eacc
    exact ⟨D, _, rfl, .inl ⟨SqL.of hD, fun t nt => q _ t (s1.trans (same_new nt)) upd_same⟩⟩
end
end Kr
namespace Kr
open PySem PySem.Spec PyProof.Rows L2
/-! ### {k: v for ..}, the keys tuples -/
theorem put_tk {X : Cx} {ps : List (Addr × Obj)} {st : L2.St} {H : Hp} {sh : Shared} {B : Value → Shared → Prop} {D b : Addr} {es : List (List Key × V)} {ks : List Key} {v : V} {rv : Value} {Q : Unit → Shared → Prop} (hu : X.A.units < cLine) (Iv : Inv X ps st H sh) (hD : H D = some (.dT es))
    (hz : es.length < sizeLine) (hb : H b = some (.tup (ks.map kV))) (rel : RelV v rv) (fin : ∀ z, Inv X ps st (upd H D (.dT (putK es ks v))) z → Q () z) : wpAny (model X.prog X.w) X.A (dictSet D (.ref b) rv) Q B sh := by
  obtain ⟨z1, z2, ws, zr, zd⟩ := dt_of Iv.hok hD
  have zl : ws.length ≤ sizeLine := by rw [← Paired.length zr]; exact z1
  have zp : (putK es ks v).length ≤ sizeLine := Nat.le_trans (length_putK es ks v) hz
  refine wpAny_dictSet_heap (knd := tupleKind (mixKind X.prog X.w)) (hsz := zl) hu (key_of Iv.hok hb) zd fun h2 d2 same => fin _ ?_
  obtain ⟨ob, en, ep, e1, e2, e3, e4, _, e5⟩ := d2
  refine d_write Iv (by rw [hD]; trivial) same ⟨ob, e1⟩ ⟨zp, z2, _, (zr.put ks hb rel).keeps fun c ys ec => ?_, ob, en, ep, e1, e2, e3, e4, e5⟩
  exact (upd_ne (ne_of ec hD (by intro z; cases z))).trans ec
section
variable {X : Cx}
def tDcT (wi : TI) (g : TG) (tt : TT) (tk tv : TE) (own : List Nat) : TE := fun st H Q => wi st H fun J H1 => ∀ D, H1 D = none → ∃ W : Nat → Nat → Hp → Prop, (∃ m, W 0 m (upd H1 D (.dT []))) ∧ ∀ i m G, W i m G →
  (J.stop i G ∧ Q (.ref D) G) ∨ (J.go i G ∧ ∃ Nx : Hp → Prop, (∀ G', Nx G' → ∃ m', m' < m ∧ W (i + 1) m' G') ∧ ∀ x G', J.yld i G x G' → g x (wipe st own) G' fun s2 G2 => wipe s2 own = wipe st own ∧ tt s2 G2 fun yes G3 =>
    if yes = true then tk s2 G3 fun y G4 => tv s2 G4 fun z G5 => ∃ es ks b, y = .ref b ∧ G5 b = some (.tup (ks.map kV)) ∧ G5 D = some (.dT es) ∧ es.length < sizeLine ∧ Nx (upd G5 D (.dT (putK es ks z))) else Nx G3)
theorem pe_dcT {kx vx tg src : Expr} {ifs : List Expr} {sc : Scope} {own : List (Str × Nat)} {pos : Pos} {wi : TI} {g : TG} {tt : TT} {tk tv : TE} (hu : X.A.units < cLine) (calm : X.calm = true) (nd : X.N.Nodup) (ps : PI X tg src wi) (ok : BlkOk X.N X.env.scope sc own)
    (pg : ∀ (s : Shared) (H : Hp) (C : Addr) (cl : List (Str × Addr)) (fp : List Addr), PG (X.blk s H sc (compEnvC sc cl C X.env) fp) tg g) (pt : ∀ (s : Shared) (H : Hp) (C : Addr) (cl : List (Str × Addr)) (fp : List Addr), PTs (X.blk s H sc (compEnvC sc cl C X.env) fp) ifs tt)
    (pk : ∀ (s : Shared) (H : Hp) (C : Addr) (cl : List (Str × Addr)) (fp : List Addr), PE (X.blk s H sc (compEnvC sc cl C X.env) fp) kx tk)
    (pw : ∀ (s : Shared) (H : Hp) (C : Addr) (cl : List (Str × Addr)) (fp : List Addr), PE (X.blk s H sc (compEnvC sc cl C X.env) fp) vx tv) (fs : ∀ x, foldedSetIterable src X.env x = pure x := by intro _; rfl) :
    PE X (.DictComp kx vx [⟨tg, src, ifs, 0⟩] sc pos) (tDcT wi g tt tk tv (own.map (·.2))) := by
  refine ⟨fun pins s st H Q I h => ?_⟩
  rw [arm_eval_DictComp]
  have cellOf : ∀ y ∈ sc.names, y.2 = .free → ∃ c, X.env.cells.lookup y.1 = some c := fun y hy e => I.ok.has _ ((ok.free y hy e).elim .inl .inr)
  refine wpAny_comprehension_free (use := none) rfl fs (closure_ok cellOf) ok.kind (fun y hy e => by rw [ok.uniq y hy, e]) (thn (ps.run pins s st H _ I h) fun xv s1 hx => thn hx fun itv s2 h2 => ?_)
  obtain ⟨it, fp, tn, J, H2, rfl, I2, T, at2, fp2, q⟩ := h2
  refine wpAny_newObj_type (newEnv_comp ?_)
  have lt2 : ∀ b ∈ fp, b < s2.heap.objs.size := fun b hb => let ⟨_, e, _⟩ := T.obj _ _ at2 b hb; Heap.lt_size e
  generalize hD : s2.heap.objs.size = D
  have free2 : H2 D = none := I2.hok.fresh (Nat.le_of_eq hD)
  obtain ⟨W, ⟨m0, w0⟩, turn⟩ := q D free2
  generalize hsh : ({ s2 with heap := s2.heap.push { cls := .type "dict", data := .dict #[] } } : Shared) = s3
  have hp3 : s3.heap = s2.heap.push { cls := .type "dict", data := .dict #[] } := by rw [← hsh]
  have I3 : Inv X pins st (upd H2 D (.dT [])) s3 := by
    subst hsh
    exact I2.laid (t' := s2.toks) (fun b o e => Heap.get?_push_of_some _ e) (Nat.le_of_eq hD) (hD ▸ dt_empty s2.heap I2.big)
  have fp3 : ∀ b ∈ fp, FpOk X pins (upd H2 D (.dT [])) b ∧ b < s3.heap.objs.size := fun b hb => by
    have lt := lt2 b hb
    refine ⟨⟨(upd_ne (hD ▸ Nat.ne_of_lt lt)).trans (fp2 b hb).1, (fp2 b hb).2⟩, ?_⟩
    rw [hp3, Heap.size_push]
    exact Nat.lt_succ_of_lt lt
  have at3 : tn 0 s3.heap := T.keep _ _ _ at2 fun b _ o e => by rw [hp3]; exact Heap.get?_push_of_some _ e
  have I4 := block_start I3 ok nd fp3
  have g4 := pg s3 (upd H2 D (.dT [])) s3.heap.objs.size (cellsFrom (s3.heap.objs.size + 1) sc.names (cloFrom X.env.cells sc.names [])) fp
  have t4 := pt s3 (upd H2 D (.dT [])) s3.heap.objs.size (cellsFrom (s3.heap.objs.size + 1) sc.names (cloFrom X.env.cells sc.names [])) fp
  have k4 := pk s3 (upd H2 D (.dT [])) s3.heap.objs.size (cellsFrom (s3.heap.objs.size + 1) sc.names (cloFrom X.env.cells sc.names [])) fp
  have v4 := pw s3 (upd H2 D (.dT [])) s3.heap.objs.size (cellsFrom (s3.heap.objs.size + 1) sc.names (cloFrom X.env.cells sc.names [])) fp
  show codeAny _ _ (.compStart (.DictComp kx vx [⟨tg, src, ifs, 0⟩] sc pos) 0 (.ref it) (.ref D) (compEnvC sc (cellsFrom (s3.heap.objs.size + 1) sc.names (cloFrom X.env.cells sc.names [])) s3.heap.objs.size X.env)) _ { s3 with heap := pushCells (s3.heap.push { cls := .type "dict", data := .dict #[] }) sc.names }
  generalize hce : compEnvC sc (cellsFrom (s3.heap.objs.size + 1) sc.names (cloFrom X.env.cells sc.names [])) s3.heap.objs.size X.env = ce at I4 g4 t4 k4 v4 ⊢
  have loc : ce.locals = s3.heap.objs.size := by rw [← hce]; rfl
  have none3 : ∀ b ∈ fp, upd H2 D (.dT []) b = none := fun b hb => (fp3 b hb).1.1
  generalize upd H2 D (.dT []) = H3 at I3 I4 g4 t4 k4 v4 w0 none3 fp3
  generalize hs4 : ({ s3 with heap := pushCells (s3.heap.push { cls := .type "dict", data := .dict #[] }) sc.names } : Shared) = s4 at I4 ⊢
  have at4 : tn 0 s4.heap := T.keep _ _ _ at3 fun b _ o e => by rw [← hs4]; exact pushCells_keeps _ _ _ _ (Heap.get?_push_of_some _ e)
  have fpOf : ∀ {st' : L2.St} {G : Hp} {z : Shared}, Inv (X.blk s3 H3 sc ce fp) [] st' G z → (∀ b ∈ fp, G b = none) → ∀ b ∈ fp, FpOk (X.blk s3 H3 sc ce fp) [] G b := fun Iz no b hb =>
    ⟨no b hb, (Iz.ok.exf b hb).1, Iz.ok.exfs b hb, .inl hb, fun x c e => (Iz.ok.exf b hb).2 x c e, fun p hp => absurd (show p ∈ ([] : List (Addr × Obj)) ++ [] from hp) (by simp)⟩
  refine codeAny_compStart_dict ?lp (T.self X.A 0 _ _ _ at4 ?lp)
  refine compLoop_anyD (fun k z => ∃ i G, Inv (X.blk s3 H3 sc ce fp) [] (wipe st (own.map (·.2))) G z ∧ tn i z.heap ∧ (∀ b ∈ fp, G b = none) ∧ W i k G) ?_ m0 ⟨0, H3, I4, at4, none3, w0⟩
  rintro k s5 ⟨i, G5, I5, at5, no5, w5⟩
  rcases turn i k G5 w5 with ⟨hstop, fin⟩ | ⟨hgo, Nx, next, step⟩
  · refine thnF (T.done (X.blk s3 H3 sc ce fp) rfl rfl rfl calm i [] s5 _ G5 (fun _ _ => False) I5 (fpOf I5 no5) at5 hstop) fun r s6 ⟨hr, I6⟩ => ?_
    subst hr
    have I7 : Inv X pins st G5 s6 := I3.call' (ch := fp) I6.os I6.base I6.hok I6.bare fun b hb => ⟨(fp3 b hb).1.2.2.2.1, (fp3 b hb).1.2.1, (fp3 b hb).1.2.2.2.2.1, (fp3 b hb).1.2.2.2.2.2⟩
    have free6 : G5 s3.heap.objs.size = none := by rw [← loc]; exact I6.free
    obtain ⟨m, ns, _⟩ := I6.loc
    have ns : s6.heap.Ns ce.locals m := ns
    rw [loc] at ns
    refine ⟨m, ns, fun h7 sb => ?_⟩
    obtain ⟨f0, f1, f2, f3, f4, f5⟩ := I3.fpOk (Nat.le_refl _) free6
    exact ⟨.ref D, G5, I7.turned (t' := s6.toks) (fun b o hb e => (sb.2 b hb).trans e) f0 f1 f3 f4 f5, rfl, fin⟩
  · refine thnF (T.item (X.blk s3 H3 sc ce fp) rfl rfl rfl calm i [] s5 _ G5 (fun _ _ => False) I5 (fpOf I5 no5) at5 hgo) fun r s6 ⟨u, hr, h6⟩ => ?_
    subst hr
    refine thnF h6 fun _ s7 ⟨x, G7, I7, r7, y7, at7, no7⟩ => ?_
    have I8 := I7.pinned (fpOf I7 no7) (T.obj _ _ at7)
    refine thnF (g4.run _ s7 _ G7 x u _ I8 r7 (step x G7 y7)) fun _ s8 ⟨st8, G8, I9, wq, q8⟩ => ?_
    have back : ∀ {z : Shared} {G : Hp}, Inv (X.blk s3 H3 sc ce fp) ([] ++ pinsAt fp s7.heap) st8 G z → Nx G → ∃ m, m < k ∧ ∃ i G, Inv (X.blk s3 H3 sc ce fp) [] (wipe st (own.map (·.2))) G z ∧ tn i z.heap ∧ (∀ b ∈ fp, G b = none) ∧ W i m G := fun {z G} Iz nx => by
      obtain ⟨m', less, w'⟩ := next G nx
      have pinned : ∀ b ∈ fp, ∀ o, s7.heap.get? b = some o → z.heap.get? b = some o ∧ G b = none := fun b hb o e => by
        have p := Iz.pin (b, o) (List.mem_append_right _ (List.mem_append_right _ (mem_pinsAt hb e)))
        exact ⟨p.1, p.2.1⟩
      refine ⟨m', less, i + 1, G, (Iz.unpinned (pins := [])).weak (by rw [← wq, wipe_length]) (fun j v e => ?_), T.keep _ _ _ at7 fun b hb o e => (pinned b hb o e).1, fun b hb => ?_, w'⟩
      · rw [← wq] at e
        exact (wipe_some e).1
      · obtain ⟨o, e, _⟩ := T.obj _ _ at7 b hb
        exact (pinned b hb o e).2
    refine thnF (t4.run _ s8 st8 G8 _ I9 q8) fun yes s9 ⟨G9, I10, q9⟩ => ?_
    cases yes with
    | false =>
      simp only [Bool.false_eq_true, if_false] at q9 ⊢
      exact back I10 q9
    | true =>
      simp only [if_true] at q9 ⊢
      refine thnF (k4.run _ s9 st8 G9 _ I10 q9) fun kv s10 ⟨yk, G10, I11, r10, q10⟩ => ?_
      refine thnF (v4.run _ s10 st8 G10 _ I11 q10) fun vv s11 ⟨yv, G11, I12, r11, es, ks, b, ek, hb, hD11, hz, nx⟩ => ?_
      subst ek
      obtain rfl : kv = Value.ref b := r10
      exact put_tk (X := X.blk s3 H3 sc ce fp) hu I12 hD11 hz hb r11 fun z Iz => back Iz nx
/-- over any walk -/
theorem dcT_it {J : It} {n : Nat} {G : Hp → Prop} {Y : Nat → Hp → V → Hp → Prop} (w : Walk J n G Y) {g : TG} {tt : TT} {tk tv : TE} {vs : List Nat} {σ : L2.St} {H1 : Hp} {D : Addr} {Qd : Hp → Prop} (Pv : Nat → Hp → Prop) (h0 : Pv 0 (upd H1 D (.dT []))) (hG : ∀ i H, i ≤ n → Pv i H → G H)
    (hs : ∀ i x H H', i < n → Pv i H → Y i H x H' → g x (wipe σ vs) H' fun σ2 H2 => wipe σ2 vs = wipe σ vs ∧ tt σ2 H2 fun b H3 =>
      if b = true then tk σ2 H3 fun y H4 => tv σ2 H4 fun z H5 => ∃ es ks b, y = .ref b ∧ H5 b = some (.tup (ks.map kV)) ∧ H5 D = some (.dT es) ∧ es.length < sizeLine ∧ Pv (i + 1) (upd H5 D (.dT (putK es ks z))) else Pv (i + 1) H3) (hd : ∀ H, Pv n H → Qd H) :
    ∃ W : Nat → Nat → Hp → Prop, (∃ m, W 0 m (upd H1 D (.dT []))) ∧ ∀ i m H, W i m H →
      (J.stop i H ∧ Qd H) ∨ (J.go i H ∧ ∃ Nx : Hp → Prop, (∀ H', Nx H' → ∃ m', m' < m ∧ W (i + 1) m' H') ∧ ∀ x H', J.yld i H x H' → g x (wipe σ vs) H' fun σ2 H2 => wipe σ2 vs = wipe σ vs ∧ tt σ2 H2 fun b H3 =>
        if b = true then tk σ2 H3 fun y H4 => tv σ2 H4 fun z H5 => ∃ es ks b, y = .ref b ∧ H5 b = some (.tup (ks.map kV)) ∧ H5 D = some (.dT es) ∧ es.length < sizeLine ∧ Nx (upd H5 D (.dT (putK es ks z))) else Nx H3) := by
  refine ⟨fun i m H => m = n - i ∧ i ≤ n ∧ Pv i H, ⟨n, (Nat.sub_zero n).symm, Nat.zero_le _, h0⟩, fun i m H ⟨hm, hi, p⟩ => ?_⟩
  subst hm
  have hg := hG i H hi p
  rcases Nat.lt_or_ge i n with lt | ge
  · exact .inr ⟨w.goes i H lt hg, Pv (i + 1), fun H' p' => ⟨n - (i + 1), by omega, rfl, lt, p'⟩, fun x H' y => hs i x H H' lt p (w.yields i H x H' lt hg y)⟩
  · cases Nat.le_antisymm hi ge
    exact .inl ⟨w.stops H hg, hd H p⟩
end
end Kr
namespace Kr
open PySem PySem.Spec PyProof.Rows L2
section
variable {P : Program} {w : World} {K : PySem.W.Frag} {mg : Str → Option Value} {base : Heap}
theorem o_numbers (D0 : Df K mg "numbers_of_lots" sNumbers ["n"]) (B : Bi mg) (al : Ok P w K mg base 2 "all_lots" ["n"] spAll6) : Ok P w K mg base 3 "numbers_of_lots" ["n"] spNumbers := by
  have scNu : FnScope ["n", "number", "lot"] ["n"] (defScope sNumbers) := ⟨rfl, rfl, rfl, by decide +kernel, rfl, by decide +kernel, by decide +kernel⟩
  refine D0.ok fun f fd F => F.ok scNu (fun vs H Q E h => ?_) (fun cdv A outer s H vs Q E hr h => ?_)
  · obtain ⟨n, rfl, _⟩ := h
    rfl
  · obtain ⟨n, rfl, hn, q⟩ := h
    have hu2 : (cxOf CX0 P w K mg base ["n", "number", "lot"] "numbers_of_lots" (defScope sNumbers) f cdv A outer s H E).A.units < cLine := Nat.lt_of_le_of_lt (Nat.le_add_right _ 64) hr.units
    refine ⟨_, pss_one (ps_ret (pe_dcT (own := [("number", 1), ("lot", 2)]) (g := gTup K 2 (gCons (gName 1) (gCons (gName 2) gNil))) (tt := tYes) hu2 rfl scNu.nd (pi_enumT (by rfl) B.enumerate (pa_cons (pe_fn al hr (by rfl) (pa_cons (pv 0) pa_nil)) pa_nil)) (blkOk_by (own := [("number", 1), ("lot", 2)]) (N := ["n", "number", "lot"]) (sc := defScope sNumbers) (by decide +kernel))
        (fun _ _ _ _ _ => pg_tup rfl (pgs_cons (pg_name (i := 1) scNu.nd rfl (.inl rfl)) (pgs_cons (pg_name (i := 2) scNu.nd rfl (.inl rfl)) pgs_nil))) (fun _ _ _ _ _ => pts_nil)
        (fun _ _ _ _ _ => pv 2) (fun _ _ _ _ _ => pv 1))), ?_⟩
    refine ⟨.int n, rfl, n, rfl, hn, fun H1 lv1 s1 hl1 => ?_⟩
    obtain ⟨la, ks, rfl, hla, qk⟩ := Dq.tup_inv hl1
    have hal := all_few n (by omega)
    have hkl : ks.length = (allL n).length := by rw [qk.len, List.length_map]
    refine ⟨la, _, rfl, SqT.of hla, fun D nD => ?_⟩
    refine dcT_it walk_enumT (fun i G => ∃ es, G D = some (.dT es) ∧ Same H1 G ∧ es.length ≤ i ∧ ∀ j l, j < i → (allL n)[j]? = some l → valV es (lotK l) = some (.int (j : Nat)))
      ⟨[], upd_same, same_new nD, Nat.zero_le _, fun j _ h _ => absurd h (Nat.not_lt_zero j)⟩ (fun i G _ ⟨_, _, sm, _⟩ => SqT.of (sm _ _ hla)) ?_ ?_
    · rintro i _ G _ hi ⟨es, hD, sm, hlen, hes⟩ ⟨t, x, y, rfl, nt, rfl, e1, e2⟩
      cases Option.some.inj e1
      obtain ⟨l, hl, lb, rfl, hlb⟩ := lots_get qk e2
      have st := same_new (o := .tup [.int (i : Nat), .ref lb]) nt
      refine ⟨t, [.int (i : Nat), .ref lb], rfl, SqT.of upd_same, rfl, .int (i : Nat), [.ref lb], rfl, .ref lb, [], rfl, rfl, rfl, ?_⟩
      dsimp only [tYes]
      rw [if_pos rfl]
      refine ⟨.ref lb, rfl, .int (i : Nat), rfl, es, lotK l, lb, rfl, by rw [lotK_v]; exact st _ _ (sm _ _ hlb), st _ _ hD, szl (by omega), putK es (lotK l) (.int (i : Nat)), upd_same, fun b o hb => ?_, ?_, fun j l' hj hl' => ?_⟩
      · rw [upd_ne (ne_of_none hb nD)]
        exact st _ _ (sm _ _ hb)
      · have := length_putK es (lotK l) (V.int (i : Nat))
        omega
      · rw [valV_put]
        by_cases ek : lotK l' = lotK l
        · have := lotK_inj ek
          subst this
          have e1 := (all_num_at hn hl).1
          have e2 := (all_num_at hn hl').1
          rw [if_pos ek]
          rw [show j = i by omega]
        · rw [if_neg ek]
          refine hes j l' ?_ hl'
          rcases Nat.lt_or_ge j i with c | c
          · exact c
          · have : j = i := by omega
            subst this
            rw [hl] at hl'
            exact absurd (by rw [Option.some.inj hl']) ek
    · rintro G ⟨es, hD, sm, hlen, hes⟩
      refine q G D es (s1.trans sm) hD fun l hl => ?_
      obtain ⟨j, hj, ej⟩ := List.getElem_of_mem hl
      have e1 : (allL n)[j]? = some l := by rw [List.getElem?_eq_getElem hj, ej]
      rw [(all_num_at hn e1).1]
      exact hes j l (by omega) e1
end
end Kr
namespace Kr
open PySem PySem.Spec PyProof.Rows L2
section
variable {P : Program} {w : World} {K : PySem.W.Frag} {mg : Str → Option Value} {base : Heap}
theorem o_aims (D0 : Df K mg "aims_of" sAims ["n", "table"]) (B : Bi mg) (go : Ok P w K mg base 1 "goal" ["n", "entry"] spGoal) (nu : Ok P w K mg base 3 "numbers_of_lots" ["n"] spNumbers) : Ok P w K mg base 4 "aims_of" ["n", "table"] spAims := by
  have scAi : FnScope ["n", "table", "numbers", "entry"] ["n", "table"] (defScope sAims) := ⟨rfl, rfl, rfl, by decide +kernel, rfl, by decide +kernel, by decide +kernel⟩
  refine D0.ok fun f fd F => F.ok scAi (fun vs H Q E h => ?_) (fun cdv A outer s H vs Q E hr h => ?_)
  · obtain ⟨n, v, T, rfl, _⟩ := h
    rfl
  · obtain ⟨n, v, T, rfl, hn, hv, hTl, hT, q⟩ := h
    have hr1 := hr.mono (show 1 ≤ 3 by decide)
    have hu := hu_of hr
    refine ⟨_, pss_cons (ps_set (i := 2) scAi.nd rfl (.inr rfl) (pe_fn nu hr (by rfl) (pa_cons (pv 0) pa_nil)))
      (pss_one (ps_ret (pe_lc (own := [("entry", 3)]) (g := gName 3) (tt := tYes) rfl scAi.nd (pi_tup (pv 1)) (blkOk_by (own := [("entry", 3)]) (N := ["n", "table", "numbers", "entry"]) (sc := defScope sAims) (by decide +kernel))
        (fun _ _ _ _ _ => pg_name (i := 3) scAi.nd rfl (.inl rfl)) (fun _ _ _ _ _ => pts_nil)
        (fun _ _ _ _ _ => pe_dget hu (pv 2) (pe_fn go hr1 (by rfl) (pa_cons (pv 0) (pa_cons (pv 3) pa_nil))) (fun _ _ => rfl))))), ?_⟩
    refine ⟨.int n, rfl, n, rfl, hn, fun H1 nb kvs s1 hnb hkv => ?_⟩
    have hv1 := hv.up s1
    obtain ⟨va, xs, rfl, hva, qx⟩ := Dq.tup_inv hv1
    have hxl : xs.length = T.length := by rw [qx.len, List.length_map]
    refine ⟨.ref va, rfl, va, rfl, ⟨xs, SqT.of hva⟩, fun D nD => ?_⟩
    refine lc_itF (walk_tup (K := K) (a := va) (xs := xs)) (fun i => .int ((num n (goalE n (T.getD i [])) : Nat) : Int)) nD (by omega) (fun _ _ => rfl) (fun G s => SqT.of (s _ _ hva)) (fun i x G G' C Cn hi s2 y c => ?_) (fun G acc s2 hD qa => ?_)
    · obtain ⟨rfl, hx⟩ := y
      obtain ⟨e, he, ea, rfl, hea⟩ := ents_get qx hx
      have hgo := hT e (List.mem_of_getElem? he)
      rw [getD_of he] at c
      refine ⟨rfl, ?_⟩
      dsimp only [tYes]
      rw [if_pos rfl]
      refine ⟨.ref nb, rfl, .int n, rfl, .ref ea, rfl, n, ea, e, rfl, by omega, s2 _ _ hea, fun G2 t s3 ht => ?_⟩
      refine ⟨nb, .int (num n (goalE n e) : Nat), rfl, ?_, c _ _ s3 (.int _)⟩
      rw [← hkv _ hgo]
      exact DGet.t (s3 _ _ (s2 _ _ hnb)) (by rw [lotK_v]; exact ht)
    rw [hxl, map_getD (fun e => PyData.int ((num n (goalE n e) : Nat) : Int))] at qa
    have ea : acc = (aimsT n T).map V.int := dqa_int (by unfold aimsT; rw [List.map_map]; exact qa)
    subst ea
    exact q G D (s1.trans s2) (s1.free nD) hD
end
end Kr
namespace Kr
open PySem PySem.Spec PyProof.Rows L2
section
variable {P : Program} {w : World} {K : PySem.W.Frag} {mg : Str → Option Value} {base : Heap}
abbrev nEv : List Str := ["n", "found", "some", "size", "longer", "own", "x"]
theorem o_every (D0 : Df K mg "_law_every" sEvery ["n"]) (B : Bi mg) : Ok P w K mg base 1 "_law_every" ["n"] spEvery := by
  have scEv : FnScope nEv ["n"] (defScope sEvery) := ⟨rfl, rfl, rfl, by decide +kernel, rfl, by decide +kernel, by decide +kernel⟩
  refine D0.ok fun f fd F => F.ok scEv (fun vs H Q E h => ?_) (fun cdv A outer s H vs Q E hr h => ?_)
  · obtain ⟨n, rfl, _⟩ := h
    rfl
  · obtain ⟨n, rfl, hn, q⟩ := h
    have hu : (cxOf CX0 P w K mg base nEv "_law_every" (defScope sEvery) f cdv A outer s H E).A.units + 64 < cLine := hr.units
    refine ⟨_, pss_cons (ps_par (i := 1) (j := 2) rfl scEv.nd rfl rfl (by decide) rfl rfl (pa_cons (pe_lst (pa_cons (pe_tup pa_nil) pa_nil)) (pa_cons (pe_lst (pa_cons (pe_tup pa_nil) pa_nil)) pa_nil)) (by rfl))
      (pss_cons (ps_for PassesOwn.never rfl (pi_range1 (by rfl) B.range (pa_cons (pv 0) pa_nil)) (pg_name (i := 3) scEv.nd rfl (.inl rfl))
        (pss_cons (ps_set (i := 4) scEv.nd rfl (.inl rfl) (pe_lst pa_nil))
        (pss_cons (ps_for PassesOwn.never rfl (pi_list (pv 2)) (pg_name (i := 5) scEv.nd rfl (.inr rfl))
          (pss_one (ps_set (i := 4) scEv.nd rfl (.inl rfl) (pe_op op_cat (pv 4)
            (pe_lc (own := [("x", 6)]) (g := gName 6) (tt := tYes) rfl scEv.nd (pi_range2 (by rfl) B.range (pa_cons (pe_ifExp (pt_cmpR (op_neD hu) (pv 5) (pe_tup pa_nil) (nomark _)) (pe_op op_add (pe_ix (r := rIxT K) ix_tup (pv 5) (pe_un un_neg pe_int) (fun _ _ => rfl)) pe_int) pe_int) (pa_cons (pv 0) pa_nil))) (blkOk_by (own := [("x", 6)]) (N := nEv) (sc := defScope sEvery) (by decide +kernel))
              (fun _ _ _ _ _ => pg_name (i := 6) scEv.nd rfl (.inl rfl)) (fun _ _ _ _ _ => pts_nil)
              (fun _ _ _ _ _ => pe_op (r := rCatA K) op_catA (pv 5) (pe_tup (pa_cons (pv 6) pa_nil))))))))
        (pss_one (ps_par (i := 1) (j := 2) rfl scEv.nd rfl rfl (by decide) rfl rfl (pa_cons (pe_op op_cat (pv 1) (pv 4)) (pa_cons (pv 4) pa_nil)) (by rfl))))))
      (pss_one (ps_ret (pv 1)))), ?_⟩
    refine ⟨by show 0 ≤ sizeLine; decide, fun t0 nt0 => ⟨by show 1 ≤ sizeLine; decide, fun l0 nl0 => ⟨by show 0 ≤ sizeLine; decide, fun t1 nt1 => ⟨by show 1 ≤ sizeLine; decide, fun l1 nl1 => ⟨_, _, rfl, ?_⟩⟩⟩⟩⟩
    have s1 := same_new (o := .tup []) nt0
    have s2 := same_new (o := .lst [.ref t0]) nl0
    have s3 := same_new (o := .tup []) nt1
    have s4 := same_new (o := .lst [.ref t1]) nl1
    have h0 : Dq (upd (upd (upd (upd H t0 (.tup [])) l0 (.lst [.ref t0])) t1 (.tup [])) l1 (.lst [.ref t1])) (.ref l0) (.list (([[]] : List (List Nat)).map lotD)) := Dq.up s4 (Dq.up s3 (.lst upd_same (.cons (lot_at (l := []) (s2 _ _ upd_same)) .nil)))
    have h1 : Dq (upd (upd (upd (upd H t0 (.tup [])) l0 (.lst [.ref t0])) t1 (.tup [])) l1 (.lst [.ref t1])) (.ref l1) (.list (([[]] : List (List Nat)).map lotD)) := .lst upd_same (.cons (lot_at (l := []) (s4 _ _ upd_same)) .nil)
    have s14 := s1.trans (s2.trans (s3.trans s4))
    generalize upd (upd (upd (upd H t0 (.tup [])) l0 (.lst [.ref t0])) t1 (.tup [])) l1 (.lst [.ref t1]) = Ha at s14 h0 h1
    clear s1 s2 s3 s4 nt0 nl0 nt1 nl1
    refine ⟨.int n, rfl, (n : Int), rfl, by omega, by omega, for_it (walk_rg (n := n)) (fun i σ G => ∃ (fo so : V) (v3 v4 v5 : Option V), σ = [some (.int n), some fo, some so, v3, v4, v5, none] ∧ Same H G ∧ Dq G fo (.list (((List.range (i + 1)).flatMap (lotsL n)).map lotD)) ∧ Dq G so (.list ((lotsL n i).map lotD)))
      ⟨_, _, none, none, none, rfl, s14, h0, h1⟩ (fun _ _ _ _ _ => trivial) ?_ ?_⟩
    · rintro i x σ G0 G1 hi ⟨fo, so, v3, v4, v5, rfl, sm, hfo, hso⟩ ⟨rfl, rfl⟩
      refine ⟨by show 0 ≤ sizeLine; decide, fun f0 nf0 => ?_⟩
      have s5 := same_new (o := .lst []) nf0
      have hso1 := hso.up s5
      have hfo1 := hfo.up s5
      have hf1 : upd G1 f0 (.lst []) f0 = some (.lst []) := upd_same
      have sm1 := sm.trans s5
      generalize upd G1 f0 (.lst []) = G3 at hso1 hfo1 hf1 sm1
      have hful : ((lotsL n i).flatMap (exts n)).length < 1000 := by
        have h2 := lots_len n (by omega) (i + 1) (by omega)
        have h3 := ch_small n (by omega) (i + 1) (by omega)
        show (lotsL n (i + 1)).length < 1000
        omega
      cases hso1 with
      | @lst L us _ hL qus =>
      have hul : us.length = (lotsL n i).length := by rw [qus.len, List.length_map]
      refine ⟨.ref L, rfl, L, rfl, ⟨us, SqL.of hL⟩, for_list (K := K) (xs := us) (fun j σ G => ∃ (lo : V) (v5 : Option V), σ = [some (.int n), some fo, some (.ref L), some (.int i), some lo, v5, none] ∧ Same G3 G ∧ Dq G lo (.list ((((lotsL n i).take j).flatMap (exts n)).map lotD)))
        ⟨_, _, rfl, Same.refl _, .lst hf1 .nil⟩ (fun j σ G _ ⟨_, _, _, s2, _⟩ => SqL.of (s2 _ _ hL)) ?_ ?_⟩
      · rintro j x σ G hx ⟨lo, v5, rfl, s2, hlo⟩
        obtain ⟨l, hl, a, rfl, ha0⟩ := lots_get qus hx
        have ha := s2 _ _ ha0
        obtain ⟨hll, hlm⟩ := lots_in n i l (List.mem_of_getElem? hl)
        have hpre := flat_le (lotsL n i) (exts n) (j + 1)
        rw [flat_take hl, List.length_append] at hpre
        have hel : (exts n l).length = n - nx l := by unfold exts; rw [List.length_map, List.length_range']
        have hnx : nx l ≤ n := by
          by_cases hl0 : l = []
          · subst hl0
            rw [nx_nil]
            omega
          · have e : l = l.dropLast ++ [l.getLast hl0] := (List.dropLast_concat_getLast hl0).symm
            have := hlm _ (List.getLast_mem hl0)
            rw [e, nx_snoc]
            omega
        refine ⟨lo, rfl, ?_⟩
        refine next_ne (l := l) rfl ha fun G2 s3 => ?_
        refine ⟨.int n, rfl, _, _, rfl, ⟨by omega, by omega, by omega, by omega⟩, fun D nD => ?_⟩
        have hnn : ((n : Int) - (nx l : Nat)).toNat = n - nx l := by omega
        rw [hnn]
        refine lc_it (walk_range (lo := (nx l : Nat)) (n := n - nx l)) (fun k G4 => ∃ acc, G4 D = some (.lst acc) ∧ Same G2 G4 ∧ DqA G4 acc (((List.range' (nx l) k).map fun x => l ++ [x]).map lotD)) ⟨[], upd_same, same_new nD, .nil⟩ (fun _ _ _ _ => trivial) ?_ ?_
        · rintro k x G4 G4' hk ⟨acc, hD, s4, qa⟩ ⟨rfl, rfl⟩
          refine ⟨rfl, ?_⟩
          dsimp only [tYes]
          rw [if_pos rfl]
          have ha4 := s4 _ _ (s3 _ _ ha)
          refine ⟨.ref a, rfl, .int _, rfl, by show 1 ≤ sizeLine; decide, fun u nu => ?_⟩
          have su := same_new (o := .tup [.int ((nx l : Nat) + (k : Int))]) nu
          refine catA_k (su _ _ ha4) upd_same (by rw [lv_len, hll]; show _ + 1 ≤ _; omega) fun y H5 s5 hy => ?_
          have hD5 := s5 _ _ (su _ _ hD)
          have hl2 : acc.length = k := by rw [qa.len, List.length_map, List.length_map, List.length_range']
          refine ⟨acc, hD5, szm (by omega), acc ++ [.ref y], upd_same, fun b o hb => ?_, ?_⟩
          · rw [upd_ne (ne_of_none hb nD)]
            exact s5 _ _ (su _ _ (s4 _ _ hb))
          · have ts : TS H5 (upd H5 D (.lst (acc ++ [.ref y]))) := TS.lst hD5
            rw [range1_succ, List.map_append (f := fun x => l ++ [x]), List.map_append (f := lotD)]
            refine dqa_snoc (DqA.upT ts (lots_flat _) ((qa.up su).up s5)) (Dq.upT ts (lot_flat _) ?_)
            refine lot_at ?_
            rw [hy, lv_snoc]
            simp
        · rintro G4 ⟨acc, hD, s4, qa⟩
          have hf4 := (hlo.up s3).up s4
          cases hf4 with
          | @lst fa fs _ hfa qfs =>
          refine ⟨fa, D, fs, acc, rfl, rfl, hfa, hD, ?_, fun p np => ?_⟩
          · have e1 : fs.length = (((lotsL n i).take j).flatMap (exts n)).length := by rw [qfs.len, List.length_map]
            have e2 : acc.length = (exts n l).length := by rw [qa.len, List.length_map]; rfl
            exact sz (by rw [e1, e2]; omega)
          · have sp := same_new (o := .lst (fs ++ acc)) np
            refine ⟨.ref p, _, rfl, s2.trans (s3.trans (s4.trans sp)), ?_⟩
            rw [flat_take hl, List.map_append (f := lotD)]
            exact .lst upd_same ((qfs.up sp).app (qa.up sp))
      · rintro σ G ⟨lo, v5, rfl, s2, hlo⟩
        rw [hul, List.take_length] at hlo
        have hlo : Dq G lo (.list ((lotsL n (i + 1)).map lotD)) := hlo
        have hfo2 := hfo1.up s2
        cases hfo2 with
        | @lst fa fs _ hfa qfs =>
        cases hlo with
        | @lst la ls _ hla qls =>
        have hb := every_few n (by omega) (i + 2) (by omega)
        have er : (List.range (i + 2)).flatMap (lotsL n) = (List.range (i + 1)).flatMap (lotsL n) ++ lotsL n (i + 1) := by
          rw [List.range_succ, List.flatMap_append]
          simp
        rw [er, List.length_append] at hb
        refine ⟨.ref fa, rfl, .ref la, rfl, fa, la, fs, ls, rfl, rfl, hfa, hla, ?_, fun p np => ?_⟩
        · rw [qfs.len, qls.len, List.length_map, List.length_map]
          exact sz (by omega)
        · have sp := same_new (o := .lst (fs ++ ls)) np
          refine ⟨.ref la, rfl, _, _, rfl, .ref p, .ref la, _, _, _, rfl, sm1.trans (s2.trans sp), ?_, .lst (sp _ _ hla) (qls.up sp)⟩
          rw [er, List.map_append (f := lotD)]
          exact .lst upd_same ((qfs.up sp).app (qls.up sp))
    · rintro σ G ⟨fo, so, v3, v4, v5, rfl, sm, hfo, hso⟩
      exact ⟨fo, rfl, q _ _ sm hfo⟩
end
end Kr
namespace Kr
open PySem PySem.Spec PyProof.Rows L2
section
variable {P : Program} {w : World} {K : PySem.W.Frag} {mg : Str → Option Value} {base : Heap}
abbrev nLe : List Str := ["n", "lies", "found", "y", "x"]
theorem o_lEntry (D0 : Df K mg "_law_entry" sEntry ["n", "lies"]) (B : Bi mg) : Ok P w K mg base 1 "_law_entry" ["n", "lies"] spLEnt := by
  have scLe : FnScope nLe ["n", "lies"] (defScope sEntry) := ⟨rfl, rfl, rfl, by decide +kernel, rfl, by decide +kernel, by decide +kernel⟩
  refine D0.ok fun f fd F => F.ok scLe (fun vs H Q E h => ?_) (fun cdv A outer s H vs Q E hr h => ?_)
  · obtain ⟨n, a, ls, rfl, _⟩ := h
    rfl
  · obtain ⟨n, a, ls, rfl, hn0, hn, ha, hll, hlx, q⟩ := h
    refine ⟨_, pss_cons (ps_set (i := 2) scLe.nd rfl (.inl rfl) (pe_op op_rep (pe_lst (pa_cons (pe_un un_neg pe_int) pa_nil)) (pv 0)))
      (pss_cons (ps_for PassesOwn.never rfl (pi_enum (by rfl) B.enumerate (pa_cons (pv 1) pa_nil)) (pg_tup rfl (pgs_cons (pg_name (i := 3) scLe.nd rfl (.inl rfl)) (pgs_cons (pg_name (i := 4) scLe.nd rfl (.inl rfl)) pgs_nil)))
        (pss_one (ps_if (pt_cmpR op_ge (pv 4) pe_int (nomark _)) (pss_one (ps_asg (pv 3) (pg_sub (pv 2) (pv 4) set_list))) pss_nil)))
      (pss_one (ps_ret (pe_callTy call_tuple_of (by rfl) B.tuple (by decide +kernel) (pa_cons (pv 2) pa_nil))))), ?_⟩
    refine ⟨1, rfl, by show 1 ≤ sizeLine; decide, fun l1 nl1 => ⟨.int n, rfl, l1, (n : Int), [.int (-1)], rfl, rfl, upd_same, by omega, by omega, by show 1 * _ ≤ sizeLine; exact sz (by omega), fun fo nfo => ?_⟩⟩
    have s1 := same_new (o := .lst [.int (-1)]) nl1
    have s2 := same_new (o := .lst (List.replicate (n : Int).toNat [V.int (-1)]).flatten) nfo
    have hfo : upd (upd H l1 (.lst [.int (-1)])) fo (.lst (List.replicate (n : Int).toNat [V.int (-1)]).flatten) fo = some (.lst ((List.replicate n (-1)).map V.int)) := by
      rw [upd_same, Int.toNat_natCast, List.map_replicate]
      exact congrArg _ (congrArg _ (by
        have : ∀ (k : Nat), (List.replicate k [V.int (-1)]).flatten = List.replicate k (V.int (-1)) := fun k => by
          induction k with
          | zero => rfl
          | succ k ih => rw [List.replicate_succ, List.flatten_cons, ih]; rfl
        exact this n))
    have s12 := s1.trans s2
    have nf : ∀ b o, H b = some o → b ≠ fo := fun b o hb => ne_of_none (s1 _ _ hb) nfo
    generalize upd (upd H l1 (.lst [.int (-1)])) fo (.lst (List.replicate (n : Int).toNat [V.int (-1)]).flatten) = H2 at hfo s12
    refine ⟨.ref a, rfl, a, _, rfl, SqL.of (s12 _ _ ha), for_it walk_enum (fun i σ G => ∃ (acc : List Int) (v3 v4 : Option V), σ = [some (.int n), some (.ref a), some (.ref fo), v3, v4] ∧ (∀ b o, H b = some o → G b = some o) ∧ G fo = some (.lst (acc.map V.int)) ∧ acc.length = n ∧ setGo i (ls.drop i) acc = lawE n ls)
      ⟨_, none, none, rfl, s12, hfo, List.length_replicate, rfl⟩ (fun i σ G _ ⟨_, _, _, _, k, _⟩ => SqL.of (k _ _ ha)) ?_ ?_⟩
    · rintro i _ σ G _ hi ⟨acc, v3, v4, rfl, k, hG, hal, eg⟩ ⟨T, x1, x2, rfl, nT, rfl, e1, e2⟩
      cases Option.some.inj e1
      rw [List.length_map] at hi
      have e3 : x2 = .int ls[i] := by
        have e4 : (ls.map V.int)[i]? = some x2 := e2
        rw [List.getElem?_map, List.getElem?_eq_getElem hi] at e4
        exact (Option.some.inj e4).symm
      subst e3
      rw [List.drop_eq_getElem_cons hi] at eg
      have hz := hlx _ (List.getElem_mem hi)
      generalize ls[i] = z at eg hz
      have sT := same_new (o := .tup [.int (i : Nat), .int z]) nT
      have hGT := sT _ _ hG
      simp only [setGo] at eg
      refine ⟨T, [.int (i : Nat), .int z], rfl, SqT.of upd_same, rfl, .int (i : Nat), [.int z], rfl, .int z, [], rfl, rfl, ?_⟩
      refine ⟨.int z, rfl, _, _, rfl, rfl, _, rfl, ite2 (fun hc => ?_) (fun hc => ?_)⟩
      · have hz0 : 0 ≤ z := of_decide_eq_true hc
        rw [if_pos hz0] at eg
        obtain ⟨m, rfl⟩ : ∃ m : Nat, z = m := ⟨z.toNat, by omega⟩
        rw [Int.toNat_natCast] at eg
        refine ⟨.int (i : Nat), rfl, .ref fo, rfl, .int m, rfl, fo, _, m, m, rfl, rfl, hGT, ixN_nat (by rw [List.length_map, hal]; omega), acc.set m (i : Int), _, _, rfl, fun b o hb => ?_, ?_, by rw [List.length_set]; exact hal, eg⟩
        · rw [upd_ne (nf b o hb)]
          exact sT _ _ (k _ _ hb)
        · rw [upd_same, List.map_set]
      · have hz0 : ¬ 0 ≤ z := fun y => hc (decide_eq_true y)
        rw [if_neg hz0] at eg
        exact ⟨acc, _, _, rfl, fun b o hb => sT _ _ (k _ _ hb), hGT, hal, eg⟩
    · rintro σ G ⟨acc, v3, v4, rfl, k, hG, hal, eg⟩
      rw [List.length_map, List.drop_of_length_le (Nat.le_refl _)] at eg
      have ea : acc = lawE n ls := eg
      rw [ea] at hG
      exact ⟨.ref fo, rfl, fo, _, rfl, .inl ⟨SqL.of hG, fun t nt => q _ t (fun b o hb => same_new nt _ _ (k _ _ hb)) upd_same⟩⟩
end
end Kr
namespace Kr
open PySem PySem.Spec PyProof.Rows L2
section
variable {P : Program} {w : World} {K : PySem.W.Frag} {mg : Str → Option Value} {base : Heap}
abbrev nMx : List Str := ["box", "items", "left", "found", "turn"]
theorem scMixed : FnScope nMx ["box", "items"] (defScope sMixed) := ⟨rfl, rfl, rfl, by decide +kernel, rfl, by decide +kernel, by decide +kernel⟩
theorem o_mixed (D : Df K mg "_law_mixed" sMixed ["box", "items"]) (B : Bi mg) (d : Ok P w K mg base 1 "_law_draw" ["box", "many"] spDraw) : Ok P w K mg base 2 "_law_mixed" ["box", "items"] spMixV := by
  refine D.ok fun fa fd F => F.ok scMixed (fun vs H Q E h => ?_) (fun cdv A outer s H vs Q E hr h => ?_)
  · obtain ⟨p, l, a, xs, rfl, _⟩ := h
    rfl
  · obtain ⟨p, l, a, xs, rfl, Dk, ha, hlen, q⟩ := h
    refine ⟨_, pss_cons (ps_par (i := 2) (j := 3) rfl scMixed.nd rfl rfl (by decide) rfl rfl (pa_cons (pe_callTy call_list_of (by rfl) B.list (by decide +kernel) (pa_cons (pv 1) pa_nil)) (pa_cons (pe_lst pa_nil) pa_nil)) (by rfl))
      (pss_cons (ps_for PassesOwn.never rfl (pi_range1 (by rfl) B.range (pa_cons (pe_callB call_len_seq (by rfl) B.len boot_len (pa_cons (pv 2) pa_nil)) pa_nil)) (pg_name (i := 4) scMixed.nd rfl (.inl rfl))
        (pss_one (ps_expr (pe_bm PySem.F.plainAttrs_list PySem.F.slot_list_append PySem.F.type_list_append mt_append (pv 3) (pa_cons
          (pe_bm PySem.F.plainAttrs_list PySem.F.slot_list_pop PySem.F.type_list_pop mt_popAt (pv 2) (pa_cons (pe_fn d hr (by rfl) (pa_cons (pv 0) (pa_cons (pe_callB call_len_seq (by rfl) B.len boot_len (pa_cons (pv 2) pa_nil)) pa_nil))) pa_nil)) pa_nil)))))
      (pss_one (ps_ret (pv 3)))), ?_⟩
    refine ⟨.ref a, rfl, a, _, rfl, .inl (SqL.of (hid_same p l H _ _ ha)), fun lf nlf => ?_⟩
    obtain ⟨nlp, nll⟩ := Dk.new nlf
    obtain ⟨e1, D1, _⟩ := new_dq (o := .lst xs) Dk nlf
    refine ⟨by show 0 ≤ sizeLine; decide, fun f nf => ?_⟩
    obtain ⟨nfp, nfl⟩ := D1.new nf
    have nff : f ≠ lf := fun z => by rw [z, upd_same] at nf; cases nf
    have nf0 : H f = none := by rw [upd_ne nff] at nf; exact nf
    obtain ⟨e2, D2, _⟩ := new_dq (o := .lst []) D1 nf
    have hz0 : upd (upd H lf (.lst xs)) f (.lst []) lf = some (.lst xs) := by rw [upd_ne nff.symm, upd_same]
    refine ⟨_, _, rfl, .ref lf, rfl, lf, _, rfl, .inl (SqL.of hz0), (xs.length : Int), rfl, by omega, by omega, ?_⟩
    refine for_it (walk_rg (n := xs.length)) (fun i σ H6 => ∃ (zs ys : List V) (v4 : Option V), σ = [some (.ref p), some (.ref a), some (.ref lf), some (.ref f), v4] ∧ Deck H6 p l ∧ Ext p l H H6 ∧ H6 lf = some (.lst zs) ∧ H6 f = some (.lst ys) ∧ (ys ++ zs).Perm xs ∧ ys.length = i)
      ⟨xs, [], none, rfl, D2, e1.trans e2, hz0, upd_same, .refl _, rfl⟩ (fun _ _ _ _ _ => trivial) ?_ ?_
    · rintro i x σ H6 H7 hi ⟨zs, ys, v4, rfl, D7, E7, hz7, hy7, hp, hyi⟩ ⟨rfl, rfl⟩
      have hll := hp.length_eq
      rw [List.length_append] at hll
      have hpos : 0 < zs.length := by omega
      refine ⟨.ref f, rfl, .inl ⟨rfl, _, SqL.of hy7⟩, .ref lf, rfl, .inl ⟨rfl, _, SqL.of hz7⟩, .ref p, rfl, .ref lf, rfl, lf, _, rfl, .inl (SqL.of hz7), p, l, _, rfl, D7, by omega, by omega, fun H8 r D8 E8 h0 h1 => ?_⟩
      have hr : r.toNat < zs.length := by omega
      have hz8 : H8 lf = some (.lst zs) := (hid_some (E8 lf _ (by rw [hid_ne nlp nll]; exact hz7))).2.2
      have hy8 : H8 f = some (.lst ys) := (hid_some (E8 f _ (by rw [hid_ne nfp nfl]; exact hy7))).2.2
      have E9 := E7.trans E8
      refine ⟨lf, zs, r, r.toNat, zs[r.toNat], rfl, rfl, hz8, by omega, by omega, seqIx h0 (by omega), List.getElem?_eq_getElem hr, ?_⟩
      refine ⟨f, ys, zs[r.toNat], rfl, rfl, by rw [upd_ne nff]; exact hy8, szl (by omega), ?_⟩
      refine ⟨zs.eraseIdx r.toNat, ys ++ [zs[r.toNat]], _, rfl, (D8.mut nlp nll).mut nfp nfl, Ext.mut (Ext.mut E9 nlf) nf0, ?_, ?_, ?_, ?_⟩
      · rw [upd_ne nff.symm, upd_same]
      · rw [upd_same]
      · rw [List.append_assoc]
        exact (List.Perm.append_left ys (erasev_perm zs hr)).trans hp
      · rw [List.length_append, hyi]
        rfl
    · rintro σ H6 ⟨zs, ys, v4, rfl, D7, E7, hz7, hy7, hp, hyi⟩
      have hll := hp.length_eq
      rw [List.length_append] at hll
      have : zs = [] := List.length_eq_zero_iff.mp (by omega)
      subst this
      exact ⟨.ref f, rfl, q H6 f ys D7 E7 nf0 (by rw [hid_ne nfp nfl]; exact hy7) (by rw [List.append_nil] at hp; exact hp)⟩
end
end Kr
namespace Kr
open PySem PySem.Spec PyProof.Rows L2
section
variable {prog : Program} {w : World} {A : Around} {E : Value → Shared → Prop} {s : Shared}
/-- the heap behind a collecting -/
def gathered (h : Heap) (vs : List Value) : Heap := (h.push (seqObj "list" #[] 0)).update h.objs.size (Obj.mapSeq (· ++ vs.toArray))
theorem collect_tup {t : Addr} {vs : List Value} {Q : List Value → Shared → Prop} (hl : IsTup s.heap t vs.toArray) (h : Q vs { s with heap := gathered s.heap vs }) (hsz : vs.length ≤ sizeLine) : wpAny (model prog w) A (collect (.ref t)) Q E s := by
  obtain ⟨ot, gt, ct, nt, dt⟩ := id hl
  unfold collect
  refine wpAny_bind (wpAny_runValue (codeAny_builtin entry_proto_collect' ?_))
  show wpAny (model prog w) _ (do again (.builtin "list.__iadd__" ⟨[← newList [], .ref t], []⟩)) _ _ s
  refine wpAny_bind (wpAny_newList (wpAny_pure ⟨Code.quiet_builtin _ (by decide +kernel), codeAny_builtin entry_list_iadd' (?_ : wpAny (model prog w) _ (Builtin.List.listExtendWith (.ref s.heap.objs.size) (.ref t) (.ref s.heap.objs.size)) _ _ { s with heap := s.heap.push (seqObj "list" #[] 0) })⟩))
  unfold Builtin.List.listExtendWith
  have gt' : (s.heap.push (seqObj "list" #[] 0)).get? t = some ot := Heap.get?_push_of_some _ gt
  refine wpAny_bind (wpAny_typeOf (T := "tuple") ⟨ot, gt', ct⟩ ?_)
  have tt : (Value.type "tuple" == Value.type "tuple") = true := by rfl
  rw [if_pos (by rw [tt]; simp)]
  refine wpAny_bind (listItems_at gt' dt (wpAny_bind (listItems_at (xs := #[]) (n := 0) (Heap.get?_push_size _ rfl) rfl ?_)))
  rw [if_neg (by simp)]
  refine wpAny_bind (listUpdate_at (xs := #[]) (n := 0) (Heap.get?_push_size _ rfl) rfl (wpAny_pure ?_) (Nat.zero_le _) (by show (#[] ++ vs.toArray).size ≤ sizeLine + 1; simp only [Array.size_append, List.size_toArray, List.length_nil]; omega))
  show wpAny (model prog w) A (do let ob ← load s.heap.objs.size; match ob.data with | .seq xs _ => pure xs.toList | _ => unsupported "internal:collect") Q E { s with heap := gathered s.heap vs }
  refine wpAny_bind (wpAny_load (get?_update_seq (Heap.get?_push_size _ rfl) _) ?_)
  show wpAny (model prog w) A (pure ((#[] : Array Value) ++ vs.toArray).toList) Q E _
  have e0 : ((#[] : Array Value) ++ vs.toArray).toList = vs := by simp
  rw [e0]
  exact wpAny_pure h
theorem sorted_tup {t : Addr} {vs : List Value} {ltv : Value → Value → Bool} {Q : Value → Shared → Prop} (O : SrtO.Swo ltv) (hl : IsTup s.heap t vs.toArray) (hz : vs.length ≤ sizeLine)
    (hS : 2 ≤ vs.length → ∀ (h₁ : Heap) (a : Addr), h₁.get? a = some (seqObj "list" vs.toArray 0) → (∀ b o, s.heap.get? b = some o → b ≠ a ∧ h₁.get? b = some o) → SrtO.SortableO prog w A.in1.in1 { s with heap := h₁ } a vs ltv)
    (h : ∀ out : List Value, SrtO.Srtd ltv out → SrtO.Stb ltv out vs → Q (.ref (s.heap.objs.size + 1)) { s with heap := sortedAll s.heap vs out.toArray }) : wpAny (model prog w) A (call (.builtin "sorted") [.ref t]) Q E s := by
  refine Calls.call_function_entry kind_sorted plain_sorted entry_sorted (args_sorted1 _) ?_
  unfold Builtin.«sorted»
  refine wpAny_bind (m := checkCount "sorted" 1 1 _) (wpAny_pure (wpAny_bind (collect_tup hl (wpAny_bind (wpAny_newList ?_ hz)) hz)))
  have z1 : (gathered s.heap vs).objs.size = s.heap.objs.size + 1 := (Heap.size_update _ _ _).trans (size_push' _ _)
  have lst : ((gathered s.heap vs).push (seqObj "list" vs.toArray 0)).get? (s.heap.objs.size + 1) = some (seqObj "list" vs.toArray 0) := by
    rw [← z1]; exact Heap.get?_push_size _ rfl
  have stays : ∀ b o, s.heap.get? b = some o → b ≠ s.heap.objs.size + 1 ∧ ((gathered s.heap vs).push (seqObj "list" vs.toArray 0)).get? b = some o := fun b o q => by
    have lt := Heap.lt_size q
    refine ⟨Nat.ne_of_lt (Nat.lt_succ_of_lt lt), Heap.get?_push_of_some _ ?_⟩
    unfold gathered
    rw [Heap.get?_update_ne _ _ _ _ (Nat.ne_of_lt lt)]
    exact Heap.get?_push_of_some _ q
  show wpAny (model prog w) _ _ _ _ { s with heap := (gathered s.heap vs).push (seqObj "list" vs.toArray 0) }
  rw [z1]
  exact wpAny_bind (wpAny_holding (wpAny_call_entry slot_list_sort ⟨_, lst, rfl⟩ entry_list_sort (SrtO.list_sort_ord O lst hz (fun h2 => hS h2 _ _ lst stays) fun out hs hb => ⟨_, rfl, wpAny_pure ⟨_, rfl, h out hs hb⟩⟩) (args_list_sort _)))
end
section
variable {X : Cx}
/-- sorted(t), t a tuple of whole numbers -/
def rSortT (K : PySem.W.Frag) : List V → Hp → VK → Prop := fun vs H Q => ∃ (a : Addr) (ns : List Int), vs = [V.ref a] ∧ SqT K H a (ns.map V.int) ∧ ∀ (ns' : List Int) (p : Addr), ns'.Perm ns → ns'.Pairwise (· ≤ ·) → H p = none → Q (.ref p) (upd H p (.lst (ns'.map V.int)))
theorem cr_sortT5 : CallR X (.builtin "sorted") (rSortT X.K) := by
  intro pins s σ H vs us Q I r h
  obtain ⟨a, ns, rfl, hs, q⟩ := h
  obtain ⟨its, rv, ht, hz⟩ := I.tuple hs
  rw [Vals.ref1 r]
  have hi := rv.ints
  refine sorted_tup SrtO.swo_int ht (by rw [← rv.length]; exact hz) (fun h2 _ _ _ _ => SrtO.ints_sortable hi h2) fun out h1 h2 => ?_
  obtain ⟨k1, k2, k3⟩ := SrtO.ints_out hi h1 h2
  obtain ⟨ep, he⟩ := PyProof.Rows.sortedAll_at s.heap its out.toArray
  have hl : ((out.map SrtO.iv).map V.int).length ≤ sizeLine := by
    rw [List.length_map] at hz
    rw [List.length_map, k2.length_eq]
    exact hz
  exact ⟨.ref _, upd H (s.heap.objs.size + 1) (.lst ((out.map SrtO.iv).map V.int)), I.laid (t' := s.toks) (fun _ _ => PyProof.Rows.sortedAll_old) (Nat.le_succ _) ⟨hl, out, ep, vals_of_ints k1, he⟩, rfl, q _ _ k2 k3 (I.hok.fresh (Nat.le_succ _))⟩
end
end Kr
namespace Kr
open PySem PySem.Spec PyProof.Rows L2
section
variable {P : Program} {w : World} {K : PySem.W.Frag} {mg : Str → Option Value} {base : Heap}
abbrev nDd : List Str := ["box", "n", "mixed", "size", "a", "b"]
theorem o_deed (D0 : Df K mg "_law_deed" sDeed ["box", "n"]) (B : Bi mg) (dr : Ok P w K mg base 1 "_law_draw" ["box", "many"] spDraw) (mx : Ok P w K mg base 2 "_law_mixed" ["box", "items"] spMixV) : Ok P w K mg base 3 "_law_deed" ["box", "n"] spDeed := by
  have scDd : FnScope nDd ["box", "n"] (defScope sDeed) := ⟨rfl, rfl, rfl, by decide +kernel, rfl, by decide +kernel, by decide +kernel⟩
  refine D0.ok fun f fd F => F.ok scDd (fun vs H Q E h => ?_) (fun cdv A outer s H vs Q E hr h => ?_)
  · obtain ⟨p, l, n, rfl, _⟩ := h
    rfl
  · obtain ⟨p, l, n, rfl, Dk, n0, n1, q⟩ := h
    have hr1 := hr.mono (show 1 ≤ 2 by decide)
    refine ⟨_, pss_cons (ps_par (i := 2) (j := 3) rfl scDd.nd rfl rfl (by decide) rfl rfl (pa_cons (pe_fn mx hr (by rfl) (pa_cons (pv 0) (pa_cons (pe_listRg rfl (by rfl) B.list (prg_1 (by rfl) B.range (pv 1))) pa_nil))) (pa_cons (pe_fn dr hr1 (by rfl) (pa_cons (pv 0) (pa_cons (pe_op op_sub (pv 1) pe_int) pa_nil))) pa_nil)) (by rfl))
      (pss_cons (ps_asg (pe_callB cr_sortedI (by rfl) B.sorted (by decide +kernel) (pa_cons (pe_slice sl_list (pv 2) (po_some (pv 3)) (po_some (pe_op op_add (pv 3) pe_int))) pa_nil)) (pg_unl rfl (pgs_cons (pg_name (i := 4) scDd.nd rfl (.inl rfl)) (pgs_cons (pg_name (i := 5) scDd.nd rfl (.inl rfl)) pgs_nil))))
      (pss_one (ps_ret (pe_tup (pa_cons (pe_callTy call_tuple_of (by rfl) B.tuple (by decide +kernel) (pa_cons (pe_callB cr_sortedI (by rfl) B.sorted (by decide +kernel) (pa_cons (pe_slice sl_list (pv 2) po_none (po_some (pv 3))) pa_nil)) pa_nil)) (pa_cons (pv 4) (pa_cons (pv 5) pa_nil))))))), ?_⟩
    refine ⟨.ref p, rfl, .int n, rfl, (n : Int), rfl, RgOk.of_le (Int.le_refl _) (by omega) (by decide) (by omega), fun b nb => ?_⟩
    rw [rg_ups]
    obtain ⟨e4, D4, hid4⟩ := new_dq (o := .lst ((ups n).map V.int)) Dk nb
    have hul : (ups n).length = n := by unfold ups; rw [List.length_map, List.length_range]
    refine ⟨p, l, b, _, rfl, D4, hid4, by rw [List.length_map, hul]; omega, fun H5 f5 ys D5 E5 nf5 hf hp => ?_⟩
    obtain ⟨zs, rfl, hpz⟩ : ∃ zs : List Int, ys = zs.map V.int ∧ zs.Perm (ups n) := by
      have hy : ∀ y ∈ ys, ∃ z, V.int z = y := fun y hy => by
        obtain ⟨z, _, e⟩ := List.mem_map.mp (hp.subset hy)
        exact ⟨z, e⟩
      have hg : ∀ ys : List V, (∀ y ∈ ys, ∃ z, V.int z = y) → ∃ zs : List Int, ys = zs.map V.int := by
        intro ys
        induction ys with
        | nil => intro _; exact ⟨[], rfl⟩
        | cons y ys ih =>
          intro h
          obtain ⟨z, rfl⟩ := h y List.mem_cons_self
          obtain ⟨zs, rfl⟩ := ih fun y hy => h y (List.mem_cons_of_mem _ hy)
          exact ⟨z :: zs, rfl⟩
      obtain ⟨zs, rfl⟩ := hg ys hy
      refine ⟨zs, rfl, ?_⟩
      have := hp.map (fun v => match v with | V.int z => z | _ => 0)
      simpa [List.map_map, Function.comp_def] using this
    have hzl : zs.length = n := by rw [hpz.length_eq, hul]
    have E15 : Ext p l H H5 := Same.trans e4 E5
    refine ⟨.ref p, rfl, .int n, rfl, _, _, rfl, rfl, p, l, (n : Int) - 1, rfl, D5, by omega, by omega, fun H6 z D6 E6 z0 z1 => ⟨_, _, rfl, ?_⟩⟩
    obtain ⟨s', rfl, hs⟩ : ∃ s : Nat, z = (s : Int) ∧ s + 2 ≤ n := ⟨z.toNat, by omega, by omega⟩
    have hf6 : H6 f5 = some (.lst (zs.map V.int)) := hid_same p l _ _ _ (E6 _ _ hf)
    have E16 : Ext p l H H6 := Same.trans E15 E6
    clear z0 z1 E6 D5 E5 hf nf5 hid4 D4 e4 nb
    refine ⟨.ref f5, rfl, .int s', rfl, (s' : Int), rfl, .int s', rfl, _, _, rfl, rfl, (s' : Int) + 2, rfl, f5, _, rfl, SqL.of hf6, fun c nc => ?_⟩
    have e1 : cutV (zs.map V.int) (some (s' : Int)) (some ((s' : Int) + 2)) = ((zs.drop s').take 2).map V.int := by
      unfold cutV
      rw [HT.sIx_nat, show ((s' : Int) + 2) = ((s' + 2 : Nat) : Int) by omega, HT.sIx_nat, List.length_map, hzl, Nat.min_eq_left (by omega), Nat.min_eq_left (by omega), show s' + 2 - s' = 2 by omega, ← List.map_drop, ← List.map_take]
    rw [e1]
    have s1 := same_new (o := .lst (((zs.drop s').take 2).map V.int)) nc
    refine ⟨c, (zs.drop s').take 2, rfl, SqL.of upd_same, fun ws d hpw hso nd => ?_⟩
    have s2 := same_new (o := .lst (ws.map V.int)) nd
    have hwl : ws.length = 2 := by rw [hpw.length_eq, List.length_take, List.length_drop]; omega
    obtain ⟨ab, rfl, hab⟩ := drawn_piece hpz ((List.take_sublist _ _).trans (List.drop_sublist _ _)) hpw hso
    rw [List.length_map] at hwl
    obtain ⟨x, y, rfl⟩ : ∃ x y, ab = [x, y] := by
      match ab, hwl with
      | [x, y], _ => exact ⟨x, y, rfl⟩
    refine ⟨d, _, rfl, SqL.of upd_same, rfl, .int (x : Nat), [.int (y : Nat)], rfl, .int (y : Nat), [], rfl, rfl, ?_⟩
    have s12 := s1.trans s2
    have hf7 := s12 _ _ hf6
    have D7 := D6.up s12
    have E17 : Ext p l H _ := Same.trans E16 (Ext.of s12)
    generalize upd (upd H6 c (.lst (((zs.drop s').take 2).map V.int))) d (.lst (([x, y].map fun (x : Nat) => (x : Int)).map V.int)) = H7 at hf7 D7 E17
    clear s12 s2 nd s1 nc E16 D6 hf6
    dsimp only [tNext]
    refine ⟨.ref f5, rfl, .int s', rfl, (s' : Int), rfl, f5, _, rfl, SqL.of hf7, fun c nc => ?_⟩
    rw [cut_to (by rw [List.length_map]; omega), ← List.map_take]
    have s1 := same_new (o := .lst ((zs.take s').map V.int)) nc
    refine ⟨c, zs.take s', rfl, SqL.of upd_same, fun us d2 hpu hsu nd2 => ?_⟩
    have s2 := same_new (o := .lst (us.map V.int)) nd2
    obtain ⟨own, rfl, hown⟩ := drawn_piece hpz (List.take_sublist _ _) hpu hsu
    refine ⟨d2, _, rfl, .inl ⟨SqL.of upd_same, fun t nt => ?_⟩⟩
    have s3 := same_new (o := .tup ((own.map fun (x : Nat) => (x : Int)).map V.int)) nt
    refine ⟨.int (x : Nat), rfl, .int (y : Nat), rfl, by show 3 ≤ sizeLine; decide, fun e ne => ?_⟩
    have s4 := same_new (o := .tup [.ref t, .int (x : Nat), .int (y : Nat)]) ne
    have s14 := s1.trans (s2.trans (s3.trans s4))
    have hnz : zs.Nodup := by
      have h0 : (ups n).Nodup := List.Pairwise.map _ (fun a b (h : a < b) => by show ((a : Nat) : Int) ≠ b; omega) List.pairwise_lt_range
      exact hpz.symm.nodup h0
    have hdj : ∀ k : Nat, (k : Int) ∈ (zs.drop s').take 2 → k ∉ own := fun k hk ho => by
      have h1 : (k : Int) ∈ zs.take s' := hpu.subset (List.mem_map.mpr ⟨k, ho, rfl⟩)
      have h2 : (k : Int) ∈ zs.drop s' := List.take_subset _ _ hk
      have h3 : (zs.take s' ++ zs.drop s').Nodup := by rw [List.take_append_drop]; exact hnz
      exact (List.nodup_append.mp h3).2.2 _ h1 _ h2 rfl
    have hxy := hab.1
    have hbd := hab.2
    refine q _ _ (own, x, y) (D7.up s14) (Same.trans E17 (Ext.of s14)) ⟨e, t, rfl, upd_same, ?_⟩ ⟨hown, ?_, ?_, hdj x (hpw.subset (by simp)), hdj y (hpw.subset (by simp))⟩
    · have := s4 _ _ (show upd (upd (upd H7 c (.lst ((zs.take s').map V.int))) d2 (.lst ((own.map fun (x : Nat) => (x : Int)).map V.int))) t (.tup ((own.map fun (x : Nat) => (x : Int)).map V.int)) t = _ from upd_same)
      rw [this]
      unfold lv
      rw [List.map_map]
      rfl
    · exact (List.pairwise_cons.mp hxy).1 y (by simp)
    · have := (hbd y (by simp)).2
      show y < n
      omega
end
end Kr
namespace Kr
open PySem PySem.Spec PyProof.Rows L2
section
variable {P : Program} {w : World} {K : PySem.W.Frag} {mg : Str → Option Value} {base : Heap}
abbrev nMd : List Str := ["n", "moves", "found", "keys", "lies", "own", "a", "b", "x"]
theorem o_made (D0 : Df K mg "_law_made" sMade ["n", "moves"]) (B : Bi mg) (ev : Ok P w K mg base 1 "_law_every" ["n"] spEvery) (le : Ok P w K mg base 1 "_law_entry" ["n", "lies"] spLEnt) : Ok P w K mg base 2 "_law_made" ["n", "moves"] spMade := by
  have scMd : FnScope nMd ["n", "moves"] (defScope sMade) := ⟨rfl, rfl, rfl, by decide +kernel, rfl, by decide +kernel, by decide +kernel⟩
  refine D0.ok fun f fd F => F.ok scMd (fun vs H Q E h => ?_) (fun cdv A outer s H vs Q E hr h => ?_)
  · obtain ⟨n, mo, xs, ms, rfl, _⟩ := h
    rfl
  · obtain ⟨n, mo, xs, ms, rfl, hn0, hn, hmo, hxm, hde, hms, q⟩ := h
    have hu : (cxOf CX0 P w K mg base nMd "_law_made" (defScope sMade) f cdv A outer s H E).A.units + 64 < cLine := hr.units
    refine ⟨_, pss_cons (ps_set (i := 2) scMd.nd rfl (.inl rfl) (pe_lst pa_nil))
      (pss_cons (ps_for PassesOwn.never rfl (pi_list (pe_fn ev hr (by rfl) (pa_cons (pv 0) pa_nil))) (pg_name (i := 3) scMd.nd rfl (.inr rfl))
        (pss_cons (ps_set (i := 4) scMd.nd rfl (.inr rfl) (pe_lc (own := [("x", 8)]) (g := gName 8) (tt := tYes) rfl scMd.nd (pi_range1 (by rfl) B.range (pa_cons (pv 0) pa_nil)) (blkOk_by (own := [("x", 8)]) (N := nMd) (sc := defScope sMade) (by decide +kernel)) (fun _ _ _ _ _ => pg_name (i := 8) scMd.nd rfl (.inl rfl)) (fun _ _ _ _ _ => pts_nil)
            (fun _ _ _ _ _ => pe_ifExp (pt_cmpR (r := rIn K false) op_in_seq (pv 8) (pv 3) rfl) (pe_un un_neg pe_int) (pv 8))))
        (pss_cons (ps_for PassesOwn.never rfl (pi_list (pv 1)) (pg_tup rfl (pgs_cons (pg_name (i := 5) scMd.nd rfl (.inl rfl)) (pgs_cons (pg_name (i := 6) scMd.nd rfl (.inl rfl)) (pgs_cons (pg_name (i := 7) scMd.nd rfl (.inl rfl)) pgs_nil))))
          (pss_one (ps_if (pt_cmpR (op_eqN hu) (pe_lc (own := [("x", 8)]) (g := gName 8) rfl scMd.nd (pi_tup (pv 5)) (blkOk_by (own := [("x", 8)]) (N := nMd) (sc := defScope sMade) (by decide +kernel)) (fun _ _ _ _ _ => pg_name (i := 8) scMd.nd rfl (.inl rfl))
              (fun _ _ _ _ _ => pts_one (pt_cmpR op_ge (pe_ix (r := rIxL K) ix_list (pv 4) (pv 8) (fun _ _ => rfl)) pe_int (nomark _))) (fun _ _ _ _ _ => pe_int)) (pe_lst pa_nil) (nomark _))
            (pss_one (ps_asg (pe_tup (pa_cons (pe_ix ix_list (pv 4) (pv 7) (fun _ _ => rfl)) (pa_cons (pe_ix ix_list (pv 4) (pv 6) (fun _ _ => rfl)) pa_nil))) (pg_tup rfl (pgs_cons (pg_sub (pv 4) (pv 6) set_list) (pgs_cons (pg_sub (pv 4) (pv 7) set_list) pgs_nil))))) pss_nil)))
        (pss_one (ps_expr (pe_bm PySem.F.plainAttrs_list PySem.F.slot_list_append PySem.F.type_list_append mt_append (pv 2) (pa_cons (pe_fn le hr (by rfl) (pa_cons (pv 0) (pa_cons (pv 4) pa_nil))) pa_nil)))))))
      (pss_one (ps_ret (pe_callTy call_tuple_of (by rfl) B.tuple (by decide +kernel) (pa_cons (pv 2) pa_nil))))), ?_⟩
    refine ⟨by show 0 ≤ sizeLine; decide, fun fo nfo => ?_⟩
    have s1 := same_new (o := .lst []) nfo
    have hfo : upd H fo (.lst []) fo = some (.lst []) := upd_same
    have nf : ∀ b o, H b = some o → b ≠ fo := fun b o hb => ne_of_none hb nfo
    generalize upd H fo (.lst []) = H1 at s1 hfo
    refine ⟨.int n, rfl, n, rfl, hn, fun H2 v s2 hv => ?_⟩
    cases hv with
    | @lst L ks _ hL qk =>
    have hal := all_len n (by omega)
    have hal2 := all_few n (by omega)
    have hkl : ks.length = (allL n).length := by rw [qk.len, List.length_map]
    have hfo2 := s2 _ _ hfo
    have nL : L ≠ fo := fun z => by
      rw [z, hfo2] at hL
      cases hL
      rw [hal] at hkl
      have : 0 < 2 ^ n := Nat.pow_pos (by decide)
      rw [List.length_nil] at hkl
      omega
    refine ⟨L, rfl, ⟨_, SqL.of hL⟩, for_list (K := K) (xs := ks) (fun i σ G => ∃ (v3 v4 v5 v6 v7 : Option V) (acc : List V), σ = [some (.int n), some (.ref mo), some (.ref fo), v3, v4, v5, v6, v7, none] ∧
        (∀ b o, b ≠ fo → H2 b = some o → G b = some o) ∧ G fo = some (.lst acc) ∧ DqA G acc (((allL n).take i).map fun l => entD (madeE n ms l)))
      ⟨_, _, _, _, _, [], rfl, fun _ _ _ h => h, hfo2, .nil⟩ (fun i σ G _ ⟨_, _, _, _, _, _, _, k, _⟩ => SqL.of (k _ _ nL hL)) ?_ ?_⟩
    · rintro i x σ G hx ⟨v3, v4, v5, v6, v7, acc, rfl, k, hG, qac⟩
      have hil := (List.getElem?_eq_some_iff.mp hx).1
      obtain ⟨l, hl, lb, rfl, hlb⟩ := lots_get qk hx
      have nlb : lb ≠ fo := ne_of hlb hfo2 (by intro z; cases z)
      have hlb' := k _ _ nlb hlb
      have kH : ∀ b o, H b = some o → G b = some o := fun b o hb => k _ _ (nf _ _ hb) (s2 _ _ (s1 _ _ hb))
      have acl : acc.length = i := by
        rw [qac.len, List.length_map, List.length_take]
        omega
      refine ⟨.int n, rfl, (n : Int), rfl, by omega, by omega, fun li nli => ?_⟩
      refine lc_itF (walk_rg (n := n)) (fun x => .int (if x ∈ l then -1 else ((x : Nat) : Int))) nli (by omega) (fun _ _ => rfl) (fun _ _ => trivial) (fun j y G2 G2' C Cn hj s5 y c => ?_) (fun G3 bs s5 hli qb => ?_)
      · obtain ⟨rfl, rfl⟩ := y
        refine ⟨rfl, ?_⟩
        dsimp only [tYes]
        rw [if_pos rfl]
        refine ⟨.int j, rfl, .ref lb, rfl, lb, lv l, rfl, .inr (SqT.of (s5 _ _ hlb')), rfl, lv_fl l, _, rfl, ?_⟩
        rw [inV_lot]
        by_cases hm : j ∈ l
        · rw [decide_eq_true hm]
          rw [if_pos hm] at c
          exact iteT ⟨1, rfl, c _ _ (Same.refl _) (.int _)⟩
        · rw [decide_eq_false hm]
          rw [if_neg hm] at c
          exact iteF ⟨_, rfl, c _ _ (Same.refl _) (.int _)⟩
      have ebs : bs = (stL n l).map V.int := dqa_int (by unfold stL; rw [List.map_map]; exact qb)
      subst ebs
      have hstl : (stL n l).length = n := by unfold stL; rw [List.length_map, List.length_range]
      have hstx : ∀ x ∈ stL n l, x < n := fun x hx => by
        unfold stL at hx
        obtain ⟨y, hy, rfl⟩ := List.mem_map.mp hx
        have := List.mem_range.mp hy
        split <;> omega
      have nl : ∀ b o, G b = some o → b ≠ li := fun b o hb => ne_of_none hb nli
      dsimp only [tNext]
      refine ⟨.ref mo, rfl, mo, rfl, ⟨_, SqL.of (s5 _ _ (kH _ _ hmo))⟩, for_list (K := K) (xs := xs) (fun j σ G5 => ∃ (v5 v6 v7 : Option V) (ls : List Int), σ = [some (.int n), some (.ref mo), some (.ref fo), some (.ref lb), some (.ref li), v5, v6, v7, none] ∧
          (∀ b o, G b = some o → G5 b = some o) ∧ G5 li = some (.lst (ls.map V.int)) ∧ ls = (ms.take j).foldl mvL (stL n l) ∧ ls.length = n ∧ ∀ x ∈ ls, x < n)
        ⟨_, _, _, stL n l, rfl, s5, hli, rfl, hstl, hstx⟩ (fun j σ G5 _ ⟨_, _, _, _, _, k5, _⟩ => SqL.of (k5 _ _ (kH _ _ hmo))) ?_ ?_⟩
      · rintro j y σ G5 hy ⟨v5, v6, v7, ls, rfl, k5, hli5, els, hls, hlx⟩
        have hjl := (List.getElem?_eq_some_iff.mp hy).1
        obtain ⟨m, hm⟩ : ∃ m, ms[j]? = some m := ⟨_, List.getElem?_eq_getElem (by omega)⟩
        obtain ⟨d, qa, rfl, hd, hq⟩ := hde j y m hy hm
        obtain ⟨⟨ha, hb⟩, hol, hox⟩ := hms m (List.mem_of_getElem? hm)
        have hd5 := k5 _ _ (kH _ _ hd)
        have hq5 := k5 _ _ (kH _ _ hq)
        refine ⟨d, _, rfl, SqT.of hd5, rfl, .ref qa, [.int m.2.1, .int m.2.2], rfl, .int m.2.1, [.int m.2.2], rfl, .int m.2.2, [], rfl, rfl, ?_⟩
        have etk : (ms.take (j + 1)).foldl mvL (stL n l) = mvL ls m := by
          rw [List.take_add_one, hm, List.foldl_append, ← els]
          rfl
        refine ⟨.ref qa, rfl, qa, rfl, ⟨_, SqT.of hq5⟩, fun D nD => ?_⟩
        refine lc_it (walk_tup (K := K) (a := qa) (xs := lv m.1)) (fun j G => ∃ zs : List V, G D = some (.lst zs) ∧ Same G5 G ∧ zs.length ≤ j ∧ zs.isEmpty = (m.1.take j).all (fun x => !decide (0 ≤ ls.getD x 0))) ⟨[], upd_same, same_new nD, Nat.le_refl _, rfl⟩ (fun j G _ ⟨_, _, sm, _⟩ => SqT.of (sm _ _ hq5)) ?_ ?_
        · rintro t x G6 G6' ht ⟨zs, hD, sm, hzl, hze⟩ ⟨rfl, hx2⟩
          rw [lv_len] at ht
          obtain ⟨z, hz, rfl⟩ : ∃ z, m.1[t]? = some z ∧ V.int (z : Nat) = x := by
            unfold lv at hx2
            rw [List.getElem?_map] at hx2
            cases e : m.1[t]? with
            | none => rw [e] at hx2; cases hx2
            | some y => rw [e] at hx2; exact ⟨y, rfl, Option.some.inj hx2⟩
          have hzn := hox z (List.mem_of_getElem? hz)
          have etk2 : (m.1.take (t + 1)).all (fun x => !decide (0 ≤ ls.getD x 0)) = ((m.1.take t).all (fun x => !decide (0 ≤ ls.getD x 0)) && !decide (0 ≤ ls.getD z 0)) := by
            rw [List.take_add_one, hz, List.all_append]
            simp
          refine ⟨rfl, .ref li, rfl, .int z, rfl, li, _, z, .int (ls.getD z 0), rfl, rfl, SqL.of (sm _ _ hli5), atI_nat (by rw [List.getElem?_map, getD_get (by omega)]; rfl), _, _, rfl, rfl, _, rfl, ite2 (fun c => ?_) (fun c => ?_)⟩
          · have c2 : 0 ≤ ls.getD z 0 := of_decide_eq_true c
            refine ⟨zs, hD, szl (by omega), zs ++ [.int 1], upd_same, fun b o hb' => ?_, by rw [List.length_append]; show _ + 1 ≤ _; omega, ?_⟩
            · rw [upd_ne (ne_of_none hb' nD)]
              exact sm _ _ hb'
            · rw [etk2, decide_eq_true c2, Bool.not_true, Bool.and_false]
              cases zs <;> rfl
          · have c2 : ¬ 0 ≤ ls.getD z 0 := fun y => c (decide_eq_true y)
            refine ⟨zs, hD, sm, by omega, ?_⟩
            rw [etk2, decide_eq_false c2, Bool.not_false, Bool.and_true]
            exact hze
        · rintro G6 ⟨zs, hD, sm, hzl, hze⟩
          rw [lv_len, List.take_length] at hze
          refine ⟨by show 0 ≤ sizeLine; decide, fun e ne => ⟨D, e, zs, rfl, rfl, same_new ne _ _ hD, upd_same, _, rfl, ?_⟩⟩
          have sm7 := sm.trans (same_new (o := .lst []) ne)
          generalize upd G6 e (.lst []) = G7 at sm7
          have hli7 := sm7 _ _ hli5
          rw [hze]
          cases hc : m.1.all (fun x => !decide (0 ≤ ls.getD x 0)) with
          | false =>
            refine iteF ⟨_, _, _, ls, rfl, fun b o hb' => sm7 _ _ (k5 _ _ hb'), hli7, ?_, hls, hlx⟩
            rw [etk]
            unfold mvL
            rw [hc]
            rfl
          | true =>
            refine iteT ⟨.ref li, rfl, .int m.2.2, rfl, li, _, m.2.2, .int (ls.getD m.2.2 0), rfl, rfl, SqL.of hli7, atI_nat (by rw [List.getElem?_map, getD_get (by omega)]; rfl), ?_⟩
            refine ⟨.ref li, rfl, .int m.2.1, rfl, li, _, m.2.1, .int (ls.getD m.2.1 0), rfl, rfl, SqL.of hli7, atI_nat (by rw [List.getElem?_map, getD_get (by omega)]; rfl), ?_⟩
            refine ⟨by show 2 ≤ sizeLine; decide, fun t nt => ⟨t, _, rfl, SqT.of upd_same, rfl, .int (ls.getD m.2.2 0), [.int (ls.getD m.2.1 0)], rfl, ?_⟩⟩
            have st := same_new (o := .tup [.int (ls.getD m.2.2 0), .int (ls.getD m.2.1 0)]) nt
            have hli8 := st _ _ hli7
            have sm8 := sm7.trans st
            generalize upd G7 t (.tup [.int (ls.getD m.2.2 0), .int (ls.getD m.2.1 0)]) = G8 at hli8 sm8
            refine ⟨.ref li, rfl, .int m.2.1, rfl, li, _, m.2.1, m.2.1, rfl, rfl, hli8, ixN_nat (by rw [List.length_map]; omega), .int (ls.getD m.2.1 0), [], rfl, ?_⟩
            refine ⟨.ref li, rfl, .int m.2.2, rfl, li, _, m.2.2, m.2.2, rfl, rfl, upd_same, ixN_nat (by rw [List.length_set, List.length_map]; omega), rfl, ?_⟩
            rw [upd_upd]
            refine ⟨_, _, _, (ls.set m.2.1 (ls.getD m.2.2 0)).set m.2.2 (ls.getD m.2.1 0), rfl, fun b o hb' => ?_, by rw [upd_same, List.map_set, List.map_set], ?_, by rw [List.length_set, List.length_set]; exact hls, set_lt (getD_lt (by omega) hlx _) (set_lt (getD_lt (by omega) hlx _) hlx)⟩
            · rw [upd_ne (nl _ _ hb')]
              exact sm8 _ _ (k5 _ _ hb')
            · rw [etk]
              unfold mvL
              rw [if_pos hc]
      · rintro σ G5 ⟨v5, v6, v7, ls, rfl, k5, hli5, els, hls, hlx⟩
        rw [hxm, List.take_length] at els
        have hG5 := k5 _ _ hG
        refine ⟨.ref fo, rfl, .inl ⟨rfl, _, SqL.of hG5⟩, .int n, rfl, .ref li, rfl, n, li, ls, rfl, hn0, hn, hli5, by omega, hlx, fun G6 t s6 ht => ?_⟩
        have ts : TS G6 (upd G6 fo (.lst (acc ++ [.ref t]))) := TS.lst (s6 _ _ hG5)
        refine ⟨fo, acc, .ref t, rfl, rfl, s6 _ _ hG5, szl (by omega), _, _, _, _, _, _, rfl, fun b o hb ho => ?_, upd_same, ?_⟩
        · rw [upd_ne hb]
          exact s6 _ _ (k5 _ _ (k _ _ hb ho))
        · rw [take_snoc hl]
          refine dqa_snoc (DqA.upT ts (flatTA_of fun d hd => ?_) ((qac.up k5).up s6)) (Dq.upT ts (ent_flat _) (ent_at ?_))
          · obtain ⟨l', _, rfl⟩ := List.mem_map.mp hd
            exact ent_flat _
          · rw [ht, els]
            rfl
    · rintro σ G ⟨v3, v4, v5, v6, v7, acc, rfl, k, hG, qac⟩
      rw [hkl, List.take_length] at qac
      refine ⟨.ref fo, rfl, fo, acc, rfl, .inl ⟨SqL.of hG, fun t nt => q _ _ (fun b' o hb => same_new nt _ _ (k _ _ (nf _ _ hb) (s2 _ _ (s1 _ _ hb)))) (.tup upd_same ?_)⟩⟩
      unfold madeT
      rw [List.map_map]
      exact qac.up (same_new nt)
end
end Kr
namespace Kr
open PySem PySem.Spec PyProof.Rows L2
section
variable {P : Program} {w : World} {K : PySem.W.Frag} {mg : Str → Option Value} {base : Heap}
theorem o_lPlaces (D0 : Df K mg "_law_places" sLPlaces ["n"]) (B : Bi mg) (ev : Ok P w K mg base 1 "_law_every" ["n"] spEvery) : Ok P w K mg base 2 "_law_places" ["n"] spNumbers := by
  have scPl : FnScope ["n", "found", "number", "keys"] ["n"] (defScope sLPlaces) := ⟨rfl, rfl, rfl, by decide +kernel, rfl, by decide +kernel, by decide +kernel⟩
  refine D0.ok fun f fd F => F.ok scPl (fun vs H Q E h => ?_) (fun cdv A outer s H vs Q E hr h => ?_)
  · obtain ⟨n, rfl, _⟩ := h
    rfl
  · obtain ⟨n, rfl, hn, q⟩ := h
    have hu := hu_of hr
    refine ⟨_, pss_cons (ps_set (i := 1) scPl.nd rfl (.inl rfl) pe_dnewT)
      (pss_cons (ps_for PassesOwn.never rfl (pi_enum (by rfl) B.enumerate (pa_cons (pe_fn ev hr (by rfl) (pa_cons (pv 0) pa_nil)) pa_nil)) (pg_tup rfl (pgs_cons (pg_name (i := 2) scPl.nd rfl (.inl rfl)) (pgs_cons (pg_name (i := 3) scPl.nd rfl (.inl rfl)) pgs_nil)))
        (pss_one (ps_dput hu (pv 1) (pv 3) (pv 2) rfl)))
      (pss_one (ps_ret (pv 1)))), ?_⟩
    intro D nD
    have s1 := same_new (o := .dT []) nD
    have hD : upd H D (.dT []) D = some (.dT []) := upd_same
    have nf : ∀ b o, H b = some o → b ≠ D := fun b o hb => ne_of_none hb nD
    generalize upd H D (.dT []) = H1 at s1 hD
    refine ⟨.int n, rfl, n, rfl, hn, fun H2 v s2 hv => ?_⟩
    cases hv with
    | @lst la ks _ hla qk =>
    have hD2 := s2 _ _ hD
    have hal := all_few n (by omega)
    have hkl : ks.length = (allL n).length := by rw [qk.len, List.length_map]
    have nla : la ≠ D := ne_of hla hD2 (by intro z; cases z)
    refine ⟨la, _, rfl, SqL.of hla, for_it walk_enum (fun i σ G => ∃ (v2 v3 : Option V) (es : List (List Key × V)), σ = [some (.int n), some (.ref D), v2, v3] ∧ (∀ b o, b ≠ D → H2 b = some o → G b = some o) ∧ G D = some (.dT es) ∧ es.length ≤ i ∧ ∀ j l, j < i → (allL n)[j]? = some l → valV es (lotK l) = some (.int (j : Nat)))
      ⟨_, _, [], rfl, fun _ _ _ h => h, hD2, Nat.zero_le _, fun j _ h _ => absurd h (Nat.not_lt_zero j)⟩ (fun i σ G _ ⟨_, _, _, _, k, _⟩ => SqL.of (k _ _ nla hla)) ?_ ?_⟩
    · rintro i _ σ G _ hi ⟨v2, v3, es, rfl, k, hG, hlen, hes⟩ ⟨t, x, y, rfl, nt, rfl, e1, e2⟩
      cases Option.some.inj e1
      obtain ⟨l, hl, lb, rfl, hlb⟩ := lots_get qk e2
      have nlb : lb ≠ D := ne_of hlb hD2 (by intro z; cases z)
      have st := same_new (o := .tup [.int (i : Nat), .ref lb]) nt
      refine ⟨t, [.int (i : Nat), .ref lb], rfl, SqT.of upd_same, rfl, .int (i : Nat), [.ref lb], rfl, .ref lb, [], rfl, rfl, ?_⟩
      refine ⟨.int (i : Nat), rfl, .ref D, rfl, .ref lb, rfl, D, _, rfl, DPut.t (st _ _ hG) (by rw [lotK_v]; exact st _ _ (k _ _ nlb hlb)) (szl (by omega)), ?_⟩
      refine ⟨_, _, putK es (lotK l) (.int (i : Nat)), rfl, fun b o hb ho => ?_, upd_same, ?_, fun j l' hj hl' => ?_⟩
      · rw [upd_ne hb]
        exact st _ _ (k _ _ hb ho)
      · have := length_putK es (lotK l) (V.int (i : Nat))
        omega
      · rw [valV_put]
        by_cases ek : lotK l' = lotK l
        · have := lotK_inj ek
          subst this
          have e1 := (all_num_at hn hl).1
          have e2 := (all_num_at hn hl').1
          rw [if_pos ek]
          rw [show j = i by omega]
        · rw [if_neg ek]
          refine hes j l' ?_ hl'
          rcases Nat.lt_or_ge j i with c | c
          · exact c
          · have : j = i := by omega
            subst this
            rw [hl] at hl'
            exact absurd (by rw [Option.some.inj hl']) ek
    · rintro σ G ⟨v2, v3, es, rfl, k, hG, hlen, hes⟩
      refine ⟨.ref D, rfl, q G D es (fun b o hb => k _ _ (nf _ _ hb) (s2 _ _ (s1 _ _ hb))) hG fun l hl => ?_⟩
      obtain ⟨j, hj, ej⟩ := List.getElem_of_mem hl
      have e1 : (allL n)[j]? = some l := by rw [List.getElem?_eq_getElem hj, ej]
      rw [(all_num_at hn e1).1]
      exact hes j l (by omega) e1
theorem o_lKeys (D0 : Df K mg "_law_keys_behind" sLKeysBehind ["n", "entry"]) (B : Bi mg) : Ok P w K mg base 1 "_law_keys_behind" ["n", "entry"] spGoal := by
  have scGo : FnScope ["n", "entry", "y"] ["n", "entry"] (defScope sLKeysBehind) := ⟨rfl, rfl, rfl, by decide +kernel, rfl, by decide +kernel, by decide +kernel⟩
  refine D0.ok fun f fd F => F.ok scGo (fun vs H Q E h => ?_) (fun cdv A outer s H vs Q E hr h => ?_)
  · obtain ⟨n, a, e, rfl, _⟩ := h
    rfl
  · obtain ⟨n, a, e, rfl, hn, ha, q⟩ := h
    refine ⟨_, pss_one (ps_ret (pe_callTy call_tuple_of (by rfl) B.tuple (by decide +kernel) (pa_cons
      (pe_lc (own := [("y", 2)]) (g := gName 2) rfl scGo.nd (pi_range1 (by rfl) B.range (pa_cons (pv 0) pa_nil)) (blkOk_by (own := [("y", 2)]) (N := ["n", "entry", "y"]) (sc := defScope sLKeysBehind) (by decide +kernel))
        (fun _ _ _ _ _ => pg_name (i := 2) scGo.nd rfl (.inl rfl)) (fun _ _ _ _ _ => pts_one (pt_cmpR (r := rIn K true) op_notIn_seq (pv 2) (pv 1) rfl))
        (fun _ _ _ _ _ => pv 2)) pa_nil))), ?_⟩
    refine ⟨.int n, rfl, (n : Int), rfl, by omega, by omega, fun D nD => ?_⟩
    refine lc_it (walk_rg (n := n)) (fun i G => G D = some (.lst (lv ((List.range i).filter fun (x : Nat) => !decide ((x : Int) ∈ e)))) ∧ Same H G) ⟨upd_same, same_new nD⟩ (fun _ _ _ _ => trivial) ?_ ?_
    · rintro i x G G' hi ⟨hD, s1⟩ ⟨rfl, rfl⟩
      refine ⟨rfl, .int i, rfl, .ref a, rfl, a, _, rfl, .inr (SqT.of (s1 _ _ ha)), rfl, int_fl e, _, rfl, ?_⟩
      have er : (List.range (i + 1)).filter (fun (x : Nat) => !decide ((x : Int) ∈ e)) = (List.range i).filter (fun (x : Nat) => !decide ((x : Int) ∈ e)) ++ (if (i : Int) ∈ e then [] else [i]) := by
        rw [List.range_succ, List.filter_append]
        by_cases hm : (i : Int) ∈ e
        · rw [if_pos hm]
          simp [hm]
        · rw [if_neg hm]
          simp [hm]
      rw [inV_int, er]
      by_cases hm : (i : Int) ∈ e
      · rw [decide_eq_true hm, if_pos hm, List.append_nil]
        exact iteF ⟨hD, s1⟩
      · rw [decide_eq_false hm, if_neg hm]
        refine iteT ⟨_, rfl, _, hD, szm ?_, ?_, fun b o hb => ?_⟩
        · rw [lv_len]
          have := List.length_filter_le (fun (x : Nat) => !decide ((x : Int) ∈ e)) (List.range i)
          rw [List.length_range] at this
          omega
        · rw [upd_same]
          simp [lv]
        · rw [upd_ne (ne_of_none hb nD)]
          exact s1 _ _ hb
    · rintro G ⟨hD, s1⟩
      exact ⟨D, _, rfl, .inl ⟨SqL.of hD, fun t nt => q _ t (s1.trans (same_new nt)) upd_same⟩⟩
end
end Kr
namespace Kr
open PySem PySem.Spec PyProof.Rows L2
/-! ### what the head has written -/
theorem df_mk {K : PySem.W.Frag} {h : Heap} {mg : Str → Option Value} {x : Str} {st : Stmt} {f : Addr} {ps : List Str} {oc : Value} {od an : Option Addr} {osl : Array (Option Value)} {kV doc pm cdv ct : Value} (X : K.In h) (G : h.Ns mainGlobals mg)
    (a : PySem.W.nsIn K mainGlobals x = some (some (.ref f))) (l : K.lookup f = some ⟨oc, od, .func (PySem.W.fnOf x x (defArgs st) (defBody st) (defScope st) .none kV doc pm an cdv ct), osl⟩) (c : PySem.W.codeIn K cdv x = true) (k : PySem.W.keepIn K (.ref f) = true)
    (hb : ∀ (kV doc pm : Value) (an : Option Addr) (cdv ct : Value) (us : List Value), us.length = ps.length → bindArgs (PySem.W.fnOf x x (defArgs st) (defBody st) (defScope st) .none kV doc pm an cdv ct) ⟨us, []⟩ = pure (ps.zip us)) : Df K mg x st ps :=
  ⟨_, _, fun_mk l c k, (fun_mk l c k).binds hb, PySem.W.mg_of X G a⟩
theorem all_mk {l : PySem.W.OpenLaw} {w : World} {K : PySem.W.Frag} {h : Heap} {mg : Str → Option Value} {fa : Addr} (X : K.In h) (G : h.Ns mainGlobals mg) (hfa : mg "law" = some (.ref fa))
    {f1 : Addr} {oc1 kV1 dc1 pm1 cd1 ct1 : Value} {od1 an1 : Option Addr} {sl1 : Array (Option Value)}
    {f2 : Addr} {oc2 kV2 dc2 pm2 cd2 ct2 : Value} {od2 an2 : Option Addr} {sl2 : Array (Option Value)}
    {f3 : Addr} {oc3 kV3 dc3 pm3 cd3 ct3 : Value} {od3 an3 : Option Addr} {sl3 : Array (Option Value)}
    {f4 : Addr} {oc4 kV4 dc4 pm4 cd4 ct4 : Value} {od4 an4 : Option Addr} {sl4 : Array (Option Value)}
    {f5 : Addr} {oc5 kV5 dc5 pm5 cd5 ct5 : Value} {od5 an5 : Option Addr} {sl5 : Array (Option Value)}
    {f6 : Addr} {oc6 kV6 dc6 pm6 cd6 ct6 : Value} {od6 an6 : Option Addr} {sl6 : Array (Option Value)}
    {f7 : Addr} {oc7 kV7 dc7 pm7 cd7 ct7 : Value} {od7 an7 : Option Addr} {sl7 : Array (Option Value)}
    {f8 : Addr} {oc8 kV8 dc8 pm8 cd8 ct8 : Value} {od8 an8 : Option Addr} {sl8 : Array (Option Value)}
    {f9 : Addr} {oc9 kV9 dc9 pm9 cd9 ct9 : Value} {od9 an9 : Option Addr} {sl9 : Array (Option Value)}
    {f10 : Addr} {oc10 kV10 dc10 pm10 cd10 ct10 : Value} {od10 an10 : Option Addr} {sl10 : Array (Option Value)}
    {f11 : Addr} {oc11 kV11 dc11 pm11 cd11 ct11 : Value} {od11 an11 : Option Addr} {sl11 : Array (Option Value)}
    {f12 : Addr} {oc12 kV12 dc12 pm12 cd12 ct12 : Value} {od12 an12 : Option Addr} {sl12 : Array (Option Value)}
    {f13 : Addr} {oc13 kV13 dc13 pm13 cd13 ct13 : Value} {od13 an13 : Option Addr} {sl13 : Array (Option Value)}
    {f14 : Addr} {oc14 kV14 dc14 pm14 cd14 ct14 : Value} {od14 an14 : Option Addr} {sl14 : Array (Option Value)}
    {f15 : Addr} {oc15 kV15 dc15 pm15 cd15 ct15 : Value} {od15 an15 : Option Addr} {sl15 : Array (Option Value)}
    {f16 : Addr} {oc16 kV16 dc16 pm16 cd16 ct16 : Value} {od16 an16 : Option Addr} {sl16 : Array (Option Value)}
    {f17 : Addr} {oc17 kV17 dc17 pm17 cd17 ct17 : Value} {od17 an17 : Option Addr} {sl17 : Array (Option Value)}
    {f18 : Addr} {oc18 kV18 dc18 pm18 cd18 ct18 : Value} {od18 an18 : Option Addr} {sl18 : Array (Option Value)}
    {f19 : Addr} {oc19 kV19 dc19 pm19 cd19 ct19 : Value} {od19 an19 : Option Addr} {sl19 : Array (Option Value)}
    {f20 : Addr} {oc20 kV20 dc20 pm20 cd20 ct20 : Value} {od20 an20 : Option Addr} {sl20 : Array (Option Value)}
    {f21 : Addr} {oc21 kV21 dc21 pm21 cd21 ct21 : Value} {od21 an21 : Option Addr} {sl21 : Array (Option Value)}
    {f22 : Addr} {oc22 kV22 dc22 pm22 cd22 ct22 : Value} {od22 an22 : Option Addr} {sl22 : Array (Option Value)}
    {f23 : Addr} {oc23 kV23 dc23 pm23 cd23 ct23 : Value} {od23 an23 : Option Addr} {sl23 : Array (Option Value)}
    {f24 : Addr} {oc24 kV24 dc24 pm24 cd24 ct24 : Value} {od24 an24 : Option Addr} {sl24 : Array (Option Value)}
    {f25 : Addr} {oc25 kV25 dc25 pm25 cd25 ct25 : Value} {od25 an25 : Option Addr} {sl25 : Array (Option Value)}
    {f26 : Addr} {oc26 kV26 dc26 pm26 cd26 ct26 : Value} {od26 an26 : Option Addr} {sl26 : Array (Option Value)}
    {f27 : Addr} {oc27 kV27 dc27 pm27 cd27 ct27 : Value} {od27 an27 : Option Addr} {sl27 : Array (Option Value)}
    {f28 : Addr} {oc28 kV28 dc28 pm28 cd28 ct28 : Value} {od28 an28 : Option Addr} {sl28 : Array (Option Value)}
    {f29 : Addr} {oc29 kV29 dc29 pm29 cd29 ct29 : Value} {od29 an29 : Option Addr} {sl29 : Array (Option Value)}
    {f30 : Addr} {oc30 kV30 dc30 pm30 cd30 ct30 : Value} {od30 an30 : Option Addr} {sl30 : Array (Option Value)}
    {f31 : Addr} {oc31 kV31 dc31 pm31 cd31 ct31 : Value} {od31 an31 : Option Addr} {sl31 : Array (Option Value)}
    {f32 : Addr} {oc32 kV32 dc32 pm32 cd32 ct32 : Value} {od32 an32 : Option Addr} {sl32 : Array (Option Value)}
    {f33 : Addr} {oc33 kV33 dc33 pm33 cd33 ct33 : Value} {od33 an33 : Option Addr} {sl33 : Array (Option Value)}
    {f34 : Addr} {oc34 kV34 dc34 pm34 cd34 ct34 : Value} {od34 an34 : Option Addr} {sl34 : Array (Option Value)}
    {f35 : Addr} {oc35 kV35 dc35 pm35 cd35 ct35 : Value} {od35 an35 : Option Addr} {sl35 : Array (Option Value)}
    {tM : Tok}
    (a1 : PySem.W.nsIn K mainGlobals "lots_of" = some (some (.ref f1))) (l1 : K.lookup f1 = some ⟨oc1, od1, .func (PySem.W.fnOf "lots_of" "lots_of" (defArgs sLotsOf) (defBody sLotsOf) (defScope sLotsOf) .none kV1 dc1 pm1 an1 cd1 ct1), sl1⟩) (c1 : PySem.W.codeIn K cd1 "lots_of" = true) (k1 : PySem.W.keepIn K (.ref f1) = true)
    (a2 : PySem.W.nsIn K mainGlobals "all_lots" = some (some (.ref f2))) (l2 : K.lookup f2 = some ⟨oc2, od2, .func (PySem.W.fnOf "all_lots" "all_lots" (defArgs sAllLots) (defBody sAllLots) (defScope sAllLots) .none kV2 dc2 pm2 an2 cd2 ct2), sl2⟩) (c2 : PySem.W.codeIn K cd2 "all_lots" = true) (k2 : PySem.W.keepIn K (.ref f2) = true)
    (a3 : PySem.W.nsIn K mainGlobals "goal" = some (some (.ref f3))) (l3 : K.lookup f3 = some ⟨oc3, od3, .func (PySem.W.fnOf "goal" "goal" (defArgs sGoal) (defBody sGoal) (defScope sGoal) .none kV3 dc3 pm3 an3 cd3 ct3), sl3⟩) (c3 : PySem.W.codeIn K cd3 "goal" = true) (k3 : PySem.W.keepIn K (.ref f3) = true)
    (a4 : PySem.W.nsIn K mainGlobals "still" = some (some (.ref f4))) (l4 : K.lookup f4 = some ⟨oc4, od4, .func (PySem.W.fnOf "still" "still" (defArgs sStill) (defBody sStill) (defScope sStill) .none kV4 dc4 pm4 an4 cd4 ct4), sl4⟩) (c4 : PySem.W.codeIn K cd4 "still" = true) (k4 : PySem.W.keepIn K (.ref f4) = true)
    (a5 : PySem.W.nsIn K mainGlobals "ways_table" = some (some (.ref f5))) (l5 : K.lookup f5 = some ⟨oc5, od5, .func (PySem.W.fnOf "ways_table" "ways_table" (defArgs sWays) (defBody sWays) (defScope sWays) .none kV5 dc5 pm5 an5 cd5 ct5), sl5⟩) (c5 : PySem.W.codeIn K cd5 "ways_table" = true) (k5 : PySem.W.keepIn K (.ref f5) = true)
    (a6 : PySem.W.nsIn K mainGlobals "_entry_by" = some (some (.ref f6))) (l6 : K.lookup f6 = some ⟨oc6, od6, .func (PySem.W.fnOf "_entry_by" "_entry_by" (defArgs sEntryBy) (defBody sEntryBy) (defScope sEntryBy) .none kV6 dc6 pm6 an6 cd6 ct6), sl6⟩) (c6 : PySem.W.codeIn K cd6 "_entry_by" = true) (k6 : PySem.W.keepIn K (.ref f6) = true)
    (a7 : PySem.W.nsIn K mainGlobals "both" = some (some (.ref f7))) (l7 : K.lookup f7 = some ⟨oc7, od7, .func (PySem.W.fnOf "both" "both" (defArgs sBoth) (defBody sBoth) (defScope sBoth) .none kV7 dc7 pm7 an7 cd7 ct7), sl7⟩) (c7 : PySem.W.codeIn K cd7 "both" = true) (k7 : PySem.W.keepIn K (.ref f7) = true)
    (a8 : PySem.W.nsIn K mainGlobals "numbers_of_lots" = some (some (.ref f8))) (l8 : K.lookup f8 = some ⟨oc8, od8, .func (PySem.W.fnOf "numbers_of_lots" "numbers_of_lots" (defArgs sNumbers) (defBody sNumbers) (defScope sNumbers) .none kV8 dc8 pm8 an8 cd8 ct8), sl8⟩) (c8 : PySem.W.codeIn K cd8 "numbers_of_lots" = true) (k8 : PySem.W.keepIn K (.ref f8) = true)
    (a9 : PySem.W.nsIn K mainGlobals "aims_of" = some (some (.ref f9))) (l9 : K.lookup f9 = some ⟨oc9, od9, .func (PySem.W.fnOf "aims_of" "aims_of" (defArgs sAims) (defBody sAims) (defScope sAims) .none kV9 dc9 pm9 an9 cd9 ct9), sl9⟩) (c9 : PySem.W.codeIn K cd9 "aims_of" = true) (k9 : PySem.W.keepIn K (.ref f9) = true)
    (a10 : PySem.W.nsIn K mainGlobals "power" = some (some (.ref f10))) (l10 : K.lookup f10 = some ⟨oc10, od10, .func (PySem.W.fnOf "power" "power" (defArgs sPower) (defBody sPower) (defScope sPower) .none kV10 dc10 pm10 an10 cd10 ct10), sl10⟩) (c10 : PySem.W.codeIn K cd10 "power" = true) (k10 : PySem.W.keepIn K (.ref f10) = true)
    (a11 : PySem.W.nsIn K mainGlobals "_entry_of" = some (some (.ref f11))) (l11 : K.lookup f11 = some ⟨oc11, od11, .func (PySem.W.fnOf "_entry_of" "_entry_of" (defArgs sEntryOf) (defBody sEntryOf) (defScope sEntryOf) .none kV11 dc11 pm11 an11 cd11 ct11), sl11⟩) (c11 : PySem.W.codeIn K cd11 "_entry_of" = true) (k11 : PySem.W.keepIn K (.ref f11) = true)
    (a12 : PySem.W.nsIn K mainGlobals "order_of" = some (some (.ref f12))) (l12 : K.lookup f12 = some ⟨oc12, od12, .func (PySem.W.fnOf "order_of" "order_of" (defArgs sOrderOf) (defBody sOrderOf) (defScope sOrderOf) .none kV12 dc12 pm12 an12 cd12 ct12), sl12⟩) (c12 : PySem.W.codeIn K cd12 "order_of" = true) (k12 : PySem.W.keepIn K (.ref f12) = true)
    (a13 : PySem.W.nsIn K mainGlobals "_circles" = some (some (.ref f13))) (l13 : K.lookup f13 = some ⟨oc13, od13, .func (PySem.W.fnOf "_circles" "_circles" (defArgs sCircles) (defBody sCircles) (defScope sCircles) .none kV13 dc13 pm13 an13 cd13 ct13), sl13⟩) (c13 : PySem.W.codeIn K cd13 "_circles" = true) (k13 : PySem.W.keepIn K (.ref f13) = true)
    (a14 : PySem.W.nsIn K mainGlobals "steps_of" = some (some (.ref f14))) (l14 : K.lookup f14 = some ⟨oc14, od14, .func (PySem.W.fnOf "steps_of" "steps_of" (defArgs sStepsOf) (defBody sStepsOf) (defScope sStepsOf) .none kV14 dc14 pm14 an14 cd14 ct14), sl14⟩) (c14 : PySem.W.codeIn K cd14 "steps_of" = true) (k14 : PySem.W.keepIn K (.ref f14) = true)
    (a15 : PySem.W.nsIn K mainGlobals "_law_box" = some (some (.ref f15))) (l15 : K.lookup f15 = some ⟨oc15, od15, .func (PySem.W.fnOf "_law_box" "_law_box" (defArgs sBox) (defBody sBox) (defScope sBox) .none kV15 dc15 pm15 an15 cd15 ct15), sl15⟩) (c15 : PySem.W.codeIn K cd15 "_law_box" = true) (k15 : PySem.W.keepIn K (.ref f15) = true)
    (a16 : PySem.W.nsIn K mainGlobals "_law_draw" = some (some (.ref f16))) (l16 : K.lookup f16 = some ⟨oc16, od16, .func (PySem.W.fnOf "_law_draw" "_law_draw" (defArgs sDraw) (defBody sDraw) (defScope sDraw) .none kV16 dc16 pm16 an16 cd16 ct16), sl16⟩) (c16 : PySem.W.codeIn K cd16 "_law_draw" = true) (k16 : PySem.W.keepIn K (.ref f16) = true)
    (a17 : PySem.W.nsIn K mainGlobals "_law_pick" = some (some (.ref f17))) (l17 : K.lookup f17 = some ⟨oc17, od17, .func (PySem.W.fnOf "_law_pick" "_law_pick" (defArgs sPick) (defBody sPick) (defScope sPick) .none kV17 dc17 pm17 an17 cd17 ct17), sl17⟩) (c17 : PySem.W.codeIn K cd17 "_law_pick" = true) (k17 : PySem.W.keepIn K (.ref f17) = true)
    (a18 : PySem.W.nsIn K mainGlobals "_law_mixed" = some (some (.ref f18))) (l18 : K.lookup f18 = some ⟨oc18, od18, .func (PySem.W.fnOf "_law_mixed" "_law_mixed" (defArgs sMixed) (defBody sMixed) (defScope sMixed) .none kV18 dc18 pm18 an18 cd18 ct18), sl18⟩) (c18 : PySem.W.codeIn K cd18 "_law_mixed" = true) (k18 : PySem.W.keepIn K (.ref f18) = true)
    (a19 : PySem.W.nsIn K mainGlobals "_law_every" = some (some (.ref f19))) (l19 : K.lookup f19 = some ⟨oc19, od19, .func (PySem.W.fnOf "_law_every" "_law_every" (defArgs sEvery) (defBody sEvery) (defScope sEvery) .none kV19 dc19 pm19 an19 cd19 ct19), sl19⟩) (c19 : PySem.W.codeIn K cd19 "_law_every" = true) (k19 : PySem.W.keepIn K (.ref f19) = true)
    (a20 : PySem.W.nsIn K mainGlobals "_law_deed" = some (some (.ref f20))) (l20 : K.lookup f20 = some ⟨oc20, od20, .func (PySem.W.fnOf "_law_deed" "_law_deed" (defArgs sDeed) (defBody sDeed) (defScope sDeed) .none kV20 dc20 pm20 an20 cd20 ct20), sl20⟩) (c20 : PySem.W.codeIn K cd20 "_law_deed" = true) (k20 : PySem.W.keepIn K (.ref f20) = true)
    (a21 : PySem.W.nsIn K mainGlobals "_law_entry" = some (some (.ref f21))) (l21 : K.lookup f21 = some ⟨oc21, od21, .func (PySem.W.fnOf "_law_entry" "_law_entry" (defArgs sEntry) (defBody sEntry) (defScope sEntry) .none kV21 dc21 pm21 an21 cd21 ct21), sl21⟩) (c21 : PySem.W.codeIn K cd21 "_law_entry" = true) (k21 : PySem.W.keepIn K (.ref f21) = true)
    (a22 : PySem.W.nsIn K mainGlobals "_law_made" = some (some (.ref f22))) (l22 : K.lookup f22 = some ⟨oc22, od22, .func (PySem.W.fnOf "_law_made" "_law_made" (defArgs sMade) (defBody sMade) (defScope sMade) .none kV22 dc22 pm22 an22 cd22 ct22), sl22⟩) (c22 : PySem.W.codeIn K cd22 "_law_made" = true) (k22 : PySem.W.keepIn K (.ref f22) = true)
    (a23 : PySem.W.nsIn K mainGlobals "_law_places" = some (some (.ref f23))) (l23 : K.lookup f23 = some ⟨oc23, od23, .func (PySem.W.fnOf "_law_places" "_law_places" (defArgs sLPlaces) (defBody sLPlaces) (defScope sLPlaces) .none kV23 dc23 pm23 an23 cd23 ct23), sl23⟩) (c23 : PySem.W.codeIn K cd23 "_law_places" = true) (k23 : PySem.W.keepIn K (.ref f23) = true)
    (a24 : PySem.W.nsIn K mainGlobals "_law_keys_behind" = some (some (.ref f24))) (l24 : K.lookup f24 = some ⟨oc24, od24, .func (PySem.W.fnOf "_law_keys_behind" "_law_keys_behind" (defArgs sLKeysBehind) (defBody sLKeysBehind) (defScope sLKeysBehind) .none kV24 dc24 pm24 an24 cd24 ct24), sl24⟩) (c24 : PySem.W.codeIn K cd24 "_law_keys_behind" = true) (k24 : PySem.W.keepIn K (.ref f24) = true)
    (a25 : PySem.W.nsIn K mainGlobals "_law_drawn" = some (some (.ref f25))) (l25 : K.lookup f25 = some ⟨oc25, od25, .func (PySem.W.fnOf "_law_drawn" "_law_drawn" (defArgs sDrawn) (defBody sDrawn) (defScope sDrawn) .none kV25 dc25 pm25 an25 cd25 ct25), sl25⟩) (c25 : PySem.W.codeIn K cd25 "_law_drawn" = true) (k25 : PySem.W.keepIn K (.ref f25) = true)
    (a26 : PySem.W.nsIn K mainGlobals "_law_rounds" = some (some (.ref f26))) (l26 : K.lookup f26 = some ⟨oc26, od26, .func (PySem.W.fnOf "_law_rounds" "_law_rounds" (defArgs sLRounds) (defBody sLRounds) (defScope sLRounds) .none kV26 dc26 pm26 an26 cd26 ct26), sl26⟩) (c26 : PySem.W.codeIn K cd26 "_law_rounds" = true) (k26 : PySem.W.keepIn K (.ref f26) = true)
    (a27 : PySem.W.nsIn K mainGlobals "_law_often" = some (some (.ref f27))) (l27 : K.lookup f27 = some ⟨oc27, od27, .func (PySem.W.fnOf "_law_often" "_law_often" (defArgs sLOften) (defBody sLOften) (defScope sLOften) .none kV27 dc27 pm27 an27 cd27 ct27), sl27⟩) (c27 : PySem.W.codeIn K cd27 "_law_often" = true) (k27 : PySem.W.keepIn K (.ref f27) = true)
    (a28 : PySem.W.nsIn K mainGlobals "_law_far" = some (some (.ref f28))) (l28 : K.lookup f28 = some ⟨oc28, od28, .func (PySem.W.fnOf "_law_far" "_law_far" (defArgs sLFar) (defBody sLFar) (defScope sLFar) .none kV28 dc28 pm28 an28 cd28 ct28), sl28⟩) (c28 : PySem.W.codeIn K cd28 "_law_far" = true) (k28 : PySem.W.keepIn K (.ref f28) = true)
    (a29 : PySem.W.nsIn K mainGlobals "_law_common" = some (some (.ref f29))) (l29 : K.lookup f29 = some ⟨oc29, od29, .func (PySem.W.fnOf "_law_common" "_law_common" (defArgs sLCommon) (defBody sLCommon) (defScope sLCommon) .none kV29 dc29 pm29 an29 cd29 ct29), sl29⟩) (c29 : PySem.W.codeIn K cd29 "_law_common" = true) (k29 : PySem.W.keepIn K (.ref f29) = true)
    (a30 : PySem.W.nsIn K mainGlobals "_law_primes" = some (some (.ref f30))) (l30 : K.lookup f30 = some ⟨oc30, od30, .func (PySem.W.fnOf "_law_primes" "_law_primes" (defArgs sLPrimes) (defBody sLPrimes) (defScope sLPrimes) .none kV30 dc30 pm30 an30 cd30 ct30), sl30⟩) (c30 : PySem.W.codeIn K cd30 "_law_primes" = true) (k30 : PySem.W.keepIn K (.ref f30) = true)
    (a31 : PySem.W.nsIn K mainGlobals "_law_some" = some (some (.ref f31))) (l31 : K.lookup f31 = some ⟨oc31, od31, .func (PySem.W.fnOf "_law_some" "_law_some" (defArgs sLSome) (defBody sLSome) (defScope sLSome) .none kV31 dc31 pm31 an31 cd31 ct31), sl31⟩) (c31 : PySem.W.codeIn K cd31 "_law_some" = true) (k31 : PySem.W.keepIn K (.ref f31) = true)
    (a32 : PySem.W.nsIn K mainGlobals "_law_least" = some (some (.ref f32))) (l32 : K.lookup f32 = some ⟨oc32, od32, .func (PySem.W.fnOf "_law_least" "_law_least" (defArgs sLLeast) (defBody sLLeast) (defScope sLLeast) .none kV32 dc32 pm32 an32 cd32 ct32), sl32⟩) (c32 : PySem.W.codeIn K cd32 "_law_least" = true) (k32 : PySem.W.keepIn K (.ref f32) = true)
    (a33 : PySem.W.nsIn K mainGlobals "_law_wound" = some (some (.ref f33))) (l33 : K.lookup f33 = some ⟨oc33, od33, .func (PySem.W.fnOf "_law_wound" "_law_wound" (defArgs sLWound) (defBody sLWound) (defScope sLWound) .none kV33 dc33 pm33 an33 cd33 ct33), sl33⟩) (c33 : PySem.W.codeIn K cd33 "_law_wound" = true) (k33 : PySem.W.keepIn K (.ref f33) = true)
    (a34 : PySem.W.nsIn K mainGlobals "_law_is_wound" = some (some (.ref f34))) (l34 : K.lookup f34 = some ⟨oc34, od34, .func (PySem.W.fnOf "_law_is_wound" "_law_is_wound" (defArgs sLIsWound) (defBody sLIsWound) (defScope sLIsWound) .none kV34 dc34 pm34 an34 cd34 ct34), sl34⟩) (c34 : PySem.W.codeIn K cd34 "_law_is_wound" = true) (k34 : PySem.W.keepIn K (.ref f34) = true)
    (a35 : PySem.W.nsIn K mainGlobals "law" = some (some (.ref f35))) (l35 : K.lookup f35 = some ⟨oc35, od35, .func (PySem.W.fnOf "law" "law" (defArgs sLaw) (defBody sLaw) (defScope sLaw) .none kV35 dc35 pm35 an35 cd35 ct35), sl35⟩) (c35 : PySem.W.codeIn K cd35 "law" = true) (k35 : PySem.W.keepIn K (.ref f35) = true)
    (z1 : PySem.W.nsIn K mainGlobals "len" = some none)
    (z2 : PySem.W.nsIn K mainGlobals "abs" = some none)
    (z3 : PySem.W.nsIn K mainGlobals "int" = some none)
    (z4 : PySem.W.nsIn K mainGlobals "bool" = some none)
    (z5 : PySem.W.nsIn K mainGlobals "tuple" = some none)
    (z6 : PySem.W.nsIn K mainGlobals "list" = some none)
    (z7 : PySem.W.nsIn K mainGlobals "range" = some none)
    (z8 : PySem.W.nsIn K mainGlobals "zip" = some none)
    (z9 : PySem.W.nsIn K mainGlobals "repr" = some none)
    (z10 : PySem.W.nsIn K mainGlobals "enumerate" = some none)
    (z11 : PySem.W.nsIn K mainGlobals "isinstance" = some none)
    (z12 : PySem.W.nsIn K mainGlobals "all" = some none)
    (z13 : PySem.W.nsIn K mainGlobals "sorted" = some none)
    (z14 : PySem.W.nsIn K mainGlobals "set" = some none)
    (z15 : PySem.W.nsIn K mainGlobals "sum" = some none)
    (z16 : PySem.W.nsIn K mainGlobals "min" = some none)
    (z17 : PySem.W.nsIn K mainGlobals "max" = some none)
    (z18 : PySem.W.nsIn K mainGlobals "any" = some none)
    (z19 : PySem.W.nsIn K mainGlobals "str" = some none)
    (m : PySem.W.nsIn K mainGlobals "MAX_TABLE" = some (some (.int 6 tM)))
    (zc : PySem.W.nsIn K mainGlobals "lcm" = some (some (.builtin "math.lcm")))
    : ∃ fd : FuncData, (∀ (s : Shared) (u : Value), BindsTo s fd ⟨[u], []⟩ [("script", u)]) ∧ ∀ base : Heap, K.In base → base.Ns mainGlobals mg → FnG l.prog w K mg base CX0 9 fa fd ["script"] (spLaw K) := by
  have e := hfa.symm.trans (PySem.W.mg_of X G a35)
  cases e
  have D1 : Df K mg "lots_of" sLotsOf ["n", "size"] := df_mk X G a1 l1 c1 k1 fun _ _ _ _ _ _ us hl => match us, hl with | [_, _], _ => rfl
  have D2 : Df K mg "all_lots" sAllLots ["n"] := df_mk X G a2 l2 c2 k2 fun _ _ _ _ _ _ us hl => match us, hl with | [_], _ => rfl
  have D3 : Df K mg "goal" sGoal ["n", "entry"] := df_mk X G a3 l3 c3 k3 fun _ _ _ _ _ _ us hl => match us, hl with | [_, _], _ => rfl
  have D4 : Df K mg "still" sStill ["n"] := df_mk X G a4 l4 c4 k4 fun _ _ _ _ _ _ us hl => match us, hl with | [_], _ => rfl
  have D5 : Df K mg "ways_table" sWays ["n", "ways"] := df_mk X G a5 l5 c5 k5 fun _ _ _ _ _ _ us hl => match us, hl with | [_, _], _ => rfl
  have D6 : Df K mg "_entry_by" sEntryBy ["lot", "ways"] := df_mk X G a6 l6 c6 k6 fun _ _ _ _ _ _ us hl => match us, hl with | [_, _], _ => rfl
  have D7 : Df K mg "both" sBoth ["n", "one", "other"] := df_mk X G a7 l7 c7 k7 fun _ _ _ _ _ _ us hl => match us, hl with | [_, _, _], _ => rfl
  have D8 : Df K mg "numbers_of_lots" sNumbers ["n"] := df_mk X G a8 l8 c8 k8 fun _ _ _ _ _ _ us hl => match us, hl with | [_], _ => rfl
  have D9 : Df K mg "aims_of" sAims ["n", "table"] := df_mk X G a9 l9 c9 k9 fun _ _ _ _ _ _ us hl => match us, hl with | [_, _], _ => rfl
  have D10 : DfN K mg "power" sPower ["n", "table", "k"] ["k", "table", "n"] := ⟨_, _, fun_mk l10 c10 k10, (fun_mk l10 c10 k10).binds (fun _ _ _ _ _ _ us hl => match us, hl with | [_, _, _], _ => rfl), PySem.W.mg_of X G a10, kbn_of (fun_mk l10 c10 k10) (fun zs => zs.reverse) vals_swap fun _ _ _ _ _ _ ws hl => match ws, hl with | [_, _, _], _ => rfl⟩
  have D11 : Df K mg "_entry_of" sEntryOf ["n", "number", "behind"] := df_mk X G a11 l11 c11 k11 fun _ _ _ _ _ _ us hl => match us, hl with | [_, _, _], _ => rfl
  have D12 : DfN K mg "order_of" sOrderOf ["n", "table"] ["table", "n"] := ⟨_, _, fun_mk l12 c12 k12, (fun_mk l12 c12 k12).binds (fun _ _ _ _ _ _ us hl => match us, hl with | [_, _], _ => rfl), PySem.W.mg_of X G a12, kbn_of (fun_mk l12 c12 k12) (fun zs => zs.reverse) vals_swap fun _ _ _ _ _ _ ws hl => match ws, hl with | [_, _], _ => rfl⟩
  have D13 : Df K mg "_circles" sCircles ["n", "table"] := df_mk X G a13 l13 c13 k13 fun _ _ _ _ _ _ us hl => match us, hl with | [_, _], _ => rfl
  have D14 : Df K mg "steps_of" sStepsOf ["n", "table"] := df_mk X G a14 l14 c14 k14 fun _ _ _ _ _ _ us hl => match us, hl with | [_, _], _ => rfl
  have D15 : Df K mg "_law_box" sBox ["script"] := df_mk X G a15 l15 c15 k15 fun _ _ _ _ _ _ us hl => match us, hl with | [_], _ => rfl
  have D16 : Df K mg "_law_draw" sDraw ["box", "many"] := df_mk X G a16 l16 c16 k16 fun _ _ _ _ _ _ us hl => match us, hl with | [_, _], _ => rfl
  have D17 : Df K mg "_law_pick" sPick ["box", "items"] := df_mk X G a17 l17 c17 k17 fun _ _ _ _ _ _ us hl => match us, hl with | [_, _], _ => rfl
  have D18 : Df K mg "_law_mixed" sMixed ["box", "items"] := df_mk X G a18 l18 c18 k18 fun _ _ _ _ _ _ us hl => match us, hl with | [_, _], _ => rfl
  have D19 : Df K mg "_law_every" sEvery ["n"] := df_mk X G a19 l19 c19 k19 fun _ _ _ _ _ _ us hl => match us, hl with | [_], _ => rfl
  have D20 : Df K mg "_law_deed" sDeed ["box", "n"] := df_mk X G a20 l20 c20 k20 fun _ _ _ _ _ _ us hl => match us, hl with | [_, _], _ => rfl
  have D21 : Df K mg "_law_entry" sEntry ["n", "lies"] := df_mk X G a21 l21 c21 k21 fun _ _ _ _ _ _ us hl => match us, hl with | [_, _], _ => rfl
  have D22 : Df K mg "_law_made" sMade ["n", "moves"] := df_mk X G a22 l22 c22 k22 fun _ _ _ _ _ _ us hl => match us, hl with | [_, _], _ => rfl
  have D23 : Df K mg "_law_places" sLPlaces ["n"] := df_mk X G a23 l23 c23 k23 fun _ _ _ _ _ _ us hl => match us, hl with | [_], _ => rfl
  have D24 : Df K mg "_law_keys_behind" sLKeysBehind ["n", "entry"] := df_mk X G a24 l24 c24 k24 fun _ _ _ _ _ _ us hl => match us, hl with | [_, _], _ => rfl
  have D25 : Df K mg "_law_drawn" sDrawn ["box", "n"] := df_mk X G a25 l25 c25 k25 fun _ _ _ _ _ _ us hl => match us, hl with | [_, _], _ => rfl
  have D26 : Df K mg "_law_rounds" sLRounds ["n", "table"] := df_mk X G a26 l26 c26 k26 fun _ _ _ _ _ _ us hl => match us, hl with | [_, _], _ => rfl
  have D27 : Df K mg "_law_often" sLOften ["n", "table", "many"] := df_mk X G a27 l27 c27 k27 fun _ _ _ _ _ _ us hl => match us, hl with | [_, _, _], _ => rfl
  have D28 : Df K mg "_law_far" sLFar ["box"] := df_mk X G a28 l28 c28 k28 fun _ _ _ _ _ _ us hl => match us, hl with | [_], _ => rfl
  have D29 : Df K mg "_law_common" sLCommon ["one", "other"] := df_mk X G a29 l29 c29 k29 fun _ _ _ _ _ _ us hl => match us, hl with | [_, _], _ => rfl
  have D30 : Df K mg "_law_primes" sLPrimes ["many"] := df_mk X G a30 l30 c30 k30 fun _ _ _ _ _ _ us hl => match us, hl with | [_], _ => rfl
  have D31 : Df K mg "_law_some" sLSome ["box", "n"] := df_mk X G a31 l31 c31 k31 fun _ _ _ _ _ _ us hl => match us, hl with | [_, _], _ => rfl
  have D32 : Df K mg "_law_least" sLLeast ["n", "table"] := df_mk X G a32 l32 c32 k32 fun _ _ _ _ _ _ us hl => match us, hl with | [_, _], _ => rfl
  have D33 : Df K mg "_law_wound" sLWound ["box", "n"] := df_mk X G a33 l33 c33 k33 fun _ _ _ _ _ _ us hl => match us, hl with | [_, _], _ => rfl
  have D34 : Df K mg "_law_is_wound" sLIsWound ["box"] := df_mk X G a34 l34 c34 k34 fun _ _ _ _ _ _ us hl => match us, hl with | [_], _ => rfl
  have B : Bi mg := ⟨PySem.W.mg_none_of X G z1, PySem.W.mg_none_of X G z2, PySem.W.mg_none_of X G z3, PySem.W.mg_none_of X G z4, PySem.W.mg_none_of X G z5, PySem.W.mg_none_of X G z6, PySem.W.mg_none_of X G z7, PySem.W.mg_none_of X G z8, PySem.W.mg_none_of X G z9, PySem.W.mg_none_of X G z10, PySem.W.mg_none_of X G z11, PySem.W.mg_none_of X G z12, PySem.W.mg_none_of X G z13, PySem.W.mg_none_of X G z14, PySem.W.mg_none_of X G z15, PySem.W.mg_none_of X G z16, PySem.W.mg_none_of X G z17, PySem.W.mg_none_of X G z18, PySem.W.mg_none_of X G z19⟩
  refine ⟨PySem.W.fnOf "law" "law" (defArgs sLaw) (defBody sLaw) (defScope sLaw) .none kV35 dc35 pm35 an35 cd35 ct35, fun s v => .of_eq rfl, fun base _ _ => ?_⟩
  have hM : ∃ t, mg "MAX_TABLE" = some (.int 6 t) := ⟨_, PySem.W.mg_of X G m⟩
  have LC := PySem.W.mg_of X G zc
  have olo : Ok l.prog w K mg base 1 "lots_of" ["n", "size"] spLots := D1.ok fun _ _ F => f_lotsOf F B
  have oal := o_all6 D2 B hM olo
  have ogo := o_goal (P := l.prog) (w := w) (base := base) D3 B
  have oeb := o_entBy (P := l.prog) (w := w) (base := base) D6 B
  have owt := o_ways D5 B oal oeb
  have ost : Ok l.prog w K mg base 4 "still" ["n"] spStill := D4.ok fun _ _ F => f_still F B owt
  have onu := o_numbers D8 B oal
  have oai := o_aims D9 B ogo onu
  have obo : Ok l.prog w K mg base 5 "both" ["n", "one", "other"] spBoth := D7.ok fun _ _ F => f_both F B oai
  have osp := o_steps D14 B oai
  have oci := o_circles D13 B osp
  have oeo := o_entOf (P := l.prog) (w := w) (base := base) D11 B
  have opo : OkN l.prog w K mg base 7 "power" ["n", "table", "k"] ["k", "table", "n"] spPower := D10.okN fun _ _ F => f_power F B oci oeo
  have oor : OkN l.prog w K mg base 7 "order_of" ["n", "table"] ["table", "n"] spOrder := D12.okN fun _ _ F => f_order F B LC oci
  have obx := o_deck (P := l.prog) (w := w) (base := base) D15 B
  have odr := o_draw (P := l.prog) (w := w) (base := base) D16 B
  have opk := o_pick D17 B odr
  have omx := o_mixed D18 B odr
  have oev := o_every (P := l.prog) (w := w) (base := base) D19 B
  have ode := o_deed D20 B odr omx
  have ole := o_lEntry (P := l.prog) (w := w) (base := base) D21 B
  have oma := o_made D22 B oev ole
  have opl := o_lPlaces D23 B oev
  have oke := o_lKeys (P := l.prog) (w := w) (base := base) D24 B
  have odw := o_drawn D25 B oev omx
  have olr := o_lRounds D26 B oev opl oke
  have oof := o_lOften D27 B oev olr
  have ofa := o_lFar D28 B odr
  have oco := o_lCommon (P := l.prog) (w := w) (base := base) D29 B
  have opm := o_lPrimes (P := l.prog) (w := w) (base := base) D30 B
  have oso := o_lSome D31 B odr odw ode oma
  have oll := o_lLeast D32 B olr oco
  have owo := o_lWound D33 B odr oev omx opk
  have oiw := o_lIsWound D34 B odr opk ofa owo oor.ok opo.ok oll oof
  exact ok_law (fun_mk (st := sLaw) l35 c35 k35) B ⟨obx, odr, opk, oiw, oso, oor, oll, ost, opm, opo, oof, ofa, obo⟩
end Kr
open PySem PySem.W PyProof.Rows
set_option maxHeartbeats 0 in
theorem PySem.Challenge.cw_keyriders_k15_whole_powers_and_orders_holds : PySem.Challenge.rw_keyriders_k15_whole_powers_and_orders.Holds := by
  w_on; o_law; k_head; (case hw => w_witness2)
  k_fill
  refine Kr.walkG (l := PySem.Challenge.rw_keyriders_k15_whole_powers_and_orders) (n := 63) (k := 9) (x := "script") (sp := Kr.spLaw) rfl (by decide) rfl ⟨rfl, by decide, by decide⟩ (fun w h Y => PySem.W.kIn_of Y) ?F (fun _ _ a ns hl _ hS => ⟨a, ns, rfl, hS, hl, fun _ => rfl⟩)
  case F =>
    intro w mg fa h KX G hmg
    refine' Kr.all_mk KX G hmg ?a1 ?l1 ?c1 ?k1 ?a2 ?l2 ?c2 ?k2 ?a3 ?l3 ?c3 ?k3 ?a4 ?l4 ?c4 ?k4 ?a5 ?l5 ?c5 ?k5 ?a6 ?l6 ?c6 ?k6 ?a7 ?l7 ?c7 ?k7 ?a8 ?l8 ?c8 ?k8 ?a9 ?l9 ?c9 ?k9 ?a10 ?l10 ?c10 ?k10 ?a11 ?l11 ?c11 ?k11 ?a12 ?l12 ?c12 ?k12 ?a13 ?l13 ?c13 ?k13 ?a14 ?l14 ?c14 ?k14 ?a15 ?l15 ?c15 ?k15 ?a16 ?l16 ?c16 ?k16 ?a17 ?l17 ?c17 ?k17 ?a18 ?l18 ?c18 ?k18 ?a19 ?l19 ?c19 ?k19 ?a20 ?l20 ?c20 ?k20 ?a21 ?l21 ?c21 ?k21 ?a22 ?l22 ?c22 ?k22 ?a23 ?l23 ?c23 ?k23 ?a24 ?l24 ?c24 ?k24 ?a25 ?l25 ?c25 ?k25 ?a26 ?l26 ?c26 ?k26 ?a27 ?l27 ?c27 ?k27 ?a28 ?l28 ?c28 ?k28 ?a29 ?l29 ?c29 ?k29 ?a30 ?l30 ?c30 ?k30 ?a31 ?l31 ?c31 ?k31 ?a32 ?l32 ?c32 ?k32 ?a33 ?l33 ?c33 ?k33 ?a34 ?l34 ?c34 ?k34 ?a35 ?l35 ?c35 ?k35 ?z1 ?z2 ?z3 ?z4 ?z5 ?z6 ?z7 ?z8 ?z9 ?z10 ?z11 ?z12 ?z13 ?z14 ?z15 ?z16 ?z17 ?z18 ?z19 ?m ?zc
    (case a1 => k_is); (case l1 => k_is); (case c1 => k_is); (case k1 => k_is); (case a2 => k_is); (case l2 => k_is); (case c2 => k_is); (case k2 => k_is); (case a3 => k_is); (case l3 => k_is); (case c3 => k_is); (case k3 => k_is); (case a4 => k_is); (case l4 => k_is); (case c4 => k_is); (case k4 => k_is); (case a5 => k_is); (case l5 => k_is); (case c5 => k_is); (case k5 => k_is); (case a6 => k_is); (case l6 => k_is); (case c6 => k_is); (case k6 => k_is); (case a7 => k_is); (case l7 => k_is); (case c7 => k_is); (case k7 => k_is); (case a8 => k_is); (case l8 => k_is); (case c8 => k_is); (case k8 => k_is); (case a9 => k_is); (case l9 => k_is); (case c9 => k_is); (case k9 => k_is); (case a10 => k_is); (case l10 => k_is); (case c10 => k_is); (case k10 => k_is); (case a11 => k_is); (case l11 => k_is); (case c11 => k_is); (case k11 => k_is); (case a12 => k_is); (case l12 => k_is); (case c12 => k_is); (case k12 => k_is); (case a13 => k_is); (case l13 => k_is); (case c13 => k_is); (case k13 => k_is); (case a14 => k_is); (case l14 => k_is); (case c14 => k_is); (case k14 => k_is); (case a15 => k_is); (case l15 => k_is); (case c15 => k_is); (case k15 => k_is); (case a16 => k_is); (case l16 => k_is); (case c16 => k_is); (case k16 => k_is); (case a17 => k_is); (case l17 => k_is); (case c17 => k_is); (case k17 => k_is); (case a18 => k_is); (case l18 => k_is); (case c18 => k_is); (case k18 => k_is); (case a19 => k_is); (case l19 => k_is); (case c19 => k_is); (case k19 => k_is); (case a20 => k_is); (case l20 => k_is); (case c20 => k_is); (case k20 => k_is); (case a21 => k_is); (case l21 => k_is); (case c21 => k_is); (case k21 => k_is); (case a22 => k_is); (case l22 => k_is); (case c22 => k_is); (case k22 => k_is); (case a23 => k_is); (case l23 => k_is); (case c23 => k_is); (case k23 => k_is); (case a24 => k_is); (case l24 => k_is); (case c24 => k_is); (case k24 => k_is); (case a25 => k_is); (case l25 => k_is); (case c25 => k_is); (case k25 => k_is); (case a26 => k_is); (case l26 => k_is); (case c26 => k_is); (case k26 => k_is); (case a27 => k_is); (case l27 => k_is); (case c27 => k_is); (case k27 => k_is); (case a28 => k_is); (case l28 => k_is); (case c28 => k_is); (case k28 => k_is); (case a29 => k_is); (case l29 => k_is); (case c29 => k_is); (case k29 => k_is); (case a30 => k_is); (case l30 => k_is); (case c30 => k_is); (case k30 => k_is); (case a31 => k_is); (case l31 => k_is); (case c31 => k_is); (case k31 => k_is); (case a32 => k_is); (case l32 => k_is); (case c32 => k_is); (case k32 => k_is); (case a33 => k_is); (case l33 => k_is); (case c33 => k_is); (case k33 => k_is); (case a34 => k_is); (case l34 => k_is); (case c34 => k_is); (case k34 => k_is); (case a35 => k_is); (case l35 => k_is); (case c35 => k_is); (case k35 => k_is); (case z1 => k_is); (case z2 => k_is); (case z3 => k_is); (case z4 => k_is); (case z5 => k_is); (case z6 => k_is); (case z7 => k_is); (case z8 => k_is); (case z9 => k_is); (case z10 => k_is); (case z11 => k_is); (case z12 => k_is); (case z13 => k_is); (case z14 => k_is); (case z15 => k_is); (case z16 => k_is); (case z17 => k_is); (case z18 => k_is); (case z19 => k_is); (case m => k_is); (case zc => k_is)
