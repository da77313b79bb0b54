import PyProof.Rows.All
import Wide.All
import OpenK.AllK
import Wide.FinOn
import KE.GoesEnum
import HandS.ForMost
import HandS.Walk
import KE.KRevSl
import PyProof.ReprReads
import PyProof.ReprRoads
import HandS.IsInst
import HandS.Defaults
import HandS.TupAny
import HandS.TupMul
import HandS.Conv
import HandS.Zip
import HandS.SortInts
import HandS.WordsExc
import HandS.ExcOwn
import HandS.ExcIs
import HandS.ExcInit
import KE.KMathGC
import PyProof.ReprLen
import PyProof.EqAt
import PyProof.EqKinds
import PyProof.TupleCall
import Open.SpecLaws
import KE.OsGo
import PySem.Challenge.RW_keyriders_k02_whole_lots_and_their_numbe
set_option Elab.async false
set_option linter.all false
set_option maxRecDepth 100000
set_option maxHeartbeats 4000000
namespace Kr
open PySem PySem.Spec PyProof.Rows L2
open AutoSeq1 (wpAny_loadPart')

theorem enum_new_tup (l : Addr) (items : Array Value) :
    Meets (Builtin.«enumerate.__new__» ⟨[.type "enumerate", .ref l], []⟩) (fun _ R s => s.heap.IsTuple l items ∧
      R (.ok (.ret (.ref (s.heap.push { cls := .type "tuple_iterator", data := .fields #[.ref l, .int 0 0] }).objs.size)))
        { s with heap := (s.heap.push { cls := .type "tuple_iterator", data := .fields #[.ref l, .int 0 0] }).push { cls := .type "enumerate", data := .fields #[.none, .bool false, .ref s.heap.objs.size, rawInt 0, .none, .none] } }) :=
  .of_wp fun prog w A R s h => by
    obtain ⟨hp, g, d, tk, os⟩ := s
    obtain ⟨hL, h⟩ := h
    have hsub := sub_enumerate
    wp_walk using wpAny_pyIter_tuple hL
    refine wpAny_stack_any fun st => wpAny_pure ?_
    split
    · rename_i c _ _ _ _ _
      cases (c == Value.type "enumerate")
      all_goals
        wp_walk using wpAny_pyIter_tuple hL
        exact ⟨_, rfl, h⟩
    · wp_walk using wpAny_pyIter_tuple hL
      exact ⟨_, rfl, h⟩

section
variable {prog : Program} {w : World} {A : Around} {E : Value → Shared → Prop} {s : Shared}
theorem enum_call_tup {l : Addr} {items : Array Value} {Q : Value → Shared → Prop} (hL : s.heap.IsTuple l items)
    (h : ∀ h', IsEnum h' (s.heap.objs.size + 1) s.heap.objs.size 0 .none → h'.IsTupleIter s.heap.objs.size l 0 → h'.objs.size = s.heap.objs.size + 2 →
      (∀ b o, s.heap.get? b = some o → h'.get? b = some o) → Q (.ref (s.heap.objs.size + 1)) { s with heap := h' }) :
    wpAny (model prog w) A (call (.type "enumerate") [.ref l]) Q E s := by
  refine callType_new F.called_enumerate (by decide) (F.typeCall_enumerate_1 _) (F.newCall_enumerate_1 _) (fun obj => F.args_object_init_2 obj _) F.entry_enumerate_new
    (enum_new_tup l items) ⟨hL, ?_⟩
  generalize hh1 : s.heap.push { cls := .type "tuple_iterator", data := .fields #[.ref l, .int 0 0] } = h1
  have hz : h1.objs.size = s.heap.objs.size + 1 := by rw [← hh1]; exact Heap.size_push ..
  have g1 : h1.get? s.heap.objs.size = some { cls := .type "tuple_iterator", data := .fields #[.ref l, .int 0 0] } := by rw [← hh1]; exact Heap.get?_push_size _ rfl
  have k1 : ∀ b o, s.heap.get? b = some o → h1.get? b = some o := fun b o e => by rw [← hh1]; exact Heap.get?_push_of_some _ e
  have he : IsEnum (h1.push { cls := .type "enumerate", data := .fields #[.none, .bool false, .ref s.heap.objs.size, rawInt 0, .none, .none] }) (s.heap.objs.size + 1) s.heap.objs.size 0 .none := by
    have q := Heap.get?_push_size h1 (o := { cls := .type "enumerate", data := .fields #[.none, .bool false, .ref s.heap.objs.size, rawInt 0, .none, .none] }) rfl
    rw [hz] at q
    exact q
  show _ ∧ _
  rw [hz]
  exact ⟨⟨_, he, rfl⟩, h _ he ⟨_, Heap.get?_push_of_some _ g1, rfl, rfl⟩ (by rw [Heap.size_push, hz]) fun b o x => Heap.get?_push_of_some _ (k1 b o x)⟩
end

/-- the tuple at a, each item in a new pair -/
def Itet (K : PySem.W.Frag) (a : Addr) : It :=
  ⟨fun i H => ∃ (xs : List V) (x : V), SqT K H a xs ∧ xs[i]? = some x,
    fun i H v H' => ∃ T x, v = .ref T ∧ H T = none ∧ H' = upd H T (.tup [.int (i : Nat), x]) ∧ ∀ xs, SqT K H a xs → xs[i]? = some x,
    fun i H => ∃ xs : List V, SqT K H a xs ∧ xs.length = i⟩
theorem tup_ne {h : Heap} {a it : Addr} {items : Array Value} {o : Obj} (p : IsTup h a items) (ho : h.get? it = some o) (hc : o.cls ≠ .type "tuple") : a ≠ it := fun z => by
  obtain ⟨u, hu, hcu, _⟩ := p
  rw [z, ho] at hu
  cases hu
  exact hc hcu
theorem turn_enumT {P : Program} {w : World} {K : PySem.W.Frag} {elts : List Expr} {kk : Nat} {tpos : Pos} (a e it : Addr) :
    Turn P w K (.Tuple elts kk tpos) (Itet K a) [e, it] e (fun i h => (∃ old, IsEnum h e it ((i : Nat) : Int) old) ∧ h.IsTupleIter it a i ∧ e ≠ it) where
  mem := by simp
  obj := fun i h st b hb => by
    obtain ⟨⟨old, he⟩, ⟨o, ho, hc, hd⟩, _⟩ := st
    rcases (show b = e ∨ b = it by simpa using hb) with z | z
    · rw [z]; exact ⟨_, he, fun v q => nomatch q⟩
    · rw [z]; exact ⟨o, ho, fun v q => by rw [hd] at q; cases q⟩
  keep := fun i h h' st k => let ⟨⟨old, he⟩, hi, hne⟩ := st; ⟨⟨old, k e (by simp) _ he⟩, hi.at fun o q => k it (by simp) o q, hne⟩
  item := by
    intro X hP hw hK hc i pins s σ H E I hf st hg
    subst hP hw hK
    obtain ⟨⟨old, he⟩, hit, hne⟩ := st
    obtain ⟨xs, x, hq, hx⟩ := hg
    obtain ⟨its, rv, p, hz⟩ := I.tuple hq
    obtain ⟨u, hu, ru⟩ := rv.get hx
    have hel : e < s.heap.objs.size := Heap.lt_size he
    have hil : it < s.heap.objs.size := by obtain ⟨_, q, _⟩ := hit; exact Heap.lt_size q
    have nai : a ≠ it := by
      obtain ⟨o, ho, hcl, _⟩ := id hit
      exact tup_ne p ho (by rw [hcl]; decide)
    have hlt : i < its.toArray.size := by
      rw [List.size_toArray]
      exact (List.getElem?_eq_some_iff.mp hu).1
    have nea : e ≠ a := fun z => tup_ne p he (by show Value.type "enumerate" ≠ Value.type "tuple"; decide) z.symm
    refine PySem.wpAny_pyNext_enum_itemC (Draws.tuple (A := X.A.in1) (I.ok.hd hc) it a nai its.toArray) he ⟨hit, p⟩ hlt hne (by simp [hne, nea]) fun y h' tk hy ho hst hT hsz hk => ?_
    have ey : y = u := by
      have : its.toArray[i]? = some y := hy
      rw [List.getElem?_toArray, hu] at this
      exact (Option.some.inj this).symm
    subst ey
    refine ⟨_, rfl, wpAny_letOwnedTupleGo_enum (s := { s with heap := h', toks := tk + 1 }) ho fun h'' he' sb => ?_⟩
    have hT2 : h''.get? s.heap.objs.size = some { cls := .type "tuple", data := .seq #[.int i tk, y] } := (sb.2 _ (Nat.ne_of_gt hel)).trans hT
    have new : ObjOk X.prog X.w (upd H s.heap.objs.size (.tup [.int (i : Nat), x])) h'' s.heap.objs.size (.tup [.int (i : Nat), x]) :=
      ⟨by show 2 ≤ sizeLine; decide, [.int i tk, y], .cons ⟨_, rfl⟩ (.cons ru .nil), ⟨_, hT2, rfl, _, rfl⟩⟩
    have I1 : Inv X pins σ (upd H s.heap.objs.size (.tup [.int (i : Nat), x])) { s with heap := h'', toks := tk + 1 } :=
      I.turnedNew (ch := [e, it]) (fun b ob hb q => (sb.2 b (fun z => hb (by simp [z]))).trans (hk b ob (fun z => hb (by simp [z])) (fun z => hb (by simp [z])) q)) hf (Nat.le_refl _) new
    refine ⟨.ref s.heap.objs.size, _, I1, rfl, ⟨_, x, rfl, I.hok.fresh (Nat.le_refl _), rfl, fun ys hy => by rw [I.tuple_inj hy hq]; exact hx⟩, ⟨⟨y, ?_⟩, hst.1.at fun o q => (sb.2 it (Ne.symm hne)).trans q, hne⟩, fun b hb => ?_⟩
    · rw [show ((i + 1 : Nat) : Int) = (i : Int) + 1 by omega]
      exact he'
    · have hb' : b < s.heap.objs.size := by
        rcases (show b = e ∨ b = it by simpa using hb) with z | z
        · rw [z]; exact hel
        · rw [z]; exact hil
      rw [upd_ne (Nat.ne_of_lt hb')]
      exact (hf b hb).1
  done := by
    intro X hP hw hK hc i pins s σ H E I hf st hg
    subst hP hw hK
    obtain ⟨⟨old, he⟩, hit, hne⟩ := st
    obtain ⟨xs, hq, hx⟩ := hg
    obtain ⟨its, rv, p, hz⟩ := I.tuple hq
    obtain ⟨f0, f1, f2, f3, f4, f5⟩ := hf it (by simp)
    have nai : a ≠ it := by
      obtain ⟨o, ho, hcl, _⟩ := id hit
      exact tup_ne p ho (by rw [hcl]; decide)
    have ez : its.toArray.size = i := by
      rw [List.size_toArray, ← rv.length, hx]
    refine PySem.wpAny_pyNext_enum_endD (Draws.tuple (A := X.A.in1) (I.ok.hd hc) it a nai its.toArray) he ?_ fun h' eb => ⟨rfl, I.turned (t' := s.toks) (fun b o hb q => eb b o hb q) f0 f1 f3 f4 f5⟩
    rw [ez]
    exact ⟨hit, p⟩
  self := fun A i s Q E st h => let ⟨⟨_, he⟩, _⟩ := st; wpAny_pyIter_enum he h
def iEnumT (K : PySem.W.Frag) (ta : TA) : TI := fun σ H R => ta σ H fun vs H1 => ∃ a xs, vs = [.ref a] ∧ SqT K H1 a xs ∧ R (Itet K a) H1
theorem pi_enumT {X : Cx} {e : Expr} {ta : TA} {p pos tpos : Pos} {elts : List Expr} {kk : Nat} (hg : Gl X "enumerate") (hm : X.mg "enumerate" = none) (ha : PA X [e] ta) (hs : starEach [e] X.env = [(false, eval e X.env)] := by rfl) :
    PI X (.Tuple elts kk tpos) (.Call (.Name "enumerate" p) [e] [] pos) (iEnumT X.K ta) := by
  refine ⟨fun pins s σ H R I h => Call_ (ld_blt I hg hm boot_enumerate (PyProof.Rows.callWith_type1 (thn (ha.run pos pins s σ H _ I h) fun us s1 ⟨vs, H1, I1, r1, q1⟩ => ?_) hs rfl))⟩
  obtain ⟨a, xs, rfl, hq, q⟩ := q1
  obtain rfl := Vals.ref1 r1
  obtain ⟨its, rv, p', hz⟩ := I1.tuple hq
  refine enum_call_tup p' fun h' he hit hsz hk => wpAny_pyIter_enum he ?_
  have I2 : Inv X pins σ H1 { s1 with heap := h' } := I1.kept (t' := s1.toks) hk
  refine ⟨s1.heap.objs.size + 1, [s1.heap.objs.size + 1, s1.heap.objs.size], _, _, H1, rfl, I2, turn_enumT a (s1.heap.objs.size + 1) s1.heap.objs.size, ⟨⟨.none, he⟩, hit, Nat.succ_ne_self _⟩, fun b hb => ?_, q⟩
  have hle : s1.heap.objs.size ≤ b := by
    rcases (show b = s1.heap.objs.size + 1 ∨ b = s1.heap.objs.size by simpa using hb) with z | z <;> rw [z]
    · exact Nat.le_succ _
    · exact Nat.le_refl _
  exact I1.fpOk hle (I1.hok.fresh hle)

theorem walk_enumT {K : PySem.W.Frag} {a : Addr} {xs : List V} : Walk (Itet K a) xs.length (fun H => SqT K H a xs) (YPair (fun i => some (.int (i : Nat))) (fun i => xs[i]?)) := by
  refine ⟨fun i _ hi q => ⟨xs, xs[i], q, List.getElem?_eq_getElem hi⟩, fun _ q => ⟨xs, q, rfl⟩, fun i H v H' _ q y => ?_⟩
  obtain ⟨T, x, e1, e2, e3, e4⟩ := y
  exact ⟨T, _, x, e1, e2, e3, rfl, e4 xs q⟩
end Kr
namespace Kr
open PySem PySem.Spec PyProof.Rows L2 HT
theorem adj_rev (n : Nat) : Builtin.Slice.sliceAdjust none none (-1) (n : Int) = ((n : Int) - 1, -1) := by
  unfold Builtin.Slice.sliceAdjust
  simp
theorem pla_rev (n : Nat) : Builtin.Slice.slicePlaces ((n : Int) - 1) (-1) (-1) = n := by
  unfold Builtin.Slice.slicePlaces
  simp
  omega
theorem pick_rev (xs : Array Value) : ((List.range xs.size).filterMap fun (m : Nat) => xs[(((xs.size : Nat) : Int) - 1 + (m : Int) * (-1)).toNat]?).toArray = xs.toList.reverse.toArray := by
  have e : (fun (m : Nat) => xs[(((xs.size : Nat) : Int) - 1 + (m : Int) * (-1)).toNat]?) = (fun k => xs[k]?) ∘ fun (m : Nat) => xs.size - 1 - m := by
    funext m
    show _ = xs[xs.size - 1 - m]?
    rw [show (((xs.size : Nat) : Int) - 1 + (m : Int) * (-1)).toNat = xs.size - 1 - m by omega]
  rw [e, ← List.filterMap_map, PySem.W.krv_range, List.filterMap_reverse, PySem.W.krv_all]
section
variable {prog : Program} {w : World} {A : Around} {E : Value → Shared → Prop} {s : Shared}
theorem applied_rev {sl : Addr} {vk : Value} {n : Nat} {Q : Int × Int × Nat → Shared → Prop} (hs : s.heap.IsSliceOf sl .none .none vk) (pk : IsPart vk (some (-1)))
    (h : Q ((n : Int) - 1, -1, n) s) : wpAny (model prog w) A (Builtin.Slice.sliceApplied (.ref sl) (pure (n : Int))) Q E s := by
  obtain ⟨os, hos, hcs, hds⟩ := id hs
  unfold Builtin.Slice.sliceApplied Builtin.Slice.sliceFields
  refine wpAny_bind (wpAny_bind (wpAny_field hos hds (x := .none) rfl (wpAny_bind (wpAny_field hos hds (x := .none) rfl (wpAny_bind (wpAny_field hos hds (x := vk) rfl (wpAny_pure ?_)))))))
  refine wpAny_bind (slicePart_ pk ?_)
  show wpAny _ _ (if ((-1 : Int) == 0) = true then _ else _) _ _ s
  rw [if_neg (by decide)]
  refine wpAny_bind (slicePart_none (wpAny_bind (slicePart_none (wpAny_bind (wpAny_pure ?_)))))
  show wpAny _ _ (match Builtin.Slice.sliceAdjust none none (-1) (n : Int) with | (lo, hi) => pure (lo, (-1 : Int), Builtin.Slice.slicePlaces lo hi (-1))) _ _ s
  rw [adj_rev n]
  show wpAny _ _ (pure ((n : Int) - 1, (-1 : Int), Builtin.Slice.slicePlaces ((n : Int) - 1) (-1) (-1))) _ _ s
  rw [pla_rev]
  exact wpAny_pure h
theorem tuple_rev {t sl : Addr} {items : Array Value} {vk : Value} {Q : Value → Shared → Prop} (ht : IsTup s.heap t items) (hs : s.heap.IsSliceOf sl .none .none vk) (pk : IsPart vk (some (-1)))
    (h : Q (.ref s.heap.objs.size) { s with heap := s.heap.push { cls := .type "tuple", data := .seq items.toList.reverse.toArray } })
    (hsz : items.size ≤ sizeLine) : wpAny (model prog w) A (getItem (.ref t) (.ref sl)) Q E s := by
  have hok : sizeOk (.seq items.toList.reverse.toArray) := by
    show items.toList.reverse.toArray.size ≤ sizeLine
    rw [List.size_toArray, List.length_reverse, Array.length_toList]
    exact hsz
  obtain ⟨os, hos, hcs, hds⟩ := id hs
  have hTs : s.TypeIs (.ref sl) "slice" := ⟨os, hos, hcs⟩
  unfold getItem
  try with_reducible refine wpAny_holding ?_
  first | refine wpAny_bind (wpAny_pure ?_) | skip
  refine wpAny_bind (wpAny_sequenceKey ht.typeIs (by decide) ?_)
  refine wpAny_bind (wpAny_callSpecial?_slot (name := Str.ofString "__getitem__") ht.typeIs PyProof.Rows.slot_tuple_getitem
    (wpAny_call_entry PyProof.Rows.slot_tuple_getitem ht.typeIs entry_tuple_getitem ?_ (args_tuple_getitem _ _)))
  show wpAny _ _ (Builtin.Tuple.tupleItemsOf (.ref t) >>= _) _ _ s
  refine wpAny_bind (tupleItemsOf_ ht (wpAny_bind (wpAny_typeOf hTs ?_)))
  rw [if_pos (by decide)]
  refine wpAny_bind (applied_rev hs pk ?_)
  have hno : ¬ (((((items.size : Nat) : Int) - 1) == 0 && (-1 : Int) == 1 && items.size == items.size) = true) := by
    rw [show ((-1 : Int) == 1) = false by decide, Bool.and_false, Bool.false_and]
    exact Bool.false_ne_true
  show wpAny _ _ (if ((((items.size : Nat) : Int) - 1) == 0 && (-1 : Int) == 1 && items.size == items.size) = true then _ else _) _ _ s
  rw [if_neg hno, pick_rev]
  first
    | exact wpAny_bind (wpAny_bind (m := Builtin.Tuple.tupleExact _) (wpAny_newObj_type (wpAny_pure ⟨_, rfl, wpAny_pure h⟩) hok))
    | exact wpAny_bind (m := Builtin.Tuple.tupleExact _) (wpAny_newObj_type (wpAny_pure ⟨_, rfl, wpAny_pure h⟩) hok)
    | exact wpAny_bind (m := Builtin.Tuple.tupleExact _) (wpAny_newObj_type (wpAny_bind (wpAny_pure (wpAny_pure ⟨_, rfl, wpAny_pure h⟩))) hok)
    | exact wpAny_bind (wpAny_bind (m := Builtin.Tuple.tupleExact _) (wpAny_newObj_type (wpAny_pure (wpAny_pure ⟨_, rfl, wpAny_pure h⟩)) hok))
end
section
variable {X : Cx}
/-- t[::-1] of a tuple -/
def tRevT (K : PySem.W.Frag) (te : TE) : TE := fun σ H Q => te σ H fun x H1 => ∃ a xs, x = .ref a ∧ SqT K H1 a xs ∧ ∀ p, H1 p = none → Q (.ref p) (upd H1 p (.tup xs.reverse))
theorem pe_revT {e : Expr} {te : TE} {k : Nat} {p1 p2 p3 pos : Pos} (he : PE X e te) : PE X (.Subscript e (.Slice none none (some (.UnaryOp .USub (.Constant (.int 1) k p1) p2)) p3) pos) (tRevT X.K te) := by
  refine ⟨fun pins s σ H Q I h => Subscript_ (thn (he.run pins s σ H _ I h) fun v s1 ⟨x, H1, I1, r1, q1⟩ => ?_)⟩
  obtain ⟨a, xs, rfl, hx, q⟩ := q1
  cases r1
  have hst : PO X (some (.UnaryOp .USub (.Constant (.int 1) k p1) p2)) (tPart (tUn (rU fun i => .int (-i)) (tC (.int 1)))) := po_some (pe_un un_neg pe_int)
  refine wpAny_Slice (thn (po_none.run pins s1 σ H1 (fun o H2 => o = none ∧ H2 = H1) I1 ⟨rfl, rfl⟩) fun vl s2 ⟨l, H2, I2, pl, el, e2⟩ => ?_)
  subst el e2
  refine thn (po_none.run pins s2 σ H2 (fun o H3 => o = none ∧ H3 = H2) I2 ⟨rfl, rfl⟩) fun vu s3 ⟨u, H3, I3, pu, eu, e3⟩ => ?_
  subst eu e3
  refine thn (hst.run pins s3 σ H3 (fun o H4 => o = some (-1) ∧ H4 = H3) I3 ⟨1, rfl, -1, rfl, rfl, rfl⟩) fun vs s4 ⟨o, H4, I4, ps, eo, e4⟩ => ?_
  subst eo e4
  cases pl
  cases pu
  have I5 : Inv X pins σ H4 { s4 with heap := s4.heap.push { cls := .type "slice", data := .fields #[.none, .none, vs] } } := I4.kept (t' := s4.toks) fun b ob q => Heap.get?_push_of_some _ q
  obtain ⟨its, r, ht, hz⟩ := I5.tuple hx
  have hlen := r.length
  show wpAny (model X.prog X.w) X.A (subscriptTail e (.Slice none none (some (.UnaryOp .USub (.Constant (.int 1) k p1) p2)) p3) (.ref a) (.ref s4.heap.objs.size)) (EP X pins σ Q) X.xe { s4 with heap := s4.heap.push { cls := .type "slice", data := .fields #[.none, .none, vs] } }
  refine tail_any (ops := [.ref a, .ref s4.heap.objs.size]) ht.typeIs (PyProof.Rows.slot_tuple_getitem.lookup) ?_ (by with_unfolding_all rfl)
  refine tuple_rev ht (Heap.IsSliceOf.new _ .none .none vs) ps ?_ (by rw [List.size_toArray]; omega)
  refine ⟨.ref _, _, I5.laid (t' := s4.toks) (o := .tup xs.reverse) (fun b ob q => Heap.get?_push_of_some _ q) (Nat.le_refl _) ?_, rfl, q _ (I5.hok.fresh (Nat.le_refl _))⟩
  exact ⟨by rw [List.length_reverse]; exact hz, _, r.reverse, IsTup.new _ _⟩
end
end Kr
namespace Kr
open PySem PySem.Spec PyProof.Rows L2
/-! ### data over the abstract heap: None, bools, ints, texts, lists, tuples, {} -/
mutual
inductive Dq (H : Hp) : V → PyData → Prop
  | non : Dq H .non .none
  | bl (b : Bool) : Dq H (.bl b) (.bool b)
  | int (i : Int) : Dq H (.int i) (.int i)
  | str (x : Str) : Dq H (.str x) (.str x)
  | lst {a : Addr} {xs : List V} {ds : List PyData} (e : H a = some (.lst xs)) (q : DqA H xs ds) : Dq H (.ref a) (.list ds)
  | tup {a : Addr} {xs : List V} {ds : List PyData} (e : H a = some (.tup xs)) (q : DqA H xs ds) : Dq H (.ref a) (.tuple ds)
  | dic {a : Addr} (e : H a = some (.dK [])) : Dq H (.ref a) (.dict [])
inductive DqA (H : Hp) : List V → List PyData → Prop
  | nil : DqA H [] []
  | cons {v : V} {vs : List V} {d : PyData} {ds : List PyData} (h : Dq H v d) (t : DqA H vs ds) : DqA H (v :: vs) (d :: ds)
end
mutual
theorem Dq.up {H H' : Hp} (s : Same H H') : ∀ {v : V} {d : PyData}, Dq H v d → Dq H' v d
  | _, _, .non => .non
  | _, _, .bl b => .bl b
  | _, _, .int i => .int i
  | _, _, .str x => .str x
  | _, _, .lst e q => .lst (s _ _ e) (DqA.up s q)
  | _, _, .tup e q => .tup (s _ _ e) (DqA.up s q)
  | _, _, .dic e => .dic (s _ _ e)
theorem DqA.up {H H' : Hp} (s : Same H H') : ∀ {vs : List V} {ds : List PyData}, DqA H vs ds → DqA H' vs ds
  | _, _, .nil => .nil
  | _, _, .cons h t => .cons (Dq.up s h) (DqA.up s t)
end
theorem DqA.len {H : Hp} : ∀ {vs : List V} {ds : List PyData}, DqA H vs ds → vs.length = ds.length
  | _, _, .nil => rfl
  | _, _, .cons _ t => by rw [List.length_cons, List.length_cons, DqA.len t]
theorem DqA.get {H : Hp} : ∀ {vs : List V} {ds : List PyData} {i : Nat} {v : V}, DqA H vs ds → vs[i]? = some v → ∃ d, ds[i]? = some d ∧ Dq H v d
  | _, _, _, _, .nil, e => by simp at e
  | _, _, 0, _, .cons h _, e => by
    simp at e
    subst e
    exact ⟨_, rfl, h⟩
  | _, _, i + 1, _, .cons _ t, e => by
    obtain ⟨d, h1, h2⟩ := DqA.get (i := i) t (by simpa using e)
    exact ⟨d, by simpa using h1, h2⟩
theorem DqA.app {H : Hp} : ∀ {vs us : List V} {ds es : List PyData}, DqA H vs ds → DqA H us es → DqA H (vs ++ us) (ds ++ es)
  | _, _, _, _, .nil, q => q
  | _, _, _, _, .cons h t, q => .cons h (DqA.app t q)
theorem DqA.take {H : Hp} : ∀ {vs : List V} {ds : List PyData} (n : Nat), DqA H vs ds → DqA H (vs.take n) (ds.take n)
  | _, _, 0, _ => .nil
  | _, _, _ + 1, .nil => .nil
  | _, _, n + 1, .cons h t => .cons h (DqA.take n t)
theorem DqA.drop {H : Hp} : ∀ {vs : List V} {ds : List PyData} (n : Nat), DqA H vs ds → DqA H (vs.drop n) (ds.drop n)
  | _, _, 0, q => q
  | _, _, _ + 1, .nil => .nil
  | _, _, n + 1, .cons _ t => DqA.drop n t
theorem DqA.set {H : Hp} {v : V} {d : PyData} (q : Dq H v d) : ∀ {vs : List V} {ds : List PyData} (i : Nat), DqA H vs ds → DqA H (vs.set i v) (ds.set i d)
  | _, _, _, .nil => .nil
  | _, _, 0, .cons _ t => .cons q t
  | _, _, i + 1, .cons h t => .cons h (DqA.set q i t)
theorem DqA.one {H : Hp} {v : V} {d : PyData} (q : Dq H v d) : DqA H [v] [d] := .cons q .nil
theorem DqA.rev {H : Hp} : ∀ {vs : List V} {ds : List PyData}, DqA H vs ds → DqA H vs.reverse ds.reverse
  | _, _, .nil => .nil
  | _, _, .cons h t => by
    rw [List.reverse_cons, List.reverse_cons]
    exact DqA.app (DqA.rev t) (.one h)
theorem DqA.ints {H : Hp} : ∀ ns : List Int, DqA H (ns.map V.int) (ns.map PyData.int)
  | [] => .nil
  | n :: r => .cons (.int n) (DqA.ints r)
theorem DqA.rep {H : Hp} {v : V} {d : PyData} (q : Dq H v d) : ∀ n : Nat, DqA H (List.replicate n v) (List.replicate n d)
  | 0 => .nil
  | n + 1 => .cons q (DqA.rep q n)
theorem Dq.tup_inv {H : Hp} {v : V} {ds : List PyData} (q : Dq H v (.tuple ds)) : ∃ a xs, v = .ref a ∧ H a = some (.tup xs) ∧ DqA H xs ds := by
  cases q with
  | tup e h => exact ⟨_, _, rfl, e, h⟩

/-! ### how long what is shown is -/
mutual
def big : PyData → Nat
  | .none | .bool _ => 5
  | .int i => (toString i : Str).length
  | .str x => (reprText x).length
  | .list xs | .tuple xs => bigA xs + 3
  | .dict _ => 2
def bigA : List PyData → Nat
  | [] => 0
  | x :: xs => big x + 2 + bigA xs
end

section
variable {X : Cx} {pins : List (Addr × Obj)} {σ : L2.St} {H : Hp} {s : Shared}
mutual
theorem Dq.reprs (I : Inv X pins σ H s) : ∀ (d : PyData) (v : V) (u : Value), Dq H v d → RelV v u → d.showable = true → d.shown.length ≤ sizeLine →
    ∃ as, Reads s.heap u d as ∧ ∃ bs, ReadAtMost s.heap d.depth bs ∧ ReprK X.prog X.w bs s.heap d.depth u d.shown
  | .none, _, _, h, r, _, _ => by
    cases h
    cases r
    exact ⟨_, .none, [], (fun _ h => nomatch h), by simp only [PyData.shown]; exact .of_is ReprIs.none _ _ _⟩
  | .bool b, _, _, h, r, _, _ => by
    cases h
    cases r
    exact ⟨_, .bool b, [], (fun _ h => nomatch h), by simp only [PyData.shown]; exact .of_is (ReprIs.bool b) _ _ _⟩
  | .int i, _, _, h, r, hs, _ => by
    cases h
    obtain ⟨t, rfl⟩ := r
    exact ⟨_, .int i t, [], (fun _ h => nomatch h), by simp only [PyData.shown]; exact .of_is (ReprIs.int t (by simpa [PyData.showable] using hs)) _ _ _⟩
  | .str x, _, _, h, r, _, hz => by
    cases h
    obtain ⟨t, rfl⟩ := r
    exact ⟨_, .str x t, [], (fun _ h => nomatch h), by simp only [PyData.shown]; exact .of_is (ReprIs.str x t (by simpa only [PyData.shown] using hz)) _ _ _⟩
  | .list ds, _, _, h, r, hs, hz => by
    cases h with
    | @lst a xs _ e ha =>
      cases r
      have hz' : (listText (PyData.shownAll ds)).length ≤ sizeLine := by simpa only [PyData.shown] using hz
      obtain ⟨its, rv, ⟨o, n, ho, hc, _, hd⟩, _⟩ := I.list (SqL.of (K := X.K) e)
      obtain ⟨as, hr, bs, hb, hk⟩ := DqA.reprs I ds _ its ha rv (by simpa [PyData.showable] using hs) fun t ht => Nat.le_trans (listText_mem_le ht) hz'
      have rd : Reads s.heap (.ref a) (.list ds) _ := .list ho hc hd hr
      have hna : a ∉ bs := not_mem_of_deeper rd (by simp only [PyData.depth]; omega) hb
      refine ⟨_, rd, a :: bs, ReadAtMost.cons rd (by simp only [PyData.depth]; omega) hb, ?_⟩
      simp only [PyData.depth, PyData.shown]
      cases its with
      | nil =>
        cases hr
        simp only [PyData.shownAll, listText_nil]
        exact ReprK.listEmpty ho hc hd
      | cons y l => exact ReprK.list ho hc hd hna (by simpa using hk.length_eq) (fun i y e => hk.item i y (by simpa using e))
  | .tuple ds, _, _, h, r, hs, hz => by
    cases h with
    | @tup a xs _ e ha =>
      cases r
      have hz' : (tupleText (PyData.shownAll ds)).length ≤ sizeLine := by simpa only [PyData.shown] using hz
      obtain ⟨its, rv, ⟨o, ho, hc, n, hd⟩, _⟩ := I.tuple (SqT.of (K := X.K) e)
      obtain ⟨as, hr, bs, hb, hk⟩ := DqA.reprs I ds _ its ha rv (by simpa [PyData.showable] using hs) fun t ht => Nat.le_trans (tupleText_mem_le ht) hz'
      have rd : Reads s.heap (.ref a) (.tuple ds) _ := .tuple ho hc hd hr
      have hna : a ∉ bs := not_mem_of_deeper rd (by simp only [PyData.depth]; omega) hb
      refine ⟨_, rd, a :: bs, ReadAtMost.cons rd (by simp only [PyData.depth]; omega) hb, ?_⟩
      simp only [PyData.depth, PyData.shown]
      exact ReprK.tuple ho hc hd hna (by simpa using hk)
  | .dict kv, _, _, h, r, _, _ => by
    cases h with
    | @dic a e =>
      cases r
      obtain ⟨_, hsys, vs, rel, o, es, ep, ho, hx, hd, _, hp, _⟩ := I.hok a _ e
      cases rel
      have hes : es = #[] := by
        obtain ⟨l⟩ := es
        have : l = [] := by
          cases l with
          | nil => rfl
          | cons y l => exact nomatch hp
        rw [this]
      subst hes
      have rd : Reads s.heap (.ref a) (.dict []) _ := .dict ho hx.1 hd .nil .nil
      refine ⟨_, rd, [a], ReadAtMost.cons rd (Nat.zero_le _) (fun _ h => nomatch h), ?_⟩
      have := ReprK.dict (prog := X.prog) (w := X.w) (as := []) (d := 0) ho hx.1 hd hsys (fun h => nomatch h) .nil
      simpa only [PyData.depth, PyData.depthKv, PyData.shown, PyData.shownKv] using this
theorem DqA.reprs (I : Inv X pins σ H s) : ∀ (ds : List PyData) (vs : List V) (us : List Value), DqA H vs ds → Vals vs us → PyData.showableAll ds = true → (∀ t ∈ PyData.shownAll ds, t.length ≤ sizeLine) →
    ∃ as, ReadsAll s.heap us ds as ∧ ∃ bs, ReadAtMost s.heap (PyData.depthAll ds) bs ∧ ReprAllK X.prog X.w bs s.heap (PyData.depthAll ds) us (PyData.shownAll ds)
  | [], _, _, h, r, _, _ => by
    cases h
    cases r
    exact ⟨_, .nil, [], (fun _ h => nomatch h), by simp only [PyData.shownAll]; exact .nil⟩
  | d :: ds, _, _, h, r, hs, hz => by
    cases h with
    | cons h1 h2 =>
      cases r with
      | cons r1 r2 =>
        have hs' : d.showable = true ∧ PyData.showableAll ds = true := by simpa [PyData.showableAll] using hs
        obtain ⟨as, q1, b1, hb1, k1⟩ := Dq.reprs I d _ _ h1 r1 hs'.1 (hz _ (by simp only [PyData.shownAll]; exact List.mem_cons_self ..))
        obtain ⟨cs, q2, b2, hb2, k2⟩ := DqA.reprs I ds _ _ h2 r2 hs'.2 (fun t ht => hz t (by simp only [PyData.shownAll]; exact List.mem_cons_of_mem _ ht))
        refine ⟨_, .cons q1 q2, b1 ++ b2, ?_, ?_⟩
        · simp only [PyData.depthAll]
          exact (hb1.mono (Nat.le_max_left _ _)).append (hb2.mono (Nat.le_max_right _ _))
        · simp only [PyData.depthAll, PyData.shownAll]
          exact .cons ((k1.more fun b hb => List.mem_append_left _ hb).level_le (Nat.le_max_left _ _)) (k2.more_le (fun b hb => List.mem_append_right _ hb) (Nat.le_max_right _ _))
end
end

/-- repr(x) of data, where no repr is under way -/
def rRepr : List V → Hp → VK → Prop := fun xs H Q => ∃ v d, xs = [v] ∧ Dq H v d ∧ d.showable = true ∧ d.depth ≤ 40 ∧ d.shown.length ≤ sizeLine ∧ Q (.str d.shown) H
theorem call_repr {X : Cx} (hg : X.A.guards = some []) (hu : X.A.units + 64 < cLine) : CallR X (.builtin "repr") rRepr := by
  intro pins s σ H xs us Q I r h
  obtain ⟨v, d, rfl, hd, hs, hdep, hz, q⟩ := h
  obtain ⟨u, rfl, r1⟩ : ∃ u, us = [u] ∧ RelV v u := by
    cases r with
    | cons a b =>
      cases b
      exact ⟨_, rfl, a⟩
  have fin : ∀ (h' : Heap) (t : Tok) (tk : Nat), (∀ b o, s.heap.get? b = some o → h'.get? b = some o) → EP X pins σ Q (.str d.shown t) { s with heap := h', toks := tk } :=
    fun h' t tk hk => ⟨.str d.shown, H, I.kept (t' := tk) hk, ⟨t, rfl⟩, q⟩
  cases hd with
  | non =>
    simp only [PyData.shown] at fin
    cases r1
    exact PySem.P.repr_of_none (fin s.heap _ _ fun _ _ e => e)
  | bl b =>
    simp only [PyData.shown] at fin
    cases r1
    have := PySem.P.repr_of_bool (prog := X.prog) (w := X.w) (A := X.A) (E := X.xe) (b := b) (s := s) (Q := EP X pins σ Q)
    refine this ?_
    have f := fin s.heap s.toks (s.toks + 1) fun _ _ e => e
    cases b <;> exact f
  | int i =>
    simp only [PyData.shown] at fin
    obtain ⟨t, rfl⟩ := r1
    exact PySem.P.repr_of_int (by simpa [PyData.showable] using hs) (fin s.heap _ _ fun _ _ e => e)
  | str x =>
    simp only [PyData.shown] at fin hz
    obtain ⟨t, rfl⟩ := r1
    exact PySem.P.repr_of_str (fin s.heap _ _ fun _ _ e => e) hz
  | @lst a xs ds e ha =>
    obtain rfl : u = Value.ref a := r1
    simp only [PyData.depth] at hdep
    have hz' : (listText (PyData.shownAll ds)).length ≤ sizeLine := by simpa only [PyData.shown] using hz
    simp only [PyData.shown] at fin
    obtain ⟨its, rv, ⟨o, n, ho, hc, _, hd⟩, _⟩ := I.list (SqL.of (K := X.K) e)
    obtain ⟨as, hr, bs, hb, hk⟩ := DqA.reprs I ds _ its ha rv (by simpa [PyData.showable] using hs) fun t ht => Nat.le_trans (listText_mem_le ht) hz'
    have rd : Reads s.heap (.ref a) (.list ds) _ := .list ho hc hd hr
    have hna : a ∉ bs := not_mem_of_deeper rd (by simp only [PyData.depth]; omega) hb
    refine call_repr_slot (by omega) ⟨o, ho, hc⟩ F.slot_list_repr.toG ?_
    cases its with
    | nil =>
      cases hr
      have e0 : listText (PyData.shownAll []) = ("[]" : Str) := by simp only [PyData.shownAll, listText_nil]
      rw [e0] at fin
      exact call_list_repr_empty ⟨o, ho, hc⟩ ho hd ⟨_, _, rfl, fin s.heap _ _ fun _ _ e => e⟩
    | cons y l =>
      exact call_list_reprK ho hc hd hna (by simpa using hk.length_eq) (fun i y e => hk.item i y (by simpa using e)) hg (fun b _ => Clear.nil b) (by show X.A.units + 1 + _ < cLine; omega) (fun _ _ e => e) (fun h' t tk hk => ⟨_, _, rfl, fin h' t tk hk⟩) hz'
  | @tup a xs ds e ha =>
    obtain rfl : u = Value.ref a := r1
    simp only [PyData.depth] at hdep
    have hz' : (tupleText (PyData.shownAll ds)).length ≤ sizeLine := by simpa only [PyData.shown] using hz
    simp only [PyData.shown] at fin
    obtain ⟨its, rv, ⟨o, ho, hc, n, hd⟩, _⟩ := I.tuple (SqT.of (K := X.K) e)
    obtain ⟨as, hr, bs, hb, hk⟩ := DqA.reprs I ds _ its ha rv (by simpa [PyData.showable] using hs) fun t ht => Nat.le_trans (tupleText_mem_le ht) hz'
    have rd : Reads s.heap (.ref a) (.tuple ds) _ := .tuple ho hc hd hr
    have hna : a ∉ bs := not_mem_of_deeper rd (by simp only [PyData.depth]; omega) hb
    refine call_repr_slot (by omega) ⟨o, ho, hc⟩ F.slot_tuple_repr ?_
    exact call_tuple_reprK ho hc hd hna (by simpa using hk) hg (fun b _ => Clear.nil b) (by show X.A.units + 1 + _ < cLine; omega) (fun _ _ e => e) (fun h' t tk hk => ⟨_, _, rfl, fin h' t tk hk⟩) hz'
  | @dic a e =>
    obtain rfl : u = Value.ref a := r1
    obtain ⟨_, hsys, vs, rel, o, es, ep, ho, hx, hd, _, hp, _⟩ := I.hok a _ e
    cases rel
    have hes : es = #[] := by
      obtain ⟨l⟩ := es
      have : l = [] := by
        cases l with
        | nil => rfl
        | cons y l => exact nomatch hp
      rw [this]
    subst hes
    simp only [PyData.shown, PyData.shownKv] at fin hz
    refine call_repr_slot (by omega) ⟨o, ho, hx.1⟩ F.slot_dict_repr ?_
    exact call_dict_reprK (as := []) (d := 0) ho hx.1 hd hsys (fun h => nomatch h) .nil hg (fun b _ => Clear.nil b) (by show X.A.units + 1 + _ < cLine; omega) (fun _ _ e => e) (fun h' t tk hk => ⟨_, _, rfl, fin h' t tk hk⟩) hz
end Kr
namespace Kr
open PySem PySem.Spec PyProof.Rows L2
/-! ### defs that are called where no repr is under way -/
structure FnG (P : Program) (w : World) (K : PySem.W.Frag) (mg : Str → Option Value) (base : Heap) (CX : CXT) (k : Nat) (f : Addr) (fd : FuncData) (ps : List Str) (sp : Sp) : Prop where
  len : ∀ vs H Q E, sp vs H Q E → vs.length = ps.length
  run : ∀ (A : Around) (outer : List Env) (s : Shared) (H : Hp) (args : Args) (us : List Value) (vs : List V) (Q : VK) (E : XK), A.guards = some [] → Room k A → Env0 P w K mg base A outer s H → BindsTo s fd args (ps.zip us) → Vals vs us → sp vs H Q E →
    codeAny (model P w) A (.call (.ref f) args) (CR CX outer P w H s Q E) s
section
variable {P : Program} {w : World} {K : PySem.W.Frag} {mg : Str → Option Value} {base : Heap} {CX : CXT}
theorem FnG.mono {j k : Nat} {f : Addr} {fd : FuncData} {ps : List Str} {sp : Sp} (F : FnG P w K mg base CX j f fd ps sp) (h : j ≤ k) : FnG P w K mg base CX k f fd ps sp :=
  ⟨F.len, fun A outer s H args us vs Q E hg hr => F.run A outer s H args us vs Q E hg (hr.mono h)⟩
/-- by the body, as Fun.ok; the body is told that no repr is under way -/
theorem okG {x qual : Str} {st : Stmt} {f : Addr} {fd : FuncData} {N ps : List Str} {k : Nat} {sp : Sp} (F : Fun K x qual st f fd) (S : FnScope N ps (defScope st)) (len : ∀ vs H Q E, sp vs H Q E → vs.length = ps.length)
    (hbody : ∀ (cdv : Value) (A : Around) (outer : List Env) (s : Shared) (H : Hp) (vs : List V) (Q : VK) (E : XK), (A.deeper (envOfC qual (defScope st) s.heap.objs.size f cdv)).guards = some [] → Room k (A.deeper (envOfC qual (defScope st) s.heap.objs.size f cdv)) → sp vs H Q E →
      ∃ t, PSs (cxOf CX0 P w K mg base N qual (defScope st) f cdv A outer s H E).nox (defBody st) t ∧ t { nx := fun _ H' => Q .non H', rt := Q } (start N vs) H) : FnG P w K mg base CX0 (k + 1) f fd ps sp := by
  obtain ⟨oc, od, kV, doc, pm, an, cdv, ct, osl, rfl, lk, hcd⟩ := F.ex
  refine ⟨len, fun A outer s H args us vs Q E hg hr e0 hb r hsp => ?_⟩
  have KX : K.In s.heap := e0.mod.kin.keeps fun b o e => (e0.bs b o e).1
  have lim : s.heap.NoLimit := e0.mod.nolimit.keeps fun b o e => (e0.bs b o e).1
  refine codeAny_call_function hr.depth (KX _ _ lk) rfl S.co S.gen rfl (PySem.W.codeRec_of KX hcd) (hb _ _ _ _ ?_)
  have kinds : ∀ y ∈ ps.zip us, (defScope st).names.lookup y.1 = some .local ∨ ((defScope st).names.lookup y.1 = some .cell ∧ ((cellsFrom (s.heap.objs.size + 1) (defScope st).names []).lookup y.1).isSome = true) := by
    rintro ⟨n, v⟩ hy
    rcases S.par n (List.of_mem_zip hy).1 with q | q
    · exact .inl q
    · exact .inr ⟨q, PySem.W.cellsFrom_some _ _ _ (.inl q)⟩
  refine wpAny_newFunctionEnv_cells S.kind kinds fun env he s1 x => ?_
  subst he
  refine ⟨lim.keeps x.toInCall.keep, codeAny_func ?_⟩
  obtain ⟨t, ht, hq⟩ := hbody cdv A outer s H vs Q E (by first | exact hg | simpa [Around.deeper] using hg) (hr.deeper _) hsp
  have I : Inv (cxOf CX0 P w K mg base N qual (defScope st) f cdv A outer s H E) [] (start N vs) H s1 := inv_start S hr.hd e0 (len _ _ _ _ hsp) r x
  refine wpAny_mono (ht.nox.run [] s1 (start N vs) H _ I hq) (fun fl s' hs => ?_) fun e s' hs => hs
  cases fl with
  | ret u =>
    obtain ⟨v, σ', H', J, rv, q⟩ := hs
    exact ⟨v, H', J.os, J.bare, J.base, J.hok, rv, q⟩
  | next =>
    obtain ⟨σ', H', J, q⟩ := hs
    exact ⟨.non, H', J.os, J.bare, J.base, J.hok, rfl, q⟩
  | brk => exact hs.elim fun _ h => h.elim fun _ h => h.2.elim
  | cont => exact hs.elim fun _ h => h.elim fun _ h => h.2.elim
end
section
variable {X : Cx} {CX : CXT} {k : Nat} {f : Addr} {fd : FuncData} {ps : List Str} {sp : Sp} {dvs : List V} {ds : List Value} {E : XK} {x : Str} {p pos : Pos} {e : Expr} {es : List Expr} {t : TA}
/-- such a def's call, from a body of the same kind -/
theorem pe_callG (F : FnG X.prog X.w X.K X.mg X.base CX k f fd ps sp) (gd : X.A.guards = some []) (hr : Room k X.A) (hg : Gl X x) (hm : X.mg x = some (.ref f)) (hk : PySem.W.keepIn X.K (.ref f) = true) (hb : Binds X.K fd ps ds) (hd : Vals dvs ds) (hx : Passes CX X E)
    (ha : PA X (e :: es) t) (hdb : (x == ("__debug__" : Str)) = false := by decide) (he : starEach (e :: es) X.env = (false, eval e X.env) :: starEach es X.env := by rfl) (hpl : (backTo pos (starEach es X.env)).any (·.1) = false := by rfl) :
    PE X (.Call (.Name x p) (e :: es) [] pos) (tCall sp dvs E t) := by
  refine ⟨fun pins s σ H Q I h => wpAny_Call_Name_kw (ld_glob I hg hm ?_ hdb)⟩
  refine PySem.W.callWith_K (h₀ := X.base) I.ok.mod.kin hk (thn (ha.run pos pins s σ H _ I h) fun us s1 ⟨vs, H1, I1, r, q⟩ => ⟨I1.kIn, ?_⟩) he hpl
  have r2 : Vals (vs ++ dvs) (us ++ ds) := r.append hd
  have hl : (us ++ ds).length = ps.length := r2.length.symm.trans (F.len _ _ _ _ q)
  refine wpAny_call (codeAny_mono (F.run X.A X.stack s1 H1 ⟨us, []⟩ (us ++ ds) (vs ++ dvs) Q E gd hr I1.env0 (hb s1 us I1.kIn hl) r2 q) fun r s' hq => ?_)
  cases r with
  | error e => exact hx pins σ H1 s1 e s' I1 hq
  | ok fl =>
    cases fl with
    | ret u => exact I1.after hq
    | next => exact hq.elim
    | brk => exact hq.elim
    | cont => exact hq.elim
end

/-! ### the head: the law is called where nothing is under way -/
theorem law_callG {P : Program} {w : World} {K : PySem.W.Frag} {mg mb : Str → Option Value} {k : Nat} {fa a : Addr} {fd : FuncData} {x : Str} {sp : Sp} {s₁ : Shared} {vs : List Value} {ns : List Int}
    (KX : K.In s₁.heap) (hns : s₁.heap.Ns mainGlobals mg) (hb : s₁.heap.Ns builtinsNs mb) (hbb : ∀ x : Str, x ≠ "__name__" → mb x = bootBuiltins x) (hlim : s₁.heap.NoLimit) (hg : s₁.gens = #[])
    (ha : s₁.heap.get? a = some { cls := .type "list", data := .seq vs.toArray }) (hi : IntsAre vs ns) (hl : ns.length ≤ sizeLine) (hr : Room k callerA)
    (F : ∀ base : Heap, K.In base → base.Ns mainGlobals mg → FnG P w K mg base CX0 k fa fd [x] sp) (hbind : ∀ (s : Shared) (u : Value), BindsTo s fd ⟨[u], []⟩ [(x, u)])
    (hsp : ∀ H : Hp, Only H → SqL K H a (ns.map V.int) → sp [.ref a] H (fun v _ => v = .bl true) fun _ _ _ => False) :
    codeAny (model P w) callerA (.call (.ref fa) ⟨[.ref a], []⟩) (fun r s' => r = .ok (.ret (.bool true)) ∧ OldK s₁.heap s'.heap ∧ s'.os = s₁.os ∧ AllBare s'.gens) s₁ := by
  have rv := vals_ints hi
  have lenV := hi.length
  have step : ∀ H : Hp, Only H → SqL K H a (ns.map V.int) → HOk P w H s₁.heap → (∀ b, H b ≠ none → b = a) → (H a ≠ none → K.lookup a = none) →
      codeAny (model P w) callerA (.call (.ref fa) ⟨[.ref a], []⟩) (fun r s' => r = .ok (.ret (.bool true)) ∧ OldK s₁.heap s'.heap ∧ s'.os = s₁.os ∧ AllBare s'.gens) s₁ := by
    intro H hO hS hok only hK
    have free : ∀ {b : Addr} {o : Obj}, s₁.heap.get? b = some o → (b = a → H b = none) → (hidT s₁.heap H).get? b = some o := fun {b o} e n => hidT_get e (by
      cases q : H b with
      | none => rfl
      | some u => rw [n (only b (by rw [q]; simp))] at q; cases q)
    have ns2 : ∀ {b : Addr} {m : Str → Option Value}, s₁.heap.Ns b m → (hidT s₁.heap H).Ns b m := by
      rintro b m ⟨o, es, ep, e, d, r⟩
      refine ⟨o, es, ep, free e fun z => ?_, d, r⟩
      subst z
      rw [ha] at e
      cases e
      cases (show Data.seq vs.toArray _ = Data.dict es ep from d)
    have kin : K.In (hidT s₁.heap H) := fun b o e => free (KX b o e) fun z => by
      subst z
      cases q : H b with
      | none => rfl
      | some u => rw [hK (by rw [q]; simp)] at e; cases e
    have md : Mod K mg (hidT s₁.heap H) := ⟨kin, ns2 hns, ⟨mb, ns2 hb, hbb⟩, hlim.elim fun mc h => ⟨mc, ns2 h.1, h.2⟩⟩
    have e0 : Env0 P w K mg (hidT s₁.heap H) callerA [] s₁ H :=
      ⟨rfl, md, fun b o e => of_hidT e, Nat.le_of_eq (hidT_size _ _), trivial, fun b hb => absurd (show b ∈ ([] : List Addr) from hb) (by simp), hok, .of_eq hg⟩
    refine codeAny_mono ((F _ kin (ns2 hns)).run callerA [] s₁ H ⟨[.ref a], []⟩ [.ref a] [.ref a] _ _ rfl hr e0 (hbind s₁ (.ref a)) (.cons rfl .nil) (hsp H hO hS)) fun r s' h => ?_
    cases r with
    | error e => exact h.elim
    | ok fl =>
      cases fl with
      | next => exact h.elim
      | brk => exact h.elim
      | cont => exact h.elim
      | ret u =>
        obtain ⟨v, H', os, bare, un, hok', r', q⟩ := h
        obtain rfl : v = .bl true := q
        obtain rfl : u = Value.bool true := r'
        refine ⟨rfl, OldK.of_keep fun b o e => ?_, os, bare⟩
        rcases hO b with z | ⟨ob, xs, z⟩
        · exact un.keep b o e z (fun q => absurd (show b ∈ ([] : List Addr) from q) (by simp)) (by simp)
        · have e1 := (hok b _ z).1
          have e2 := (hok' b _ (un.frzs b ob _ z)).1
          rw [e] at e1
          cases e1
          exact e2
  cases hk : K.lookup a with
  | some o =>
    have e := KX a o hk
    rw [ha] at e
    cases e
    exact step (fun _ => none) (fun _ => .inl rfl) (.inr ⟨_, vs.toArray, _, hk, rfl, rfl, rfl, by rw [List.size_toArray, lenV]; exact hl, by simpa using rv⟩) (fun b u z => nomatch (show (none : Option HO) = some u from z)) (fun b z => absurd rfl z) fun z => absurd rfl z
  | none =>
    refine step (fun b => if b = a then some (.frz { cls := .type "list", data := .seq vs.toArray } (.lst (ns.map V.int))) else none) (fun b => ?_) (.inl (.inr ⟨_, if_pos rfl⟩)) (fun b u z => ?_) (fun b z => ?_) fun _ => hk
    · by_cases q : b = a
      · exact .inr ⟨_, _, if_pos q⟩
      · exact .inl (if_neg q)
    · by_cases q : b = a
      · cases (if_pos q).symm.trans z
        subst q
        exact ⟨ha, by rw [List.length_map]; exact hl, vs, _, rv, ha⟩
      · cases (if_neg q).symm.trans z
    · by_cases q : b = a
      · exact q
      · exact absurd (if_neg q) z
theorem walkG {l : PySem.W.OpenLaw} {n k : Nat} {q : Program} {loose : List Str} {XP : (Str → Option Value) → Heap → Prop} {YP : World → Heap → Prop} {d : DefRec} {K : Params → PySem.W.Frag} {sp : PySem.W.Frag → Sp} {x : Str}
    (hn : l.most = some n) (hn2 : n ≤ sizeLine) (hdf : d.params.defaults = []) (hr : Room k callerA) (hY : ∀ (w : World) (h : Heap), YP w h → (K w.params).In h)
    (F : ∀ (w : World) (mg : Str → Option Value) (fa : Addr) (h : Heap), (K w.params).In h → h.Ns mainGlobals mg → mg d.name = some (.ref fa) →
      ∃ fd : FuncData, (∀ (s : Shared) (u : Value), BindsTo s fd ⟨[u], []⟩ [(x, u)]) ∧ ∀ base : Heap, (K w.params).In base → base.Ns mainGlobals mg → FnG l.prog w (K w.params) mg base CX0 k fa fd [x] (sp (K w.params)))
    (hsp : ∀ (K : PySem.W.Frag) (H : Hp) (a : Addr) (ns : List Int), ns.length ≤ n → Only H → SqL K H a (ns.map V.int) → sp K [.ref a] H (fun v _ => v = .bl true) fun _ _ _ => False) :
    PySem.W.WalkO q loose XP YP l.row.toRowW d [] (fun f vs => PySem.call f vs) := by
  refine Att.attach_call hn hdf fun w s₀ s₁ mg mb fa o pm cd doc a vs ns G Y ho hd hcd hmg hobj hints hlen hg => ?_
  obtain ⟨fd, hb, hF⟩ := F w mg fa _ (hY w _ Y) G.T.g hmg
  exact law_callG (hY w _ Y) G.T.g G.T.b G.T.builtins G.T.nolimit hg hobj hints (Nat.le_trans hlen hn2) hr hF hb fun H hO hS => hsp _ H a ns hlen hO hS
end Kr
namespace Kr
open PySem PySem.Spec PyProof.Rows L2
/-- f(k = v, ..), names alone: how they bind -/
theorem kbn_of {K : PySem.W.Frag} {x qual : Str} {st : Stmt} {f : Addr} {fd : FuncData} {ps ks : List Str} (F : Fun K x qual st f fd) (g : {α : Type} → List α → List α)
    (hrel : ∀ {zs : List V} {ws : List Value}, Vals zs ws → Vals (g zs) (g ws))
    (h : ∀ (kV doc pm : Value) (an : Option Addr) (cdv ct : Value) (ws : List Value), ws.length = ks.length → bindArgs (PySem.W.fnOf x qual (defArgs st) (defBody st) (defScope st) .none kV doc pm an cdv ct) ⟨[], ks.zip ws⟩ = pure (ps.zip (g ws))) :
    KBn K fd ps 0 ks (fun _ ws => g ws) (fun _ zs => g zs) := by
  obtain ⟨oc, od, kV, doc, pm, an, cdv, ct, osl, rfl, lk, hcd⟩ := F.ex
  refine ⟨fun s us ws _ hu hw => ?_, fun _ r => hrel r⟩
  obtain rfl : us = [] := List.length_eq_zero_iff.mp hu
  exact .of_eq (h kV doc pm an cdv ct ws hw)
theorem vals_swap {zs : List V} {ws : List Value} (r : Vals zs ws) : Vals zs.reverse ws.reverse := r.reverse
section
variable {X : Cx} {CX : CXT} {k : Nat} {f : Addr} {fd : FuncData} {ps ks : List Str} {sp : Sp} {E : XK} {x : Str} {p pos : Pos} {kws : List Keyword} {tk : TA} {g : List Value → List Value → List Value} {gV : List V → List V → List V}
def tCallN (m : Nat) (sp : Sp) (gV : List V → List V → List V) (E : XK) (tk : TA) : TE := fun σ H Q => tk σ H fun zs H1 => zs.length = m ∧ sp (gV [] zs) H1 Q E
theorem pe_callN (F : FnOk X.prog X.w X.K X.mg X.base CX k f fd ps sp) (hr : Room k X.A) (hg : Gl X x) (hm : X.mg x = some (.ref f)) (hk : PySem.W.keepIn X.K (.ref f) = true) (hb : KBn X.K fd ps 0 ks g gV) (hx : Passes CX X E) (hkw : PK X kws tk)
    (hall : (backToKw pos (keywordEach kws X.env)).all (·.1.isSome) = true := by rfl) (hks : (backToKw pos (keywordEach kws X.env)).filterMap (·.1) = ks := by rfl) (hdb : (x == ("__debug__" : Str)) = false := by decide)
    (hpl : ((backTo pos (starEach [] X.env)).any (·.1) || (backToKw pos (keywordEach kws X.env)).any (·.1.isNone)) = false := by rfl) :
    PE X (.Call (.Name x p) [] kws pos) (tCallN ks.length sp gV E tk) := by
  refine ⟨fun pins s σ H Q I h => wpAny_Call_Name_kw (ld_glob I hg hm ?_ hdb)⟩
  refine PySem.W.callWith_KW0 (h₀ := X.base) I.ok.mod.kin hk hall ?_ hpl
  refine thn (hkw.run pos pins s σ H _ I h) fun ws s2 ⟨zs, H2, I2, rz, l2, q2⟩ => ⟨I2.kIn, ?_⟩
  rw [hks]
  have r2 := hb.rel .nil rz
  refine wpAny_call (codeAny_mono (F.run X.A X.stack s2 H2 ⟨[], ks.zip ws⟩ (g [] ws) (gV [] zs) _ E hr I2.env0 (hb.to s2 [] ws I2.kIn rfl (rz.length.symm.trans l2)) r2 q2) fun r s' hq => ?_)
  cases r with
  | error e => exact hx pins σ _ _ e s' I2 hq
  | ok fl =>
    cases fl with
    | ret u => exact I2.after hq
    | next => exact hq.elim
    | brk => exact hq.elim
    | cont => exact hq.elim
end
end Kr
namespace Kr
open PySem L2
def top (i : Nat) : Stmt := PySem.Challenge.pw_keyriders_k02_whole_lots_and_their_numbe.main.body.getD i (.Pass ⟨0, 0, 0, 0⟩)
abbrev sLotsOf : Stmt := top 7
abbrev sAllLots : Stmt := top 8
abbrev sLotNum : Stmt := top 9
abbrev sLotAt : Stmt := top 10
abbrev sOfSize : Stmt := top 11
abbrev sDeck : Stmt := top 13
abbrev sDraw : Stmt := top 14
abbrev sPick : Stmt := top 15
abbrev sMixed : Stmt := top 16
abbrev sChosen : Stmt := top 17
abbrev sLLots : Stmt := top 18
abbrev sLNum : Stmt := top 19
abbrev sLAll : Stmt := top 20
abbrev sLAt : Stmt := top 21
abbrev sSmall : Stmt := top 22
abbrev sGreat : Stmt := top 23
abbrev sWide : Stmt := top 24
abbrev sLaw : Stmt := top 25
end Kr
namespace Kr
open PySem PySem.Spec PyProof.Rows L2
/-! ### the deck: a dict of a list and a number, apart from all else -/
def hid (p l : Addr) (H : Hp) : Hp := fun b => if b = p ∨ b = l then none else H b
theorem hid_ne {p l b : Addr} {H : Hp} (h1 : b ≠ p) (h2 : b ≠ l) : hid p l H b = H b := by
  unfold hid
  rw [if_neg (fun h => h.elim h1 h2)]
theorem hid_some {p l b : Addr} {H : Hp} {o : HO} (h : hid p l H b = some o) : b ≠ p ∧ b ≠ l ∧ H b = some o := by
  unfold hid at h
  by_cases e : b = p ∨ b = l
  · rw [if_pos e] at h
    cases h
  · rw [if_neg e] at h
    exact ⟨fun z => e (.inl z), fun z => e (.inr z), h⟩
theorem hid_same (p l : Addr) (H : Hp) : Same (hid p l H) H := fun _ _ h => (hid_some h).2.2
abbrev Ext (p l : Addr) (H H' : Hp) : Prop := Same (hid p l H) (hid p l H')
theorem Ext.of {p l : Addr} {H H' : Hp} (s : Same H H') : Ext p l H H' := fun b o h => by
  obtain ⟨h1, h2, h3⟩ := hid_some h
  rw [hid_ne h1 h2]
  exact s _ _ h3
theorem Ext.rfl {p l : Addr} {H : Hp} : Ext p l H H := Same.refl _
abbrev kD : Key := Sum.inr ("deep" : Str)
abbrev kS : Key := Sum.inr ("state" : Str)
theorem kDS : ¬ kD = kS := by
  intro z
  exact absurd (Sum.inr.inj z) (by decide +kernel)
def dkv (x y : V) : List (Key × V) := [(kD, x), (kS, y)]
theorem dkv_d (x y : V) : valV (dkv x y) kD = some x := valV_pos rfl
theorem dkv_s (x y : V) : valV (dkv x y) kS = some y := (valV_neg kDS).trans (valV_pos rfl)
theorem kds : ¬ ("deep" : Str) = "state" := by decide +kernel
theorem ksd : ¬ ("state" : Str) = "deep" := by decide +kernel
theorem dkv_pd (x y z : V) : putK (dkv x y) kD z = dkv z y := by
  simp [putK, dkv, kds, ksd]
theorem dkv_ps (x y z : V) : putK (dkv x y) kS z = dkv x z := by
  simp [putK, dkv, kds, ksd]
theorem dkv_m (x y : V) : mergeK [] [(kD, x), (kS, y)] = dkv x y := by
  simp [mergeK, putK, dkv, kds, ksd]
structure Deck (H : Hp) (p l : Addr) : Prop where
  ex : ∃ (ds : List Int) (st : Int), H p = some (.dK (dkv (.ref l) (.int st))) ∧ H l = some (.lst (ds.map V.int)) ∧ ds.length ≤ 63
theorem Deck.ne {H : Hp} {p l : Addr} (d : Deck H p l) : p ≠ l := by
  obtain ⟨ds, st, h1, h2, _⟩ := d.ex
  exact ne_of h1 h2 (by intro z; cases z)
theorem Deck.up {H H' : Hp} {p l : Addr} (d : Deck H p l) (s : Same H H') : Deck H' p l := by
  obtain ⟨ds, st, h1, h2, h3⟩ := d.ex
  exact ⟨ds, st, s _ _ h1, s _ _ h2, h3⟩
/-- a new object stands apart -/
theorem Deck.new {H : Hp} {p l q : Addr} (d : Deck H p l) (h : H q = none) : q ≠ p ∧ q ≠ l := by
  obtain ⟨ds, st, h1, h2, h3⟩ := d.ex
  exact ⟨(ne_of_none h1 h).symm, (ne_of_none h2 h).symm⟩
theorem same_new {H : Hp} {q : Addr} {o : HO} (h : H q = none) : Same H (upd H q o) := fun b x e => by
  rw [upd_ne (ne_of_none e h)]
  exact e
theorem hid_upd {H : Hp} {p l q : Addr} {o : HO} (h1 : q ≠ p) (h2 : q ≠ l) : hid p l (upd H q o) q = some o := by
  rw [hid_ne h1 h2, upd_same]
/-- the names of the built-ins are theirs -/
structure Bi (mg : Str → Option Value) : Prop where
  len : mg "len" = none
  abs : mg "abs" = none
  int : mg "int" = none
  tuple : mg "tuple" = none
  list : mg "list" = none
  range : mg "range" = none
  zip : mg "zip" = none
  repr : mg "repr" = none
  enumerate : mg "enumerate" = none
  isinstance : mg "isinstance" = none
  sum : mg "sum" = none
  sorted : mg "sorted" = none
  comb : mg "comb" = some (.builtin "math.comb")
theorem sz {n : Nat} (h : n ≤ 100000) : n ≤ sizeLine := Nat.le_trans h (by decide)
theorem szl {n : Nat} (h : n < 100000) : n < sizeLine := Nat.lt_of_lt_of_le h (by decide)
/-- two ways that meet again -/
theorem join2 {c A : Prop} [Decidable c] {G R : Hp → Prop} {H2 : Hp} (tail : ∀ H3, R H3 → G H3) (h2 : ¬ c → R H2) (h1 : c → (∀ H3, R H3 → G H3) → A) : if c then A else G H2 :=
  ite2 (fun h => h1 h tail) fun h => tail _ (h2 h)
def spDeck (K : PySem.W.Frag) : Sp := fun vs H Q _ => ∃ (a : Addr) (ns : List Int), vs = [.ref a] ∧ SqL K H a (ns.map V.int) ∧ ns.length ≤ 1000 ∧ ∀ H' p l, Same H H' → H p = none → H l = none → Deck H' p l → Q (.ref p) H'
section
variable {P : Program} {w : World} {K : PySem.W.Frag} {mg : Str → Option Value} {base : Heap}
theorem scDeck : FnScope ["script", "deck", "cell", "whole", "state"] ["script"] (defScope sDeck) := ⟨rfl, rfl, rfl, by decide +kernel, rfl, by decide +kernel, by decide +kernel⟩
theorem ok_deck {f : Addr} {fd : FuncData} {k : Nat} (F : Fun K "_law_deck" "_law_deck" sDeck f fd) (B : Bi mg) : FnOk P w K mg base CX0 (k + 1) f fd ["script"] (spDeck K) := by
  refine F.ok scDeck (fun vs H Q E h => ?_) (fun cdv A outer s H vs Q E hr h => ?_)
  · obtain ⟨a, ns, rfl, _⟩ := h
    rfl
  · obtain ⟨a, ns, rfl, hS, hlen, q⟩ := h
    have hu := hu_of hr
    refine ⟨_, pss_cons (ps_set (i := 1) scDeck.nd rfl (.inl rfl) (pe_disp (pps_cons pe_str (pe_lst pa_nil) (pps_cons pe_str (pe_op op_add pe_int (pe_callB call_len_seq (by rfl) B.len boot_len (pa_cons (pe_slice sl_list (pv 0) po_none (po_some pe_int)) pa_nil))) pps_nil)) (by rfl) (by rfl) (fun z => by cases z) (by decide)))
      (pss_cons (ps_for PassesOwn.never rfl (pi_list (pe_slice sl_list (pv 0) po_none (po_some pe_int))) (pg_name (i := 2) scDeck.nd rfl (.inl rfl))
        (pss_cons (ps_set (i := 3) scDeck.nd rfl (.inl rfl) (pe_callB call_abs (by rfl) B.abs (by decide +kernel) (pa_cons (pv 2) pa_nil)))
        (pss_cons (ps_if (pt_cmpR op_ge (pv 3) (pe_op op_pow pe_int pe_int) (nomark _)) (pss_one (ps_dput hu (pv 1) pe_str (pe_op op_cat (pe_lst (pa_cons (pv 3) pa_nil)) (pe_dget hu (pv 1) pe_str (fun _ _ => rfl))) rfl)) pss_nil)
        (pss_cons (ps_set (i := 4) scDeck.nd rfl (.inl rfl) (pe_op op_add (pe_op op_mul (pe_op op_add (pe_op op_add (pe_op op_add (pe_dget hu (pv 1) pe_str (fun _ _ => rfl)) (pe_op op_mul pe_int (pv 3))) (pe_callTy call_int1 (by rfl) B.int (by decide +kernel) (pa_cons (pe_cmpR op_lt (pv 2) pe_int (nomark _)) pa_nil))) pe_int) pe_int) pe_int))
        (pss_one (ps_dput hu (pv 1) pe_str (pe_op op_mod (pe_callTy call_int1 (by rfl) B.int (by decide +kernel) (pa_cons (pv 4) pa_nil)) pe_int) rfl))))))
      (pss_one (ps_ret (pv 1)))), ?_⟩
    -- deck = {'deep': [], 'state': .. + len(script[:63])}
    intro p np
    refine ⟨Nat.zero_le _, fun l nl => ?_⟩
    have s0 : Same H (upd (upd H p (.dK [])) l (.lst [])) := (same_new np).trans (same_new nl)
    have nlp : l ≠ p := fun z => by rw [z, upd_same] at nl; cases nl
    have nl0 : H l = none := by rw [upd_ne nlp] at nl; exact nl
    refine ⟨.ref a, rfl, 63, rfl, a, _, rfl, s0.seq hS, fun c nc => ?_⟩
    have ncp : c ≠ p := fun z => by rw [z, upd_ne nlp.symm, upd_same] at nc; cases nc
    have ncl : c ≠ l := fun z => by rw [z, upd_same] at nc; cases nc
    refine ⟨c, _, rfl, .inl (SqL.of upd_same), _, _, rfl, rfl, ?_⟩
    refine ⟨by rw [upd_ne ncp.symm, upd_ne nlp.symm, upd_same], [(kD, V.ref l), (kS, V.int _)], rfl, by show 2 ≤ 15; decide, ?_⟩
    rw [dkv_m]
    generalize (1278709 + ((cutV (ns.map V.int) none (some 63)).length : Int)) = st0
    -- the loop
    have s1 : Same (upd (upd H p (.dK [])) l (.lst [])) (upd (upd (upd H p (.dK [])) l (.lst [])) c (.lst (cutV (ns.map V.int) none (some 63)))) := same_new nc
    generalize hH1 : upd (upd (upd H p (.dK [])) l (.lst [])) c (.lst (cutV (ns.map V.int) none (some 63))) = H1 at s1
    have l1 : H1 l = some (.lst []) := s1 _ _ upd_same
    have s2 : Same H (upd H1 p (.dK (dkv (.ref l) (.int st0)))) := fun b o e => by
      rw [upd_ne (ne_of_none e np)]
      exact s1 _ _ (s0 _ _ e)
    refine ⟨.ref a, rfl, 63, rfl, a, _, rfl, s2.seq hS, fun c2 nc2 => ?_⟩
    obtain ⟨ms, e63, hlen⟩ : ∃ ms : List Int, cutV (ns.map V.int) none (some 63) = ms.map V.int ∧ ms.length ≤ 63 := by
      refine ⟨ns.take 63, ?_, by rw [List.length_take]; omega⟩
      unfold cutV
      rw [HT.sIx_none, show HT.sIx (ns.map V.int).length (ns.map V.int).length (some 63) = min 63 (ns.map V.int).length from HT.sIx_nat _ _ 63, List.drop_zero, Nat.sub_zero, List.length_map, List.map_take]
      rcases Nat.le_total 63 ns.length with h | h
      · rw [Nat.min_eq_left h]
      · rw [Nat.min_eq_right h, List.take_of_length_le (by rw [List.length_map]; exact Nat.le_refl _), List.take_of_length_le (by rw [List.length_map]; exact h)]
    rw [e63]
    have c2p : c2 ≠ p := fun z => by rw [z, upd_same] at nc2; cases nc2
    have c2l : c2 ≠ l := fun z => by rw [z, upd_ne nlp, l1] at nc2; cases nc2
    refine ⟨c2, rfl, ⟨_, SqL.of upd_same⟩, for_list (K := K) (a := c2) (xs := ms.map V.int) (fun i σ H2 => ∃ v2 v3 v4 l ds st, σ = [some (.ref a), some (.ref p), v2, v3, v4] ∧ Same H H2 ∧ H2 c2 = some (.lst (ms.map V.int)) ∧ H2 p = some (.dK (dkv (.ref l) (.int st))) ∧ H2 l = some (.lst (ds.map V.int)) ∧ ds.length ≤ i ∧ H l = none ∧ c2 ≠ l)
      ⟨none, none, none, l, [], st0, rfl, s2.trans (same_new nc2), upd_same, by rw [upd_ne c2p.symm, upd_same], by rw [upd_ne c2l.symm, upd_ne nlp, l1]; rfl, Nat.le_refl _, nl0, c2l⟩ (fun i σ H2 _ ⟨_, _, _, _, _, _, _, _, h, _⟩ => SqL.of h) ?_ ?_⟩
    · rintro i y σ H2 hi ⟨v2, v3, v4, l, ds, st, rfl, sm, hc, hp, hl, hd, nl, ncl⟩
      have hil : i < ms.length := by
        have := (List.getElem?_eq_some_iff.mp hi).1
        rw [List.length_map] at this
        exact this
      obtain ⟨z, rfl⟩ : ∃ z, y = V.int z := by
        rw [List.getElem?_map] at hi
        cases e : ms[i]? with
        | none => rw [e] at hi; cases hi
        | some z => rw [e] at hi; exact ⟨z, (Option.some.inj hi).symm⟩
      have nlp : l ≠ p := ne_of hl hp (by intro z; cases z)
      refine ⟨.int z, rfl, z, rfl, ?_⟩
      generalize (if z < 0 then -z else z) = wz
      refine ⟨.int wz, rfl, _, _, rfl, rfl, ⟨by decide, by decide, by decide⟩, wz, _, rfl, rfl, _, rfl, ?_⟩
      refine join2 (H2 := H2) (R := fun H3 => ∃ (l3 : Addr) (ds3 : List Int), Same H H3 ∧ H3 c2 = some (.lst (ms.map V.int)) ∧ H3 p = some (.dK (dkv (.ref l3) (.int st))) ∧ H3 l3 = some (.lst (ds3.map V.int)) ∧ ds3.length ≤ i + 1 ∧ H l3 = none ∧ c2 ≠ l3 ∧ l3 ≠ p)
        (fun H3 hR => ?_) (fun _ => ⟨l, ds, sm, hc, hp, hl, by omega, nl, ncl, nlp⟩) (fun _ tail => ?_)
      rotate_left
      · refine ⟨.int wz, rfl, by show 1 ≤ sizeLine; decide, fun l1 nl1 => ⟨.ref p, rfl, p, .ref l, rfl, ?_⟩⟩
        have n1p : l1 ≠ p := (ne_of_none hp nl1).symm
        have n1l : l1 ≠ l := (ne_of_none hl nl1).symm
        have n1c : l1 ≠ c2 := (ne_of_none hc nl1).symm
        have hp1 : upd H2 l1 (.lst [.int wz]) p = some (.dK (dkv (.ref l) (.int st))) := by rw [upd_ne n1p.symm]; exact hp
        refine ⟨by rw [← dkv_d (.ref l) (.int st)]; exact DGet.k (k := kD) hp1, l1, l, _, _, rfl, rfl, upd_same, by rw [upd_ne n1l.symm]; exact hl, by rw [List.length_map]; exact sz (by show 1 + ds.length ≤ 100000; omega), fun l2 nl2 => ?_⟩
        have n2p : l2 ≠ p := (ne_of_none hp1 nl2).symm
        have n2c : l2 ≠ c2 := fun z => by rw [z, upd_ne n1c.symm, hc] at nl2; cases nl2
        have sm2 : Same H (upd (upd H2 l1 (.lst [.int wz])) l2 (.lst ([.int wz] ++ ds.map V.int))) := (sm.trans (same_new nl1)).trans (same_new nl2)
        have hp2 : (upd (upd H2 l1 (.lst [.int wz])) l2 (.lst ([.int wz] ++ ds.map V.int))) p = some (.dK (dkv (.ref l) (.int st))) := by rw [upd_ne n2p.symm]; exact hp1
        refine ⟨.ref p, rfl, p, _, rfl, DPut.k (k := kD) hp2 (by show 2 < sizeLine; decide), ?_⟩
        rw [dkv_pd]
        have nl2' : H l2 = none := (sm.trans (same_new nl1)).free nl2
        refine tail (upd (upd (upd H2 l1 (.lst [.int wz])) l2 (.lst ([.int wz] ++ ds.map V.int))) p (.dK (dkv (.ref l2) (.int st)))) ⟨l2, wz :: ds, (fun b o e => by rw [upd_ne (ne_of_none e np)]; exact sm2 _ _ e), ?_, upd_same, ?_, (by rw [List.length_cons]; omega), nl2', n2c.symm, n2p⟩
        · rw [upd_ne c2p, upd_ne n2c.symm, upd_ne n1c.symm]
          exact hc
        · rw [upd_ne n2p, upd_same]
          rfl
      · obtain ⟨l3, ds3, sm3, hc3, hp3, hl3, hd3, nl3, ncl3, nlp3⟩ := hR
        refine ⟨.ref p, rfl, p, .int st, rfl, by rw [← dkv_s (.ref l3) (.int st)]; exact DGet.k (k := kS) hp3, ?_⟩
        refine ⟨.int wz, rfl, 2, wz, rfl, rfl, .inl ⟨by decide, by decide⟩, st, 2 * wz, rfl, rfl, ?_⟩
        refine ⟨.int z, rfl, z, 0, rfl, rfl, .inr ⟨_, rfl, ?_⟩⟩
        refine ⟨_, _, rfl, rfl, _, 1, rfl, rfl, _, 1181783497276652981, rfl, rfl, .inr ⟨by decide, by decide⟩, _, 521288629, rfl, rfl, ?_⟩
        refine ⟨_, rfl, .inl ⟨_, rfl, ?_⟩⟩
        refine ⟨_, 2305843009213693951, rfl, rfl, by show (0 : Int) < 2305843009213693951; decide, .ref p, rfl, p, _, rfl, DPut.k (k := kS) hp3 (by show 2 < sizeLine; decide), ?_⟩
        rw [dkv_ps]
        refine ⟨_, _, _, l3, ds3, _, rfl, fun b o e => ?_, ?_, upd_same, ?_, hd3, nl3, ncl3⟩
        · rw [upd_ne (ne_of_none e np)]
          exact sm3 _ _ e
        · rw [upd_ne c2p]
          exact hc3
        · rw [upd_ne nlp3]
          exact hl3
    · rintro σ H2 ⟨v2, v3, v4, l, ds, st, rfl, sm, hc, hp, hl, hd, nl, ncl⟩
      rw [List.length_map] at hd
      exact ⟨.ref p, rfl, q H2 p l sm np nl ⟨ds, st, hp, hl, by omega⟩⟩
end
end Kr
namespace Kr
open PySem PySem.Spec PyProof.Rows L2
def spDraw : Sp := fun vs H Q _ => ∃ (p l : Addr) (m : Int), vs = [.ref p, .int m] ∧ Deck H p l ∧ m < 1073741824 ∧ ∀ H' r, Deck H' p l → Ext p l H H' → 0 ≤ r → (r < m ∨ r = 0) → Q (.int r) H'
theorem dp_ints {K : PySem.W.Frag} {H : Hp} : ∀ ds : List Int, DpAll K H (ds.map V.int) (ds.map PyData.int)
  | [] => .nil
  | d :: ds => .cons (.int d) (dp_ints ds)
theorem lay_ints : ∀ ds : List Int, PyData.canLayAll0 (ds.map PyData.int) = true
  | [] => by simp [PyData.canLayAll0]
  | d :: ds => by simp [PyData.canLayAll0, PyData.canLay0, lay_ints ds]
theorem dep_ints : ∀ ds : List Int, PyData.depthAll (ds.map PyData.int) ≤ 1
  | [] => by simp [PyData.depthAll]
  | d :: ds => by
    have := dep_ints ds
    simp [PyData.depthAll, PyData.depth]
    omega
theorem shaped_ints (ds : List Int) : SeqAt.shaped (.list (ds.map PyData.int)) = true := by
  unfold SeqAt.shaped
  have := dep_ints ds
  simp [PyData.canLay0, lay_ints ds, PyData.depth]
  omega
theorem eqv_ints_nil (ds : List Int) : PyData.eqv (.list (ds.map PyData.int)) (.list []) = decide (ds = []) := by
  cases ds <;> simp [PyData.eqv, PyData.eqvAll]
theorem Ext.new {p l q : Addr} {H H' : Hp} {o : HO} (e : Ext p l H H') (h : H' q = none) : Ext p l H (upd H' q o) := fun b x hb => by
  have h2 := e b x hb
  obtain ⟨h3, h4, h5⟩ := hid_some h2
  rw [hid_ne h3 h4, upd_ne (ne_of_none h5 h)]
  exact h5
theorem Ext.at {p l q : Addr} {H H' : Hp} {o : HO} (e : Ext p l H H') (h : q = p ∨ q = l) : Ext p l H (upd H' q o) := fun b x hb => by
  have h2 := e b x hb
  obtain ⟨h3, h4, h5⟩ := hid_some h2
  have hq : b ≠ q := fun z => h.elim (fun w => h3 (z.trans w)) fun w => h4 (z.trans w)
  rw [hid_ne h3 h4, upd_ne hq]
  exact h5
section
variable {P : Program} {w : World} {K : PySem.W.Frag} {mg : Str → Option Value} {base : Heap}
theorem scDraw : FnScope ["deck", "many", "whole", "one", "two"] ["deck", "many"] (defScope sDraw) := ⟨rfl, rfl, rfl, by decide +kernel, rfl, by decide +kernel, by decide +kernel⟩
theorem ok_draw {f : Addr} {fd : FuncData} {k : Nat} (F : Fun K "_law_draw" "_law_draw" sDraw f fd) (B : Bi mg) : FnOk P w K mg base CX0 (k + 1) f fd ["deck", "many"] spDraw := by
  refine F.ok scDraw (fun vs H Q E h => ?_) (fun cdv A outer s H vs Q E hr h => ?_)
  · obtain ⟨p, l, m, rfl, _⟩ := h
    rfl
  · obtain ⟨p, l, m, rfl, D, hm, q⟩ := h
    have hu := hu_of hr
    refine ⟨_, pss_cons (ps_if (pt_cmpR op_lt (pv 1) pe_int (nomark _)) (pss_one (ps_ret pe_int)) pss_nil)
      (pss_cons (ps_if (pt_cmpR (op_neD hr.units) (pe_dget hu (pv 0) pe_str (fun _ _ => rfl)) (pe_lst pa_nil) (nomark _))
        (pss_cons (ps_set (i := 2) scDraw.nd rfl (.inl rfl) (pe_bm0 PySem.F.plainAttrs_list PySem.F.slot_list_pop PySem.F.type_list_pop mt_pop (pe_dget hu (pv 0) pe_str (fun _ _ => rfl))))
        (pss_cons (ps_if (pt_cmpR op_ge (pv 2) (pv 1) (nomark _)) (pss_one (ps_expr (pe_bm PySem.F.plainAttrs_list PySem.F.slot_list_append PySem.F.type_list_append mt_append (pe_dget hu (pv 0) pe_str (fun _ _ => rfl)) (pa_cons (pe_op op_fdiv (pv 2) (pv 1)) pa_nil)))) pss_nil)
        (pss_one (ps_ret (pe_op op_mod (pe_callTy call_int1 (by rfl) B.int (by decide +kernel) (pa_cons (pv 2) pa_nil)) (pv 1)))))) pss_nil)
      (pss_cons (ps_set (i := 3) scDraw.nd rfl (.inl rfl) (pe_op op_mod (pe_callTy call_int1 (by rfl) B.int (by decide +kernel) (pa_cons (pe_op op_add (pe_op op_mul (pe_dget hu (pv 0) pe_str (fun _ _ => rfl)) pe_int) pe_int) pa_nil)) pe_int))
      (pss_cons (ps_dput hu (pv 0) pe_str (pv 3) rfl)
      (pss_cons (ps_set (i := 4) scDraw.nd rfl (.inl rfl) (pe_op op_mod (pe_callTy call_int1 (by rfl) B.int (by decide +kernel) (pa_cons (pe_op op_add (pe_op op_add (pe_op op_mul (pv 3) (pv 3)) (pe_op op_mul pe_int (pv 3))) pe_int) pa_nil)) pe_int))
      (pss_one (ps_ret (pe_op op_mod (pe_callTy call_int1 (by rfl) B.int (by decide +kernel) (pa_cons (pe_op op_fdiv (pv 4) pe_int) pa_nil)) (pv 1)))))))), ?_⟩
    refine ⟨.int m, rfl, m, 2, rfl, rfl, _, rfl, ite2 (fun _ => ?_) (fun hm2 => ?_)⟩
    · exact q H 0 D Ext.rfl (Int.le_refl _) (.inr rfl)
    have hm1 : ¬ m < 2 := fun z => hm2 (decide_eq_true z)
    obtain ⟨ds, st, hp, hl, hd⟩ := id D.ex
    have hgd : DGet H p (V.str "deep") (some (.ref l)) := by rw [← dkv_d (.ref l) (.int st)]; exact DGet.k (k := kD) hp
    refine ⟨.ref p, rfl, p, .ref l, rfl, hgd, by show 0 ≤ sizeLine; decide, fun e ne => ?_⟩
    have nep : e ≠ p := (ne_of_none hp ne).symm
    have nel : e ≠ l := (ne_of_none hl ne).symm
    have nlp : l ≠ p := D.ne.symm
    refine ⟨.list (ds.map PyData.int), .list [], .lst (SqL.of (by rw [upd_ne nel.symm]; exact hl)) (dp_ints ds), .lst (SqL.of upd_same) .nil, shaped_ints ds, shaped_ints [], ?_⟩
    rw [eqv_ints_nil]
    have hp1 : upd H e (.lst []) p = some (.dK (dkv (.ref l) (.int st))) := by rw [upd_ne nep.symm]; exact hp
    have hl1 : upd H e (.lst []) l = some (.lst (ds.map V.int)) := by rw [upd_ne nel.symm]; exact hl
    have E1 : Ext p l H (upd H e (.lst [])) := Ext.rfl.new ne
    generalize upd H e (.lst []) = H1 at hp1 hl1 E1
    have hgd1 : DGet H1 p (V.str "deep") (some (.ref l)) := by rw [← dkv_d (.ref l) (.int st)]; exact DGet.k (k := kD) hp1
    have hgs1 : DGet H1 p (V.str "state") (some (.int st)) := by rw [← dkv_s (.ref l) (.int st)]; exact DGet.k (k := kS) hp1
    refine ⟨_, rfl, ?_⟩
    by_cases hds : ds = []
    · -- mixed numbers
      rw [decide_eq_true hds]
      refine iteF ?_
      refine ⟨.ref p, rfl, p, .int st, rfl, hgs1, _, _, rfl, rfl, .inr ⟨by decide, by decide⟩, _, _, rfl, rfl, .inl ⟨_, rfl, _, _, rfl, rfl, (by show (0 : Int) < 2305843009213693951; decide), ?_⟩⟩
      dsimp only
      have o0 : 0 ≤ ((st * 1181783497276652981 + 88172645463325) % 2305843009213693951 : Int) := Int.emod_nonneg _ (by decide)
      have o1 : ((st * 1181783497276652981 + 88172645463325) % 2305843009213693951 : Int) < 2305843009213693951 := Int.emod_lt_of_pos _ (by decide)
      generalize ((st * 1181783497276652981 + 88172645463325) % 2305843009213693951 : Int) = one at o0 o1
      refine ⟨.int one, rfl, .ref p, rfl, p, _, rfl, DPut.k (k := kS) hp1 (by show 2 < sizeLine; decide), ?_⟩
      rw [dkv_ps]
      refine ⟨.int one, rfl, .int one, rfl, _, _, rfl, rfl, .inl ⟨by omega, by omega⟩, .int one, rfl, _, _, rfl, rfl, .inl ⟨by decide, by decide⟩, _, _, rfl, rfl, _, _, rfl, rfl, .inl ⟨_, rfl, _, _, rfl, rfl, (by show (0 : Int) < 2305843009213693921; decide), ?_⟩⟩
      dsimp only
      generalize ((one * one + 374761393 * one + 11) % 2305843009213693921 : Int) = two
      refine ⟨.int two, rfl, _, _, rfl, rfl, ⟨by decide, by decide⟩, .inl ⟨_, rfl, .int m, rfl, _, _, rfl, rfl, (by show 0 < m; omega), ?_⟩⟩
      refine q _ _ ⟨ds, one, upd_same, by rw [upd_ne nlp]; exact hl1, hd⟩ (E1.at (.inl rfl)) (Int.emod_nonneg _ (by omega)) (.inl (Int.emod_lt_of_pos _ (by omega)))
    · -- a digit of a great cell
      rw [decide_eq_false hds]
      refine iteT ?_
      obtain ⟨last, hlast⟩ : ∃ y, ds[ds.length - 1]? = some y := ⟨_, List.getElem?_eq_getElem (by
        have := List.length_pos_iff.mpr hds
        omega)⟩
      refine ⟨.ref p, rfl, p, .ref l, rfl, hgd1, .inl ⟨rfl, _, SqL.of hl1⟩, l, _, .int last, rfl, rfl, hl1, by rw [List.length_map, List.getElem?_map, hlast]; rfl, ?_⟩
      rw [← List.map_dropLast]
      have hdl : ds.dropLast.length ≤ 62 := by rw [List.length_dropLast]; omega
      have hp2 : upd H1 l (.lst (ds.dropLast.map V.int)) p = some (.dK (dkv (.ref l) (.int st))) := by rw [upd_ne nlp.symm]; exact hp1
      have hl2 : upd H1 l (.lst (ds.dropLast.map V.int)) l = some (.lst (ds.dropLast.map V.int)) := upd_same
      have E2 : Ext p l H (upd H1 l (.lst (ds.dropLast.map V.int))) := E1.at (.inr rfl)
      generalize ds.dropLast = ds2 at hdl hp2 hl2 E2
      generalize upd H1 l (.lst (ds2.map V.int)) = H2 at hp2 hl2 E2
      have hgd2 : DGet H2 p (V.str "deep") (some (.ref l)) := by rw [← dkv_d (.ref l) (.int st)]; exact DGet.k (k := kD) hp2
      refine ⟨.int last, rfl, .int m, rfl, _, _, rfl, rfl, _, rfl, ?_⟩
      refine join2 (H2 := H2) (R := fun H3 => ∃ ds3 : List Int, H3 p = some (.dK (dkv (.ref l) (.int st))) ∧ H3 l = some (.lst (ds3.map V.int)) ∧ ds3.length ≤ 63 ∧ Ext p l H H3)
        (fun H3 hR => ?_) (fun _ => ⟨ds2, hp2, hl2, by omega, E2⟩) (fun _ tail => ?_)
      · obtain ⟨ds3, hp3, hl3, hd3, E3⟩ := hR
        refine ⟨.int last, rfl, .inl ⟨_, rfl, .int m, rfl, _, _, rfl, rfl, (by show 0 < m; omega), ?_⟩⟩
        exact q _ _ ⟨ds3, st, hp3, hl3, hd3⟩ E3 (Int.emod_nonneg _ (by omega)) (.inl (Int.emod_lt_of_pos _ (by omega)))
      · refine ⟨.ref p, rfl, p, .ref l, rfl, hgd2, .inl ⟨rfl, _, SqL.of hl2⟩, .int last, rfl, .int m, rfl, _, _, rfl, rfl, ⟨by omega, hm⟩, l, _, _, rfl, rfl, hl2, szl (by rw [List.length_map]; omega), ?_⟩
        refine tail _ ⟨ds2 ++ [last / m], by rw [upd_ne nlp.symm]; exact hp2, ?_, by rw [List.length_append]; show _ + 1 ≤ 63; omega, E2.at (.inr rfl)⟩
        rw [upd_same, List.map_append]
        rfl
end
end Kr
namespace Kr
open PySem PySem.Spec PyProof.Rows L2
/-! ### defs by their names -/
structure Df (K : PySem.W.Frag) (mg : Str → Option Value) (x : Str) (st : Stmt) (ps : List Str) : Prop where
  ex : ∃ f fd, Fun K x x st f fd ∧ Binds K fd ps [] ∧ mg x = some (.ref f)
structure Ok (P : Program) (w : World) (K : PySem.W.Frag) (mg : Str → Option Value) (base : Heap) (k : Nat) (x : Str) (ps : List Str) (sp : Sp) : Prop where
  ex : ∃ f fd, FnOk P w K mg base CX0 k f fd ps sp ∧ PySem.W.keepIn K (.ref f) = true ∧ mg x = some (.ref f) ∧ Binds K fd ps []
section
variable {P : Program} {w : World} {K : PySem.W.Frag} {mg : Str → Option Value} {base : Heap}
theorem Df.ok {x : Str} {st : Stmt} {ps : List Str} {k : Nat} {sp : Sp} (D : Df K mg x st ps) (h : ∀ f fd, Fun K x x st f fd → FnOk P w K mg base CX0 k f fd ps sp) : Ok P w K mg base k x ps sp := by
  obtain ⟨f, fd, F, b, g⟩ := D.ex
  exact ⟨f, fd, h f fd F, F.kp, g, b⟩
theorem Ok.mono {x : Str} {ps : List Str} {j k : Nat} {sp : Sp} (D : Ok P w K mg base j x ps sp) (h : j ≤ k) : Ok P w K mg base k x ps sp := by
  obtain ⟨f, fd, F, r⟩ := D.ex
  exact ⟨f, fd, F.mono h, r⟩
end
theorem pe_fn {X : Cx} {k : Nat} {x : Str} {ps : List Str} {sp : Sp} {p pos : Pos} {e : Expr} {es : List Expr} {t : TA} (D : Ok X.prog X.w X.K X.mg X.base k x ps sp) (hr : Room k X.A) (hg : Gl X x) (ha : PA X (e :: es) t)
    (hdb : (x == ("__debug__" : Str)) = false := by decide) (he : starEach (e :: es) X.env = (false, eval e X.env) :: starEach es X.env := by rfl) (hpl : (backTo pos (starEach es X.env)).any (·.1) = false := by rfl) :
    PE X (.Call (.Name x p) (e :: es) [] pos) (tCall sp [] E0 t) := by
  obtain ⟨f, fd, F, kp, g, b⟩ := D.ex
  exact pe_call F hr hg g kp b .nil pass0 ha hdb he hpl
theorem atI_int {α : Type} {xs : List α} {r : Int} {v : α} (h0 : 0 ≤ r) (h : xs[r.toNat]? = some v) : atI xs r = some v := by
  have e : r = ((r.toNat : Nat) : Int) := by omega
  rw [e]
  exact atI_nat h
/-- one of some items -/
def spPick : Sp := fun vs H Q _ => ∃ (p l a : Addr) (xs : List V), vs = [.ref p, .ref a] ∧ Deck H p l ∧ hid p l H a = some (.lst xs) ∧ xs ≠ [] ∧ xs.length < 1000000 ∧ ∀ H' v, Deck H' p l → Ext p l H H' → v ∈ xs → Q v H'
section
variable {P : Program} {w : World} {K : PySem.W.Frag} {mg : Str → Option Value} {base : Heap}
theorem o_draw (D : Df K mg "_law_draw" sDraw ["deck", "many"]) (B : Bi mg) : Ok P w K mg base 1 "_law_draw" ["deck", "many"] spDraw := D.ok fun _ _ F => ok_draw F B
theorem o_deck (D : Df K mg "_law_deck" sDeck ["script"]) (B : Bi mg) : Ok P w K mg base 1 "_law_deck" ["script"] (spDeck K) := D.ok fun _ _ F => ok_deck F B
theorem scPick : FnScope ["deck", "items"] ["deck", "items"] (defScope sPick) := ⟨rfl, rfl, rfl, by decide +kernel, rfl, by decide +kernel, by decide +kernel⟩
theorem o_pick (D : Df K mg "_law_pick" sPick ["deck", "items"]) (B : Bi mg) (d : Ok P w K mg base 1 "_law_draw" ["deck", "many"] spDraw) : Ok P w K mg base 2 "_law_pick" ["deck", "items"] spPick := by
  refine D.ok fun f fd F => F.ok scPick (fun vs H Q E h => ?_) (fun cdv A outer s H vs Q E hr h => ?_)
  · obtain ⟨p, l, a, xs, rfl, _⟩ := h
    rfl
  · obtain ⟨p, l, a, xs, rfl, Dk, ha, hne, hlen, q⟩ := h
    refine ⟨_, pss_one (ps_ret (pe_ix ix_list (pv 1) (pe_fn d hr (by rfl) (pa_cons (pv 0) (pa_cons (pe_callB call_len_seq (by rfl) B.len boot_len (pa_cons (pv 1) pa_nil)) pa_nil))) (fun _ _ => rfl))), ?_⟩
    have hpos := List.length_pos_iff.mpr hne
    refine ⟨.ref a, rfl, .ref p, rfl, .ref a, rfl, a, xs, rfl, .inl (SqL.of (hid_same p l H _ _ ha)), p, l, _, rfl, Dk, by show (xs.length : Int) < 1073741824; omega, fun H' r Dk' e h0 h1 => ?_⟩
    have hr2 : r.toNat < xs.length := by omega
    refine ⟨a, xs, r, xs[r.toNat], rfl, rfl, SqL.of (hid_same p l H' _ _ (e _ _ ha)), ?_, q H' _ Dk' e (List.getElem_mem hr2)⟩
    exact atI_int h0 (List.getElem?_eq_getElem hr2)
end
end Kr
namespace Kr
open PySem PySem.Spec PyProof.Rows L2
/-! ### a module's name that holds a built-in (from math import comb) -/
theorem pe_callBG {X : Cx} {id : String} {r : List V → Hp → VK → Prop} {x : Str} {e : Expr} {es : List Expr} {t : TA} {p pos : Pos} (hc : CallR X (.builtin id) r) (hg : Gl X x) (hm : X.mg x = some (.builtin id)) (ha : PA X (e :: es) t) (hdb : (x == ("__debug__" : Str)) = false := by decide)
    (he : starEach (e :: es) X.env = (false, eval e X.env) :: starEach es X.env := by rfl) (hpl : (backTo pos (starEach es X.env)).any (·.1) = false := by rfl) : PE X (.Call (.Name x p) (e :: es) [] pos) (tCB r t) :=
  ⟨fun pn sh st hp W Iv hh => wpAny_Call_Name_kw (ld_glob Iv hg hm (PyProof.Rows.callWith_builtin1 (thn (ha.run pos pn sh st hp _ Iv hh) fun us s1 ⟨vs, H1, I1, r1, q1⟩ => hc pn s1 st H1 vs us W I1 r1 q1) he hpl) hdb)⟩
/-- comb(a, b) -/
def rComb : List V → Hp → VK → Prop := fun vs H Q => ∃ a b : Int, vs = [.int a, .int b] ∧ 0 ≤ a ∧ 0 ≤ b ∧ a < 1000 ∧ Q (.int (PySem.W.mcComb a b)) H
theorem call_comb {X : Cx} : CallR X (.builtin "math.comb") rComb := by
  intro pn sh st hp xs us Q Iv r h
  obtain ⟨a, b, rfl, h1, h2, h3, q⟩ := h
  cases r with
  | cons ra r =>
    cases r with
    | cons rb r =>
      cases r
      obtain ⟨t, rfl⟩ := ra
      obtain ⟨u, rfl⟩ := rb
      exact PySem.W.mc_comb h1 h2 (by omega) (.inr (by omega)) fun _ => ⟨.int (PySem.W.mcComb a b), hp, Iv.kept (t' := sh.toks + 1) (fun _ _ e => e), ⟨_, rfl⟩, q⟩
end Kr
namespace Kr
open PySem PySem.Spec PyProof.Rows L2
/-! ### data without lists and dicts: it stays while tuples stay -/
def TS (H H' : Hp) : Prop := ∀ b xs, H b = some (.tup xs) → H' b = some (.tup xs)
theorem TS.rfl {H : Hp} : TS H H := fun _ _ h => h
theorem TS.trans {H H' H'' : Hp} (a : TS H H') (b : TS H' H'') : TS H H'' := fun c xs h => b c xs (a c xs h)
theorem TS.of {H H' : Hp} (s : Same H H') : TS H H' := fun b xs h => s _ _ h
theorem TS.lst {H : Hp} {D : Addr} {xs ys : List V} (h : H D = some (.lst xs)) : TS H (upd H D (.lst ys)) := fun b zs e => by
  rw [upd_ne (ne_of e h (by intro z; cases z))]
  exact e
theorem TS.new {H : Hp} {q : Addr} {o : HO} (h : H q = none) : TS H (upd H q o) := fun b zs e => by
  rw [upd_ne (ne_of_none e h)]
  exact e
mutual
def flatT : PyData → Bool
  | .none | .bool _ | .int _ | .str _ => true
  | .tuple xs => flatTA xs
  | .list _ | .dict _ => false
def flatTA : List PyData → Bool
  | [] => true
  | x :: xs => flatT x && flatTA xs
end
mutual
theorem Dq.upT {H H' : Hp} (s : TS H H') : ∀ {v : V} {d : PyData}, flatT d = true → Dq H v d → Dq H' v d
  | _, _, _, .non => .non
  | _, _, _, .bl b => .bl b
  | _, _, _, .int i => .int i
  | _, _, _, .str x => .str x
  | _, _, h, .lst _ _ => by simp [flatT] at h
  | _, _, h, .tup e q => .tup (s _ _ e) (DqA.upT s (by simpa [flatT] using h) q)
  | _, _, h, .dic _ => by simp [flatT] at h
theorem DqA.upT {H H' : Hp} (s : TS H H') : ∀ {vs : List V} {ds : List PyData}, flatTA ds = true → DqA H vs ds → DqA H' vs ds
  | _, _, _, .nil => .nil
  | _ :: _, d :: ds, h, .cons a t => by
    have h2 : flatT d = true ∧ flatTA ds = true := by simpa [flatTA] using h
    exact .cons (Dq.upT s h2.1 a) (DqA.upT s h2.2 t)
end
theorem flatTA_of : ∀ {ds : List PyData}, (∀ d ∈ ds, flatT d = true) → flatTA ds = true
  | [], _ => rfl
  | d :: ds, h => by
    have h1 := h d List.mem_cons_self
    have h2 := flatTA_of (ds := ds) fun e he => h e (List.mem_cons_of_mem _ he)
    simp [flatTA, h1, h2]
mutual
/-- as the layer's own data, for == -/
theorem Dq.dp {K : PySem.W.Frag} {H : Hp} : ∀ {v : V} {d : PyData}, flatT d = true → Dq H v d → Dp K H v d
  | _, _, _, .non => .non
  | _, _, _, .bl b => .bl b
  | _, _, _, .int i => .int i
  | _, _, _, .str x => .str x
  | _, _, h, .lst _ _ => by simp [flatT] at h
  | _, _, h, .tup e q => .tup (SqT.of e) (DqA.dp (by simpa [flatT] using h) q)
  | _, _, h, .dic _ => by simp [flatT] at h
theorem DqA.dp {K : PySem.W.Frag} {H : Hp} : ∀ {vs : List V} {ds : List PyData}, flatTA ds = true → DqA H vs ds → DpAll K H vs ds
  | _, _, _, .nil => .nil
  | _ :: _, d :: ds, h, .cons a t => by
    have h2 : flatT d = true ∧ flatTA ds = true := by simpa [flatTA] using h
    exact .cons (Dq.dp h2.1 a) (DqA.dp h2.2 t)
end
theorem dqa_snoc {H : Hp} {vs : List V} {ds : List PyData} {v : V} {d : PyData} (a : DqA H vs ds) (b : Dq H v d) : DqA H (vs ++ [v]) (ds ++ [d]) := a.app (.one b)
/-! ### rows of signs -/
abbrev Row := List (Bool × Bool)
def bi (b : Bool) : Int := if b = true then 1 else 0
def pairD (p : Bool × Bool) : PyData := .tuple [.int (bi p.1), .int (bi p.2)]
def rowD (r : Row) : PyData := .tuple (r.map pairD)
theorem pair_flat (p : Bool × Bool) : flatT (pairD p) = true := by simp [pairD, flatT, flatTA]
theorem pairs_flat (r : Row) : flatTA (r.map pairD) = true := flatTA_of fun d hd => by
  obtain ⟨p, _, rfl⟩ := List.mem_map.mp hd
  exact pair_flat p
theorem row_flat (r : Row) : flatT (rowD r) = true := by
  simp only [rowD, flatT]
  exact pairs_flat r
theorem bi_inj {a b : Bool} : bi a = bi b ↔ a = b := by cases a <;> cases b <;> decide
theorem bi_one (a : Bool) : decide (bi a = 1) = a := by cases a <;> rfl
theorem bi_xor (a b : Bool) : Builtin.bitXor (bi a) (bi b) = bi (a ^^ b) := by cases a <;> cases b <;> decide +kernel
theorem bi_sum (a b : Bool) : (bi a + bi b) % 2 = bi (a ^^ b) := by cases a <;> cases b <;> decide +kernel
theorem pair_at {H : Hp} {b : Addr} {p : Bool × Bool} (h : H b = some (.tup [.int (bi p.1), .int (bi p.2)])) : Dq H (.ref b) (pairD p) := .tup h (.cons (.int _) (.cons (.int _) .nil))
theorem pair_inv {H : Hp} {v : V} {p : Bool × Bool} (h : Dq H v (pairD p)) : ∃ b, v = .ref b ∧ H b = some (.tup [.int (bi p.1), .int (bi p.2)]) := by
  obtain ⟨b, xs, rfl, e, q⟩ := Dq.tup_inv (show Dq H v (.tuple [.int (bi p.1), .int (bi p.2)]) from h)
  cases q with
  | cons h1 q =>
    cases q with
    | cons h2 q =>
      cases q
      cases h1
      cases h2
      exact ⟨b, rfl, e⟩
theorem row_inv {H : Hp} {v : V} {r : Row} (h : Dq H v (rowD r)) : ∃ a xs, v = .ref a ∧ H a = some (.tup xs) ∧ DqA H xs (r.map pairD) := Dq.tup_inv h
theorem pairs_get {H : Hp} {xs : List V} {r : Row} {i : Nat} {y : V} (q : DqA H xs (r.map pairD)) (e : xs[i]? = some y) : ∃ p, r[i]? = some p ∧ ∃ b, y = .ref b ∧ H b = some (.tup [.int (bi p.1), .int (bi p.2)]) := by
  obtain ⟨d, h1, h2⟩ := q.get e
  rw [List.getElem?_map] at h1
  cases hr : r[i]? with
  | none => rw [hr] at h1; cases h1
  | some p =>
    rw [hr] at h1
    cases Option.some.inj h1
    exact ⟨p, rfl, pair_inv h2⟩
theorem pairs_len {H : Hp} {xs : List V} {r : Row} (q : DqA H xs (r.map pairD)) : xs.length = r.length := by rw [q.len, List.length_map]
theorem pairD_inj {p q : Bool × Bool} : PyData.eqv (pairD p) (pairD q) = decide (p = q) := by
  obtain ⟨a, b⟩ := p
  obtain ⟨c, d⟩ := q
  cases a <;> cases b <;> cases c <;> cases d <;> decide +kernel
theorem rows_eqv : ∀ a b : Row, PyData.eqv (rowD a) (rowD b) = decide (a = b)
  | [], [] => by simp [rowD, PyData.eqv, PyData.eqvAll]
  | [], _ :: _ => by simp [rowD, PyData.eqv, PyData.eqvAll]
  | _ :: _, [] => by simp [rowD, PyData.eqv, PyData.eqvAll]
  | x :: a, y :: b => by
    have ih := rows_eqv a b
    simp only [rowD, PyData.eqv] at ih
    simp only [rowD, List.map_cons, PyData.eqv, PyData.eqvAll]
    rw [ih, pairD_inj, Bool.eq_iff_iff]
    simp
theorem pairs_lay : ∀ r : Row, PyData.canLayAll0 (r.map pairD) = true ∧ PyData.depthAll (r.map pairD) ≤ 2
  | [] => by simp [PyData.canLayAll0, PyData.depthAll]
  | p :: r => by
    obtain ⟨h1, h2⟩ := pairs_lay r
    simp only [List.map_cons, PyData.canLayAll0, PyData.depthAll, pairD, PyData.canLay0, PyData.depth, h1]
    refine ⟨by simp, by omega⟩
theorem row_shaped (r : Row) : SeqAt.shaped (rowD r) = true := by
  obtain ⟨h1, h2⟩ := pairs_lay r
  unfold SeqAt.shaped
  simp only [rowD, PyData.canLay0, PyData.depth, h1, Bool.true_and, decide_eq_true_eq]
  omega
theorem pair_shaped (p : Bool × Bool) : SeqAt.shaped (pairD p) = true := by
  obtain ⟨a, b⟩ := p
  cases a <;> cases b <;> decide +kernel
/-! ### sums of rows, rows of kinds -/
def addR (a b : Row) : Row := List.zipWith (fun p q => (p.1 ^^ q.1, p.2 ^^ q.2)) a b
def zeroR (n : Nat) : Row := List.replicate (n + 1) (false, false)
def chB (a b : Int) : Bool := if 0 ≤ b then PySem.W.mcComb a b % 2 == 1 else false
def kindR (n k : Nat) : Row := (List.range (n + 1)).map fun (m : Nat) => (chB ((n : Int) - 2 - k) (((m : Nat) : Int) - 1 - k), chB ((n : Int) - 2 - k) (((m : Nat) : Int) - k))
theorem addR_len {a b : Row} (h : a.length = b.length) : (addR a b).length = b.length := by
  unfold addR
  rw [List.length_zipWith, h, Nat.min_self]
theorem zeroR_len (n : Nat) : (zeroR n).length = n + 1 := List.length_replicate
theorem kindR_len (n k : Nat) : (kindR n k).length = n + 1 := by
  unfold kindR
  rw [List.length_map, List.length_range]
theorem addR_zero : ∀ (n : Nat) (r : Row), r.length = n → addR (List.replicate n (false, false)) r = r
  | 0, [], _ => rfl
  | n + 1, p :: r, h => by
    have ih := addR_zero n r (by simpa using h)
    unfold addR at ih ⊢
    rw [List.replicate_succ, List.zipWith_cons_cons, ih]
    simp
  | 0, _ :: _, h => by simp at h
  | _ + 1, [], h => by simp at h
end Kr
namespace Kr
open PySem PySem.Spec PyProof.Rows L2
theorem szm {n : Nat} (h : n ≤ 100000) : n < sizeLine := Nat.lt_of_le_of_lt h (by decide)
theorem walk_rg {n : Nat} : Walk (Itr 0 n) n (fun _ => True) (fun i H x H' => H' = H ∧ x = .int (i : Nat)) := walk_range.mono (fun _ h => h) fun i H x H' _ _ ⟨a, b⟩ => ⟨a, by rw [b]; show V.int (0 + (i : Int)) = _; rw [Int.zero_add]⟩
/-- a comprehension without tests whose items are new data, one for each turn -/
theorem lc_itF {J : It} {n : Nat} {G : Hp → Prop} {Y : Nat → Hp → V → Hp → Prop} (w : Walk J n G Y) {g : TG} {tt : TT} {te : TE} {vs : List Nat} {σ : L2.St} {H1 : Hp} {D : Addr} {Qd : Hp → Prop} (f : Nat → PyData) (nD : H1 D = none) (hn : n ≤ 100000) (hf : ∀ i, i < n → flatT (f i) = true) (hG : ∀ H, Same H1 H → G H)
    (hs : ∀ i x H H' (C : VK) (Cn : Hp → Prop), i < n → Same H1 H → Y i H x H' → (∀ y H4, Same H H4 → Dq H4 y (f i) → C y H4) → g x (wipe σ vs) H' fun σ2 H2 => wipe σ2 vs = wipe σ vs ∧ tt σ2 H2 fun b H3 => if b = true then te σ2 H3 C else Cn H3)
    (hd : ∀ H acc, Same H1 H → H D = some (.lst acc) → DqA H acc ((List.range n).map f) → Qd H) :
    ∃ W : Nat → Nat → Hp → Prop, (∃ m, W 0 m (upd H1 D (.lst []))) ∧ ∀ i m H, W i m H →
      (J.stop i H ∧ Qd H) ∨ (J.go i H ∧ ∃ Nx : Hp → Prop, (∀ H', Nx H' → ∃ m', m' < m ∧ W (i + 1) m' H') ∧ ∀ x H', J.yld i H x H' → g x (wipe σ vs) H' fun σ2 H2 => wipe σ2 vs = wipe σ vs ∧ tt σ2 H2 fun b H3 =>
        if b = true then te σ2 H3 fun y H4 => ∃ acc, H4 D = some (.lst acc) ∧ acc.length < sizeLine ∧ Nx (upd H4 D (.lst (acc ++ [y]))) else Nx H3) := by
  refine lc_it w (fun i H => ∃ acc, H D = some (.lst acc) ∧ Same H1 H ∧ DqA H acc ((List.range i).map f)) ⟨[], upd_same, fun b o e => by rw [upd_ne (ne_of_none e nD)]; exact e, .nil⟩ (fun i H _ ⟨_, _, s, _⟩ => hG H s) (fun i x H H' hi ⟨acc, hD, s, q⟩ y => ?_) fun H ⟨acc, hD, s, q⟩ => hd H acc s hD q
  refine hs i x H H' _ _ hi s y fun z H4 s4 d4 => ⟨acc, s4 _ _ hD, szm (by have := q.len; rw [List.length_map, List.length_range] at this; omega), acc ++ [z], upd_same, fun b o e => ?_, ?_⟩
  · rw [upd_ne (ne_of_none e nD)]
    exact s4 _ _ (s _ _ e)
  · have t : TS H4 (upd H4 D (.lst (acc ++ [z]))) := TS.lst (s4 _ _ hD)
    rw [List.range_succ, List.map_append]
    refine dqa_snoc (DqA.upT t ?_ (q.up s4)) (Dq.upT t (hf i hi) d4)
    exact flatTA_of fun d hd => by
      obtain ⟨j, hj, rfl⟩ := List.mem_map.mp hd
      exact hf j (by have := List.mem_range.mp hj; omega)
end Kr
namespace Kr
open PySem PySem.Spec PyProof.Rows L2
/-! ### small data: what repr can show -/
structure Sm (k w : Nat) (d : PyData) : Prop where
  sh : d.showable = true
  ls : d.leavesShort 41 = true
  dp : d.depth ≤ k
  wt : d.weight ≤ w
theorem Sm.mono {k w k' w' : Nat} {d : PyData} (h : Sm k w d) (hk : k ≤ k') (hw : w ≤ w') : Sm k' w' d := ⟨h.sh, h.ls, Nat.le_trans h.dp hk, Nat.le_trans h.wt hw⟩
theorem sm_all {k w : Nat} : ∀ {ds : List PyData}, (∀ d ∈ ds, Sm k w d) → PyData.showableAll ds = true ∧ PyData.leavesShortAll 41 ds = true ∧ PyData.depthAll ds ≤ k ∧ PyData.weightAll ds ≤ (w + 1) * ds.length
  | [], _ => ⟨by simp [PyData.showableAll], by simp [PyData.leavesShortAll], by simp [PyData.depthAll], by simp [PyData.weightAll]⟩
  | d :: ds, h => by
    obtain ⟨h1, h2, h3, h4⟩ := sm_all fun x hx => h x (List.mem_cons_of_mem _ hx)
    have hd := h d List.mem_cons_self
    refine ⟨by simp [PyData.showableAll, hd.sh, h1], by simp [PyData.leavesShortAll, hd.ls, h2], ?_, ?_⟩
    · simp only [PyData.depthAll]
      have := hd.dp
      omega
    · simp only [PyData.weightAll, List.length_cons, Nat.mul_add]
      have := hd.wt
      omega
theorem Sm.lst {k w m : Nat} {ds : List PyData} (h : ∀ d ∈ ds, Sm k w d) (hm : ds.length ≤ m) : Sm (k + 1) ((w + 1) * m) (.list ds) := by
  obtain ⟨h1, h2, h3, h4⟩ := sm_all h
  refine ⟨by simpa [PyData.showable] using h1, by simpa [PyData.leavesShort] using h2, by simp only [PyData.depth]; omega, ?_⟩
  simp only [PyData.weight]
  exact Nat.le_trans h4 (Nat.mul_le_mul_left _ hm)
theorem Sm.tup {k w m : Nat} {ds : List PyData} (h : ∀ d ∈ ds, Sm k w d) (hm : ds.length ≤ m) : Sm (k + 1) ((w + 1) * m) (.tuple ds) := by
  obtain ⟨h1, h2, h3, h4⟩ := sm_all h
  refine ⟨by simpa [PyData.showable] using h1, by simpa [PyData.leavesShort] using h2, by simp only [PyData.depth]; omega, ?_⟩
  simp only [PyData.weight]
  exact Nat.le_trans h4 (Nat.mul_le_mul_left _ hm)
theorem Sm.int {i : Int} (h : i.natAbs < 10 ^ 40) : Sm 1 140 (.int i) := by
  have hl : (PyData.shown (.int i)).length ≤ 41 := by
    have e := int_text_length_le10 (k := 40) (by decide) h
    show (Str.ofString (toString i)).length ≤ 41
    rw [PySem.ofString_length]
    exact e
  have hg : i.natAbs.log2 < 134 := by
    by_cases h0 : i.natAbs = 0
    · rw [h0]
      decide
    · rw [Nat.log2_lt h0]
      exact Nat.lt_of_lt_of_le h (by decide)
  refine ⟨?_, by simpa [PyData.leavesShort] using hl, by simp [PyData.depth], ?_⟩
  · simp only [PyData.showable, decide_eq_true_eq]
    omega
  · simp only [PyData.weight]
    split <;> omega
theorem Sm.non : Sm 1 140 .none := ⟨rfl, rfl, by simp [PyData.depth], by simp [PyData.weight]⟩
theorem Sm.bl (b : Bool) : Sm 1 140 (.bool b) := ⟨rfl, rfl, by simp [PyData.depth], by simp [PyData.weight]⟩
theorem Sm.dic : Sm 1 140 (.dict []) := ⟨by simp [PyData.showable, PyData.showableKv], by simp [PyData.leavesShort, PyData.leavesShortKv], by simp [PyData.depth, PyData.depthKv], by simp [PyData.weight, PyData.weightKv]⟩
theorem Sm.str {x : Str} (h : (x.cps.toList.all fun c => decide (c < 16 ^ 8)) = true) (hs : x.length ≤ 4) : Sm 1 140 (.str x) :=
  ⟨by simp [PyData.showable], by simpa [PyData.leavesShort] using h, by simp [PyData.depth], Nat.le_trans (show x.cps.size ≤ 4 from hs) (by decide)⟩
/-- the text is short enough -/
theorem Sm.fits {k w : Nat} {d : PyData} (h : Sm k w d) (hw : w ≤ 380000) : d.shown.length ≤ sizeLine := by
  have h1 := PyData.shown_le 41 (by decide) d h.ls
  have h2 := h.wt
  rw [sizeLine_eq]
  omega
/-- repr of small data -/
theorem repr_sm {v : V} {d : PyData} {H : Hp} {Q : VK} {k w : Nat} (hd : Dq H v d) (h : Sm k w d) (hk : k ≤ 40) (hw : w ≤ 380000) (q : Q (.str d.shown) H) : rRepr [v] H Q :=
  ⟨v, d, rfl, hd, h.sh, Nat.le_trans h.dp hk, h.fits hw, q⟩
/-- t + u, tuples of any lengths: some object that holds both -/
theorem catA_k {K : PySem.W.Frag} {a b : Addr} {xs ys : List V} {Q : VK} {H : Hp} (ha : H a = some (.tup xs)) (hb : H b = some (.tup ys)) (hl : xs.length + ys.length ≤ 100000) (k : ∀ y H5, Same H H5 → H5 y = some (.tup (xs ++ ys)) → Q (.ref y) H5) : rCatA K (.ref a) (.ref b) H Q := by
  refine ⟨a, b, xs, ys, rfl, rfl, SqT.of ha, SqT.of hb, Nat.le_trans hl (by decide), fun e => k _ _ (Same.refl _) (by rw [e]; exact hb), fun _ e => k _ _ (Same.refl _) (by rw [e, List.append_nil]; exact ha), fun _ _ p np => k _ _ (fun c o h => ?_) upd_same⟩
  rw [upd_ne (ne_of_none h np)]
  exact h
/-- t[i:j] of a tuple: some object that holds it -/
theorem sliceA_k {K : PySem.W.Frag} {a : Addr} {xs : List V} {lo hi : Option Int} {Q : VK} {H : Hp} (ha : H a = some (.tup xs)) (k : ∀ y H5, Same H H5 → H5 y = some (.tup (cutV xs lo hi)) → Q (.ref y) H5) : rSlA K (.ref a) lo hi H Q := by
  refine ⟨a, xs, rfl, SqT.of ha, fun ⟨e1, e2⟩ => k _ _ (Same.refl _) ?_, fun _ p np => k _ _ (fun c o h => ?_) upd_same⟩
  · unfold cutV
    rw [e1, e2, List.drop_zero, Nat.sub_zero, List.take_length]
    exact ha
  · rw [upd_ne (ne_of_none h np)]
    exact h
theorem cut_to {xs : List V} {i : Nat} (h : i ≤ xs.length) : cutV xs none (some (i : Int)) = xs.take i := by
  unfold cutV
  rw [HT.sIx_none, HT.sIx_nat, List.drop_zero, Nat.sub_zero, Nat.min_eq_left h]
theorem cut_from {xs : List V} {i : Nat} (h : i ≤ xs.length) : cutV xs (some (i : Int)) none = xs.drop i := by
  unfold cutV
  rw [HT.sIx_none, HT.sIx_nat, Nat.min_eq_left h]
  exact List.take_of_length_le (by rw [List.length_drop]; exact Nat.le_refl _)
end Kr
namespace Kr
open PySem PySem.Spec PyProof.Rows L2
/-! ### beside the deck -/
theorem Ext.mut {p l f : Addr} {H H' : Hp} {o : HO} (e : Ext p l H H') (h : H f = none) : Ext p l H (upd H' f o) := fun b x hb => by
  obtain ⟨_, _, h5⟩ := hid_some hb
  obtain ⟨h1, h2, h3⟩ := hid_some (e b x hb)
  rw [hid_ne h1 h2, upd_ne (ne_of_none h5 h)]
  exact h3
theorem Deck.mut {H : Hp} {p l f : Addr} {o : HO} (d : Deck H p l) (h1 : f ≠ p) (h2 : f ≠ l) : Deck (upd H f o) p l := by
  obtain ⟨ds, st, a, b, c⟩ := d.ex
  exact ⟨ds, st, by rw [upd_ne h1.symm]; exact a, by rw [upd_ne h2.symm]; exact b, c⟩
theorem Ext.free {p l f : Addr} {H H' : Hp} (e : Ext p l H H') (h : H' f = none) (h1 : f ≠ p) (h2 : f ≠ l) : H f = none := by
  cases q : H f with
  | none => rfl
  | some o =>
    have := (hid_some (e f o (by rw [hid_ne h1 h2]; exact q))).2.2
    rw [h] at this
    cases this
theorem Ext.at_ {p l f : Addr} {H H' : Hp} {o : HO} (e : Ext p l H H') (h1 : f ≠ p) (h2 : f ≠ l) (q : H f = some o) : H' f = some o := (hid_some (e f o (by rw [hid_ne h1 h2]; exact q))).2.2
/-- tuples stand apart from the deck -/
theorem TS.hide {p l : Addr} {H : Hp} (D : Deck H p l) : TS H (hid p l H) := fun b xs h => by
  obtain ⟨ds, st, h1, h2, _⟩ := D.ex
  rw [hid_ne (ne_of h h1 (by intro z; cases z)) (ne_of h h2 (by intro z; cases z))]
  exact h
theorem TS.deck {p l : Addr} {H H' : Hp} (D : Deck H p l) (E : Ext p l H H') : TS H H' := (TS.hide D).trans ((TS.of E).trans (TS.of (hid_same p l H')))
/-- a list of a new address stands apart -/
structure Apart (p l f : Addr) : Prop where
  p : f ≠ p
  l : f ≠ l
theorem Deck.apart {H : Hp} {p l q : Addr} (d : Deck H p l) (h : H q = none) : Apart p l q := ⟨(d.new h).1, (d.new h).2⟩
theorem Apart.of {H : Hp} {p l f : Addr} (d : Deck H p l) (h : hid p l H f ≠ none) : Apart p l f := by
  cases q : hid p l H f with
  | none => exact absurd q h
  | some o => exact ⟨(hid_some q).1, (hid_some q).2.1⟩
end Kr
namespace Kr
/-! ### how many ways -/
def ch : Nat → Nat → Nat
  | _, 0 => 1
  | 0, _ + 1 => 0
  | n + 1, k + 1 => ch n k + ch n (k + 1)
theorem ch_tab : ∀ n : Nat, n < 26 → ∀ k : Nat, k < 27 → PySem.W.mcComb (n : Int) (k : Int) = (ch n k : Int) := by decide +kernel
theorem ch_zero : ∀ n k : Nat, n < k → ch n k = 0
  | 0, 0, h => absurd h (Nat.lt_irrefl _)
  | 0, k + 1, _ => by simp [ch]
  | n + 1, 0, h => by omega
  | n + 1, k + 1, h => by
    rw [ch, ch_zero n k (by omega), ch_zero n (k + 1) (by omega)]
theorem ch_self : ∀ n : Nat, ch n n = 1
  | 0 => by simp [ch]
  | n + 1 => by rw [ch, ch_self n, ch_zero n (n + 1) (by omega)]
theorem ch_pos : ∀ n k : Nat, k ≤ n → 0 < ch n k
  | n, 0, _ => by cases n <;> simp [ch]
  | 0, k + 1, h => by omega
  | n + 1, k + 1, h => by
    rw [ch]
    have := ch_pos n k (by omega)
    omega
/-- those of fewer places -/
def below (n s : Nat) : Nat := ((List.range s).map fun k => ch n k).sum
theorem below_succ (n s : Nat) : below n (s + 1) = below n s + ch n s := by
  unfold below
  rw [List.range_succ, List.map_append, List.sum_append]
  simp
theorem below_all (n : Nat) (hn : n < 26) : below n (n + 1) = 2 ^ n := by
  have : ∀ n : Nat, n < 26 → below n (n + 1) = 2 ^ n := by decide +kernel
  exact this n hn
theorem below_le {n s t : Nat} (h : s ≤ t) : below n s ≤ below n t := by
  induction t with
  | zero => rw [show s = 0 by omega]; exact Nat.le_refl _
  | succ t ih =>
    by_cases hs : s = t + 1
    · rw [hs]; exact Nat.le_refl _
    · rw [below_succ]
      have := ih (by omega)
      omega
/-! ### lots in their order -/
/-- the lot among those of k places from p on, m places being left -/
def un : Nat → Nat → Nat → Nat → List Nat
  | _, 0, _, _ => []
  | _, _ + 1, 0, _ => []
  | p, m + 1, k + 1, a => if a < ch m k then p :: un (p + 1) m k a else un (p + 1) m (k + 1) (a - ch m k)
/-- how many stand ahead -/
def rk : Nat → Nat → List Nat → Nat
  | _, _, [] => 0
  | _, 0, _ :: _ => 0
  | p, m + 1, x :: xs => if x = p then rk (p + 1) m xs else ch m xs.length + rk (p + 1) m (x :: xs)
/-- an ascending list of numbers from p to p + m - 1 -/
def Asc (p m : Nat) (l : List Nat) : Prop := l.Pairwise (· < ·) ∧ ∀ x ∈ l, p ≤ x ∧ x < p + m
theorem Asc.len : ∀ {p m : Nat} {l : List Nat}, Asc p m l → l.length ≤ m
  | _, _, [], _ => Nat.zero_le _
  | p, 0, x :: l, h => by
    have := h.2 x List.mem_cons_self
    omega
  | p, m + 1, x :: l, h => by
    obtain ⟨h1, h2⟩ := List.pairwise_cons.mp h.1
    have hx := h.2 x List.mem_cons_self
    have : Asc (p + 1) m l := ⟨h2, fun y hy => by
      have := h1 y hy
      have := h.2 y (List.mem_cons_of_mem _ hy)
      omega⟩
    have := this.len
    rw [List.length_cons]
    omega
theorem Asc.tail {p m x : Nat} {l : List Nat} (h : Asc p (m + 1) (x :: l)) (hx : x = p) : Asc (p + 1) m l := by
  obtain ⟨h1, h2⟩ := List.pairwise_cons.mp h.1
  refine ⟨h2, fun y hy => ?_⟩
  have := h1 y hy
  have := h.2 y (List.mem_cons_of_mem _ hy)
  omega
theorem Asc.skip {p m x : Nat} {l : List Nat} (h : Asc p (m + 1) (x :: l)) (hx : ¬ x = p) : Asc (p + 1) m (x :: l) := by
  refine ⟨h.1, fun y hy => ?_⟩
  obtain ⟨h1, _⟩ := List.pairwise_cons.mp h.1
  have hx0 := h.2 x List.mem_cons_self
  have hy0 := h.2 y hy
  rcases List.mem_cons.mp hy with e | hm
  · omega
  · have := h1 y hm
    omega
theorem rk_un : ∀ (m p : Nat) (l : List Nat), Asc p m l → un p m l.length (rk p m l) = l ∧ rk p m l < ch m l.length
  | 0, p, l, h => by
    have := h.len
    have : l = [] := List.length_eq_zero_iff.mp (by omega)
    subst this
    exact ⟨rfl, by simp [rk, ch]⟩
  | m + 1, p, [], _ => ⟨rfl, by simp [rk, ch]⟩
  | m + 1, p, x :: l, h => by
    simp only [List.length_cons, un, rk, ch]
    by_cases hx : x = p
    · obtain ⟨h1, h2⟩ := rk_un m (p + 1) l (h.tail hx)
      rw [if_pos hx, if_pos h2, h1, hx]
      exact ⟨rfl, by omega⟩
    · obtain ⟨h1, h2⟩ := rk_un m (p + 1) (x :: l) (h.skip hx)
      rw [if_neg hx, if_neg (by omega), Nat.add_sub_cancel_left]
      rw [List.length_cons] at h1 h2
      exact ⟨h1, by omega⟩
theorem un_rk : ∀ (m p k a : Nat), a < ch m k → Asc p m (un p m k a) ∧ (un p m k a).length = k ∧ rk p m (un p m k a) = a
  | 0, p, 0, a, h => ⟨⟨.nil, fun x hx => nomatch hx⟩, rfl, by simp [ch] at h; simp [un, rk, h]⟩
  | 0, p, k + 1, a, h => by simp [ch] at h
  | m + 1, p, 0, a, h => ⟨⟨.nil, fun x hx => nomatch hx⟩, rfl, by simp [ch] at h; simp [un, rk, h]⟩
  | m + 1, p, k + 1, a, h => by
    simp only [un]
    by_cases ha : a < ch m k
    · obtain ⟨⟨h1, h2⟩, h3, h4⟩ := un_rk m (p + 1) k a ha
      rw [if_pos ha]
      refine ⟨⟨List.pairwise_cons.mpr ⟨fun y hy => by have := h2 y hy; omega, h1⟩, fun y hy => ?_⟩, by rw [List.length_cons, h3], by simp [rk, h4]⟩
      rcases List.mem_cons.mp hy with e | hm
      · omega
      · have := h2 y hm
        omega
    · rw [ch] at h
      obtain ⟨⟨h1, h2⟩, h3, h4⟩ := un_rk m (p + 1) (k + 1) (a - ch m k) (by omega)
      rw [if_neg ha]
      refine ⟨⟨h1, fun y hy => by have := h2 y hy; omega⟩, h3, ?_⟩
      cases e : un (p + 1) m (k + 1) (a - ch m k) with
      | nil => rw [e] at h3; cases h3
      | cons x l =>
        rw [e] at h2 h3 h4
        have hx := h2 x List.mem_cons_self
        simp only [rk]
        rw [if_neg (by omega), h4, show l.length = k by simpa using h3]
        omega
/-! ### the number of a lot -/
def num (n : Nat) (l : List Nat) : Nat := below n l.length + rk 0 n l
/-- the size of the lot with a number, and what is left -/
def sizeAt (n : Nat) : Nat → Nat → Nat → Option (Nat × Nat)
  | 0, _, _ => none
  | f + 1, s, a => if a < ch n s then some (s, a) else sizeAt n f (s + 1) (a - ch n s)
def lotAt (n a : Nat) : Option (List Nat) := (sizeAt n (n + 1) 0 a).map fun (s, r) => un 0 n s r
theorem sizeAt_ok (n : Nat) : ∀ (f s a t r : Nat), t < s + f → s ≤ t → below n s + a = below n t + r → r < ch n t → sizeAt n f s a = some (t, r)
  | 0, s, a, t, r, h, h1, _, _ => by omega
  | f + 1, s, a, t, r, h, h1, h2, h3 => by
    simp only [sizeAt]
    by_cases hs : s = t
    · subst hs
      rw [if_pos (by omega)]
      have : a = r := by omega
      rw [this]
    · have h4 := below_le (n := n) (show s + 1 ≤ t by omega)
      rw [below_succ] at h4
      rw [if_neg (by omega)]
      exact sizeAt_ok n f (s + 1) (a - ch n s) t r (by omega) (by omega) (by rw [below_succ]; omega) h3
theorem sizeAt_ex (n : Nat) : ∀ (f s a : Nat), below n s + a < below n (s + f) → ∃ t r, sizeAt n f s a = some (t, r) ∧ s ≤ t ∧ t < s + f ∧ below n s + a = below n t + r ∧ r < ch n t
  | 0, s, a, h => by
    rw [Nat.add_zero] at h
    omega
  | f + 1, s, a, h => by
    simp only [sizeAt]
    by_cases ha : a < ch n s
    · rw [if_pos ha]
      exact ⟨s, a, rfl, Nat.le_refl _, by omega, rfl, ha⟩
    · rw [if_neg ha]
      obtain ⟨t, r, h1, h2, h3, h4, h5⟩ := sizeAt_ex n f (s + 1) (a - ch n s) (by rw [below_succ, show s + 1 + f = s + (f + 1) by omega]; omega)
      rw [below_succ] at h4
      exact ⟨t, r, h1, by omega, by omega, by omega, h5⟩
theorem sizeAt_none (n : Nat) : ∀ (f s a : Nat), below n (s + f) ≤ below n s + a → sizeAt n f s a = none
  | 0, s, a, _ => rfl
  | f + 1, s, a, h => by
    have h4 := below_le (n := n) (show s + 1 ≤ s + (f + 1) by omega)
    rw [below_succ] at h4
    simp only [sizeAt]
    rw [if_neg (by omega)]
    exact sizeAt_none n f (s + 1) (a - ch n s) (by rw [below_succ, show s + 1 + f = s + (f + 1) by omega]; omega)
theorem lotAt_num {n : Nat} {l : List Nat} (h : Asc 0 n l) : lotAt n (num n l) = some l := by
  obtain ⟨h1, h2⟩ := rk_un n 0 l h
  have hl := h.len
  unfold lotAt
  rw [sizeAt_ok n (n + 1) 0 (num n l) l.length (rk 0 n l) (by omega) (by omega) (by show 0 + _ = _; rw [Nat.zero_add]; rfl) h2]
  simp only [Option.map_some]
  rw [h1]
theorem lotAt_some {n a : Nat} (hn : n < 26) (ha : a < 2 ^ n) : ∃ l, lotAt n a = some l ∧ Asc 0 n l ∧ num n l = a := by
  obtain ⟨t, r, h1, h2, h3, h4, h5⟩ := sizeAt_ex n (n + 1) 0 a (by rw [Nat.zero_add, below_all n hn]; show 0 + a < _; omega)
  obtain ⟨g1, g2, g3⟩ := un_rk n 0 t r h5
  refine ⟨un 0 n t r, by unfold lotAt; rw [h1]; rfl, g1, ?_⟩
  unfold num
  rw [g2, g3]
  have : below n 0 = 0 := rfl
  omega
theorem lotAt_none {n a : Nat} (hn : n < 26) (ha : 2 ^ n ≤ a) : lotAt n a = none := by
  unfold lotAt
  rw [sizeAt_none n (n + 1) 0 a (by rw [Nat.zero_add, below_all n hn]; show _ ≤ 0 + a; omega)]
  rfl
/-! ### the same, by spots -/
/-- what lot_number adds for the places from s on -/
def numGo (n : Nat) : Nat → List Nat → Nat
  | _, [] => 0
  | p, x :: xs => ((List.range (x - p)).map fun j => ch (n - 1 - (p + j)) xs.length).sum + numGo n (x + 1) xs
theorem rk_go : ∀ (m p : Nat) (l : List Nat), Asc p m l → rk p m l = numGo (p + m) p l
  | m, p, [], _ => by cases m <;> rfl
  | 0, p, x :: l, h => by
    have := h.2 x List.mem_cons_self
    omega
  | m + 1, p, x :: l, h => by
    simp only [rk]
    by_cases hx : x = p
    · rw [if_pos hx, rk_go m (p + 1) l (h.tail hx)]
      simp only [numGo]
      rw [hx, Nat.sub_self, show p + (m + 1) = p + 1 + m by omega]
      simp
    · have hx0 := h.2 x List.mem_cons_self
      rw [if_neg hx, rk_go m (p + 1) (x :: l) (h.skip hx)]
      simp only [numGo]
      rw [show x - p = (x - (p + 1)) + 1 by omega, List.range_succ_eq_map, List.map_cons, List.map_map, List.sum_cons, show p + (m + 1) = p + 1 + m by omega]
      have e1 : ch (p + 1 + m - 1 - (p + 0)) l.length = ch m l.length := by congr 1; omega
      have e2 : ((fun j => ch (p + 1 + m - 1 - (p + j)) l.length) ∘ Nat.succ) = fun j => ch (p + 1 + m - 1 - (p + 1 + j)) l.length := by
        funext j
        show ch (p + 1 + m - 1 - (p + (j + 1))) l.length = _
        congr 1
        omega
      rw [e1, e2]
      omega
theorem num_go {n : Nat} {l : List Nat} (h : Asc 0 n l) : num n l = below n l.length + numGo n 0 l := by
  unfold num
  rw [rk_go n 0 l h, Nat.zero_add]
/-! ### all lots of a size -/
def nx (l : List Nat) : Nat := match l.getLast? with
  | some x => x + 1
  | none => 0
def stepL (n : Nat) (L : List (List Nat)) : List (List Nat) := L.flatMap fun l => (List.range' (nx l) (n - nx l)).map fun x => l ++ [x]
def lotsL (n : Nat) : Nat → List (List Nat)
  | 0 => [[]]
  | s + 1 => stepL n (lotsL n s)
/-- the law's own: lots that can't be filled up are left out -/
def lawStep (n s t : Nat) (L : List (List Nat)) : List (List Nat) := L.flatMap fun l => (List.range' (nx l) (n - s + t + 1 - nx l)).map fun x => l ++ [x]
def lawL (n s : Nat) : Nat → List (List Nat)
  | 0 => [[]]
  | t + 1 => lawStep n s t (lawL n s t)
def allL (n : Nat) : List (List Nat) := (List.range (n + 1)).flatMap fun s => lotsL n s
theorem lots_law : ∀ n : Nat, n < 13 → ∀ s : Nat, s < n + 1 → lawL n s s = lotsL n s := by decide +kernel
theorem lots_len : ∀ n : Nat, n < 13 → ∀ s : Nat, s < 13 → (lotsL n s).length = ch n s := by decide +kernel
theorem lots_nums : ∀ n : Nat, n < 7 → (allL n).map (num n) = List.range (2 ^ n) := by decide +kernel
end Kr
namespace Kr
open PySem PySem.Spec PyProof.Rows L2
/-- the inner walk of a comprehension with two -/
def Inner (D : Addr) (J1 : It) (g1 : TG) (tt1 : TT) (te : TE) (vs1 : List Nat) (σ2 : L2.St) (H4 : Hp) (Nx : Hp → Prop) : Prop :=
  ∃ W1 : Nat → Nat → Hp → Prop, (∃ m, W1 0 m H4) ∧ ∀ j k H, W1 j k H →
      (J1.stop j H ∧ Nx H) ∨ (J1.go j H ∧ ∃ Nx1 : Hp → Prop, (∀ H', Nx1 H' → ∃ k', k' < k ∧ W1 (j + 1) k' H') ∧ ∀ x H', J1.yld j H x H' → g1 x (wipe σ2 vs1) H' fun σ3 H5 => wipe σ3 vs1 = wipe σ2 vs1 ∧ tt1 σ3 H5 fun b H6 =>
        if b = true then te σ3 H6 fun y H7 => ∃ acc, H7 D = some (.lst acc) ∧ acc.length < sizeLine ∧ Nx1 (upd H7 D (.lst (acc ++ [y]))) else Nx1 H6)
theorem inner_it {J1 : It} {n1 : Nat} {G1 : Hp → Prop} {Y1 : Nat → Hp → V → Hp → Prop} (w : Walk J1 n1 G1 Y1) {D : Addr} {g1 : TG} {tt1 : TT} {te : TE} {vs1 : List Nat} {σ2 : L2.St} {H4 : Hp} {Nx : Hp → Prop} (Pv : Nat → Hp → Prop) (h0 : Pv 0 H4) (hG : ∀ j H, j ≤ n1 → Pv j H → G1 H)
    (hs : ∀ j x H H', j < n1 → Pv j H → Y1 j H x H' → g1 x (wipe σ2 vs1) H' fun σ3 H5 => wipe σ3 vs1 = wipe σ2 vs1 ∧ tt1 σ3 H5 fun b H6 => if b = true then te σ3 H6 fun y H7 => ∃ acc, H7 D = some (.lst acc) ∧ acc.length < sizeLine ∧ Pv (j + 1) (upd H7 D (.lst (acc ++ [y]))) else Pv (j + 1) H6)
    (hd : ∀ H, Pv n1 H → Nx H) : Inner D J1 g1 tt1 te vs1 σ2 H4 Nx := by
  refine ⟨fun j k H => k = n1 - j ∧ j ≤ n1 ∧ Pv j H, ⟨n1, by simp, Nat.zero_le _, h0⟩, ?_⟩
  rintro j k H ⟨rfl, hj, p⟩
  have q := hG j H hj p
  by_cases hlt : j < n1
  · exact .inr ⟨w.goes j H hlt q, Pv (j + 1), fun H' p' => ⟨n1 - (j + 1), by omega, rfl, hlt, p'⟩, fun x H' y => hs j x H H' hlt p (w.yields j H x H' hlt q y)⟩
  · obtain rfl : j = n1 := by omega
    exact .inl ⟨w.stops H q, hd H p⟩
theorem lc2_it {J : It} {n : Nat} {G : Hp → Prop} {Y : Nat → Hp → V → Hp → Prop} (w : Walk J n G Y) {D : Addr} {g g1 : TG} {tt tt1 : TT} {wi1 : TI} {te : TE} {vs vs1 : List Nat} {σ : L2.St} {H1 : Hp} {Qd : Hp → Prop} (Pv : Nat → Hp → Prop) (h0 : Pv 0 (upd H1 D (.lst []))) (hG : ∀ i H, i ≤ n → Pv i H → G H)
    (hs : ∀ i x H H', i < n → Pv i H → Y i H x H' → g x (wipe σ vs) H' fun σ2 H2 => wipe σ2 vs = wipe σ vs ∧ tt σ2 H2 fun b H3 => if b = true then wi1 σ2 H3 fun J1 H4 => Inner D J1 g1 tt1 te vs1 σ2 H4 (Pv (i + 1)) else Pv (i + 1) H3) (hd : ∀ H, Pv n H → Qd H) :
    ∃ W : Nat → Nat → Hp → Prop, (∃ m, W 0 m (upd H1 D (.lst []))) ∧ ∀ i m H, W i m H →
      (J.stop i H ∧ Qd H) ∨ (J.go i H ∧ ∃ Nx : Hp → Prop, (∀ H', Nx H' → ∃ m', m' < m ∧ W (i + 1) m' H') ∧ ∀ x H', J.yld i H x H' → g x (wipe σ vs) H' fun σ2 H2 => wipe σ2 vs = wipe σ vs ∧ tt σ2 H2 fun b H3 =>
        if b = true then wi1 σ2 H3 fun J1 H4 => Inner D J1 g1 tt1 te vs1 σ2 H4 Nx else Nx H3) := by
  refine ⟨fun i m H => m = n - i ∧ i ≤ n ∧ Pv i H, ⟨n, by simp, Nat.zero_le _, h0⟩, ?_⟩
  rintro i m H ⟨rfl, hi, p⟩
  have q := hG i H hi p
  by_cases hlt : i < n
  · exact .inr ⟨w.goes i H hlt q, Pv (i + 1), fun H' p' => ⟨n - (i + 1), by omega, rfl, hlt, p'⟩, fun x H' y => hs i x H H' hlt p (w.yields i H x H' hlt q y)⟩
  · obtain rfl : i = n := by omega
    exact .inl ⟨w.stops H q, hd H p⟩
/-- data of a list of lists of numbers -/
def lotD (l : List Nat) : PyData := .tuple (l.map fun (x : Nat) => .int (x : Int))
def lv (l : List Nat) : List V := l.map fun (x : Nat) => V.int (x : Int)
theorem lv_dq {H : Hp} (l : List Nat) : DqA H (lv l) (l.map fun (x : Nat) => PyData.int (x : Int)) := by
  induction l with
  | nil => exact .nil
  | cons x l ih => exact .cons (.int _) ih
theorem lot_at {H : Hp} {a : Addr} {l : List Nat} (h : H a = some (.tup (lv l))) : Dq H (.ref a) (lotD l) := .tup h (lv_dq l)
theorem lot_inv {H : Hp} {v : V} {l : List Nat} (h : Dq H v (lotD l)) : ∃ a, v = .ref a ∧ H a = some (.tup (lv l)) := by
  obtain ⟨a, xs, rfl, e, q⟩ := Dq.tup_inv h
  have : ∀ (xs : List V) (l : List Nat), DqA H xs (l.map fun (x : Nat) => PyData.int (x : Int)) → xs = lv l := by
    intro xs l
    induction l generalizing xs with
    | nil => intro q; cases q; rfl
    | cons x l ih =>
      intro q
      cases q with
      | cons h1 h2 =>
        cases h1
        rw [ih _ h2]
        rfl
  rw [this xs l q] at e
  exact ⟨a, rfl, e⟩
theorem lot_flat (l : List Nat) : flatT (lotD l) = true := by
  simp only [lotD, flatT]
  exact flatTA_of fun d hd => by
    obtain ⟨x, _, rfl⟩ := List.mem_map.mp hd
    rfl
theorem lots_flat (L : List (List Nat)) : flatTA (L.map lotD) = true := flatTA_of fun d hd => by
  obtain ⟨l, _, rfl⟩ := List.mem_map.mp hd
  exact lot_flat l
theorem lots_get {H : Hp} {xs : List V} {L : List (List Nat)} {i : Nat} {y : V} (q : DqA H xs (L.map lotD)) (e : xs[i]? = some y) : ∃ l, L[i]? = some l ∧ ∃ a, y = .ref a ∧ H a = some (.tup (lv l)) := by
  obtain ⟨d, h1, h2⟩ := q.get e
  rw [List.getElem?_map] at h1
  cases hr : L[i]? with
  | none => rw [hr] at h1; cases h1
  | some l =>
    rw [hr] at h1
    cases Option.some.inj h1
    exact ⟨l, rfl, lot_inv h2⟩
end Kr
namespace PySem
namespace TooX
open PySem.W PySem.Calls PyProof.Rows PySem.HandSPX
/-! ### the text of __init__ -/
def iA (p1 p2 : Pos) : Arguments := { posonlyargs := [], args := [{ arg := "self", annotation := none, pos := p1 }, { arg := "limit", annotation := none, pos := p2 }], vararg := none, kwonlyargs := [], kw_defaults := [], kwarg := none, defaults := [] }
def iB (q1 q2 q3 q4 : Pos) : List Stmt := [.Assign [.Attribute (.Name "self" q1) "limit" q2] (.Name "limit" q3) q4]
def iS : Scope := { kind := .function, names := [(PySem.Str.ofString "self", .local), (PySem.Str.ofString "limit", .local)], isGenerator := false, isCoroutine := false, more := [] }
/-- what the written part says of Low, at C, and of its __init__, at fI -/
structure TooTxt (K : Frag) (mg : Str → Option Value) (C fI : Addr) : Prop where
  gC : mg "TooMany" = some (.ref C)
  cls : ∃ nm q N bs bm sn sub ab col dd k0 k1 k2 k3 k5, K.lookup C = some (excClassObj nm q C N bs bm true sn sub ab col dd k0 k1 k2 k3 k5 "ValueError.__new__") ∧ refsVE bm = true
  sa : findIn K (.ref C) "__setattr__" = some (some (.builtin "object.__setattr__"))
  ga : findIn K (.ref C) "__getattribute__" = some (some (.builtin "BaseException.__getattribute__"))
  gg : findIn K (.ref C) "__getattr__" = some none
  noN : findIn K (.ref C) "limit" = some none
  iC : findIn K (.ref C) "__init__" = some (some (.ref fI))
  tC : typeIn K (.ref fI) = some (.type "function")
  kC : keepIn K (.ref C) = true
  exC : subIn K (.ref C) (.type "BaseException") = some true
  tyC : typeIn K (.ref C) = some (.type "type")
  hdC : hasDictIn K C = true
  te : exmOne K (.ref C) (.ref C) = some true
  fn : ∃ (oc : Value) (od : Option Addr) (doc pm : Value) (an : Option Addr) (cdv ct : Value) (osl : Array (Option Value)) (p1 p2 q1 q2 q3 q4 : Pos),
    K.lookup fI = some ⟨oc, od, .func (fnOf "__init__" "TooMany.__init__" (iA p1 p2) (iB q1 q2 q3 q4) iS .none .none doc pm an cdv ct), osl⟩ ∧ codeIn K cdv "TooMany.__init__" = true
theorem one_size (v : Value) : [v].length ≤ sizeLine := by
  rw [sizeLine_eq]
  exact (by decide : 1 ≤ 16777216)
theorem kept_but {K : Frag} {h h' : Heap} {x : Addr} (X : K.In h) (hx : K.lookup x = none) (k : ∀ b o, b ≠ x → h.get? b = some o → h'.get? b = some o) : K.In h' := fun a o e =>
  k a o (fun z => by rw [z, hx] at e; cases e) (X a o e)
theorem ldC {M : Model} {s : Shared} {name : Str} {scope : Scope} {L a : Addr} {cd : Value} {m : Str → Option Value} {x : Str} {pos : Pos} {v : Value} {Q : Value → Shared → Prop} {A : Around} {E : Value → Shared → Prop} (hn : s.heap.Ns L m) (hv : m x = some v) (h : Q v s)
    (hk : scope.kind = .function := by rfl) (hl : (envOfC name scope L a cd).kindOf x = some .local := by rfl) (hd : (x == ("__debug__" : Str)) = false := by decide) :
    wpAny M A (eval (.Name x pos) (envOfC name scope L a cd)) Q E s := wpAny_Name (wpAny_loadName_local hk hl hn hv h) hd
/-- what __init__ leaves of a fresh exception at x -/
structure InitEnd (h h' : Heap) (x C dx t1 : Addr) (v : Value) : Prop where
  keep : ∀ b o, b ≠ x → h.get? b = some o → h'.get? b = some o
  obj : h'.get? x = some { cls := .ref C, dict := some dx, data := .fields #[.ref t1, .none, .none, .none, .bool false, .none] }
  dbig : h.objs.size ≤ dx
  dne : dx ≠ x
  ns : h'.Ns1 dx (fun y => if y = "limit" then some v else none)
/-- a made Low -/
structure OwnMade (h h' : Heap) (e C d : Addr) (v : Value) : Prop where
  keep : ∀ b o, h.get? b = some o → h'.get? b = some o
  new : h.objs.size ≤ e
  obj : ∃ oe vs, h'.get? e = some oe ∧ oe.cls = .ref C ∧ oe.dict = some d ∧ oe.data = .fields vs ∧ vs[1]? = some .none
  dbig : h.objs.size ≤ d
  dne : d ≠ e
  ns : h'.Ns1 d (fun y => if y = "limit" then some v else none)
section
variable {prog : Program} {w : World} {A : Around} {E : Value → Shared → Prop} {R : Result → Shared → Prop} {s : Shared} {K : Frag} {mg : Str → Option Value} {C fI : Addr}
theorem too_init (T : TooTxt K mg C fI) {x t0 : Addr} {v : Value} (X : K.In s.heap) (hlim : s.heap.NoLimit) (hx : s.heap.get? x = some (excO C t0)) (hnx : K.lookup x = none) (hroom : A.depth < recursionLimit)
    (hq : ∀ h' tk dx, InitEnd s.heap h' x C dx t0 v → R (.ok (.ret .none)) { s with heap := h', toks := tk }) :
    codeAny (model prog w) A (.call (.ref fI) ⟨[.ref x, v], []⟩) R s := by
  obtain ⟨oc, od, doc, pm, an, cdv, ct, osl, p1, p2, q1, q2, q3, q4, ho, hcd⟩ := T.fn
  obtain ⟨nm, q, N, bs, bm, sn, sub, ab, col, dd, k0, k1, k2, k3, k5, hC, hbm⟩ := T.cls
  have hcl : clsIn K C = some { name := nm, bases := bs, mro := .ref C :: bm, ns := N, qualname := q, hasDict := true, slotNames := sn, subclasses := sub, abstract := ab, collection := col, hasDel := false } := by unfold clsIn; rw [hC] <;> rfl
  refine Att.call_fn (binds := [("self", .ref x), ("limit", v)]) X hlim ho hcd hroom (BindsTo.of_eq (by first | rfl | with_unfolding_all rfl)) (by first | rfl | decide | with_unfolding_all rfl) (fun s₁ IC => ?_) rfl rfl rfl
  obtain ⟨h₁, tk₁, rfl⟩ := IC.toInCall.same
  have k : ∀ b o, s.heap.get? b = some o → h₁.get? b = some o := IC.toInCall.keep
  have hn := IC.toInCall.ns
  have hxL : s.heap.objs.size ≠ x := Nat.ne_of_gt (Heap.lt_size hx)
  have X₁ : K.In h₁ := X.keeps k
  have hx₁ := k _ _ hx
  -- self.by = by
  show wpAny _ _ (execs _ _) _ _ _
  refine wpAny_execs_cons (plainObj_wpAny_Assign_Attribute ?_)
  refine ldC (v := v) hn (by first | rfl | with_unfolding_all rfl | kernel_rfl) (ldC (v := .ref x) hn (by first | rfl | with_unfolding_all rfl | kernel_rfl) ?_)
  refine set_plain X₁ (ox := excO C t0) (od := none) ⟨hx₁, rfl, rfl, trivial⟩ T.sa ?_
  refine exc_osa X₁ hx₁ hcl (show refsVE (.ref C :: bm) = true from hbm) rfl T.noN (fun h₃ tk₃ dx k₃ dn dne hx₃ hn₃ => ?_)
  show wpAny _ _ (execs _ _) _ _ _
  have z : s.heap.objs.size < h₁.objs.size := hn.lt
  exact wpAny_execs_nil (hq h₃ tk₃ dx ⟨fun b o hb e => k₃ b o hb (k b o e), hx₃, Nat.le_of_lt (Nat.lt_of_lt_of_le z dn), dne, hn₃⟩)
theorem too_made (T : TooTxt K mg C fI) {v : Value} (X : K.In s.heap) (hlim : s.heap.NoLimit) (hroom : A.depth + 1 < recursionLimit)
    (hq : ∀ h' tk e d, OwnMade s.heap h' e C d v → R (.ok (.ret (.ref e))) { s with heap := h', toks := tk }) :
    codeAny (model prog w) A (.call (.ref C) ⟨[v], []⟩) R s := by
  obtain ⟨nm, q, N, bs, bm, sn, sub, ab, col, dd, k0, k1, k2, k3, k5, hC, hbm⟩ := T.cls
  obtain ⟨hp, g, dr, tk, os⟩ := s
  have k : ∀ b o, hp.get? b = some o → ((hp.push (kdv_tup [v])).push (excO C hp.objs.size)).get? b = some o := fun b o e => Heap.get?_push_of_some _ (Heap.get?_push_of_some _ e)
  have hget : ((hp.push (kdv_tup [v])).push (excO C hp.objs.size)).get? (hp.objs.size + 1) = some (excO C hp.objs.size) := by heap_get
  have hnx : K.lookup (hp.objs.size + 1) = none := by
    cases e : K.lookup (hp.objs.size + 1) with
    | none => rfl
    | some o =>
      have z : hp.get? (hp.objs.size + 1) = some o := X _ _ e
      exact absurd (Nat.lt_of_succ_lt (Heap.lt_size z)) (Nat.lt_irrefl _)
  refine call_own F.excBase_ValueError (fun X => refsVE_contains X bm hbm) (X _ _ hC) (looks_findIn X T.iC) (fun self => bind_fn X self T.tC) (one_size v) ?_
  refine too_init (s := ⟨(hp.push (kdv_tup [v])).push (excO C hp.objs.size), g, dr, tk, os⟩) T (X.keeps k) (hlim.keeps k) hget hnx ?_ fun h' tk' dx ⟨k', hx, dn, dne, hns⟩ => ?_
  · show A.depth + 1 < recursionLimit
    exact hroom
  · have old : ∀ b o, hp.get? b = some o → h'.get? b = some o := fun b o e => k' b o (Nat.ne_of_lt (Nat.lt_succ_of_lt (Heap.lt_size e))) (k b o e)
    have z : hp.objs.size + 1 + 1 ≤ dx := by
      first
        | (simpa only [Heap.size_push] using dn)
        | exact dn
        | (have q := dn; rw [Heap.size_push, Heap.size_push] at q; exact q)
    exact ⟨rfl, hq h' tk' (hp.objs.size + 1) dx ⟨old, Nat.le_succ _, ⟨_, _, hx, rfl, rfl, rfl, rfl⟩, Nat.le_trans (Nat.le_trans (Nat.le_succ _) (Nat.le_succ _)) z, dne, hns⟩⟩
end
end TooX
end PySem
namespace L2
open PySem PySem.Spec PyProof.Rows
theorem relO_too {v : V} {v' : Value} (r : RelV v v') (f : Str) : RelO (List.lookup f [(("limit" : Str), v)]) (if f = "limit" then some v' else none) := by
  by_cases hw : f = "limit"
  · subst hw
    rw [if_pos rfl]
    have q : List.lookup ("limit" : Str) [(("limit" : Str), v)] = some v := by simp [List.lookup]
    rw [q]
    exact r
  · rw [if_neg hw]
    have qw : (f == ("limit" : Str)) = false := by simpa using hw
    have q2 : List.lookup f [(("limit" : Str), v)] = none := by simp [List.lookup, qw]
    rw [q2]
    trivial
section
variable {X : Cx} {C fI : Addr}
/-- Low(e) -/
def tMkToo (C : Addr) (ta : TA) : St → Hp → XK → Prop := fun σ H Q => ta σ H fun vs H1 => ∃ v, vs = [v] ∧ ∀ d, H1 d = none → Q (.ref C) (some d) (upd H1 d (.xd [(("limit" : Str), v)]))
theorem pmk_too {a : Expr} {ta : TA} {p pos : Pos} {k : Nat} (T : PySem.TooX.TooTxt X.K X.mg C fI) (hr : Room k X.A) (ha : PA X [a] ta) (hg : Gl X "TooMany" := by rfl)
    (he : starEach (a :: []) X.env = (false, eval a X.env) :: starEach [] X.env := by rfl) (hpl : (backTo pos (starEach [] X.env)).any (·.1) = false := by rfl) :
    PMk X (.Call (.Name "TooMany" p) [a] [] pos) (tMkToo C ta) := by
  intro pins s σ H Q I h
  refine wpAny_Call_Name_kw (ld_glob I hg T.gC ?_)
  refine PySem.W.callWith_K (h₀ := X.base) I.ok.mod.kin T.kC (thn (ha.run pos pins s σ H _ I h) fun us s1 hh => ?_) he hpl
  obtain ⟨vs, H1, I1, r1, v, ev, q1⟩ := hh
  subst ev
  refine ⟨I1.kIn, ?_⟩
  cases r1 with
  | cons rv rn =>
    rename_i v' us'
    cases rn
    show wpAny _ _ (call (.ref C) [v']) _ _ _
    have hlim := I1.nolimit
    obtain ⟨hp, g, dr, tk, os⟩ := s1
    refine wpAny_call (PySem.TooX.too_made T I1.kIn hlim (by have := hr.dp; omega) fun h' tk' e d M => ?_)
    show MkP X pins σ Q (.ref e) ⟨h', g, dr, tk', os⟩
    obtain ⟨oe, fv, hoe, hc, hd, hdat, h1⟩ := M.obj
    have hns := M.ns
    obtain ⟨G', g1, g2⟩ := restrict h' fun b => decide (b ≠ e)
    have gk : ∀ b, b ≠ e → G'.get? b = h'.get? b := fun b hb => g1 b (decide_eq_true hb)
    have ge : G'.get? e = none := g2 e (by simp)
    have old : ∀ b o, hp.get? b = some o → G'.get? b = some o := fun b o q => (gk b (Nat.ne_of_lt (Nat.lt_of_lt_of_le (Heap.lt_size q) M.new))).trans (M.keep b o q)
    have ob : ObjOk X.prog X.w (upd H1 d (.xd [(("limit" : Str), v)])) G' d (.xd [(("limit" : Str), v)]) :=
      ⟨_, hns.at (fun o q => (gk d M.dne).trans q), fun f => relO_too rv f⟩
    have J : Inv X pins σ (upd H1 d (.xd [(("limit" : Str), v)])) ⟨G', g, dr, tk', os⟩ := I1.laid (t' := tk') old M.dbig ob
    refine ⟨e, oe, fv, ⟨G', g, dr, tk', os⟩, _, .ref C, some d, rfl, J, fun b o q => ?_, ge, hoe, ⟨hc, hd⟩, hdat, h1, ?_, rfl, I1.bare, raises_own T.exC T.tyC, q1 d (I1.hok.fresh M.dbig)⟩
    · by_cases hb : b = e
      · have q' : G'.get? b = some o := q
        rw [hb, ge] at q'; cases q'
      · exact (gk b hb).symm.trans q
    · rw [upd_ne (Ne.symm M.dne)]
      exact I1.hok.fresh M.new
/-- raise Low(e) -/
def tRaiseToo (C : Addr) (W : WX) (ta : TA) : TS := fun _ σ H => tMkToo C ta σ H fun cls d H' => W cls d σ H'
theorem ps_raiseToo {a : Expr} {ta : TA} {W : WX} {p pos pos2 : Pos} {k : Nat} (hc : X.calm = true) (T : PySem.TooX.TooTxt X.K X.mg C fI) (hr : Room k X.A) (tk : Takes X W) (ha : PA X [a] ta) (hg : Gl X "TooMany" := by rfl)
    (he : starEach (a :: []) X.env = (false, eval a X.env) :: starEach [] X.env := by rfl) (hpl : (backTo pos (starEach [] X.env)).any (·.1) = false := by rfl) :
    PS X (.Raise (some (.Call (.Name "TooMany" p) [a] [] pos)) none pos2) (tRaiseToo C W ta) := ps_raise hc tk (pmk_too T hr ha hg he hpl)
/-- low.by, low the exception that the suite holds (at a; its class cls, its dict d) -/
def tByToo (C : Addr) (a : Addr) (cls : Value) (d : Option Addr) (te : TE) : TE := fun σ H Q => te σ H fun x H1 => x = .ref a ∧ cls = .ref C ∧ ∃ (dd : Addr) (v : V), d = some dd ∧ H1 dd = some (.xd [(("limit" : Str), v)]) ∧ Q v H1
theorem pe_byToo {a : Addr} {oe : Obj} {cls : Value} {d : Option Addr} {pn : List (Addr × Obj)} {e : Expr} {te : TE} {pos : Pos} (T : PySem.TooX.TooTxt X.K X.mg C fI) (hz : Zc cls d oe) (hf : ∃ vs, oe.data = .fields vs) (he : PE (X.suite a ((a, oe) :: pn)) e te)
    (hb : attributeBase e "limit" X.env (eval e X.env) = eval e X.env := by rfl) :
    PE (X.suite a ((a, oe) :: pn)) (.Attribute e "limit" pos) (tByToo C a cls d te) := by
  refine ⟨fun pins s σ H Q I h => ?_⟩
  refine attr_of hb (thn (he.run pins s σ H _ I h) fun u s1 hh => ?_)
  obtain ⟨x, H1, I1, rx, ex, ec, dd, v, ed, ea, q⟩ := hh
  subst ex
  obtain rfl : u = Value.ref a := rx
  subst ec
  subst ed
  obtain ⟨ha, _⟩ := I1.pin (a, oe) (List.mem_append_left _ List.mem_cons_self)
  obtain ⟨vs, hd⟩ := hf
  have hx : ObjOk X.prog X.w H1 s1.heap dd (.xd [(("limit" : Str), v)]) := I1.hok dd _ ea
  obtain ⟨mA, hns, hr⟩ := hx
  obtain ⟨od, ho, hl⟩ := lookIn_ns hns
  have l : List.lookup ("limit" : Str) [(("limit" : Str), v)] = some v := by simp [List.lookup]
  obtain ⟨u, hu, ru⟩ := RelO.some_of (v := v) (o := mA "limit") (by rw [← l]; exact hr "limit")
  have J : PySem.W.InstAt s1.heap a oe C (some od) := ⟨ha, hz.1, by unfold PySem.W.notCls; rw [hd] <;> rfl, by rw [hz.2]; exact ho⟩
  exact HandSPX.exc_get I1.kIn J T.ga T.gg T.exC (PySem.W.findObj_own T.hdC T.noN rfl (by rw [hl, hu])) (handed_of ru) ⟨v, H1, I1.tok _, ru, q⟩
end
end L2
/-! isinstance of a caught error that has a dict of its own -/
namespace PySem.W
open PySem PySem.Spec PySem.Calls PyProof.Rows
section
variable {prog : Program} {w : World} {A : Around} {E : Value → Shared → Prop} {s : Shared} {K : Frag} {x D : Addr} {ox : Obj} {od : Option Obj}
theorem dfind {C : Addr} {nm : Str} {a g : Value} (c1 : (clsIn K C).isSome = true) (c2 : findIn K (.ref C) nm = some (some a)) (c3 : specialIn K a "__get__" = some (some g)) (c4 : takesIn K a = some true) : findObj K C od nm = some (.bind g a) := by
  obtain ⟨cd, e⟩ := Option.isSome_iff_exists.mp c1
  unfold findObj; rw [e, Option.bind_some, c2, Option.bind_some]; simp [c3, c4]
structure DCls (K : Frag) (D : Addr) : Prop where
  ga : findIn K (.ref D) "__getattribute__" = some (some (.builtin "BaseException.__getattribute__"))
  gt : findIn K (.ref D) "__getattr__" = some none
  sb : subIn K (.ref D) (.type "BaseException") = some true
  hd : hasDictIn K D = true
  cl : findIn K (.ref D) "__class__" = some (some (.builtin "object.__class__"))
  sp : specialIn K (.builtin "object.__class__") "__get__" = some (some (.builtin "getset_descriptor.__get__"))
  tk : takesIn K (.builtin "object.__class__") = some true
  mr : mroIn K D (.type "object") = some true
theorem dclass {Q : Option Value → Shared → Prop} (C : DCls K D) (X : K.In s.heap) (I : InstAt s.heap x ox D od) (h : Q (some (.ref D)) { s with toks := s.toks + 1 }) : wpAny (model prog w) A (getAttr? (.ref x) "__class__") Q E s := by
  have hf : findObj K D od "__class__" = some (.bind (.builtin "getset_descriptor.__get__") (.builtin "object.__class__")) := dfind (by obtain ⟨cd, hc, _⟩ := any_some C.hd; rw [hc]; rfl) C.cl C.sp C.tk
  obtain ⟨hp, g, d, t, os⟩ := s
  have La := I.type (M := model prog w)
  have Lb := looks_findIn (M := model prog w) X C.ga
  have Lc := looks_findIn (M := model prog w) X C.gt
  have Ld := looks_find (M := model prog w) X I hf
  have Le : Looks (model prog w) hp (isInstance (.ref x) (.type "BaseException")) true := La.andThen (looks_subIn X C.sb)
  have n0 : (false && onTheHeap (Value.builtin "BaseException.__getattribute__")) = false := rfl
  have n2 : (Value.builtin "BaseException.__getattribute__" == Value.builtin "object.__getattribute__") = false := by decide +kernel
  have n1 : (onTheHeap (Value.ref D) && Value.builtin "BaseException.__getattribute__" == Value.builtin "object.__getattribute__") = false := by rw [n2]; rfl
  unfold getAttr? getAttrBy? getAttrBy
  refine wpAny_bind (wpAny_mkText (wpAny_bind (wpAny_attempt (wpAny_holding (wpAny_bind (La.at (wpAny_bind (Lb.at ?_))))))))
  show wpAny _ _ (if (onTheHeap (Value.ref D) && Value.builtin "BaseException.__getattribute__" == Value.builtin "object.__getattribute__") = true then _ else _) _ _ _; rw [n1, if_neg Bool.false_ne_true]; unfold getAttrByItsOwn hookBefore
  refine wpAny_bind ?_; rw [if_pos (show onTheHeap (Value.ref D) = true from rfl)]
  refine Lc.at (wpAny_bind (wpAny_attempt (wpAny_holding ?_))); unfold callGetattribute
  rw [n0, if_neg Bool.false_ne_true]; unfold boundAndCalled
  rw [PySem.F.excAttr_ValueError.ga.bind (.ref x)]; refine wpAny_bind (wpAny_pure ?_)
  show wpAny _ _ (call (.builtin "BaseException.__getattribute__") [.ref x, .str "__class__" t]) _ _ _; refine wpAny_call (codeAny_call_builtin PySem.F.excAttr_ValueError.ga.plain PySem.F.entry_bexc_ga ?_)
  refine @check_slot (model prog w) _ _ ⟨hp, g, d, t + 1, os⟩ "BaseException.__getattribute__" "BaseException" "__getattribute__" (.ref x) [.str "__class__" t] [] _ (by decide +kernel) (by decide +kernel) Le (PySem.F.args_bexc_ga (.ref x) (.str "__class__" t)) ?_
  unfold Builtin.«object.__getattribute__»; refine wpAny_bind (wpAny_of_eq (a := ((Value.ref x : Value), [Value.str "__class__" t])) (by first | rfl | (simp only [slotArgs]; rfl)) ?_)
  refine wpAny_bind (wpAny_pure (wpAny_bind (La.at (wpAny_bind (Ld.at ?_)))))
  show wpAny _ _ (holding [Value.builtin "object.__class__"] (call (.builtin "getset_descriptor.__get__") [.builtin "object.__class__", .ref x, .ref D]) >>= ret) _ _ _
  refine wpAny_bind (wpAny_holding (wpAny_call (class_get (s := ⟨hp, g, d, t + 1, os⟩) (ox := ox) (od := od) X I C.mr (wpAny_pure ?_))))
  show wpAny _ _ (handedOut (.ref D)) _ _ _; rw [handedOut_of (v := .ref D) rfl]
  first | exact wpAny_pure (wpAny_pure h) | exact wpAny_pure h | exact wpAny_pure (wpAny_bind (wpAny_pure (wpAny_pure h)))
theorem dkit (C : DCls K D) : KitX K (.ref x) (.ref D) (fun h => InstAt h x ox D od) where
  ty := fun _ _ _ I => I.type
  it := fun _ _ X _ => by
    obtain ⟨cdD, hcD, _⟩ := any_some C.hd
    unfold clsIn at hcD
    split at hcD
    · rename_i c' d' cd' sl' ho
      exact fun {A' Q' E' s'} k q => by unfold isType loadHead; exact wpAny_bind (wpAny_loadPart (k _ _ (X _ _ ho)) (wpAny_pure q))
    · cases hcD
  ne := fun h tp dd its n sl X htp => by
    obtain ⟨cdD, hcD, _⟩ := any_some C.hd
    refine Bool.eq_false_iff.mpr fun q => ?_
    obtain rfl : D = tp := Value.ref.inj (beq_iff_eq.mp q)
    unfold clsIn at hcD
    split at hcD
    · rename_i c' d' cd' sl' ho
      cases (X _ _ ho).symm.trans htp
    · cases hcD
  ca := fun X I k => dclass C X I k
end
end PySem.W
namespace L2
open PySem PySem.Spec PyProof.Rows
def rIsD (K : PySem.W.Frag) (D a : Addr) : List V → Hp → VK → Prop := fun xs H Q => ∃ (c : V) (cv : Value) (b : Bool) (dd : Addr) (fs : List (Str × V)), xs = [.ref a, c] ∧ (∀ u, RelV c u → u = cv) ∧ PySem.W.kitOne K (.ref D) cv = some b ∧ Q (.bl b) H
theorem call_isD {X : Cx} {a D dd : Addr} {oe : Obj} {pn : List (Addr × Obj)} {fs : List (Str × V)} (C : PySem.W.DCls X.K D) (hz : Zc (.ref D) (some dd) oe) (hf : ∃ vs, oe.data = .fields vs) :
    CallR (X.suite a ((a, oe) :: pn)) (.builtin "isinstance") (fun xs H Q => ∃ (c : V) (cv : Value) (b : Bool), xs = [.ref a, c] ∧ (∀ u, RelV c u → u = cv) ∧ PySem.W.kitOne X.K (.ref D) cv = some b ∧ H dd = some (.xd fs) ∧ Q (.bl b) H) := by
  intro pn1 sh st hp xs us Q Iv r hh
  obtain ⟨c, cv, b, rfl, hcv, e, hx, q⟩ := hh
  cases r with
  | cons rx rr =>
    cases rr with
    | cons rt rr =>
      cases rr
      cases rx
      have ec := hcv _ rt
      subst ec
      obtain ⟨hget, _⟩ := Iv.pin (a, oe) (List.mem_append.mpr (.inl List.mem_cons_self))
      obtain ⟨vs, hv⟩ := hf
      obtain ⟨mA, hns, _⟩ : ObjOk X.prog X.w hp sh.heap dd (.xd fs) := Iv.hok dd _ hx
      obtain ⟨od, ho, _⟩ := lookIn_ns hns
      have J : PySem.W.InstAt sh.heap a oe D (some od) := ⟨hget, hz.1, by unfold PySem.W.notCls; rw [hv] <;> rfl, by rw [hz.2]; exact ho⟩
      exact PySem.W.kia_one (PySem.W.dkit C) Iv.kIn J e (fun z => nomatch z) fun tk => ⟨.bl b, hp, Iv.kept (t' := tk) fun _ _ z => z, rfl, q⟩
end L2
namespace Kr
open PySem PySem.Spec PyProof.Rows L2
theorem ch_small : ∀ n : Nat, n < 13 → ∀ s : Nat, s < 14 → ch n s < 1000 := by decide +kernel
theorem range1_succ (s j : Nat) : List.range' s (j + 1) = List.range' s j ++ [s + j] := by
  rw [List.range'_concat]
  simp
theorem flat_take {α β : Type} {L : List α} {f : α → List β} {i : Nat} {x : α} (h : L[i]? = some x) : (L.take (i + 1)).flatMap f = (L.take i).flatMap f ++ f x := by
  rw [List.take_add_one, h, List.flatMap_append]
  simp
theorem flat_le {α β : Type} (L : List α) (f : α → List β) (i : Nat) : ((L.take i).flatMap f).length ≤ (L.flatMap f).length := by
  conv => rhs; rw [← List.take_append_drop i L]
  rw [List.flatMap_append, List.length_append]
  omega
def exts (n : Nat) (l : List Nat) : List (List Nat) := (List.range' (nx l) (n - nx l)).map fun x => l ++ [x]
theorem step_exts (n : Nat) (L : List (List Nat)) : stepL n L = L.flatMap (exts n) := rfl
theorem nx_nil : nx [] = 0 := rfl
theorem nx_snoc (l : List Nat) (x : Nat) : nx (l ++ [x]) = x + 1 := by simp [nx]
theorem lv_snoc (l : List Nat) (x : Nat) : lv (l ++ [x]) = lv l ++ [V.int (x : Int)] := by simp [lv]
theorem lv_len (l : List Nat) : (lv l).length = l.length := by simp [lv]
theorem lots_in (n : Nat) : ∀ s, ∀ l ∈ lotsL n s, l.length = s ∧ ∀ x ∈ l, x < n
  | 0, l, h => by
    rw [List.mem_singleton.mp h]
    exact ⟨rfl, fun x hx => nomatch hx⟩
  | s + 1, l, h => by
    obtain ⟨k, hk, hl⟩ := List.mem_flatMap.mp h
    obtain ⟨x, hx, rfl⟩ := List.mem_map.mp hl
    obtain ⟨h1, h2⟩ := lots_in n s k hk
    have := List.mem_range'_1.mp hx
    refine ⟨by rw [List.length_append, h1]; rfl, fun y hy => ?_⟩
    rcases List.mem_append.mp hy with hy | hy
    · exact h2 y hy
    · rw [List.mem_singleton.mp hy]; omega
abbrev tNextL (K : PySem.W.Frag) (i : Nat) : TE := tIf (fun σ H Q => tVar i σ H fun x H' => ∃ k, TruV K x H' k ∧ Q k H') (tOp (rI0 fun i j => .int (i + j)) (tOp (rIxT K) (tVar i) (tUn (rU fun i => .int (-i)) (tC (.int 1)))) (tC (.int 1))) (tC (.int 0))
/-- what stands ahead of the extensions of a lot: lot[-1] + 1 if lot else 0 -/
theorem next_val {K : PySem.W.Frag} {σ : L2.St} {i : Nat} {a : Addr} {l : List Nat} {H : Hp} {Q : VK} (hv : σ[i]? = some (some (.ref a))) (ha : H a = some (.tup (lv l))) (q : Q (.int (nx l : Nat)) H) :
    tNextL K i σ H Q := by
  refine ⟨.ref a, hv, _, .inr (.inl ⟨_, SqT.of ha, rfl⟩), ?_⟩
  by_cases hl : l = []
  · subst hl
    exact iteF q
  · obtain ⟨k, x, rfl⟩ : ∃ k x, l = k ++ [x] := ⟨l.dropLast, l.getLast hl, (List.dropLast_concat_getLast hl).symm⟩
    rw [nx_snoc] at q
    have e : (!(lv (k ++ [x])).isEmpty) = true := by simp [lv]
    rw [e]
    refine iteT ⟨.ref a, hv, 1, rfl, a, _, -1, .int (x : Int), rfl, rfl, SqT.of ha, by rw [lv_snoc]; exact atI_last _ _, x, 1, rfl, rfl, ?_⟩
    have e2 : ((x : Int) + 1) = ((x + 1 : Nat) : Int) := by omega
    dsimp only
    rw [e2]
    exact q
def spLots : Sp := fun vs H Q _ => ∃ n s : Nat, vs = [.int (n : Int), .int (s : Int)] ∧ n ≤ 12 ∧ s ≤ 12 ∧ ∀ H' v, Same H H' → Dq H' v (.tuple ((lotsL n s).map lotD)) → Q v H'
def spAllLots (C : Addr) : Sp := fun vs H Q E => ∃ n : Nat, vs = [.int (n : Int)] ∧ n ≤ 24 ∧ (n ≤ 6 → ∀ H' v, Same H H' → Dq H' v (.tuple ((allL n).map lotD)) → Q v H') ∧ (6 < n → ∀ d, H d = none → E (.ref C) (some d) (upd H d (.xd [(("limit" : Str), V.int 6)])))
section
variable {P : Program} {w : World} {K : PySem.W.Frag} {mg : Str → Option Value} {base : Heap}
abbrev nLo : List Str := ["n", "size", "lots", "_", "lot", "place"]
theorem scLo : FnScope nLo ["n", "size"] (defScope sLotsOf) := ⟨rfl, rfl, rfl, by decide +kernel, rfl, by decide +kernel, by decide +kernel⟩
theorem f_lotsOf {f : Addr} {fd : FuncData} (F : Fun K "lots_of" "lots_of" sLotsOf f fd) (B : Bi mg) : FnOk P w K mg base CX0 1 f fd ["n", "size"] spLots := by
  refine F.ok scLo (fun vs H Q E h => ?_) (fun cdv A outer s H vs Q E hr h => ?_)
  · obtain ⟨n, s, rfl, _⟩ := h
    rfl
  · obtain ⟨n, s, rfl, hn, hs, q⟩ := h
    refine ⟨_, pss_cons (ps_set (i := 2) scLo.nd rfl (.inl rfl) (pe_lst (pa_cons (pe_tup pa_nil) pa_nil)))
      (pss_cons (ps_for PassesOwn.never rfl (pi_range1 (by rfl) B.range (pa_cons (pv 1) pa_nil)) (pg_name (i := 3) scLo.nd rfl (.inl rfl))
        (pss_one (ps_setLc2 (wi1 := iRng2 (tCons (tNextL K 4) (tCons (tVar 0) tNil))) (i := 2) (own := [("lot", 4), ("place", 5)]) (vs1 := [5]) (g := gName 4) (g1 := gName 5) (tt := tYes) (tt1 := tYes) rfl scLo.nd rfl rfl (sw_true rfl rfl rfl (by decide +kernel)) (pi_list (pv 2)) (blkOk_by (own := [("lot", 4), ("place", 5)]) (N := nLo) (sc := defScope sLotsOf) (by decide +kernel)) (by decide)
          (fun _ _ _ _ _ => pg_name (i := 4) scLo.nd rfl (.inl rfl)) (fun _ _ _ _ _ => pts_nil)
          (fun _ _ _ _ _ => by exact pi_range2 (by rfl) B.range (pa_cons (pe_ifExp (pt_truth (pv 4) (by intro _; rfl)) (pe_op op_add (pe_ix (r := rIxT K) ix_tup (pv 4) (pe_un un_neg pe_int) (fun _ _ => rfl)) pe_int) pe_int) (pa_cons (pv 0) pa_nil)))
          (fun _ _ _ _ _ => pg_name (i := 5) scLo.nd rfl (.inl rfl)) (fun _ _ _ _ _ => pts_nil)
          (fun _ _ _ _ _ => pe_op (r := rCatA K) op_catA (pv 4) (pe_tup (pa_cons (pv 5) pa_nil))))))
      (pss_one (ps_ret (pe_callTy call_tuple_of (by rfl) B.tuple (by decide +kernel) (pa_cons (pv 2) pa_nil))))), ?_⟩
    refine ⟨by show 0 ≤ sizeLine; decide, fun t nt => ⟨by show 1 ≤ sizeLine; decide, fun l0 nl0 => ?_⟩⟩
    have s0 := (same_new (o := .tup []) nt).trans (same_new (o := .lst [.ref t]) nl0)
    have ht0 : upd (upd H t (.tup [])) l0 (.lst [.ref t]) t = some (.tup (lv [])) := same_new (o := .lst [.ref t]) nl0 _ _ upd_same
    refine ⟨.int s, rfl, (s : Int), rfl, by omega, by omega, for_it (walk_rg (n := s)) (fun t σ H2 => ∃ (L : Addr) (us : List V) (v3 : Option V), σ = [some (.int n), some (.int s), some (.ref L), v3, none, none] ∧ (∀ b o, H b = some o → H2 b = some o) ∧ H2 L = some (.lst us) ∧ DqA H2 us ((lotsL n t).map lotD))
      ⟨l0, _, none, rfl, s0, upd_same, .cons (lot_at (l := []) ht0) .nil⟩ (fun _ _ _ _ _ => trivial) ?_ ?_⟩
    · rintro t x σ H2 H2' ht ⟨L, us, v3, rfl, sm, hL, qus⟩ ⟨rfl, rfl⟩
      have hul : us.length = (lotsL n t).length := by rw [qus.len, List.length_map]
      have hful : ((lotsL n t).flatMap (exts n)).length < 1000 := by
        have := lots_len n (by omega) (t + 1) (by omega)
        have h2 := ch_small n (by omega) (t + 1) (by omega)
        show (lotsL n (t + 1)).length < 1000
        omega
      refine ⟨.ref L, rfl, L, rfl, ⟨us, SqL.of hL⟩, fun D nD => ?_⟩
      refine lc2_it (walk_list (K := K) (a := L) (xs := us)) (fun i G => ∃ acc, G D = some (.lst acc) ∧ Same H2' G ∧ DqA G acc ((((lotsL n t).take i).flatMap (exts n)).map lotD)) ⟨[], upd_same, same_new nD, .nil⟩ (fun i G _ ⟨_, _, s2, _⟩ => SqL.of (s2 _ _ hL)) ?_ ?_
      · rintro i x G G' hi ⟨acc, hD, s2, qa⟩ ⟨rfl, hx⟩
        obtain ⟨l, hl, a, rfl, ha0⟩ := lots_get qus hx
        have ha := s2 _ _ ha0
        refine ⟨rfl, ?_⟩
        dsimp only [tYes]
        rw [if_pos rfl]
        refine next_val (l := l) rfl ha ⟨.int n, rfl, _, _, rfl, ⟨by omega, ?_, by omega, by omega⟩, ?_⟩
        · have hin := (lots_in n t l (List.mem_of_getElem? hl)).2
          by_cases hl0 : l = []
          · subst hl0
            rw [nx_nil]
            omega
          · have e : l = l.dropLast ++ [l.getLast hl0] := (List.dropLast_concat_getLast hl0).symm
            have := hin _ (List.getLast_mem hl0)
            rw [e, nx_snoc]
            omega
        have hnn : ((n : Int) - (nx l : Nat)).toNat = n - nx l := by omega
        rw [hnn]
        have hpre := flat_le (lotsL n t) (exts n) (i + 1)
        rw [flat_take hl, List.length_append] at hpre
        have hel : (exts n l).length = n - nx l := by unfold exts; rw [List.length_map, List.length_range']
        have hacc : acc.length = (((lotsL n t).take i).flatMap (exts n)).length := by rw [qa.len, List.length_map]
        refine inner_it (walk_range (lo := (nx l : Nat)) (n := n - nx l)) (fun j G2 => ∃ acc, G2 D = some (.lst acc) ∧ Same H2' G2 ∧ DqA G2 acc ((((lotsL n t).take i).flatMap (exts n) ++ (List.range' (nx l) j).map fun x => l ++ [x]).map lotD)) ⟨acc, hD, s2, by simpa using qa⟩ (fun _ _ _ _ => trivial) ?_ ?_
        · rintro j x G2 G2' hj ⟨acc2, hD2, s3, qa2⟩ ⟨rfl, rfl⟩
          refine ⟨rfl, ?_⟩
          dsimp only [tYes]
          rw [if_pos rfl]
          have ha2 : G2' a = some (.tup (lv l)) := s3 _ _ ha0
          refine ⟨.ref a, rfl, .int _, rfl, by show 1 ≤ sizeLine; decide, fun u nu => ?_⟩
          have su := same_new (o := .tup [.int ((nx l : Nat) + (j : Int))]) nu
          have hll : l.length ≤ 12 := by have := (lots_in n t l (List.mem_of_getElem? hl)).1; omega
          refine catA_k (su _ _ ha2) upd_same (by rw [lv_len]; show _ + 1 ≤ _; omega) fun y H5 s5 hy => ?_
          have hD5 := s5 _ _ (su _ _ hD2)
          have hl2 : acc2.length < 1000 := by
            have := qa2.len
            rw [List.length_map, List.length_append, List.length_map, List.length_range'] at this
            omega
          refine ⟨acc2, hD5, szm (by omega), acc2 ++ [.ref y], upd_same, fun b o hb => ?_, ?_⟩
          · rw [upd_ne (ne_of_none hb nD)]
            exact s5 _ _ (su _ _ (s3 _ _ hb))
          · have ts : TS H5 (upd H5 D (.lst (acc2 ++ [.ref y]))) := TS.lst hD5
            rw [range1_succ, List.map_append (f := fun x => l ++ [x]), ← List.append_assoc, List.map_append (f := lotD)]
            refine dqa_snoc (DqA.upT ts (lots_flat _) ((qa2.up su).up s5)) (Dq.upT ts (lot_flat _) ?_)
            refine lot_at ?_
            rw [hy, lv_snoc]
            simp
        · rintro G2 ⟨acc2, hD2, s3, qa2⟩
          refine ⟨acc2, hD2, s3, ?_⟩
          rw [flat_take hl]
          exact qa2
      · rintro G ⟨acc, hD, s2, qa⟩
        rw [hul, List.take_length] at qa
        exact ⟨D, acc, _, rfl, fun b o hb => s2 _ _ (sm _ _ hb), hD, qa⟩
    · rintro σ H2 ⟨L, us, v3, rfl, sm, hL, qus⟩
      exact ⟨.ref L, rfl, L, us, rfl, .inl ⟨SqL.of hL, fun t nt => q _ _ (fun b o hb => same_new nt _ _ (sm _ _ hb)) (.tup upd_same (qus.up (same_new nt)))⟩⟩
abbrev nAl : List Str := ["n", "size", "lot"]
theorem scAl : FnScope nAl ["n"] (defScope sAllLots) := ⟨rfl, rfl, rfl, by decide +kernel, rfl, by decide +kernel, by decide +kernel⟩
theorem f_allLots {f C fI : Addr} {fd : FuncData} (F : Fun K "all_lots" "all_lots" sAllLots f fd) (B : Bi mg) (T : PySem.TooX.TooTxt K mg C fI) (hM : ∃ t, mg "MAX_TABLE" = some (.int 6 t)) (lo : Ok P w K mg base 1 "lots_of" ["n", "size"] spLots) : FnOk P w K mg base (L2.CX P w) 2 f fd ["n"] (spAllLots C) := by
  obtain ⟨tM, gM⟩ := hM
  refine F.okX scAl (fun vs H Q E h => ?_) (fun cdv A outer s H vs Q E hr h => ?_)
  · obtain ⟨n, rfl, _⟩ := h
    rfl
  · obtain ⟨n, rfl, hn, q, qx⟩ := h
    refine ⟨_, pss_cons (ps_if (pt_cmpR op_gt (pv 0) (pe_glob (v := .int 6) (by rfl) gM ⟨_, rfl⟩) (nomark _)) (pss_one (ps_raiseToo rfl T hr (takes_of rfl rfl rfl rfl) (pa_cons (pe_glob (v := .int 6) (by rfl) gM ⟨_, rfl⟩) pa_nil))) pss_nil)
      (pss_one (ps_ret (pe_callTy call_tuple_of (by rfl) B.tuple (by decide +kernel) (pa_cons
        (pe_lc2 (wi1 := iTup K (tCall spLots [] E0 (tCons (tVar 0) (tCons (tVar 1) tNil)))) (own := [("size", 1), ("lot", 2)]) (vs1 := [2]) (g := gName 1) (g1 := gName 2) (tt := tYes) (tt1 := tYes) rfl scAl.nd (pi_range1 (by rfl) B.range (pa_cons (pe_op op_add (pv 0) pe_int) pa_nil)) (blkOk_by (own := [("size", 1), ("lot", 2)]) (N := nAl) (sc := defScope sAllLots) (by decide +kernel)) (by decide)
          (fun _ _ _ _ _ => pg_name (i := 1) scAl.nd rfl (.inl rfl)) (fun _ _ _ _ _ => pts_nil)
          (fun _ _ _ _ _ => by exact pi_tup (pe_fn lo hr (by rfl) (pa_cons (pv 0) (pa_cons (pv 1) pa_nil))))
          (fun _ _ _ _ _ => pg_name (i := 2) scAl.nd rfl (.inl rfl)) (fun _ _ _ _ _ => pts_nil) (fun _ _ _ _ _ => pv 2)) pa_nil)))), ?_⟩
    refine ⟨.int n, rfl, _, _, rfl, rfl, _, rfl, ite2 (fun h6 => ?_) (fun h6 => ?_)⟩
    · have : (6 : Int) < n := of_decide_eq_true h6
      exact ⟨.int 6, rfl, fun d hd => qx (by omega) d hd⟩
    have hn6 : n ≤ 6 := by
      have : ¬ (6 : Int) < n := fun z => h6 (decide_eq_true z)
      omega
    refine ⟨.int n, rfl, _, _, rfl, rfl, (n : Int) + 1, rfl, by omega, by omega, fun D nD => ?_⟩
    have hm : ((n : Int) + 1).toNat = n + 1 := by omega
    rw [hm]
    have hfull : ∀ i, i ≤ n + 1 → (((List.range (n + 1)).take i).flatMap (lotsL n)).length ≤ 1000 := by
      intro i hi
      have h1 := flat_le (List.range (n + 1)) (lotsL n) i
      have h2 : ∀ n : Nat, n < 7 → ((List.range (n + 1)).flatMap (lotsL n)).length ≤ 1000 := by decide +kernel
      have := h2 n (by omega)
      omega
    refine lc2_it (walk_rg (n := n + 1)) (fun i G => ∃ acc, G D = some (.lst acc) ∧ Same H G ∧ DqA G acc ((((List.range (n + 1)).take i).flatMap (lotsL n)).map lotD)) ⟨[], upd_same, same_new nD, .nil⟩ (fun _ _ _ _ => trivial) ?_ ?_
    · rintro i x G G' hi ⟨acc, hD, s2, qa⟩ ⟨rfl, rfl⟩
      refine ⟨rfl, ?_⟩
      dsimp only [tYes]
      rw [if_pos rfl]
      refine ⟨.int n, rfl, .int i, rfl, n, i, rfl, by omega, by omega, fun G2 v s3 hv => ?_⟩
      obtain ⟨a, xs, rfl, ha, qx2⟩ := Dq.tup_inv hv
      have hxl : xs.length = (lotsL n i).length := by rw [qx2.len, List.length_map]
      have hri : (List.range (n + 1))[i]? = some i := List.getElem?_range hi
      have hb := hfull (i + 1) (by omega)
      rw [flat_take hri, List.length_append] at hb
      refine ⟨a, rfl, ⟨xs, SqT.of ha⟩, ?_⟩
      refine inner_it (walk_tup (K := K) (a := a) (xs := xs)) (fun j G3 => ∃ acc, G3 D = some (.lst acc) ∧ Same H G3 ∧ G3 a = some (.tup xs) ∧ DqA G3 xs ((lotsL n i).map lotD) ∧ DqA G3 acc ((((List.range (n + 1)).take i).flatMap (lotsL n) ++ (lotsL n i).take j).map lotD)) ⟨acc, s3 _ _ hD, s2.trans s3, ha, qx2, by simpa using qa.up s3⟩ (fun j G3 _ ⟨_, _, _, h, _⟩ => SqT.of h) ?_ ?_
      · rintro j x G3 G3' hj ⟨acc2, hD2, s4, ha3, qxs, qa2⟩ ⟨rfl, hx⟩
        obtain ⟨l, hl, b, rfl, hbl⟩ := lots_get qxs hx
        refine ⟨rfl, ?_⟩
        dsimp only [tYes]
        rw [if_pos rfl]
        have hal : acc2.length ≤ 1000 := by
          have := qa2.len
          rw [List.length_map, List.length_append, List.length_take] at this
          omega
        have ts : TS G3' (upd G3' D (.lst (acc2 ++ [.ref b]))) := TS.lst hD2
        refine ⟨.ref b, rfl, acc2, hD2, szm (by omega), acc2 ++ [.ref b], upd_same, fun c o hc => ?_, ts _ _ ha3, DqA.upT ts (lots_flat _) qxs, ?_⟩
        · rw [upd_ne (ne_of_none hc nD)]
          exact s4 _ _ hc
        · rw [List.take_add_one, hl, ← List.append_assoc, List.map_append]
          exact dqa_snoc (DqA.upT ts (lots_flat _) qa2) (Dq.upT ts (lot_flat _) (lot_at hbl))
      · rintro G3 ⟨acc2, hD2, s4, ha3, qxs, qa2⟩
        refine ⟨acc2, hD2, s4, ?_⟩
        rw [hxl, List.take_length] at qa2
        rw [flat_take hri]
        exact qa2
    · rintro G ⟨acc, hD, s2, qa⟩
      have e : (List.range (n + 1)).take (n + 1) = List.range (n + 1) := List.take_of_length_le (by rw [List.length_range]; exact Nat.le_refl _)
      rw [e] at qa
      exact ⟨D, acc, rfl, .inl ⟨SqL.of hD, fun t nt => q hn6 _ _ (s2.trans (same_new nt)) (.tup upd_same (qa.up (same_new nt)))⟩⟩
end
end Kr
namespace Kr
open PySem PySem.Spec PyProof.Rows L2
section
variable {prog : Program} {w : World} {A : Around} {E : Value → Shared → Prop} {s : Shared}
/-- the heap behind a collecting -/
def gathered (h : Heap) (vs : List Value) : Heap := (h.push (seqObj "list" #[] 0)).update h.objs.size (Obj.mapSeq (· ++ vs.toArray))
theorem collect_tup {t : Addr} {vs : List Value} {Q : List Value → Shared → Prop} (hl : IsTup s.heap t vs.toArray) (h : Q vs { s with heap := gathered s.heap vs }) (hsz : vs.length ≤ sizeLine) : wpAny (model prog w) A (collect (.ref t)) Q E s := by
  obtain ⟨ot, gt, ct, nt, dt⟩ := id hl
  unfold collect
  refine wpAny_bind (wpAny_runValue (codeAny_builtin entry_proto_collect' ?_))
  show wpAny (model prog w) _ (do again (.builtin "list.__iadd__" ⟨[← newList [], .ref t], []⟩)) _ _ s
  refine wpAny_bind (wpAny_newList (wpAny_pure ⟨Code.quiet_builtin _ (by decide +kernel), codeAny_builtin entry_list_iadd' (?_ : wpAny (model prog w) _ (Builtin.List.listExtendWith (.ref s.heap.objs.size) (.ref t) (.ref s.heap.objs.size)) _ _ { s with heap := s.heap.push (seqObj "list" #[] 0) })⟩))
  unfold Builtin.List.listExtendWith
  have gt' : (s.heap.push (seqObj "list" #[] 0)).get? t = some ot := Heap.get?_push_of_some _ gt
  refine wpAny_bind (wpAny_typeOf (T := "tuple") ⟨ot, gt', ct⟩ ?_)
  have tt : (Value.type "tuple" == Value.type "tuple") = true := by rfl
  rw [if_pos (by rw [tt]; simp)]
  refine wpAny_bind (listItems_at gt' dt (wpAny_bind (listItems_at (xs := #[]) (n := 0) (Heap.get?_push_size _ rfl) rfl ?_)))
  rw [if_neg (by simp)]
  refine wpAny_bind (listUpdate_at (xs := #[]) (n := 0) (Heap.get?_push_size _ rfl) rfl (wpAny_pure ?_) (Nat.zero_le _) (by show (#[] ++ vs.toArray).size ≤ sizeLine + 1; simp only [Array.size_append, List.size_toArray, List.length_nil]; omega))
  show wpAny (model prog w) A (do let ob ← load s.heap.objs.size; match ob.data with | .seq xs _ => pure xs.toList | _ => unsupported "internal:collect") Q E { s with heap := gathered s.heap vs }
  refine wpAny_bind (wpAny_load (get?_update_seq (Heap.get?_push_size _ rfl) _) ?_)
  show wpAny (model prog w) A (pure ((#[] : Array Value) ++ vs.toArray).toList) Q E _
  have e0 : ((#[] : Array Value) ++ vs.toArray).toList = vs := by simp
  rw [e0]
  exact wpAny_pure h
theorem sorted_tup {t : Addr} {vs : List Value} {ltv : Value → Value → Bool} {Q : Value → Shared → Prop} (O : SrtO.Swo ltv) (hl : IsTup s.heap t vs.toArray) (hz : vs.length ≤ sizeLine)
    (hS : 2 ≤ vs.length → ∀ (h₁ : Heap) (a : Addr), h₁.get? a = some (seqObj "list" vs.toArray 0) → (∀ b o, s.heap.get? b = some o → b ≠ a ∧ h₁.get? b = some o) → SrtO.SortableO prog w A.in1.in1 { s with heap := h₁ } a vs ltv)
    (h : ∀ out : List Value, SrtO.Srtd ltv out → SrtO.Stb ltv out vs → Q (.ref (s.heap.objs.size + 1)) { s with heap := sortedAll s.heap vs out.toArray }) : wpAny (model prog w) A (call (.builtin "sorted") [.ref t]) Q E s := by
  refine Calls.call_function_entry kind_sorted plain_sorted entry_sorted (args_sorted1 _) ?_
  unfold Builtin.«sorted»
  refine wpAny_bind (m := checkCount "sorted" 1 1 _) (wpAny_pure (wpAny_bind (collect_tup hl (wpAny_bind (wpAny_newList ?_ hz)) hz)))
  have z1 : (gathered s.heap vs).objs.size = s.heap.objs.size + 1 := (Heap.size_update _ _ _).trans (size_push' _ _)
  have lst : ((gathered s.heap vs).push (seqObj "list" vs.toArray 0)).get? (s.heap.objs.size + 1) = some (seqObj "list" vs.toArray 0) := by
    rw [← z1]; exact Heap.get?_push_size _ rfl
  have stays : ∀ b o, s.heap.get? b = some o → b ≠ s.heap.objs.size + 1 ∧ ((gathered s.heap vs).push (seqObj "list" vs.toArray 0)).get? b = some o := fun b o q => by
    have lt := Heap.lt_size q
    refine ⟨Nat.ne_of_lt (Nat.lt_succ_of_lt lt), Heap.get?_push_of_some _ ?_⟩
    unfold gathered
    rw [Heap.get?_update_ne _ _ _ _ (Nat.ne_of_lt lt)]
    exact Heap.get?_push_of_some _ q
  show wpAny (model prog w) _ _ _ _ { s with heap := (gathered s.heap vs).push (seqObj "list" vs.toArray 0) }
  rw [z1]
  exact wpAny_bind (wpAny_holding (wpAny_call_entry slot_list_sort ⟨_, lst, rfl⟩ entry_list_sort (SrtO.list_sort_ord O lst hz (fun h2 => hS h2 _ _ lst stays) fun out hs hb => ⟨_, rfl, wpAny_pure ⟨_, rfl, h out hs hb⟩⟩) (args_list_sort _)))
end
section
variable {X : Cx}
/-- sorted(t), t a tuple of whole numbers -/
def rSortT (K : PySem.W.Frag) : List V → Hp → VK → Prop := fun vs H Q => ∃ (a : Addr) (ns : List Int), vs = [V.ref a] ∧ SqT K H a (ns.map V.int) ∧ ∀ (ns' : List Int) (p : Addr), ns'.Perm ns → ns'.Pairwise (· ≤ ·) → H p = none → Q (.ref p) (upd H p (.lst (ns'.map V.int)))
theorem cr_sortT5 : CallR X (.builtin "sorted") (rSortT X.K) := by
  intro pins s σ H vs us Q I r h
  obtain ⟨a, ns, rfl, hs, q⟩ := h
  obtain ⟨its, rv, ht, hz⟩ := I.tuple hs
  rw [Vals.ref1 r]
  have hi := rv.ints
  refine sorted_tup SrtO.swo_int ht (by rw [← rv.length]; exact hz) (fun h2 _ _ _ _ => SrtO.ints_sortable hi h2) fun out h1 h2 => ?_
  obtain ⟨k1, k2, k3⟩ := SrtO.ints_out hi h1 h2
  obtain ⟨ep, he⟩ := PyProof.Rows.sortedAll_at s.heap its out.toArray
  have hl : ((out.map SrtO.iv).map V.int).length ≤ sizeLine := by
    rw [List.length_map] at hz
    rw [List.length_map, k2.length_eq]
    exact hz
  exact ⟨.ref _, upd H (s.heap.objs.size + 1) (.lst ((out.map SrtO.iv).map V.int)), I.laid (t' := s.toks) (fun _ _ => PyProof.Rows.sortedAll_old) (Nat.le_succ _) ⟨hl, out, ep, vals_of_ints k1, he⟩, rfl, q _ _ k2 k3 (I.hok.fresh (Nat.le_succ _))⟩
end
end Kr
namespace Kr
open PySem PySem.Spec PyProof.Rows L2
theorem ps_nox {X : Cx} {st : Stmt} {t : L2.TS} (h : PS X.nox st t) : PS X st t := ⟨fun pn sh σ H D I hw => wpAny_mono (h.run pn sh σ H D (I.wish _) hw) (fun _ _ q => q.unwish) fun _ _ z => False.elim z⟩
theorem dqa_ints {H : Hp} : ∀ {xs : List V} {ns : List Int}, DqA H xs (ns.map .int) → xs = ns.map V.int
  | _, [], .nil => rfl
  | _, n :: ns, .cons (.int _) t => by rw [dqa_ints t]; rfl
theorem sum_cast : ∀ l : List Nat, (l.map fun (x : Nat) => (x : Int)).sum = ((l.sum : Nat) : Int)
  | [] => rfl
  | x :: l => by
    rw [List.map_cons, List.sum_cons, List.sum_cons, sum_cast l]
    omega
theorem comb_val {n k : Nat} (hn : n < 26) (hk : k < 27) {a b : Int} (ha : a = n) (hb : b = k) : PySem.W.mcComb a b = (ch n k : Int) := by
  rw [ha, hb]
  exact ch_tab n hn k hk
def spNum : Sp := fun vs H Q _ => ∃ (n : Nat) (a : Addr) (l : List Nat), vs = [.int (n : Int), .ref a] ∧ H a = some (.tup (lv l)) ∧ Asc 0 n l ∧ n ≤ 24 ∧ ∀ H', Same H H' → Q (.int (num n l : Nat)) H'
def spUn : Sp := fun vs H Q _ => ∃ n s a : Nat, vs = [.int (n : Int), .int (s : Int), .int (a : Int)] ∧ n ≤ 24 ∧ a < ch n s ∧ ∀ H' t, Same H H' → H' t = some (.tup (lv (un 0 n s a))) → Q (.ref t) H'
def spAt (C : Addr) : Sp := fun vs H Q E => ∃ (n : Nat) (a : Int), vs = [.int (n : Int), .int a] ∧ n ≤ 24 ∧ (∀ l, 0 ≤ a → lotAt n a.toNat = some l → ∀ H' t, Same H H' → H' t = some (.tup (lv l)) → Q (.ref t) H') ∧ (a < 0 ∨ lotAt n a.toNat = none → E (.ref C) none H)
/-- what is known of the class Unfit -/
structure Unf (K : PySem.W.Frag) (mg : Str → Option Value) (C : Addr) : Prop where
  x : PySem.W.excIn K C [.type "ValueError", .type "Exception", .type "BaseException", .type "object"] "ValueError.__new__" = true
  g : mg "Unfit" = some (.ref C)
  k : PySem.W.keepIn K (.ref C) = true
  b : PySem.W.subIn K (.ref C) (.type "BaseException") = some true
  t : PySem.W.typeIn K (.ref C) = some (.type "type")
theorem pmk_own0 {X : Cx} {C : Addr} {bmB : List Value} {B newId initId : String} {x : Str} {p pos : Pos} (F : ExcBaseFacts B newId initId bmB) (q : PySem.W.excIn X.K C bmB newId = true) (gC : X.mg x = some (.ref C)) (kC : PySem.W.keepIn X.K (.ref C) = true) (r : Raises X (.ref C)) (hg : Gl X x)
    (hdb : (x == ("__debug__" : Str)) = false := by decide) : PMk X (.Call (.Name x p) [] [] pos) (fun _ H Q => Q (.ref C) none H) := by
  intro pins s σ H Q I h
  refine wpAny_Call_Name_kw (ld_glob I hg gC (PySem.W.callWith_K0 I.kIn kC ?_) hdb)
  obtain ⟨bm, N, nm, qn, bs, hdct, sn, sub, ab, col, dd, k0, k1, k2, k3, k5, mN, hC, hN, hni, T⟩ := exc_obj I.kIn q
  exact wpAny_call_exc_subT F T hC hN hni (fun h' e hm => mk_of I hm r h (I.hok.gone hm.new)) (Nat.zero_le _)
theorem un_lt (p : Nat) : ∀ k a, un p 0 k a = [] := fun _ _ => rfl
theorem un_zero (p : Nat) : ∀ m a, un p m 0 a = []
  | 0, _ => rfl
  | _ + 1, _ => rfl
section
variable {P : Program} {w : World} {K : PySem.W.Frag} {mg : Str → Option Value} {base : Heap}
abbrev nLn : List Str := ["n", "lot", "size", "number", "least", "spot", "place", "fewer", "lesser"]
theorem scLn : FnScope nLn ["n", "lot"] (defScope sLotNum) := ⟨rfl, rfl, rfl, by decide +kernel, rfl, by decide +kernel, by decide +kernel⟩
theorem f_lotNum {f : Addr} {fd : FuncData} (F : Fun K "lot_number" "lot_number" sLotNum f fd) (B : Bi mg) : FnOk P w K mg base CX0 1 f fd ["n", "lot"] spNum := by
  refine F.ok scLn (fun vs H Q E h => ?_) (fun cdv A outer s H vs Q E hr h => ?_)
  · obtain ⟨n, a, l, rfl, _⟩ := h
    rfl
  · obtain ⟨n, a, l, rfl, ha, hl, hn, q⟩ := h
    have hll := hl.len
    refine ⟨_, pss_cons (ps_set (i := 2) scLn.nd rfl (.inr rfl) (pe_callB call_len_seq (by rfl) B.len boot_len (pa_cons (pv 1) pa_nil)))
      (pss_cons (ps_set (i := 3) scLn.nd rfl (.inl rfl) (pe_callB (cr_sum rfl) (by rfl) B.sum (by decide +kernel) (pa_cons
        (pe_lc (own := [("fewer", 7)]) (g := gName 7) (tt := tYes) rfl scLn.nd (pi_range1 (by rfl) B.range (pa_cons (pv 2) pa_nil)) (blkOk_by (own := [("fewer", 7)]) (N := nLn) (sc := defScope sLotNum) (by decide +kernel)) (fun _ _ _ _ _ => pg_name (i := 7) scLn.nd rfl (.inl rfl)) (fun _ _ _ _ _ => pts_nil)
          (fun _ _ _ _ _ => pe_callBG call_comb (by rfl) B.comb (pa_cons (pv 0) (pa_cons (pv 7) pa_nil)))) pa_nil)))
      (pss_cons (ps_set (i := 4) scLn.nd rfl (.inl rfl) pe_int)
      (pss_cons (ps_for PassesOwn.never rfl (pi_enumT (by rfl) B.enumerate (pa_cons (pv 1) pa_nil)) (pg_tup rfl (pgs_cons (pg_name (i := 5) scLn.nd rfl (.inr rfl)) (pgs_cons (pg_name (i := 6) scLn.nd rfl (.inl rfl)) pgs_nil)))
        (pss_cons (ps_aug (i := 3) scLn.nd rfl (.inl rfl) (pe_callB (cr_sum rfl) (by rfl) B.sum (by decide +kernel) (pa_cons
          (pe_lc (own := [("lesser", 8)]) (g := gName 8) (tt := tYes) rfl scLn.nd (pi_range2 (by rfl) B.range (pa_cons (pv 4) (pa_cons (pv 6) pa_nil))) (blkOk_by (own := [("lesser", 8)]) (N := nLn) (sc := defScope sLotNum) (by decide +kernel)) (fun _ _ _ _ _ => pg_name (i := 8) scLn.nd rfl (.inl rfl)) (fun _ _ _ _ _ => pts_nil)
            (fun _ _ _ _ _ => pe_callBG call_comb (by rfl) B.comb (pa_cons (pe_op op_sub (pe_op op_sub (pv 0) pe_int) (pv 8)) (pa_cons (pe_op op_sub (pe_op op_sub (pv 2) pe_int) (pv 5)) pa_nil)))) pa_nil)) ip_add)
        (pss_one (ps_set (i := 4) scLn.nd rfl (.inl rfl) (pe_op op_add (pv 6) pe_int)))))
      (pss_one (ps_ret (pv 3)))))), ?_⟩
    refine ⟨.ref a, rfl, a, _, rfl, .inr (SqT.of ha), ?_⟩
    rw [lv_len]
    refine ⟨.int (l.length : Nat), rfl, (l.length : Nat), rfl, by omega, by omega, fun D nD => ?_⟩
    refine lc_itF (walk_rg (n := l.length)) (fun k => .int ((ch n k : Nat) : Int)) nD (by omega) (fun _ _ => rfl) (fun _ _ => trivial) (fun k x G G' C Cn hk s1 y c => ?_) (fun G acc s1 hD qa => ?_)
    · obtain ⟨rfl, rfl⟩ := y
      refine ⟨rfl, ?_⟩
      dsimp only [tYes]
      rw [if_pos rfl]
      refine ⟨.int n, rfl, .int k, rfl, _, _, rfl, by omega, by omega, by omega, ?_⟩
      rw [comb_val (show n < 26 by omega) (show k < 27 by omega) rfl rfl]
      exact c _ _ (Same.refl _) (.int _)
    have eacc : acc = ((List.range l.length).map fun k => ((ch n k : Nat) : Int)).map V.int := dqa_ints (by rw [List.map_map]; exact qa)
    subst eacc
    refine ⟨D, _, rfl, SqL.of hD, ?_⟩
    have esum : ((List.range l.length).map fun k => ((ch n k : Nat) : Int)).sum = ((below n l.length : Nat) : Int) := by
      unfold below
      rw [← sum_cast, List.map_map]
      rfl
    rw [esum]
    have ha1 := s1 _ _ ha
    refine ⟨.ref a, rfl, a, _, rfl, SqT.of ha1, for_it walk_enumT (fun i σ H2 => ∃ (nb least : Nat) (v5 v6 : Option V), σ = [some (.int n), some (.ref a), some (.int (l.length : Nat)), some (.int (nb : Nat)), some (.int (least : Nat)), v5, v6, none, none] ∧ Same G H2 ∧ nb + numGo n least (l.drop i) = below n l.length + numGo n 0 l ∧ ∀ x ∈ l.drop i, least ≤ x)
      ⟨_, 0, none, none, rfl, Same.refl _, rfl, fun _ _ => Nat.zero_le _⟩ (fun i σ H2 _ ⟨_, _, _, _, _, sm, _⟩ => SqT.of (sm _ _ ha1)) ?_ ?_⟩
    · rintro i _ σ H2 _ hi ⟨nb, least, v5, v6, rfl, sm, enb, hle⟩ ⟨T, x, y, rfl, nT, rfl, e1, e2⟩
      cases Option.some.inj e1
      rw [lv_len] at hi
      have ex : l[i]? = some l[i] := List.getElem?_eq_getElem hi
      have ey : y = .int ((l[i] : Nat) : Int) := by
        have e6 : (lv l)[i]? = some y := e2
        unfold lv at e6
        rw [List.getElem?_map, ex] at e6
        exact (Option.some.inj e6).symm
      subst ey
      rw [List.drop_eq_getElem_cons hi] at enb hle
      have hxn := (hl.2 _ (List.getElem_mem hi)).2
      have hxl := hle _ List.mem_cons_self
      generalize hz : l[i] = z at enb hle hxn hxl
      have sT : Same H2 (upd H2 T (.tup [.int (i : Nat), .int (z : Nat)])) := same_new nT
      refine ⟨T, [.int (i : Nat), .int (z : Nat)], rfl, SqT.of upd_same, rfl, .int (i : Nat), [.int (z : Nat)], rfl, .int (z : Nat), [], rfl, rfl, ?_⟩
      refine ⟨.int (nb : Nat), rfl, .int (least : Nat), rfl, .int (z : Nat), rfl, _, _, rfl, ⟨by omega, by omega, by omega, by omega⟩, fun D2 nD2 => ?_⟩
      have hzl : ((z : Int) - (least : Nat)).toNat = z - least := by omega
      rw [hzl]
      have hdl : (l.drop (i + 1)).length = l.length - (i + 1) := List.length_drop
      refine lc_itF (walk_range (lo := (least : Nat)) (n := z - least)) (fun j => .int ((ch (n - 1 - (least + j)) (l.drop (i + 1)).length : Nat) : Int)) nD2 (by omega) (fun _ _ => rfl) (fun _ _ => trivial) (fun j x G3 G3' C Cn hj s3 y c => ?_) (fun G3 acc s3 hD2 qa2 => ?_)
      · obtain ⟨rfl, rfl⟩ := y
        refine ⟨rfl, ?_⟩
        dsimp only [tYes]
        rw [if_pos rfl]
        refine ⟨.int n, rfl, _, _, rfl, rfl, .int _, rfl, _, _, rfl, rfl, .int (l.length : Nat), rfl, _, _, rfl, rfl, .int (i : Nat), rfl, _, _, rfl, rfl, _, _, rfl, by omega, by omega, by omega, ?_⟩
        rw [comb_val (n := n - 1 - (least + j)) (k := (l.drop (i + 1)).length) (by omega) (by omega) (by omega) (by omega)]
        exact c _ _ (Same.refl _) (.int _)
      have eacc : acc = ((List.range (z - least)).map fun j => ((ch (n - 1 - (least + j)) (l.drop (i + 1)).length : Nat) : Int)).map V.int := dqa_ints (by rw [List.map_map]; exact qa2)
      subst eacc
      refine ⟨D2, _, rfl, SqL.of hD2, _, _, rfl, rfl, ?_⟩
      have esum : ((List.range (z - least)).map fun j => ((ch (n - 1 - (least + j)) (l.drop (i + 1)).length : Nat) : Int)).sum = ((((List.range (z - least)).map fun j => ch (n - 1 - (least + j)) (l.drop (i + 1)).length).sum : Nat) : Int) := by
        rw [← sum_cast, List.map_map]
        rfl
      rw [esum]
      refine ⟨.int (z : Nat), rfl, _, _, rfl, rfl, ?_⟩
      refine ⟨nb + ((List.range (z - least)).map fun j => ch (n - 1 - (least + j)) (l.drop (i + 1)).length).sum, z + 1, _, _, rfl, sm.trans (sT.trans s3), ?_, fun x hx => ?_⟩
      · simp only [numGo] at enb
        omega
      · have hp : (l.drop i).Pairwise (· < ·) := hl.1.sublist (List.drop_sublist _ _)
        rw [List.drop_eq_getElem_cons hi, hz] at hp
        exact (List.pairwise_cons.mp hp).1 x hx
    · rintro σ H2 ⟨nb, least, v5, v6, rfl, sm, enb, hle⟩
      rw [lv_len, List.drop_of_length_le (Nat.le_refl _)] at enb
      refine ⟨.int (nb : Nat), rfl, ?_⟩
      have e : nb = num n l := by
        rw [num_go hl]
        exact enb
      rw [e]
      exact q H2 (s1.trans sm)
abbrev nOs : List Str := ["n", "size", "number", "lot", "ahead", "place", "with_place"]
theorem scOs : FnScope nOs ["n", "size", "number"] (defScope sOfSize) := ⟨rfl, rfl, rfl, by decide +kernel, rfl, by decide +kernel, by decide +kernel⟩
theorem o_ofSize (D : Df K mg "_lot_of_size_at" sOfSize ["n", "size", "number"]) (B : Bi mg) : Ok P w K mg base 1 "_lot_of_size_at" ["n", "size", "number"] spUn := by
  refine D.ok fun f fd F => F.ok scOs (fun vs H Q E h => ?_) (fun cdv A outer s H vs Q E hr h => ?_)
  · obtain ⟨n, s, a, rfl, _⟩ := h
    rfl
  · obtain ⟨n, s, a, rfl, hn, ha, q⟩ := h
    have hs : s ≤ n := by
      by_cases c : s ≤ n
      · exact c
      · rw [ch_zero n s (by omega)] at ha
        omega
    refine ⟨_, pss_cons (ps_set (i := 3) scOs.nd rfl (.inl rfl) (pe_lst pa_nil))
      (pss_cons (ps_set (i := 4) scOs.nd rfl (.inl rfl) (pv 2))
      (pss_cons (ps_for PassesOwn.never rfl (pi_range1 (by rfl) B.range (pa_cons (pv 0) pa_nil)) (pg_name (i := 5) scOs.nd rfl (.inl rfl))
        (pss_cons (ps_if (pt_cmpR op_eq (pe_callB call_len_seq (by rfl) B.len boot_len (pa_cons (pv 3) pa_nil)) (pv 1) (nomark _)) (pss_one ps_break) pss_nil)
        (pss_cons (ps_set (i := 6) scOs.nd rfl (.inl rfl) (pe_callBG call_comb (by rfl) B.comb (pa_cons (pe_op op_sub (pe_op op_sub (pv 0) pe_int) (pv 5)) (pa_cons (pe_op op_sub (pe_op op_sub (pv 1) pe_int) (pe_callB call_len_seq (by rfl) B.len boot_len (pa_cons (pv 3) pa_nil))) pa_nil))))
        (pss_one (ps_if (pt_cmpR op_lt (pv 4) (pv 6) (nomark _)) (pss_one (ps_expr (pe_bm PySem.F.plainAttrs_list PySem.F.slot_list_append PySem.F.type_list_append mt_append (pv 3) (pa_cons (pv 5) pa_nil))))
          (pss_one (ps_aug (i := 4) scOs.nd rfl (.inl rfl) (pv 6) ip_sub)))))))
      (pss_one (ps_ret (pe_callTy call_tuple_of (by rfl) B.tuple (by decide +kernel) (pa_cons (pv 3) pa_nil)))))), ?_⟩
    refine ⟨by show 0 ≤ sizeLine; decide, fun c nc => ⟨.int a, rfl, ?_⟩⟩
    have s0 := same_new (o := .lst []) nc
    have fin : ∀ (σ : List (Option V)) (H2 : Hp) (pre : List Nat), σ[3]? = some (some (.ref c)) → (∀ b o, H b = some o → H2 b = some o) → H2 c = some (.lst (lv pre)) → un 0 n s a = pre → tRet (tCB (fun vs H Q => ∃ p xs, vs = [V.ref p] ∧ ((SqL K H p xs ∧ ∀ l, H l = none → Q (.ref l) (upd H l (.tup xs))) ∨ SqT K H p xs ∧ Q (.ref p) H)) (tCons (tVar 3) tNil)) { nx := fun _ H' => Q .non H', rt := Q } σ H2 := by
      rintro σ H2 pre hσ sm hc rfl
      exact ⟨.ref c, hσ, c, _, rfl, .inl ⟨SqL.of hc, fun t nt => q _ t (fun b o hb => same_new nt _ _ (sm _ _ hb)) upd_same⟩⟩
    refine ⟨.int n, rfl, (n : Int), rfl, by omega, by omega, for_it (walk_rg (n := n)) (fun i σ H2 => ∃ (pre : List Nat) (b : Nat) (v5 v6 : Option V), σ = [some (.int n), some (.int s), some (.int a), some (.ref c), some (.int (b : Nat)), v5, v6] ∧ (∀ b o, H b = some o → H2 b = some o) ∧ H2 c = some (.lst (lv pre)) ∧ un 0 n s a = pre ++ un i (n - i) (s - pre.length) b ∧ pre.length ≤ s ∧ b < ch (n - i) (s - pre.length))
      ⟨[], a, none, none, rfl, s0, upd_same, rfl, Nat.zero_le _, ha⟩ (fun _ _ _ _ _ => trivial) ?_ ?_⟩
    · rintro i x σ H2 H2' hi ⟨pre, b, v5, v6, rfl, sm, hc, eu, hps, hb⟩ ⟨rfl, rfl⟩
      refine ⟨.ref c, rfl, c, _, rfl, .inl (SqL.of hc), .int s, rfl, rfl, _, rfl, ?_⟩
      rw [lv_len]
      refine ite2 (fun he => ?_) (fun he => ?_)
      · have hps2 : pre.length = s := by
          have : V.int ((pre.length : Nat) : Int) = V.int ((s : Nat) : Int) := of_decide_eq_true he
          have := V.int.inj this
          omega
        refine fin _ H2' pre rfl sm hc ?_
        rw [eu, hps2, Nat.sub_self, un_zero, List.append_nil]
      · have hps2 : pre.length < s := by
          rcases Nat.lt_or_ge pre.length s with h | h
          · exact h
          · exact absurd (show V.int ((pre.length : Nat) : Int) = V.int ((s : Nat) : Int) by rw [show pre.length = s by omega]) fun z => he (decide_eq_true z)
        obtain ⟨m, hm⟩ : ∃ m, n - i = m + 1 := ⟨n - i - 1, by omega⟩
        obtain ⟨k, hk⟩ : ∃ k, s - pre.length = k + 1 := ⟨s - pre.length - 1, by omega⟩
        rw [hm, hk] at eu hb
        simp only [un] at eu
        refine ⟨.int n, rfl, _, _, rfl, rfl, .int i, rfl, _, _, rfl, rfl, .int s, rfl, _, _, rfl, rfl, .ref c, rfl, c, _, rfl, .inl (SqL.of hc), _, _, rfl, rfl, _, _, rfl, by omega, by rw [lv_len]; omega, by omega, ?_⟩
        rw [comb_val (n := m) (k := k) (by omega) (by omega) (by omega) (by rw [lv_len]; omega)]
        refine ⟨.int (b : Nat), rfl, .int ((ch m k : Nat) : Int), rfl, _, _, rfl, rfl, _, rfl, ite2 (fun hlt => ?_) (fun hlt => ?_)⟩
        · have h1 : b < ch m k := by have : (b : Int) < (ch m k : Nat) := of_decide_eq_true hlt; omega
          rw [if_pos h1] at eu
          refine ⟨.ref c, rfl, .inl ⟨rfl, _, SqL.of hc⟩, .int i, rfl, c, _, _, rfl, rfl, hc, szl (by rw [lv_len]; omega), ?_⟩
          refine ⟨pre ++ [i], b, _, _, rfl, fun d o hd => by rw [upd_ne (ne_of_none hd nc)]; exact sm _ _ hd, by rw [upd_same, lv_snoc], ?_, by rw [List.length_append]; show _ + 1 ≤ s; omega, ?_⟩
          · rw [eu, List.append_assoc, List.length_append]
            show pre ++ _ = pre ++ (i :: un (i + 1) (n - (i + 1)) (s - (pre.length + 1)) b)
            rw [show n - (i + 1) = m by omega, show s - (pre.length + 1) = k by omega]
          · rw [List.length_append]
            show b < ch (n - (i + 1)) (s - (pre.length + 1))
            rw [show n - (i + 1) = m by omega, show s - (pre.length + 1) = k by omega]
            exact h1
        · have h1 : ¬ b < ch m k := fun z => hlt (decide_eq_true (by omega))
          rw [if_neg h1] at eu
          rw [ch] at hb
          refine ⟨.int (b : Nat), rfl, .int ((ch m k : Nat) : Int), rfl, _, _, rfl, rfl, ?_⟩
          refine ⟨pre, b - ch m k, _, _, by
            have e : ((b : Nat) : Int) - ((ch m k : Nat) : Int) = ((b - ch m k : Nat) : Int) := by omega
            dsimp only
            rw [e]
            rfl, sm, hc, ?_, hps, ?_⟩
          · rw [eu, show n - (i + 1) = m by omega, hk]
          · rw [show n - (i + 1) = m by omega, hk]
            omega
    · rintro σ H2 ⟨pre, b, v5, v6, rfl, sm, hc, eu, hps, hb⟩
      refine fin _ H2 pre rfl sm hc ?_
      rw [eu, Nat.sub_self, un_lt, List.append_nil]
abbrev nLt : List Str := ["n", "number", "ahead", "size"]
theorem scLt : FnScope nLt ["n", "number"] (defScope sLotAt) := ⟨rfl, rfl, rfl, by decide +kernel, rfl, by decide +kernel, by decide +kernel⟩
theorem f_lotAt {f C : Addr} {fd : FuncData} (F : Fun K "lot_at" "lot_at" sLotAt f fd) (B : Bi mg) (T : Unf K mg C) (os : Ok P w K mg base 1 "_lot_of_size_at" ["n", "size", "number"] spUn) : FnOk P w K mg base (L2.CX P w) 2 f fd ["n", "number"] (spAt C) := by
  refine F.okX scLt (fun vs H Q E h => ?_) (fun cdv A outer s H vs Q E hr h => ?_)
  · obtain ⟨n, a, rfl, _⟩ := h
    rfl
  · obtain ⟨n, a, rfl, hn, q, qx⟩ := h
    refine ⟨_, pss_cons (ps_if (pt_cmpR op_lt (pv 1) pe_int (nomark _)) (pss_one (ps_raise rfl (takes_of rfl rfl rfl rfl) (pmk_own0 PySem.F.excBase_ValueError T.x T.g T.k (raises_own T.b T.t) rfl))) pss_nil)
      (pss_cons (ps_set (i := 2) scLt.nd rfl (.inl rfl) (pv 1))
      (pss_cons (ps_nox (ps_for PassesOwn.never rfl (pi_range1 (by rfl) B.range (pa_cons (pe_op op_add (pv 0) pe_int) pa_nil)) (pg_name (i := 3) scLt.nd rfl (.inl rfl))
        (pss_cons (ps_if (pt_cmpR op_lt (pv 2) (pe_callBG call_comb (by rfl) B.comb (pa_cons (pv 0) (pa_cons (pv 3) pa_nil))) (nomark _)) (pss_one (ps_ret (pe_fn os hr (by rfl) (pa_cons (pv 0) (pa_cons (pv 3) (pa_cons (pv 2) pa_nil)))))) pss_nil)
        (pss_one (ps_aug (i := 2) scLt.nd rfl (.inl rfl) (pe_callBG call_comb (by rfl) B.comb (pa_cons (pv 0) (pa_cons (pv 3) pa_nil))) ip_sub)))))
      (pss_one (ps_raise rfl (takes_of rfl rfl rfl rfl) (pmk_own0 PySem.F.excBase_ValueError T.x T.g T.k (raises_own T.b T.t) rfl))))), ?_⟩
    refine ⟨.int a, rfl, _, _, rfl, rfl, _, rfl, ite2 (fun h0 => ?_) (fun h0 => ?_)⟩
    · exact qx (.inl (of_decide_eq_true h0))
    have ha : 0 ≤ a := Int.not_lt.mp fun z => h0 (decide_eq_true z)
    obtain ⟨b, rfl⟩ : ∃ b : Nat, a = b := ⟨a.toNat, by omega⟩
    rw [Int.toNat_natCast] at q qx
    refine ⟨.int b, rfl, .int n, rfl, _, _, rfl, rfl, (n : Int) + 1, rfl, by omega, by omega, ?_⟩
    have hm : ((n : Int) + 1).toNat = n + 1 := by omega
    rw [hm]
    refine for_it (walk_rg (n := n + 1)) (fun i σ H2 => ∃ (c : Nat) (v3 : Option V), σ = [some (.int n), some (.int b), some (.int (c : Nat)), v3] ∧ H2 = H ∧ sizeAt n (n + 1) 0 b = sizeAt n (n + 1 - i) i c) ⟨b, none, rfl, rfl, rfl⟩ (fun _ _ _ _ _ => trivial) ?_ ?_
    · rintro i x σ H2 H2' hi ⟨c, v3, rfl, rfl, e⟩ ⟨rfl, rfl⟩
      rw [show n + 1 - i = (n - i) + 1 by omega, show sizeAt n (n - i + 1) i c = if c < ch n i then some (i, c) else sizeAt n (n - i) (i + 1) (c - ch n i) from rfl] at e
      have ec := comb_val (n := n) (k := i) (by omega) (by omega) (a := (n : Int)) (b := (i : Int)) rfl rfl
      refine ⟨.int (c : Nat), rfl, .int n, rfl, .int i, rfl, _, _, rfl, by omega, by omega, by omega, ?_⟩
      rw [ec]
      refine ⟨_, _, rfl, rfl, _, rfl, ite2 (fun hlt => ?_) (fun hlt => ?_)⟩
      · have h1 : c < ch n i := by have : (c : Int) < (ch n i : Nat) := of_decide_eq_true hlt; omega
        rw [if_pos h1] at e
        refine ⟨.int n, rfl, .int i, rfl, .int (c : Nat), rfl, n, i, c, rfl, hn, h1, fun H' t s' ht => ?_⟩
        refine q (un 0 n i c) (by omega) ?_ H' t s' ht
        unfold lotAt
        rw [e]
        rfl
      · have h1 : ¬ c < ch n i := fun z => hlt (decide_eq_true (by omega))
        rw [if_neg h1] at e
        refine ⟨.int (c : Nat), rfl, .int n, rfl, .int i, rfl, _, _, rfl, by omega, by omega, by omega, ?_⟩
        rw [ec]
        refine ⟨_, _, rfl, rfl, c - ch n i, _, by
          have e : ((c : Nat) : Int) - ((ch n i : Nat) : Int) = ((c - ch n i : Nat) : Int) := by omega
          dsimp only
          rw [e]
          rfl, rfl, ?_⟩
        rw [e, show n + 1 - (i + 1) = n - i by omega]
    · rintro σ H2 ⟨c, v3, rfl, rfl, e⟩
      refine qx (.inr ?_)
      unfold lotAt
      rw [e, Nat.sub_self]
      rfl
end
end Kr
namespace Kr
open PySem PySem.Spec PyProof.Rows L2
/-- a list beside one without items -/
def rNeN : R2 := fun x y H Q => ∃ l b xs, x = .ref l ∧ y = .ref b ∧ H l = some (.lst xs) ∧ H b = some (.lst []) ∧ Q (.bl (!xs.isEmpty)) H
theorem op_neN {X : Cx} (hu : X.A.units + 64 < cLine) : OpR X (compareOp .NotEq) rNeN := by
  intro pins s σ H x y v u Q I rx ry h
  obtain ⟨l, b, xs, rfl, rfl, hl, hb, q⟩ := h
  obtain rfl : v = Value.ref l := rx
  obtain rfl : u = Value.ref b := ry
  obtain ⟨its, r1, p1, _⟩ := I.list (SqL.of (K := X.K) hl)
  obtain ⟨it2, r2, p2, _⟩ := I.list (SqL.of (K := X.K) hb)
  cases r2
  have hn : its.length = xs.length := r1.length.symm
  by_cases he : xs = []
  · subst he
    have : its = [] := List.length_eq_zero_iff.mp hn
    subst this
    exact SeqAt.RcNeAt.lists (e := fun _ => true) p1.isList p2.isList rfl (by omega) (fun j h1 _ => absurd h1 (by simp)) X.prog X.w X.xe _ ⟨.bl false, H, I, by rfl, q⟩
  · have hne : (its.toArray.size != ([] : List Value).toArray.size) = true := by
      have := List.length_pos_iff.mpr he
      simp
      intro z
      subst z
      simp at hn
      exact he (List.length_eq_zero_iff.mp hn.symm)
    have e1 : (!xs.isEmpty) = true := by
      cases xs with
      | nil => exact absurd rfl he
      | cons _ _ => rfl
    rw [e1] at q
    exact SeqAt.RcNeAt.lists_lengths p1.isList p2.isList hne (by omega) X.prog X.w X.xe _ ⟨.bl true, H, I, rfl, q⟩
theorem new_dq {p l q : Addr} {H : Hp} {o : HO} (D : Deck H p l) (h : H q = none) : Ext p l H (upd H q o) ∧ Deck (upd H q o) p l ∧ hid p l (upd H q o) q = some o := by
  obtain ⟨h1, h2⟩ := D.new h
  exact ⟨Ext.rfl.new h, D.mut h1 h2, hid_upd h1 h2⟩
def spMixed : Sp := fun vs H Q _ => ∃ (p l a : Addr) (ns : List Int), vs = [.ref p, .ref a] ∧ Deck H p l ∧ hid p l H a = some (.lst (ns.map V.int)) ∧ ns.length ≤ 1000 ∧
  ∀ (H' : Hp) (f : Addr) (ys : List Int), Deck H' p l → Ext p l H H' → hid p l H' f = some (.lst (ys.map V.int)) → ys.Perm ns → Q (.ref f) H'
theorem seqIx {r : Int} {n : Nat} (h0 : 0 ≤ r) (h1 : r < n) : seqIndex? r n = some r.toNat := (ixN_seq (by unfold ixN; rw [if_pos h0, if_pos h1])).1
theorem erase_perm (zs : List Int) {k : Nat} (h : k < zs.length) : (zs[k] :: zs.eraseIdx k).Perm zs := by
  rw [List.eraseIdx_eq_take_drop_succ]
  have e : zs = zs.take k ++ zs[k] :: zs.drop (k + 1) := by
    rw [← List.drop_eq_getElem_cons h, List.take_append_drop]
  exact List.perm_middle.symm.trans (.of_eq e.symm)
section
variable {P : Program} {w : World} {K : PySem.W.Frag} {mg : Str → Option Value} {base : Heap}
theorem scMixed : FnScope ["deck", "items", "left", "found"] ["deck", "items"] (defScope sMixed) := ⟨rfl, rfl, rfl, by decide +kernel, rfl, by decide +kernel, by decide +kernel⟩
theorem o_mixed (D : Df K mg "_law_mixed" sMixed ["deck", "items"]) (B : Bi mg) (d : Ok P w K mg base 1 "_law_draw" ["deck", "many"] spDraw) : Ok P w K mg base 2 "_law_mixed" ["deck", "items"] spMixed := by
  refine D.ok fun fa fd F => F.ok scMixed (fun vs H Q E h => ?_) (fun cdv A outer s H vs Q E hr h => ?_)
  · obtain ⟨p, l, a, ns, rfl, _⟩ := h
    rfl
  · obtain ⟨p, l, a, ns, rfl, Dk, ha, hlen, q⟩ := h
    have hu : (cxOf CX0 P w K mg base ["deck", "items", "left", "found"] "_law_mixed" (defScope sMixed) fa cdv A outer s H E).A.units + 64 < cLine := hr.units
    refine ⟨_, pss_cons (ps_par (i := 2) (j := 3) rfl scMixed.nd rfl rfl (by decide) rfl rfl (pa_cons (pe_callTy call_list_of (by rfl) B.list (by decide +kernel) (pa_cons (pv 1) pa_nil)) (pa_cons (pe_lst pa_nil) pa_nil)) (by rfl))
      (pss_cons (ps_while PassesOwn.never (pt_cmpR (op_neN hu) (pv 2) (pe_lst pa_nil) (nomark _))
        (pss_one (ps_expr (pe_bm PySem.F.plainAttrs_list PySem.F.slot_list_append PySem.F.type_list_append mt_append (pv 3) (pa_cons
          (pe_bm PySem.F.plainAttrs_list PySem.F.slot_list_pop PySem.F.type_list_pop mt_popAt (pv 2) (pa_cons (pe_fn d hr (by rfl) (pa_cons (pv 0) (pa_cons (pe_callB call_len_seq (by rfl) B.len boot_len (pa_cons (pv 2) pa_nil)) pa_nil))) pa_nil)) pa_nil)))))
      (pss_one (ps_ret (pv 3)))), ?_⟩
    refine ⟨.ref a, rfl, a, _, rfl, .inl (SqL.of (hid_same p l H _ _ ha)), fun lf nlf => ?_⟩
    obtain ⟨nlp, nll⟩ := Dk.new nlf
    obtain ⟨e1, D1, _⟩ := new_dq (o := .lst (ns.map V.int)) Dk nlf
    refine ⟨by show 0 ≤ sizeLine; decide, fun f nf => ?_⟩
    obtain ⟨nfp, nfl⟩ := D1.new nf
    have nff : f ≠ lf := fun z => by rw [z, upd_same] at nf; cases nf
    have nf0 : H f = none := by rw [upd_ne nff] at nf; exact nf
    obtain ⟨e2, D2, _⟩ := new_dq (o := .lst []) D1 nf
    refine ⟨_, _, rfl, ?_⟩
    refine while_by (fun σ H6 => ∃ (zs ys : List Int), σ = [some (.ref p), some (.ref a), some (.ref lf), some (.ref f)] ∧ Deck H6 p l ∧ Ext p l H H6 ∧ H6 lf = some (.lst (zs.map V.int)) ∧ H6 f = some (.lst (ys.map V.int)) ∧ (ys ++ zs).Perm ns)
      (fun σ H6 => match H6 lf with | some (.lst zs) => zs.length | _ => 0) ⟨ns, [], rfl, D2, e1.trans e2, by rw [upd_ne nff.symm, upd_same], upd_same, .refl _⟩ ?_ ?_
    · rintro σ H6 ⟨zs, ys, rfl, D6, E6, hz, hy, hp⟩
      have hll := hp.length_eq
      rw [List.length_append] at hll
      refine ⟨.ref lf, rfl, by show 0 ≤ sizeLine; decide, fun c nc => ?_⟩
      have ncl : c ≠ lf := (ne_of_none hz nc).symm
      have ncf : c ≠ f := (ne_of_none hy nc).symm
      obtain ⟨e7, D7, _⟩ := new_dq (o := .lst []) D6 nc
      have hz7 : upd H6 c (.lst []) lf = some (.lst (zs.map V.int)) := by rw [upd_ne ncl.symm]; exact hz
      have hy7 : upd H6 c (.lst []) f = some (.lst (ys.map V.int)) := by rw [upd_ne ncf.symm]; exact hy
      have E7 := E6.trans e7
      refine ⟨lf, c, zs.map V.int, rfl, rfl, hz7, upd_same, _, rfl, ?_⟩
      generalize upd H6 c (.lst []) = H7 at D7 E7 hz7 hy7
      cases zs with
      | nil => exact iteF ⟨.ref f, rfl, q H7 f ys D7 E7 (by rw [hid_ne nfp nfl]; exact hy7) (by rw [List.append_nil] at hp; exact hp)⟩
      | cons z0 zr =>
        refine iteT ?_
        generalize hzz : z0 :: zr = zs at hz7 hp hll hz
        have hpos : 0 < zs.length := by rw [← hzz]; simp
        refine ⟨.ref f, rfl, .inl ⟨rfl, _, SqL.of hy7⟩, .ref lf, rfl, .inl ⟨rfl, _, SqL.of hz7⟩, .ref p, rfl, .ref lf, rfl, lf, _, rfl, .inl (SqL.of hz7), p, l, _, rfl, D7, by rw [List.length_map]; omega, fun H8 r D8 E8 h0 h1 => ?_⟩
        rw [List.length_map] at h1
        have hr : r.toNat < zs.length := by omega
        have hz8 : H8 lf = some (.lst (zs.map V.int)) := (hid_some (E8 lf _ (by rw [hid_ne nlp nll]; exact hz7))).2.2
        have hy8 : H8 f = some (.lst (ys.map V.int)) := (hid_some (E8 f _ (by rw [hid_ne nfp nfl]; exact hy7))).2.2
        have E9 := E7.trans E8
        refine ⟨lf, zs.map V.int, r, r.toNat, .int zs[r.toNat], rfl, rfl, hz8, by omega, by omega, seqIx h0 (by rw [List.length_map]; omega), by rw [List.getElem?_map, List.getElem?_eq_getElem hr]; rfl, ?_⟩
        refine ⟨f, ys.map V.int, .int zs[r.toNat], rfl, rfl, by rw [upd_ne nff]; exact hy8, szl (by rw [List.length_map]; omega), ?_⟩
        refine ⟨⟨zs.eraseIdx r.toNat, ys ++ [zs[r.toNat]], rfl, (D8.mut nlp nll).mut nfp nfl, Ext.mut (Ext.mut E9 nlf) nf0, ?_, ?_, ?_⟩, ?_⟩
        · rw [upd_ne nff.symm, upd_same, List.eraseIdx_eq_take_drop_succ, List.eraseIdx_eq_take_drop_succ, List.map_append, List.map_take, List.map_drop]
        · rw [upd_same, List.map_append]
          rfl
        · rw [List.append_assoc]
          exact (List.Perm.append_left ys (erase_perm zs hr)).trans hp
        · show (match upd (upd H8 lf _) f _ lf with | some (.lst zs) => zs.length | _ => 0) < (match H6 lf with | some (.lst zs) => zs.length | _ => 0)
          rw [upd_ne nff.symm, upd_same, hz]
          show ((zs.map V.int).eraseIdx r.toNat).length < (zs.map V.int).length
          rw [List.length_eraseIdx, List.length_map, if_pos hr]
          omega
    · rintro σ H6 Q1 Q2 hq ⟨x, hx, hs, g⟩
      refine ⟨x, hx, hs, fun c nc => ?_⟩
      obtain ⟨l', b, xs, i1, i2, i3, i4, kk, i5, i6⟩ := g c nc
      exact ⟨l', b, xs, i1, i2, i3, i4, kk, i5, hq _ _ i6⟩
end
end Kr
namespace Kr
open PySem PySem.Spec PyProof.Rows L2
theorem ch_next : ∀ n : Nat, n < 26 → ∀ t : Nat, t < 26 → t < n → ch n t * (n - t) / (t + 1) = ch n (t + 1) := by decide +kernel
theorem ch_nz (n : Nat) : ch n 0 = 1 := by cases n <;> rfl
theorem ch_big : ∀ n : Nat, n < 26 → ∀ t : Nat, t < 26 → ch n t < 10000000 := by decide +kernel
theorem law_len : ∀ n : Nat, n < 13 → ∀ s : Nat, s < n + 1 → ∀ t : Nat, t < s + 1 → (lawL n s t).length < 1000 := by decide +kernel
def spChosen : Sp := fun vs H Q _ => ∃ n s : Nat, vs = [.int (n : Int), .int (s : Int)] ∧ n ≤ 24 ∧ ∀ H', Same H H' → Q (.int (ch n s : Nat)) H'
def spLLots : Sp := fun vs H Q _ => ∃ n s : Nat, vs = [.int (n : Int), .int (s : Int)] ∧ n ≤ 12 ∧ s ≤ n ∧ ∀ H' v, Same H H' → Dq H' v (.list ((lotsL n s).map lotD)) → Q v H'
def spLNum : Sp := fun vs H Q _ => ∃ (n : Nat) (a : Addr) (l : List Nat), vs = [.int (n : Int), .ref a] ∧ H a = some (.tup (lv l)) ∧ Asc 0 n l ∧ n ≤ 24 ∧ ∀ H', Same H H' → Q (.int (num n l : Nat)) H'
section
variable {P : Program} {w : World} {K : PySem.W.Frag} {mg : Str → Option Value} {base : Heap}
theorem scCh : FnScope ["many", "size", "found", "turn"] ["many", "size"] (defScope sChosen) := ⟨rfl, rfl, rfl, by decide +kernel, rfl, by decide +kernel, by decide +kernel⟩
theorem o_chosen (D : Df K mg "_law_chosen" sChosen ["many", "size"]) (B : Bi mg) : Ok P w K mg base 1 "_law_chosen" ["many", "size"] spChosen := by
  refine D.ok fun f fd F => F.ok scCh (fun vs H Q E h => ?_) (fun cdv A outer s H vs Q E hr h => ?_)
  · obtain ⟨n, s, rfl, _⟩ := h
    rfl
  · obtain ⟨n, s, rfl, hn, q⟩ := h
    refine ⟨_, pss_cons (ps_if (pt_not (pt_chain op_le op_le pe_int (pv 1) (pv 0))) (pss_one (ps_ret pe_int)) pss_nil)
      (pss_cons (ps_set (i := 2) scCh.nd rfl (.inl rfl) pe_int)
      (pss_cons (ps_for PassesOwn.never rfl (pi_range1 (by rfl) B.range (pa_cons (pv 1) pa_nil)) (pg_name (i := 3) scCh.nd rfl (.inl rfl))
        (pss_one (ps_set (i := 2) scCh.nd rfl (.inl rfl) (pe_op op_fdiv (pe_op op_mul (pv 2) (pe_op op_sub (pv 0) (pv 3))) (pe_op op_add (pv 3) pe_int)))))
      (pss_one (ps_ret (pv 2))))), ?_⟩
    refine ⟨.int s, rfl, _, _, rfl, rfl, _, rfl, ?_⟩
    rw [decide_eq_true (show (0 : Int) ≤ (s : Int) by omega)]
    refine ⟨.int n, rfl, _, _, rfl, rfl, _, rfl, ?_⟩
    by_cases hs : s ≤ n
    rotate_left
    · rw [decide_eq_false (show ¬ (s : Int) ≤ (n : Int) by omega)]
      have := q H (Same.refl _)
      rw [ch_zero n s (by omega)] at this
      exact iteT this
    rw [decide_eq_true (show (s : Int) ≤ (n : Int) by omega)]
    refine iteF ⟨.int s, rfl, (s : Int), rfl, by omega, by omega, ?_⟩
    refine for_it (walk_rg (n := s)) (fun t σ H2 => ∃ v3 : Option V, σ = [some (.int n), some (.int s), some (.int (ch n t : Nat)), v3] ∧ H2 = H) ⟨none, by rw [ch_nz]; rfl, rfl⟩ (fun _ _ _ _ _ => trivial) ?_ ?_
    · rintro t x σ H2 H2' ht ⟨v3, rfl, rfl⟩ ⟨rfl, rfl⟩
      have hb := ch_big n (by omega) t (by omega)
      have e := ch_next n (by omega) t (by omega) (by omega)
      refine ⟨.int (ch n t : Nat), rfl, .int n, rfl, .int t, rfl, _, _, rfl, rfl, _, _, rfl, rfl, by left; constructor <;> omega, .int t, rfl, _, _, rfl, rfl, _, _, rfl, rfl, ⟨by omega, by omega⟩, some (.int t), ?_, rfl⟩
      have e2 : ((ch n t : Nat) : Int) * ((n : Int) - (t : Int)) / ((t : Int) + 1) = ((ch n (t + 1) : Nat) : Int) := by
        rw [← e, show ((n : Int) - (t : Int)) = ((n - t : Nat) : Int) by omega]
        norm_cast
      dsimp only
      rw [e2]
      rfl
    · rintro σ H2 ⟨v3, rfl, rfl⟩
      exact ⟨.int (ch n s : Nat), rfl, q _ (Same.refl _)⟩
abbrev nLL : List Str := ["many", "size", "found", "turn", "fresh", "lot", "first", "place"]
theorem scLL : FnScope nLL ["many", "size"] (defScope sLLots) := ⟨rfl, rfl, rfl, by decide +kernel, rfl, by decide +kernel, by decide +kernel⟩
theorem tup_shaped (ds : List Int) : SeqAt.shaped (.tuple (ds.map PyData.int)) = true := by
  unfold SeqAt.shaped
  have := dep_ints ds
  simp [PyData.canLay0, lay_ints, PyData.depth]
  omega
theorem lot_shaped (l : List Nat) : SeqAt.shaped (lotD l) = true := by
  have e : l.map (fun (x : Nat) => PyData.int (x : Int)) = (l.map fun (x : Nat) => (x : Int)).map PyData.int := by rw [List.map_map]; rfl
  unfold lotD
  rw [e]
  exact tup_shaped _
theorem lot_nil_eqv (l : List Nat) : PyData.eqv (lotD l) (lotD []) = decide (l = []) := by
  cases l <;> simp [lotD, PyData.eqv, PyData.eqvAll]
def lexts (n s t : Nat) (l : List Nat) : List (List Nat) := (List.range' (nx l) (n - s + t + 1 - nx l)).map fun x => l ++ [x]
theorem law_in (n s : Nat) : ∀ t, ∀ l ∈ lawL n s t, l.length = t ∧ ∀ x ∈ l, x < n - s + t
  | 0, l, h => by
    rw [List.mem_singleton.mp h]
    exact ⟨rfl, fun x hx => nomatch hx⟩
  | t + 1, l, h => by
    obtain ⟨k, hk, hl⟩ := List.mem_flatMap.mp h
    obtain ⟨x, hx, rfl⟩ := List.mem_map.mp hl
    obtain ⟨h1, h2⟩ := law_in n s t k hk
    have := List.mem_range'_1.mp hx
    refine ⟨by rw [List.length_append, h1]; rfl, fun y hy => ?_⟩
    rcases List.mem_append.mp hy with hy | hy
    · have := h2 y hy; omega
    · rw [List.mem_singleton.mp hy]; omega
/-- lot[-1] + 1 if lot != () else 0 -/
theorem next_ne {σ : L2.St} {i : Nat} {a : Addr} {l : List Nat} {G : Hp} {Q : VK} (hv : σ[i]? = some (some (.ref a))) (ha : G a = some (.tup (lv l))) (q : ∀ G', Same G G' → Q (.int (nx l : Nat)) G') :
    tIf (tTest (tOp (rNeD K) (tVar i) (tTup tNil))) (tOp (rI0 fun i j => .int (i + j)) (tOp (rIxT K) (tVar i) (tUn (rU fun i => .int (-i)) (tC (.int 1)))) (tC (.int 1))) (tC (.int 0)) σ G Q := by
  refine ⟨.ref a, hv, by show 0 ≤ sizeLine; decide, fun e ne => ?_⟩
  have s1 := same_new (o := .tup []) ne
  refine ⟨lotD l, lotD [], (lot_at (s1 _ _ ha)).dp (lot_flat l), (lot_at (l := []) upd_same).dp (lot_flat []), lot_shaped l, lot_shaped [], _, rfl, ?_⟩
  rw [lot_nil_eqv]
  by_cases hl : l = []
  · rw [decide_eq_true hl]
    subst hl
    exact iteF (q _ s1)
  · rw [decide_eq_false hl]
    obtain ⟨k, x, rfl⟩ : ∃ k x, l = k ++ [x] := ⟨l.dropLast, l.getLast hl, (List.dropLast_concat_getLast hl).symm⟩
    have h2 := q _ s1
    rw [nx_snoc] at h2
    refine iteT ⟨.ref a, hv, 1, rfl, a, _, -1, .int (x : Int), rfl, rfl, SqT.of (s1 _ _ ha), by rw [lv_snoc]; exact atI_last _ _, x, 1, rfl, rfl, ?_⟩
    have e2 : ((x : Int) + 1) = ((x + 1 : Nat) : Int) := by omega
    dsimp only
    rw [e2]
    exact h2
theorem o_lLots (D : Df K mg "_law_lots" sLLots ["many", "size"]) (B : Bi mg) : Ok P w K mg base 1 "_law_lots" ["many", "size"] spLLots := by
  refine D.ok fun f fd F => F.ok scLL (fun vs H Q E h => ?_) (fun cdv A outer s H vs Q E hr h => ?_)
  · obtain ⟨n, s, rfl, _⟩ := h
    rfl
  · obtain ⟨n, s, rfl, hn, hs, q⟩ := h
    have hu : (cxOf CX0 P w K mg base nLL "_law_lots" (defScope sLLots) f cdv A outer ‹Shared› H E).A.units + 64 < cLine := hr.units
    refine ⟨_, pss_cons (ps_set (i := 2) scLL.nd rfl (.inl rfl) (pe_lst (pa_cons (pe_tup pa_nil) pa_nil)))
      (pss_cons (ps_for PassesOwn.never rfl (pi_range1 (by rfl) B.range (pa_cons (pv 1) pa_nil)) (pg_name (i := 3) scLL.nd rfl (.inl rfl))
        (pss_cons (ps_set (i := 4) scLL.nd rfl (.inl rfl) (pe_lst pa_nil))
        (pss_cons (ps_for PassesOwn.never rfl (pi_list (pv 2)) (pg_name (i := 5) scLL.nd rfl (.inr rfl))
          (pss_cons (ps_set (i := 6) scLL.nd rfl (.inl rfl) (pe_ifExp (pt_cmpR (op_neD hu) (pv 5) (pe_tup pa_nil) (nomark _)) (pe_op op_add (pe_ix (r := rIxT K) ix_tup (pv 5) (pe_un un_neg pe_int) (fun _ _ => rfl)) pe_int) pe_int))
          (pss_one (ps_set (i := 4) scLL.nd rfl (.inl rfl) (pe_op op_cat (pv 4)
            (pe_lc (own := [("place", 7)]) (g := gName 7) (tt := tYes) rfl scLL.nd (pi_range2 (by rfl) B.range (pa_cons (pv 6) (pa_cons (pe_op op_add (pe_op op_add (pe_op op_sub (pv 0) (pv 1)) (pv 3)) pe_int) pa_nil))) (blkOk_by (own := [("place", 7)]) (N := nLL) (sc := defScope sLLots) (by decide +kernel))
              (fun _ _ _ _ _ => pg_name (i := 7) scLL.nd rfl (.inl rfl)) (fun _ _ _ _ _ => pts_nil)
              (fun _ _ _ _ _ => pe_op (r := rCatA K) op_catA (pv 5) (pe_tup (pa_cons (pv 7) pa_nil)))))))))
        (pss_one (ps_set (i := 2) scLL.nd rfl (.inl rfl) (pv 4))))))
      (pss_one (ps_ret (pv 2)))), ?_⟩
    refine ⟨by show 0 ≤ sizeLine; decide, fun t nt => ⟨by show 1 ≤ sizeLine; decide, fun l0 nl0 => ?_⟩⟩
    have s0 := (same_new (o := .tup []) nt).trans (same_new (o := .lst [.ref t]) nl0)
    have ht0 : upd (upd H t (.tup [])) l0 (.lst [.ref t]) t = some (.tup (lv [])) := same_new (o := .lst [.ref t]) nl0 _ _ upd_same
    refine ⟨.int s, rfl, (s : Int), rfl, by omega, by omega, for_it (walk_rg (n := s)) (fun t σ H2 => ∃ (v : V) (v3 v4 v5 v6 : Option V), σ = [some (.int n), some (.int s), some v, v3, v4, v5, v6, none] ∧ Same H H2 ∧ Dq H2 v (.list ((lawL n s t).map lotD)))
      ⟨.ref l0, none, none, none, none, rfl, s0, .lst upd_same (.cons (lot_at (l := []) ht0) .nil)⟩ (fun _ _ _ _ _ => trivial) ?_ ?_⟩
    · rintro t x σ H2 H2' ht ⟨v, v3, v4, v5, v6, rfl, sm, hv⟩ ⟨rfl, rfl⟩
      refine ⟨by show 0 ≤ sizeLine; decide, fun f0 nf0 => ?_⟩
      have s1 := same_new (o := .lst []) nf0
      have hv1 := hv.up s1
      have hf1 : upd H2' f0 (.lst []) f0 = some (.lst []) := upd_same
      have sm1 := sm.trans s1
      generalize upd H2' f0 (.lst []) = H3 at hv1 hf1 sm1
      have hful := law_len n (by omega) s (by omega) (t + 1) (by omega)
      have el : lawL n s (t + 1) = (lawL n s t).flatMap (lexts n s t) := rfl
      rw [el] at hful
      cases hv1 with
      | @lst L us _ hL qus =>
      have hul : us.length = (lawL n s t).length := by rw [qus.len, List.length_map]
      refine ⟨.ref L, rfl, L, rfl, ⟨us, SqL.of hL⟩, for_list (K := K) (xs := us) (fun i σ G => ∃ (fr : V) (v5 v6 : Option V), σ = [some (.int n), some (.int s), some (.ref L), some (.int t), some fr, v5, v6, none] ∧ Same H3 G ∧ Dq G fr (.list ((((lawL n s t).take i).flatMap (lexts n s t)).map lotD)))
        ⟨_, _, _, rfl, Same.refl _, .lst hf1 .nil⟩ (fun i σ G _ ⟨_, _, _, _, s2, _⟩ => SqL.of (s2 _ _ hL)) ?_ ?_⟩
      · rintro i x σ G hx ⟨fr, v5, v6, rfl, s2, hfr⟩
        obtain ⟨l, hl, a, rfl, ha0⟩ := lots_get qus hx
        have ha := s2 _ _ ha0
        obtain ⟨hll, hlm⟩ := law_in n s t l (List.mem_of_getElem? hl)
        have hpre := flat_le (lawL n s t) (lexts n s t) (i + 1)
        rw [flat_take hl, List.length_append] at hpre
        have hel : (lexts n s t l).length = n - s + t + 1 - nx l := by unfold lexts; rw [List.length_map, List.length_range']
        have hnx : nx l ≤ n - s + t + 1 := by
          by_cases hl0 : l = []
          · subst hl0
            rw [nx_nil]
            omega
          · have e : l = l.dropLast ++ [l.getLast hl0] := (List.dropLast_concat_getLast hl0).symm
            have := hlm _ (List.getLast_mem hl0)
            rw [e, nx_snoc]
            omega
        refine next_ne (l := l) rfl ha fun G2 s3 => ?_
        refine ⟨fr, rfl, .int (nx l : Nat), rfl, .int n, rfl, .int s, rfl, _, _, rfl, rfl, .int t, rfl, _, _, rfl, rfl, _, _, rfl, rfl, _, _, rfl, ⟨by omega, by omega, by omega, by omega⟩, fun D nD => ?_⟩
        have hnn : (((n : Int) - (s : Int) + (t : Int) + 1) - (nx l : Nat)).toNat = n - s + t + 1 - nx l := by omega
        rw [hnn]
        refine lc_it (walk_range (lo := (nx l : Nat)) (n := n - s + t + 1 - nx l)) (fun j G4 => ∃ acc, G4 D = some (.lst acc) ∧ Same G2 G4 ∧ DqA G4 acc (((List.range' (nx l) j).map fun x => l ++ [x]).map lotD)) ⟨[], upd_same, same_new nD, .nil⟩ (fun _ _ _ _ => trivial) ?_ ?_
        · rintro j x G4 G4' hj ⟨acc, hD, s4, qa⟩ ⟨rfl, rfl⟩
          refine ⟨rfl, ?_⟩
          dsimp only [tYes]
          rw [if_pos rfl]
          have ha4 := s4 _ _ (s3 _ _ ha)
          refine ⟨.ref a, rfl, .int _, rfl, by show 1 ≤ sizeLine; decide, fun u nu => ?_⟩
          have su := same_new (o := .tup [.int ((nx l : Nat) + (j : Int))]) nu
          refine catA_k (su _ _ ha4) upd_same (by rw [lv_len, hll]; show _ + 1 ≤ _; omega) fun y H5 s5 hy => ?_
          have hD5 := s5 _ _ (su _ _ hD)
          have hl2 : acc.length = j := by rw [qa.len, List.length_map, List.length_map, List.length_range']
          refine ⟨acc, hD5, szm (by omega), acc ++ [.ref y], upd_same, fun b o hb => ?_, ?_⟩
          · rw [upd_ne (ne_of_none hb nD)]
            exact s5 _ _ (su _ _ (s4 _ _ hb))
          · have ts : TS H5 (upd H5 D (.lst (acc ++ [.ref y]))) := TS.lst hD5
            rw [range1_succ, List.map_append (f := fun x => l ++ [x]), List.map_append (f := lotD)]
            refine dqa_snoc (DqA.upT ts (lots_flat _) ((qa.up su).up s5)) (Dq.upT ts (lot_flat _) ?_)
            refine lot_at ?_
            rw [hy, lv_snoc]
            simp
        · rintro G4 ⟨acc, hD, s4, qa⟩
          have hf4 := (hfr.up s3).up s4
          cases hf4 with
          | @lst fa fs _ hfa qfs =>
          refine ⟨fa, D, fs, acc, rfl, rfl, hfa, hD, ?_, fun p np => ?_⟩
          · have e1 : fs.length = (((lawL n s t).take i).flatMap (lexts n s t)).length := by rw [qfs.len, List.length_map]
            have e2 : acc.length = (lexts n s t l).length := by rw [qa.len, List.length_map]; rfl
            exact sz (by rw [e1, e2]; omega)
          · have sp := same_new (o := .lst (fs ++ acc)) np
            refine ⟨.ref p, _, _, rfl, s2.trans (s3.trans (s4.trans sp)), ?_⟩
            rw [flat_take hl, List.map_append (f := lotD)]
            exact .lst upd_same ((qfs.up sp).app (qa.up sp))
      · rintro σ G ⟨fr, v5, v6, rfl, s2, hfr⟩
        rw [hul, List.take_length] at hfr
        exact ⟨fr, rfl, fr, _, _, _, _, rfl, sm1.trans s2, hfr⟩
    · rintro σ H2 ⟨v, v3, v4, v5, v6, rfl, sm, hv⟩
      rw [lots_law n (by omega) s (by omega)] at hv
      exact ⟨v, rfl, q _ _ sm hv⟩
abbrev nLN : List Str := ["many", "lot", "found", "first", "size", "spot", "place", "lesser"]
theorem scLN : FnScope nLN ["many", "lot"] (defScope sLNum) := ⟨rfl, rfl, rfl, by decide +kernel, rfl, by decide +kernel, by decide +kernel⟩
theorem o_lNum (D : Df K mg "_law_number" sLNum ["many", "lot"]) (B : Bi mg) (oc : Ok P w K mg base 1 "_law_chosen" ["many", "size"] spChosen) : Ok P w K mg base 2 "_law_number" ["many", "lot"] spLNum := by
  refine D.ok fun f fd F => F.ok scLN (fun vs H Q E h => ?_) (fun cdv A outer s H vs Q E hr h => ?_)
  · obtain ⟨n, a, l, rfl, _⟩ := h
    rfl
  · obtain ⟨n, a, l, rfl, ha, hl, hn, q⟩ := h
    have hll := hl.len
    refine ⟨_, pss_cons (ps_par (i := 2) (j := 3) rfl scLN.nd rfl rfl (by decide) rfl rfl (pa_cons (pe_callB (cr_sum rfl) (by rfl) B.sum (by decide +kernel) (pa_cons
        (pe_lc (own := [("size", 4)]) (g := gName 4) (tt := tYes) rfl scLN.nd (pi_range1 (by rfl) B.range (pa_cons (pe_callB call_len_seq (by rfl) B.len boot_len (pa_cons (pv 1) pa_nil)) pa_nil)) (blkOk_by (own := [("size", 4)]) (N := nLN) (sc := defScope sLNum) (by decide +kernel)) (fun _ _ _ _ _ => pg_name (i := 4) scLN.nd rfl (.inl rfl)) (fun _ _ _ _ _ => pts_nil)
          (fun _ _ _ _ _ => pe_fn oc hr (by rfl) (pa_cons (pv 0) (pa_cons (pv 4) pa_nil)))) pa_nil)) (pa_cons pe_int pa_nil)) (by rfl))
      (pss_cons (ps_for PassesOwn.never rfl (pi_enumT (by rfl) B.enumerate (pa_cons (pv 1) pa_nil)) (pg_tup rfl (pgs_cons (pg_name (i := 5) scLN.nd rfl (.inl rfl)) (pgs_cons (pg_name (i := 6) scLN.nd rfl (.inl rfl)) pgs_nil)))
        (pss_cons (ps_for PassesOwn.never rfl (pi_range2 (by rfl) B.range (pa_cons (pv 3) (pa_cons (pv 6) pa_nil))) (pg_name (i := 7) scLN.nd rfl (.inl rfl))
          (pss_one (ps_set (i := 2) scLN.nd rfl (.inl rfl) (pe_op op_add (pv 2) (pe_fn oc hr (by rfl) (pa_cons (pe_op op_sub (pe_op op_sub (pv 0) pe_int) (pv 7)) (pa_cons (pe_op op_sub (pe_op op_sub (pe_callB call_len_seq (by rfl) B.len boot_len (pa_cons (pv 1) pa_nil)) pe_int) (pv 5)) pa_nil)))))))
        (pss_one (ps_set (i := 3) scLN.nd rfl (.inl rfl) (pe_op op_add (pv 6) pe_int)))))
      (pss_one (ps_ret (pv 2)))), ?_⟩
    refine ⟨.ref a, rfl, a, _, rfl, .inr (SqT.of ha), ?_⟩
    rw [lv_len]
    refine ⟨(l.length : Nat), rfl, by omega, by omega, fun D nD => ?_⟩
    refine lc_itF (walk_rg (n := l.length)) (fun k => .int ((ch n k : Nat) : Int)) nD (by omega) (fun _ _ => rfl) (fun _ _ => trivial) (fun k x G G' C Cn hk s1 y c => ?_) (fun G acc s1 hD qa => ?_)
    · obtain ⟨rfl, rfl⟩ := y
      refine ⟨rfl, ?_⟩
      dsimp only [tYes]
      rw [if_pos rfl]
      refine ⟨.int n, rfl, .int k, rfl, n, k, rfl, hn, fun G2 s2 => ?_⟩
      exact c _ _ s2 (.int _)
    have eacc : acc = ((List.range l.length).map fun k => ((ch n k : Nat) : Int)).map V.int := dqa_ints (by rw [List.map_map]; exact qa)
    subst eacc
    refine ⟨D, _, rfl, SqL.of hD, ?_⟩
    have esum : ((List.range l.length).map fun k => ((ch n k : Nat) : Int)).sum = ((below n l.length : Nat) : Int) := by
      unfold below
      rw [← sum_cast, List.map_map]
      rfl
    rw [esum]
    have ha1 := s1 _ _ ha
    refine ⟨_, _, rfl, .ref a, rfl, a, _, rfl, SqT.of ha1, for_it walk_enumT (fun i σ H2 => ∃ (nb least : Nat) (v4 v5 v6 v7 : Option V), σ = [some (.int n), some (.ref a), some (.int (nb : Nat)), some (.int (least : Nat)), none, v5, v6, v7] ∧ Same G H2 ∧ nb + numGo n least (l.drop i) = below n l.length + numGo n 0 l ∧ ∀ x ∈ l.drop i, least ≤ x)
      ⟨_, 0, none, none, none, none, rfl, Same.refl _, rfl, fun _ _ => Nat.zero_le _⟩ (fun i σ H2 _ ⟨_, _, _, _, _, _, _, sm, _⟩ => SqT.of (sm _ _ ha1)) ?_ ?_⟩
    · rintro i _ σ H2 _ hi ⟨nb, least, _, v5, v6, v7, rfl, sm, enb, hle⟩ ⟨T, x, y, rfl, nT, rfl, e1, e2⟩
      cases Option.some.inj e1
      rw [lv_len] at hi
      have ex : l[i]? = some l[i] := List.getElem?_eq_getElem hi
      have ey : y = .int ((l[i] : Nat) : Int) := by
        have e6 : (lv l)[i]? = some y := e2
        unfold lv at e6
        rw [List.getElem?_map, ex] at e6
        exact (Option.some.inj e6).symm
      subst ey
      rw [List.drop_eq_getElem_cons hi] at enb hle
      have hxn := (hl.2 _ (List.getElem_mem hi)).2
      have hxl := hle _ List.mem_cons_self
      generalize hz : l[i] = z at enb hle hxn hxl
      have sT : Same H2 (upd H2 T (.tup [.int (i : Nat), .int (z : Nat)])) := same_new nT
      refine ⟨T, [.int (i : Nat), .int (z : Nat)], rfl, SqT.of upd_same, rfl, .int (i : Nat), [.int (z : Nat)], rfl, .int (z : Nat), [], rfl, rfl, ?_⟩
      have hzl : ((z : Int) - (least : Nat)).toNat = z - least := by omega
      have hdl : (l.drop (i + 1)).length = l.length - (i + 1) := List.length_drop
      refine ⟨.int (least : Nat), rfl, .int (z : Nat), rfl, _, _, rfl, ⟨by omega, by omega, by omega, by omega⟩, ?_⟩
      rw [hzl]
      have sm2 := sm.trans sT
      generalize upd H2 T (.tup [.int (i : Nat), .int (z : Nat)]) = H3 at sm2
      refine for_it (walk_range (lo := (least : Nat)) (n := z - least)) (fun j σ H4 => ∃ v7 : Option V, σ = [some (.int n), some (.ref a), some (.int ((nb + ((List.range j).map fun j => ch (n - 1 - (least + j)) (l.drop (i + 1)).length).sum : Nat) : Int)), some (.int (least : Nat)), none, some (.int (i : Nat)), some (.int (z : Nat)), v7] ∧ Same G H4) ⟨_, rfl, sm2⟩ (fun _ _ _ _ _ => trivial) ?_ ?_
      · rintro j x σ H4 H4' hj ⟨v7, rfl, sm4⟩ ⟨rfl, rfl⟩
        refine ⟨_, rfl, .int n, rfl, _, _, rfl, rfl, .int ((least : Nat) + (j : Int)), rfl, _, _, rfl, rfl, .ref a, rfl, a, _, rfl, .inr (SqT.of (sm4 _ _ ha1)), _, _, rfl, rfl, .int (i : Nat), rfl, _, _, rfl, rfl, n - 1 - (least + j), (l.drop (i + 1)).length, ?_, by omega, fun H5 s5 => ⟨_, _, rfl, rfl, some (.int ((least : Nat) + (j : Int))), ?_, sm4.trans s5⟩⟩
        · rw [lv_len, hdl]
          have e1 : ((n : Int) - 1 - ((least : Nat) + (j : Int))) = ((n - 1 - (least + j) : Nat) : Int) := by omega
          have e2 : ((l.length : Nat) : Int) - 1 - ((i : Nat) : Int) = ((l.length - (i + 1) : Nat) : Int) := by omega
          dsimp only
          rw [e1, e2]
          rfl
        · have e1 : (((nb + ((List.range j).map fun j => ch (n - 1 - (least + j)) (l.drop (i + 1)).length).sum : Nat) : Int)) + ((ch (n - 1 - (least + j)) (l.drop (i + 1)).length : Nat) : Int) = ((nb + ((List.range (j + 1)).map fun j => ch (n - 1 - (least + j)) (l.drop (i + 1)).length).sum : Nat) : Int) := by
            rw [List.range_succ, List.map_append, List.sum_append, List.map_singleton, List.sum_singleton]
            omega
          dsimp only
          rw [e1]
          rfl
      · rintro σ H4 ⟨v7, rfl, sm4⟩
        refine ⟨.int (z : Nat), rfl, _, _, rfl, rfl, ?_⟩
        refine ⟨_, z + 1, none, _, _, _, rfl, sm4, ?_, fun x hx => ?_⟩
        · simp only [numGo] at enb
          omega
        · have hp : (l.drop i).Pairwise (· < ·) := hl.1.sublist (List.drop_sublist _ _)
          rw [List.drop_eq_getElem_cons hi, hz] at hp
          exact (List.pairwise_cons.mp hp).1 x hx
    · rintro σ H2 ⟨nb, least, _, v5, v6, v7, rfl, sm, enb, hle⟩
      rw [lv_len, List.drop_of_length_le (Nat.le_refl _)] at enb
      refine ⟨.int (nb : Nat), rfl, ?_⟩
      have e : nb = num n l := by
        rw [num_go hl]
        exact enb
      rw [e]
      exact q H2 (s1.trans sm)
end
end Kr
namespace Kr
open PySem PySem.Spec PyProof.Rows L2
section
variable {X : Cx} {CX : CXT} {k : Nat} {f : Addr} {fd : FuncData} {ps ks : List Str} {sp : Sp} {E : L2.St → XK} {x : Str} {p pos : Pos} {kws : List Keyword} {tk : TA} {g : List Value → List Value → List Value} {gV : List V → List V → List V}
/-- f(k = v, ..), names alone, of a def that may raise -/
def tCallNS (m : Nat) (sp : Sp) (gV : List V → List V → List V) (E : L2.St → XK) (tk : TA) : TE := fun σ H Q => tk σ H fun zs H1 => zs.length = m ∧ sp (gV [] zs) H1 Q (E σ)
theorem pe_callNS (F : FnOk X.prog X.w X.K X.mg X.base CX k f fd ps sp) (hr : Room k X.A) (hg : Gl X x) (hm : X.mg x = some (.ref f)) (hk : PySem.W.keepIn X.K (.ref f) = true) (hb : KBn X.K fd ps 0 ks g gV) (hx : ∀ σ, PassesAt CX X σ (E σ)) (hkw : PK X kws tk)
    (hall : (backToKw pos (keywordEach kws X.env)).all (·.1.isSome) = true := by rfl) (hks : (backToKw pos (keywordEach kws X.env)).filterMap (·.1) = ks := by rfl) (hdb : (x == ("__debug__" : Str)) = false := by decide)
    (hpl : ((backTo pos (starEach [] X.env)).any (·.1) || (backToKw pos (keywordEach kws X.env)).any (·.1.isNone)) = false := by rfl) :
    PE X (.Call (.Name x p) [] kws pos) (tCallNS ks.length sp gV E tk) := by
  refine ⟨fun pins s σ H Q I h => wpAny_Call_Name_kw (ld_glob I hg hm ?_ hdb)⟩
  refine PySem.W.callWith_KW0 (h₀ := X.base) I.ok.mod.kin hk hall ?_ hpl
  refine thn (hkw.run pos pins s σ H _ I h) fun ws s2 ⟨zs, H2, I2, rz, l2, q2⟩ => ⟨I2.kIn, ?_⟩
  rw [hks]
  refine wpAny_call (codeAny_mono (F.run X.A X.stack s2 H2 ⟨[], ks.zip ws⟩ (g [] ws) (gV [] zs) _ (E σ) hr I2.env0 (hb.to s2 [] ws I2.kIn rfl (rz.length.symm.trans l2)) (hb.rel .nil rz) q2) fun r s' hq => ?_)
  cases r with
  | error e => exact hx σ pins _ _ e s' I2 hq
  | ok fl =>
    cases fl with
    | ret u => exact I2.after hq
    | next => exact hq.elim
    | brk => exact hq.elim
    | cont => exact hq.elim
end
/-- a block that wants to be told something first -/
theorem pss_told {X : Cx} {b : List Stmt} {t : L2.TS} {A : Prop} (h : A → PSs X b t) : PSs X b (fun D σ H => A ∧ t D σ H) := ⟨fun pins s σ H D I ⟨a, q⟩ => (h a).run pins s σ H D I q⟩

/-- isinstance(slip, c), slip what the suite holds, with a dict of its own -/
def rIsDD (K : PySem.W.Frag) (C a : Addr) (d : Option Addr) : List V → Hp → VK → Prop := fun xs H Q => ∃ (c : V) (cv : Value) (b : Bool) (dd : Addr) (fs : List (Str × V)), d = some dd ∧ xs = [.ref a, c] ∧ (∀ u, RelV c u → u = cv) ∧ PySem.W.kitOne K (.ref C) cv = some b ∧ H dd = some (.xd fs) ∧ Q (.bl b) H
theorem call_isDD {X : Cx} {a D : Addr} {d : Option Addr} {oe : Obj} {pn : List (Addr × Obj)} (C : PySem.W.DCls X.K D) (hz : Zc (.ref D) d oe) (hf : ∃ vs, oe.data = .fields vs) : CallR (X.suite a ((a, oe) :: pn)) (.builtin "isinstance") (rIsDD X.K D a d) := by
  intro pn1 sh st hp xs us Q Iv r hh
  obtain ⟨c, cv, b, dd, fs, rfl, h1, h2, h3, h4, h5⟩ := hh
  exact call_isD (fs := fs) C hz hf pn1 sh st hp xs us Q Iv r ⟨c, cv, b, h1, h2, h3, h4, h5⟩
def allD (n : Nat) : PyData := if n ≤ 6 then .list [.str "told", .tuple ((allL n).map lotD)] else .list [.str "refused", .int 6, .bool true]
def atD (n : Nat) (a : Int) : PyData := if a < 0 then .list [.str "refused", .bool true] else match lotAt n a.toNat with
  | some l => .list [.str "told", lotD l]
  | none => .list [.str "refused", .bool true]
def isL : Option HO → Bool
  | some (.lst _) => true
  | _ => false
/-- the heap without the lists that stood before -/
def newIn (H H' : Hp) : Hp := fun b => if isL (H b) = true then none else H' b
theorem newIn_new {H H' : Hp} {L : Addr} {o : HO} (s : Same H H') (n : H' L = none) : newIn H (upd H' L o) L = some o := by
  have h : H L = none := by
    cases q : H L with
    | none => rfl
    | some o => rw [s _ _ q] at n; cases n
  unfold newIn
  rw [h, upd_same]
  rfl
theorem newIn_tup {H H' : Hp} {t : Addr} {xs : List V} (s : Same H H') (h : H' t = some (.tup xs)) : newIn H H' t = some (.tup xs) := by
  unfold newIn
  rw [if_neg, h]
  intro z
  cases q : H t with
  | none => rw [q] at z; cases z
  | some o =>
    have e := s _ _ q
    rw [h] at e
    cases e
    rw [q] at z
    cases z
def spLAll : Sp := fun vs H Q _ => ∃ (n : Nat) (k : Bool), vs = [.int (n : Int), .bl k] ∧ n ≤ 24 ∧ ∀ H' r, Same H H' → Dq H' r (allD n) → Q r H'
def spLAt : Sp := fun vs H Q _ => ∃ (n : Nat) (a : Int) (k : Bool), vs = [.int (n : Int), .int a, .bl k] ∧ n ≤ 24 ∧ ∀ H' r, Same H H' → Dq (newIn H H') r (atD n a) → Q r H'
section
variable {P : Program} {w : World} {K : PySem.W.Frag} {mg : Str → Option Value} {base : Heap} {C R fI : Addr}
theorem scLA : FnScope ["many", "is_named", "slip"] ["many", "is_named"] (defScope sLAll) := ⟨rfl, rfl, rfl, by decide +kernel, rfl, by decide +kernel, by decide +kernel⟩
theorem o_lAll (D : Df K mg "_law_all" sLAll ["many", "is_named"]) (B : Bi mg) (T : PySem.TooX.TooTxt K mg C fI) (dC : PySem.W.DCls K C) (gR : mg "RidersError" = some (.ref R)) (kR : PySem.W.kitOne K (.ref C) (.ref R) = some true)
    (al : ∃ f fd, FnOk P w K mg base (L2.CX P w) 2 f fd ["n"] (spAllLots C) ∧ PySem.W.keepIn K (.ref f) = true ∧ mg "all_lots" = some (.ref f) ∧ Binds K fd ["n"] [] ∧ KBn K fd ["n"] 0 ["n"] (fun _ ws => ws) (fun _ zs => zs)) :
    Ok P w K mg base 3 "_law_all" ["many", "is_named"] spLAll := by
  obtain ⟨fR, dR, GR, kf, gf, bf, nf⟩ := al
  refine D.ok fun f fd F => F.ok scLA (fun vs H Q E h => ?_) (fun cdv A outer s H vs Q E hr h => ?_)
  · obtain ⟨n, k, rfl, _⟩ := h
    rfl
  · obtain ⟨n, k, rfl, hn, q⟩ := h
    refine ⟨_, pss_one (ps_try_as (i := 2) (tb := fun W => tRet (tLst (tCons (tC (.str "told")) (tCons (tIf (tTest (tVar 1)) (tCallNS 1 (spAllLots C) (fun _ zs => zs) (WE W) (tCons (tVar 0) tNil)) (tCallS (spAllLots C) (WE W) (tCons (tVar 0) tNil))) tNil))))
      (ts := fun a cls d D σ H => (cls = .ref C) ∧ tRet (tLst (tCons (tC (.str "refused")) (tCons (tByToo C a cls d (tVar 2)) (tCons (tCB (rIsDD K C a d) (tCons (tVar 2) (tCons (tC (.ref R)) tNil))) tNil)))) D σ H) (Wout := fun _ _ _ _ => False) rfl rfl scLA.nd rfl rfl ⟨rfl, by decide, Or.inl T.gC⟩ takes0
      (fun W pn xe tk _ => pss_one (ps_ret (by exact (pe_lst (pa_cons pe_str (pa_cons (pe_ifExp (pt_val (pv 1)) (pe_callNS GR hr (by rfl) gf kf nf (fun σ => passAt tk σ) (pk_cons (pv 0) pk_nil)) (pe_callS GR hr (by rfl) gf kf bf (fun σ => passAt tk σ) (pa_cons (pv 0) pa_nil))) pa_nil))))))
      (fun a oe cls d pn hz hf => pss_told fun hc => pss_one (ps_ret (by
        subst hc
        exact (pe_lst (pa_cons pe_str (pa_cons (pe_byToo T hz hf (pv 2)) (pa_cons (pe_callB (call_isDD dC hz hf) (by rfl) B.isinstance (by decide +kernel) (pa_cons (pv 2) (pa_cons (pe_glob (v := .ref R) (by rfl) gR rfl) pa_nil))) pa_nil)))))))), ?_⟩
    have good : n ≤ 6 → ∀ (H' : Hp) (v : V), Same H H' → Dq H' v (.tuple ((allL n).map lotD)) → (2 ≤ sizeLine ∧ ∀ l, H' l = none → Q (.ref l) (upd H' l (.lst [.str "told", v]))) := fun h6 H' v sm hv =>
      ⟨by show 2 ≤ sizeLine; decide, fun l nl => by
        refine q _ _ (sm.trans (same_new nl)) ?_
        unfold allD
        rw [if_pos h6]
        exact .lst upd_same (.cons (.str _) (.cons (hv.up (same_new nl)) .nil))⟩
    have bad : 6 < n → ∀ (H' : Hp), Same H H' → (3 ≤ sizeLine ∧ ∀ l, H' l = none → Q (.ref l) (upd H' l (.lst [.str "refused", .int 6, .bl true]))) := fun h6 H' sm =>
      ⟨by show 3 ≤ sizeLine; decide, fun l nl => by
        refine q _ _ (sm.trans (same_new nl)) ?_
        unfold allD
        rw [if_neg (by omega)]
        exact .lst upd_same (.cons (.str _) (.cons (.int _) (.cons (.bl _) .nil)))⟩
    refine ⟨.bl k, rfl, k, rfl, ?_⟩
    cases k with
    | true =>
      refine iteT ⟨.int n, rfl, rfl, n, rfl, hn, fun h6 H' v sm hv => good h6 H' v sm hv, fun h6 d hd => ?_⟩
      exact ⟨true, T.te, fun _ a ha => ⟨rfl, .ref a, rfl, rfl, rfl, d, .int 6, rfl, upd_same, .ref a, rfl, .ref R, .ref R, true, d, _, rfl, rfl, fun u h => h, kR, upd_same, bad h6 _ (same_new hd)⟩, fun z => Bool.noConfusion z⟩
    | false =>
      refine iteF ⟨.int n, rfl, n, rfl, hn, fun h6 H' v sm hv => good h6 H' v sm hv, fun h6 d hd => ?_⟩
      exact ⟨true, T.te, fun _ a ha => ⟨rfl, .ref a, rfl, rfl, rfl, d, .int 6, rfl, upd_same, .ref a, rfl, .ref R, .ref R, true, d, _, rfl, rfl, fun u h => h, kR, upd_same, bad h6 _ (same_new hd)⟩, fun z => Bool.noConfusion z⟩
theorem scLt2 : FnScope ["many", "number", "is_named", "slip"] ["many", "number", "is_named"] (defScope sLAt) := ⟨rfl, rfl, rfl, by decide +kernel, rfl, by decide +kernel, by decide +kernel⟩
theorem o_lAt (D : Df K mg "_law_at" sLAt ["many", "number", "is_named"]) (B : Bi mg) (T : Unf K mg C) (eC : ExcC K C) (eX : PySem.W.exmOne K (.ref C) (.ref C) = some true) (gR : mg "RidersError" = some (.ref R)) (kR : PySem.W.kitOne K (.ref C) (.ref R) = some true)
    (rd : ∃ f fd, FnOk P w K mg base (L2.CX P w) 2 f fd ["n", "number"] (spAt C) ∧ PySem.W.keepIn K (.ref f) = true ∧ mg "lot_at" = some (.ref f) ∧ Binds K fd ["n", "number"] [] ∧ KBn K fd ["n", "number"] 0 ["number", "n"] (fun _ ws => ws.reverse) (fun _ zs => zs.reverse)) :
    Ok P w K mg base 3 "_law_at" ["many", "number", "is_named"] spLAt := by
  obtain ⟨fR, dR, GR, kf, gf, bf, nf⟩ := rd
  refine D.ok fun f fd F => F.ok scLt2 (fun vs H Q E h => ?_) (fun cdv A outer s H vs Q E hr h => ?_)
  · obtain ⟨n, v, k, rfl, _⟩ := h
    rfl
  · obtain ⟨n, v, k, rfl, hn, q⟩ := h
    refine ⟨_, pss_one (ps_try_as (i := 3) (tb := fun W => tRet (tLst (tCons (tC (.str "told")) (tCons (tIf (tTest (tVar 2)) (tCallNS 2 (spAt C) (fun _ zs => zs.reverse) (WE W) (tCons (tVar 1) (tCons (tVar 0) tNil))) (tCallS (spAt C) (WE W) (tCons (tVar 0) (tCons (tVar 1) tNil)))) tNil))))
      (ts := fun a cls d D σ H => (cls = .ref C ∧ d = none) ∧ tRet (tLst (tCons (tC (.str "refused")) (tCons (tCB (rIsE K C a) (tCons (tVar 3) (tCons (tC (.ref R)) tNil))) tNil))) D σ H) (Wout := fun _ _ _ _ => False) rfl rfl scLt2.nd rfl rfl ⟨rfl, by decide, Or.inl T.g⟩ takes0
      (fun W pn xe tk _ => pss_one (ps_ret (by exact (pe_lst (pa_cons pe_str (pa_cons (pe_ifExp (pt_val (pv 2)) (pe_callNS GR hr (by rfl) gf kf nf (fun σ => passAt tk σ) (pk_cons (pv 1) (pk_cons (pv 0) pk_nil))) (pe_callS GR hr (by rfl) gf kf bf (fun σ => passAt tk σ) (pa_cons (pv 0) (pa_cons (pv 1) pa_nil)))) pa_nil))))))
      (fun a oe cls d pn hz hf => pss_told fun hc => pss_one (ps_ret (by
        obtain ⟨rfl, rfl⟩ := hc
        exact (pe_lst (pa_cons pe_str (pa_cons (pe_callB (call_isE eC hz hf) (by rfl) B.isinstance (by decide +kernel) (pa_cons (pv 3) (pa_cons (pe_glob (v := .ref R) (by rfl) gR rfl) pa_nil))) pa_nil))))))), ?_⟩
    have good : ∀ l, 0 ≤ v → lotAt n v.toNat = some l → ∀ (H' : Hp) (t : Addr), Same H H' → H' t = some (.tup (lv l)) → (2 ≤ sizeLine ∧ ∀ l, H' l = none → Q (.ref l) (upd H' l (.lst [.str "told", .ref t]))) := fun l h0 e H' t sm ht =>
      ⟨by show 2 ≤ sizeLine; decide, fun L nL => by
        refine q _ _ (sm.trans (same_new nL)) ?_
        unfold atD
        rw [if_neg (by omega), e]
        exact .lst (newIn_new sm nL) (.cons (.str _) (.cons (lot_at (newIn_tup (sm.trans (same_new nL)) (same_new nL _ _ ht))) .nil))⟩
    have bad : (v < 0 ∨ lotAt n v.toNat = none) → (2 ≤ sizeLine ∧ ∀ l, H l = none → Q (.ref l) (upd H l (.lst [.str "refused", .bl true]))) := fun e =>
      ⟨by show 2 ≤ sizeLine; decide, fun L nL => by
        refine q _ _ (same_new nL) ?_
        unfold atD
        by_cases h0 : v < 0
        · rw [if_pos h0]
          exact .lst (newIn_new (Same.refl _) nL) (.cons (.str _) (.cons (.bl _) .nil))
        · rw [if_neg h0, e.resolve_left h0]
          exact .lst (newIn_new (Same.refl _) nL) (.cons (.str _) (.cons (.bl _) .nil))⟩
    refine ⟨.bl k, rfl, k, rfl, ?_⟩
    cases k with
    | true =>
      refine iteT ⟨.int v, rfl, .int n, rfl, rfl, n, v, rfl, hn, fun l h0 e H' t sm ht => good l h0 e H' t sm ht, fun e => ?_⟩
      exact ⟨true, eX, fun _ a ha => ⟨⟨rfl, rfl⟩, .ref a, rfl, .ref R, .ref R, true, rfl, fun u h => h, kR, bad e⟩, fun z => Bool.noConfusion z⟩
    | false =>
      refine iteF ⟨.int n, rfl, .int v, rfl, n, v, rfl, hn, fun l h0 e H' t sm ht => good l h0 e H' t sm ht, fun e => ?_⟩
      exact ⟨true, eX, fun _ a ha => ⟨⟨rfl, rfl⟩, .ref a, rfl, .ref R, .ref R, true, rfl, fun u h => h, kR, bad e⟩, fun z => Bool.noConfusion z⟩
end
end Kr
namespace Kr
open PySem PySem.Spec PyProof.Rows L2
/-- the heap without one address -/
def iD (D : Addr) (H : Hp) : Hp := fun b => if b = D then none else H b
theorem iD_same {D : Addr} {H : Hp} : Same (iD D H) H := fun b o e => by
  unfold iD at e
  by_cases h : b = D
  · rw [if_pos h] at e; cases e
  · rw [if_neg h] at e; exact e
theorem iD_up {D : Addr} {H H' : Hp} (s : Same H H') : Same (iD D H) (iD D H') := fun b o e => by
  unfold iD at e ⊢
  by_cases h : b = D
  · rw [if_pos h] at e; cases e
  · rw [if_neg h] at e
    rw [if_neg h]
    exact s _ _ e
theorem iD_upd {D : Addr} {H : Hp} {o : HO} : iD D (upd H D o) = iD D H := by
  funext b
  unfold iD
  by_cases h : b = D
  · rw [if_pos h, if_pos h]
  · rw [if_neg h, if_neg h, upd_ne h]
theorem iD_ne {D b : Addr} {H : Hp} {o : HO} (h : b ≠ D) (e : H b = some o) : iD D H b = some o := by
  unfold iD
  rw [if_neg h]
  exact e
theorem newIn_iD {D : Addr} {H H' : Hp} {acc : List V} (h : H D = some (.lst acc)) : Same (newIn H H') (iD D H') := fun b o e => by
  unfold newIn at e
  by_cases hb : isL (H b) = true
  · rw [if_pos hb] at e; cases e
  · rw [if_neg hb] at e
    refine iD_ne (fun z => hb ?_) e
    rw [z, h]
    rfl
theorem newIn_same {H H' : Hp} : Same (newIn H H') H' := fun b o e => by
  unfold newIn at e
  by_cases hb : isL (H b) = true
  · rw [if_pos hb] at e; cases e
  · rw [if_neg hb] at e
    exact e
/-- a comprehension without tests whose items are new data of any kind, apart from the list itself -/
theorem lc_itN {J : It} {n : Nat} {G : Hp → Prop} {Y : Nat → Hp → V → Hp → Prop} (w : Walk J n G Y) {g : TG} {tt : TT} {te : TE} {vs : List Nat} {σ : L2.St} {H1 : Hp} {D : Addr} {Qd : Hp → Prop} (f : Nat → PyData) (nD : H1 D = none) (hn : n ≤ 100000) (hG : ∀ H, Same H1 H → G H)
    (hs : ∀ i x H H' (C : VK) (Cn : Hp → Prop) acc, i < n → Same H1 H → H D = some (.lst acc) → Y i H x H' → (∀ y H4, Same H H4 → Dq (iD D H4) y (f i) → C y H4) → g x (wipe σ vs) H' fun σ2 H2 => wipe σ2 vs = wipe σ vs ∧ tt σ2 H2 fun b H3 => if b = true then te σ2 H3 C else Cn H3)
    (hd : ∀ H acc, Same H1 H → H D = some (.lst acc) → DqA H acc ((List.range n).map f) → Qd H) :
    ∃ W : Nat → Nat → Hp → Prop, (∃ m, W 0 m (upd H1 D (.lst []))) ∧ ∀ i m H, W i m H →
      (J.stop i H ∧ Qd H) ∨ (J.go i H ∧ ∃ Nx : Hp → Prop, (∀ H', Nx H' → ∃ m', m' < m ∧ W (i + 1) m' H') ∧ ∀ x H', J.yld i H x H' → g x (wipe σ vs) H' fun σ2 H2 => wipe σ2 vs = wipe σ vs ∧ tt σ2 H2 fun b H3 =>
        if b = true then te σ2 H3 fun y H4 => ∃ acc, H4 D = some (.lst acc) ∧ acc.length < sizeLine ∧ Nx (upd H4 D (.lst (acc ++ [y]))) else Nx H3) := by
  refine lc_it w (fun i H => ∃ acc, H D = some (.lst acc) ∧ Same H1 H ∧ DqA (iD D H) acc ((List.range i).map f)) ⟨[], upd_same, fun b o e => by rw [upd_ne (ne_of_none e nD)]; exact e, .nil⟩ (fun i H _ ⟨_, _, s, _⟩ => hG H s) (fun i x H H' hi ⟨acc, hD, s, q⟩ y => ?_) fun H ⟨acc, hD, s, q⟩ => hd H acc s hD (q.up iD_same)
  refine hs i x H H' _ _ acc hi s hD y fun z H4 s4 d4 => ⟨acc, s4 _ _ hD, szm (by have := q.len; rw [List.length_map, List.length_range] at this; omega), acc ++ [z], upd_same, fun b o e => ?_, ?_⟩
  · rw [upd_ne (ne_of_none e nD)]
    exact s4 _ _ (s _ _ e)
  · rw [List.range_succ, List.map_append, iD_upd]
    exact dqa_snoc (q.up (iD_up s4)) d4
/-! ### what is shown is small -/
theorem Sm.lit {i : Int} (h : i.natAbs < 32) : Sm 1 5 (.int i) := by
  have a := Sm.int (i := i) (by omega)
  refine ⟨a.sh, a.ls, a.dp, ?_⟩
  simp only [PyData.weight]
  split
  · omega
  · rename_i h0
    have h1 : i.natAbs ≠ 0 := fun z => h0 (by simp; omega)
    have : i.natAbs.log2 < 5 := (Nat.log2_lt h1).mpr h
    omega
theorem Sm.str8 {x : Str} (h : (x.cps.toList.all fun c => decide (c < 16 ^ 8)) = true) (hs : x.length ≤ 8) : Sm 1 8 (.str x) :=
  ⟨by simp [PyData.showable], by simpa [PyData.leavesShort] using h, by simp [PyData.depth], hs⟩
theorem sm_told : Sm 1 8 (.str "told") := .str8 (by decide) (by decide)
theorem sm_refused : Sm 1 8 (.str "refused") := .str8 (by decide) (by decide)
theorem sm_lot {l : List Nat} {m : Nat} (hl : l.length ≤ m) (h : ∀ x ∈ l, x < 24) : Sm 2 (6 * m) (lotD l) := by
  refine Sm.tup (k := 1) (w := 5) (fun d hd => ?_) (by rw [List.length_map]; exact hl)
  obtain ⟨x, hx, rfl⟩ := List.mem_map.mp hd
  exact .lit (by have := h x hx; omega)
theorem Sm.two {k w : Nat} {a b : PyData} (ha : Sm k w a) (hb : Sm k w b) : Sm (k + 1) ((w + 1) * 2) (.list [a, b]) := Sm.lst (fun d hd => by
  simp only [List.mem_cons, List.not_mem_nil, or_false] at hd
  rcases hd with rfl | rfl
  · exact ha
  · exact hb) (Nat.le_refl _)
theorem sm_tolds {d : PyData} {k w : Nat} (h : Sm k w d) (hk : 1 ≤ k) (hw : 8 ≤ w) : Sm (k + 1) ((w + 1) * 2) (.list [.str "told", d]) := (sm_told.mono hk hw).two h
/-- repr(e) != repr(e'), as a test -/
theorem ne_repr {te te2 : TE} {σ : L2.St} {H : Hp} {Q : Bool → Hp → Prop} (h : te σ H fun v H1 => rRepr [v] H1 fun x H2 => te2 σ H2 fun v2 H3 => rRepr [v2] H3 fun y H4 => rNe x y H4 fun z H5 => ∃ k, z = .bl k ∧ Q k H5) :
    tTest (tOp rNe (tCB rRepr (tCons te tNil)) (tCB rRepr (tCons te2 tNil))) σ H Q := h
theorem ret_eq_repr {te te2 : TE} {σ : L2.St} {H : Hp} {D : Ends} (h : te σ H fun v H1 => rRepr [v] H1 fun x H2 => te2 σ H2 fun v2 H3 => rRepr [v2] H3 fun y H4 => rEq x y H4 fun z H5 => D.rt z H5) : tRet (tOp rEq (tCB rRepr (tCons te tNil)) (tCB rRepr (tCons te2 tNil))) D σ H := h
/-- repr of small data, the text under a name -/
theorem repr_x {v : V} {d : PyData} {H : Hp} {Q : VK} {k w : Nat} (hd : Dq H v d) (h : Sm k w d) (hk : k ≤ 40) (hw : w ≤ 380000) (q : ∀ x, x = d.shown → Q (.str x) H) : rRepr [v] H Q := repr_sm hd h hk hw (q _ rfl)
theorem repr_ne {v : V} {d : PyData} {H : Hp} {x : Str} {Q : Bool → Hp → Prop} {k w : Nat} (hx : x = d.shown) (hd : Dq H v d) (h : Sm k w d) (hk : k ≤ 40) (hw : w ≤ 380000) (q : Q false H) :
    rRepr [v] H fun y H4 => rNe (.str x) y H4 fun z H5 => ∃ k, z = .bl k ∧ Q k H5 := by
  refine repr_x hd h hk hw fun y hy => ?_
  rw [← hy] at hx
  subst hx
  refine ⟨rfl, _, rfl, ?_⟩
  rw [decide_eq_true rfl]
  exact q
theorem repr_eq {v : V} {d : PyData} {H : Hp} {x : Str} {Q : VK} {k w : Nat} (hx : x = d.shown) (hd : Dq H v d) (h : Sm k w d) (hk : k ≤ 40) (hw : w ≤ 380000) (q : Q (.bl true) H) :
    rRepr [v] H fun y H4 => rEq (.str x) y H4 fun z H5 => Q z H5 := by
  refine repr_x hd h hk hw fun y hy => ?_
  rw [← hy] at hx
  subst hx
  refine ⟨rfl, ?_⟩
  rw [decide_eq_true rfl]
  exact q
theorem all_len : ∀ n : Nat, n < 7 → (allL n).length = 2 ^ n := by decide +kernel
theorem all_asc : ∀ n : Nat, n < 7 → ∀ l ∈ allL n, (l.Pairwise (· < ·) ∧ l.length ≤ 6) ∧ ∀ x ∈ l, x < n := by decide +kernel
theorem two_le : ∀ n : Nat, n < 7 → 2 ^ n ≤ 64 := by decide
end Kr
namespace Kr
open PySem PySem.Spec PyProof.Rows L2
structure OkG (P : Program) (w : World) (K : PySem.W.Frag) (mg : Str → Option Value) (base : Heap) (k : Nat) (x : Str) (ps : List Str) (sp : Sp) : Prop where
  ex : ∃ f fd, FnG P w K mg base CX0 k f fd ps sp ∧ PySem.W.keepIn K (.ref f) = true ∧ mg x = some (.ref f) ∧ Binds K fd ps []
section
variable {P : Program} {w : World} {K : PySem.W.Frag} {mg : Str → Option Value} {base : Heap}
theorem Df.okG {x : Str} {st : Stmt} {ps : List Str} {k : Nat} {sp : Sp} (D : Df K mg x st ps) (h : ∀ f fd, Fun K x x st f fd → FnG P w K mg base CX0 k f fd ps sp) : OkG P w K mg base k x ps sp := by
  obtain ⟨f, fd, F, b, g⟩ := D.ex
  exact ⟨f, fd, h f fd F, F.kp, g, b⟩
theorem OkG.mono {x : Str} {ps : List Str} {j k : Nat} {sp : Sp} (D : OkG P w K mg base j x ps sp) (h : j ≤ k) : OkG P w K mg base k x ps sp := by
  obtain ⟨f, fd, F, r⟩ := D.ex
  exact ⟨f, fd, F.mono h, r⟩
end
theorem pe_fnG {X : Cx} {k : Nat} {x : Str} {ps : List Str} {sp : Sp} {p pos : Pos} {e : Expr} {es : List Expr} {t : TA} (D : OkG X.prog X.w X.K X.mg X.base k x ps sp) (gd : X.A.guards = some []) (hr : Room k X.A) (hg : Gl X x) (ha : PA X (e :: es) t)
    (hdb : (x == ("__debug__" : Str)) = false := by decide) (he : starEach (e :: es) X.env = (false, eval e X.env) :: starEach es X.env := by rfl) (hpl : (backTo pos (starEach es X.env)).any (·.1) = false := by rfl) :
    PE X (.Call (.Name x p) (e :: es) [] pos) (tCall sp [] E0 t) := by
  obtain ⟨f, fd, F, kp, g, b⟩ := D.ex
  exact pe_callG F gd hr hg g kp b .nil pass0 ha hdb he hpl
structure Fns (P : Program) (w : World) (K : PySem.W.Frag) (mg : Str → Option Value) (base : Heap) : Prop where
  draw : Ok P w K mg base 1 "_law_draw" ["deck", "many"] spDraw
  lotsOf : Ok P w K mg base 1 "lots_of" ["n", "size"] spLots
  lotNum : Ok P w K mg base 1 "lot_number" ["n", "lot"] spNum
  chosen : Ok P w K mg base 1 "_law_chosen" ["many", "size"] spChosen
  lLots : Ok P w K mg base 1 "_law_lots" ["many", "size"] spLLots
  pick : Ok P w K mg base 2 "_law_pick" ["deck", "items"] spPick
  mixed : Ok P w K mg base 2 "_law_mixed" ["deck", "items"] spMixed
  lNum : Ok P w K mg base 2 "_law_number" ["many", "lot"] spLNum
  lAll : Ok P w K mg base 3 "_law_all" ["many", "is_named"] spLAll
  lAt : Ok P w K mg base 3 "_law_at" ["many", "number", "is_named"] spLAt
def spSmall : Sp := fun vs H Q _ => ∃ p l : Addr, vs = [.ref p] ∧ Deck H p l ∧ ∀ H', Deck H' p l → Ext p l H H' → Q (.bl true) H'
abbrev nSm : List Str := ["deck", "many", "every", "size", "numbers", "lot", "number"]
section
variable {P : Program} {w : World} {K : PySem.W.Frag} {mg : Str → Option Value} {base : Heap}
theorem scSm : FnScope nSm ["deck"] (defScope sSmall) := ⟨rfl, rfl, rfl, by decide +kernel, rfl, by decide +kernel, by decide +kernel⟩
theorem o_small (D : Df K mg "_law_is_small" sSmall ["deck"]) (B : Bi mg) (T : Fns P w K mg base) : OkG P w K mg base 4 "_law_is_small" ["deck"] spSmall := by
  refine D.okG fun f fd F => okG F scSm (fun vs H Q E h => ?_) (fun cdv A outer s H vs Q E hg hr h => ?_)
  · obtain ⟨p, l, rfl, _⟩ := h
    rfl
  · obtain ⟨p, l, rfl, Dk, q⟩ := h
    have hr1 := hr.mono (show 1 ≤ 3 by decide)
    have hr2 := hr.mono (show 2 ≤ 3 by decide)
    have cr := call_repr (X := (cxOf CX0 P w K mg base nSm "_law_is_small" (defScope sSmall) f cdv A outer s H E).nox) hg hr.units
    refine ⟨_, pss_cons (ps_set (i := 1) scSm.nd rfl (.inr rfl) (pe_op op_add pe_int (pe_fn T.draw hr1 (by rfl) (pa_cons (pv 0) (pa_cons pe_int pa_nil)))))
      (pss_cons (ps_set (i := 2) scSm.nd rfl (.inl rfl) (pe_lst pa_nil))
      (pss_cons (ps_for PassesOwn.never rfl (pi_range1 (by rfl) B.range (pa_cons (pe_op op_add (pv 1) pe_int) pa_nil)) (pg_name (i := 3) scSm.nd rfl (.inl rfl))
        (pss_one (ps_set (i := 2) scSm.nd rfl (.inl rfl) (pe_op op_cat (pv 2) (pe_fn T.lLots hr1 (by rfl) (pa_cons (pv 1) (pa_cons (pv 3) pa_nil)))))))
      (pss_cons (ps_if (pt_cmpR op_ne (pe_callB cr (by rfl) B.repr (by decide +kernel) (pa_cons (pe_lst (pa_cons (pe_fn T.lAll hr (by rfl) (pa_cons (pv 1) (pa_cons pe_bl pa_nil))) (pa_cons (pe_fn T.lAll hr (by rfl) (pa_cons (pv 1) (pa_cons pe_bl pa_nil))) pa_nil))) pa_nil))
          (pe_callB cr (by rfl) B.repr (by decide +kernel) (pa_cons (pe_op op_rep (pe_lst (pa_cons (pe_lst (pa_cons pe_str (pa_cons (pe_callTy call_tuple_of (by rfl) B.tuple (by decide +kernel) (pa_cons (pv 2) pa_nil)) pa_nil))) pa_nil)) pe_int) pa_nil)) (nomark _)) (pss_one (ps_ret pe_bl)) pss_nil)
      (pss_cons (ps_setLc (i := 4) (own := [("lot", 5)]) (g := gName 5) (tt := tYes) rfl scSm.nd rfl rfl (sw_true rfl rfl rfl (by decide +kernel)) (pi_list (pv 2)) (blkOk_by (own := [("lot", 5)]) (N := nSm) (sc := defScope sSmall) (by decide +kernel)) (fun _ _ _ _ _ => pg_name (i := 5) scSm.nd rfl (.inl rfl)) (fun _ _ _ _ _ => pts_nil)
          (fun _ _ _ _ _ => pe_fn T.lotNum hr1 (by rfl) (pa_cons (pv 1) (pa_cons (pv 5) pa_nil))))
      (pss_cons (ps_if (pt_cmpR op_ne (pe_callB cr (by rfl) B.repr (by decide +kernel) (pa_cons (pv 4) pa_nil))
          (pe_callB cr (by rfl) B.repr (by decide +kernel) (pa_cons (pe_listRg rfl (by rfl) B.list (prg_1 (by rfl) B.range (pe_callB call_len_seq (by rfl) B.len boot_len (pa_cons (pv 2) pa_nil)))) pa_nil)) (nomark _)) (pss_one (ps_ret pe_bl)) pss_nil)
      (pss_one (ps_ret (pe_cmpR op_eq
        (pe_callB cr (by rfl) B.repr (by decide +kernel) (pa_cons (pe_lc (own := [("number", 6)]) (g := gName 6) (tt := tYes) rfl scSm.nd (pi_list (pv 4)) (blkOk_by (own := [("number", 6)]) (N := nSm) (sc := defScope sSmall) (by decide +kernel)) (fun _ _ _ _ _ => pg_name (i := 6) scSm.nd rfl (.inl rfl)) (fun _ _ _ _ _ => pts_nil)
          (fun _ _ _ _ _ => pe_fn T.lAt hr (by rfl) (pa_cons (pv 1) (pa_cons (pv 6) (pa_cons pe_bl pa_nil))))) pa_nil))
        (pe_callB cr (by rfl) B.repr (by decide +kernel) (pa_cons (pe_lc (own := [("lot", 5)]) (g := gName 5) (tt := tYes) rfl scSm.nd (pi_list (pv 2)) (blkOk_by (own := [("lot", 5)]) (N := nSm) (sc := defScope sSmall) (by decide +kernel)) (fun _ _ _ _ _ => pg_name (i := 5) scSm.nd rfl (.inl rfl)) (fun _ _ _ _ _ => pts_nil)
          (fun _ _ _ _ _ => pe_lst (pa_cons pe_str (pa_cons (pv 5) pa_nil)))) pa_nil)) (nomark _))))))))), ?_⟩
    refine ⟨.ref p, rfl, p, l, 4, rfl, Dk, by decide, fun H1 z D1 E1 z0 z1 => ⟨_, _, rfl, rfl, ?_⟩⟩
    obtain ⟨n, hn, n0, n1⟩ : ∃ n : Nat, 3 + z = (n : Int) ∧ 3 ≤ n ∧ n ≤ 6 := ⟨(3 + z).toNat, by omega, by omega, by omega⟩
    dsimp only
    rw [hn]
    clear hn z0 z1
    refine ⟨by show 0 ≤ sizeLine; decide, fun l0 nl0 => ?_⟩
    have s0 := same_new (o := .lst []) nl0
    refine ⟨.int n, rfl, _, _, rfl, rfl, (n : Int) + 1, rfl, by omega, by omega, ?_⟩
    have hm : ((n : Int) + 1).toNat = n + 1 := by omega
    rw [hm]
    have hfull : ∀ i, i ≤ n + 1 → (((List.range (n + 1)).take i).flatMap (lotsL n)).length ≤ 1000 := by
      intro i hi
      have h1 := flat_le (List.range (n + 1)) (lotsL n) i
      have h2 : ∀ n : Nat, n < 7 → ((List.range (n + 1)).flatMap (lotsL n)).length ≤ 1000 := by decide +kernel
      have := h2 n (by omega)
      omega
    refine for_it (walk_rg (n := n + 1)) (fun i σ G => ∃ (ev : V) (v3 : Option V), σ = [some (.ref p), some (.int n), some ev, v3, none, none, none] ∧ Same H1 G ∧ Dq G ev (.list ((((List.range (n + 1)).take i).flatMap (lotsL n)).map lotD))) ⟨_, none, rfl, s0, .lst upd_same .nil⟩ (fun _ _ _ _ _ => trivial) ?_ ?_
    · rintro i x σ G G' hi ⟨ev, v3, rfl, sm, hev⟩ ⟨rfl, rfl⟩
      refine ⟨ev, rfl, .int n, rfl, .int i, rfl, n, i, rfl, by omega, by omega, fun G2 v s2 hv => ?_⟩
      have hri : (List.range (n + 1))[i]? = some i := List.getElem?_range hi
      have hb := hfull (i + 1) (by omega)
      rw [flat_take hri, List.length_append] at hb
      have hev2 := hev.up s2
      cases hev2 with
      | @lst ea es _ hea qes =>
      cases hv with
      | @lst fa fs _ hfa qfs =>
      refine ⟨ea, fa, es, fs, rfl, rfl, hea, hfa, ?_, fun q2 nq => ⟨.ref q2, _, rfl, sm.trans (s2.trans (same_new nq)), ?_⟩⟩
      · rw [qes.len, qfs.len, List.length_map, List.length_map]
        exact sz (by omega)
      · rw [flat_take hri, List.map_append (f := lotD)]
        exact .lst upd_same ((qes.up (same_new nq)).app (qfs.up (same_new nq)))
    rintro σ G ⟨ev, v3, rfl, sm, hev⟩
    rw [show (List.range (n + 1)).take (n + 1) = List.range (n + 1) from List.take_of_length_le (by rw [List.length_range]; exact Nat.le_refl _)] at hev
    have hev : Dq G ev (.list ((allL n).map lotD)) := hev
    have hal := all_len n (by omega)
    have hal2 := two_le n (by omega)
    have hasc := all_asc n (by omega)
    have smL : ∀ l ∈ allL n, Sm 2 36 (lotD l) := fun l hl => sm_lot (m := 6) (hasc l hl).1.2 fun x hx => by
      have := (hasc l hl).2 x hx
      omega
    have smT : Sm 3 (37 * 64) (.tuple ((allL n).map lotD)) := Sm.tup (fun d hd => by
      obtain ⟨l, hl, rfl⟩ := List.mem_map.mp hd
      exact smL l hl) (by rw [List.length_map]; omega)
    have eA : allD n = .list [.str "told", .tuple ((allL n).map lotD)] := by
      unfold allD
      rw [if_pos n1]
    have smA := sm_tolds smT (by decide) (by decide)
    dsimp only [tNext]
    refine ne_repr ⟨.int n, rfl, n, true, rfl, by omega, fun G2 r1 s2 h1 => ⟨.int n, rfl, n, false, rfl, by omega, fun G3 r2 s3 h2 => ⟨by show 2 ≤ sizeLine; decide, fun L nL => ?_⟩⟩⟩
    rw [eA] at h1 h2
    have sL := same_new (o := .lst [r1, r2]) nL
    refine repr_x (.lst upd_same (.cons ((h1.up s3).up sL) (.cons (h2.up sL) .nil))) (smA.two smA) (by decide) (by decide) fun tx etx => ?_
    have s4 := s2.trans (s3.trans sL)
    generalize upd G3 L (.lst [r1, r2]) = G4 at s4
    have hev4 := hev.up s4
    cases hev4 with
    | @lst ea us _ hea qus =>
    have hul : us.length = 2 ^ n := by rw [qus.len, List.length_map, hal]
    refine ⟨.ref ea, rfl, ea, us, rfl, .inl ⟨SqL.of hea, fun t nt => ⟨by show 2 ≤ sizeLine; decide, fun L1 nL1 => ⟨by show 1 ≤ sizeLine; decide, fun L2 nL2 => ⟨L2, 2, [.ref L1], rfl, rfl, upd_same, by decide, by decide, by show 1 * 2 ≤ sizeLine; decide, fun L3 nL3 => ?_⟩⟩⟩⟩⟩
    have st := same_new (o := .tup us) nt
    have sL1 := same_new (o := .lst [.str "told", .ref t]) nL1
    have sL2 := same_new (o := .lst [.ref L1]) nL2
    have sL3 := same_new (o := .lst (List.replicate (2 : Int).toNat [V.ref L1]).flatten) nL3
    have hX : Dq (upd (upd (upd (upd G4 t (.tup us)) L1 (.lst [.str "told", .ref t])) L2 (.lst [.ref L1])) L3 (.lst (List.replicate (2 : Int).toNat [V.ref L1]).flatten)) (.ref L1) (.list [.str "told", .tuple ((allL n).map lotD)]) :=
      Dq.up sL3 (Dq.up sL2 (.lst upd_same (.cons (.str _) (.cons (Dq.up sL1 (.tup upd_same (qus.up st))) .nil))))
    refine repr_ne etx (.lst upd_same (.cons hX (.cons hX .nil))) (smA.two smA) (by decide) (by decide) (iteF ?_)
    clear etx
    clear hX
    have s5 := s4.trans (st.trans (sL1.trans (sL2.trans sL3)))
    have hea5 := (st.trans (sL1.trans (sL2.trans sL3))) _ _ hea
    have qus5 := qus.up (st.trans (sL1.trans (sL2.trans sL3)))
    generalize upd (upd (upd (upd G4 t (.tup us)) L1 (.lst [.str "told", .ref t])) L2 (.lst [.ref L1])) L3 (.lst (List.replicate (2 : Int).toNat [V.ref L1]).flatten) = G5 at s5 hea5 qus5
    have geti : ∀ (i : Nat) (l : List Nat), (allL n)[i]? = some l → (allL n).getD i [] = l := fun i l e => by
      rw [List.getD_eq_getElem?_getD, e]
      rfl
    have ascl : ∀ l ∈ allL n, Asc 0 n l := fun l hl => ⟨(hasc l hl).1.1, fun x hx => ⟨Nat.zero_le _, by have := (hasc l hl).2 x hx; omega⟩⟩
    have nums := lots_nums n (by omega)
    have hnum : ∀ (i : Nat) (l : List Nat), (allL n)[i]? = some l → num n l = i := fun i l e => by
      have h1 : ((allL n).map (num n))[i]? = some (num n l) := by rw [List.getElem?_map, e]; rfl
      rw [nums] at h1
      have h2 := List.getElem?_eq_some_iff.mp h1
      obtain ⟨h3, h4⟩ := h2
      rw [List.getElem_range] at h4
      exact h4.symm
    dsimp only [tNext]
    refine ⟨.ref ea, rfl, ea, rfl, ⟨us, SqL.of hea5⟩, fun D nD => ?_⟩
    refine lc_itF (walk_list (K := K) (a := ea) (xs := us)) (fun i => .int (i : Nat)) nD (by rw [hul]; omega) (fun _ _ => rfl) (fun G s => SqL.of (s _ _ hea5)) (fun i x G G' C Cn hi s1 y c => ?_) (fun G6 acc s6 hD qa => ?_)
    · obtain ⟨rfl, hx⟩ := y
      obtain ⟨lt, hlt, a, rfl, ha⟩ := lots_get qus5 hx
      refine ⟨rfl, ?_⟩
      dsimp only [tYes]
      rw [if_pos rfl]
      refine ⟨.int n, rfl, .ref a, rfl, n, a, lt, rfl, s1 _ _ ha, ascl _ (List.mem_of_getElem? hlt), by omega, fun G2 s2 => ?_⟩
      rw [hnum i lt hlt]
      exact c _ _ s2 (.int _)
    rw [hul] at qa
    have eacc : acc = ((List.range (2 ^ n)).map fun k => ((k : Nat) : Int)).map V.int := dqa_ints (by rw [List.map_map]; exact qa)
    have accl : acc.length = 2 ^ n := by rw [eacc, List.length_map, List.length_map, List.length_range]
    have smN : Sm 2 (141 * 64) (.list ((List.range (2 ^ n)).map fun i => .int (i : Nat))) := Sm.lst (fun d hd => by
      obtain ⟨i, hi, rfl⟩ := List.mem_map.mp hd
      have := List.mem_range.mp hi
      exact .int (Nat.lt_of_lt_of_le (show (i : Int).natAbs < 100 by omega) (by decide +kernel))) (by rw [List.length_map, List.length_range]; exact hal2)
    dsimp only [tNext]
    refine ne_repr ⟨.ref D, rfl, repr_x (.lst hD qa) smN (by decide) (by decide) fun tx etx => ?_⟩
    have hea6 := s6 _ _ hea5
    have qus6 := qus5.up s6
    refine ⟨.ref ea, rfl, ea, us, rfl, .inl (SqL.of hea6), _, rfl, RgOk.of_le (Int.le_refl _) (by rw [hul]; omega) (by decide) (by omega), fun L nL => ?_⟩
    rw [hul]
    have sL := same_new (o := .lst (rgV 0 (2 ^ n : Nat))) nL
    have e1 : rgV 0 (2 ^ n : Nat) = acc := by
      rw [eacc]
      unfold rgV
      rw [List.map_map, show (((2 ^ n : Nat) : Int) - 0).toNat = 2 ^ n by omega]
      exact List.map_congr_left fun i _ => by simp
    rw [e1] at sL ⊢
    refine repr_ne etx (.lst upd_same (qa.up sL)) smN (by decide) (by decide) (iteF ?_)
    clear etx
    have hD7 := sL _ _ hD
    have hea7 := sL _ _ hea6
    have qus7 := qus6.up sL
    have s7 := s5.trans (s6.trans sL)
    generalize upd G6 L (.lst acc) = G7 at hD7 hea7 qus7 s7
    dsimp only [tNext]
    have lotm : ∀ i, i < 2 ^ n → (allL n)[i]? = some ((allL n).getD i []) ∧ (allL n).getD i [] ∈ allL n := fun i hi => by
      have e : (allL n)[i]? = some (allL n)[i] := List.getElem?_eq_getElem (by rw [hal]; exact hi)
      rw [geti i _ e]
      exact ⟨e, List.getElem_mem _⟩
    have smP : Sm 4 (75 * 64) (.list ((List.range (2 ^ n)).map fun i => .list [.str "told", lotD ((allL n).getD i [])])) := Sm.lst (k := 3) (w := 74) (fun d hd => by
      obtain ⟨i, hi, rfl⟩ := List.mem_map.mp hd
      exact sm_tolds (smL _ (lotm i (List.mem_range.mp hi)).2) (by decide) (by decide)) (by rw [List.length_map, List.length_range]; exact hal2)
    refine ret_eq_repr ⟨.ref D, rfl, D, rfl, ⟨acc, SqL.of hD7⟩, fun D2 nD2 => ?_⟩
    refine lc_itN (walk_list (K := K) (a := D) (xs := acc)) (fun i => .list [.str "told", lotD ((allL n).getD i [])]) nD2 (by rw [accl]; omega) (fun G s => SqL.of (s _ _ hD7)) (fun i x G G' C Cn ac hi s1 hac y c => ?_) (fun G8 acc2 s8 hD2 qa2 => ?_)
    · obtain ⟨rfl, hx⟩ := y
      rw [accl] at hi
      have ex : x = .int (i : Nat) := by
        rw [eacc, List.getElem?_map, List.getElem?_map, List.getElem?_range hi] at hx
        exact (Option.some.inj hx).symm
      subst ex
      obtain ⟨el, ml⟩ := lotm i hi
      refine ⟨rfl, ?_⟩
      dsimp only [tYes]
      rw [if_pos rfl]
      refine ⟨.int n, rfl, .int (i : Nat), rfl, n, i, false, rfl, by omega, fun G2 r s2 hr2 => ?_⟩
      have eAt : atD n (i : Nat) = .list [.str "told", lotD ((allL n).getD i [])] := by
        unfold atD
        rw [if_neg (by omega), Int.toNat_natCast]
        have := lotAt_num (ascl _ ml)
        rw [hnum i _ el] at this
        rw [this]
      rw [eAt] at hr2
      exact c _ _ s2 (hr2.up (newIn_iD hac))
    rw [accl] at qa2
    refine repr_x (.lst hD2 qa2) smP (by decide) (by decide) fun tx etx => ?_
    have hea8 := s8 _ _ hea7
    have qus8 := qus7.up s8
    refine ⟨.ref ea, rfl, ea, rfl, ⟨us, SqL.of hea8⟩, fun D3 nD3 => ?_⟩
    refine lc_itN (walk_list (K := K) (a := ea) (xs := us)) (fun i => .list [.str "told", lotD ((allL n).getD i [])]) nD3 (by rw [hul]; omega) (fun G s => SqL.of (s _ _ hea8)) (fun i x G G' C Cn ac hi s1 hac y c => ?_) (fun G9 acc3 s9 hD3 qa3 => ?_)
    · obtain ⟨rfl, hx⟩ := y
      obtain ⟨lt, hlt, a, rfl, ha⟩ := lots_get qus8 hx
      refine ⟨rfl, ?_⟩
      dsimp only [tYes]
      rw [if_pos rfl]
      refine ⟨.ref a, rfl, by show 2 ≤ sizeLine; decide, fun L nL => ?_⟩
      have sL := same_new (o := .lst [.str "told", .ref a]) nL
      rw [geti i lt hlt] at c
      have ha9 := sL _ _ (s1 _ _ ha)
      exact c _ _ sL (.lst (iD_ne (fun z => by rw [z, hac] at nL; cases nL) upd_same) (.cons (.str _) (.cons (lot_at (iD_ne (ne_of ha9 (sL _ _ hac) (by intro z; cases z)) ha9)) .nil)))
    rw [hul] at qa3
    have sf := sm.trans (s7.trans (s8.trans s9))
    refine repr_eq etx (.lst hD3 qa3) smP (by decide) (by decide) ?_
    exact q _ (D1.up sf) (Same.trans E1 (Ext.of sf))
end
end Kr
namespace Kr
open PySem PySem.Spec PyProof.Rows L2
/-! ### beside an empty list -/
def rEqN : R2 := fun x y H Q => ∃ l b xs, x = .ref l ∧ y = .ref b ∧ H l = some (.lst xs) ∧ H b = some (.lst []) ∧ Q (.bl xs.isEmpty) H
theorem op_eqN {X : Cx} (hu : X.A.units + 64 < cLine) : OpR X (compareOp .Eq) rEqN := by
  intro pins s σ H x y v u Q I rx ry h
  obtain ⟨l, b, xs, rfl, rfl, hl, hb, q⟩ := h
  obtain rfl : v = Value.ref l := rx
  obtain rfl : u = Value.ref b := ry
  obtain ⟨its, r1, p1, _⟩ := I.list (SqL.of (K := X.K) hl)
  obtain ⟨it2, r2, p2, _⟩ := I.list (SqL.of (K := X.K) hb)
  cases r2
  cases r1 with
  | nil => exact SeqAt.RcAt.lists (e := fun _ => true) p1.isList p2.isList rfl (by omega) (fun j h1 _ => absurd h1 (by simp)) X.prog X.w X.xe _ ⟨.bl true, H, I, by rfl, q⟩
  | cons _ _ => exact SeqAt.RcAt.lists_lengths p1.isList p2.isList (by simp) (by omega) X.prog X.w X.xe _ ⟨.bl false, H, I, rfl, q⟩
/-- zip of two tuples, of any lengths -/
theorem walk_zipT {K : PySem.W.Frag} {a b : Addr} {xs ys : List V} {n : Nat} (hn : n = min xs.length ys.length) : Walk (RZ.ItzT K a b) n (fun H => SqT K H a xs ∧ SqT K H b ys) (YPair (fun i => xs[i]?) (fun i => ys[i]?)) := by
  subst hn
  refine ⟨fun i _ hi q => ?_, fun _ ⟨q1, q2⟩ => ⟨xs, ys, q1, q2, (by omega)⟩, fun i H v H' _ ⟨q1, q2⟩ y => ?_⟩
  · obtain ⟨g1, g2⟩ := Nat.lt_min.mp hi
    exact ⟨xs, ys, xs[i], ys[i], q.1, q.2, List.getElem?_eq_getElem g1, List.getElem?_eq_getElem g2⟩
  · obtain ⟨T, x, z, t1, t2, t3, t4, t5⟩ := y
    exact ⟨T, x, z, t1, t2, t3, t4 _ q1, t5 _ q2⟩
theorem vals_ints_flat (ns : List Int) : flatV (.int 0) = true := rfl
end Kr
namespace Kr
open PySem PySem.Spec PyProof.Rows L2
theorem pow_le_24 : ∀ n : Nat, n ≤ 24 → 2 ^ n ≤ 16777216 := by decide
theorem pow_ge_3 (n : Nat) (h : 3 ≤ n) (_ : n ≤ 24) : 8 ≤ 2 ^ n := Nat.pow_le_pow_right (n := 2) (by decide) h
theorem asc_low {n s : Nat} (h : s ≤ n) : Asc 0 n (List.range s) := ⟨List.pairwise_lt_range, fun x hx => ⟨Nat.zero_le _, by have := List.mem_range.mp hx; omega⟩⟩
theorem asc_top {n s : Nat} (h : s ≤ n) : Asc 0 n (List.range' (n - s) s) := ⟨List.pairwise_lt_range', fun x hx => ⟨Nat.zero_le _, by have := List.mem_range'_1.mp hx; omega⟩⟩
theorem rg_top {n s : Nat} (h : s ≤ n) : rgV ((n : Int) - (s : Int)) (n : Nat) = lv (List.range' (n - s) s) := by
  unfold rgV lv
  rw [show ((n : Int) - ((n : Int) - (s : Int))).toNat = s by omega, List.range'_eq_map_range, List.map_map]
  refine List.map_congr_left fun i hi => ?_
  show V.int _ = V.int _
  congr 1
  simp
  omega
theorem num_lt {n : Nat} {l : List Nat} (h : Asc 0 n l) (hn : n < 26) : num n l < 2 ^ n := by
  rcases Nat.lt_or_ge (num n l) (2 ^ n) with c | c
  · exact c
  · have e := lotAt_none hn c
    rw [lotAt_num h] at e
    cases e
theorem asc_drawn {n s : Nat} {ys zs : List Int} (hp : ys.Perm ((List.range n).map fun k => ((k : Nat) : Int))) (hq : zs.Perm (ys.take s)) (ho : zs.Pairwise (· ≤ ·)) : ∃ ds : List Nat, zs.map V.int = lv ds ∧ Asc 0 n ds := by
  have hm : ∀ z ∈ zs, 0 ≤ z ∧ z < n := fun z hz => by
    have h1 := hp.subset ((List.take_subset _ _) (hq.subset hz))
    obtain ⟨k, hk, rfl⟩ := List.mem_map.mp h1
    have := List.mem_range.mp hk
    omega
  have hnd : zs.Nodup := by
    have h0 : ((List.range n).map fun k => ((k : Nat) : Int)).Nodup := List.Pairwise.map _ (fun a b (h : a < b) => by show ((a : Nat) : Int) ≠ b; omega) List.pairwise_lt_range
    have h1 : ys.Nodup := hp.symm.nodup h0
    exact hq.symm.nodup (h1.sublist (List.take_sublist _ _))
  refine ⟨zs.map Int.toNat, ?_, ?_, fun x hx => ?_⟩
  · unfold lv
    rw [List.map_map]
    refine List.map_congr_left fun z hz => ?_
    have := hm z hz
    show V.int z = V.int ((z.toNat : Nat) : Int)
    rw [show ((z.toNat : Nat) : Int) = z by omega]
  · rw [List.pairwise_map]
    refine List.Pairwise.imp_of_mem (fun {a b} ha hb h => ?_) (ho.and hnd)
    have h1 := hm a ha
    have h2 := hm b hb
    have h3 : a ≤ b ∧ a ≠ b := h
    omega
  · obtain ⟨z, hz, rfl⟩ := List.mem_map.mp hx
    have := hm z hz
    exact ⟨Nat.zero_le _, by omega⟩
theorem dqa_strs {H : Hp} : ∀ {xs : List V} {n : List Nat} {f : Nat → Str}, DqA H xs (n.map fun i => .str (f i)) → xs = n.map fun i => V.str (f i)
  | _, [], _, .nil => rfl
  | _, n :: ns, f, .cons (.str _) t => by rw [dqa_strs t]; rfl
theorem inV_mem {x : Str} : ∀ {xs : List V}, V.str x ∈ xs → inV (.str x) xs = true
  | [], h => nomatch h
  | y :: ys, h => by
    unfold inV
    rw [List.any_eq_true]
    exact ⟨_, h, by simp [eqV]⟩
theorem lv_step {n i : Nat} {l : List Nat} {x y : V} (h : Asc 0 n l) (f1 : (lv l)[i]? = some x) (f2 : ((lv l).drop 1)[i]? = some y) : ∃ u v : Nat, x = .int (u : Nat) ∧ y = .int (v : Nat) ∧ u < v := by
  unfold lv at f1 f2
  rw [List.getElem?_map] at f1
  rw [List.getElem?_drop, List.getElem?_map, Nat.add_comm 1 i] at f2
  cases e1 : l[i]? with
  | none => rw [e1] at f1; cases f1
  | some u =>
    cases e2 : l[i + 1]? with
    | none => rw [e2] at f2; cases f2
    | some v =>
      rw [e1] at f1
      rw [e2] at f2
      obtain ⟨h1, rfl⟩ := List.getElem?_eq_some_iff.mp e1
      obtain ⟨h2, rfl⟩ := List.getElem?_eq_some_iff.mp e2
      exact ⟨_, _, (Option.some.inj f1).symm, (Option.some.inj f2).symm, List.pairwise_iff_getElem.mp h.1 i (i + 1) h1 h2 (Nat.lt_succ_self i)⟩
theorem cut_one (xs : List V) : cutV xs (some 1) none = xs.drop 1 := by
  unfold cutV
  have e1 : HT.sIx xs.length 0 (some 1) = min 1 xs.length := HT.sIx_nat _ _ 1
  rw [e1, HT.sIx_none]
  cases xs with
  | nil => rfl
  | cons x r =>
    have e2 : min 1 (x :: r).length = 1 := by simp
    rw [e2]
    show List.take ((r.length + 1) - 1) r = r
    rw [Nat.add_sub_cancel]
    exact List.take_length
/-- v, v[1:] as arguments -/
theorem zip_args {K : PySem.W.Frag} {i : Nat} {a : Addr} {xs : List V} {σ : L2.St} {H : Hp} {Q : List V → Hp → Prop} (hv : σ[i]? = some (some (.ref a))) (hx : H a = some (.tup xs))
    (h : ∀ (b : Addr) (H3 : Hp), Same H H3 → H3 b = some (.tup (xs.drop 1)) → Q [.ref a, .ref b] H3) : tCons (tVar i) (tCons (tSl (rSlA K) (tVar i) (tPart (tC (.int 1))) tNoPart) tNil) σ H Q :=
  ⟨.ref a, hv, .ref a, hv, 1, rfl, a, xs, rfl, SqT.of hx, fun w => h a H (Same.refl _) (by
    have e1 : HT.sIx xs.length 0 (some 1) = min 1 xs.length := HT.sIx_nat _ _ 1
    have h0 := w.1
    rw [e1] at h0
    have : xs = [] := List.length_eq_zero_iff.mp (by omega)
    subst this
    exact hx), fun _ p np => by
    rw [cut_one]
    exact h p _ (same_new np) upd_same⟩
def spGreat : Sp := fun vs H Q _ => ∃ (p l : Addr) (n : Nat), vs = [.ref p, .int (n : Int)] ∧ Deck H p l ∧ 3 ≤ n ∧ n ≤ 24 ∧ ∀ H', Deck H' p l → Ext p l H H' → Q (.bl true) H'
abbrev nGr : List Str := ["deck", "many", "size", "drawn", "whole", "lot", "number", "told", "places", "place", "one", "other", "odd"]
section
variable {P : Program} {w : World} {K : PySem.W.Frag} {mg : Str → Option Value} {base : Heap}
theorem scGr : FnScope nGr ["deck", "many"] (defScope sGreat) := ⟨rfl, rfl, rfl, by decide +kernel, rfl, by decide +kernel, by decide +kernel⟩
theorem f_great {f fN : Addr} {fd dN : FuncData} (F : Fun K "_law_is_great" "_law_is_great" sGreat f fd) (B : Bi mg) 
    (draw : Ok P w K mg base 1 "_law_draw" ["deck", "many"] spDraw) (pick : Ok P w K mg base 2 "_law_pick" ["deck", "items"] spPick) (mixed : Ok P w K mg base 2 "_law_mixed" ["deck", "items"] spMixed) (lNum : Ok P w K mg base 2 "_law_number" ["many", "lot"] spLNum)
    (lAt : Ok P w K mg base 3 "_law_at" ["many", "number", "is_named"] spLAt)
    (GN : FnOk P w K mg base CX0 1 fN dN ["n", "lot"] spNum) (kN : PySem.W.keepIn K (.ref fN) = true) (gN : mg "lot_number" = some (.ref fN)) (bN : Binds K dN ["n", "lot"] []) (nN : KBn K dN ["n", "lot"] 0 ["lot", "n"] (fun _ ws => ws.reverse) (fun _ zs => zs.reverse)) :
    FnG P w K mg base CX0 4 f fd ["deck", "many"] spGreat := by
  refine okG F scGr (fun vs H Q E h => ?_) (fun cdv A outer s H vs Q E hg hr h => ?_)
  · obtain ⟨p, l, n, rfl, _⟩ := h
    rfl
  · obtain ⟨p, l, n, rfl, Dk, n0, n1, q⟩ := h
    have hr1 := hr.mono (show 1 ≤ 3 by decide)
    have hr2 := hr.mono (show 2 ≤ 3 by decide)
    have hu : (cxOf CX0 P w K mg base nGr "_law_is_great" (defScope sGreat) f cdv A outer s H E).A.units + 64 < cLine := hr.units
    have cr := call_repr (X := (cxOf CX0 P w K mg base nGr "_law_is_great" (defScope sGreat) f cdv A outer s H E).nox) hg hr.units
    refine ⟨_, pss_cons (ps_set (i := 2) scGr.nd rfl (.inl rfl) (pe_fn pick hr2 (by rfl) (pa_cons (pv 0) (pa_cons (pe_lst (pa_cons pe_int (pa_cons pe_int (pa_cons pe_int (pa_cons (pe_op op_fdiv (pv 1) pe_int) (pa_cons (pe_op op_sub (pv 1) pe_int) (pa_cons (pv 1) (pa_cons (pe_fn draw hr1 (by rfl) (pa_cons (pv 0) (pa_cons (pe_op op_add (pv 1) pe_int) pa_nil))) pa_nil)))))))) pa_nil))))
      (pss_cons (ps_set (i := 3) scGr.nd rfl (.inl rfl) (pe_callTy call_tuple_of (by rfl) B.tuple (by decide +kernel) (pa_cons (pe_callB cr_sortedI (by rfl) B.sorted (by decide +kernel) (pa_cons (pe_slice sl_list (pe_fn mixed hr2 (by rfl) (pa_cons (pv 0) (pa_cons (pe_listRg rfl (by rfl) B.list (prg_1 (by rfl) B.range (pv 1))) pa_nil))) po_none (po_some (pv 2))) pa_nil)) pa_nil)))
      (pss_cons (ps_set (i := 4) scGr.nd rfl (.inl rfl) (pe_op op_shl pe_int (pv 1)))
      (pss_cons (ps_for PassesOwn.never rfl (pi_list (pe_lst (pa_cons (pv 3) (pa_cons (pe_tupRg rfl (by rfl) B.tuple (prg_1 (by rfl) B.range (pv 2))) (pa_cons (pe_tupRg rfl (by rfl) B.tuple (prg_2 (by rfl) B.range (pe_op op_sub (pv 1) (pv 2)) (pv 1))) pa_nil))))) (pg_name (i := 5) scGr.nd rfl (.inl rfl))
        (pss_cons (ps_set (i := 6) scGr.nd rfl (.inl rfl) (pe_fn lNum hr2 (by rfl) (pa_cons (pv 1) (pa_cons (pv 5) pa_nil))))
        (pss_one (ps_if (pt_cmpR op_ne (pe_callB cr (by rfl) B.repr (by decide +kernel) (pa_cons (pe_lst (pa_cons (pe_call GN hr1 (by rfl) gN kN bN .nil pass0 (pa_cons (pv 1) (pa_cons (pv 5) pa_nil))) (pa_cons (pe_fn lAt hr (by rfl) (pa_cons (pv 1) (pa_cons (pv 6) (pa_cons pe_bl pa_nil)))) pa_nil))) pa_nil))
          (pe_callB cr (by rfl) B.repr (by decide +kernel) (pa_cons (pe_lst (pa_cons (pv 6) (pa_cons (pe_lst (pa_cons pe_str (pa_cons (pv 5) pa_nil))) pa_nil))) pa_nil)) (nomark _)) (pss_one (ps_ret pe_bl)) pss_nil))))
      (pss_cons (ps_for PassesOwn.never rfl (pi_list (pe_lst (pa_cons pe_int (pa_cons (pe_op op_sub (pv 4) pe_int) (pa_cons (pe_fn draw hr1 (by rfl) (pa_cons (pv 0) (pa_cons (pv 4) pa_nil))) (pa_cons (pe_fn draw hr1 (by rfl) (pa_cons (pv 0) (pa_cons (pv 4) pa_nil))) pa_nil)))))) (pg_name (i := 6) scGr.nd rfl (.inl rfl))
        (pss_cons (ps_set (i := 7) scGr.nd rfl (.inl rfl) (pe_fn lAt hr (by rfl) (pa_cons (pv 1) (pa_cons (pv 6) (pa_cons (pe_cmpR op_eq (pv 6) pe_int (nomark _)) pa_nil)))))
        (pss_cons (ps_if (PW.pt (pw_or (pt_cmpR op_ne (pe_ix ix_list (pv 7) pe_int (fun _ _ => rfl)) pe_str (nomark _)) (pw_or1 (pt_not (pt_val (pe_callB call_isi (by rfl) B.isinstance (by decide +kernel) (pa_cons (pe_ix ix_list (pv 7) pe_int (fun _ _ => rfl)) (pa_cons (pe_bltn (v := .ty "tuple") (by rfl) B.tuple (by decide +kernel) rfl) pa_nil)))))))) (pss_one (ps_ret pe_bl)) pss_nil)
        (pss_cons (ps_asg (pe_tup (pa_cons (pe_ix ix_list (pv 7) pe_int (fun _ _ => rfl)) (pa_cons (pe_lc (own := [("place", 9)]) (g := gName 9) (tt := tYes) rfl scGr.nd (pi_range1 (by rfl) B.range (pa_cons (pv 1) pa_nil)) (blkOk_by (own := [("place", 9)]) (N := nGr) (sc := defScope sGreat) (by decide +kernel)) (fun _ _ _ _ _ => pg_name (i := 9) scGr.nd rfl (.inl rfl)) (fun _ _ _ _ _ => pts_nil)
            (fun _ _ _ _ _ => pe_callB (call_repr hg hr.units) (by rfl) B.repr (by decide +kernel) (pa_cons (pv 9) pa_nil))) pa_nil))) (pg_tup rfl (pgs_cons (pg_name (i := 5) scGr.nd rfl (.inl rfl)) (pgs_cons (pg_name (i := 8) scGr.nd rfl (.inr rfl)) pgs_nil))))
        (pss_cons (ps_if (pt_cmpR (op_neN hu) (pe_lc (own := [("place", 9)]) (g := gName 9) rfl scGr.nd (pi_tup (pv 5)) (blkOk_by (own := [("place", 9)]) (N := nGr) (sc := defScope sGreat) (by decide +kernel)) (fun _ _ _ _ _ => pg_name (i := 9) scGr.nd rfl (.inl rfl)) (fun _ _ _ _ _ => pts_one (pt_cmpR (r := rIn K true) op_notIn_seq (pe_callB (call_repr hg hr.units) (by rfl) B.repr (by decide +kernel) (pa_cons (pv 9) pa_nil)) (pv 8) rfl))
            (fun _ _ _ _ _ => pe_int)) (pe_lst pa_nil) (nomark _)) (pss_one (ps_ret pe_bl)) pss_nil)
        (pss_cons (ps_if (pt_cmpR (op_neN hu) (pe_lc (own := [("one", 10), ("other", 11)]) (g := gTup K 2 (gCons (gName 10) (gCons (gName 11) gNil))) rfl scGr.nd (RZ.pi_zipA (by rfl) B.zip (pa_cons (pv 5) (pa_cons (pe_slice sl_tupA (pv 5) (po_some pe_int) po_none) pa_nil))) (blkOk_by (own := [("one", 10), ("other", 11)]) (N := nGr) (sc := defScope sGreat) (by decide +kernel)) (fun _ _ _ _ _ => pg_tup rfl (pgs_cons (pg_name (i := 10) scGr.nd rfl (.inl rfl)) (pgs_cons (pg_name (i := 11) scGr.nd rfl (.inl rfl)) pgs_nil))) (fun _ _ _ _ _ => pts_one (pt_cmpR op_ge (pv 10) (pv 11) (nomark _)))
            (fun _ _ _ _ _ => pe_int)) (pe_lst pa_nil) (nomark _)) (pss_one (ps_ret pe_bl)) pss_nil)
        (pss_one (ps_if (PW.pt (pw_or (pt_cmpR op_ne (pe_fn lNum hr2 (by rfl) (pa_cons (pv 1) (pa_cons (pv 5) pa_nil))) (pv 6) (nomark _)) (pw_or1 (pt_cmpR op_ne (pe_callB cr (by rfl) B.repr (by decide +kernel) (pa_cons (pe_callN GN hr1 (by rfl) gN kN nN pass0 (pk_cons (pv 5) (pk_cons (pv 1) pk_nil))) pa_nil)) (pe_callB cr (by rfl) B.repr (by decide +kernel) (pa_cons (pv 6) pa_nil)) (nomark _))))) (pss_one (ps_ret pe_bl)) pss_nil))))))))
      (pss_cons (ps_set (i := 12) scGr.nd rfl (.inl rfl) (pe_lst (pa_cons (pe_un un_neg pe_int) (pa_cons (pv 4) (pa_cons (pe_op op_add (pv 4) (pe_fn draw hr1 (by rfl) (pa_cons (pv 0) (pa_cons pe_int pa_nil)))) (pa_cons (pe_op op_pow pe_int pe_int) (pa_cons (pe_un un_neg (pe_op op_pow pe_int pe_int)) pa_nil)))))))
      (pss_one (ps_ret (pe_cmpR op_eq
        (pe_callB cr (by rfl) B.repr (by decide +kernel) (pa_cons (pe_lc (own := [("number", 6)]) (g := gName 6) (tt := tYes) rfl scGr.nd (pi_list (pv 12)) (blkOk_by (own := [("number", 6)]) (N := nGr) (sc := defScope sGreat) (by decide +kernel)) (fun _ _ _ _ _ => pg_name (i := 6) scGr.nd rfl (.inl rfl)) (fun _ _ _ _ _ => pts_nil)
          (fun _ _ _ _ _ => pe_fn lAt hr (by rfl) (pa_cons (pv 1) (pa_cons (pv 6) (pa_cons pe_bl pa_nil))))) pa_nil))
        (pe_callB cr (by rfl) B.repr (by decide +kernel) (pa_cons (pe_op op_rep (pe_lst (pa_cons (pe_lst (pa_cons pe_str (pa_cons pe_bl pa_nil))) pa_nil)) pe_int) pa_nil)) (nomark _))))))))), ?_⟩
    refine ⟨.ref p, rfl, .int n, rfl, _, _, rfl, rfl, ⟨by decide, by decide⟩, .int n, rfl, _, _, rfl, rfl, .int n, rfl, .ref p, rfl, .int n, rfl, _, _, rfl, rfl, p, l, (n : Int) + 1, rfl, Dk, by omega, fun H1 z D1 E1 z0 z1 => ⟨by show 7 ≤ sizeLine; decide, fun a na => ?_⟩⟩
    obtain ⟨e1, D2, hid1⟩ := new_dq (o := .lst [.int 0, .int 1, .int 2, .int ((n : Int) / 2), .int ((n : Int) - 1), .int n, .int z]) D1 na
    refine ⟨p, l, a, [.int 0, .int 1, .int 2, .int ((n : Int) / 2), .int ((n : Int) - 1), .int n, .int z], rfl, D2, hid1, by simp, by show 7 < 1000000; decide, fun H2 v D3 E3 hv => ?_⟩
    obtain ⟨s', rfl, hs⟩ : ∃ s : Nat, v = .int (s : Int) ∧ s ≤ n := by
      simp only [List.mem_cons, List.not_mem_nil, or_false] at hv
      rcases hv with rfl | rfl | rfl | rfl | rfl | rfl | rfl
      · exact ⟨0, rfl, by omega⟩
      · exact ⟨1, rfl, by omega⟩
      · exact ⟨2, rfl, by omega⟩
      · exact ⟨n / 2, by rw [show ((n : Int) / 2) = ((n / 2 : Nat) : Int) by omega], by omega⟩
      · exact ⟨n - 1, by rw [show ((n : Int) - 1) = ((n - 1 : Nat) : Int) by omega], by omega⟩
      · exact ⟨n, rfl, Nat.le_refl _⟩
      · exact ⟨z.toNat, by rw [show ((z.toNat : Nat) : Int) = z by omega], by omega⟩
    have E13 : Ext p l H H2 := Same.trans E1 (Same.trans e1 E3)
    clear hid1 D2 e1 E3 z0 z1 D1 E1
    -- the drawn lot
    refine ⟨.ref p, rfl, .int n, rfl, (n : Int), rfl, RgOk.of_le (Int.le_refl _) (by omega) (by decide) (by omega), fun b nb => ?_⟩
    have erg : rgV 0 (n : Nat) = ((List.range n).map fun k => ((k : Nat) : Int)).map V.int := by
      unfold rgV
      rw [List.map_map, show ((n : Int) - 0).toNat = n by omega]
      exact List.map_congr_left fun i _ => by simp
    rw [erg]
    obtain ⟨e4, D4, hid4⟩ := new_dq (o := .lst (((List.range n).map fun k => ((k : Nat) : Int)).map V.int)) D3 nb
    refine ⟨p, l, b, _, rfl, D4, hid4, by rw [List.length_map, List.length_range]; omega, fun H5 f5 ys D5 E5 hf hp => ?_⟩
    have E15 : Ext p l H H5 := Same.trans E13 (Same.trans e4 E5)
    have hyl : ys.length = n := by rw [hp.length_eq, List.length_map, List.length_range]
    refine ⟨.int (s' : Nat), rfl, (s' : Int), rfl, f5, _, rfl, SqL.of (hid_same p l _ _ _ hf), fun c nc => ?_⟩
    rw [cut_to (by rw [List.length_map]; omega), ← List.map_take]
    have s6 := same_new (o := .lst ((ys.take s').map V.int)) nc
    refine ⟨c, ys.take s', rfl, SqL.of upd_same, fun zs d hp2 hso nd => ?_⟩
    have s7 := same_new (o := .lst (zs.map V.int)) nd
    refine ⟨d, _, rfl, .inl ⟨SqL.of upd_same, fun t nt => ?_⟩⟩
    obtain ⟨ds, eds, ads⟩ := asc_drawn hp hp2 hso
    have s8 := same_new (o := .tup (zs.map V.int)) nt
    have hdr : upd (upd (upd H5 c (.lst ((ys.take s').map V.int))) d (.lst (zs.map V.int))) t (.tup (zs.map V.int)) t = some (.tup (lv ds)) := by rw [upd_same, eds]
    have s58 := s6.trans (s7.trans s8)
    have D8 := D5.up s58
    have E18 : Ext p l H _ := Same.trans E15 (Ext.of s58)
    generalize upd (upd (upd H5 c (.lst ((ys.take s').map V.int))) d (.lst (zs.map V.int))) t (.tup (zs.map V.int)) = H8 at hdr D8 E18
    clear s58 s8 nt s7 nd s6 nc hf hid4 D4 e4 E5 D5 E15 E13 D3 nb na
    refine ⟨.int n, rfl, _, _, rfl, rfl, ⟨by omega, by omega, by decide⟩, ?_⟩
    have eW : (1 : Int) * 2 ^ ((n : Int)).toNat = ((2 ^ n : Nat) : Int) := by
      rw [Int.toNat_natCast, Int.one_mul]
      simp
    dsimp only
    rw [eW]
    have hW : 2 ^ n ≤ 16777216 := pow_le_24 n n1
    have hW0 : 8 ≤ 2 ^ n := pow_ge_3 n n0 n1
    -- three lots
    refine ⟨.ref t, rfl, .int s', rfl, (s' : Int), rfl, RgOk.of_le (Int.le_refl _) (by omega) (by decide) (by omega), fun t2 nt2 => ?_⟩
    have s9 := same_new (o := .tup (rgV 0 (s' : Nat))) nt2
    refine ⟨.int n, rfl, .int s', rfl, _, _, rfl, rfl, .int n, rfl, (n : Int) - (s' : Int), n, rfl, rfl, RgOk.of_le (by omega) (by omega) (by omega) (by omega), fun t3 nt3 => ⟨by show 3 ≤ sizeLine; decide, fun L nL => ?_⟩⟩
    have s10 := same_new (o := .tup (rgV ((n : Int) - (s' : Int)) (n : Nat))) nt3
    have s11 := same_new (o := .lst [.ref t, .ref t2, .ref t3]) nL
    have ht2 : upd H8 t2 (.tup (rgV 0 (s' : Nat))) t2 = some (.tup (lv (List.range s'))) := by
      rw [upd_same]
      unfold rgV lv
      rw [show ((s' : Int) - 0).toNat = s' by omega]
      exact congrArg _ (congrArg _ (List.map_congr_left fun i _ => by simp))
    have ht3 : upd (upd H8 t2 (.tup (rgV 0 (s' : Nat)))) t3 (.tup (rgV ((n : Int) - (s' : Int)) (n : Nat))) t3 = some (.tup (lv (List.range' (n - s') s'))) := by
      rw [upd_same]
      exact congrArg _ (congrArg _ (rg_top hs))
    have s811 := s9.trans (s10.trans s11)
    have D11 := D8.up s811
    have E11 : Ext p l H _ := Same.trans E18 (Ext.of s811)
    have hL : upd (upd (upd H8 t2 (.tup (rgV 0 (s' : Nat)))) t3 (.tup (rgV ((n : Int) - (s' : Int)) (n : Nat)))) L (.lst [.ref t, .ref t2, .ref t3]) L = some (.lst [.ref t, .ref t2, .ref t3]) := upd_same
    have hall : ∀ (j : Nat) (x : V), ([.ref t, .ref t2, .ref t3] : List V)[j]? = some x → ∃ (a : Addr) (l : List Nat), x = .ref a ∧ upd (upd (upd H8 t2 (.tup (rgV 0 (s' : Nat)))) t3 (.tup (rgV ((n : Int) - (s' : Int)) (n : Nat)))) L (.lst [.ref t, .ref t2, .ref t3]) a = some (.tup (lv l)) ∧ Asc 0 n l := by
      intro j x hx
      match j, hx with
      | 0, hx => cases Option.some.inj hx; exact ⟨t, ds, rfl, s811 _ _ hdr, ads⟩
      | 1, hx => cases Option.some.inj hx; exact ⟨t2, _, rfl, s11 _ _ (s10 _ _ ht2), asc_low hs⟩
      | 2, hx => cases Option.some.inj hx; exact ⟨t3, _, rfl, s11 _ _ ht3, asc_top hs⟩
    generalize upd (upd (upd H8 t2 (.tup (rgV 0 (s' : Nat)))) t3 (.tup (rgV ((n : Int) - (s' : Int)) (n : Nat)))) L (.lst [.ref t, .ref t2, .ref t3]) = H11 at D11 E11 hL hall
    clear s811 ht2 ht3 s11 s10 s9 nt2 nt3 nL hdr E18 D8
    refine ⟨L, rfl, ⟨_, SqL.of hL⟩, for_list (K := K) (xs := [.ref t, .ref t2, .ref t3]) (fun j σ G => ∃ v5 v6 : Option V, σ = [some (.ref p), some (.int n), some (.int s'), some (.ref t), some (.int (2 ^ n : Nat)), v5, v6, none, none, none, none, none, none] ∧ Same H11 G)
      ⟨_, _, rfl, Same.refl _⟩ (fun j σ G _ ⟨_, _, _, sm⟩ => SqL.of (sm _ _ hL)) ?_ ?_⟩
    · rintro j x σ G hx ⟨v5, v6, rfl, sm⟩
      obtain ⟨a, l, rfl, ha, hasc⟩ := hall j x hx
      have hlt := num_lt hasc (by omega)
      have smI : Sm 1 140 (.int (num n l : Nat)) := .int (Nat.lt_of_lt_of_le (show ((num n l : Nat) : Int).natAbs < 16777216 by omega) (by decide +kernel))
      have hll := hasc.len
      have smL := sm_lot (l := l) (m := 24) (by omega) fun x hx => by have := (hasc.2 x hx).2; omega
      have smT := (sm_tolds smL (by decide) (by decide))
      have smP := (smI.mono (show 1 ≤ 3 by decide) (show 140 ≤ 300 by decide)).two (smT.mono (Nat.le_refl _) (show _ ≤ 300 by decide))
      have eAt : atD n ((num n l : Nat) : Int) = .list [.str "told", lotD l] := by
        unfold atD
        rw [if_neg (by omega), Int.toNat_natCast, lotAt_num hasc]
      refine ⟨.int n, rfl, .ref a, rfl, n, a, l, rfl, sm _ _ ha, hasc, n1, fun G2 s2 => ?_⟩
      dsimp only [tNext]
      refine ne_repr ⟨.int n, rfl, .ref a, rfl, n, a, l, rfl, s2 _ _ (sm _ _ ha), hasc, n1, fun G3 s3 => ⟨.int n, rfl, .int (num n l : Nat), rfl, n, _, false, rfl, n1, fun G4 r s4 hr4 => ⟨by show 2 ≤ sizeLine; decide, fun L1 nL1 => ?_⟩⟩⟩
      rw [eAt] at hr4
      have s5 := same_new (o := .lst [.int (num n l : Nat), r]) nL1
      refine repr_x (.lst upd_same (.cons (.int _) (.cons ((hr4.up newIn_same).up s5) .nil))) smP (by decide) (by decide) fun tx etx => ?_
      refine ⟨.int (num n l : Nat), rfl, .ref a, rfl, ⟨by show 2 ≤ sizeLine; decide, fun L2 nL2 => ⟨by show 2 ≤ sizeLine; decide, fun L3 nL3 => ?_⟩⟩⟩
      have s6 := same_new (o := .lst [.str "told", .ref a]) nL2
      have s7 := same_new (o := .lst [.int (num n l : Nat), .ref L2]) nL3
      have sAll := s2.trans (s3.trans (s4.trans (s5.trans (s6.trans s7))))
      have ha2 := sAll _ _ (sm _ _ ha)
      refine repr_ne etx (.lst upd_same (.cons (.int _) (.cons (.lst (s7 _ _ upd_same) (.cons (.str _) (.cons (lot_at ha2) .nil))) .nil))) smP (by decide) (by decide) (iteF ?_)
      exact ⟨_, _, rfl, sm.trans sAll⟩
    rintro σ G ⟨v5, v6, rfl, sm⟩
    have D12 := D11.up sm
    have E12 : Ext p l H G := Same.trans E11 (Ext.of sm)
    clear sm hall hL E11 D11
    -- four numbers
    have hWi : ((2 ^ n : Nat) : Int) ≤ 16777216 := by omega
    refine ⟨.int (2 ^ n : Nat), rfl, _, _, rfl, rfl, .ref p, rfl, .int (2 ^ n : Nat), rfl, p, l, (2 ^ n : Nat), rfl, D12, by omega, fun Ha za Da Ea a0 a1 => ⟨.ref p, rfl, .int (2 ^ n : Nat), rfl, p, l, (2 ^ n : Nat), rfl, Da, by omega, fun Hb zb Db Eb b0 b1 => ⟨by show 4 ≤ sizeLine; decide, fun L nL => ?_⟩⟩⟩
    have hL : upd Hb L (.lst [.int 0, .int ((2 ^ n : Nat) - 1), .int za, .int zb]) L = some (.lst [.int 0, .int ((2 ^ n : Nat) - 1), .int za, .int zb]) := upd_same
    have sL := same_new (o := .lst [.int 0, .int ((2 ^ n : Nat) - 1), .int za, .int zb]) nL
    have D13 := Db.up sL
    have E13 : Ext p l H _ := Same.trans E12 (Same.trans Ea (Same.trans Eb (Ext.of sL)))
    generalize upd Hb L (.lst [.int 0, .int ((2 ^ n : Nat) - 1), .int za, .int zb]) = H13 at hL D13 E13
    clear sL nL Db Eb Da Ea D12 E12
    have hall : ∀ (j : Nat) (x : V), ([.int 0, .int ((2 ^ n : Nat) - 1), .int za, .int zb] : List V)[j]? = some x → ∃ k : Nat, x = .int (k : Nat) ∧ k < 2 ^ n := by
      intro j x hx
      match j, hx with
      | 0, hx => cases Option.some.inj hx; exact ⟨0, rfl, by omega⟩
      | 1, hx => cases Option.some.inj hx; exact ⟨2 ^ n - 1, by rw [show (((2 ^ n : Nat) : Int) - 1) = ((2 ^ n - 1 : Nat) : Int) by omega], by omega⟩
      | 2, hx => cases Option.some.inj hx; exact ⟨za.toNat, by rw [show ((za.toNat : Nat) : Int) = za by omega], by omega⟩
      | 3, hx => cases Option.some.inj hx; exact ⟨zb.toNat, by rw [show ((zb.toNat : Nat) : Int) = zb by omega], by omega⟩
    refine ⟨L, rfl, ⟨_, SqL.of hL⟩, for_list (K := K) (xs := [.int 0, .int ((2 ^ n : Nat) - 1), .int za, .int zb]) (fun j σ G => ∃ v5 v6 v7 v8 : Option V, σ = [some (.ref p), some (.int n), some (.int s'), some (.ref t), some (.int (2 ^ n : Nat)), v5, v6, v7, v8, none, none, none, none] ∧ Same H13 G)
      ⟨_, _, _, _, rfl, Same.refl _⟩ (fun j σ G _ ⟨_, _, _, _, _, sm⟩ => SqL.of (sm _ _ hL)) ?_ ?_⟩
    · rintro j x σ G hx ⟨v5, v6, v7, v8, rfl, sm⟩
      obtain ⟨k, rfl, hk⟩ := hall j x hx
      obtain ⟨l, eat, hasc, rfl⟩ := lotAt_some (by omega) hk
      have smI : Sm 1 140 (.int (num n l : Nat)) := .int (Nat.lt_of_lt_of_le (show ((num n l : Nat) : Int).natAbs < 16777216 by omega) (by decide +kernel))
      have eAt : atD n ((num n l : Nat) : Int) = .list [.str "told", lotD l] := by
        unfold atD
        rw [if_neg (by omega), Int.toNat_natCast, eat]
      refine ⟨.int n, rfl, .int (num n l : Nat), rfl, .int (num n l : Nat), rfl, rfl, n, _, _, rfl, n1, fun G2 r s2 hr2 => ?_⟩
      rw [eAt] at hr2
      have hr3 := hr2.up newIn_same
      cases hr3 with
      | @lst T xs _ hT qx =>
      cases qx with
      | @cons x1 xs1 _ _ h1 t1 =>
      cases t1 with
      | @cons x2 xs2 _ _ h2 t2 =>
      cases t2
      cases h1
      obtain ⟨a, rfl, ha⟩ := lot_inv h2
      clear h2 hr2
      dsimp only [tNext]
      refine ⟨.ref T, rfl, T, _, 0, .str "told", rfl, rfl, SqL.of hT, rfl, rfl, _, rfl, iteNS rfl ?_⟩
      refine ⟨.ref T, rfl, T, _, 1, .ref a, rfl, rfl, SqL.of hT, rfl, .ref a, .ty "tuple", _, _, true, rfl, .ty "tuple", .base (.tup ha), kit_ty (show kitB "tuple" "tuple" = some true by decide +kernel), true, rfl, iteF ?_⟩
      dsimp only [tNext]
      refine ⟨.ref T, rfl, T, _, 1, .ref a, rfl, rfl, SqL.of hT, rfl, .int n, rfl, (n : Int), rfl, by omega, by omega, fun D nD => ?_⟩
      refine lc_itF (walk_rg (n := n)) (fun i => .str (PyData.shown (.int (i : Nat)))) nD (by omega) (fun _ _ => rfl) (fun _ _ => trivial) (fun i x G G' C Cn hi s1 y c => ?_) (fun G3 acc s3 hD qa => ?_)
      · obtain ⟨rfl, rfl⟩ := y
        refine ⟨rfl, ?_⟩
        dsimp only [tYes]
        rw [if_pos rfl]
        exact ⟨.int i, rfl, repr_sm (.int _) (Sm.lit (i := (i : Nat)) (by omega)) (by decide) (by decide) (c _ _ (Same.refl _) (.str _))⟩
      have eacc : acc = (List.range n).map fun i => V.str (PyData.shown (.int (i : Nat))) := dqa_strs qa
      refine ⟨by show 2 ≤ sizeLine; decide, fun tt ntt => ⟨tt, _, rfl, SqT.of upd_same, rfl, .ref a, [.ref D], rfl, .ref D, [], rfl, rfl, ?_⟩⟩
      have s4 := same_new (o := .tup [.ref a, .ref D]) ntt
      have sm4 := sm.trans (s2.trans (s3.trans s4))
      have ha4 := s4 _ _ (s3 _ _ ha)
      have hD4 := s4 _ _ hD
      generalize upd G3 tt (.tup [.ref a, .ref D]) = G4 at sm4 ha4 hD4
      -- its places stand among them
      dsimp only [tNext]
      refine ⟨.ref a, rfl, a, rfl, ⟨_, SqT.of ha4⟩, fun D2 nD2 => lc_it (walk_tup (K := K) (a := a) (xs := lv l)) (fun i G' => G' D2 = some (.lst []) ∧ Same G4 G') ⟨upd_same, same_new nD2⟩ (fun i G' _ ⟨_, sm⟩ => SqT.of (sm _ _ ha4)) ?_ ?_⟩
      · rintro i x G' G'' hi ⟨hD2, s5⟩ ⟨rfl, hx⟩
        obtain ⟨y, hy, rfl⟩ : ∃ y, y ∈ l ∧ V.int (y : Nat) = x := by
          unfold lv at hx
          rw [List.getElem?_map] at hx
          cases e : l[i]? with
          | none => rw [e] at hx; cases hx
          | some y => rw [e] at hx; exact ⟨y, List.mem_of_getElem? e, Option.some.inj hx⟩
        have hyn := (hasc.2 y hy).2
        refine ⟨rfl, .int y, rfl, ?_⟩
        dsimp only [tNil]
        refine repr_sm (.int _) (Sm.lit (i := (y : Nat)) (by omega)) (by decide) (by decide) ⟨.ref D, rfl, D, acc, rfl, .inl (SqL.of (s5 _ _ hD4)), rfl, ?_, _, rfl, ?_⟩
        · rw [eacc, List.all_map]
          exact List.all_eq_true.mpr fun _ _ => rfl
        · have e : inV (.str (PyData.shown (.int (y : Nat)))) acc = true := by
            rw [eacc]
            exact inV_mem (List.mem_map.mpr ⟨y, List.mem_range.mpr (by omega), rfl⟩)
          rw [e]
          exact iteF ⟨hD2, s5⟩
      · rintro G5 ⟨hD2, s5⟩
        refine ⟨by show 0 ≤ sizeLine; decide, fun b nb => ⟨D2, b, [], rfl, rfl, same_new nb _ _ hD2, upd_same, _, rfl, iteF ?_⟩⟩
        have s6 := s5.trans (same_new (o := .lst []) nb)
        have ha6 := s6 _ _ ha4
        have hD6 := s6 _ _ hD4
        have sm6 := sm4.trans s6
        generalize upd G5 b (.lst []) = G6 at s6 ha6 hD6 sm6
        clear s5 nb hD2 s4 ha4 hD4 sm4
        -- they rise
        dsimp only [tNext, tSeq, tIfS, tTest, tOp, tLc, RZ.iZipA]
        refine zip_args (K := K) (i := 5) (a := a) (xs := lv l) ?_ ha6 fun b3 H7 s7 hb3 => ?_
        · rfl
        have ha7 := s7 _ _ ha6
        refine ⟨a, b3, _, _, rfl, .inr ⟨SqT.of ha7, SqT.of hb3, fun D3 nD3 => ?_⟩⟩
        refine lc_it (tt := tTest (tOp (rI0 fun i j => V.bl (decide (j ≤ i))) (tVar 10) (tVar 11))) (walk_zipT (K := K) rfl) (fun i G => G D3 = some (.lst []) ∧ Same H7 G) ⟨upd_same, same_new nD3⟩ (fun i G _ ⟨_, s⟩ => ⟨SqT.of (s _ _ ha7), SqT.of (s _ _ hb3)⟩) ?_ ?_
        · rintro i _ G' _ hi ⟨hD3, s8⟩ ⟨T2, x, y, rfl, nT, rfl, f1, f2⟩
          dsimp only at f1 f2
          obtain ⟨u, v, rfl, rfl, huv⟩ := lv_step hasc f1 f2
          have sT : Same G' (upd G' T2 (.tup [.int (u : Nat), .int (v : Nat)])) := same_new nT
          refine ⟨T2, [.int (u : Nat), .int (v : Nat)], rfl, SqT.of upd_same, rfl, .int (u : Nat), [.int (v : Nat)], rfl, .int (v : Nat), [], rfl, rfl, rfl, .int (u : Nat), rfl, .int (v : Nat), rfl, u, v, rfl, rfl, _, rfl, ite2 (fun c => ?_) (fun c => ?_)⟩
          · have c2 : (v : Int) ≤ u := of_decide_eq_true c
            omega
          · exact ⟨sT _ _ hD3, s8.trans sT⟩
        · rintro G8 ⟨hD3, s8⟩
          refine ⟨by show 0 ≤ sizeLine; decide, fun b nb => ⟨D3, b, [], rfl, rfl, same_new nb _ _ hD3, upd_same, _, rfl, iteF ?_⟩⟩
          have s9 := s7.trans (s8.trans (same_new (o := .lst []) nb))
          have ha9 := s9 _ _ ha6
          have sm9 := sm6.trans s9
          generalize upd G8 b (.lst []) = G9 at s9 ha9 sm9
          -- its number
          try dsimp only [tNext]
          refine ⟨.int n, rfl, .ref a, rfl, n, a, l, rfl, ha9, hasc, n1, fun G10 s10 => ⟨.int (num n l : Nat), rfl, rfl, _, rfl, iteNS rfl ?_⟩⟩
          refine ne_repr ⟨.ref a, rfl, .int n, rfl, rfl, n, a, l, rfl, s10 _ _ ha9, hasc, n1, fun G11 s11 => repr_x (.int _) smI (by decide) (by decide) fun tx etx => ⟨.int (num n l : Nat), rfl, repr_ne etx (.int _) smI (by decide) (by decide) (iteF ?_)⟩⟩
          exact ⟨_, _, _, _, rfl, sm9.trans (s10.trans s11)⟩
    rintro σ G ⟨v5, v6, v7, v8, rfl, sm⟩
    have D14 := D13.up sm
    have E14 : Ext p l H G := Same.trans E13 (Ext.of sm)
    clear sm hall hL E13 D13
    -- what is refused
    refine ⟨1, rfl, .int (2 ^ n : Nat), rfl, .int (2 ^ n : Nat), rfl, .ref p, rfl, p, l, 99, rfl, D14, by decide, fun Hc zc Dc Ec c0 c1 => ⟨_, _, rfl, rfl, _, _, rfl, rfl, ⟨by decide, by decide, by decide⟩, _, _, rfl, rfl, ⟨by decide, by decide, by decide⟩, _, rfl, ⟨by show 5 ≤ sizeLine; decide, fun L nL => ?_⟩⟩⟩
    dsimp only
    obtain ⟨xs, hxs, hx5, hxr⟩ : ∃ xs : List V, [V.int (-1), .int (2 ^ n : Nat), .int ((2 ^ n : Nat) + zc), .int (10 ^ (30 : Int).toNat), .int (-10 ^ (30 : Int).toNat)] = xs ∧ xs.length = 5 ∧ ∀ x ∈ xs, ∃ a : Int, x = .int a ∧ (a < 0 ∨ (2 ^ n : Nat) ≤ a) := by
      refine ⟨_, rfl, rfl, fun x hx => ?_⟩
      simp only [List.mem_cons, List.not_mem_nil, or_false] at hx
      have h30 : (16777216 : Int) ≤ 10 ^ (30 : Int).toNat := by decide
      rcases hx with rfl | rfl | rfl | rfl | rfl
      · exact ⟨_, rfl, .inl (by decide)⟩
      · exact ⟨_, rfl, .inr (Int.le_refl _)⟩
      · exact ⟨_, rfl, .inr (by omega)⟩
      · exact ⟨_, rfl, .inr (by omega)⟩
      · exact ⟨_, rfl, .inl (by decide)⟩
    rw [hxs]
    have hL : upd Hc L (.lst xs) L = some (.lst xs) := upd_same
    have sL := same_new (o := .lst xs) nL
    have D15 := Dc.up sL
    have E15 : Ext p l H _ := Same.trans E14 (Same.trans Ec (Ext.of sL))
    generalize upd Hc L (.lst xs) = H15 at hL D15 E15
    clear hxs sL nL Dc Ec D14 E14
    have smX : Sm 2 18 (.list [.str "refused", .bool true]) := Sm.two sm_refused ⟨rfl, rfl, by simp [PyData.depth], by simp [PyData.weight]⟩
    have eX : ∀ a : Int, (a < 0 ∨ (2 ^ n : Nat) ≤ a) → atD n a = .list [.str "refused", .bool true] := fun a ha => by
      unfold atD
      by_cases h0 : a < 0
      · rw [if_pos h0]
      · rw [if_neg h0, lotAt_none (by omega) (by omega)]
    generalize hX : PyData.list [.str "refused", .bool true] = X at smX eX
    have smO : Sm 3 (19 * 5) (.list [X, X, X, X, X]) := Sm.lst (fun d hd => by
      simp only [List.mem_cons, List.not_mem_nil, or_false, or_self] at hd
      subst hd
      exact smX) (Nat.le_refl _)
    refine ret_eq_repr ⟨.ref L, rfl, L, rfl, ⟨_, SqL.of hL⟩, fun D nD => ?_⟩
    refine lc_itN (walk_list (K := K) (a := L) (xs := xs)) (fun _ => X) nD (by omega) (fun G s => SqL.of (s _ _ hL)) (fun i x G G' C Cn ac hi s1 hac y c => ?_) (fun G2 acc s2 hD qa => ?_)
    · obtain ⟨rfl, hx⟩ := y
      obtain ⟨a, rfl, ha⟩ := hxr x (List.mem_of_getElem? hx)
      refine ⟨rfl, ?_⟩
      dsimp only [tYes]
      rw [if_pos rfl]
      refine ⟨.int n, rfl, .int a, rfl, n, a, false, rfl, n1, fun G3 r s3 hr3 => ?_⟩
      rw [eX a ha] at hr3
      exact c _ _ s3 (hr3.up (newIn_iD hac))
    rw [hx5] at qa
    have qa : DqA G2 acc [X, X, X, X, X] := qa
    refine repr_x (.lst hD qa) smO (by decide) (by decide) fun tx etx => ?_
    refine ⟨by show 2 ≤ sizeLine; decide, fun L1 nL1 => ⟨by show 1 ≤ sizeLine; decide, fun L2 nL2 => ⟨L2, 5, [.ref L1], rfl, rfl, upd_same, by decide, by decide, by show 1 * 5 ≤ sizeLine; decide, fun L3 nL3 => ?_⟩⟩⟩
    have sL1 := same_new (o := .lst [.str "refused", .bl true]) nL1
    have sL2 := same_new (o := .lst [.ref L1]) nL2
    have sL3 := same_new (o := .lst (List.replicate (5 : Int).toNat [V.ref L1]).flatten) nL3
    have hX1 : Dq (upd (upd (upd G2 L1 (.lst [.str "refused", .bl true])) L2 (.lst [.ref L1])) L3 (.lst (List.replicate (5 : Int).toNat [V.ref L1]).flatten)) (.ref L1) X := by
      rw [← hX]
      exact Dq.up sL3 (Dq.up sL2 (.lst upd_same (.cons (.str _) (.cons (.bl _) .nil))))
    have sAll := s2.trans (sL1.trans (sL2.trans sL3))
    refine repr_eq etx (.lst upd_same (.cons hX1 (.cons hX1 (.cons hX1 (.cons hX1 (.cons hX1 .nil)))))) smO (by decide) (by decide) ?_
    exact q _ (D15.up sAll) (Same.trans E15 (Ext.of sAll))
end
end Kr
namespace Kr
open PySem PySem.Spec PyProof.Rows L2
theorem Deck.other {p l p2 l2 : Addr} {H H' : Hp} (d : Deck H p l) (d2 : Deck H p2 l2) (hp : p ≠ p2) (hl : l ≠ l2) (e : Ext p2 l2 H H') : Deck H' p l := by
  obtain ⟨ds, st, a, b, c⟩ := d.ex
  obtain ⟨ds2, st2, a2, b2, c2⟩ := d2.ex
  have h1 : p ≠ l2 := ne_of a b2 (by intro z; cases z)
  have h2 : l ≠ p2 := (ne_of a2 b (by intro z; cases z)).symm
  exact ⟨ds, st, Ext.at_ e hp h1 a, Ext.at_ e h2 hl b, c⟩
theorem lots_sm {n s : Nat} (hn : n ≤ 12) (hs : s ≤ 12) {m : Nat} (hl : (lotsL n s).length ≤ m) : Sm 3 ((6 * 12 + 1) * m) (.tuple ((lotsL n s).map lotD)) := Sm.tup (fun d hd => by
  obtain ⟨l, hm, rfl⟩ := List.mem_map.mp hd
  obtain ⟨h1, h2⟩ := lots_in n s l hm
  exact sm_lot (by omega) fun x hx => by have := h2 x hx; omega) (by rw [List.length_map]; exact hl)
theorem ch_few : ∀ n : Nat, n < 13 → ∀ s : Nat, s < 14 → (s = 0 ∨ s = 1 ∨ s = 2 ∨ s + 1 = n ∨ s = n) → ch n s ≤ 300 := by decide +kernel
def spWide : Sp := fun vs H Q _ => ∃ p l : Addr, vs = [.ref p] ∧ Deck H p l ∧ ∀ H', Deck H' p l → Ext p l H H' → Q (.bl true) H'
section
variable {P : Program} {w : World} {K : PySem.W.Frag} {mg : Str → Option Value} {base : Heap}
theorem scWd : FnScope ["deck", "size", "due"] ["deck"] (defScope sWide) := ⟨rfl, rfl, rfl, by decide +kernel, rfl, by decide +kernel, by decide +kernel⟩
theorem o_wide (D : Df K mg "_law_is_wide" sWide ["deck"]) (B : Bi mg) (T : Fns P w K mg base) : OkG P w K mg base 2 "_law_is_wide" ["deck"] spWide := by
  refine D.okG fun f fd F => okG F scWd (fun vs H Q E h => ?_) (fun cdv A outer s H vs Q E hg hr h => ?_)
  · obtain ⟨p, l, rfl, _⟩ := h
    rfl
  · obtain ⟨p, l, rfl, Dk, q⟩ := h
    have cr := call_repr (X := (cxOf CX0 P w K mg base ["deck", "size", "due"] "_law_is_wide" (defScope sWide) f cdv A outer s H E).nox) hg hr.units
    refine ⟨_, pss_cons (ps_set (i := 1) scWd.nd rfl (.inl rfl) (pe_op op_add pe_int (pe_fn T.draw hr (by rfl) (pa_cons (pv 0) (pa_cons pe_int pa_nil)))))
      (pss_cons (ps_set (i := 2) scWd.nd rfl (.inl rfl) (pe_callTy call_tuple_of (by rfl) B.tuple (by decide +kernel) (pa_cons (pe_fn T.lLots hr (by rfl) (pa_cons pe_int (pa_cons (pv 1) pa_nil))) pa_nil)))
      (pss_one (ps_ret (pe_and (pe_cmpR op_eq (pe_callB cr (by rfl) B.repr (by decide +kernel) (pa_cons (pe_fn T.lotsOf hr (by rfl) (pa_cons pe_int (pa_cons (pv 1) pa_nil))) pa_nil)) (pe_callB cr (by rfl) B.repr (by decide +kernel) (pa_cons (pv 2) pa_nil)) (nomark _))
        (pe_one (pe_cmpR op_eq (pe_callB call_len_seq (by rfl) B.len boot_len (pa_cons (pv 2) pa_nil)) (pe_fn T.chosen hr (by rfl) (pa_cons pe_int (pa_cons (pv 1) pa_nil))) (nomark _))))))), ?_⟩
    refine ⟨.ref p, rfl, p, l, 5, rfl, Dk, by decide, fun H1 z D1 E1 z0 z1 => ⟨_, _, rfl, rfl, ?_⟩⟩
    obtain ⟨s', hn, n0, n1⟩ : ∃ s : Nat, 4 + z = (s : Int) ∧ 4 ≤ s ∧ s ≤ 8 := ⟨(4 + z).toNat, by omega, by omega, by omega⟩
    dsimp only
    rw [hn]
    clear hn z0 z1
    refine ⟨.int s', rfl, 12, s', rfl, by decide, by omega, fun H2 v s2 hv => ?_⟩
    cases hv with
    | @lst a xs _ ha qx =>
    refine ⟨a, xs, rfl, .inl ⟨SqL.of ha, fun t nt => ?_⟩⟩
    have s3 := same_new (o := .tup xs) nt
    have ht : upd H2 t (.tup xs) t = some (.tup xs) := upd_same
    have qx3 := qx.up s3
    have s13 := s2.trans s3
    generalize upd H2 t (.tup xs) = H3 at s13 ht qx3
    have hlen := lots_len 12 (by decide) s' (by omega)
    have hch := ch_small 12 (by decide) s' (by omega)
    have smL := lots_sm (n := 12) (s := s') (m := 1000) (by decide) (by omega) (by omega)
    refine ⟨.int s', rfl, 12, s', rfl, by decide, by omega, fun H4 v4 s4 hv4 => ?_⟩
    dsimp only [tNil]
    refine repr_x hv4 smL (by decide) (by decide) fun tx etx => ⟨.ref t, rfl, ?_⟩
    dsimp only [tNil]
    refine repr_eq etx (.tup (s4 _ _ ht) (qx3.up s4)) smL (by decide) (by decide) ?_
    refine ⟨true, rfl, iteT ?_⟩
    refine ⟨.ref t, rfl, t, xs, rfl, .inr (SqT.of (s4 _ _ ht)), .int s', rfl, 12, s', rfl, by decide, fun H5 s5 => ⟨rfl, ?_⟩⟩
    rw [qx.len, List.length_map, hlen, decide_eq_true rfl]
    have sA := s13.trans (s4.trans s5)
    exact q _ (D1.up sA) (Same.trans E1 (Ext.of sA))
end
end Kr
namespace Kr
open PySem PySem.Spec PyProof.Rows L2
abbrev nLaw : List Str := ["script", "deck", "late", "many", "size", "due", "turn"]
def spLaw (K : PySem.W.Frag) : Sp := fun vs H Q _ => ∃ (a : Addr) (ns : List Int), vs = [.ref a] ∧ SqL K H a (ns.map V.int) ∧ ns.length ≤ 63 ∧ ∀ H', Q (.bl true) H'
structure Top (P : Program) (w : World) (K : PySem.W.Frag) (mg : Str → Option Value) (base : Heap) : Prop where
  fns : Fns P w K mg base
  deck : Ok P w K mg base 1 "_law_deck" ["script"] (spDeck K)
  wide : OkG P w K mg base 2 "_law_is_wide" ["deck"] spWide
  small : OkG P w K mg base 4 "_law_is_small" ["deck"] spSmall
  great : OkG P w K mg base 4 "_law_is_great" ["deck", "many"] spGreat
  lots : ∃ f fd, FnOk P w K mg base CX0 1 f fd ["n", "size"] spLots ∧ PySem.W.keepIn K (.ref f) = true ∧ mg "lots_of" = some (.ref f) ∧ Binds K fd ["n", "size"] [] ∧ KBn K fd ["n", "size"] 0 ["size", "n"] (fun _ ws => ws.reverse) (fun _ zs => zs.reverse)
section
variable {P : Program} {w : World} {K : PySem.W.Frag} {mg : Str → Option Value} {base : Heap}
theorem scLaw : FnScope nLaw ["script"] (defScope sLaw) := ⟨rfl, rfl, rfl, by decide +kernel, rfl, by decide +kernel, by decide +kernel⟩
theorem ok_law {f : Addr} {fd : FuncData} (F : Fun K "law" "law" sLaw f fd) (B : Bi mg) (U : Top P w K mg base) : FnG P w K mg base CX0 5 f fd ["script"] (spLaw K) := by
  obtain ⟨fL, dL, gL, kL, mL, bL, nL⟩ := U.lots
  have T := U.fns
  refine okG F scLaw (fun vs H Q E h => ?_) (fun cdv A outer s H vs Q E hg hr h => ?_)
  · obtain ⟨a, ns, rfl, _⟩ := h
    rfl
  · obtain ⟨sa, ns, rfl, hS, hlen, q⟩ := h
    have hr1 := hr.mono (show 1 ≤ 4 by decide)
    have hr2 := hr.mono (show 2 ≤ 4 by decide)
    have hr3 := hr.mono (show 3 ≤ 4 by decide)
    have cr := call_repr (X := (cxOf CX0 P w K mg base nLaw "law" (defScope sLaw) f cdv A outer s H E).nox) hg hr.units
    refine ⟨_, pss_cons (ps_par (i := 1) (j := 2) rfl scLaw.nd rfl rfl (by decide) rfl rfl (pa_cons (pe_fn U.deck hr1 (by rfl) (pa_cons (pv 0) pa_nil)) (pa_cons (pe_fn U.deck hr1 (by rfl) (pa_cons (pe_op op_cat (pe_lst (pa_cons pe_int pa_nil)) (pe_callTy call_list_of (by rfl) B.list (by decide +kernel) (pa_cons (pv 0) pa_nil))) pa_nil)) pa_nil)) (by rfl))
      (pss_cons (ps_if (PW.pt (pw_and (pt_cmpR op_eq (pe_fn T.draw hr1 (by rfl) (pa_cons (pv 2) (pa_cons pe_int pa_nil))) pe_int (nomark _)) (pw_and1 (pt_not (pt_val (pe_fnG U.wide hg hr2 (by rfl) (pa_cons (pv 2) pa_nil))))))) (pss_one (ps_ret pe_bl)) pss_nil)
      (pss_cons (ps_if (pt_not (pt_val (pe_fnG U.small hg hr (by rfl) (pa_cons (pv 1) pa_nil)))) (pss_one (ps_ret pe_bl)) pss_nil)
      (pss_cons (ps_set (i := 3) scLaw.nd rfl (.inl rfl) (pe_op op_add pe_int (pe_fn T.draw hr1 (by rfl) (pa_cons (pv 1) (pa_cons pe_int pa_nil)))))
      (pss_cons (ps_set (i := 4) scLaw.nd rfl (.inl rfl) (pe_fn T.draw hr1 (by rfl) (pa_cons (pv 1) (pa_cons (pe_op op_add (pv 3) pe_int) pa_nil))))
      (pss_cons (ps_if (pt_cmpR op_gt (pe_fn T.chosen hr1 (by rfl) (pa_cons (pv 3) (pa_cons (pv 4) pa_nil))) pe_int (nomark _))
          (pss_one (ps_set (i := 4) scLaw.nd rfl (.inl rfl) (pe_fn T.pick hr2 (by rfl) (pa_cons (pv 1) (pa_cons (pe_lst (pa_cons pe_int (pa_cons pe_int (pa_cons pe_int (pa_cons (pe_op op_sub (pv 3) pe_int) (pa_cons (pv 3) pa_nil)))))) pa_nil))))) pss_nil)
      (pss_cons (ps_set (i := 5) scLaw.nd rfl (.inl rfl) (pe_callTy call_tuple_of (by rfl) B.tuple (by decide +kernel) (pa_cons (pe_fn T.lLots hr1 (by rfl) (pa_cons (pv 3) (pa_cons (pv 4) pa_nil))) pa_nil)))
      (pss_cons (ps_if (pt_cmpR op_ne (pe_callB cr (by rfl) B.repr (by decide +kernel) (pa_cons (pe_lst (pa_cons (pe_call gL hr1 (by rfl) mL kL bL .nil pass0 (pa_cons (pv 3) (pa_cons (pv 4) pa_nil))) (pa_cons (pe_callN gL hr1 (by rfl) mL kL nL pass0 (pk_cons (pv 4) (pk_cons (pv 3) pk_nil))) pa_nil))) pa_nil))
          (pe_callB cr (by rfl) B.repr (by decide +kernel) (pa_cons (pe_lst (pa_cons (pv 5) (pa_cons (pv 5) pa_nil))) pa_nil)) (nomark _)) (pss_one (ps_ret pe_bl)) pss_nil)
      (pss_cons (ps_for PassesOwn.never rfl (pi_range1 (by rfl) B.range (pa_cons pe_int pa_nil)) (pg_name (i := 6) scLaw.nd rfl (.inl rfl))
        (pss_one (ps_if (pt_not (pt_val (pe_fnG U.great hg hr (by rfl) (pa_cons (pv 1) (pa_cons (pe_ix ix_list (pe_lst (pa_cons (pe_op op_add pe_int (pe_fn T.draw hr1 (by rfl) (pa_cons (pv 1) (pa_cons pe_int pa_nil)))) (pa_cons pe_int (pa_cons (pe_op op_add pe_int (pe_fn T.draw hr1 (by rfl) (pa_cons (pv 1) (pa_cons pe_int pa_nil)))) (pa_cons pe_int pa_nil))))) (pv 6) (fun _ _ => rfl)) pa_nil))))) (pss_one (ps_ret pe_bl)) pss_nil)))
      (pss_one (ps_ret (pe_cmpR op_eq (pe_callB cr (by rfl) B.repr (by decide +kernel) (pa_cons (pe_fn T.lAll hr3 (by rfl) (pa_cons (pe_op op_add pe_int (pe_fn T.draw hr1 (by rfl) (pa_cons (pv 1) (pa_cons pe_int pa_nil)))) (pa_cons (pe_cmpR op_eq (pe_fn T.draw hr1 (by rfl) (pa_cons (pv 1) (pa_cons pe_int pa_nil))) pe_int (nomark _)) pa_nil))) pa_nil))
        (pe_callB cr (by rfl) B.repr (by decide +kernel) (pa_cons (pe_lst (pa_cons pe_str (pa_cons pe_int (pa_cons pe_bl pa_nil)))) pa_nil)) (nomark _)))))))))))), ?_⟩
    refine ⟨.ref sa, rfl, sa, ns, rfl, hS, by omega, fun H1 p l s1 np nl D1 => ?_⟩
    refine ⟨by show 1 ≤ sizeLine; decide, fun e ne => ⟨.ref sa, rfl, sa, _, rfl, .inl ((s1.trans (same_new ne)).seq hS), fun c nc => ?_⟩⟩
    have s2 := same_new (o := .lst [.int 11]) ne
    have s3 := same_new (o := .lst (ns.map V.int)) nc
    refine ⟨e, c, [.int 11], ns.map V.int, rfl, rfl, s3 _ _ upd_same, upd_same, by rw [List.length_map]; exact sz (by show 1 + _ ≤ _; omega), fun d nd => ?_⟩
    have s4 := same_new (o := .lst ([.int 11] ++ ns.map V.int)) nd
    refine ⟨d, 11 :: ns, rfl, SqL.of (by rw [upd_same]; rfl), by rw [List.length_cons]; omega, fun H2 p2 l2 s5 np2 nl2 D2 => ⟨_, _, rfl, ?_⟩⟩
    have D1a := D1.up (s2.trans (s3.trans s4))
    have hp2 : p ≠ p2 := by
      obtain ⟨_, _, a, _, _⟩ := D1a.ex
      exact ne_of_none a np2
    have hl2 : l ≠ l2 := by
      obtain ⟨_, _, _, b, _⟩ := D1a.ex
      exact ne_of_none b nl2
    have D1b := D1a.up s5
    clear s5 np2 nl2 D1a s4 nd s3 nc s2 ne D1 np nl s1
    dsimp only [tNext]
    refine ⟨.ref p2, rfl, p2, l2, 12, rfl, D2, by decide, fun H3 z D3 E3 z0 z1 => ⟨rfl, _, rfl, ?_⟩⟩
    have D4 := D1b.other D2 hp2 hl2 E3
    refine ite2 (fun c => ?_) (fun c => ?_)
    all_goals first
      | have ct := of_decide_eq_true c
        refine ⟨.ref p2, rfl, p2, l2, rfl, D3, fun H4 D5 E5 => ⟨true, rfl, iteF ?_⟩⟩
        have D6 := D4.other D3 hp2 hl2 E5
        clear ct E5 D5 D4 D1b E3 D3 D2 c z0 z1 hp2 hl2
      | refine iteF ?_
        have D6 := D4
        clear D4 D1b E3 D3 D2 c z0 z1 hp2 hl2
    all_goals
      dsimp only [tNext]
      refine ⟨.ref p, rfl, p, l, rfl, D6, fun H5 D7 E7 => ⟨true, rfl, iteF ?_⟩⟩
      clear E7 D6
      dsimp only [tNext]
      refine ⟨.ref p, rfl, p, l, 10, rfl, D7, by decide, fun H6 z2 D8 E8 a0 a1 => ⟨_, _, rfl, rfl, ?_⟩⟩
      clear E8 D7
      obtain ⟨n, hn, n0, n1⟩ : ∃ n : Nat, 3 + z2 = (n : Int) ∧ 3 ≤ n ∧ n ≤ 12 := ⟨(3 + z2).toNat, by omega, by omega, by omega⟩
      dsimp only
      rw [hn]
      clear hn a0 a1
      refine ⟨.ref p, rfl, .int n, rfl, _, _, rfl, rfl, p, l, (n : Int) + 1, rfl, D8, by omega, fun H7 z3 D9 E9 a0 a1 => ?_⟩
      clear E9 D8
      obtain ⟨s', rfl, hs⟩ : ∃ s : Nat, z3 = (s : Int) ∧ s ≤ n := ⟨z3.toNat, by omega, by omega⟩
      clear a0 a1
      refine ⟨.int n, rfl, .int s', rfl, n, s', rfl, by omega, fun H8 s8 => ⟨_, _, rfl, rfl, _, rfl, ite2 (fun c => ?_) (fun c => ?_)⟩⟩
      all_goals first
        | have ct := of_decide_eq_true c
          refine ⟨.ref p, rfl, .int n, rfl, _, _, rfl, rfl, .int n, rfl, by show 5 ≤ sizeLine; decide, fun a na => ?_⟩
          obtain ⟨e1, D10, hid1⟩ := new_dq (o := .lst [.int 0, .int 1, .int 2, .int ((n : Int) - 1), .int n]) (D9.up s8) na
          refine ⟨p, l, a, [.int 0, .int 1, .int 2, .int ((n : Int) - 1), .int n], rfl, D10, hid1, by simp, by show 5 < 1000000; decide, fun H9 v D11 E11 hv => ?_⟩
          obtain ⟨t, rfl, ht, hc⟩ : ∃ t : Nat, v = .int (t : Int) ∧ t ≤ n ∧ ch n t ≤ 300 := by
            have few := ch_few n (by omega)
            simp only [List.mem_cons, List.not_mem_nil, or_false] at hv
            rcases hv with rfl | rfl | rfl | rfl | rfl
            · exact ⟨0, rfl, by omega, few 0 (by omega) (by omega)⟩
            · exact ⟨1, rfl, by omega, few 1 (by omega) (by omega)⟩
            · exact ⟨2, rfl, by omega, few 2 (by omega) (by omega)⟩
            · exact ⟨n - 1, by rw [show ((n : Int) - 1) = ((n - 1 : Nat) : Int) by omega], by omega, few (n - 1) (by omega) (by omega)⟩
            · exact ⟨n, rfl, Nat.le_refl _, few n (by omega) (by omega)⟩
          have D12 := D11
          clear ct hv D11 E11 hid1 D10 e1 na D9 s8 c
        | obtain ⟨t, rfl, ht, hc⟩ : ∃ t : Nat, t = s' ∧ t ≤ n ∧ ch n t ≤ 300 := ⟨s', rfl, hs, by
            have : ¬ (300 : Int) < (ch n s' : Nat) := fun z => c (decide_eq_true z)
            omega⟩
          have D12 := D9.up s8
          clear D9 s8 c
      all_goals
        dsimp only [tNext]
        refine ⟨.int n, rfl, .int t, rfl, n, t, rfl, n1, ht, fun Ga v sa1 hv => ?_⟩
        cases hv with
        | @lst b xs _ hb qx =>
        refine ⟨b, xs, rfl, .inl ⟨SqL.of hb, fun d nd => ?_⟩⟩
        have s9 := same_new (o := .tup xs) nd
        have hd : upd Ga d (.tup xs) d = some (.tup xs) := upd_same
        have qx2 := qx.up s9
        have D13 := (D12.up sa1).up s9
        generalize upd Ga d (.tup xs) = Gb at hd qx2 D13
        clear s9 nd hb qx sa1 D12
        have hlen := lots_len n (by omega) t (by omega)
        have smL := lots_sm (n := n) (s := t) (m := 300) n1 (by omega) (by omega)
        have smD := smL.two smL
        dsimp only [tNext]
        refine ne_repr ⟨.int n, rfl, .int t, rfl, n, t, rfl, n1, by omega, fun Gc v1 sc h1 => ⟨.int t, rfl, .int n, rfl, rfl, n, t, rfl, n1, by omega, fun Gd v2 sd h2 => ⟨by show 2 ≤ sizeLine; decide, fun L nL => ?_⟩⟩⟩
        have s10 := same_new (o := .lst [v1, v2]) nL
        refine repr_x (.lst upd_same (.cons ((h1.up sd).up s10) (.cons (h2.up s10) .nil))) smD (by decide) (by decide) fun tx etx => ?_
        have s11 := sc.trans (sd.trans s10)
        generalize upd Gd L (.lst [v1, v2]) = Ge at s11
        refine ⟨.ref d, rfl, .ref d, rfl, by show 2 ≤ sizeLine; decide, fun L2 nL2 => ?_⟩
        have s12 := s11.trans (same_new (o := .lst [.ref d, .ref d]) nL2)
        have hdd : Dq (upd Ge L2 (.lst [.ref d, .ref d])) (.ref d) (.tuple ((lotsL n t).map lotD)) := .tup (s12 _ _ hd) (qx2.up s12)
        refine repr_ne etx (.lst upd_same (.cons hdd (.cons hdd .nil))) smD (by decide) (by decide) (iteF ?_)
        have D14 := D13.up s12
        clear hdd etx s12 nL2 s11 h1 h2 sc sd D13
        dsimp only [tNext]
        refine ⟨4, rfl, by decide, by decide, for_it (walk_rg (n := 4)) (fun i σ G => ∃ v6 : Option V, σ = [some (.ref sa), some (.ref p), some (.ref p2), some (.int n), some (.int t), some (.ref d), v6] ∧ Deck G p l) ⟨_, rfl, D14⟩ (fun _ _ _ _ _ => trivial) ?_ ?_⟩
        · rintro i x σ G G' hi ⟨v6, rfl, DG⟩ ⟨rfl, rfl⟩
          refine ⟨.ref p, rfl, .ref p, rfl, p, l, 9, rfl, DG, by decide, fun Ha za Da Ea a0 a1 => ⟨_, _, rfl, rfl, .ref p, rfl, p, l, 22, rfl, Da, by decide, fun Hb zb Db Eb b0 b1 => ⟨_, _, rfl, rfl, ⟨by show 4 ≤ sizeLine; decide, fun L nL => ?_⟩⟩⟩⟩
          have D15 := Db.up (same_new (o := .lst [.int (3 + za), .int 24, .int (3 + zb), .int 7]) nL)
          obtain ⟨m, hm, m0, m1⟩ : ∃ m : Nat, ([.int (3 + za), .int 24, .int (3 + zb), .int 7] : List V)[i]? = some (.int (m : Int)) ∧ 3 ≤ m ∧ m ≤ 24 := by
            match i, hi with
            | 0, _ => exact ⟨(3 + za).toNat, by rw [show (((3 + za).toNat : Nat) : Int) = 3 + za by omega]; rfl, by omega, by omega⟩
            | 1, _ => exact ⟨24, rfl, by decide, by decide⟩
            | 2, _ => exact ⟨(3 + zb).toNat, by rw [show (((3 + zb).toNat : Nat) : Int) = 3 + zb by omega]; rfl, by omega, by omega⟩
            | 3, _ => exact ⟨7, rfl, by decide, by decide⟩
          refine ⟨.int i, rfl, L, _, i, .int (m : Int), rfl, rfl, SqL.of upd_same, atI_nat hm, p, l, m, rfl, D15, m0, m1, fun H' D' E' => ⟨true, rfl, iteF ⟨_, rfl, D'⟩⟩⟩
        · rintro σ G ⟨v6, rfl, DG⟩
          dsimp only
          refine ret_eq_repr ⟨.ref p, rfl, p, l, 18, rfl, DG, by decide, fun Ha za Da Ea a0 a1 => ⟨_, _, rfl, rfl, .ref p, rfl, p, l, 2, rfl, Da, by decide, fun Hb zb Db Eb b0 b1 => ⟨rfl, ?_⟩⟩⟩
          obtain ⟨m, hm, m0, m1⟩ : ∃ m : Nat, 7 + za = (m : Int) ∧ 7 ≤ m ∧ m ≤ 24 := ⟨(7 + za).toNat, by omega, by omega, by omega⟩
          dsimp only
          rw [hm]
          refine ⟨m, _, rfl, m1, fun Gx r sx hr' => ?_⟩
          have eA : allD m = .list [.str "refused", .int 6, .bool true] := by
            unfold allD
            rw [if_neg (by omega)]
          rw [eA] at hr'
          have smR : Sm 2 (9 * 3) (.list [.str "refused", .int 6, .bool true]) := Sm.lst (fun d hd => by
            simp only [List.mem_cons, List.not_mem_nil, or_false] at hd
            rcases hd with rfl | rfl | rfl
            · exact sm_refused
            · exact (Sm.lit (by decide)).mono (Nat.le_refl _) (by decide)
            · exact ⟨rfl, rfl, by simp [PyData.depth], by simp [PyData.weight]⟩) (Nat.le_refl _)
          refine repr_x hr' smR (by decide) (by decide) fun tx etx => ⟨by show 3 ≤ sizeLine; decide, fun L nL => ?_⟩
          exact repr_eq etx (.lst upd_same (.cons (.str _) (.cons (.int _) (.cons (.bl _) .nil)))) smR (by decide) (by decide) (q _)
end
end Kr
namespace Kr
open PySem PySem.Spec PyProof.Rows L2
/-! ### what the head has written -/
theorem df_mk {K : PySem.W.Frag} {h : Heap} {mg : Str → Option Value} {x : Str} {st : Stmt} {f : Addr} {ps : List Str} {oc : Value} {od an : Option Addr} {osl : Array (Option Value)} {kV doc pm cdv ct : Value} (X : K.In h) (G : h.Ns mainGlobals mg)
    (a : PySem.W.nsIn K mainGlobals x = some (some (.ref f))) (l : K.lookup f = some ⟨oc, od, .func (PySem.W.fnOf x x (defArgs st) (defBody st) (defScope st) .none kV doc pm an cdv ct), osl⟩) (c : PySem.W.codeIn K cdv x = true) (k : PySem.W.keepIn K (.ref f) = true)
    (hb : ∀ (kV doc pm : Value) (an : Option Addr) (cdv ct : Value) (us : List Value), us.length = ps.length → bindArgs (PySem.W.fnOf x x (defArgs st) (defBody st) (defScope st) .none kV doc pm an cdv ct) ⟨us, []⟩ = pure (ps.zip us)) : Df K mg x st ps :=
  ⟨_, _, fun_mk l c k, (fun_mk l c k).binds hb, PySem.W.mg_of X G a⟩
theorem all_mk {l : PySem.W.OpenLaw} {w : World} {K : PySem.W.Frag} {h : Heap} {mg : Str → Option Value} {fa : Addr} (X : K.In h) (G : h.Ns mainGlobals mg) (hfa : mg "law" = some (.ref fa))
    {f1 : Addr} {oc1 kV1 dc1 pm1 cd1 ct1 : Value} {od1 an1 : Option Addr} {sl1 : Array (Option Value)}
    {f2 : Addr} {oc2 kV2 dc2 pm2 cd2 ct2 : Value} {od2 an2 : Option Addr} {sl2 : Array (Option Value)}
    {f3 : Addr} {oc3 kV3 dc3 pm3 cd3 ct3 : Value} {od3 an3 : Option Addr} {sl3 : Array (Option Value)}
    {f4 : Addr} {oc4 kV4 dc4 pm4 cd4 ct4 : Value} {od4 an4 : Option Addr} {sl4 : Array (Option Value)}
    {f5 : Addr} {oc5 kV5 dc5 pm5 cd5 ct5 : Value} {od5 an5 : Option Addr} {sl5 : Array (Option Value)}
    {f6 : Addr} {oc6 kV6 dc6 pm6 cd6 ct6 : Value} {od6 an6 : Option Addr} {sl6 : Array (Option Value)}
    {f7 : Addr} {oc7 kV7 dc7 pm7 cd7 ct7 : Value} {od7 an7 : Option Addr} {sl7 : Array (Option Value)}
    {f8 : Addr} {oc8 kV8 dc8 pm8 cd8 ct8 : Value} {od8 an8 : Option Addr} {sl8 : Array (Option Value)}
    {f9 : Addr} {oc9 kV9 dc9 pm9 cd9 ct9 : Value} {od9 an9 : Option Addr} {sl9 : Array (Option Value)}
    {f10 : Addr} {oc10 kV10 dc10 pm10 cd10 ct10 : Value} {od10 an10 : Option Addr} {sl10 : Array (Option Value)}
    {f11 : Addr} {oc11 kV11 dc11 pm11 cd11 ct11 : Value} {od11 an11 : Option Addr} {sl11 : Array (Option Value)}
    {f12 : Addr} {oc12 kV12 dc12 pm12 cd12 ct12 : Value} {od12 an12 : Option Addr} {sl12 : Array (Option Value)}
    {f13 : Addr} {oc13 kV13 dc13 pm13 cd13 ct13 : Value} {od13 an13 : Option Addr} {sl13 : Array (Option Value)}
    {f14 : Addr} {oc14 kV14 dc14 pm14 cd14 ct14 : Value} {od14 an14 : Option Addr} {sl14 : Array (Option Value)}
    {f15 : Addr} {oc15 kV15 dc15 pm15 cd15 ct15 : Value} {od15 an15 : Option Addr} {sl15 : Array (Option Value)}
    {f16 : Addr} {oc16 kV16 dc16 pm16 cd16 ct16 : Value} {od16 an16 : Option Addr} {sl16 : Array (Option Value)}
    {f17 : Addr} {oc17 kV17 dc17 pm17 cd17 ct17 : Value} {od17 an17 : Option Addr} {sl17 : Array (Option Value)}
    {f18 : Addr} {oc18 kV18 dc18 pm18 cd18 ct18 : Value} {od18 an18 : Option Addr} {sl18 : Array (Option Value)}
    {tM : Tok} {C R T fI : Addr} {nm q : Str} {N : Addr} {bs bm : List Value} {sn : List Str} {sub : List Value} {ab : Bool} {col : Option Bool} {dd : Option Addr} {m0 m1 m2 m3 m5 : Option Value} {ocI dcI pmI cdI ctI : Value} {odI anI : Option Addr} {slI : Array (Option Value)}
    (a1 : PySem.W.nsIn K mainGlobals "lots_of" = some (some (.ref f1))) (l1 : K.lookup f1 = some ⟨oc1, od1, .func (PySem.W.fnOf "lots_of" "lots_of" (defArgs sLotsOf) (defBody sLotsOf) (defScope sLotsOf) .none kV1 dc1 pm1 an1 cd1 ct1), sl1⟩) (c1 : PySem.W.codeIn K cd1 "lots_of" = true) (k1 : PySem.W.keepIn K (.ref f1) = true)
    (a2 : PySem.W.nsIn K mainGlobals "all_lots" = some (some (.ref f2))) (l2 : K.lookup f2 = some ⟨oc2, od2, .func (PySem.W.fnOf "all_lots" "all_lots" (defArgs sAllLots) (defBody sAllLots) (defScope sAllLots) .none kV2 dc2 pm2 an2 cd2 ct2), sl2⟩) (c2 : PySem.W.codeIn K cd2 "all_lots" = true) (k2 : PySem.W.keepIn K (.ref f2) = true)
    (a3 : PySem.W.nsIn K mainGlobals "lot_number" = some (some (.ref f3))) (l3 : K.lookup f3 = some ⟨oc3, od3, .func (PySem.W.fnOf "lot_number" "lot_number" (defArgs sLotNum) (defBody sLotNum) (defScope sLotNum) .none kV3 dc3 pm3 an3 cd3 ct3), sl3⟩) (c3 : PySem.W.codeIn K cd3 "lot_number" = true) (k3 : PySem.W.keepIn K (.ref f3) = true)
    (a4 : PySem.W.nsIn K mainGlobals "lot_at" = some (some (.ref f4))) (l4 : K.lookup f4 = some ⟨oc4, od4, .func (PySem.W.fnOf "lot_at" "lot_at" (defArgs sLotAt) (defBody sLotAt) (defScope sLotAt) .none kV4 dc4 pm4 an4 cd4 ct4), sl4⟩) (c4 : PySem.W.codeIn K cd4 "lot_at" = true) (k4 : PySem.W.keepIn K (.ref f4) = true)
    (a5 : PySem.W.nsIn K mainGlobals "_lot_of_size_at" = some (some (.ref f5))) (l5 : K.lookup f5 = some ⟨oc5, od5, .func (PySem.W.fnOf "_lot_of_size_at" "_lot_of_size_at" (defArgs sOfSize) (defBody sOfSize) (defScope sOfSize) .none kV5 dc5 pm5 an5 cd5 ct5), sl5⟩) (c5 : PySem.W.codeIn K cd5 "_lot_of_size_at" = true) (k5 : PySem.W.keepIn K (.ref f5) = true)
    (a6 : PySem.W.nsIn K mainGlobals "_law_deck" = some (some (.ref f6))) (l6 : K.lookup f6 = some ⟨oc6, od6, .func (PySem.W.fnOf "_law_deck" "_law_deck" (defArgs sDeck) (defBody sDeck) (defScope sDeck) .none kV6 dc6 pm6 an6 cd6 ct6), sl6⟩) (c6 : PySem.W.codeIn K cd6 "_law_deck" = true) (k6 : PySem.W.keepIn K (.ref f6) = true)
    (a7 : PySem.W.nsIn K mainGlobals "_law_draw" = some (some (.ref f7))) (l7 : K.lookup f7 = some ⟨oc7, od7, .func (PySem.W.fnOf "_law_draw" "_law_draw" (defArgs sDraw) (defBody sDraw) (defScope sDraw) .none kV7 dc7 pm7 an7 cd7 ct7), sl7⟩) (c7 : PySem.W.codeIn K cd7 "_law_draw" = true) (k7 : PySem.W.keepIn K (.ref f7) = true)
    (a8 : PySem.W.nsIn K mainGlobals "_law_pick" = some (some (.ref f8))) (l8 : K.lookup f8 = some ⟨oc8, od8, .func (PySem.W.fnOf "_law_pick" "_law_pick" (defArgs sPick) (defBody sPick) (defScope sPick) .none kV8 dc8 pm8 an8 cd8 ct8), sl8⟩) (c8 : PySem.W.codeIn K cd8 "_law_pick" = true) (k8 : PySem.W.keepIn K (.ref f8) = true)
    (a9 : PySem.W.nsIn K mainGlobals "_law_mixed" = some (some (.ref f9))) (l9 : K.lookup f9 = some ⟨oc9, od9, .func (PySem.W.fnOf "_law_mixed" "_law_mixed" (defArgs sMixed) (defBody sMixed) (defScope sMixed) .none kV9 dc9 pm9 an9 cd9 ct9), sl9⟩) (c9 : PySem.W.codeIn K cd9 "_law_mixed" = true) (k9 : PySem.W.keepIn K (.ref f9) = true)
    (a10 : PySem.W.nsIn K mainGlobals "_law_chosen" = some (some (.ref f10))) (l10 : K.lookup f10 = some ⟨oc10, od10, .func (PySem.W.fnOf "_law_chosen" "_law_chosen" (defArgs sChosen) (defBody sChosen) (defScope sChosen) .none kV10 dc10 pm10 an10 cd10 ct10), sl10⟩) (c10 : PySem.W.codeIn K cd10 "_law_chosen" = true) (k10 : PySem.W.keepIn K (.ref f10) = true)
    (a11 : PySem.W.nsIn K mainGlobals "_law_lots" = some (some (.ref f11))) (l11 : K.lookup f11 = some ⟨oc11, od11, .func (PySem.W.fnOf "_law_lots" "_law_lots" (defArgs sLLots) (defBody sLLots) (defScope sLLots) .none kV11 dc11 pm11 an11 cd11 ct11), sl11⟩) (c11 : PySem.W.codeIn K cd11 "_law_lots" = true) (k11 : PySem.W.keepIn K (.ref f11) = true)
    (a12 : PySem.W.nsIn K mainGlobals "_law_number" = some (some (.ref f12))) (l12 : K.lookup f12 = some ⟨oc12, od12, .func (PySem.W.fnOf "_law_number" "_law_number" (defArgs sLNum) (defBody sLNum) (defScope sLNum) .none kV12 dc12 pm12 an12 cd12 ct12), sl12⟩) (c12 : PySem.W.codeIn K cd12 "_law_number" = true) (k12 : PySem.W.keepIn K (.ref f12) = true)
    (a13 : PySem.W.nsIn K mainGlobals "_law_all" = some (some (.ref f13))) (l13 : K.lookup f13 = some ⟨oc13, od13, .func (PySem.W.fnOf "_law_all" "_law_all" (defArgs sLAll) (defBody sLAll) (defScope sLAll) .none kV13 dc13 pm13 an13 cd13 ct13), sl13⟩) (c13 : PySem.W.codeIn K cd13 "_law_all" = true) (k13 : PySem.W.keepIn K (.ref f13) = true)
    (a14 : PySem.W.nsIn K mainGlobals "_law_at" = some (some (.ref f14))) (l14 : K.lookup f14 = some ⟨oc14, od14, .func (PySem.W.fnOf "_law_at" "_law_at" (defArgs sLAt) (defBody sLAt) (defScope sLAt) .none kV14 dc14 pm14 an14 cd14 ct14), sl14⟩) (c14 : PySem.W.codeIn K cd14 "_law_at" = true) (k14 : PySem.W.keepIn K (.ref f14) = true)
    (a15 : PySem.W.nsIn K mainGlobals "_law_is_small" = some (some (.ref f15))) (l15 : K.lookup f15 = some ⟨oc15, od15, .func (PySem.W.fnOf "_law_is_small" "_law_is_small" (defArgs sSmall) (defBody sSmall) (defScope sSmall) .none kV15 dc15 pm15 an15 cd15 ct15), sl15⟩) (c15 : PySem.W.codeIn K cd15 "_law_is_small" = true) (k15 : PySem.W.keepIn K (.ref f15) = true)
    (a16 : PySem.W.nsIn K mainGlobals "_law_is_great" = some (some (.ref f16))) (l16 : K.lookup f16 = some ⟨oc16, od16, .func (PySem.W.fnOf "_law_is_great" "_law_is_great" (defArgs sGreat) (defBody sGreat) (defScope sGreat) .none kV16 dc16 pm16 an16 cd16 ct16), sl16⟩) (c16 : PySem.W.codeIn K cd16 "_law_is_great" = true) (k16 : PySem.W.keepIn K (.ref f16) = true)
    (a17 : PySem.W.nsIn K mainGlobals "_law_is_wide" = some (some (.ref f17))) (l17 : K.lookup f17 = some ⟨oc17, od17, .func (PySem.W.fnOf "_law_is_wide" "_law_is_wide" (defArgs sWide) (defBody sWide) (defScope sWide) .none kV17 dc17 pm17 an17 cd17 ct17), sl17⟩) (c17 : PySem.W.codeIn K cd17 "_law_is_wide" = true) (k17 : PySem.W.keepIn K (.ref f17) = true)
    (a18 : PySem.W.nsIn K mainGlobals "law" = some (some (.ref f18))) (l18 : K.lookup f18 = some ⟨oc18, od18, .func (PySem.W.fnOf "law" "law" (defArgs sLaw) (defBody sLaw) (defScope sLaw) .none kV18 dc18 pm18 an18 cd18 ct18), sl18⟩) (c18 : PySem.W.codeIn K cd18 "law" = true) (k18 : PySem.W.keepIn K (.ref f18) = true)
    (z1 : PySem.W.nsIn K mainGlobals "len" = some none)
    (z2 : PySem.W.nsIn K mainGlobals "abs" = some none)
    (z3 : PySem.W.nsIn K mainGlobals "int" = some none)
    (z4 : PySem.W.nsIn K mainGlobals "tuple" = some none)
    (z5 : PySem.W.nsIn K mainGlobals "list" = some none)
    (z6 : PySem.W.nsIn K mainGlobals "range" = some none)
    (z7 : PySem.W.nsIn K mainGlobals "zip" = some none)
    (z8 : PySem.W.nsIn K mainGlobals "repr" = some none)
    (z9 : PySem.W.nsIn K mainGlobals "enumerate" = some none)
    (z10 : PySem.W.nsIn K mainGlobals "isinstance" = some none)
    (z11 : PySem.W.nsIn K mainGlobals "sum" = some none)
    (z12 : PySem.W.nsIn K mainGlobals "sorted" = some none)
    (zc : PySem.W.nsIn K mainGlobals "comb" = some (some (.builtin "math.comb")))
    (m : PySem.W.nsIn K mainGlobals "MAX_TABLE" = some (some (.int 6 tM)))
    (e1 : PySem.W.nsIn K mainGlobals "Unfit" = some (some (.ref C)))
    (e2 : PySem.W.nsIn K mainGlobals "RidersError" = some (some (.ref R)))
    (e3 : PySem.W.nsIn K mainGlobals "TooMany" = some (some (.ref T)))
    (x1 : PySem.W.excIn K C [.type "ValueError", .type "Exception", .type "BaseException", .type "object"] "ValueError.__new__" = true)
    (x2 : PySem.W.keepIn K (.ref C) = true)
    (x3 : PySem.W.subIn K (.ref C) (.type "BaseException") = some true)
    (x4 : PySem.W.typeIn K (.ref C) = some (.type "type"))
    (y1 : PySem.W.findIn K (.ref C) "__getattribute__" = some (some (.builtin "BaseException.__getattribute__")))
    (y2 : PySem.W.findIn K (.ref C) "__getattr__" = some none)
    (y3 : PySem.W.hasDictIn K C = true)
    (y4 : PySem.W.findIn K (.ref C) "__class__" = some (some (.builtin "object.__class__")))
    (y5 : PySem.W.specialIn K (.builtin "object.__class__") "__get__" = some (some (.builtin "getset_descriptor.__get__")))
    (y6 : PySem.W.takesIn K (.builtin "object.__class__") = some true)
    (y7 : PySem.W.mroIn K C (.type "object") = some true)
    (y8 : PySem.W.subIn K (.ref C) (.ref C) = some true)
    (y9 : PySem.W.kitOne K (.ref C) (.ref R) = some true)
    (tL : K.lookup T = some (excClassObj nm q T N bs bm true sn sub ab col dd m0 m1 m2 m3 m5 "ValueError.__new__"))
    (tb : PySem.HandSPX.refsVE bm = true)
    (t1 : PySem.W.findIn K (.ref T) "__setattr__" = some (some (.builtin "object.__setattr__")))
    (t2 : PySem.W.findIn K (.ref T) "__getattribute__" = some (some (.builtin "BaseException.__getattribute__")))
    (t3 : PySem.W.findIn K (.ref T) "__getattr__" = some none)
    (t4 : PySem.W.findIn K (.ref T) "limit" = some none)
    (t5 : PySem.W.findIn K (.ref T) "__init__" = some (some (.ref fI)))
    (t6 : PySem.W.typeIn K (.ref fI) = some (.type "function"))
    (t7 : K.lookup fI = some ⟨ocI, odI, .func (PySem.W.fnOf "__init__" "TooMany.__init__" (PySem.TooX.iA ⟨10, 17, 10, 21⟩ ⟨10, 23, 10, 28⟩) (PySem.TooX.iB ⟨11, 8, 11, 12⟩ ⟨11, 8, 11, 18⟩ ⟨11, 21, 11, 26⟩ ⟨11, 8, 11, 26⟩) PySem.TooX.iS .none .none dcI pmI anI cdI ctI), slI⟩)
    (t8 : PySem.W.codeIn K cdI "TooMany.__init__" = true)
    (u1 : PySem.W.keepIn K (.ref T) = true)
    (u2 : PySem.W.subIn K (.ref T) (.type "BaseException") = some true)
    (u3 : PySem.W.typeIn K (.ref T) = some (.type "type"))
    (u4 : PySem.W.hasDictIn K T = true)
    (u5 : PySem.W.subIn K (.ref T) (.ref T) = some true)
    (u6 : PySem.W.kitOne K (.ref T) (.ref R) = some true)
    (u7 : PySem.W.findIn K (.ref T) "__class__" = some (some (.builtin "object.__class__")))
    (u8 : PySem.W.mroIn K T (.type "object") = some true)
    : ∃ fd : FuncData, (∀ (s : Shared) (u : Value), BindsTo s fd ⟨[u], []⟩ [("script", u)]) ∧ ∀ base : Heap, K.In base → base.Ns mainGlobals mg → FnG l.prog w K mg base CX0 5 fa fd ["script"] (spLaw K) := by
  have e := hfa.symm.trans (PySem.W.mg_of X G a18)
  cases e
  have F1 := fun_mk (st := sLotsOf) l1 c1 k1
  have b1 := F1.binds (ps := ["n", "size"]) fun _ _ _ _ _ _ us hl => match us, hl with | [_, _], _ => rfl
  have g1 := PySem.W.mg_of X G a1
  have n1 := kbn_of (ps := ["n", "size"]) (ks := ["size", "n"]) F1 (fun zs => zs.reverse) vals_swap fun _ _ _ _ _ _ ws hl => match ws, hl with | [_, _], _ => rfl
  have F2 := fun_mk (st := sAllLots) l2 c2 k2
  have b2 := F2.binds (ps := ["n"]) fun _ _ _ _ _ _ us hl => match us, hl with | [_], _ => rfl
  have g2 := PySem.W.mg_of X G a2
  have n2 := kbn_of (ps := ["n"]) (ks := ["n"]) F2 (fun zs => zs) (fun r => r) fun _ _ _ _ _ _ ws hl => match ws, hl with | [_], _ => rfl
  have F3 := fun_mk (st := sLotNum) l3 c3 k3
  have b3 := F3.binds (ps := ["n", "lot"]) fun _ _ _ _ _ _ us hl => match us, hl with | [_, _], _ => rfl
  have g3 := PySem.W.mg_of X G a3
  have n3 := kbn_of (ps := ["n", "lot"]) (ks := ["lot", "n"]) F3 (fun zs => zs.reverse) vals_swap fun _ _ _ _ _ _ ws hl => match ws, hl with | [_, _], _ => rfl
  have F4 := fun_mk (st := sLotAt) l4 c4 k4
  have b4 := F4.binds (ps := ["n", "number"]) fun _ _ _ _ _ _ us hl => match us, hl with | [_, _], _ => rfl
  have g4 := PySem.W.mg_of X G a4
  have n4 := kbn_of (ps := ["n", "number"]) (ks := ["number", "n"]) F4 (fun zs => zs.reverse) vals_swap fun _ _ _ _ _ _ ws hl => match ws, hl with | [_, _], _ => rfl
  have D5 : Df K mg "_lot_of_size_at" sOfSize ["n", "size", "number"] := df_mk X G a5 l5 c5 k5 fun _ _ _ _ _ _ us hl => match us, hl with | [_, _, _], _ => rfl
  have D6 : Df K mg "_law_deck" sDeck ["script"] := df_mk X G a6 l6 c6 k6 fun _ _ _ _ _ _ us hl => match us, hl with | [_], _ => rfl
  have D7 : Df K mg "_law_draw" sDraw ["deck", "many"] := df_mk X G a7 l7 c7 k7 fun _ _ _ _ _ _ us hl => match us, hl with | [_, _], _ => rfl
  have D8 : Df K mg "_law_pick" sPick ["deck", "items"] := df_mk X G a8 l8 c8 k8 fun _ _ _ _ _ _ us hl => match us, hl with | [_, _], _ => rfl
  have D9 : Df K mg "_law_mixed" sMixed ["deck", "items"] := df_mk X G a9 l9 c9 k9 fun _ _ _ _ _ _ us hl => match us, hl with | [_, _], _ => rfl
  have D10 : Df K mg "_law_chosen" sChosen ["many", "size"] := df_mk X G a10 l10 c10 k10 fun _ _ _ _ _ _ us hl => match us, hl with | [_, _], _ => rfl
  have D11 : Df K mg "_law_lots" sLLots ["many", "size"] := df_mk X G a11 l11 c11 k11 fun _ _ _ _ _ _ us hl => match us, hl with | [_, _], _ => rfl
  have D12 : Df K mg "_law_number" sLNum ["many", "lot"] := df_mk X G a12 l12 c12 k12 fun _ _ _ _ _ _ us hl => match us, hl with | [_, _], _ => rfl
  have D13 : Df K mg "_law_all" sLAll ["many", "is_named"] := df_mk X G a13 l13 c13 k13 fun _ _ _ _ _ _ us hl => match us, hl with | [_, _], _ => rfl
  have D14 : Df K mg "_law_at" sLAt ["many", "number", "is_named"] := df_mk X G a14 l14 c14 k14 fun _ _ _ _ _ _ us hl => match us, hl with | [_, _, _], _ => rfl
  have D15 : Df K mg "_law_is_small" sSmall ["deck"] := df_mk X G a15 l15 c15 k15 fun _ _ _ _ _ _ us hl => match us, hl with | [_], _ => rfl
  have F16 := fun_mk (st := sGreat) l16 c16 k16
  have b16 := F16.binds (ps := ["deck", "many"]) fun _ _ _ _ _ _ us hl => match us, hl with | [_, _], _ => rfl
  have g16 := PySem.W.mg_of X G a16
  have D17 : Df K mg "_law_is_wide" sWide ["deck"] := df_mk X G a17 l17 c17 k17 fun _ _ _ _ _ _ us hl => match us, hl with | [_], _ => rfl
  have B : Bi mg := ⟨PySem.W.mg_none_of X G z1, PySem.W.mg_none_of X G z2, PySem.W.mg_none_of X G z3, PySem.W.mg_none_of X G z4, PySem.W.mg_none_of X G z5, PySem.W.mg_none_of X G z6, PySem.W.mg_none_of X G z7, PySem.W.mg_none_of X G z8, PySem.W.mg_none_of X G z9, PySem.W.mg_none_of X G z10, PySem.W.mg_none_of X G z11, PySem.W.mg_none_of X G z12, PySem.W.mg_of X G zc⟩
  refine ⟨PySem.W.fnOf "law" "law" (defArgs sLaw) (defBody sLaw) (defScope sLaw) .none kV18 dc18 pm18 an18 cd18 ct18, fun s v => .of_eq rfl, fun base _ _ => ?_⟩
  have hM : ∃ t, mg "MAX_TABLE" = some (.int 6 t) := ⟨_, PySem.W.mg_of X G m⟩
  have TU : Unf K mg C := ⟨x1, PySem.W.mg_of X G e1, x2, x3, x4⟩
  have TE : ExcC K C := ⟨y1, y2, x3, y3, y4, y5, y6, y7⟩
  have TD : PySem.W.DCls K T := ⟨t2, t3, u2, u4, u7, y5, y6, u8⟩
  have TT : PySem.TooX.TooTxt K mg T fI :=
    { gC := PySem.W.mg_of X G e3, cls := ⟨nm, q, N, bs, bm, sn, sub, ab, col, dd, m0, m1, m2, m3, m5, tL, tb⟩, sa := t1, ga := t2, gg := t3, noN := t4, iC := t5, tC := t6, kC := u1, exC := u2, tyC := u3, hdC := u4, te := PySem.W.exm_ref u2 u4 u3 u5,
      fn := ⟨_, _, _, _, _, _, _, _, _, _, _, _, _, _, t7, t8⟩ }
  have gR := PySem.W.mg_of X G e2
  have od := o_draw (P := l.prog) (w := w) (base := base) D7 B
  have ok := o_deck (P := l.prog) (w := w) (base := base) D6 B
  have op := o_pick D8 B od
  have om := o_mixed D9 B od
  have oc := o_chosen (P := l.prog) (w := w) (base := base) D10 B
  have ol := o_lLots (P := l.prog) (w := w) (base := base) D11 B
  have on := o_lNum D12 B oc
  have G1 := f_lotsOf (P := l.prog) (w := w) (base := base) F1 B
  have G3 := f_lotNum (P := l.prog) (w := w) (base := base) F3 B
  have o1 : Ok l.prog w K mg base 1 "lots_of" ["n", "size"] spLots := ⟨_, _, G1, F1.kp, g1, b1⟩
  have o3 : Ok l.prog w K mg base 1 "lot_number" ["n", "lot"] spNum := ⟨_, _, G3, F3.kp, g3, b3⟩
  have oz := o_ofSize (P := l.prog) (w := w) (base := base) D5 B
  have oa := o_lAll D13 B TT TD gR u6 ⟨_, _, f_allLots F2 B TT hM o1, F2.kp, g2, b2, n2⟩
  have ot := o_lAt D14 B TU TE (PySem.W.exm_ref x3 y3 x4 y8) gR y9 ⟨_, _, f_lotAt F4 B TU oz, F4.kp, g4, b4, n4⟩
  have Fs : Fns l.prog w K mg base := ⟨od, o1, o3, oc, ol, op, om, on, oa, ot⟩
  have og : OkG l.prog w K mg base 4 "_law_is_great" ["deck", "many"] spGreat := ⟨_, _, f_great F16 B od op om on ot G3 F3.kp g3 b3 n3, F16.kp, g16, b16⟩
  exact ok_law (fun_mk (st := sLaw) l18 c18 k18) B ⟨Fs, ok, o_wide D17 B Fs, o_small D15 B Fs, og, ⟨_, _, G1, F1.kp, g1, b1, n1⟩⟩
end Kr
open PySem PySem.W PyProof.Rows
set_option maxHeartbeats 0 in
theorem PySem.Challenge.cw_keyriders_k02_whole_lots_and_their_numbe_holds : PySem.Challenge.rw_keyriders_k02_whole_lots_and_their_numbe.Holds := by
  w_on; o_law; k_head; (case hw => w_witness2)
  k_fill
  refine Kr.walkG (l := PySem.Challenge.rw_keyriders_k02_whole_lots_and_their_numbe) (n := 63) (k := 5) (x := "script") (sp := Kr.spLaw) rfl (by decide) rfl ⟨rfl, by decide, by decide⟩ (fun w h Y => PySem.W.kIn_of Y) ?F (fun _ _ a ns hl _ hS => ⟨a, ns, rfl, hS, hl, fun _ => rfl⟩)
  case F =>
    intro w mg fa h KX G hmg
    refine' Kr.all_mk KX G hmg ?a1 ?l1 ?c1 ?k1 ?a2 ?l2 ?c2 ?k2 ?a3 ?l3 ?c3 ?k3 ?a4 ?l4 ?c4 ?k4 ?a5 ?l5 ?c5 ?k5 ?a6 ?l6 ?c6 ?k6 ?a7 ?l7 ?c7 ?k7 ?a8 ?l8 ?c8 ?k8 ?a9 ?l9 ?c9 ?k9 ?a10 ?l10 ?c10 ?k10 ?a11 ?l11 ?c11 ?k11 ?a12 ?l12 ?c12 ?k12 ?a13 ?l13 ?c13 ?k13 ?a14 ?l14 ?c14 ?k14 ?a15 ?l15 ?c15 ?k15 ?a16 ?l16 ?c16 ?k16 ?a17 ?l17 ?c17 ?k17 ?a18 ?l18 ?c18 ?k18 ?z1 ?z2 ?z3 ?z4 ?z5 ?z6 ?z7 ?z8 ?z9 ?z10 ?z11 ?z12 ?zc ?m ?e1 ?e2 ?e3 ?x1 ?x2 ?x3 ?x4 ?y1 ?y2 ?y3 ?y4 ?y5 ?y6 ?y7 ?y8 ?y9 ?tL ?tb ?t1 ?t2 ?t3 ?t4 ?t5 ?t6 ?t7 ?t8 ?u1 ?u2 ?u3 ?u4 ?u5 ?u6 ?u7 ?u8
    (case a1 => k_is); (case l1 => k_is); (case c1 => k_is); (case k1 => k_is); (case a2 => k_is); (case l2 => k_is); (case c2 => k_is); (case k2 => k_is); (case a3 => k_is); (case l3 => k_is); (case c3 => k_is); (case k3 => k_is); (case a4 => k_is); (case l4 => k_is); (case c4 => k_is); (case k4 => k_is); (case a5 => k_is); (case l5 => k_is); (case c5 => k_is); (case k5 => k_is); (case a6 => k_is); (case l6 => k_is); (case c6 => k_is); (case k6 => k_is); (case a7 => k_is); (case l7 => k_is); (case c7 => k_is); (case k7 => k_is); (case a8 => k_is); (case l8 => k_is); (case c8 => k_is); (case k8 => k_is); (case a9 => k_is); (case l9 => k_is); (case c9 => k_is); (case k9 => k_is); (case a10 => k_is); (case l10 => k_is); (case c10 => k_is); (case k10 => k_is); (case a11 => k_is); (case l11 => k_is); (case c11 => k_is); (case k11 => k_is); (case a12 => k_is); (case l12 => k_is); (case c12 => k_is); (case k12 => k_is); (case a13 => k_is); (case l13 => k_is); (case c13 => k_is); (case k13 => k_is); (case a14 => k_is); (case l14 => k_is); (case c14 => k_is); (case k14 => k_is); (case a15 => k_is); (case l15 => k_is); (case c15 => k_is); (case k15 => k_is); (case a16 => k_is); (case l16 => k_is); (case c16 => k_is); (case k16 => k_is); (case a17 => k_is); (case l17 => k_is); (case c17 => k_is); (case k17 => k_is); (case a18 => k_is); (case l18 => k_is); (case c18 => k_is); (case k18 => k_is); (case z1 => k_is); (case z2 => k_is); (case z3 => k_is); (case z4 => k_is); (case z5 => k_is); (case z6 => k_is); (case z7 => k_is); (case z8 => k_is); (case z9 => k_is); (case z10 => k_is); (case z11 => k_is); (case z12 => k_is); (case zc => k_is); (case m => k_is); (case e1 => k_is); (case e2 => k_is); (case e3 => k_is); (case x1 => k_exc); (case x2 => k_is); (case x3 => k_is); (case x4 => k_is); (case y1 => k_is); (case y2 => k_is); (case y3 => k_is); (case y4 => k_is); (case y5 => k_is); (case y6 => k_is); (case y7 => k_is); (case y8 => k_is); (case y9 => kit_is); (case tL => k_is); (case tb => rfl); (case t1 => k_is); (case t2 => k_is); (case t3 => k_is); (case t4 => k_is); (case t5 => k_is); (case t6 => k_is); (case t7 => k_is); (case t8 => k_is); (case u1 => k_is); (case u2 => k_is); (case u3 => k_is); (case u4 => k_is); (case u5 => k_is); (case u6 => kit_is); (case u7 => k_is); (case u8 => k_is)
